import PyProof.Rows.All
import Wide.All
import OpenK.AllK
import Wide.FinOn
import Lean
import PyProof.EqAt
import PyProof.EqKinds
import PyProof.TupleCall
import PySem.Challenge.RW_tautcord_k83_no_cords
set_option Elab.async false
set_option linter.all false
set_option maxRecDepth 100000
namespace L2
open PySem PySem.Spec PyProof.Rows

noncomputable abbrev Key := Sum Int Str
noncomputable def keyIs : Key → Value → Bool
  | .inl k, v => Value.isInt k v
  | .inr x, v => Value.isStrOf x v
noncomputable def keyH (w : World) : Key → Int
  | .inl k => hashInt k
  | .inr x => hashStr w x
theorem keyIs_shape : ∀ {k : Key} {v : Value}, keyIs k v = true → (∃ i t, k = Sum.inl i ∧ v = Value.int i t) ∨ (∃ x t, k = Sum.inr x ∧ v = Value.str x t)
  | .inl i, v, h => by
    obtain ⟨t, e⟩ := Value.isInt_shape (k := i) (v := v) h
    exact .inl ⟨i, t, rfl, e⟩
  | .inr x, v, h => by
    obtain ⟨t, e⟩ := Value.isStrOf_shape (x := x) (v := v) h
    exact .inr ⟨x, t, rfl, e⟩
theorem key_ll (a b : Int) : decide ((Sum.inl a : Key) = Sum.inl b) = (a == b) := by
  by_cases e : a = b
  · subst e; simp
  · have h : ¬ (Sum.inl a : Key) = Sum.inl b := fun q => e (Sum.inl.inj q)
    rw [decide_eq_false h]
    exact (beq_eq_false_iff_ne.mpr e).symm
theorem key_rr (a b : Str) : decide ((Sum.inr a : Key) = Sum.inr b) = decide (a = b) := by
  by_cases e : a = b
  · subst e; simp
  · have h : ¬ (Sum.inr a : Key) = Sum.inr b := fun q => e (Sum.inr.inj q)
    rw [decide_eq_false h, decide_eq_false e]
theorem key_lr (a : Int) (b : Str) : decide ((Sum.inl a : Key) = Sum.inr b) = false := decide_eq_false (fun q => nomatch q)
theorem key_rl (a : Str) (b : Int) : decide ((Sum.inr a : Key) = Sum.inl b) = false := decide_eq_false (fun q => nomatch q)

noncomputable def mixKind (prog : Program) (w : World) : PySem.KeyKind prog w Key where
  is := keyIs
  hash := keyH w
  inj := fun v a b ha hb => by
    rcases keyIs_shape ha with ⟨i, t, rfl, rfl⟩ | ⟨x, t, rfl, rfl⟩
    · rcases keyIs_shape hb with ⟨j, u, rfl, e⟩ | ⟨y, u, rfl, e⟩
      · injection e with e1 _; rw [e1]
      · exact nomatch e
    · rcases keyIs_shape hb with ⟨j, u, rfl, e⟩ | ⟨y, u, rfl, e⟩
      · exact nomatch e
      · injection e with e1 _; rw [e1]
  byValue := fun k v h => by
    rcases keyIs_shape h with ⟨i, t, rfl, rfl⟩ | ⟨x, t, rfl, rfl⟩ <;> rfl
  pyHash := fun hv h => by
    rcases keyIs_shape hv with ⟨i, t, rfl, rfl⟩ | ⟨x, t, rfl, rfl⟩
    · exact wpAny_pyHash_int h
    · exact wpAny_pyHash_str h
  eqBool := fun hu hv h => by
    rcases keyIs_shape hu with ⟨i, t, rfl, rfl⟩ | ⟨x, t, rfl, rfl⟩
    · rcases keyIs_shape hv with ⟨j, u, rfl, rfl⟩ | ⟨y, u, rfl, rfl⟩
      · rw [key_ll] at h; exact wpAny_eqBool_int h
      · rw [key_lr] at h; exact SeqAt.EqAt.int_str i t y u _ _ _ _ h
    · rcases keyIs_shape hv with ⟨j, u, rfl, rfl⟩ | ⟨y, u, rfl, rfl⟩
      · rw [key_rl] at h; exact SeqAt.EqAt.str_int x t j u _ _ _ _ h
      · rw [key_rr] at h; exact wpAny_eqBool_str h
  «strs» := fun k x t v h => by
    rcases keyIs_shape h with ⟨i, u, rfl, e⟩ | ⟨y, u, rfl, e⟩
    · exact nomatch e
    · injection e with e1 _
      subst e1
      cases v <;> rfl

end L2

namespace L2
open PySem PySem.Spec PyProof.Rows

inductive V where
  | non | bl (b : Bool) | int (i : Int) | str (x : Str) | byt (b : Array UInt8) | flt (b : UInt64) | ref (a : Addr) | ty (n : String)
  deriving DecidableEq

noncomputable def RelV : V → Value → Prop
  | .non, u => u = Value.none
  | .bl b, u => u = Value.bool b
  | .int i, u => ∃ t, u = Value.int i t
  | .str x, u => ∃ t, u = Value.str x t
  | .byt b, u => ∃ t, u = Value.bytes b t
  | .flt b, u => ∃ t, u = Value.float b t
  | .ref a, u => u = Value.ref a
  | .ty n, u => u = Value.type n

noncomputable abbrev Vals : List V → List Value → Prop := Paired RelV
theorem Vals.length {xs : List V} {us : List Value} (r : Vals xs us) : xs.length = us.length := Paired.length r
theorem Vals.get : ∀ {xs : List V} {us : List Value} {i : Nat} {x : V}, Vals xs us → xs[i]? = some x → ∃ u, us[i]? = some u ∧ RelV x u
  | _, _, _, _, .nil, e => by simp at e
  | _, _, 0, _, .cons r _, e => by simp at e; subst e; exact ⟨_, rfl, r⟩
  | _, _, i + 1, x, .cons _ t, e => by
    obtain ⟨u, h1, h2⟩ := Vals.get (i := i) (x := x) t (by simpa using e)
    exact ⟨u, by simpa using h1, h2⟩
theorem Vals.set {x : V} {u : Value} (r : RelV x u) : ∀ {xs : List V} {us : List Value} (i : Nat), Vals xs us → Vals (xs.set i x) (us.set i u)
  | _, _, _, .nil => .nil
  | _, _, 0, .cons _ t => .cons r t
  | _, _, i + 1, .cons q t => .cons q (Vals.set r i t)
theorem Vals.append : ∀ {xs ys : List V} {us ws : List Value}, Vals xs us → Vals ys ws → Vals (xs ++ ys) (us ++ ws)
  | _, _, _, _, .nil, s => s
  | _, _, _, _, .cons r t, s => .cons r (Vals.append t s)
theorem Vals.take : ∀ {xs : List V} {us : List Value} (n : Nat), Vals xs us → Vals (xs.take n) (us.take n)
  | _, _, 0, _ => .nil
  | _, _, _ + 1, .nil => .nil
  | _, _, n + 1, .cons r t => .cons r (Vals.take n t)
theorem Vals.drop : ∀ {xs : List V} {us : List Value} (n : Nat), Vals xs us → Vals (xs.drop n) (us.drop n)
  | _, _, 0, r => r
  | _, _, _ + 1, .nil => .nil
  | _, _, n + 1, .cons _ t => Vals.drop n t

noncomputable def RelO : Option V → Option Value → Prop
  | some v, some u => RelV v u
  | none, none => True
  | _, _ => False
noncomputable def KV {κ : Type} : List (κ × V) → List (κ × Value) → Prop := Paired fun (p : κ × V) (q : κ × Value) => p.1 = q.1 ∧ RelV p.2 q.2

noncomputable def kV : Key → V
  | .inl i => .int i
  | .inr x => .str x

inductive HO where
  | lst (xs : List V)
  | tup (xs : List V)
  | dK (kvs : List (Key × V)) | dT (kvs : List (List Key × V))
  | set (S : Int → Bool) (n : Nat)
  | ins (C dx : Addr) (fs : List (Str × V))
  | own (x : Addr)
  | xd (fs : List (Str × V))
  | met (f x : Addr)
  | rng (lo hi : Int)
  | frz (o : Obj) (u : HO)
  | tbl (ps : Array Value)
  | ext (φ : Heap → Prop)

noncomputable abbrev Hp := Addr → Option HO
noncomputable def upd (H : Hp) (a : Addr) (o : HO) : Hp := fun b => if b = a then some o else H b
theorem upd_same {H : Hp} {a : Addr} {o : HO} : upd H a o a = some o := by unfold upd; rw [if_pos rfl]
theorem upd_ne {H : Hp} {a b : Addr} {o : HO} (h : b ≠ a) : upd H a o b = H b := by unfold upd; rw [if_neg h]
theorem ne_of {H : Hp} {a b : Addr} {o u : HO} (h : H a = some o) (h' : H b = some u) (d : o ≠ u) : a ≠ b := by
  intro e; subst e; rw [h] at h'; exact d (Option.some.inj h')
theorem ne_of_none {H : Hp} {a b : Addr} {o : HO} (h : H a = some o) (h' : H b = none) : a ≠ b := by
  intro e; subst e; rw [h] at h'; cases h'

section
variable (P : Program) (w : World)
noncomputable def ObjOk (H : Hp) (h : Heap) (a : Addr) : HO → Prop
  | .lst xs => xs.length ≤ sizeLine ∧ ∃ (its : List Value) (n : Nat), Vals xs its ∧ h.get? a = some { cls := .type "list", data := .seq its.toArray n }
  | .tup xs => xs.length ≤ sizeLine ∧ ∃ its : List Value, Vals xs its ∧ IsTup h a its.toArray
  | .dK kvs => kvs.length ≤ sizeLine ∧ (a == sysModules) = false ∧ ∃ vs, KV kvs vs ∧ h.DictOf (mixKind P w) a vs
  | .dT kvs => kvs.length ≤ sizeLine ∧ (a == sysModules) = false ∧ ∃ xs : List (List Key × Addr × Value),
      Paired (fun (p : List Key × V) (q : List Key × Addr × Value) => p.1 = q.1 ∧ H q.2.1 = some (.tup (p.1.map kV)) ∧ RelV p.2 q.2.2) kvs xs ∧
      ∃ o es ep, h.get? a = some o ∧ o.ExactDict ∧ o.data = .dict es ep ∧ es.toList = xs.map (entryOfKey (tupleKind (mixKind P w))) ∧ (xs.map (·.1)).Nodup
  | .set S n => h.SetOf (intKind P w) a S n
  | .ins C dx fs => H dx = some (.own a) ∧ fs.length ≤ 1000 ∧ dx ≠ a ∧ h.get? a = some (PySem.W.instObj C dx) ∧
      ∃ mA, h.Ns1 dx mA ∧ (∀ f, RelO (fs.lookup f) (mA f)) ∧ PySem.Within mA (fs.map (·.1))
  | .own _ => ∃ o, h.get? a = some o
  | .xd fs => ∃ mA, h.Ns1 a mA ∧ ∀ f, RelO (fs.lookup f) (mA f)
  | .rng lo hi => ∃ t u v, h.get? a = some { cls := .type "range", data := .fields #[.int lo t, .int hi u, .int 1 v] }
  | .frz o u => h.get? a = some o ∧ ObjOk H h a u
  | .tbl ps => h.get? a = some { cls := .none, data := .fields ps }
  | .met f x => h.get? a = some (PySem.W.methodObj (.ref f) (.ref x))
  | .ext φ => φ h ∧ (∃ o, h.get? a = some o) ∧ ∀ h1 h2 : Heap, φ h1 → (∀ o, h1.get? a = some o → h2.get? a = some o) → φ h2
noncomputable def HOk (H : Hp) (h : Heap) : Prop := ∀ a o, H a = some o → ObjOk P w H h a o
end

section
variable {P : Program} {w : World} {H H' : Hp} {h h' : Heap} {a : Addr} {o : HO}
theorem ObjOk.lt (x : ObjOk P w H h a o) : a < h.objs.size := by
  cases o with
  | lst xs => obtain ⟨_, _, _, _, e⟩ := x; exact Heap.lt_size e
  | tup xs => obtain ⟨_, _, _, p⟩ := x; exact p.lt
  | dK kvs => obtain ⟨_, _, _, _, o, _, _, e, _⟩ := x; exact Heap.lt_size e
  | dT kvs => obtain ⟨_, _, _, _, o, _, _, e, _⟩ := x; exact Heap.lt_size e
  | set S n => obtain ⟨o, _, _, _, e, _⟩ := x; exact Heap.lt_size e
  | ins C dx fs => obtain ⟨_, _, _, e, _⟩ := x; exact Heap.lt_size e
  | own y => obtain ⟨_, e⟩ := x; exact Heap.lt_size e
  | xd fs => obtain ⟨_, ⟨_, _, _, e, _⟩, _⟩ := x; exact Heap.lt_size e
  | rng lo hi => obtain ⟨_, _, _, e⟩ := x; exact Heap.lt_size e
  | frz ob u => obtain ⟨e, _⟩ := x; exact Heap.lt_size e
  | tbl ps => exact Heap.lt_size (show h.get? a = some _ from x)
  | met f y => exact Heap.lt_size (show h.get? a = some _ from x)
  | ext φ => obtain ⟨_, ⟨_, e⟩, _⟩ := x; exact Heap.lt_size e
theorem Paired.mapP {α β : Type} {F G : α → β → Prop} : ∀ {l₁ : List α} {l₂ : List β}, Paired F l₁ l₂ → (∀ a b, F a b → G a b) → Paired G l₁ l₂
  | _, _, .nil, _ => .nil
  | _, _, .cons r t, f => .cons (f _ _ r) (Paired.mapP t f)
theorem Paired.imp' {α β : Type} {F G : α → β → Prop} (f : ∀ a b, F a b → G a b) {l₁ : List α} {l₂ : List β} (r : Paired F l₁ l₂) : Paired G l₁ l₂ := Paired.mapP r f
theorem ObjOk.stay (x : ObjOk P w H h a o) (k : ∀ b u, (b = a ∨ H b = some (.own a)) → h.get? b = some u → h'.get? b = some u)
    (ho : ∀ b, H b = some (.own a) → H' b = some (.own a)) (ht : ∀ b xs, H b = some (.tup xs) → H' b = some (.tup xs)) : ObjOk P w H' h' a o := by
  induction o with
  | lst xs => obtain ⟨z, its, n, r, e⟩ := x; exact ⟨z, its, n, r, k _ _ (.inl rfl) e⟩
  | tup xs => obtain ⟨z, its, r, ob, e, c⟩ := x; exact ⟨z, its, r, ob, k _ _ (.inl rfl) e, c⟩
  | dK kvs => obtain ⟨z, y, vs, r, ob, es, ep, e, c⟩ := x; exact ⟨z, y, vs, r, ob, es, ep, k _ _ (.inl rfl) e, c⟩
  | dT kvs =>
    obtain ⟨z, y, xs, r, ob, es, ep, e, c⟩ := x
    exact ⟨z, y, xs, Paired.mapP r fun p q z => ⟨z.1, ht _ _ z.2.1, z.2.2⟩, ob, es, ep, k _ _ (.inl rfl) e, c⟩
  | set S n => obtain ⟨ob, es, ep, t, e, c⟩ := x; exact ⟨ob, es, ep, t, k _ _ (.inl rfl) e, c⟩
  | ins C dx fs =>
    obtain ⟨d, z, ne, e, mA, ⟨od, es, ep, e2, c⟩, r⟩ := x
    exact ⟨ho _ d, z, ne, k _ _ (.inl rfl) e, mA, ⟨od, es, ep, k _ _ (.inr d) e2, c⟩, r⟩
  | own y => obtain ⟨ob, e⟩ := x; exact ⟨ob, k _ _ (.inl rfl) e⟩
  | xd fs => obtain ⟨mA, ⟨od, es, ep, e, c⟩, r⟩ := x; exact ⟨mA, ⟨od, es, ep, k _ _ (.inl rfl) e, c⟩, r⟩
  | rng lo hi => obtain ⟨t, u, v, e⟩ := x; exact ⟨t, u, v, k _ _ (.inl rfl) e⟩
  | frz ob u ih => obtain ⟨e, q⟩ := x; exact ⟨k _ _ (.inl rfl) e, ih q⟩
  | tbl ps =>
    have e : h.get? a = some { cls := .none, data := .fields ps } := x
    show h'.get? a = some { cls := .none, data := .fields ps }
    exact k a _ (.inl rfl) e
  | met f y =>
    have e : h.get? a = some (PySem.W.methodObj (.ref f) (.ref y)) := x
    show h'.get? a = some (PySem.W.methodObj (.ref f) (.ref y))
    exact k a _ (.inl rfl) e
  | ext φ => obtain ⟨p, ⟨o, e⟩, st⟩ := x; exact ⟨st _ _ p fun o q => k _ _ (.inl rfl) q, ⟨o, k _ _ (.inl rfl) e⟩, st⟩
theorem HOk.lt (x : HOk P w H h) (e : H a = some o) : a < h.objs.size := (x a o e).lt
theorem HOk.fresh (x : HOk P w H h) (e : h.objs.size ≤ a) : H a = none := by
  cases q : H a with
  | none => rfl
  | some u => exact absurd (Nat.lt_of_lt_of_le (x.lt q) e) (Nat.lt_irrefl _)
theorem HOk.kept (x : HOk P w H h) (k : ∀ b u, h.get? b = some u → h'.get? b = some u) : HOk P w H h' := fun a o e =>
  (x a o e).stay (fun b u _ q => k b u q) (fun _ q => q) fun _ _ q => q
theorem HOk.laid (x : HOk P w H h) (k : ∀ b u, h.get? b = some u → h'.get? b = some u) (hp : h.objs.size ≤ a) (new : ObjOk P w (upd H a o) h' a o) : HOk P w (upd H a o) h' := fun b u e => by
  have hn := x.fresh hp
  by_cases hb : b = a
  · subst hb; rw [upd_same] at e; cases e; exact new
  · rw [upd_ne hb] at e
    exact (x b u e).stay (fun c v _ q => k c v q) (fun c q => by rw [upd_ne (ne_of_none q hn)]; exact q) fun c xs q => by rw [upd_ne (ne_of_none q hn)]; exact q
end

noncomputable def Rd (H : Hp) (a : Addr) (u : HO) : Prop := H a = some u ∨ ∃ o, H a = some (.frz o u)
theorem Rd.ok {P : Program} {w : World} {H : Hp} {h : Heap} {a : Addr} {u : HO} (r : Rd H a u) (x : HOk P w H h) : ObjOk P w H h a u := by
  rcases r with r | ⟨o, r⟩
  · exact x a u r
  · obtain ⟨_, q⟩ := x a _ r
    exact q
noncomputable def Mut : Option HO → Prop
  | some (.lst _) => True
  | some (.dK _) => True
  | some (.dT _) => True
  | some (.set _ _) => True
  | some (.ins _ _ _) => True
  | some (.ext _) => True
  | _ => False
section
variable {P : Program} {w : World} {H : Hp} {h h' : Heap} {x e : Addr} {o' : HO}
theorem HOk.write (ok : HOk P w H h) (mu : Mut (H x)) (he : e = x ∨ H e = some (.own x)) (k : ∀ b u, b ≠ e → h.get? b = some u → h'.get? b = some u) (heo : ∃ u, h'.get? e = some u)
    (new : ObjOk P w (upd H x o') h' x o') : HOk P w (upd H x o') h' := fun b u q => by
  have nown : ∀ c y, H c = some (.own y) → c ≠ x := fun c y r z => by subst z; rw [r] at mu; exact mu
  have ntup : ∀ c xs, H c = some (.tup xs) → c ≠ x := fun c xs r z => by subst z; rw [r] at mu; exact mu
  by_cases hb : b = x
  · subst hb; rw [upd_same] at q; cases q; exact new
  · rw [upd_ne hb] at q
    by_cases hbe : b = e
    · have q' : H b = some (.own x) := by
        rcases he with z | z
        · exact absurd (hbe.trans z) hb
        · rw [hbe]; exact z
      rw [q] at q'; cases q'
      obtain ⟨v, hv⟩ := heo
      exact ⟨v, by rw [hbe]; exact hv⟩
    · refine (ok b u q).stay (fun c v hc r => k c v ?_ r) (fun c r => by rw [upd_ne (nown c b r)]; exact r) fun c xs r => by rw [upd_ne (ntup c xs r)]; exact r
      rcases hc with rfl | hc
      · exact hbe
      · rintro rfl
        rcases he with z | z
        · exact nown c b hc z
        · rw [hc] at z; cases z; exact hb rfl
end

structure Un (fs ex : List Addr) (H H' : Hp) (h h' : Heap) : Prop where
  keep : ∀ b o, h.get? b = some o → H b = none → b ∉ fs → b ∉ ex → h'.get? b = some o
  slot : ∀ b o, h.get? b = some o → H b = none → b ∈ fs → b ∉ ex → ∃ sl, h'.get? b = some { o with slots := sl }
  free : ∀ b o, h.get? b = some o → H b = none → b ∉ ex → H' b = none
  there : ∀ b o, h.get? b = some o → b ∉ ex → ∃ o', h'.get? b = some o'
  tups : ∀ b xs, H b = some (.tup xs) → H' b = some (.tup xs)
  frzs : ∀ b o u, H b = some (.frz o u) → H' b = some (.frz o u)
  tbls : ∀ b ps, H b = some (.tbl ps) → ∃ more, H' b = some (.tbl (ps ++ more))
section
variable {fs fs' ex ex' : List Addr} {H H1 H2 : Hp} {h h1 h2 h' : Heap} {a x e : Addr} {o : HO}
theorem Un.any (u : Un fs ex H H1 h h1) {b : Addr} {ob : Obj} (q : h.get? b = some ob) (n : H b = none) (hx : b ∉ ex) : ∃ sl, h1.get? b = some { ob with slots := sl } := by
  by_cases hb : b ∈ fs
  · exact u.slot b ob q n hb hx
  · exact ⟨ob.slots, u.keep b ob q n hb hx⟩
theorem Un.kept (k : ∀ b u, h.get? b = some u → h'.get? b = some u) : Un fs ex H H h h' :=
  ⟨fun b ob q _ _ _ => k b ob q, fun b ob q _ _ _ => ⟨ob.slots, k b ob q⟩, fun _ _ _ n _ => n, fun b ob q _ => ⟨ob, k b ob q⟩, fun _ _ q => q, fun _ _ _ q => q, fun _ ps q => ⟨#[], by rw [q]; simp⟩⟩
theorem Un.refl : Un fs ex H H h h := Un.kept fun _ _ q => q
theorem Un.laid (k : ∀ b u, h.get? b = some u → h'.get? b = some u) (hp : h.objs.size ≤ a) (hn : H a = none) : Un fs ex H (upd H a o) h h' where
  keep := fun b u q _ _ _ => k b u q
  slot := fun b u q _ _ _ => ⟨u.slots, k b u q⟩
  free := fun b u q n _ => by rw [upd_ne (Nat.ne_of_lt (Nat.lt_of_lt_of_le (Heap.lt_size q) hp))]; exact n
  there := fun b u q _ => ⟨u, k b u q⟩
  tups := fun b xs q => by rw [upd_ne (ne_of_none q hn)]; exact q
  frzs := fun b u xs q => by rw [upd_ne (ne_of_none q hn)]; exact q
  tbls := fun b ps q => ⟨#[], by rw [upd_ne (ne_of_none q hn), q]; simp⟩
theorem Un.write (mu : Mut (H x)) (he : e = x ∨ H e = some (.own x)) (k : ∀ b u, b ≠ e → h.get? b = some u → h'.get? b = some u) (heo : ∃ u, h'.get? e = some u) : Un fs ex H (upd H x o) h h' := by
  have hx : ∀ b, H b = none → b ≠ x := fun b n z => by subst z; rw [n] at mu; exact mu
  have hb : ∀ b, H b = none → b ≠ e := fun b n z => by
    subst z
    rcases he with r | r
    · exact hx b n r
    · rw [n] at r; cases r
  have hm : ∀ b u, H b = some u → ¬ Mut (some u) → b ≠ x := fun b u q nm z => by subst z; rw [q] at mu; exact nm mu
  refine ⟨fun b u q n _ _ => k b u (hb b n) q, fun b u q n _ _ => ⟨u.slots, k b u (hb b n) q⟩, fun b u q n _ => by rw [upd_ne (hx b n)]; exact n, fun b u q _ => ?_,
    fun b xs q => by rw [upd_ne (hm b _ q fun z => z)]; exact q, fun b u xs q => by rw [upd_ne (hm b _ q fun z => z)]; exact q, fun b ps q => ⟨#[], by rw [upd_ne (hm b _ q fun z => z), q]; simp⟩⟩
  by_cases hbe : b = e
  · subst hbe; exact heo
  · exact ⟨u, k b u hbe q⟩
theorem Un.mono (u : Un fs ex H H1 h h1) (hs : ∀ b ∈ fs, b ∈ fs') (hx : ∀ b ∈ ex, b ∈ ex') : Un fs' ex' H H1 h h1 :=
  ⟨fun b ob q n hb he => u.keep b ob q n (fun z => hb (hs b z)) fun z => he (hx b z), fun _ _ q n _ he => u.any q n fun z => he (hx _ z), fun b ob q n he => u.free b ob q n fun z => he (hx b z), fun b ob q he => u.there b ob q fun z => he (hx b z), u.tups, u.frzs, u.tbls⟩
end

noncomputable def trk (h : Heap) (H : Hp) : List Addr := (List.range h.objs.size).filter fun a => (H a).isSome
noncomputable def hidT (h : Heap) (H : Hp) : Heap := PySem.W.hideAll h (trk h H)
theorem hidT_size (h : Heap) (H : Hp) : (hidT h H).objs.size = h.objs.size := PySem.W.hideAll_size _ _
theorem hidT_get {h : Heap} {H : Hp} {b : Addr} {o : Obj} (e : h.get? b = some o) (n : H b = none) : (hidT h H).get? b = some o :=
  PySem.W.hideAll_get _ e fun hm => by
    have q : (H b).isSome = true := (List.mem_filter.mp hm).2
    rw [n] at q; simp at q
theorem of_hidT {h : Heap} {H : Hp} {b : Addr} {o : Obj} (e : (hidT h H).get? b = some o) : h.get? b = some o ∧ H b = none := by
  have e' : h.get? b = some o := PySem.W.of_hideAll (trk h H) e
  refine ⟨e', ?_⟩
  cases q : H b with
  | none => rfl
  | some x =>
    have hm : b ∈ trk h H := List.mem_filter.mpr ⟨List.mem_range.mpr (Heap.lt_size e'), by simp [q]⟩
    have z : (hidT h H).get? b = none := PySem.W.hideAll_none (trk h H) hm
    rw [z] at e; cases e

noncomputable def allNews (g h : Heap) (L : Addr) : List (Addr × Obj) := (List.range h.objs.size).filterMap fun a => if a = L ∨ (g.get? a).isSome = true then none else (h.get? a).map fun o => (a, o)
noncomputable def rest (g h : Heap) (L d : Addr) : List (Addr × Obj) := (allNews g h L).filter fun p => decide (p.1 ≠ d)
end L2

namespace L2
open PySem PySem.Spec PyProof.Rows

structure Mod (K : PySem.W.Frag) (mg : Str → Option Value) (base : Heap) : Prop where
  kin : K.In base
  glob : base.Ns mainGlobals mg
  blt : ∃ mb, base.Ns builtinsNs mb ∧ ∀ x : Str, x ≠ "__name__" → mb x = bootBuiltins x
  nolimit : base.NoLimit

structure Cx where
  prog : Program
  w : World
  K : PySem.W.Frag
  mg : Str → Option Value
  base : Heap
  A : Around
  N : List Str
  s₀ : Shared
  H₀ : Hp
  env : Env
  outer : List Env
  stack : List Env
  ex : List Addr
  fn : Str → Bool
  calm : Bool
  pn : List (Addr × Obj)
  xe : Value → Shared → Prop
noncomputable def frs (l : List Env) : List Addr := l.filterMap (·.frame)
noncomputable abbrev Cx.fs (X : Cx) : List Addr := frs X.outer

noncomputable def Vis (sc : Scope) (x : Str) : Prop := sc.names.lookup x = some .local ∨ sc.names.lookup x = some .cell ∨ sc.names.lookup x = some .free
noncomputable def Loc (sc : Scope) (x : Str) : Prop := sc.names.lookup x = some .local ∨ sc.names.lookup x = some .cell
noncomputable def Look (env : Env) (h : Heap) (m : Str → Option Value) (x : Str) (u : Value) : Prop :=
  (env.kindOf x = some .local ∧ m x = some u) ∨ ((env.kindOf x = some .cell ∨ env.kindOf x = some .free) ∧ ∃ c, env.cells.lookup x = some c ∧ h.IsCell c (some u))

structure Cx.Ok (X : Cx) : Prop where
  mod : Mod X.K X.mg X.base
  kind : X.env.scope.kind = .function
  glob : X.env.globals = mainGlobals
  blt : X.env.builtins = builtinsNs
  above : X.s₀.heap.objs.size ≤ X.env.locals
  inj : ∀ x y c, X.env.cells.lookup x = some c → X.env.cells.lookup y = some c → x = y
  has : ∀ x, (X.env.kindOf x = some .cell ∨ X.env.kindOf x = some .free) → ∃ c, X.env.cells.lookup x = some c
  cab : ∀ x c, X.fn x = true → X.env.cells.lookup x = some c → X.s₀.heap.objs.size ≤ c
  hd : X.calm = true → X.A.handled = none
  frames : X.A.frames = some X.stack
  stk : X.stack = X.outer ∨ (X.stack = X.env :: X.outer ∧ X.env.frame = some X.env.locals)
  exf : ∀ b ∈ X.ex, b ≠ X.env.locals ∧ ∀ x c, X.env.cells.lookup x = some c → c ≠ b
  bs : ∀ b o, X.base.get? b = some o → X.s₀.heap.get? b = some o ∧ X.H₀ b = none
  bsz : X.base.objs.size ≤ X.s₀.heap.objs.size
  noex : ∀ b o, X.base.get? b = some o → b ∉ X.ex
  exfs : ∀ b ∈ X.ex, b ∉ X.fs
  funs : X.s₀.heap.FunFrames X.base X.outer
  frf : ∀ b ∈ X.fs, X.H₀ b = none

structure Inv (X : Cx) (pins : List (Addr × Obj)) (σ : List (Option V)) (H : Hp) (s : Shared) : Prop where
  ok : X.Ok
  os : s.os = X.s₀.os
  bare : AllBare s.gens
  base : Un X.fs X.ex X.H₀ H X.s₀.heap s.heap
  loc : ∃ m, s.heap.Ns X.env.locals m ∧ ∀ (i : Nat) (x : Str) (v : V), X.N[i]? = some x → σ[i]? = some (some v) → Vis X.env.scope x → ∃ u, RelV v u ∧ Look X.env s.heap m x u
  cell : ∀ x c, X.env.cells.lookup x = some c → ∃ v, s.heap.IsCell c v
  free : H X.env.locals = none
  freeC : ∀ x c, X.env.cells.lookup x = some c → H c = none
  pin : ∀ p ∈ X.pn ++ pins, s.heap.get? p.1 = some p.2 ∧ H p.1 = none ∧ p.1 ≠ X.env.locals ∧ p.1 ∉ X.fs ∧ ∀ v, p.2.data ≠ .cell v
  hok : HOk X.prog X.w H s.heap
  len : σ.length = X.N.length

section
variable {X : Cx} {pins : List (Addr × Obj)} {σ : List (Option V)} {H H' : Hp} {s : Shared} {h' : Heap}

theorem Cx.Ok.nofr (ok : X.Ok) {b : Addr} {o : Obj} (e : X.base.get? b = some o) : b ∉ X.fs := fun hb => by
  have := (ok.funs.mem hb).1
  rw [e] at this; cases this
theorem Inv.bs (I : Inv X pins σ H s) : ∀ b o, X.base.get? b = some o → s.heap.get? b = some o ∧ H b = none := fun b o e =>
  ⟨I.base.keep b o (I.ok.bs b o e).1 (I.ok.bs b o e).2 (I.ok.nofr e) (I.ok.noex b o e), I.base.free b o (I.ok.bs b o e).1 (I.ok.bs b o e).2 (I.ok.noex b o e)⟩
theorem Inv.bk (I : Inv X pins σ H s) : ∀ b o, X.base.get? b = some o → s.heap.get? b = some o := fun b o e => (I.bs b o e).1
theorem Inv.mod (I : Inv X pins σ H s) : Mod X.K X.mg X.base := I.ok.mod
theorem Inv.kIn (I : Inv X pins σ H s) : X.K.In s.heap := I.ok.mod.kin.keeps I.bk
theorem Inv.lt (I : Inv X pins σ H s) : X.env.locals < s.heap.objs.size := let ⟨_, hn, _⟩ := I.loc; hn.lt
theorem Inv.sz (I : Inv X pins σ H s) : X.s₀.heap.objs.size ≤ s.heap.objs.size := Nat.le_trans I.ok.above (Nat.le_of_lt I.lt)
theorem Inv.nofs (I : Inv X pins σ H s) {a : Addr} (h : s.heap.objs.size ≤ a) : a ∉ X.fs := fun hb => by
  obtain ⟨_, o, ho, _⟩ := I.ok.funs.mem hb
  exact absurd (Nat.lt_of_lt_of_le (Heap.lt_size ho) (Nat.le_trans I.sz h)) (Nat.lt_irrefl _)
theorem Inv.cne (I : Inv X pins σ H s) : ∀ x c, X.env.cells.lookup x = some c → c ≠ X.env.locals := fun x c e z => by
  obtain ⟨v, o, ho, hd⟩ := I.cell x c e
  obtain ⟨m, ⟨o', es, ep, ho', hd', _⟩, _⟩ := I.loc
  rw [z, ho'] at ho; cases ho; rw [hd'] at hd; cases hd
theorem Inv.funs (I : Inv X pins σ H s) : s.heap.FunFrames X.base X.outer := by
  have all : ∀ (l : List Env), (∀ b ∈ frs l, b ∈ X.fs) → X.s₀.heap.FunFrames X.base l → s.heap.FunFrames X.base l := by
    intro l
    induction l with
    | nil => intro _ _; trivial
    | cons env r ih =>
      intro hs hl
      obtain ⟨hk, ⟨L, o, hf, hn, ho, hd⟩, hr⟩ := hl
      have hL : L ∈ X.fs := hs L (by unfold frs; rw [List.filterMap_cons, hf]; exact List.mem_cons_self)
      obtain ⟨sl, e⟩ := I.base.slot L o ho (I.ok.frf L hL) hL fun z => I.ok.exfs L z hL
      exact ⟨hk, ⟨L, _, hf, hn, e, hd⟩, ih (fun b hb => hs b (by unfold frs; rw [List.filterMap_cons, hf]; exact List.mem_cons_of_mem _ hb)) hr⟩
  exact all X.outer (fun _ hb => hb) I.ok.funs

theorem Inv.stack (I : Inv X pins σ H s) : s.heap.FunFrames X.base X.stack := by
  rcases I.ok.stk with e | ⟨e, hf⟩
  · rw [e]; exact I.funs
  · rw [e]
    obtain ⟨m, hn, _⟩ := I.loc
    refine .cons (by rw [I.ok.kind]; decide) hf hn ?_ I.funs
    exact Heap.get?_none_of_le (Nat.le_trans I.ok.bsz I.ok.above)
theorem Inv.stkSub (I : Inv X pins σ H s) : ∀ b ∈ frs X.stack, b ∈ X.env.locals :: X.fs := fun b hb => by
  rcases I.ok.stk with e | ⟨e, hf⟩
  · rw [e] at hb; exact List.mem_cons_of_mem _ hb
  · rw [e] at hb
    unfold frs at hb
    rw [List.filterMap_cons, hf] at hb
    exact hb
theorem Inv.stkFree (I : Inv X pins σ H s) : ∀ b ∈ frs X.stack, H b = none := fun b hb => by
  rcases List.mem_cons.mp (I.stkSub b hb) with e | hb
  · rw [e]; exact I.free
  · obtain ⟨_, o, ho, _⟩ := I.ok.funs.mem hb
    exact I.base.free b o ho (I.ok.frf b hb) fun z => I.ok.exfs b z hb

theorem Inv.step {g' : Array GenState} {t' : Nat} {d' : Drawn} {ch : List Addr} (I : Inv X pins σ H s)
    (hch : ∀ b ∈ ch, (b ∈ X.ex ∨ X.s₀.heap.objs.size ≤ b) ∧ b ≠ X.env.locals ∧ (∀ x c, X.env.cells.lookup x = some c → c ≠ b) ∧ ∀ p ∈ X.pn ++ pins, p.1 ≠ b)
    (keep : ∀ b o, b ≠ X.env.locals → b ∉ X.fs → b ∉ ch → s.heap.get? b = some o → H b = none → h'.get? b = some o)
    (slot : ∀ b o, b ≠ X.env.locals → b ∈ X.fs → b ∉ ch → s.heap.get? b = some o → H b = none → ∃ sl, h'.get? b = some { o with slots := sl }) (free : ∀ b o, b ∉ ch → s.heap.get? b = some o → H b = none → H' b = none)
    (there : ∀ b o, b ∉ ch → s.heap.get? b = some o → ∃ o', h'.get? b = some o')
    (tups : ∀ b xs, H b = some (.tup xs) → H' b = some (.tup xs)) (frzs : ∀ b o u, H b = some (.frz o u) → H' b = some (.frz o u)) (tbls : ∀ b ps, H b = some (.tbl ps) → ∃ more, H' b = some (.tbl (ps ++ more)))
    (ns : ∀ m, s.heap.Ns X.env.locals m → h'.Ns X.env.locals m) (hok : HOk X.prog X.w H' h') (hg : AllBare g') :
    Inv X pins σ H' { s with heap := h', gens := g', drawn := d', toks := t' } := by
  have neL : ∀ b o, X.s₀.heap.get? b = some o → b ≠ X.env.locals := fun b o e => Nat.ne_of_lt (Nat.lt_of_lt_of_le (Heap.lt_size e) I.ok.above)
  have neC : ∀ b o, X.s₀.heap.get? b = some o → b ∉ X.ex → b ∉ ch := fun b o e hx hb => by
    rcases (hch b hb).1 with z | z
    · exact hx z
    · exact absurd (Nat.lt_of_lt_of_le (Heap.lt_size e) z) (Nat.lt_irrefl _)
  have cellK : ∀ x c, X.env.cells.lookup x = some c → ∀ v, s.heap.IsCell c v → h'.IsCell c v := fun x c e v ⟨o, ho, hd⟩ => by
    have nch : c ∉ ch := fun z => (hch c z).2.2.1 x c e rfl
    by_cases hc : c ∈ X.fs
    · obtain ⟨sl, q⟩ := slot c o (I.cne x c e) hc nch ho (I.freeC x c e)
      exact ⟨_, q, hd⟩
    · exact ⟨o, keep c o (I.cne x c e) hc nch ho (I.freeC x c e), hd⟩
  refine ⟨I.ok, I.os, hg, ⟨fun b o e n hb hx => ?_, fun b o e n hb hx => ?_, fun b o e n hx => ?_, fun b o e hx => ?_, fun b xs e => tups b xs (I.base.tups b xs e), fun b o xs e => frzs b o xs (I.base.frzs b o xs e), fun b ps e => ?_⟩, ?_, fun x c e => ?_, ?_, fun x c e => ?_, fun p hp => ?_, hok, I.len⟩
  · exact keep b o (neL b o e) hb (neC b o e hx) (I.base.keep b o e n hb hx) (I.base.free b o e n hx)
  · obtain ⟨sl, e1⟩ := I.base.slot b o e n hb hx
    obtain ⟨sl', e2⟩ := slot b _ (neL b o e) hb (neC b o e hx) e1 (I.base.free b o e n hx)
    exact ⟨sl', e2⟩
  · obtain ⟨o', e1⟩ := I.base.there b o e hx
    exact free b o' (neC b o e hx) e1 (I.base.free b o e n hx)
  · obtain ⟨o', e1⟩ := I.base.there b o e hx
    exact there b o' (neC b o e hx) e1
  · obtain ⟨m1, e1⟩ := I.base.tbls b ps e
    obtain ⟨m2, e2⟩ := tbls b _ e1
    exact ⟨m1 ++ m2, by rw [e2, Array.append_assoc]⟩
  · obtain ⟨m, hn, hl⟩ := I.loc
    refine ⟨m, ns m hn, fun i x v e1 e2 e3 => ?_⟩
    obtain ⟨u, r, l⟩ := hl i x v e1 e2 e3
    refine ⟨u, r, ?_⟩
    rcases l with l | ⟨k, c, e, z⟩
    · exact .inl l
    · exact .inr ⟨k, c, e, cellK x c e _ z⟩
  · obtain ⟨v, z⟩ := I.cell x c e
    exact ⟨v, cellK x c e v z⟩
  · obtain ⟨m, ⟨o, _, _, ho, _⟩, _⟩ := I.loc
    exact free _ o (fun z => (hch _ z).2.1 rfl) ho I.free
  · obtain ⟨v, o, ho, hd⟩ := I.cell x c e
    exact free c o (fun z => (hch c z).2.2.1 x c e rfl) ho (I.freeC x c e)
  · obtain ⟨e, n, ne, nf, d⟩ := I.pin p hp
    have nch : p.1 ∉ ch := fun z => (hch p.1 z).2.2.2 p hp rfl
    exact ⟨keep p.1 p.2 ne nf nch e n, free p.1 p.2 nch e n, ne, nf, d⟩
theorem Inv.un {t' : Nat} (I : Inv X pins σ H s) (u : Un X.fs [] H H' s.heap h') (hok : HOk X.prog X.w H' h') : Inv X pins σ H' { s with heap := h', toks := t' } := by
  obtain ⟨m, ⟨o, es, ep, ho, r⟩, _⟩ := id I.loc
  obtain ⟨sl, hL⟩ := u.any ho I.free (by simp)
  exact I.step (g' := s.gens) (d' := s.drawn) (ch := []) (fun _ z => nomatch z) (fun b o _ hb _ e n => u.keep b o e n hb (by simp)) (fun b o _ hb _ e n => u.slot b o e n hb (by simp)) (fun b o _ e n => u.free b o e n (by simp)) (fun b o _ e => u.there b o e (by simp)) u.tups u.frzs u.tbls (fun m' hm => by
    obtain ⟨o', es', ep', ho', r'⟩ := hm
    rw [ho] at ho'; cases ho'
    exact ⟨_, es', ep', hL, r'⟩) hok I.bare
theorem Inv.call {g' : Array GenState} {t' : Nat} {d' : Drawn} {ch : List Addr} (I : Inv X pins σ H s) (u : Un (frs X.stack) ch H H' s.heap h') (hok : HOk X.prog X.w H' h') (hg : AllBare g')
    (hch : ∀ b ∈ ch, (b ∈ X.ex ∨ X.s₀.heap.objs.size ≤ b) ∧ b ≠ X.env.locals ∧ (∀ x c, X.env.cells.lookup x = some c → c ≠ b) ∧ ∀ p ∈ X.pn ++ pins, p.1 ≠ b) :
    Inv X pins σ H' { s with heap := h', gens := g', drawn := d', toks := t' } := by
  obtain ⟨m, ⟨o, es, ep, ho, r⟩, _⟩ := id I.loc
  obtain ⟨sl, hL⟩ := u.any ho I.free fun z => (hch _ z).2.1 rfl
  exact I.step (ch := ch) hch (fun b o hL hb hc e n => u.keep b o e n (fun z => (List.mem_cons.mp (I.stkSub b z)).elim hL hb) hc) (fun b o _ _ hc e n => u.any e n hc) (fun b o hc e n => u.free b o e n hc) (fun b o hc e => u.there b o e hc) u.tups u.frzs u.tbls (fun m' hm => by
    obtain ⟨o', es', ep', ho', r'⟩ := hm
    rw [ho] at ho'; cases ho'
    exact ⟨_, es', ep', hL, r'⟩) hok hg
theorem Inv.turned {t' : Nat} {it : Addr} (I : Inv X pins σ H s) (k : ∀ b o, b ≠ it → s.heap.get? b = some o → h'.get? b = some o) (hn : H it = none) (hL : it ≠ X.env.locals)
    (h1 : it ∈ X.ex ∨ X.s₀.heap.objs.size ≤ it) (h2 : ∀ x c, X.env.cells.lookup x = some c → c ≠ it) (h3 : ∀ p ∈ X.pn ++ pins, p.1 ≠ it) : Inv X pins σ H { s with heap := h', toks := t' } := by
  have nit : ∀ b u, H b = some u → b ≠ it := fun b u e z => by rw [z, hn] at e; cases e
  refine I.step (g' := s.gens) (d' := s.drawn) (ch := [it]) (fun b hb => ?_) (fun b o _ _ hc e _ => k b o (fun z => hc (by simp [z])) e) (fun b o _ _ hc e _ => ⟨o.slots, k b o (fun z => hc (by simp [z])) e⟩) (fun _ _ _ _ n => n)
    (fun b o hc e => ⟨o, k b o (fun z => hc (by simp [z])) e⟩) (fun _ _ e => e) (fun _ _ _ e => e) (fun b ps e => ⟨#[], by rw [e]; simp⟩) (fun m hm => ?_) (fun b u e => ?_) I.bare
  · have e : b = it := by simpa using hb
    subst e
    exact ⟨h1, hL, h2, h3⟩
  · obtain ⟨o, es, ep, ho, r⟩ := hm
    exact ⟨o, es, ep, k _ o (Ne.symm hL) ho, r⟩
  · refine (I.hok b u e).stay (fun c v hc q => k c v ?_ q) (fun _ q => q) fun _ _ q => q
    rcases hc with z | z
    · rw [z]; exact nit b u e
    · exact nit c _ z
theorem Inv.tok (I : Inv X pins σ H s) (t : Nat) : Inv X pins σ H { s with toks := t } := I.un (h' := s.heap) (t' := t) Un.refl I.hok
theorem Inv.kept {t' : Nat} (I : Inv X pins σ H s) (k : ∀ b u, s.heap.get? b = some u → h'.get? b = some u) : Inv X pins σ H { s with heap := h', toks := t' } := I.un (Un.kept k) (I.hok.kept k)
theorem Inv.laid {a : Addr} {o : HO} {t' : Nat} (I : Inv X pins σ H s) (k : ∀ b u, s.heap.get? b = some u → h'.get? b = some u) (hp : s.heap.objs.size ≤ a) (new : ObjOk X.prog X.w (upd H a o) h' a o) :
    Inv X pins σ (upd H a o) { s with heap := h', toks := t' } := I.un (Un.laid k hp (I.hok.fresh hp)) (I.hok.laid k hp new)
theorem Inv.write {x e : Addr} {o : HO} {t' : Nat} (I : Inv X pins σ H s) (mu : Mut (H x)) (he : e = x ∨ H e = some (.own x)) (k : ∀ b u, b ≠ e → s.heap.get? b = some u → h'.get? b = some u) (heo : ∃ u, h'.get? e = some u)
    (new : ObjOk X.prog X.w (upd H x o) h' x o) : Inv X pins σ (upd H x o) { s with heap := h', toks := t' } := I.un (Un.write mu he k heo) (I.hok.write mu he k heo new)
theorem Inv.weak {σ' : List (Option V)} (I : Inv X pins σ H s) (hl : σ'.length = σ.length) (w : ∀ (i : Nat) v, σ'[i]? = some (some v) → σ[i]? = some (some v)) : Inv X pins σ' H s :=
  ⟨I.ok, I.os, I.bare, I.base, let ⟨m, hn, hl'⟩ := I.loc; ⟨m, hn, fun i x v e1 e2 e3 => hl' i x v e1 (w i v e2) e3⟩, I.cell, I.free, I.freeC, I.pin, I.hok, hl.trans I.len⟩
theorem Inv.pins_of {pins' : List (Addr × Obj)} (I : Inv X pins σ H s) (h : ∀ p ∈ pins', s.heap.get? p.1 = some p.2 ∧ H p.1 = none ∧ p.1 ≠ X.env.locals ∧ p.1 ∉ X.fs ∧ ∀ v, p.2.data ≠ .cell v) : Inv X pins' σ H s :=
  ⟨I.ok, I.os, I.bare, I.base, I.loc, I.cell, I.free, I.freeC, fun p hp => (List.mem_append.mp hp).elim (fun z => I.pin p (List.mem_append_left _ z)) (h p), I.hok, I.len⟩

theorem nodup_ix {N : List Str} (hN : N.Nodup) {i j : Nat} {x : Str} (a : N[i]? = some x) (b : N[j]? = some x) : i = j := by
  obtain ⟨h1, e1⟩ := List.getElem?_eq_some_iff.mp a
  obtain ⟨h2, e2⟩ := List.getElem?_eq_some_iff.mp b
  exact (List.getElem_inj hN).mp (e1.trans e2.symm)

theorem store_ok2 {M : Model} {A : Around} {E : Value → Shared → Prop} {i : Nat} {x : Str} {v : V} {u : Value} {Q : Unit → Shared → Prop} (I : Inv X pins σ H s) (hN : X.N.Nodup) (hi : X.N[i]? = some x) (hx : Loc X.env.scope x) (r : RelV v u)
    (h : ∀ s', Inv X pins (σ.set i (some v)) H s' → (∃ a, Heap.SameBut a s.heap s'.heap ∧ (a = X.env.locals ∨ X.env.cells.lookup x = some a)) → Q () s') (hf : X.fn x = true ∨ X.env.scope.names.lookup x = some .local := by first | exact .inl rfl | exact .inr rfl | assumption) : wpAny M A (storeName X.env x u) Q E s := by
  obtain ⟨m, hn, hl⟩ := id I.loc
  have hcls : (X.env.scope.kind == .class || (X.env.scope.kind == .module && X.env.locals != X.env.globals)) = false := by rw [I.ok.kind]; rfl
  have hiσ : i < σ.length := by rw [I.len]; exact (List.getElem?_eq_some_iff.mp hi).1
  have cne := I.cne
  have tracked : ∀ {a : Addr} {h' : Heap}, (∃ o, s.heap.get? a = some o ∧ H a = none) → Heap.SameBut a s.heap h' → HOk X.prog X.w H h' := fun {a h'} ha hs b ob e => by
    obtain ⟨_, _, hfree⟩ := ha
    refine (I.hok b ob e).stay (fun c w' hc q => (hs.2 c ?_).trans q) (fun _ q => q) fun _ _ q => q
    rintro rfl
    rcases hc with rfl | hc
    · rw [hfree] at e; cases e
    · rw [hfree] at hc; cases hc
  rcases hx with hk | hk
  · refine wpAny_storeName_local hk hn (fun h' hn' hs => ?_) hcls
    obtain ⟨oL, _, _, hoL, _⟩ := id hn
    refine h _ ⟨I.ok, I.os, I.bare, ⟨fun b o e n hb hx => ?_, fun b o e n hb hx => ?_, I.base.free, fun b o e hx => ?_, I.base.tups, I.base.frzs, I.base.tbls⟩, ⟨_, hn', fun j y v' e1 e2 e3 => ?_⟩, fun y c e => ?_, I.free, I.freeC, fun p hp => ?_, tracked ⟨oL, hoL, I.free⟩ hs, by simpa using I.len⟩ ⟨_, hs, .inl rfl⟩
    · exact (hs.2 b (Nat.ne_of_lt (Nat.lt_of_lt_of_le (Heap.lt_size e) I.ok.above))).trans (I.base.keep b o e n hb hx)
    · obtain ⟨sl, e1⟩ := I.base.slot b o e n hb hx
      exact ⟨sl, (hs.2 b (Nat.ne_of_lt (Nat.lt_of_lt_of_le (Heap.lt_size e) I.ok.above))).trans e1⟩
    · obtain ⟨o', e1⟩ := I.base.there b o e hx
      exact ⟨o', (hs.2 b (Nat.ne_of_lt (Nat.lt_of_lt_of_le (Heap.lt_size e) I.ok.above))).trans e1⟩
    · by_cases hj : j = i
      · subst hj
        rw [hi] at e1; cases e1
        rw [List.getElem?_set_self hiσ] at e2
        cases e2
        exact ⟨u, r, .inl ⟨hk, by simp⟩⟩
      · rw [List.getElem?_set_ne (Ne.symm hj)] at e2
        obtain ⟨u', r', q⟩ := hl j y v' e1 e2 e3
        refine ⟨u', r', ?_⟩
        rcases q with ⟨k, e⟩ | ⟨k, c, e, z⟩
        · refine .inl ⟨k, ?_⟩
          have : y ≠ x := fun e => hj (nodup_ix hN e1 (e ▸ hi))
          simp [this, e]
        · exact .inr ⟨k, c, e, z.sameBut hs (cne y c e)⟩
    · obtain ⟨w', z⟩ := I.cell y c e
      exact ⟨w', z.sameBut hs (cne y c e)⟩
    · obtain ⟨e, n, ne, nf, d⟩ := I.pin p hp
      exact ⟨(hs.2 p.1 ne).trans e, n, ne, nf, d⟩
  · have hfn : X.fn x = true := by
      rcases hf with z | z
      · exact z
      · rw [z] at hk; cases hk
    obtain ⟨c, hc⟩ := I.ok.has x (.inl hk)
    obtain ⟨w', z⟩ := I.cell x c hc
    refine wpAny_storeName_cell I.ok.kind hk hc z (fun h' hc' hs => ?_)
    obtain ⟨oc, hoc, hocd⟩ := id z
    refine h { s with heap := h' } ⟨I.ok, I.os, I.bare, ⟨fun b o e n hb hx => ?_, fun b o e n hb hx => ?_, I.base.free, fun b o e hx => ?_, I.base.tups, I.base.frzs, I.base.tbls⟩, ⟨m, hn.sameBut hs (Ne.symm (cne x c hc)), fun j y v' e1 e2 e3 => ?_⟩, fun y c' e => ?_, I.free, I.freeC, fun p hp => ?_, tracked ⟨oc, hoc, I.freeC x c hc⟩ hs, by simpa using I.len⟩ ⟨c, hs, .inr hc⟩
    · exact (hs.2 b (Nat.ne_of_lt (Nat.lt_of_lt_of_le (Heap.lt_size e) (I.ok.cab x c hfn hc)))).trans (I.base.keep b o e n hb hx)
    · obtain ⟨sl, e1⟩ := I.base.slot b o e n hb hx
      exact ⟨sl, (hs.2 b (Nat.ne_of_lt (Nat.lt_of_lt_of_le (Heap.lt_size e) (I.ok.cab x c hfn hc)))).trans e1⟩
    · obtain ⟨o', e1⟩ := I.base.there b o e hx
      exact ⟨o', (hs.2 b (Nat.ne_of_lt (Nat.lt_of_lt_of_le (Heap.lt_size e) (I.ok.cab x c hfn hc)))).trans e1⟩
    · by_cases hj : j = i
      · subst hj
        rw [hi] at e1; cases e1
        rw [List.getElem?_set_self hiσ] at e2
        cases e2
        exact ⟨u, r, .inr ⟨.inl hk, c, hc, hc'⟩⟩
      · rw [List.getElem?_set_ne (Ne.symm hj)] at e2
        obtain ⟨u', r', q⟩ := hl j y v' e1 e2 e3
        refine ⟨u', r', ?_⟩
        rcases q with q | ⟨k, c', e, z'⟩
        · exact .inl q
        · refine .inr ⟨k, c', e, z'.sameBut hs ?_⟩
          rintro rfl
          exact hj (nodup_ix hN e1 (I.ok.inj _ _ _ e hc ▸ hi))
    · by_cases hcc : c' = c
      · subst hcc; exact ⟨_, hc'⟩
      · obtain ⟨w2, z2⟩ := I.cell y c' e
        exact ⟨w2, z2.sameBut hs hcc⟩
    · obtain ⟨e, n, ne, nf, d⟩ := I.pin p hp
      refine ⟨(hs.2 p.1 ?_).trans e, n, ne, nf, d⟩
      intro q
      rw [q, hoc] at e
      have q' : oc = p.2 := Option.some.inj e
      exact d w' (by rw [← q']; exact hocd)
theorem store_ok {M : Model} {A : Around} {E : Value → Shared → Prop} {i : Nat} {x : Str} {v : V} {u : Value} {Q : Unit → Shared → Prop} (I : Inv X pins σ H s) (hN : X.N.Nodup) (hi : X.N[i]? = some x) (hx : Loc X.env.scope x) (r : RelV v u)
    (h : ∀ s', Inv X pins (σ.set i (some v)) H s' → Q () s') (hf : X.fn x = true ∨ X.env.scope.names.lookup x = some .local := by first | exact .inl rfl | exact .inr rfl | assumption) : wpAny M A (storeName X.env x u) Q E s :=
  store_ok2 I hN hi hx r (fun s' I' _ => h s' I') hf
theorem Inv.call' {s' : Shared} {ch : List Addr} (I : Inv X pins σ H s) (ho : s'.os = s.os) (u : Un (frs X.stack) ch H H' s.heap s'.heap) (hok : HOk X.prog X.w H' s'.heap) (hg : AllBare s'.gens)
    (hch : ∀ b ∈ ch, (b ∈ X.ex ∨ X.s₀.heap.objs.size ≤ b) ∧ b ≠ X.env.locals ∧ (∀ x c, X.env.cells.lookup x = some c → c ≠ b) ∧ ∀ p ∈ X.pn ++ pins, p.1 ≠ b) : Inv X pins σ H' s' := by
  obtain ⟨h', g', d', t', o'⟩ := s'
  have e : o' = s.os := ho
  subst e
  exact I.call (g' := g') (t' := t') (d' := d') u hok hg hch
end

noncomputable abbrev XK := Value → Option Addr → Hp → Prop
noncomputable abbrev St := List (Option V)
noncomputable abbrev VK := V → Hp → Prop
noncomputable abbrev TE := St → Hp → VK → Prop
noncomputable abbrev TT := St → Hp → (Bool → Hp → Prop) → Prop
noncomputable abbrev TA := St → Hp → (List V → Hp → Prop) → Prop
structure Ends where
  nx : St → Hp → Prop
  rt : VK
  bk : St → Hp → Prop := fun _ _ => False
  ct : St → Hp → Prop := fun _ _ => False
noncomputable abbrev TS := Ends → St → Hp → Prop

noncomputable def EP (X : Cx) (pins : List (Addr × Obj)) (σ : St) (Q : VK) (u : Value) (s' : Shared) : Prop := ∃ v H', Inv X pins σ H' s' ∧ RelV v u ∧ Q v H'
noncomputable def TP (X : Cx) (pins : List (Addr × Obj)) (σ : St) (Q : Bool → Hp → Prop) (b : Bool) (s' : Shared) : Prop := ∃ H', Inv X pins σ H' s' ∧ Q b H'
noncomputable def AP (X : Cx) (pins : List (Addr × Obj)) (σ : St) (Q : List V → Hp → Prop) (us : List Value) (s' : Shared) : Prop := ∃ vs H', Inv X pins σ H' s' ∧ Vals vs us ∧ Q vs H'
noncomputable def SP (X : Cx) (pins : List (Addr × Obj)) (D : Ends) (f : Flow) (s' : Shared) : Prop :=
  match f with
  | .next => ∃ σ' H', Inv X pins σ' H' s' ∧ D.nx σ' H'
  | .brk => ∃ σ' H', Inv X pins σ' H' s' ∧ D.bk σ' H'
  | .cont => ∃ σ' H', Inv X pins σ' H' s' ∧ D.ct σ' H'
  | .ret u => ∃ v σ' H', Inv X pins σ' H' s' ∧ RelV v u ∧ D.rt v H'

noncomputable def PE (X : Cx) (e : Expr) (t : TE) : Prop :=
  ∀ (pins : List (Addr × Obj)) (s : Shared) (σ : St) (H : Hp) (Q : VK), Inv X pins σ H s → t σ H Q → wpAny (model X.prog X.w) X.A (eval e X.env) (EP X pins σ Q) X.xe s
noncomputable def PT (X : Cx) (e : Expr) (t : TT) : Prop :=
  ∀ (pins : List (Addr × Obj)) (s : Shared) (σ : St) (H : Hp) (Q : Bool → Hp → Prop), Inv X pins σ H s → t σ H Q → wpAny (model X.prog X.w) X.A (isTrue e X.env (eval e X.env)) (TP X pins σ Q) X.xe s
noncomputable def PW (X : Cx) (e : Expr) (t : TT) : Prop :=
  ∀ (whole : Sem Value) (pins : List (Addr × Obj)) (s : Shared) (σ : St) (H : Hp) (Q : Bool → Hp → Prop), Inv X pins σ H s → t σ H Q → wpAny (model X.prog X.w) X.A (isTrue e X.env whole) (TP X pins σ Q) X.xe s
theorem PW.pt {X : Cx} {e : Expr} {t : TT} (h : PW X e t) : PT X e t := h _
noncomputable def PA (X : Cx) (es : List Expr) (t : TA) : Prop :=
  ∀ (pos : Pos) (pins : List (Addr × Obj)) (s : Shared) (σ : St) (H : Hp) (Q : List V → Hp → Prop), Inv X pins σ H s → t σ H Q → wpAny (model X.prog X.w) X.A (spliced (backTo pos (starEach es X.env))) (AP X pins σ Q) X.xe s
noncomputable def PS (X : Cx) (st : Stmt) (t : TS) : Prop :=
  ∀ (pins : List (Addr × Obj)) (s : Shared) (σ : St) (H : Hp) (D : Ends), Inv X pins σ H s → t D σ H → wpAny (model X.prog X.w) X.A (exec st X.env) (SP X pins D) X.xe s
noncomputable def PSs (X : Cx) (st : List Stmt) (t : TS) : Prop :=
  ∀ (pins : List (Addr × Obj)) (s : Shared) (σ : St) (H : Hp) (D : Ends), Inv X pins σ H s → t D σ H → wpAny (model X.prog X.w) X.A (execs st X.env) (SP X pins D) X.xe s
theorem thn {α : Type} {t : Sem α} {Q Q' : α → Shared → Prop} {M : Model} {A : Around} {E : Value → Shared → Prop} {s : Shared} (h : wpAny M A t Q E s) (hQ : ∀ a s, Q a s → Q' a s) : wpAny M A t Q' E s := wpAny_mono h hQ fun _ _ x => x
end L2

namespace L2
open PySem PySem.Spec PyProof.Rows
section
variable {X : Cx}


noncomputable def tVar (i : Nat) : TE := fun σ H Q => ∃ v, σ[i]? = some (some v) ∧ Q v H
noncomputable def tC (v : V) : TE := fun _ H Q => Q v H
theorem pe_var {i : Nat} {x : Str} {pos : Pos} (hN : X.N[i]? = some x) (hv : Vis X.env.scope x) (hd : (x == ("__debug__" : Str)) = false := by decide) (hcd : (x == ("__classdict__" : Str)) = false := by decide) : PE X (.Name x pos) (tVar i) := by
  intro pins s σ H Q I h
  obtain ⟨v, e, h⟩ := h
  obtain ⟨m, hn, hl⟩ := I.loc
  obtain ⟨u, r, l⟩ := hl i x v hN e hv
  have fin : EP X pins σ Q u s := ⟨v, H, I, r, h⟩
  rcases l with ⟨hk, hm⟩ | ⟨hk, c, hc, hcell⟩
  · exact wpAny_Name (wpAny_loadName_local I.ok.kind hk hn hm fin) hd
  · rcases hk with hk | hk
    · exact wpAny_Name (wpAny_loadName_cell I.ok.kind hk hc hcell fin) hd
    · exact wpAny_Name (wpAny_loadName_free I.ok.kind hk hc hcell fin hcd) hd
theorem pe_int {i j pos} : PE X (.Constant (.int i) j pos) (tC (.int i)) := fun _ _ _ H _ I h => wpAny_Constant_int ⟨.int i, H, I.tok _, ⟨_, rfl⟩, h⟩
theorem pe_bl {b j pos} : PE X (.Constant (.bool b) j pos) (tC (.bl b)) := fun _ _ _ H _ I h => Constant_bool ⟨.bl b, H, I, rfl, h⟩
theorem pe_non {j pos} : PE X (.Constant .none j pos) (tC .non) := fun _ _ _ H _ I h => Constant_none ⟨.non, H, I, rfl, h⟩
theorem pe_str {x j pos} : PE X (.Constant (.str x) j pos) (tC (.str x)) := fun _ _ _ H _ I h => Calls.Constant_str ⟨.str x, H, I.tok _, ⟨_, rfl⟩, h⟩

noncomputable def Gl (X : Cx) (x : Str) : Prop := X.env.kindOf x = some .globalImplicit
theorem ld_glob {E : Value → Shared → Prop} {pins : List (Addr × Obj)} {s : Shared} {σ : St} {H : Hp} {x : Str} {u : Value} {pos : Pos} {Q : Value → Shared → Prop} (I : Inv X pins σ H s) (hg : Gl X x) (hm : X.mg x = some u) (h : Q u s)
    (hd : (x == ("__debug__" : Str)) = false := by decide) : wpAny (model X.prog X.w) X.A (eval (.Name x pos) X.env) Q E s :=
  Calls.Name_function_global I.ok.kind hg (Calls.loadGlobal_global (by rw [I.ok.glob]; exact I.mod.glob.keeps I.bk) hm h) hd
theorem ld_blt {E : Value → Shared → Prop} {pins : List (Addr × Obj)} {s : Shared} {σ : St} {H : Hp} {x : Str} {u : Value} {pos : Pos} {Q : Value → Shared → Prop} (I : Inv X pins σ H s) (hg : Gl X x) (hm : X.mg x = none) (hv : bootBuiltins x = some u) (h : Q u s)
    (hn : x ≠ "__name__" := by decide) (hd : (x == ("__debug__" : Str)) = false := by decide) : wpAny (model X.prog X.w) X.A (eval (.Name x pos) X.env) Q E s := by
  obtain ⟨mb, h1, h2⟩ := I.mod.blt
  exact Calls.Name_function_global I.ok.kind hg (Calls.loadGlobal_builtin (by rw [I.ok.glob]; exact I.mod.glob.keeps I.bk) hm (by rw [I.ok.blt]; exact h1.keeps I.bk) ((h2 x hn).trans hv) h) hd
theorem pe_glob {x : Str} {v : V} {u : Value} {pos : Pos} (hg : Gl X x) (hm : X.mg x = some u) (r : RelV v u) (hd : (x == ("__debug__" : Str)) = false := by decide) : PE X (.Name x pos) (tC v) :=
  fun _ _ _ H _ I h => ld_glob I hg hm ⟨v, H, I, r, h⟩ hd
theorem pe_bltn {x : Str} {v : V} {u : Value} {pos : Pos} (hg : Gl X x) (hm : X.mg x = none) (hv : bootBuiltins x = some u) (r : RelV v u) (hn : x ≠ "__name__" := by decide) (hd : (x == ("__debug__" : Str)) = false := by decide) : PE X (.Name x pos) (tC v) :=
  fun _ _ _ H _ I h => ld_blt I hg hm hv ⟨v, H, I, r, h⟩ hn hd

noncomputable def t2I (ta tb : TE) (k : Int → Int → Hp → Prop) : St → Hp → Prop := fun σ H => ta σ H fun x H1 => tb σ H1 fun y H2 => ∃ i j, x = .int i ∧ y = .int j ∧ k i j H2
noncomputable def tAdd (ta tb : TE) : TE := fun σ H Q => t2I ta tb (fun i j H2 => Q (.int (i + j)) H2) σ H
noncomputable def tSub (ta tb : TE) : TE := fun σ H Q => t2I ta tb (fun i j H2 => Q (.int (i - j)) H2) σ H
noncomputable def tMul (ta tb : TE) : TE := fun σ H Q => t2I ta tb (fun i j H2 => (-(2 ^ 64) < i ∧ i < 2 ^ 64) ∧ Q (.int (i * j)) H2) σ H
variable {a b : Expr} {ta tb : TE} {pos : Pos}

noncomputable def PC (X : Cx) (op : CmpOp) (a b : Expr) (t : TE) : Prop :=
  ∀ (pins : List (Addr × Obj)) (s : Shared) (σ : St) (H : Hp) (Q : VK), Inv X pins σ H s → t σ H Q →
    wpAny (model X.prog X.w) X.A (eval a X.env) (fun v s₁ => wpAny (model X.prog X.w) X.A (eval b X.env) (fun u s₂ => wpAny (model X.prog X.w) X.A (compareOp op v u) (EP X pins σ Q) X.xe s₂) X.xe s₁) X.xe s
noncomputable def tCmp (p : Int → Int → Bool) (ta tb : TE) : TE := fun σ H Q => t2I ta tb (fun i j H2 => Q (.bl (p i j)) H2) σ H
noncomputable abbrev tLt : TE → TE → TE := tCmp fun i j => decide (i < j)
noncomputable abbrev tLe : TE → TE → TE := tCmp fun i j => decide (i ≤ j)
noncomputable abbrev tGt : TE → TE → TE := tCmp fun i j => decide (j < i)
noncomputable abbrev tGe : TE → TE → TE := tCmp fun i j => decide (j ≤ i)
noncomputable abbrev tEqI : TE → TE → TE := tCmp fun i j => decide (i = j)
noncomputable abbrev tNeI : TE → TE → TE := tCmp fun i j => !decide (i = j)
noncomputable def tIsN (ta : TE) : TE := fun σ H Q => ta σ H fun x H1 => Q (.bl (decide (x = .non))) H1
noncomputable def tNotN (ta : TE) : TE := fun σ H Q => ta σ H fun x H1 => Q (.bl (!decide (x = .non))) H1
noncomputable def tB (t : TE) : TT := fun σ H Q => t σ H fun x H1 => ∃ c, x = .bl c ∧ Q c H1
theorem pt_val {e : Expr} {t : TE} (h : PE X e t) (he : ∀ whole, isTrue e X.env whole = (do let v ← whole; standAt e.pos; holding [v] (truthy v)) := by intro _; rfl) : PT X e (tB t) := by
  intro pins s σ H Q I hw
  refine isTrue_plain (thn (h pins s σ H _ I hw) fun v s1 ⟨x, H1, I1, r1, q1⟩ => ?_) (he _)
  obtain ⟨d, rfl, q⟩ := q1
  cases r1
  exact wpAny_truthy_bool ⟨H1, I1, q⟩

variable {tA tB' : TT} {rest : List Expr}
noncomputable def tAnd (t u : TT) : TT := fun σ H Q => t σ H fun c H1 => if c = true then u σ H1 Q else Q false H1
noncomputable def tOr (t u : TT) : TT := fun σ H Q => t σ H fun c H1 => if c = true then Q true H1 else u σ H1 Q
noncomputable def tNot (t : TT) : TT := fun σ H Q => t σ H fun c H1 => Q (!c) H1
theorem pw_and1 (ha : PT X a tA) : PW X (.BoolOp .And [a] pos) tA := by
  intro wh pins s σ H Q I h
  refine isTrue_and (thn (ha pins s σ H Q I h) fun c s1 e => ?_)
  cases c with
  | true => exact isTrue_and_nil e
  | false => exact e
theorem pw_or1 (ha : PT X a tA) : PW X (.BoolOp .Or [a] pos) tA := by
  intro wh pins s σ H Q I h
  refine isTrue_or (thn (ha pins s σ H Q I h) fun c s1 e => ?_)
  cases c with
  | false => exact isTrue_or_nil e
  | true => exact e
theorem pw_and (ha : PT X a tA) (hb : PW X (.BoolOp .And (b :: rest) pos) tB') : PW X (.BoolOp .And (a :: b :: rest) pos) (tAnd tA tB') := by
  intro wh pins s σ H Q I h
  refine isTrue_and (thn (ha pins s σ H _ I h) fun c s1 ⟨H1, I1, q1⟩ => ?_)
  cases c with
  | true => exact hb wh pins s1 σ H1 Q I1 q1
  | false => exact ⟨H1, I1, q1⟩
theorem pw_or (ha : PT X a tA) (hb : PW X (.BoolOp .Or (b :: rest) pos) tB') : PW X (.BoolOp .Or (a :: b :: rest) pos) (tOr tA tB') := by
  intro wh pins s σ H Q I h
  refine isTrue_or (thn (ha pins s σ H _ I h) fun c s1 ⟨H1, I1, q1⟩ => ?_)
  cases c with
  | true => exact ⟨H1, I1, q1⟩
  | false => exact hb wh pins s1 σ H1 Q I1 q1
theorem pt_not (ha : PT X a tA) : PT X (.UnaryOp .Not a pos) (tNot tA) := by
  intro pins s σ H Q I h
  exact isTrue_not (ha pins s σ H (fun c H1 => Q (!c) H1) I h)
noncomputable def tAndV (ta tb : TE) : TE := fun σ H Q => ta σ H fun x H1 => ∃ c, x = .bl c ∧ if c = true then tb σ H1 Q else Q (.bl false) H1
noncomputable def tOrV (ta tb : TE) : TE := fun σ H Q => ta σ H fun x H1 => ∃ c, x = .bl c ∧ if c = true then Q (.bl true) H1 else tb σ H1 Q
noncomputable def tNotV (ta : TE) : TE := fun σ H Q => ta σ H fun x H1 => ∃ c, x = .bl c ∧ Q (.bl (!c)) H1
theorem pe_one {op} {t : TE} (h : PE X a t) : PE X (.BoolOp op [a] pos) t := fun pins s σ H Q I hw => BoolOp_one (h pins s σ H Q I hw)
theorem pe_and (ha : PE X a ta) (hb : PE X (.BoolOp .And (b :: rest) pos) tb) : PE X (.BoolOp .And (a :: b :: rest) pos) (tAndV ta tb) := by
  intro pins s σ H Q I h
  refine BoolOp_and (thn (ha pins s σ H _ I h) fun v s1 ⟨x, H1, I1, r1, q1⟩ => ?_)
  obtain ⟨c, rfl, q1⟩ := q1
  cases r1
  refine wpAny_truthy_bool ?_
  cases c with
  | true => exact hb pins s1 σ H1 Q I1 q1
  | false => exact ⟨.bl false, H1, I1, rfl, q1⟩
theorem pe_not (ha : PE X a ta) : PE X (.UnaryOp .Not a pos) (tNotV ta) := by
  intro pins s σ H Q I h
  refine UnaryOp_ (thn (ha pins s σ H _ I h) fun v s1 ⟨x, H1, I1, r1, q1⟩ => ?_)
  obtain ⟨c, rfl, q1⟩ := q1
  cases r1
  exact not_of (wpAny_truthy_bool ⟨.bl (!c), H1, I1, rfl, q1⟩)
noncomputable def tIf (t : TT) (ta tb : TE) : TE := fun σ H Q => t σ H fun c H1 => if c = true then ta σ H1 Q else tb σ H1 Q
theorem pe_ifExp {c : Expr} (hc : PT X c tA) (ha : PE X a ta) (hb : PE X b tb) : PE X (.IfExp c a b pos) (tIf tA ta tb) := by
  intro pins s σ H Q I h
  refine wpAny_IfExp (thn (hc pins s σ H _ I h) fun d s1 ⟨H1, I1, q1⟩ => ?_)
  cases d with
  | true => exact ha pins s1 σ H1 Q I1 q1
  | false => exact hb pins s1 σ H1 Q I1 q1
end
end L2

namespace L2
open PySem PySem.Spec PyProof.Rows

noncomputable def SqL (K : PySem.W.Frag) (H : Hp) (a : Addr) (xs : List V) : Prop :=
  Rd H a (.lst xs) ∨
    ∃ (o : Obj) (its : Array Value) (n : Nat), K.lookup a = some o ∧ o.cls = .type "list" ∧ o.dict = none ∧ o.data = .seq its n ∧ its.size ≤ sizeLine ∧ Vals xs its.toList
noncomputable def SqT (K : PySem.W.Frag) (H : Hp) (a : Addr) (xs : List V) : Prop :=
  Rd H a (.tup xs) ∨
    ∃ (o : Obj) (its : Array Value) (n : Nat), K.lookup a = some o ∧ o.cls = .type "tuple" ∧ o.data = .seq its n ∧ its.size ≤ sizeLine ∧ Vals xs its.toList
noncomputable def absV : Value → Option V
  | .none => some .non
  | .bool b => some (.bl b)
  | .int i _ => some (.int i)
  | .str x _ => some (.str x)
  | .bytes b _ => some (.byt b)
  | .float b _ => some (.flt b)
  | .ref a => some (.ref a)
  | .type n => some (.ty n)
  | _ => none
theorem RelV.abs {x : V} {u : Value} (r : RelV x u) : absV u = some x := by
  cases x with
  | non => cases r; rfl
  | bl _ => cases r; rfl
  | int _ => obtain ⟨t, rfl⟩ := r; rfl
  | str _ => obtain ⟨t, rfl⟩ := r; rfl
  | byt _ => obtain ⟨t, rfl⟩ := r; rfl
  | flt _ => obtain ⟨t, rfl⟩ := r; rfl
  | ref _ => cases r; rfl
  | ty _ => cases r; rfl
theorem RelV.inj {x y : V} {u : Value} (r : RelV x u) (q : RelV y u) : x = y := Option.some.inj (r.abs.symm.trans q.abs)
theorem Vals.inj : ∀ {xs ys : List V} {us : List Value}, Vals xs us → Vals ys us → xs = ys
  | _, _, _, .nil, .nil => rfl
  | _, _, _, .cons r t, .cons r' t' => by rw [r.inj r', Vals.inj t t']
section
variable {X : Cx} {pins : List (Addr × Obj)} {σ : St} {H : Hp} {s : Shared} {a : Addr} {xs ys : List V}
theorem SqL.of {K : PySem.W.Frag} (h : H a = some (.lst xs)) : SqL K H a xs := .inl (.inl h)
theorem SqT.of {K : PySem.W.Frag} (h : H a = some (.tup xs)) : SqT K H a xs := .inl (.inl h)
theorem Inv.list (I : Inv X pins σ H s) (h : SqL X.K H a xs) : ∃ its : List Value, Vals xs its ∧ PlainL s.heap a its.toArray ∧ xs.length ≤ sizeLine := by
  rcases h with h | ⟨o, its, n, hk, hc, hd, hs, hz, r⟩
  · obtain ⟨z, its, n, r, e⟩ := h.ok I.hok
    exact ⟨its, r, ⟨_, n, e, rfl, rfl, rfl⟩, z⟩
  · refine ⟨its.toList, r, ⟨o, n, I.kIn a o hk, hc, hd, by simpa using hs⟩, ?_⟩
    have e := r.length
    simp only [Array.length_toList] at e
    (first | lia | omega)
theorem Inv.tuple (I : Inv X pins σ H s) (h : SqT X.K H a xs) : ∃ its : List Value, Vals xs its ∧ IsTup s.heap a its.toArray ∧ xs.length ≤ sizeLine := by
  rcases h with h | ⟨o, its, n, hk, hc, hs, hz, r⟩
  · obtain ⟨z, its, r, p⟩ := h.ok I.hok
    exact ⟨its, r, p, z⟩
  · refine ⟨its.toList, r, ⟨o, I.kIn a o hk, hc, n, by simpa using hs⟩, ?_⟩
    have e := r.length
    simp only [Array.length_toList] at e
    (first | lia | omega)
theorem Inv.list_inj (I : Inv X pins σ H s) (h : SqL X.K H a xs) (h' : SqL X.K H a ys) : xs = ys := by
  obtain ⟨its, r, ⟨o, n, e, _, _, d⟩, _⟩ := I.list h
  obtain ⟨its', r', ⟨o', n', e', _, _, d'⟩, _⟩ := I.list h'
  rw [e] at e'; cases e'
  rw [d] at d'
  injection d' with d1 _
  have : its = its' := by simpa using congrArg Array.toList d1
  subst this
  exact r.inj r'
theorem Inv.tuple_inj (I : Inv X pins σ H s) (h : SqT X.K H a xs) (h' : SqT X.K H a ys) : xs = ys := by
  obtain ⟨its, r, ⟨o, e, _, n, d⟩, _⟩ := I.tuple h
  obtain ⟨its', r', ⟨o', e', _, n', d'⟩, _⟩ := I.tuple h'
  rw [e] at e'; cases e'
  rw [d] at d'
  injection d' with d1 _
  have : its = its' := by simpa using congrArg Array.toList d1
  subst this
  exact r.inj r'
end

noncomputable abbrev Cx.wish (X : Cx) (E : Value → Shared → Prop) : Cx := { X with xe := E }
noncomputable abbrev Cx.nox (X : Cx) : Cx := X.wish fun _ _ => False
theorem Cx.Ok.wish {X : Cx} (ok : X.Ok) (E : Value → Shared → Prop) : (X.wish E).Ok :=
  ⟨ok.mod, ok.kind, ok.glob, ok.blt, ok.above, ok.inj, ok.has, ok.cab, ok.hd, ok.frames, ok.stk, ok.exf, ok.bs, ok.bsz, ok.noex, ok.exfs, ok.funs, ok.frf⟩
theorem Cx.Ok.unwish {X : Cx} {E : Value → Shared → Prop} (ok : (X.wish E).Ok) : X.Ok :=
  ⟨ok.mod, ok.kind, ok.glob, ok.blt, ok.above, ok.inj, ok.has, ok.cab, ok.hd, ok.frames, ok.stk, ok.exf, ok.bs, ok.bsz, ok.noex, ok.exfs, ok.funs, ok.frf⟩
section
variable {X : Cx} {pins : List (Addr × Obj)} {σ : St} {H : Hp} {s : Shared} {E : Value → Shared → Prop}
theorem Inv.wish (I : Inv X pins σ H s) (E : Value → Shared → Prop) : Inv (X.wish E) pins σ H s := ⟨I.ok.wish E, I.os, I.bare, I.base, I.loc, I.cell, I.free, I.freeC, I.pin, I.hok, I.len⟩
theorem Inv.unwish (I : Inv (X.wish E) pins σ H s) : Inv X pins σ H s := ⟨I.ok.unwish, I.os, I.bare, I.base, I.loc, I.cell, I.free, I.freeC, I.pin, I.hok, I.len⟩
theorem SP.unwish {D : Ends} {f : Flow} {s' : Shared} (h : SP (X.wish E) pins D f s') : SP X pins D f s' := by
  cases f with
  | next => obtain ⟨σ', H', I, q⟩ := h; exact ⟨σ', H', I.unwish, q⟩
  | brk => obtain ⟨σ', H', I, q⟩ := h; exact ⟨σ', H', I.unwish, q⟩
  | cont => obtain ⟨σ', H', I, q⟩ := h; exact ⟨σ', H', I.unwish, q⟩
  | ret u => obtain ⟨v, σ', H', I, r, q⟩ := h; exact ⟨v, σ', H', I.unwish, r, q⟩
theorem PSs.nox {st : List Stmt} {t : TS} (h : PSs X.nox st t) : PSs X st t := fun pins s σ H D I hw =>
  wpAny_mono (h pins s σ H D (I.wish _) hw) (fun _ _ q => q.unwish) fun _ _ z => False.elim z
end

section
variable {X : Cx} {st : Stmt} {rest : List Stmt} {t u : TS} {e : Expr} {te : TE} {pos : Pos}
noncomputable def tNext : TS := fun D σ H => D.nx σ H
noncomputable def tSeq (t u : TS) : TS := fun D σ H => t { D with nx := u D } σ H
theorem pss_nil : PSs X [] tNext := fun _ _ σ H _ I h => wpAny_execs_nil ⟨σ, H, I, h⟩
theorem pss_cons (h1 : PS X st t) (h2 : PSs X rest u) : PSs X (st :: rest) (tSeq t u) := by
  intro pins s σ H D I h
  refine wpAny_execs_cons (thn (h1 pins s σ H { D with nx := u D } I h) fun f s1 q => ?_)
  cases f with
  | next =>
    obtain ⟨σ', H', I', q⟩ := q
    exact h2 pins s1 σ' H' D I' q
  | ret v => exact q
  | brk => exact q
  | cont => exact q
theorem pss_one (h1 : PS X st t) : PSs X [st] t := by
  intro pins s σ H D I h
  refine wpAny_execs_cons (thn (h1 pins s σ H D I h) fun f s1 q => ?_)
  cases f with
  | next => exact wpAny_execs_nil q
  | ret v => exact q
  | brk => exact q
  | cont => exact q
noncomputable def tBreak : TS := fun D σ H => D.bk σ H
noncomputable def tCont : TS := fun D σ H => D.ct σ H
theorem Inv.quiet {pins : List (Addr × Obj)} {σ : St} {H : Hp} {s : Shared} (I : Inv X pins σ H s) : interactive X.env = false := by simp [interactive, I.ok.kind]
noncomputable def tDrop (te : TE) : TS := fun D σ H => te σ H fun _ H1 => D.nx σ H1
theorem ps_expr (he : PE X e te) (hs : swapsWith e none pos.line X.env = pure false := by rfl) : PS X (.Expr e pos) (tDrop te) := by
  intro pins s σ H D I h
  exact wpAny_Expr_any (thn (he pins s σ H _ I h) fun v s1 ⟨x, H1, I1, r1, q1⟩ => ⟨σ, H1, I1, q1⟩) I.quiet hs
noncomputable def tRet (te : TE) : TS := fun D σ H => te σ H D.rt
theorem ps_ret (he : PE X e te) : PS X (.Return (some e) pos) (tRet te) := by
  intro pins s σ H D I h
  exact wpAny_Return_some (thn (he pins s σ H _ I h) fun v s1 ⟨x, H1, I1, r1, q1⟩ => ⟨x, σ, H1, I1, r1, q1⟩)
noncomputable def tRetN : TS := fun D _ H => D.rt .non H
noncomputable def tIfS (c : TT) (t u : TS) : TS := fun D σ H => c σ H fun b H1 => if b = true then t D σ H1 else u D σ H1
theorem ps_if {c : Expr} {a b : List Stmt} {tc : TT} (hc : PT X c tc) (ha : PSs X a t) (hb : PSs X b u) : PS X (.If c a b pos) (tIfS tc t u) := by
  intro pins s σ H D I h
  refine wpAny_If (thn (hc pins s σ H _ I h) fun d s1 ⟨H1, I1, q1⟩ => ?_)
  cases d with
  | true => exact ha pins s1 σ H1 D I1 q1
  | false => exact hb pins s1 σ H1 D I1 q1
noncomputable def tNever : TS := fun _ _ _ => False
end

noncomputable abbrev TG := V → St → Hp → (St → Hp → Prop) → Prop
noncomputable abbrev TGs := List V → St → Hp → (St → Hp → Prop) → Prop
noncomputable def PG (X : Cx) (target : Expr) (t : TG) : Prop :=
  ∀ (pins : List (Addr × Obj)) (s : Shared) (σ : St) (H : Hp) (v : V) (u : Value) (Q : St → Hp → Prop), Inv X pins σ H s → RelV v u → t v σ H Q →
    wpAny (model X.prog X.w) X.A (assign target X.env u) (fun _ s' => ∃ σ' H', Inv X pins σ' H' s' ∧ Q σ' H') X.xe s
noncomputable def PGs (X : Cx) (ts : List Expr) (t : TGs) : Prop :=
  ∀ (pins : List (Addr × Obj)) (s : Shared) (σ : St) (H : Hp) (vs : List V) (us : List Value) (Q : St → Hp → Prop), Inv X pins σ H s → Vals vs us → t vs σ H Q →
    wpAny (model X.prog X.w) X.A (assignInOrder ((assignEach ts X.env).map (·.2)) us) (fun _ s' => ∃ σ' H', Inv X pins σ' H' s' ∧ Q σ' H') X.xe s
noncomputable abbrev TSet := V → V → V → Hp → (Hp → Prop) → Prop
noncomputable def PSet (X : Cx) (t : TSet) : Prop :=
  ∀ (pins : List (Addr × Obj)) (s : Shared) (σ : St) (H : Hp) (o i v : V) (ov iv u : Value) (Q : Hp → Prop), Inv X pins σ H s → RelV o ov → RelV i iv → RelV v u → t o i v H Q →
    wpAny (model X.prog X.w) X.A (setItem ov iv u) (fun _ s' => ∃ H', Inv X pins σ H' s' ∧ Q H') X.xe s
noncomputable abbrev TIp := V → V → Hp → VK → Prop
noncomputable def PIp (X : Cx) (op : Operator) (t : TIp) : Prop :=
  ∀ (pins : List (Addr × Obj)) (s : Shared) (σ : St) (H : Hp) (x y : V) (v u : Value) (Q : VK), Inv X pins σ H s → RelV x v → RelV y u → t x y H Q →
    wpAny (model X.prog X.w) X.A (inplaceOp op v u) (EP X pins σ Q) X.xe s
section
variable {X : Cx} {pos : Pos}
noncomputable def gName (i : Nat) : TG := fun v σ H Q => Q (σ.set i (some v)) H
theorem pg_name {i : Nat} {x : Str} (hN : X.N.Nodup) (hi : X.N[i]? = some x) (hx : Loc X.env.scope x) (hf : X.fn x = true ∨ X.env.scope.names.lookup x = some .local := by first | exact .inl rfl | exact .inr rfl | assumption) : PG X (.Name x pos) (gName i) := by
  intro pins s σ H v u Q I r h
  exact wpAny_assign_Name (store_ok I hN hi hx r (fun s' I' => ⟨_, H, I', h⟩) hf)
noncomputable def gNil : TGs := fun vs σ H Q => vs = [] ∧ Q σ H
noncomputable def gCons (t : TG) (u : TGs) : TGs := fun vs σ H Q => ∃ v r, vs = v :: r ∧ t v σ H fun σ' H' => u r σ' H' Q
theorem pgs_nil : PGs X [] gNil := by
  intro pins s σ H vs us Q I r h
  obtain ⟨e, h⟩ := h
  subst e
  cases r
  exact assignInOrder_nil ⟨σ, H, I, h⟩
theorem pgs_cons {e : Expr} {es : List Expr} {t : TG} {u : TGs} (h1 : PG X e t) (h2 : PGs X es u)
    (hs : (assignEach (e :: es) X.env).map (·.2) = assign e X.env :: (assignEach es X.env).map (·.2) := by rfl) : PGs X (e :: es) (gCons t u) := by
  intro pins s σ H vs us Q I r h
  obtain ⟨v, vr, e1, h⟩ := h
  subst e1
  cases r with
  | cons r rr =>
    rw [hs]
    refine assignInOrder_cons (thn (h1 pins s σ H _ _ _ I r h) fun _ s1 ⟨σ1, H1, I1, q1⟩ => ?_)
    exact h2 pins s1 σ1 H1 _ _ Q I1 rr q1
noncomputable def gTup (K : PySem.W.Frag) (n : Nat) (t : TGs) : TG := fun v σ H Q => ∃ a xs, v = .ref a ∧ SqT K H a xs ∧ xs.length = n ∧ t xs σ H Q
theorem pg_tup {es : List Expr} {k : Nat} {t : TGs} {n : Nat} (hc : X.calm = true) (h : PGs X es t)
    (hn : (assignEach es X.env).length = n := by rfl) (hst : (assignEach es X.env).findIdx? (·.1) = none := by rfl) : PG X (.Tuple es k pos) (gTup X.K n t) := by
  intro pins s σ H v u Q I r hw
  obtain ⟨a, xs, e1, hq, hl, hw⟩ := hw
  subst e1
  cases r
  obtain ⟨its, rv, ht, hz⟩ := I.tuple hq
  refine assign_Tuple_tuple (I.ok.hd hc) ht (by simp [hn, ← hl, rv.length]) hst fun h' hx => ?_
  have I1 : Inv X pins σ H { s with heap := h' } := I.kept (t' := s.toks) fun b o e => hx b o (Nat.ne_of_lt (Heap.lt_size e)) e
  exact h pins _ σ H xs _ Q I1 (by simpa using rv) hw
noncomputable def gSub (to ti : TE) (t : TSet) : TG := fun v σ H Q => to σ H fun o H1 => ti σ H1 fun i H2 => t o i v H2 fun H3 => Q σ H3
theorem pg_sub {o i : Expr} {to ti : TE} {t : TSet} (ho : PE X o to) (hi : PE X i ti) (hs : PSet X t)
    (ha : ∀ v, assign (.Subscript o i pos) X.env v = (do
      let ov ← holding [v] (eval o X.env)
      let iv ← holding [v, ov] (eval i X.env)
      standAt pos
      holding [v, ov, iv] (setItem ov iv v)
      release [v, ov, iv] []) := by intro _; rfl) : PG X (.Subscript o i pos) (gSub to ti t) := by
  intro pins s σ H v u Q I r h
  rw [ha]
  refine wpAny_bind (wpAny_holding (thn (ho pins s σ H _ I h) fun ov s1 ⟨x, H1, I1, r1, q1⟩ => ?_))
  refine wpAny_bind (wpAny_holding (thn (hi pins s1 σ H1 _ I1 q1) fun iv s2 ⟨y, H2, I2, r2, q2⟩ => ?_))
  refine wpAny_bind (wpAny_standAt (wpAny_bind (wpAny_holding (thn (hs pins s2 σ H2 x y v ov iv u _ I2 r1 r2 r q2) fun _ s3 ⟨H3, I3, q3⟩ => ?_))))
  exact wpAny_release ⟨σ, H3, I3, q3⟩
noncomputable def tAsg (te : TE) (g : TG) : TS := fun D σ H => te σ H fun x H1 => g x σ H1 D.nx
theorem ps_asg {tg e : Expr} {te : TE} {g : TG} (he : PE X e te) (hg : PG X tg g) (hs : swapsWithSole [tg] e pos.line X.env = pure false := by rfl) (hw : swappedStores [tg] e X.env = pure none := by rfl)
    (h1 : (assignEach [tg] X.env).map (·.2) = [assign tg X.env] := by rfl) : PS X (.Assign [tg] e pos) (tAsg te g) := by
  intro pins s σ H D I h
  refine wpAny_Assign_stores (thn (he pins s σ H _ I h) fun v s1 ⟨x, H1, I1, r1, q1⟩ => ?_) hs hw
  rw [h1]
  exact thn (hg pins s1 σ H1 x v _ I1 r1 q1) fun _ s2 q => q
theorem ps_set {i : Nat} {x : Str} {e : Expr} {te : TE} {pos' : Pos} (hN : X.N.Nodup) (hi : X.N[i]? = some x) (hx : Loc X.env.scope x) (he : PE X e te) (hs : swapsWith e (some (.Name x pos')) pos.line X.env = pure false := by rfl) (hf : X.fn x = true ∨ X.env.scope.names.lookup x = some .local := by first | exact .inl rfl | exact .inr rfl | assumption) :
    PS X (.Assign [.Name x pos'] e pos) (tAsg te (gName i)) := by
  intro pins s σ H D I h
  refine wpAny_Assign_Name (thn (he pins s σ H _ I h) fun v s1 ⟨y, H1, I1, r1, q1⟩ => ?_) hs
  exact store_ok I1 hN hi hx r1 (fun s2 I2 => ⟨_, H1, I2, q1⟩) hf
noncomputable def tPar (i j : Nat) (ta : TA) : TS := fun D σ H => ta σ H fun vs H1 => ∃ v w, vs = [v, w] ∧ D.nx ((σ.set i (some v)).set j (some w)) H1
theorem ps_par {i j : Nat} {x y : Str} {a b : Expr} {ta : TA} {px py pt : Pos} {kt k2 pt2} (hc : X.calm = true) (hN : X.N.Nodup) (hi : X.N[i]? = some x) (hj : X.N[j]? = some y) (hij : i ≠ j)
    (hx : X.env.scope.names.lookup x = some .local) (hy : X.env.scope.names.lookup y = some .local) (ha : PA X [a, b] ta)
    (hw : swappedStores [.Tuple [.Name x px, .Name y py] kt pt] (.Tuple [a, b] k2 pt2) X.env = pure (some [x, y]))
    (hs : swapsWithSole [.Tuple [.Name x px, .Name y py] kt pt] (.Tuple [a, b] k2 pt2) pos.line X.env = pure false := by rfl) :
    PS X (.Assign [.Tuple [.Name x px, .Name y py] kt pt] (.Tuple [a, b] k2 pt2) pos) (tPar i j ta) := by
  intro pins s σ H D I h
  rw [exec_Assign_arm]
  refine wpAny_bind (wpAny_standAt ?_)
  rw [hs]
  refine wpAny_bind (wpAny_pure ?_)
  rw [if_neg (by decide)]
  refine wpAny_bind (Tuple_ (thn (ha _ pins s σ H _ I h) fun us s1 ⟨vs, H1, I1, r1, q1⟩ => ?_))
  obtain ⟨v, w, e1, q1⟩ := q1
  subst e1
  obtain ⟨u1, u2, rfl, rv, rw'⟩ : ∃ u1 u2, us = [u1, u2] ∧ RelV v u1 ∧ RelV w u2 := by
    cases r1 with
    | cons p q =>
      cases q with
      | cons p' q' =>
        cases q'
        exact ⟨_, _, rfl, p, p'⟩
  refine wpAny_newObj_type ?_ (by show 2 ≤ sizeLine; decide)
  have I2 : Inv X pins σ H1 { s1 with heap := s1.heap.push { cls := .type "tuple", data := .seq [u1, u2].toArray } } := I1.kept (t' := s1.toks) fun b o e => Heap.get?_push_of_some _ e
  rw [hw]
  refine wpAny_bind (wpAny_pure ?_)
  show wpAny (model X.prog X.w) X.A (do rule "assign.swapped-stores"; let items ← unpackItems (.ref s1.heap.objs.size) 2 none; assignInOrder [fun v => bindName X.env y v, fun v => bindName X.env x v] items.reverse; pure Flow.next) _ _ _
  refine wpAny_bind (wpAny_rule (wpAny_bind (unpackItems_tuple (items := #[u1, u2]) (I.ok.hd hc) (IsTup.new s1.heap _) fun h' hx' => ?_)))
  have I3 := I2.kept (h' := h') (t' := s1.toks) fun b o e => hx' b o (Nat.ne_of_lt (Heap.lt_size e)) e
  show wpAny _ _ (assignInOrder [fun v => bindName X.env y v, fun v => bindName X.env x v] [u2, u1] >>= fun _ => pure Flow.next) _ _ _
  refine wpAny_bind (assignInOrder_cons (wpAny_bindName (store_ok I3 hN hj (.inl hy) rw' (fun s2 I4 => ?_) (.inr hy))))
  refine assignInOrder_cons (wpAny_bindName (store_ok I4 hN hi (.inl hx) rv (fun s3 I5 => assignInOrder_nil (wpAny_pure ?_)) (.inr hx)))
  rw [List.set_comm _ _ (Ne.symm hij)] at I5
  exact ⟨_, H1, I5, q1⟩
noncomputable def tAug (i : Nat) (te : TE) (ti : TIp) : TS := fun D σ H => ∃ x, σ[i]? = some (some x) ∧ te σ H fun y H1 => ti x y H1 fun z H2 => D.nx (σ.set i (some z)) H2
noncomputable def tAugS (to ti te : TE) (tget : V → V → Hp → VK → Prop) (tip : TIp) (tset : TSet) : TS := fun D σ H => to σ H fun o H1 => ti σ H1 fun i H2 => tget o i H2 fun x H3 => te σ H3 fun y H4 => tip x y H4 fun z H5 => tset o i z H5 fun H6 => D.nx σ H6
noncomputable def PGet (X : Cx) (t : V → V → Hp → VK → Prop) : Prop :=
  ∀ (pins : List (Addr × Obj)) (s : Shared) (σ : St) (H : Hp) (o i : V) (ov iv : Value) (Q : VK), Inv X pins σ H s → RelV o ov → RelV i iv → t o i H Q →
    wpAny (model X.prog X.w) X.A (getItem ov iv) (EP X pins σ Q) X.xe s
noncomputable def ipI (f : Int → Int → Int) : TIp := fun x y H Q => ∃ i j, x = .int i ∧ y = .int j ∧ Q (.int (f i j)) H
end

section
variable {X : Cx} {pos : Pos}
noncomputable def tWhile (c : TT) (tb : TS) : TS := fun D σ H => ∃ W : Nat → St → Hp → Prop, (∃ m, W m σ H) ∧ ∀ m σ H, W m σ H →
  c σ H fun b H1 => if b = true then ∃ N : St → Hp → Prop, (∀ σ' H', N σ' H' → ∃ m', m' < m ∧ W m' σ' H') ∧ tb { D with nx := N, ct := N, bk := D.nx } σ H1 else D.nx σ H1
theorem ps_while {c : Expr} {body : List Stmt} {tc : TT} {tb : TS} (hp : PassesOwn (model X.prog X.w) X.A X.env X.xe) (hc : PT X c tc) (hb : PSs X body tb) : PS X (.While c body [] pos) (tWhile tc tb) := by
  intro pins s σ H D I h
  obtain ⟨W, ⟨m0, w0⟩, turn⟩ := h
  refine wpAny_While (codeAny_whileLoop (fun n s' => ∃ σ' H', Inv X pins σ' H' s' ∧ W n σ' H') ?_ m0 ⟨σ, H, I, w0⟩)
  rintro n s1 ⟨σ1, H1, I1, w1⟩
  refine wpAny_passesOwn hp (thn (hc pins s1 σ1 H1 _ I1 (turn n σ1 H1 w1)) fun b s2 ⟨H2, I2, q2⟩ => ?_)
  cases b with
  | true =>
    obtain ⟨N, hN, q2⟩ := q2
    rw [if_pos rfl]
    refine wpAny_passesOwn hp (thn (hb pins s2 σ1 H2 _ I2 q2) fun f s3 q3 => ?_)
    cases f with
    | next =>
      obtain ⟨σ3, H3, I3, n3⟩ := q3
      obtain ⟨m', hm, w3⟩ := hN σ3 H3 n3
      exact ⟨m', hm, σ3, H3, I3, w3⟩
    | cont =>
      obtain ⟨σ3, H3, I3, n3⟩ := q3
      obtain ⟨m', hm, w3⟩ := hN σ3 H3 n3
      exact ⟨m', hm, σ3, H3, I3, w3⟩
    | brk => exact q3
    | ret v => exact q3
  | false =>
    rw [if_neg Bool.false_ne_true]
    exact wpAny_execs_nil ⟨σ1, H2, I2, q2⟩
end

structure It where
  go : Nat → Hp → Prop
  yld : Nat → Hp → V → Hp → Prop
  stop : Nat → Hp → Prop
noncomputable def FpOk (X : Cx) (pins : List (Addr × Obj)) (H : Hp) (b : Addr) : Prop :=
  H b = none ∧ b ≠ X.env.locals ∧ b ∉ X.fs ∧ (b ∈ X.ex ∨ X.s₀.heap.objs.size ≤ b) ∧ (∀ x c, X.env.cells.lookup x = some c → c ≠ b) ∧ ∀ p ∈ X.pn ++ pins, p.1 ≠ b
theorem Inv.fpOk {X : Cx} {pins : List (Addr × Obj)} {σ : St} {H H' : Hp} {s : Shared} {b : Addr} (I : Inv X pins σ H s) (hb : s.heap.objs.size ≤ b) (hn : H' b = none) : FpOk X pins H' b := by
  refine ⟨hn, Nat.ne_of_gt (Nat.lt_of_lt_of_le I.lt hb), I.nofs hb, .inr (Nat.le_trans I.sz hb), fun x c e z => ?_, fun p hp z => ?_⟩
  · obtain ⟨v, q⟩ := I.cell x c e
    exact absurd (Nat.lt_of_lt_of_le q.lt (by rw [z]; exact hb)) (Nat.lt_irrefl _)
  · exact absurd (Nat.lt_of_lt_of_le (Heap.lt_size (I.pin p hp).1) (by rw [z]; exact hb)) (Nat.lt_irrefl _)
structure Turn (P : Program) (w : World) (K : PySem.W.Frag) (tg : Expr) (J : It) (fp : List Addr) (it : Addr) (tn : Nat → Heap → Prop) : Prop where
  mem : it ∈ fp
  obj : ∀ i h, tn i h → ∀ b ∈ fp, ∃ o, h.get? b = some o ∧ ∀ v, o.data ≠ .cell v
  keep : ∀ i h h', tn i h → (∀ b ∈ fp, ∀ o, h.get? b = some o → h'.get? b = some o) → tn i h'
  item : ∀ (X : Cx), X.prog = P → X.w = w → X.K = K → X.calm = true → ∀ (i : Nat) (pins : List (Addr × Obj)) (s : Shared) (σ : St) (H : Hp) (E : Value → Shared → Prop), Inv X pins σ H s → (∀ b ∈ fp, FpOk X pins H b) → tn i s.heap → J.go i H →
    wpAny (model P w) X.A (pyNext (.ref it)) (fun r s1 => ∃ u, r = some u ∧
      wpAny (model P w) X.A (letOwnedTupleGo tg (.ref it) u) (fun _ s2 => ∃ x H', Inv X pins σ H' s2 ∧ RelV x u ∧ J.yld i H x H' ∧ tn (i + 1) s2.heap ∧ ∀ b ∈ fp, H' b = none) E s1) E s
  done : ∀ (X : Cx), X.prog = P → X.w = w → X.K = K → X.calm = true → ∀ (i : Nat) (pins : List (Addr × Obj)) (s : Shared) (σ : St) (H : Hp) (E : Value → Shared → Prop), Inv X pins σ H s → (∀ b ∈ fp, FpOk X pins H b) → tn i s.heap → J.stop i H →
    wpAny (model P w) X.A (pyNext (.ref it)) (fun r s1 => r = none ∧ Inv X pins σ H s1) E s
  self : ∀ (A : Around) (i : Nat) (s : Shared) (Q : Value → Shared → Prop) (E : Value → Shared → Prop), tn i s.heap → Q (.ref it) s → wpAny (model P w) A (pyIter (.ref it)) Q E s
noncomputable abbrev TI := St → Hp → (It → Hp → Prop) → Prop
noncomputable def PIE (X : Cx) (pins : List (Addr × Obj)) (σ : St) (tg : Expr) (R : It → Hp → Prop) (itv : Value) (s2 : Shared) : Prop :=
  ∃ (it : Addr) (fp : List Addr) (tn : Nat → Heap → Prop) (J : It) (H' : Hp), itv = .ref it ∧ Inv X pins σ H' s2 ∧ Turn X.prog X.w X.K tg J fp it tn ∧ tn 0 s2.heap ∧ (∀ b ∈ fp, FpOk X pins H' b) ∧ R J H'
noncomputable def PI (X : Cx) (tg iter : Expr) (wi : TI) : Prop :=
  ∀ (pins : List (Addr × Obj)) (s : Shared) (σ : St) (H : Hp) (R : It → Hp → Prop), Inv X pins σ H s → wi σ H R →
    wpAny (model X.prog X.w) X.A (eval iter X.env) (fun v s1 => wpAny (model X.prog X.w) X.A (pyIter v) (PIE X pins σ tg R) X.xe s1) X.xe s

theorem go_of {M : Model} {A : Around} {E : Value → Shared → Prop} {s : Shared} {tg : Expr} {it : Addr} {u : Value} {o : Obj} {n : String} {vs : Array Value} {Q : Unit → Shared → Prop} (ho : s.heap.get? it = some o) (hc : o.cls = .type n) (hd : o.data = .fields vs)
    (hn : ["enumerate", "zip", "dict_itemiterator", "dict_reverseitemiterator", "odict_iterator", "itertools.zip_longest", "itertools.pairwise"].contains n = false) (hQ : Q () s) : wpAny M A (letOwnedTupleGo tg (.ref it) u) Q E s := by
  unfold letOwnedTupleGo
  cases tg <;> first
    | exact wpAny_pure hQ
    | (cases u <;> first
        | exact wpAny_pure hQ
        | (refine wpAny_bind (wpAny_load ho ?_)
           rw [hc, hd]
           show wpAny M A (if (["enumerate", "zip", "dict_itemiterator", "dict_reverseitemiterator", "odict_iterator", "itertools.zip_longest", "itertools.pairwise"].contains n && vs[0]? == some (rawInt _)) = true then _ else _) Q E s
           rw [if_neg (by intro h; rw [hn, Bool.false_and] at h; cases h)]
           exact wpAny_pure hQ))

noncomputable def Itl (K : PySem.W.Frag) (a : Addr) : It :=
  ⟨fun i H => ∃ xs x, SqL K H a xs ∧ xs[i]? = some x, fun i H x H' => H' = H ∧ ∀ xs, SqL K H a xs → xs[i]? = some x, fun i H => ∃ xs, SqL K H a xs ∧ xs.length ≤ i⟩
noncomputable def Itt (K : PySem.W.Frag) (a : Addr) : It :=
  ⟨fun i H => ∃ xs x, SqT K H a xs ∧ xs[i]? = some x, fun i H x H' => H' = H ∧ ∀ xs, SqT K H a xs → xs[i]? = some x, fun i H => ∃ xs, SqT K H a xs ∧ xs.length ≤ i⟩
noncomputable def Itr (lo : Int) (n : Nat) : It := ⟨fun i _ => i < n, fun i H x H' => H' = H ∧ x = .int (lo + i), fun i _ => n ≤ i⟩
theorem turn_list {P : Program} {w : World} {K : PySem.W.Frag} {tg : Expr} (a it : Addr) : Turn P w K tg (Itl K a) [it] it (fun i h => h.IsListIter it a i) where
  mem := by simp
  obj := fun i h st b hb => by
    have e : b = it := by simpa using hb
    subst e
    obtain ⟨o, e, c, d⟩ := st
    exact ⟨o, e, fun v z => by rw [d] at z; cases z⟩
  keep := fun i h h' st k => st.at fun o e => k it (by simp) o e
  item := by
    intro X hP hw hK hc i pins s σ H E I hf st hg
    subst hP hw hK
    obtain ⟨xs, x, hq, hx⟩ := hg
    obtain ⟨its, rv, p, hz⟩ := I.list hq
    obtain ⟨u, hu, ru⟩ := rv.get hx
    obtain ⟨f0, f1, f2, f3, f4, f5⟩ := hf it (by simp)
    refine wpAny_pyNext_list_item st p.isList (x := u) (by simpa using hu) fun h' st' sb => ?_
    have I1 : Inv X pins σ H { s with heap := h' } := I.turned (t' := s.toks) (fun b o hb e => (sb.2 b hb).trans e) f0 f1 f3 f4 f5
    obtain ⟨o, e, c, d⟩ := id st'
    exact ⟨u, rfl, go_of (s := { s with heap := h' }) e c d (by decide) ⟨x, H, I1, ru, ⟨rfl, fun ys hy => by rw [I.list_inj hy hq]; exact hx⟩, st', fun b hb => (hf b hb).1⟩⟩
  done := by
    intro X hP hw hK hc i pins s σ H E I hf st hg
    subst hP hw hK
    obtain ⟨xs, hq, hx⟩ := hg
    obtain ⟨its, rv, p, hz⟩ := I.list hq
    obtain ⟨f0, f1, f2, f3, f4, f5⟩ := hf it (by simp)
    have hl := rv.length
    exact wpAny_pyNext_list_end (I.ok.hd hc) st p.isList (by simp; (first | lia | omega)) fun h' eb => ⟨rfl, I.turned (t' := s.toks) (fun b o hb e => eb b o hb e) f0 f1 f3 f4 f5⟩
  self := fun _ _ _ _ _ st h => wpAny_pyIter_listiter st h
theorem turn_tuple {P : Program} {w : World} {K : PySem.W.Frag} {tg : Expr} (a it : Addr) : Turn P w K tg (Itt K a) [it] it (fun i h => h.IsTupleIter it a i) where
  mem := by simp
  obj := fun i h st b hb => by
    have e : b = it := by simpa using hb
    subst e
    obtain ⟨o, e, c, d⟩ := st
    exact ⟨o, e, fun v z => by rw [d] at z; cases z⟩
  keep := fun i h h' st k => st.at fun o e => k it (by simp) o e
  item := by
    intro X hP hw hK hc i pins s σ H E I hf st hg
    subst hP hw hK
    obtain ⟨xs, x, hq, hx⟩ := hg
    obtain ⟨its, rv, p, hz⟩ := I.tuple hq
    obtain ⟨u, hu, ru⟩ := rv.get hx
    obtain ⟨f0, f1, f2, f3, f4, f5⟩ := hf it (by simp)
    refine wpAny_pyNext_tuple_item st (show s.heap.IsTuple a its.toArray from p) (x := u) (by simpa using hu) fun h' st' sb => ?_
    have I1 : Inv X pins σ H { s with heap := h' } := I.turned (t' := s.toks) (fun b o hb e => (sb.2 b hb).trans e) f0 f1 f3 f4 f5
    obtain ⟨o, e, c, d⟩ := id st'
    exact ⟨u, rfl, go_of (s := { s with heap := h' }) e c d (by decide) ⟨x, H, I1, ru, ⟨rfl, fun ys hy => by rw [I.tuple_inj hy hq]; exact hx⟩, st', fun b hb => (hf b hb).1⟩⟩
  done := by
    intro X hP hw hK hc i pins s σ H E I hf st hg
    subst hP hw hK
    obtain ⟨xs, hq, hx⟩ := hg
    obtain ⟨its, rv, p, hz⟩ := I.tuple hq
    obtain ⟨f0, f1, f2, f3, f4, f5⟩ := hf it (by simp)
    have hl := rv.length
    exact wpAny_pyNext_tuple_end (I.ok.hd hc) st (show s.heap.IsTuple a its.toArray from p) (by simp; (first | lia | omega)) fun h' eb => ⟨rfl, I.turned (t' := s.toks) (fun b o hb e => eb b o hb e) f0 f1 f3 f4 f5⟩
  self := fun _ _ _ _ _ st h => wpAny_pyIter_tupleiter st h
theorem turn_range {P : Program} {w : World} {K : PySem.W.Frag} {tg : Expr} (it : Addr) (lo : Int) (n : Nat) : Turn P w K tg (Itr lo n) [it] it (fun i h => IsRangeIter h it (lo + (i : Nat) * 1) ((n : Int) - (i : Nat)) 1) where
  mem := by simp
  obj := fun i h st b hb => by
    have e : b = it := by simpa using hb
    subst e
    exact ⟨_, st, fun v z => by
      have z' : Data.fields _ = Data.cell v := z
      cases z'⟩
  keep := fun i h h' st k => k it (by simp) _ st
  item := by
    intro X hP hw hK hc i pins s σ H E I hf st hg
    subst hP hw hK
    obtain ⟨f0, f1, f2, f3, f4, f5⟩ := hf it (by simp)
    have W := Walks.range (prog := X.prog) (w := X.w) (I.ok.hd hc) it lo 1 n
    refine W.item i s _ _ hg st fun v h' tk hv st' kk => ?_
    obtain ⟨t, rfl⟩ := hv
    have I1 : Inv X pins σ H { s with heap := h', toks := tk } := I.turned (fun b o hb e => kk b o (by simpa using hb) e) f0 f1 f3 f4 f5
    refine ⟨_, rfl, go_of (s := { s with heap := h', toks := tk }) (n := "range_iterator") st' rfl rfl (by decide) ⟨.int (lo + i), H, I1, ⟨t, ?_⟩, ⟨rfl, rfl⟩, st', fun b hb => (hf b hb).1⟩⟩
    rw [Int.mul_one]
  done := by
    intro X hP hw hK hc i pins s σ H E I hf st hg
    subst hP hw hK
    obtain ⟨f0, f1, f2, f3, f4, f5⟩ := hf it (by simp)
    exact wpAny_pyNext_range_end (I.ok.hd hc) st (by have : n ≤ i := hg; (first | lia | omega)) fun h' eb => ⟨rfl, I.turned (t' := s.toks) (fun b o hb e => eb b o hb e) f0 f1 f3 f4 f5⟩
  self := fun _ _ _ _ _ st h => wpAny_pyIter_rangeiter st h
end L2

namespace L2
open PySem PySem.Spec PyProof.Rows
section
variable {X : Cx} {tg : Expr}
noncomputable def iList (K : PySem.W.Frag) (tl : TE) : TI := fun σ H R => tl σ H fun x H1 => ∃ a, x = .ref a ∧ (∃ xs, SqL K H1 a xs) ∧ R (Itl K a) H1
noncomputable def iTup (K : PySem.W.Frag) (tl : TE) : TI := fun σ H R => tl σ H fun x H1 => ∃ a, x = .ref a ∧ (∃ xs, SqT K H1 a xs) ∧ R (Itt K a) H1
theorem pi_list {l : Expr} {tl : TE} (hl : PE X l tl) : PI X tg l (iList X.K tl) := by
  intro pins s σ H R I h
  refine thn (hl pins s σ H _ I h) fun v s1 ⟨x, H1, I1, r1, q1⟩ => ?_
  obtain ⟨a, e, ⟨xs, hq⟩, q⟩ := q1
  subst e
  cases r1
  obtain ⟨its, rv, p, hz⟩ := I1.list hq
  refine wpAny_pyIter_list p.isList ?_
  refine ⟨s1.heap.objs.size, [s1.heap.objs.size], _, _, H1, rfl, I1.kept (t' := s1.toks) fun b o e => Heap.get?_push_of_some _ e, turn_list a _, ⟨_, Heap.get?_push_size _ rfl, rfl, rfl⟩, fun b hb => ?_, q⟩
  have e : b = s1.heap.objs.size := by simpa using hb
  subst e
  exact I1.fpOk (Nat.le_refl _) (I1.hok.fresh (Nat.le_refl _))
theorem pi_tup {l : Expr} {tl : TE} (hl : PE X l tl) : PI X tg l (iTup X.K tl) := by
  intro pins s σ H R I h
  refine thn (hl pins s σ H _ I h) fun v s1 ⟨x, H1, I1, r1, q1⟩ => ?_
  obtain ⟨a, e, ⟨xs, hq⟩, q⟩ := q1
  subst e
  cases r1
  obtain ⟨its, rv, p, hz⟩ := I1.tuple hq
  refine wpAny_pyIter_tuple (show s1.heap.IsTuple a its.toArray from p) ?_
  refine ⟨s1.heap.objs.size, [s1.heap.objs.size], _, _, H1, rfl, I1.kept (t' := s1.toks) fun b o e => Heap.get?_push_of_some _ e, turn_tuple a _, ⟨_, Heap.get?_push_size _ rfl, rfl, rfl⟩, fun b hb => ?_, q⟩
  have e : b = s1.heap.objs.size := by simpa using hb
  subst e
  exact I1.fpOk (Nat.le_refl _) (I1.hok.fresh (Nat.le_refl _))
theorem range_it {pins : List (Addr × Obj)} {σ : St} {H : Hp} {s : Shared} {R : It → Hp → Prop} {E : Value → Shared → Prop} {lo hi : Int} {t u v : Tok} {tk : Nat} (I : Inv X pins σ H s) (h1 : -(2 ^ 62) ≤ lo) (h2 : lo < 2 ^ 62) (h3 : -(2 ^ 62) ≤ hi) (h4 : hi < 2 ^ 62)
    (q : R (Itr lo (hi - lo).toNat) H) : wpAny (model X.prog X.w) X.A (pyIter (.ref s.heap.objs.size)) (PIE X pins σ tg R) E { s with heap := s.heap.push { cls := .type "range", data := .fields #[.int lo t, .int hi u, .int 1 v] }, toks := tk } := by
  refine wpAny_pyIter_range (IsRange.new ..) (small_one h1 h2 h3 h4) ?_
  have I1 : Inv X pins σ H { s with heap := s.heap.push { cls := .type "range", data := .fields #[.int lo t, .int hi u, .int 1 v] }, toks := tk } := I.kept fun b o e => Heap.get?_push_of_some _ e
  refine ⟨(s.heap.push { cls := .type "range", data := .fields #[.int lo t, .int hi u, .int 1 v] }).objs.size, [(s.heap.push { cls := .type "range", data := .fields #[.int lo t, .int hi u, .int 1 v] }).objs.size], _, _, H, rfl,
    I1.kept (t' := tk) fun b o e => Heap.get?_push_of_some _ e, turn_range _ lo (hi - lo).toNat, ?_, fun b hb => ?_, q⟩
  · have e1 : lo + ((0 : Nat) : Int) * 1 = lo := by simp
    have e2 : (((hi - lo).toNat : Nat) : Int) - ((0 : Nat) : Int) = Builtin.Range.rangeSize lo hi 1 := by rw [rangeSize_one]; split <;> (first | lia | omega)
    show IsRangeIter _ _ (lo + ((0 : Nat) : Int) * 1) ((((hi - lo).toNat : Nat) : Int) - ((0 : Nat) : Int)) 1
    rw [e1, e2]
    exact Heap.get?_push_size _ rfl
  · have e : b = (s.heap.push { cls := .type "range", data := .fields #[.int lo t, .int hi u, .int 1 v] }).objs.size := by simpa using hb
    subst e
    exact I1.fpOk (Nat.le_refl _) (I1.hok.fresh (Nat.le_refl _))
noncomputable def iRng1 (ta : TA) : TI := fun σ H R => ta σ H fun vs H1 => ∃ j : Int, vs = [.int j] ∧ -(2 ^ 62) ≤ j ∧ j < 2 ^ 62 ∧ R (Itr 0 j.toNat) H1
noncomputable def iRng2 (ta : TA) : TI := fun σ H R => ta σ H fun vs H1 => ∃ i j : Int, vs = [.int i, .int j] ∧ (-(2 ^ 62) ≤ i ∧ i < 2 ^ 62 ∧ -(2 ^ 62) ≤ j ∧ j < 2 ^ 62) ∧ R (Itr i (j - i).toNat) H1
theorem pi_range1 {a : Expr} {ta : TA} {p pos : Pos} (hg : Gl X "range") (hm : X.mg "range" = none) (ha : PA X [a] ta) (hs : starEach [a] X.env = [(false, eval a X.env)] := by rfl) : PI X tg (.Call (.Name "range" p) [a] [] pos) (iRng1 ta) := by
  intro pins s σ H R I h
  refine Call_ (ld_blt I hg hm boot_range (PyProof.Rows.callWith_type1 (thn (ha pos pins s σ H _ I h) fun us s1 ⟨vs, H1, I1, r1, q1⟩ => ?_) hs rfl))
  obtain ⟨j, e, q1, q2, q⟩ := q1
  subst e
  cases r1 with
  | cons r rr =>
    cases rr
    obtain ⟨t, rfl⟩ := r
    exact call_range_1 (range_it I1 (by (first | lia | omega)) (by (first | lia | omega)) q1 q2 (by simpa using q))

noncomputable def tFor (wi : TI) (g : TG) (tb : TS) : TS := fun D σ H => wi σ H fun J H1 => ∃ W : Nat → Nat → St → Hp → Prop, (∃ m, W 0 m σ H1) ∧ ∀ i m σ H, W i m σ H →
  (J.stop i H ∧ D.nx σ H) ∨ (J.go i H ∧ ∃ N : St → Hp → Prop, (∀ σ' H', N σ' H' → ∃ m', m' < m ∧ W (i + 1) m' σ' H') ∧ ∀ x H', J.yld i H x H' → g x σ H' fun σ2 H2 => tb { D with nx := N, ct := N, bk := D.nx } σ2 H2)
noncomputable def pinsAt (fp : List Addr) (h : Heap) : List (Addr × Obj) := fp.filterMap fun b => (h.get? b).map fun o => (b, o)
theorem mem_pinsAt {fp : List Addr} {h : Heap} {b : Addr} {o : Obj} (hb : b ∈ fp) (e : h.get? b = some o) : (b, o) ∈ pinsAt fp h := List.mem_filterMap.mpr ⟨b, hb, by rw [e]; rfl⟩
theorem of_pinsAt {fp : List Addr} {h : Heap} {p : Addr × Obj} (hp : p ∈ pinsAt fp h) : p.1 ∈ fp ∧ h.get? p.1 = some p.2 := by
  obtain ⟨b, hb, e⟩ := List.mem_filterMap.mp hp
  cases q : h.get? b with
  | none => rw [q] at e; cases e
  | some o =>
    rw [q] at e
    have e' : (b, o) = p := Option.some.inj e
    subst e'
    exact ⟨hb, q⟩
theorem Inv.pinned {pins : List (Addr × Obj)} {σ : St} {H : Hp} {s : Shared} {fp : List Addr} (I : Inv X pins σ H s) (hf : ∀ b ∈ fp, FpOk X pins H b) (ho : ∀ b ∈ fp, ∃ o, s.heap.get? b = some o ∧ ∀ v, o.data ≠ .cell v) : Inv X (pins ++ pinsAt fp s.heap) σ H s :=
  I.pins_of fun p hp => (List.mem_append.mp hp).elim (fun z => I.pin p (List.mem_append_right _ z)) fun z => by
    obtain ⟨hb, e⟩ := of_pinsAt z
    obtain ⟨f0, f1, f2, _⟩ := hf p.1 hb
    obtain ⟨o, e', d⟩ := ho p.1 hb
    rw [e] at e'; cases e'
    exact ⟨e, f0, f1, f2, d⟩
theorem Inv.unpinned {pins pl : List (Addr × Obj)} {σ : St} {H : Hp} {s : Shared} (I : Inv X (pins ++ pl) σ H s) : Inv X pins σ H s := I.pins_of fun p hp => I.pin p (List.mem_append_right _ (List.mem_append_left _ hp))
theorem ps_for {iter : Expr} {body : List Stmt} {wi : TI} {g : TG} {tb : TS} {pos : Pos} (hp : PassesOwn (model X.prog X.w) X.A X.env X.xe) (hc : X.calm = true) (hi : PI X tg iter wi) (hg : PG X tg g) (hb : PSs X body tb)
    (hs : ∀ x, foldedSetIterable iter X.env x = pure x := by intro _; rfl) : PS X (.For tg iter body [] pos) (tFor wi g tb) := by
  intro pins s σ H D I h
  refine wpAny_For (thn (hi pins s σ H _ I h) fun v s1 h1 => thn h1 fun itv s2 h2 => ?_) hs
  obtain ⟨it, fp, tn, J, H2, e, I2, T, st2, f2, W, ⟨m0, w0⟩, turn⟩ := h2
  subst e
  -- what stays true of the iterator's objects through the loop
  have stat : ∀ {H' : Hp}, (∀ b ∈ fp, H' b = none) → ∀ b ∈ fp, FpOk X pins H' b := fun hn b hb => ⟨hn b hb, (f2 b hb).2⟩
  refine codeAny_forLoop_any (fun n s' => ∃ i σ' H', Inv X pins σ' H' s' ∧ tn i s'.heap ∧ (∀ b ∈ fp, H' b = none) ∧ W i n σ' H') ?_ m0 ⟨0, σ, H2, I2, st2, fun b hb => (f2 b hb).1, w0⟩
  rintro n s3 ⟨i, σ3, H3, I3, st3, fr3, w3⟩
  rcases turn i n σ3 H3 w3 with ⟨stop, qn⟩ | ⟨go, N, hN, step⟩
  · refine wpAny_passesOwn hp (thn (T.done X rfl rfl rfl hc i pins s3 σ3 H3 X.xe I3 (stat fr3) st3 stop) fun r s4 ⟨hr, I4⟩ => ?_)
    subst hr
    exact wpAny_execs_nil ⟨σ3, H3, I4, qn⟩
  · refine wpAny_passesOwn hp (thn (T.item X rfl rfl rfl hc i pins s3 σ3 H3 X.xe I3 (stat fr3) st3 go) fun r s4 ⟨u, hr, h4⟩ => ?_)
    subst hr
    refine wpAny_passesOwn hp (thn h4 fun _ s5 ⟨x, H5, I5, r5, y5, st5, fr5⟩ => ?_)
    have I5' := I5.pinned (stat fr5) (T.obj _ _ st5)
    refine wpAny_passesOwn hp (thn (hg _ s5 σ3 H5 x u _ I5' r5 (step x H5 y5)) fun _ s6 ⟨σ6, H6, I6, q6⟩ => ?_)
    refine wpAny_passesOwn hp (thn (hb _ s6 σ6 H6 _ I6 q6) fun f s7 q7 => ?_)
    have again : ∀ {σ7 : St} {H7 : Hp}, Inv X (pins ++ pinsAt fp s5.heap) σ7 H7 s7 → N σ7 H7 → ∃ m, m < n ∧ ∃ i σ' H', Inv X pins σ' H' s7 ∧ tn i s7.heap ∧ (∀ b ∈ fp, H' b = none) ∧ W i m σ' H' := fun {σ7 H7} I7 n7 => by
      obtain ⟨m', hm, w7⟩ := hN σ7 H7 n7
      refine ⟨m', hm, i + 1, σ7, H7, I7.unpinned, T.keep _ _ _ st5 fun b hb o e => (I7.pin (b, o) (List.mem_append_right _ (List.mem_append_right _ (mem_pinsAt hb e)))).1, fun b hb => ?_, w7⟩
      obtain ⟨o, e, d⟩ := T.obj _ _ st5 b hb
      exact (I7.pin (b, o) (List.mem_append_right _ (List.mem_append_right _ (mem_pinsAt hb e)))).2.1
    cases f with
    | next => obtain ⟨σ7, H7, I7, n7⟩ := q7; exact again I7 n7
    | cont => obtain ⟨σ7, H7, I7, n7⟩ := q7; exact again I7 n7
    | brk => obtain ⟨σ7, H7, I7, q7⟩ := q7; exact ⟨σ7, H7, I7.unpinned, q7⟩
    | ret v => obtain ⟨x7, σ7, H7, I7, r7, q7⟩ := q7; exact ⟨x7, σ7, H7, I7.unpinned, r7, q7⟩
end

theorem for_tup {K : PySem.W.Frag} {a : Addr} {xs : List V} {g : TG} {tb : TS} {D : Ends} {σ : St} {H : Hp} (Pv : Nat → St → Hp → Prop) (h0 : Pv 0 σ H) (hl : ∀ i σ H, i ≤ xs.length → Pv i σ H → SqT K H a xs)
    (hs : ∀ i x σ H, xs[i]? = some x → Pv i σ H → g x σ H fun σ2 H2 => tb { D with nx := Pv (i + 1), ct := Pv (i + 1), bk := D.nx } σ2 H2) (hd : ∀ σ H, Pv xs.length σ H → D.nx σ H) :
    ∃ W : Nat → Nat → St → Hp → Prop, (∃ m, W 0 m σ H) ∧ ∀ i m σ H, W i m σ H →
      ((Itt K a).stop i H ∧ D.nx σ H) ∨ ((Itt K a).go i H ∧ ∃ N : St → Hp → Prop, (∀ σ' H', N σ' H' → ∃ m', m' < m ∧ W (i + 1) m' σ' H') ∧ ∀ x H', (Itt K a).yld i H x H' → g x σ H' fun σ2 H2 => tb { D with nx := N, ct := N, bk := D.nx } σ2 H2) := by
  refine ⟨fun i m σ H => m = xs.length - i ∧ i ≤ xs.length ∧ Pv i σ H, ⟨xs.length, by simp, Nat.zero_le _, h0⟩, ?_⟩
  rintro i m σ H ⟨rfl, hi, p⟩
  have q := hl i σ H hi p
  by_cases hlt : i < xs.length
  · refine .inr ⟨⟨xs, xs[i], q, by simp [hlt]⟩, Pv (i + 1), fun σ' H' p' => ⟨xs.length - (i + 1), by (first | lia | omega), rfl, hlt, p'⟩, fun x H' y => ?_⟩
    obtain ⟨e, y⟩ := y
    subst e
    exact hs i x σ _ (y xs q) p
  · have e : i = xs.length := by (first | lia | omega)
    subst e
    exact .inl ⟨⟨xs, q, Nat.le_refl _⟩, hd σ H p⟩
theorem for_range {lo : Int} {n : Nat} {g : TG} {tb : TS} {D : Ends} {σ : St} {H : Hp} (Pv : Nat → St → Hp → Prop) (h0 : Pv 0 σ H)
    (hs : ∀ i σ H, i < n → Pv i σ H → g (.int (lo + i)) σ H fun σ2 H2 => tb { D with nx := Pv (i + 1), ct := Pv (i + 1), bk := D.nx } σ2 H2) (hd : ∀ σ H, Pv n σ H → D.nx σ H) :
    ∃ W : Nat → Nat → St → Hp → Prop, (∃ m, W 0 m σ H) ∧ ∀ i m σ H, W i m σ H →
      ((Itr lo n).stop i H ∧ D.nx σ H) ∨ ((Itr lo n).go i H ∧ ∃ N : St → Hp → Prop, (∀ σ' H', N σ' H' → ∃ m', m' < m ∧ W (i + 1) m' σ' H') ∧ ∀ x H', (Itr lo n).yld i H x H' → g x σ H' fun σ2 H2 => tb { D with nx := N, ct := N, bk := D.nx } σ2 H2) := by
  refine ⟨fun i m σ H => m = n - i ∧ i ≤ n ∧ Pv i σ H, ⟨n, by simp, Nat.zero_le _, h0⟩, ?_⟩
  rintro i m σ H ⟨rfl, hi, p⟩
  by_cases hlt : i < n
  · refine .inr ⟨hlt, Pv (i + 1), fun σ' H' p' => ⟨n - (i + 1), by (first | lia | omega), rfl, hlt, p'⟩, fun x H' y => ?_⟩
    obtain ⟨e, y⟩ := y
    subst e y
    exact hs i σ _ hlt p
  · have e : i = n := by (first | lia | omega)
    subst e
    exact .inl ⟨Nat.le_refl _, hd σ H p⟩
end L2

namespace L2
open PySem PySem.Spec PyProof.Rows

noncomputable abbrev R2 := V → V → Hp → VK → Prop
noncomputable def OpR (X : Cx) (f : Value → Value → Sem Value) (r : R2) : Prop :=
  ∀ (pins : List (Addr × Obj)) (s : Shared) (σ : St) (H : Hp) (x y : V) (v u : Value) (Q : VK), Inv X pins σ H s → RelV x v → RelV y u → r x y H Q →
    wpAny (model X.prog X.w) X.A (f v u) (EP X pins σ Q) X.xe s
noncomputable def UnR (X : Cx) (f : Value → Sem Value) (r : V → Hp → VK → Prop) : Prop :=
  ∀ (pins : List (Addr × Obj)) (s : Shared) (σ : St) (H : Hp) (x : V) (v : Value) (Q : VK), Inv X pins σ H s → RelV x v → r x H Q →
    wpAny (model X.prog X.w) X.A (f v) (EP X pins σ Q) X.xe s
noncomputable def CallR (X : Cx) (f : Value) (r : List V → Hp → VK → Prop) : Prop :=
  ∀ (pins : List (Addr × Obj)) (s : Shared) (σ : St) (H : Hp) (xs : List V) (us : List Value) (Q : VK), Inv X pins σ H s → Vals xs us → r xs H Q →
    wpAny (model X.prog X.w) X.A (call f us) (EP X pins σ Q) X.xe s
noncomputable def TruR (X : Cx) (r : V → Hp → (Bool → Hp → Prop) → Prop) : Prop :=
  ∀ (pins : List (Addr × Obj)) (s : Shared) (σ : St) (H : Hp) (x : V) (v : Value) (Q : Bool → Hp → Prop), Inv X pins σ H s → RelV x v → r x H Q →
    wpAny (model X.prog X.w) X.A (truthy v) (TP X pins σ Q) X.xe s

noncomputable def tOp (r : R2) (ta tb : TE) : TE := fun σ H Q => ta σ H fun x H1 => tb σ H1 fun y H2 => r x y H2 Q
noncomputable def tUn (r : V → Hp → VK → Prop) (ta : TE) : TE := fun σ H Q => ta σ H fun x H1 => r x H1 Q
noncomputable def rI (C : Int → Int → Prop) (g : Int → Int → V) : R2 := fun x y H Q => ∃ i j, x = .int i ∧ y = .int j ∧ C i j ∧ Q (g i j) H
noncomputable def rI0 (g : Int → Int → V) : R2 := fun x y H Q => ∃ i j, x = .int i ∧ y = .int j ∧ Q (g i j) H
noncomputable def rU (g : Int → V) : V → Hp → VK → Prop := fun x H Q => ∃ i, x = .int i ∧ Q (g i) H

section
variable {X : Cx} {a b c : Expr} {ta tb tc : TE} {pos : Pos}

theorem binT (ha : PE X a ta) (hb : PE X b tb) {pins : List (Addr × Obj)} {s : Shared} {σ : St} {H : Hp} {R : V → V → Hp → Prop} (I : Inv X pins σ H s)
    (h : ta σ H fun x H1 => tb σ H1 fun y H2 => R x y H2) {Q : Value → Shared → Prop} {f : Value → Value → Sem Value}
    (hf : ∀ v u s2 x y H2, Inv X pins σ H2 s2 → RelV x v → RelV y u → R x y H2 → wpAny (model X.prog X.w) X.A (f v u) Q X.xe s2) :
    wpAny (model X.prog X.w) X.A (eval a X.env) (fun v s₁ => wpAny (model X.prog X.w) X.A (eval b X.env) (fun u s₂ => wpAny (model X.prog X.w) X.A (f v u) Q X.xe s₂) X.xe s₁) X.xe s := by
  refine thn (ha pins s σ H _ I h) fun v s1 ⟨x, H1, I1, r1, q1⟩ => ?_
  refine thn (hb pins s1 σ H1 _ I1 q1) fun u s2 ⟨y, H2, I2, r2, q2⟩ => ?_
  exact hf v u s2 x y H2 I2 r1 r2 q2

theorem pe_op {op : Operator} {r : R2} (ho : OpR X (binaryOp op) r) (ha : PE X a ta) (hb : PE X b tb) : PE X (.BinOp a op b pos) (tOp r ta tb) := by
  intro pins s σ H Q I h
  exact wpAny_BinOp (binT ha hb I h fun v u s2 x y H2 I2 rx ry q => ho pins s2 σ H2 x y v u Q I2 rx ry q)
theorem pe_un {op : UnaryOp} {r : V → Hp → VK → Prop} (ho : UnR X (unaryOp op) r) (ha : PE X a ta) : PE X (.UnaryOp op a pos) (tUn r ta) := by
  intro pins s σ H Q I h
  exact UnaryOp_ (thn (ha pins s σ H _ I h) fun v s1 ⟨x, H1, I1, r1, q1⟩ => ho pins s1 σ H1 x v Q I1 r1 q1)

theorem opI {f : Value → Value → Sem Value} {C : Int → Int → Prop} {g : Int → Int → Int}
    (rule : ∀ (i j : Int) (t u : Tok) (s : Shared) (Q : Value → Shared → Prop) (E : Value → Shared → Prop), C i j → Q (.int (g i j) s.toks) { s with toks := s.toks + 1 } → wpAny (model X.prog X.w) X.A (f (.int i t) (.int j u)) Q E s) :
    OpR X f (rI C fun i j => .int (g i j)) := by
  intro pins s σ H x y v u Q I rx ry h
  obtain ⟨i, j, rfl, rfl, hc, q⟩ := h
  obtain ⟨t, rfl⟩ := rx
  obtain ⟨t', rfl⟩ := ry
  exact rule i j t t' s _ _ hc ⟨.int (g i j), H, I.tok _, ⟨_, rfl⟩, q⟩
theorem opI0 {f : Value → Value → Sem Value} {g : Int → Int → Int}
    (rule : ∀ (i j : Int) (t u : Tok) (s : Shared) (Q : Value → Shared → Prop) (E : Value → Shared → Prop), Q (.int (g i j) s.toks) { s with toks := s.toks + 1 } → wpAny (model X.prog X.w) X.A (f (.int i t) (.int j u)) Q E s) :
    OpR X f (rI0 fun i j => .int (g i j)) := by
  intro pins s σ H x y v u Q I rx ry h
  obtain ⟨i, j, rfl, rfl, q⟩ := h
  obtain ⟨t, rfl⟩ := rx
  obtain ⟨t', rfl⟩ := ry
  exact rule i j t t' s _ _ ⟨.int (g i j), H, I.tok _, ⟨_, rfl⟩, q⟩
theorem opB0 {f : Value → Value → Sem Value} {g : Int → Int → Bool}
    (rule : ∀ (i j : Int) (t u : Tok) (s : Shared) (Q : Value → Shared → Prop) (E : Value → Shared → Prop), Q (.bool (g i j)) s → wpAny (model X.prog X.w) X.A (f (.int i t) (.int j u)) Q E s) :
    OpR X f (rI0 fun i j => .bl (g i j)) := by
  intro pins s σ H x y v u Q I rx ry h
  obtain ⟨i, j, rfl, rfl, q⟩ := h
  obtain ⟨t, rfl⟩ := rx
  obtain ⟨t', rfl⟩ := ry
  exact rule i j t t' s _ _ ⟨.bl (g i j), H, I, rfl, q⟩

noncomputable def CDiv (i j : Int) : Prop := 0 < j ∧ j < 1073741824
noncomputable def CDivN (i j : Int) : Prop := j ≠ 0 ∧ j.natAbs < 1073741824
noncomputable def CPow (i j : Int) : Prop := 0 ≤ j ∧ j ≤ 1000000 ∧ i.natAbs < 2 ^ 64
noncomputable def CMul (i j : Int) : Prop := (-(2 ^ 64) < i ∧ i < 2 ^ 64) ∨ (-(2 ^ 64) < j ∧ j < 2 ^ 64)
theorem CMul.ok {i j : Int} (h : CMul i j) : IntMulOk i j := by
  rcases h with ⟨h1, h2⟩ | ⟨h1, h2⟩
  · exact .of_left (intBits_le_64 h1 h2)
  · exact .of_right (intBits_le_64 h1 h2)

theorem op_add : OpR X (binaryOp .Add) (rI0 fun i j => .int (i + j)) := opI0 fun _ _ _ _ _ _ _ q => add_int q
theorem op_sub : OpR X (binaryOp .Sub) (rI0 fun i j => .int (i - j)) := opI0 fun _ _ _ _ _ _ _ q => sub_int q
theorem op_mod : OpR X (binaryOp .Mod) (rI (fun _ j => 0 < j) fun i j => .int (i % j)) := opI fun i j _ _ _ _ _ hc q => by
  have h1 : (0 : Int) < j := hc
  exact mod_int' (by (first | lia | omega)) (by rw [Int.fmod_eq_emod_of_nonneg i (by (first | lia | omega))]; exact q)
theorem op_pow : OpR X (binaryOp .Pow) (rI CPow fun i j => .int (i ^ j.toNat)) := opI fun _ _ _ _ _ _ _ hc q => pow_int_small hc.1 hc.2.1 hc.2.2 q


theorem unI {f : Value → Sem Value} {g : Int → Int}
    (rule : ∀ (i : Int) (t : Tok) (s : Shared) (Q : Value → Shared → Prop) (E : Value → Shared → Prop), Q (.int (g i) s.toks) { s with toks := s.toks + 1 } → wpAny (model X.prog X.w) X.A (f (.int i t)) Q E s) :
    UnR X f (rU fun i => .int (g i)) := by
  intro pins s σ H x v Q I rx h
  obtain ⟨i, rfl, q⟩ := h
  obtain ⟨t, rfl⟩ := rx
  exact rule i t s _ _ ⟨.int (g i), H, I.tok _, ⟨_, rfl⟩, q⟩
theorem un_neg : UnR X (unaryOp .USub) (rU fun i => .int (-i)) := unI fun _ _ _ _ _ q => neg_int q

end

noncomputable def scal : V → V → Bool
  | .non, .non => true | .non, .int _ => true | .int _, .non => true | .non, .bl _ => true | .bl _, .non => true | .non, .str _ => true | .str _, .non => true
  | .int _, .int _ => true | .bl _, .bl _ => true | .str _, .str _ => true | .byt _, .byt _ => true
  | .int _, .str _ => true | .str _, .int _ => true | .bl _, .str _ => true | .str _, .bl _ => true
  | _, _ => false
noncomputable def rEq : R2 := fun x y H Q => scal x y = true ∧ Q (.bl (decide (x = y))) H
noncomputable def rNe : R2 := fun x y H Q => scal x y = true ∧ Q (.bl (!decide (x = y))) H

theorem dec_int {i j : Int} : decide (V.int i = V.int j) = (i == j) := by
  rw [Bool.eq_iff_iff]
  simp
theorem dec_bl {i j : Bool} : decide (V.bl i = V.bl j) = (i == j) := by
  rw [Bool.eq_iff_iff]
  simp
theorem dec_str {i j : Str} : decide (V.str i = V.str j) = (i == j) := by
  rw [Bool.eq_iff_iff]
  simp
theorem dec_byt {i j : Array UInt8} : decide (V.byt i = V.byt j) = (i.toList == j.toList) := by
  rw [Bool.eq_iff_iff]
  cases i
  cases j
  simp

section
variable {X : Cx} {a b c : Expr} {ta tb tc : TE} {pos : Pos}
theorem fin_bl {pins : List (Addr × Obj)} {σ : St} {H : Hp} {s : Shared} {Q : VK} {k k' : Bool} (I : Inv X pins σ H s) (q : Q (.bl k) H) (e : k = k') : EP X pins σ Q (.bool k') s := by
  subst e
  exact ⟨.bl k, H, I, rfl, q⟩
theorem op_eq : OpR X (compareOp .Eq) rEq := by
  intro pins s σ H x y v u Q I rx ry h
  obtain ⟨hs, q⟩ := h
  cases x with
  | non =>
    cases rx
    cases y with
    | non => cases ry; exact PySem.EqNone.eq_none_none (fin_bl I q (by simp))
    | bl j => cases ry; exact PySem.EqNone.eq_none_bool (fin_bl I q (by simp))
    | int j => obtain ⟨t', rfl⟩ := ry; exact PySem.EqNone.eq_none_int (fin_bl I q (by simp))
    | str j => obtain ⟨t', rfl⟩ := ry; exact PySem.EqNone.eq_none_str (fin_bl I q (by simp))
    | _ => exact absurd (show false = true from hs) Bool.false_ne_true
  | bl i =>
    cases rx
    cases y with
    | non => cases ry; exact PySem.EqNone.eq_bool_none (fin_bl I q (by simp))
    | bl j => cases ry; exact eq_bool (fin_bl I q dec_bl)
    | str j => obtain ⟨t', rfl⟩ := ry; exact PySem.EqMixed.eq_bool_str (fin_bl I q (by simp))
    | _ => exact absurd (show false = true from hs) Bool.false_ne_true
  | int i =>
    obtain ⟨t, rfl⟩ := rx
    cases y with
    | non => cases ry; exact PySem.EqNone.eq_int_none (fin_bl I q (by simp))
    | int j => obtain ⟨t', rfl⟩ := ry; exact eq_int (fin_bl I q dec_int)
    | str j => obtain ⟨t', rfl⟩ := ry; exact PySem.EqMixed.eq_int_str (fin_bl I q (by simp))
    | _ => exact absurd (show false = true from hs) Bool.false_ne_true
  | str i =>
    obtain ⟨t, rfl⟩ := rx
    cases y with
    | non => cases ry; exact PySem.EqNone.eq_str_none (fin_bl I q (by simp))
    | bl j => cases ry; exact PySem.EqMixed.eq_str_bool (fin_bl I q (by simp))
    | int j => obtain ⟨t', rfl⟩ := ry; exact PySem.EqMixed.eq_str_int (fin_bl I q (by simp))
    | str j => obtain ⟨t', rfl⟩ := ry; exact eq_str (fin_bl I q dec_str)
    | _ => exact absurd (show false = true from hs) Bool.false_ne_true
  | byt i =>
    obtain ⟨t, rfl⟩ := rx
    cases y with
    | byt j => obtain ⟨t', rfl⟩ := ry; exact PySem.W.eq_bytes (fin_bl I q dec_byt)
    | _ => exact absurd (show false = true from hs) Bool.false_ne_true
  | _ => cases y <;> exact absurd (show false = true from hs) Bool.false_ne_true
theorem op_ne : OpR X (compareOp .NotEq) rNe := by
  intro pins s σ H x y v u Q I rx ry h
  obtain ⟨hs, q⟩ := h
  cases x with
  | non =>
    cases rx
    cases y with
    | non => cases ry; exact PySem.EqNone.ne_none_none (fin_bl I q (by simp))
    | bl j => cases ry; exact PySem.EqNone.ne_none_bool (fin_bl I q (by simp))
    | int j => obtain ⟨t', rfl⟩ := ry; exact PySem.EqNone.ne_none_int (fin_bl I q (by simp))
    | str j => obtain ⟨t', rfl⟩ := ry; exact PySem.EqNone.ne_none_str (fin_bl I q (by simp))
    | _ => exact absurd (show false = true from hs) Bool.false_ne_true
  | bl i =>
    cases rx
    cases y with
    | non => cases ry; exact PySem.EqNone.ne_bool_none (fin_bl I q (by simp))
    | bl j => cases ry; exact ne_bool (fin_bl I q (congrArg not dec_bl))
    | str j => obtain ⟨t', rfl⟩ := ry; exact PySem.EqMixed.ne_bool_str (fin_bl I q (by simp))
    | _ => exact absurd (show false = true from hs) Bool.false_ne_true
  | int i =>
    obtain ⟨t, rfl⟩ := rx
    cases y with
    | non => cases ry; exact PySem.EqNone.ne_int_none (fin_bl I q (by simp))
    | int j => obtain ⟨t', rfl⟩ := ry; exact ne_int (fin_bl I q (congrArg not dec_int))
    | str j => obtain ⟨t', rfl⟩ := ry; exact PySem.EqMixed.ne_int_str (fin_bl I q (by simp))
    | _ => exact absurd (show false = true from hs) Bool.false_ne_true
  | str i =>
    obtain ⟨t, rfl⟩ := rx
    cases y with
    | non => cases ry; exact PySem.EqNone.ne_str_none (fin_bl I q (by simp))
    | bl j => cases ry; exact PySem.EqMixed.ne_str_bool (fin_bl I q (by simp))
    | int j => obtain ⟨t', rfl⟩ := ry; exact PySem.EqMixed.ne_str_int (fin_bl I q (by simp))
    | str j => obtain ⟨t', rfl⟩ := ry; exact ne_str (fin_bl I q (congrArg not dec_str))
    | _ => exact absurd (show false = true from hs) Bool.false_ne_true
  | byt i =>
    obtain ⟨t, rfl⟩ := rx
    cases y with
    | byt j => obtain ⟨t', rfl⟩ := ry; exact PySem.W.ne_bytes (fin_bl I q (congrArg not dec_byt))
    | _ => exact absurd (show false = true from hs) Bool.false_ne_true
  | _ => cases y <;> exact absurd (show false = true from hs) Bool.false_ne_true

theorem op_lt : OpR X (compareOp .Lt) (rI0 fun i j => .bl (decide (i < j))) := opB0 fun _ _ _ _ _ _ _ q => lt_int q
theorem op_le : OpR X (compareOp .LtE) (rI0 fun i j => .bl (decide (i ≤ j))) := opB0 fun _ _ _ _ _ _ _ q => le_int q
theorem op_gt : OpR X (compareOp .Gt) (rI0 fun i j => .bl (decide (j < i))) := opB0 fun _ _ _ _ _ _ _ q => gt_int q
theorem op_ge : OpR X (compareOp .GtE) (rI0 fun i j => .bl (decide (j ≤ i))) := opB0 fun _ _ _ _ _ _ _ q => ge_int q
theorem op_in_str : OpR X (compareOp .In) (fun x y H Q => ∃ i j, x = .str i ∧ y = .str j ∧ Q (.bl (!(Builtin.Str.occurrences j i 0 j.length 1).isEmpty)) H) := by
  intro pins s σ H x y v u Q I rx ry h
  obtain ⟨i, j, rfl, rfl, q⟩ := h
  obtain ⟨t, rfl⟩ := rx
  obtain ⟨t', rfl⟩ := ry
  exact in_str (fin_bl I q rfl)


noncomputable def isObj : HO → Bool
  | .lst _ => true
  | .ins _ _ _ => true
  | _ => false


theorem nomark (b : Expr) {op : CmpOp} (h : op ≠ .In := by decide) (h2 : op ≠ .NotIn := by decide) : behindInMarks op b = false := by
  have e1 : (op == CmpOp.In) = false := by cases op <;> first | rfl | exact absurd rfl h
  have e2 : (op == CmpOp.NotIn) = false := by cases op <;> first | rfl | exact absurd rfl h2
  cases b <;> simp [behindInMarks, e1, e2]
theorem pe_cmpR {op : CmpOp} {r : R2} (ho : OpR X (compareOp op) r) (ha : PE X a ta) (hb : PE X b tb) (hm : behindInMarks op b = false) : PE X (.Compare a [op] [b] pos) (tOp r ta tb) := by
  intro pins s σ H Q I h
  exact wpAny_Compare1 (binT ha hb I h fun v u s2 x y H2 I2 rx ry q => ho pins s2 σ H2 x y v u Q I2 rx ry q) hm
noncomputable def tTest (t : TE) : TT := fun σ H Q => t σ H fun x H' => ∃ k, x = .bl k ∧ Q k H'
theorem pt_cmpR {op : CmpOp} {r : R2} (ho : OpR X (compareOp op) r) (ha : PE X a ta) (hb : PE X b tb) (hm : behindInMarks op b = false) : PT X (.Compare a [op] [b] pos) (tTest (tOp r ta tb)) := by
  intro pins s σ H Q I h
  refine wpAny_isTrue_Compare1 (thn (ha pins s σ H _ I h) fun v s1 ⟨x, H1, I1, r1, q1⟩ => thn (hb pins s1 σ H1 _ I1 q1) fun u s2 ⟨y, H2, I2, r2, q2⟩ =>
    thn (ho pins s2 σ H2 x y v u _ I2 r1 r2 q2) fun c s3 ⟨z, H3, I3, r3, k, e, q3⟩ => ?_) hm
  subst e
  cases r3
  exact wpAny_truthy_bool ⟨H3, I3, q3⟩
noncomputable def tChain (r r' : R2) (ta tb tc : TE) : TE := fun σ H Q => ta σ H fun x H1 => tb σ H1 fun y H2 => r x y H2 fun z H3 => ∃ k, z = .bl k ∧
  (if k = true then tc σ H3 fun w' H4 => r' y w' H4 Q else Q (.bl false) H3)

noncomputable def TruV (K : PySem.W.Frag) (x : V) (H : Hp) (k : Bool) : Prop :=
  match x with
  | .non => k = false
  | .bl b => k = b
  | .int i => k = (i != 0)
  | .str y => y.length ≤ sizeLine ∧ k = ((y.length : Int) != 0)
  | .byt y => y.size ≤ sizeLine ∧ k = ((y.size : Int) != 0)
  | .ref p => (∃ xs, SqL K H p xs ∧ k = !xs.isEmpty) ∨ (∃ xs, SqT K H p xs ∧ k = !xs.isEmpty) ∨ ∃ kvs, H p = some (.dK kvs) ∧ k = !kvs.isEmpty
  | _ => False
theorem line63 : (sizeLine : Nat) < 2 ^ 63 := by rw [sizeLine_eq]; decide

theorem op_add_str : OpR X (binaryOp .Add) (fun x y H Q => ∃ i j, x = .str i ∧ y = .str j ∧ i.length + j.length ≤ sizeLine ∧ Q (.str (i ++ j)) H) := by
  intro pins s σ H x y v u Q I rx ry h
  obtain ⟨i, j, rfl, rfl, hz, q⟩ := h
  obtain ⟨t, rfl⟩ := rx
  obtain ⟨t', rfl⟩ := ry
  exact add_str (fun t' tk => ⟨.str (i ++ j), H, I.tok _, ⟨_, rfl⟩, q⟩) hz

noncomputable def PlainIxT (b : Expr) : Prop := ∀ o i, subscripted b false o i = operate [o, i] (getItem o i)

theorem vals1 {x : V} {us : List Value} (r : Vals [x] us) : ∃ u, us = [u] ∧ RelV x u := by
  cases r with
  | cons r1 r2 => cases r2; exact ⟨_, rfl, r1⟩
theorem vals2 {x y : V} {us : List Value} (r : Vals [x, y] us) : ∃ u w', us = [u, w'] ∧ RelV x u ∧ RelV y w' := by
  cases r with
  | cons r1 r2 =>
    cases r2 with
    | cons r3 r4 => cases r4; exact ⟨_, _, rfl, r1, r3⟩
theorem call_abs : CallR X (.builtin "abs") (fun xs H Q => ∃ i, xs = [.int i] ∧ Q (.int (if i < 0 then -i else i)) H) := by
  intro pins s σ H xs us Q I r h
  obtain ⟨i, rfl, q⟩ := h
  obtain ⟨u, rfl, t, rfl⟩ := vals1 r
  exact call_abs_int fun u tk => ⟨.int (if i < 0 then -i else i), H, I.tok _, ⟨_, rfl⟩, q⟩
theorem call_str_int : CallR X (.type "str") (fun xs H Q => ∃ i, xs = [.int i] ∧ i.natAbs.log2 < 1920 ∧ Q (.str (toString i)) H) := by
  intro pins s σ H xs us Q I r h
  obtain ⟨i, rfl, hz, q⟩ := h
  obtain ⟨u, rfl, t, rfl⟩ := vals1 r
  exact PySem.P.str_of_int hz ⟨.str _, H, I.tok _, ⟨_, rfl⟩, q⟩
noncomputable def LenV (K : PySem.W.Frag) (x : V) (H : Hp) (n : Nat) : Prop :=
  match x with
  | .str y => y.length ≤ sizeLine ∧ n = y.length
  | .byt y => y.size ≤ sizeLine ∧ n = y.size
  | .ref p => (∃ xs, SqL K H p xs ∧ n = xs.length) ∨ ∃ xs, SqT K H p xs ∧ n = xs.length
  | _ => False
end
end L2

namespace L2
open PySem PySem.Spec PyProof.Rows

structure ObjM (h : Heap) (x dx C : Addr) (mA : Str → Option Value) : Prop where
  obj : h.get? x = some (PySem.W.instObj C dx)
  ns : h.Ns1 dx mA
  ne : dx ≠ x

theorem lookIn_ns {h : Heap} {dx : Addr} {mA : Str → Option Value} (n : h.Ns1 dx mA) : ∃ od, h.get? dx = some od ∧ ∀ name, PySem.W.lookIn name od = some (mA name) := by
  obtain ⟨o, es, ep, ho, hd, hk, _, hm⟩ := n
  refine ⟨o, ho, fun name => ?_⟩
  have e := hm name
  unfold nsFind findBy at e
  rw [← Array.find?_toList] at e
  unfold PySem.W.lookIn
  rw [hd]
  dsimp only
  split
  · rename_i y q
    rw [q] at e
    exact congrArg some e
  · rename_i q
    rw [q] at e
    have a : es.toList.any (·.refKey) = false := by
      rw [List.any_eq_false]
      intro y hy
      obtain ⟨z, t, hkey⟩ := hk y (Array.mem_toList_iff.mp hy)
      simp [DictEntry.refKey, hkey]
    have a' : ¬ es.toList.any (·.refKey) = true := by rw [a]; exact Bool.false_ne_true
    rw [if_neg a']
    exact congrArg some e

theorem ObjM.look {h : Heap} {x dx C : Addr} {mA : Str → Option Value} (I : ObjM h x dx C mA) : ∃ od, PySem.W.InstAt h x (PySem.W.instObj C dx) C (some od) ∧ ∀ name, PySem.W.lookIn name od = some (mA name) :=
  let ⟨od, ho, hl⟩ := lookIn_ns I.ns
  ⟨od, ⟨I.obj, rfl, rfl, ho⟩, hl⟩

section
variable {prog : Program} {w : World} {A : Around} {E : Value → Shared → Prop} {s : Shared} {K : PySem.W.Frag} {x dx C f : Addr} {mA : Str → Option Value} {name : Str} {v : Value}

theorem get_map {expr : Bool} {Q : Value → Shared → Prop} (X : K.In s.heap) (I : ObjM s.heap x dx C mA) (hg : PySem.W.plainGet K C name = true) (hh : PySem.W.hasDictIn K C = true)
    (ha : PySem.W.findIn K (.ref C) name = some none) (hv : mA name = some v) (hv' : PySem.W.handedIn v = true) (h : Q v { s with toks := s.toks + 1 }) :
    wpAny (model prog w) A (getAttr (.ref x) name expr) Q E s := by
  obtain ⟨od, J, hl⟩ := I.look
  exact PySem.W.get_value X J (PySem.W.plainGet_of hg).1 (PySem.W.findObj_own hh ha rfl (by rw [hl, hv])) hv' h


theorem get_meth {pl : Sem Bool} {Q : Value × List Value → Shared → Prop} (X : K.In s.heap) (I : ObjM s.heap x dx C mA) (hg : PySem.W.plainGet K C name = true)
    (hf : PySem.W.findIn K (.ref C) name = some (some (.ref f))) (ht : PySem.W.isFn K (.ref f) = true) (hv : mA name = none) (h : Q (.ref f, [.ref x]) s) :
    wpAny (model prog w) A (getMethod (.ref x) name pl) Q E s := by
  obtain ⟨od, J, hl⟩ := I.look
  exact PySem.W.method_fn X J (PySem.W.plainGet_of hg).1 (PySem.W.plainGet_of hg).2 hf (beq_iff_eq.mp ht) (by show (PySem.W.lookIn name od).map (·.isSome) = some false; rw [hl, hv]; rfl) h

theorem set_map {ns : List Str} {Q : Unit → Shared → Prop} (X : K.In s.heap) (I : ObjM s.heap x dx C mA)
    (hs : PySem.W.findIn K (.ref C) "__setattr__" = some (some (.builtin "object.__setattr__"))) (hp : PySem.W.plainOver K C = true) (ht : PySem.W.takerIn K C name = some none) (hh : PySem.W.hasDictIn K C = true)
    (hw : PySem.Within mA ns) (hsz : ns.length ≤ sizeLine)
    (h : ∀ h', ObjM h' x dx C (fun y => if y = name then some v else mA y) → Heap.SameBut dx s.heap h' → Q () { s with heap := h', toks := s.toks + 2 }) :
    wpAny (model prog w) A (setAttr (.ref x) name v) Q E s := by
  obtain ⟨od, J, hl⟩ := I.look
  refine PySem.W.set_plain X J hs (PySem.W.osa_open (s := { s with toks := s.toks + 1 }) (r := none) X J hp ht fun b => ?_)
  obtain ⟨cd, hc, hd'⟩ := PySem.W.any_some hh
  have hx : s.heap.get? x = some ⟨.ref C, some dx, .plain, #[]⟩ := I.obj
  refine wpAny_bind (wpAny_pure (wpAny_bind (wpAny_bind (wpAny_loadPart hx (wpAny_bind (PySem.W.Looks.here (s := { s with toks := s.toks + 1 }) (PySem.W.looks_clsIn X hc) ?_))))))
  rw [hd']
  refine wpAny_pure (a := some dx) (wpAny_bind (wpAny_pure (wpAny_bind ?_)))
  refine wpAny_nsSet1 (s := { s with toks := s.toks + 1 }) I.ns fun h' hn2 hs2 => ?_
  obtain ⟨oD, esD, epD, hoD, hdD, hcD⟩ := hn2.count (PySem.Within.cons name v hw)
  refine wpAny_bind (wpAny_lookBehind hoD (by rw [hdD]; exact pastItsLine_dict (Nat.le_trans hcD (by rw [List.length_cons]; (first | lia | omega)))) ?_)
  exact wpAny_pure (h _ ⟨(hs2.2 _ (Ne.symm I.ne)).trans I.obj, hn2, I.ne⟩ hs2)

theorem make_map {R : Result → Shared → Prop} {vs : List Value} {kw : List (Str × Value)} (X : K.In s.heap) (hm : PySem.W.makesIn K C = true)
    (hi : PySem.W.findIn K (.ref C) "__init__" = some (some (.ref f))) (hf : PySem.W.typeIn K (.ref f) = some (.type "function"))
    (h : codeAny (model prog w) (A.under (.builtin "type.__call__" ⟨.ref C :: vs, kw⟩)) (.call (.ref f) ⟨.ref (s.heap.objs.size + 1) :: vs, kw⟩) (PySem.W.InitBack (s.heap.objs.size + 1) R)
      { s with heap := (s.heap.push PySem.W.emptyDict).push (PySem.W.instObj C s.heap.objs.size) }) :
    codeAny (model prog w) A (.call (.ref C) ⟨vs, kw⟩) R s := by
  obtain ⟨hh, g, d, t, os⟩ := s
  exact PySem.W.make_core (PySem.W.makes_of X hm) (PySem.W.looks_findIn X hi) (fun self => PySem.W.bind_fn X self hf) (.inl rfl) h
end

noncomputable def putF (f : Str) (v : V) : List (Str × V) → List (Str × V)
  | [] => [(f, v)]
  | (g, x) :: r => if g = f then (g, v) :: r else (g, x) :: putF f v r
theorem lookup_putF (f g : Str) (v : V) : ∀ fs : List (Str × V), (putF f v fs).lookup g = if g = f then some v else fs.lookup g
  | [] => by
    show List.lookup g [(f, v)] = _
    by_cases h : g = f
    · have hb : (g == f) = true := beq_iff_eq.mpr h
      simp only [List.lookup, hb, if_pos h]
    · have hb : (g == f) = false := beq_eq_false_iff_ne.mpr h
      simp only [List.lookup, hb, if_neg h]
  | (k, x) :: r => by
    have ih := lookup_putF f g v r
    rw [show putF f v ((k, x) :: r) = (if k = f then (k, v) :: r else (k, x) :: putF f v r) from rfl]
    by_cases hk : k = f
    · rw [if_pos hk]
      by_cases h : g = k
      · have hb : (g == k) = true := beq_iff_eq.mpr h
        simp only [List.lookup, hb, if_pos (h.trans hk)]
      · have hb : (g == k) = false := beq_eq_false_iff_ne.mpr h
        simp only [List.lookup, hb, if_neg (fun e : g = f => h (e.trans hk.symm))]
    · rw [if_neg hk]
      by_cases h : g = k
      · have hb : (g == k) = true := beq_iff_eq.mpr h
        simp only [List.lookup, hb, if_neg (fun e : g = f => hk (h.symm.trans e))]
      · have hb : (g == k) = false := beq_eq_false_iff_ne.mpr h
        simp only [List.lookup, hb]
        exact ih
theorem keys_putF (f : Str) (v : V) : ∀ fs : List (Str × V), f ∈ (putF f v fs).map (·.1) ∧ ∀ g, g ∈ fs.map (·.1) → g ∈ (putF f v fs).map (·.1)
  | [] => ⟨by simp [putF], fun g h => by simp at h⟩
  | (k, x) :: r => by
    obtain ⟨i1, i2⟩ := keys_putF f v r
    rw [show putF f v ((k, x) :: r) = (if k = f then (k, v) :: r else (k, x) :: putF f v r) from rfl]
    by_cases hk : k = f
    · rw [if_pos hk]
      subst hk
      exact ⟨by simp, fun g h => by simpa using h⟩
    · rw [if_neg hk]
      refine ⟨?_, fun g h => ?_⟩
      · rw [List.map_cons]
        exact List.mem_cons_of_mem _ i1
      · rw [List.map_cons] at h ⊢
        rcases List.mem_cons.mp h with e | e
        · exact List.mem_cons.mpr (.inl e)
        · exact List.mem_cons_of_mem _ (i2 g e)
theorem length_putF (f : Str) (v : V) : ∀ fs : List (Str × V), (putF f v fs).length ≤ fs.length + 1
  | [] => by simp [putF]
  | (k, x) :: r => by
    have ih := length_putF f v r
    rw [show putF f v ((k, x) :: r) = (if k = f then (k, v) :: r else (k, x) :: putF f v r) from rfl]
    by_cases hk : k = f
    · rw [if_pos hk, List.length_cons, List.length_cons]; (first | lia | omega)
    · rw [if_neg hk, List.length_cons, List.length_cons]; (first | lia | omega)

theorem RelO.some_of {v : V} {o : Option Value} (r : RelO (some v) o) : ∃ u, o = some u ∧ RelV v u := by
  cases o with
  | none => exact (show False from r).elim
  | some u => exact ⟨u, rfl, r⟩
theorem RelO.none_of {o : Option Value} (r : RelO none o) : o = none := by
  cases o with
  | none => rfl
  | some u => exact (show False from r).elim
theorem handed_of {v : V} {u : Value} (r : RelV v u) : PySem.W.handedIn u = true := by
  cases v with
  | non => cases (show u = Value.none from r); rfl
  | bl b => cases (show u = Value.bool b from r); rfl
  | int i => obtain ⟨t, e⟩ := (show ∃ t, u = Value.int i t from r); cases e; rfl
  | str x => obtain ⟨t, e⟩ := (show ∃ t, u = Value.str x t from r); cases e; rfl
  | byt b => obtain ⟨t, e⟩ := (show ∃ t, u = Value.bytes b t from r); cases e; rfl
  | flt b => obtain ⟨t, e⟩ := (show ∃ t, u = Value.float b t from r); cases e; rfl
  | ref a => cases (show u = Value.ref a from r); rfl
  | ty n => cases (show u = Value.type n from r); rfl

section
variable {P : Program} {w : World} {H H' : Hp} {h h' : Heap} {a C dx : Addr} {fs fs' : List (Str × V)}
theorem ins_get (hok : HOk P w H h) (e : H a = some (.ins C dx fs)) : ∃ mA, ObjM h a dx C mA ∧ (∀ f, RelO (fs.lookup f) (mA f)) ∧ PySem.Within mA (fs.map (·.1)) ∧ fs.length ≤ 1000 ∧ H dx = some (.own a) := by
  obtain ⟨d, z, ne, ob, mA, n, r, q⟩ := (show ObjOk P w H h a (.ins C dx fs) from hok a _ e)
  exact ⟨mA, ⟨ob, n, ne⟩, r, q, z, d⟩
end

structure Cls (K : PySem.W.Frag) (C : Addr) : Prop where
  pg : PySem.W.plainGet K C Str.empty = true
  hd : PySem.W.hasDictIn K C = true
  po : PySem.W.plainOver K C = true
  sa : PySem.W.findIn K (.ref C) "__setattr__" = some (some (.builtin "object.__setattr__"))
theorem Cls.get {K : PySem.W.Frag} {C : Addr} (c : Cls K C) (f : Str) : PySem.W.plainGet K C f = true := c.pg
noncomputable def NoAttr (K : PySem.W.Frag) (C : Addr) (f : Str) : Prop := PySem.W.findIn K (.ref C) f = some none
theorem NoAttr.taker {K : PySem.W.Frag} {C : Addr} {f : Str} (n : NoAttr K C f) : PySem.W.takerIn K C f = some none := by
  unfold PySem.W.takerIn
  rw [show PySem.W.findIn K (.ref C) f = some none from n]
  rfl
structure Con (K : PySem.W.Frag) (C : Addr) (f : Str) (v : V) (u : Value) : Prop where
  at_ : PySem.W.findIn K (.ref C) f = some (some u)
  rel : RelV v u
  get : PySem.W.specialIn K u "__get__" = some none
  cp : PySem.W.copiedNames.contains f = false
structure Meth (K : PySem.W.Frag) (C : Addr) (m : Str) (f : Addr) : Prop where
  at_ : PySem.W.findIn K (.ref C) m = some (some (.ref f))
  fn : PySem.W.isFn K (.ref f) = true
  kp : PySem.W.keepIn K (.ref f) = true

section
variable {X : Cx} {pins : List (Addr × Obj)} {σ : St} {H : Hp} {s : Shared} {a C dx : Addr} {fs : List (Str × V)} {f : Str} {v : V} {A : Around} {E : Value → Shared → Prop}

theorem getattr_ok {b : Bool} {Q : Value → Shared → Prop} (I : Inv X pins σ H s) (e : H a = some (.ins C dx fs)) (c : Cls X.K C) (n : NoAttr X.K C f) (l : fs.lookup f = some v)
    (h : ∀ u s', Inv X pins σ H s' → RelV v u → Q u s') : wpAny (model X.prog X.w) A (getAttr (.ref a) f b) Q E s := by
  obtain ⟨mA, O, r, _, _, _⟩ := ins_get I.hok e
  obtain ⟨u, hu, ru⟩ := RelO.some_of (v := v) (o := mA f) (by rw [← l]; exact r f)
  exact get_map I.kIn O (c.get f) c.hd n hu (handed_of ru) (h u _ (I.tok _) ru)


theorem getmeth_ok {m : Str} {g : Addr} {pl : Sem Bool} {Q : Value × List Value → Shared → Prop} (I : Inv X pins σ H s) (e : H a = some (.ins C dx fs)) (c : Cls X.K C) (k : Meth X.K C m g) (l : fs.lookup m = none)
    (h : Q (.ref g, [.ref a]) s) : wpAny (model X.prog X.w) A (getMethod (.ref a) m pl) Q E s := by
  obtain ⟨mA, O, r, _, _, _⟩ := ins_get I.hok e
  have hn : mA m = none := RelO.none_of (by rw [← l]; exact r m)
  exact get_meth I.kIn O (c.get m) k.at_ k.fn hn h

theorem setattr_ok {y : V} {u : Value} {Q : Unit → Shared → Prop} (I : Inv X pins σ H s) (e : H a = some (.ins C dx fs)) (c : Cls X.K C) (n : NoAttr X.K C f) (hl : fs.length < 1000) (ry : RelV y u)
    (h : ∀ s', Inv X pins σ (upd H a (.ins C dx (putF f y fs))) s' → Q () s') : wpAny (model X.prog X.w) A (setAttr (.ref a) f u) Q E s := by
  obtain ⟨mA, O, r, wi, _, ho⟩ := ins_get I.hok e
  have hz : (fs.map (·.1)).length ≤ sizeLine := by rw [List.length_map, sizeLine_eq]; (first | lia | omega)
  refine set_map I.kIn O c.sa c.po n.taker c.hd wi hz fun h' O' sb => h _ ?_
  have hd : ∃ o, h'.get? dx = some o := let ⟨o, _, _, e', _⟩ := O'.ns; ⟨o, e'⟩
  refine I.write (x := a) (e := dx) (by rw [e]; exact True.intro) (.inr ho) (fun b q hb z => (sb.2 b hb).trans z) hd ?_
  refine ⟨by rw [upd_ne O.ne]; exact ho, ?_, O.ne, O'.obj, _, O'.ns, fun g => ?_, fun g hg => ?_⟩
  · have := length_putF f y fs; (first | lia | omega)
  · show RelO ((putF f y fs).lookup g) (if g = f then some u else mA g)
    rw [lookup_putF]
    by_cases q : g = f
    · rw [if_pos q, if_pos q]; exact ry
    · rw [if_neg q, if_neg q]; exact r g
  · by_cases q : g = f
    · rw [q]; exact (keys_putF f y fs).1
    · refine (keys_putF f y fs).2 g (wi g fun z => hg ?_)
      show (if g = f then some u else mA g) = none
      rw [if_neg q]; exact z

theorem Inv.made (I : Inv X pins σ H s) : Inv X pins σ (upd (upd H s.heap.objs.size (.own (s.heap.objs.size + 1))) (s.heap.objs.size + 1) (.ins C s.heap.objs.size []))
    { s with heap := (s.heap.push PySem.W.emptyDict).push (PySem.W.instObj C s.heap.objs.size) } := by
  have e1 : (s.heap.push PySem.W.emptyDict).get? s.heap.objs.size = some PySem.W.emptyDict := Heap.get?_push_size s.heap rfl
  have e2 : ((s.heap.push PySem.W.emptyDict).push (PySem.W.instObj C s.heap.objs.size)).get? (s.heap.objs.size + 1) = some (PySem.W.instObj C s.heap.objs.size) := by
    have := Heap.get?_push_size (s.heap.push PySem.W.emptyDict) (o := PySem.W.instObj C s.heap.objs.size) rfl
    rwa [Heap.size_push] at this
  have e3 : (s.heap.push PySem.W.emptyDict).Ns s.heap.objs.size (fun _ => none) := ⟨PySem.W.emptyDict, #[], _, e1, rfl, (fun e he => absurd he (by simp)), fun _ => rfl⟩
  have I1 := I.laid (a := s.heap.objs.size) (o := .own (s.heap.objs.size + 1)) (h' := s.heap.push PySem.W.emptyDict) (t' := s.toks) (fun b u q => Heap.get?_push_of_some _ q) (Nat.le_refl _) ⟨_, e1⟩
  refine I1.laid (a := s.heap.objs.size + 1) (o := .ins C s.heap.objs.size []) (t' := s.toks) (fun b u q => Heap.get?_push_of_some _ q) (Nat.le_of_eq (Heap.size_push _ _)) ?_
  have ne : s.heap.objs.size ≠ s.heap.objs.size + 1 := Nat.ne_of_lt (Nat.lt_succ_self _)
  refine ⟨by rw [upd_ne ne, upd_same], Nat.zero_le _, ne, e2, fun _ => none, (Heap.Ns1.of_empty e3).at fun o q => Heap.get?_push_of_some _ q, fun _ => True.intro, fun y hy => absurd rfl hy⟩

theorem attr_of {prog : Program} {w : World} {env : Env} {e : Expr} {f : Str} {pos : Pos} {s : Shared} {Q : Value → Shared → Prop} (hb : attributeBase e f env (eval e env) = eval e env)
    (h : wpAny (model prog w) A (eval e env) (fun o s₁ => wpAny (model prog w) A (getAttr o f true) Q E s₁) E s) : wpAny (model prog w) A (eval (.Attribute e f pos) env) Q E s :=
  Attribute_any_ h (by rw [arm_eval_Attribute, hb])
end

noncomputable def tFld (K : PySem.W.Frag) (ta : TE) (f : Str) : TE := fun σ H Q => ta σ H fun x H1 => ∃ a C dx fs v, x = .ref a ∧ H1 a = some (.ins C dx fs) ∧ Cls K C ∧ NoAttr K C f ∧ fs.lookup f = some v ∧ Q v H1
noncomputable def tCon (K : PySem.W.Frag) (ta : TE) (f : Str) : TE := fun σ H Q => ta σ H fun x H1 => ∃ a C dx fs v u, x = .ref a ∧ H1 a = some (.ins C dx fs) ∧ Cls K C ∧ Con K C f v u ∧ fs.lookup f = none ∧ Q v H1
noncomputable def sFld (K : PySem.W.Frag) (ta tv : TE) (f : Str) : TS := fun D σ H => tv σ H fun y H1 => ta σ H1 fun x H2 => ∃ a C dx fs, x = .ref a ∧ H2 a = some (.ins C dx fs) ∧ Cls K C ∧ NoAttr K C f ∧ fs.length < 1000 ∧
  D.nx σ (upd H2 a (.ins C dx (putF f y fs)))
noncomputable def InOp (X : Cx) (op : Operator) (rd : V → V → Hp → VK → Prop) : Prop :=
  ∀ (pins : List (Addr × Obj)) (s : Shared) (σ : St) (H : Hp) (x y : V) (u v : Value) (Q : VK), Inv X pins σ H s → RelV x u → RelV y v → rd x y H Q → wpAny (model X.prog X.w) X.A (inplaceOp op u v) (EP X pins σ Q) X.xe s
noncomputable def sFldAug (K : PySem.W.Frag) (ta tv : TE) (rd : V → V → Hp → VK → Prop) (f : Str) : TS := fun D σ H => ta σ H fun x H1 => ∃ a C dx fs v, x = .ref a ∧ H1 a = some (.ins C dx fs) ∧ Cls K C ∧ NoAttr K C f ∧ fs.lookup f = some v ∧
  tv σ H1 fun y H2 => rd v y H2 fun z H3 => ∃ dx' fs', H3 a = some (.ins C dx' fs') ∧ fs'.length < 1000 ∧ D.nx σ (upd H3 a (.ins C dx' (putF f z fs')))

section
variable {X : Cx} {o e value : Expr} {f : Str} {pos pos' tpos : Pos} {ta tv : TE}
theorem pe_fld (he : PE X e ta) (hb : attributeBase e f X.env (eval e X.env) = eval e X.env) : PE X (.Attribute e f pos) (tFld X.K ta f) := by
  intro pins s σ H Q I h
  refine attr_of hb (thn (he pins s σ H _ I h) fun u s1 ⟨x, H1, I1, rx, a, C, dx, fs, v, ex, ea, c, n, l, q⟩ => ?_)
  subst ex
  obtain rfl : u = Value.ref a := rx
  exact getattr_ok I1 ea c n l fun u' s2 I2 ru => ⟨v, H1, I2, ru, q⟩
theorem ps_fld (ha : PE X o ta) (hv : PE X value tv) (hs : swapsWith value (some (.Attribute o f pos')) pos.line X.env = pure false) : PS X (.Assign [.Attribute o f pos'] value pos) (sFld X.K ta tv f) := by
  intro pins s σ H D I h
  refine plainObj_wpAny_Assign_Attribute (thn (hv pins s σ H _ I h) fun u s1 ⟨y, H1, I1, ry, q⟩ => thn (ha pins s1 σ H1 _ I1 q) fun ov s2 ⟨x, H2, I2, rx, a, C, dx, fs, ex, ea, c, n, l, q2⟩ => ?_) hs
  subst ex
  obtain rfl : ov = Value.ref a := rx
  exact setattr_ok I2 ea c n l ry fun s3 I3 => ⟨σ, _, I3, q2⟩
noncomputable def rAdd : V → V → Hp → VK → Prop := fun x y H Q => ∃ i j, x = .int i ∧ y = .int j ∧ Q (.int (i + j)) H
noncomputable def rSub : V → V → Hp → VK → Prop := fun x y H Q => ∃ i j, x = .int i ∧ y = .int j ∧ Q (.int (i - j)) H

end

section
variable {X : Cx} {pins : List (Addr × Obj)} {σ : St} {H : Hp} {s : Shared} {A : Around} {E : Value → Shared → Prop} {Q : Value → Shared → Prop} {c : Value} {b : Bool}
inductive TyOf (K : PySem.W.Frag) (H : Hp) : V → Value → Prop where
  | non : TyOf K H .non (.type "NoneType")
  | bl (x : Bool) : TyOf K H (.bl x) (.type "bool")
  | int (i : Int) : TyOf K H (.int i) (.type "int")
  | str (x : Str) : TyOf K H (.str x) (.type "str")
  | flt (x : UInt64) : TyOf K H (.flt x) (.type "float")
  | lst {a : Addr} {xs : List V} (e : H a = some (.lst xs)) : TyOf K H (.ref a) (.type "list")
  | frz {a : Addr} {o : Obj} {xs : List V} (e : H a = some (.frz o (.lst xs))) : TyOf K H (.ref a) (.type "list")
  | tup {a : Addr} {xs : List V} (e : H a = some (.tup xs)) : TyOf K H (.ref a) (.type "tuple")
  | dK {a : Addr} {kvs : List (Key × V)} (e : H a = some (.dK kvs)) : TyOf K H (.ref a) (.type "dict")
  | dT {a : Addr} {kvs : List (List Key × V)} (e : H a = some (.dT kvs)) : TyOf K H (.ref a) (.type "dict")
  | ins {a C dx : Addr} {fs : List (Str × V)} (e : H a = some (.ins C dx fs)) (cl : Cls K C) (ha : PySem.W.findIn K (.ref C) "__class__" = some (some (.builtin "object.__class__")))
      (hn : PySem.W.specialIn K (.builtin "object.__class__") "__get__" = some (some (.builtin "getset_descriptor.__get__"))) (htk : PySem.W.takesIn K (.builtin "object.__class__") = some true)
      (hm : PySem.W.mroIn K C (.type "object") = some true) : TyOf K H (.ref a) (.ref C)
theorem isinst_ok {x : V} {u t : Value} (I : Inv X pins σ H s) (rx : RelV x u) (ty : TyOf X.K H x t) (e : PySem.W.kitOne X.K t c = some b) (h : ∀ tk, Q (.bool b) { s with toks := tk }) :
    wpAny (model X.prog X.w) A (call (.builtin "isinstance") [u, c]) Q E s := by
  cases ty with
  | non => cases (show u = Value.none from rx); exact PySem.W.kia_one PySem.W.kitx_none I.kIn True.intro e (fun z => nomatch z) h
  | bl y => cases (show u = Value.bool y from rx); exact PySem.W.kia_one PySem.W.kitx_bool I.kIn True.intro e (fun z => nomatch z) h
  | int i => obtain ⟨t, q⟩ := (show ∃ t, u = Value.int i t from rx); cases q; exact PySem.W.kia_one PySem.W.kitx_int I.kIn True.intro e (fun z => nomatch z) h
  | str y => obtain ⟨t, q⟩ := (show ∃ t, u = Value.str y t from rx); cases q; exact PySem.W.kia_one PySem.W.kitx_str I.kIn True.intro e (fun z => nomatch z) h
  | flt y => obtain ⟨t, q⟩ := (show ∃ t, u = Value.float y t from rx); cases q; exact PySem.W.kia_one PySem.W.kitx_float I.kIn True.intro e (fun z => nomatch z) h
  | @lst a xs ea =>
    cases (show u = Value.ref a from rx)
    obtain ⟨_, _, n, _, h1⟩ := (show ObjOk X.prog X.w H s.heap a (.lst xs) from I.hok a _ ea)
    exact PySem.W.kia_one PySem.W.kitx_list I.kIn ⟨_, h1, rfl⟩ e (fun z => nomatch z) h
  | @frz a ob xs ea =>
    cases (show u = Value.ref a from rx)
    obtain ⟨_, _, _, n, _, h1⟩ := (show ObjOk X.prog X.w H s.heap a (.frz ob (.lst xs)) from I.hok a _ ea)
    exact PySem.W.kia_one PySem.W.kitx_list I.kIn ⟨_, h1, rfl⟩ e (fun z => nomatch z) h
  | @tup a xs ea =>
    cases (show u = Value.ref a from rx)
    obtain ⟨_, _, _, p⟩ := (show ObjOk X.prog X.w H s.heap a (.tup xs) from I.hok a _ ea)
    obtain ⟨o, h1, h2, _⟩ := p
    exact PySem.W.kia_one PySem.W.kitx_tuple I.kIn ⟨o, h1, h2⟩ e (fun z => nomatch z) h
  | @dK a kvs ea =>
    cases (show u = Value.ref a from rx)
    obtain ⟨_, _, vs, _, p⟩ := (show ObjOk X.prog X.w H s.heap a (.dK kvs) from I.hok a _ ea)
    obtain ⟨o, es, ep, h1, h2, _⟩ := p
    exact PySem.W.kia_one PySem.W.kitx_dict I.kIn ⟨o, h1, h2.1⟩ e (fun z => nomatch z) h
  | @dT a kvs ea =>
    cases (show u = Value.ref a from rx)
    obtain ⟨_, _, xs, _, o, es, ep, h1, h2, _⟩ := (show ObjOk X.prog X.w H s.heap a (.dT kvs) from I.hok a _ ea)
    exact PySem.W.kia_one PySem.W.kitx_dict I.kIn ⟨o, h1, h2.1⟩ e (fun z => nomatch z) h
  | @ins a C dx fs ea cl ha hn htk hm =>
    cases (show u = Value.ref a from rx)
    obtain ⟨mA, O, _⟩ := ins_get I.hok ea
    obtain ⟨od, J, _⟩ := O.look
    exact PySem.W.kia_one (PySem.W.kitx_own (cl.get _) cl.hd ha hn htk hm) I.kIn J e (fun z => nomatch z) h
end
end L2

namespace L2
open PySem PySem.Spec PyProof.Rows

structure Room (k : Nat) (A : Around) : Prop where
  hd : A.handled = none
  dp : A.depth + 3 * k + 5 < recursionLimit
  un : A.units + 16 * k + 200 < cLine
theorem Room.mono {j k : Nat} {A : Around} (r : Room k A) (h : j ≤ k) : Room j A := ⟨r.hd, by have := r.dp; (first | lia | omega), by have := r.un; (first | lia | omega)⟩
theorem Room.deeper {k : Nat} {A : Around} (r : Room (k + 1) A) (env : Env) : Room k (A.deeper env) :=
  ⟨r.hd, by have := r.dp; show A.depth + 1 + 3 * k + 5 < _; (first | lia | omega), by have := r.un; show A.units + 3 + 16 * k + 200 < _; (first | lia | omega)⟩
theorem make_depth {A : Around} {C : Addr} {us : List Value} {kw : List (Str × Value)} : (A.under (.builtin "type.__call__" ⟨.ref C :: us, kw⟩)).depth = A.depth + 1 := by
  first | rfl | simp [Around.under, Code.weight, Code.isCreation, Code.isGuard, Code.isCaller, Code.frames, Code.isFrame, guardIds]
theorem make_units {A : Around} {C : Addr} {us : List Value} {kw : List (Str × Value)} : (A.under (.builtin "type.__call__" ⟨.ref C :: us, kw⟩)).units = A.units + 1 := by
  first | rfl | simp [Around.under, Code.cUnits, Code.frames, Code.isFrame]
theorem Room.make {k : Nat} {A : Around} (r : Room (k + 1) A) (C : Addr) (us : List Value) (kw : List (Str × Value)) : Room k (A.under (.builtin "type.__call__" ⟨.ref C :: us, kw⟩)) :=
  ⟨r.hd, by have := r.dp; rw [make_depth]; (first | lia | omega), by have := r.un; rw [make_units]; (first | lia | omega)⟩
theorem Room.depth {k : Nat} {A : Around} (r : Room k A) : A.depth < recursionLimit := by have := r.dp; (first | lia | omega)
theorem Room.units {k : Nat} {A : Around} (r : Room k A) : A.units + 64 < cLine := by have := r.un; (first | lia | omega)

noncomputable def tNil : TA := fun _ H Q => Q [] H
noncomputable def tCons (ta : TE) (tr : TA) : TA := fun σ H Q => ta σ H fun x H1 => tr σ H1 fun xs H2 => Q (x :: xs) H2
section
variable {X : Cx} {e : Expr} {es : List Expr} {te : TE} {t : TA} {pos : Pos}
theorem pa_nil : PA X [] tNil := fun _ _ _ _ H Q I h => Calls.spliced_nil ⟨[], H, I, .nil, h⟩
theorem pa_cons (ha : PE X e te) (hr : PA X es t) (hs : starEach (e :: es) X.env = (false, eval e X.env) :: starEach es X.env := by rfl) : PA X (e :: es) (tCons te t) := by
  intro pos pins s σ H Q I h
  rw [hs]
  show wpAny _ _ (spliced ((false, eval e X.env) :: backTo pos (starEach es X.env))) _ _ s
  refine Calls.spliced_cons (thn (ha pins s σ H _ I h) fun u s1 ⟨x, H1, I1, r1, q1⟩ => ?_)
  exact thn (hr pos pins s1 σ H1 _ I1 q1) fun us s2 ⟨xs, H2, I2, r2, q2⟩ => ⟨x :: xs, H2, I2, .cons r1 r2, q2⟩

noncomputable def tTup (t : TA) : TE := fun σ H Q => t σ H fun xs H1 => xs.length ≤ sizeLine ∧ ∀ p, H1 p = none → Q (.ref p) (upd H1 p (.tup xs))
noncomputable def tLst (t : TA) : TE := fun σ H Q => t σ H fun xs H1 => xs.length ≤ sizeLine ∧ ∀ p, H1 p = none → Q (.ref p) (upd H1 p (.lst xs))
theorem pe_tup {x1} (h : PA X es t) : PE X (.Tuple es x1 pos) (tTup t) := by
  intro pins s σ H Q I hq
  refine wpAny_Tuple_spliced (thn (h pos pins s σ H _ I hq) fun us s1 ⟨xs, H1, I1, r, z, q⟩ => ⟨by rw [← r.length]; exact z, ?_⟩)
  have hf : H1 s1.heap.objs.size = none := I1.hok.fresh (Nat.le_refl _)
  refine ⟨.ref s1.heap.objs.size, upd H1 s1.heap.objs.size (.tup xs), I1.laid (t' := s1.toks) (fun b u e => Heap.get?_push_of_some _ e) (Nat.le_refl _) ?_, rfl, q _ hf⟩
  exact ⟨z, us, r, ⟨_, Heap.get?_push_size _ rfl, rfl, _, rfl⟩⟩
theorem pe_lst (h : PA X es t) : PE X (.List es pos) (tLst t) := by
  intro pins s σ H Q I hq
  refine wpAny_List_spliced (thn (h pos pins s σ H _ I hq) fun us s1 ⟨xs, H1, I1, r, z, q⟩ => ⟨by rw [← r.length]; exact z, ?_⟩)
  have hf : H1 s1.heap.objs.size = none := I1.hok.fresh (Nat.le_refl _)
  refine ⟨.ref s1.heap.objs.size, upd H1 s1.heap.objs.size (.lst xs), I1.laid (t' := s1.toks) (fun b u e => Heap.get?_push_of_some _ e) (Nat.le_refl _) ?_, rfl, q _ hf⟩
  exact ⟨z, us, 0, r, Heap.get?_push_size _ rfl⟩
end

noncomputable abbrev Sp := List V → Hp → VK → XK → Prop
noncomputable abbrev CXT := List Env → Hp → Shared → XK → Value → Shared → Prop

structure Env0 (P : Program) (w : World) (K : PySem.W.Frag) (mg : Str → Option Value) (base : Heap) (A : Around) (outer : List Env) (s : Shared) (H : Hp) : Prop where
  frames : A.frames = some outer
  mod : Mod K mg base
  bs : ∀ b o, base.get? b = some o → s.heap.get? b = some o ∧ H b = none
  bsz : base.objs.size ≤ s.heap.objs.size
  funs : s.heap.FunFrames base outer
  frf : ∀ b ∈ frs outer, H b = none
  hok : HOk P w H s.heap
  bare : AllBare s.gens
noncomputable def CE (outer : List Env) (P : Program) (w : World) (H : Hp) (s : Shared) (Q : VK) (u : Value) (s' : Shared) : Prop :=
  ∃ v H', s'.os = s.os ∧ AllBare s'.gens ∧ Un (frs outer) [] H H' s.heap s'.heap ∧ HOk P w H' s'.heap ∧ RelV v u ∧ Q v H'
noncomputable def CR (CX : CXT) (outer : List Env) (P : Program) (w : World) (H : Hp) (s : Shared) (Q : VK) (E : XK) (r : Result) (s' : Shared) : Prop :=
  match r with
  | .ok (.ret u) => CE outer P w H s Q u s'
  | .ok _ => False
  | .error e => CX outer H s E e s'
structure FnOk (P : Program) (w : World) (K : PySem.W.Frag) (mg : Str → Option Value) (base : Heap) (CX : CXT) (k : Nat) (f : Addr) (fd : FuncData) (ps : List Str) (sp : Sp) : Prop where
  len : ∀ vs H Q E, sp vs H Q E → vs.length = ps.length
  run : ∀ (A : Around) (outer : List Env) (s : Shared) (H : Hp) (args : Args) (us : List Value) (vs : List V) (Q : VK) (E : XK), Room k A → Env0 P w K mg base A outer s H → BindsTo s fd args (ps.zip us) → Vals vs us → sp vs H Q E →
    codeAny (model P w) A (.call (.ref f) args) (CR CX outer P w H s Q E) s
theorem FnOk.imp {P : Program} {w : World} {K : PySem.W.Frag} {mg : Str → Option Value} {base : Heap} {CX : CXT} {k : Nat} {f : Addr} {fd : FuncData} {ps : List Str} {sp sp' : Sp} (F : FnOk P w K mg base CX k f fd ps sp)
    (h : ∀ vs H Q E, sp' vs H Q E → sp vs H Q E) : FnOk P w K mg base CX k f fd ps sp' :=
  ⟨fun vs H Q E q => F.len vs H Q E (h _ _ _ _ q), fun A outer s H args us vs Q E hr he hb hv hs => F.run A outer s H args us vs Q E hr he hb hv (h _ _ _ _ hs)⟩

theorem Env0.make {P : Program} {w : World} {K : PySem.W.Frag} {mg : Str → Option Value} {base : Heap} {A : Around} {outer : List Env} {s : Shared} {H : Hp} (e : Env0 P w K mg base A outer s H) (C : Addr) (us : List Value) (kw : List (Str × Value)) :
    Env0 P w K mg base (A.under (.builtin "type.__call__" ⟨.ref C :: us, kw⟩)) outer s H := ⟨by first | exact e.frames | (simpa [Around.under, Code.envs, Code.isFrame, pushEnvs] using e.frames), e.mod, e.bs, e.bsz, e.funs, e.frf, e.hok, e.bare⟩

section
variable {X : Cx} {pins : List (Addr × Obj)} {σ : St} {H : Hp} {s s' : Shared}
theorem Inv.env0 (I : Inv X pins σ H s) : Env0 X.prog X.w X.K X.mg X.base X.A X.stack s H :=
  ⟨I.ok.frames, I.ok.mod, I.bs, Nat.le_trans I.ok.bsz I.sz, I.stack, I.stkFree, I.hok, I.bare⟩
theorem Inv.after {Q : VK} {u : Value} (I : Inv X pins σ H s) (h : CE X.stack X.prog X.w H s Q u s') : EP X pins σ Q u s' := by
  obtain ⟨v, H', os, bare, un, hok, r, q⟩ := h
  obtain ⟨hh, g, d, t, os'⟩ := s'
  obtain rfl : os' = s.os := os
  exact ⟨v, H', I.call (h' := hh) (g' := g) (d' := d) (t' := t) (ch := []) un hok bare (fun b z => absurd z (by simp)), r, q⟩
end

noncomputable def tCall (sp : Sp) (dvs : List V) (E : XK) (t : TA) : TE := fun σ H Q => t σ H fun vs H1 => sp (vs ++ dvs) H1 Q E
noncomputable def tMeth (C : Addr) (m : Str) (sp : Sp) (dvs : List V) (E : XK) (ta : TE) (t : TA) : TE := fun σ H Q => ta σ H fun x H1 => ∃ a dx fs, x = .ref a ∧ H1 a = some (.ins C dx fs) ∧ fs.lookup m = none ∧
  t σ H1 fun vs H2 => sp (x :: (vs ++ dvs)) H2 Q E
noncomputable def tMake (C : Addr) (sp : Sp) (dvs : List V) (E : XK) (t : TA) : TE := fun σ H Q => t σ H fun vs H1 => ∀ x dx, H1 x = none → H1 dx = none → dx ≠ x →
  sp (.ref x :: (vs ++ dvs)) (upd (upd H1 dx (.own x)) x (.ins C dx [])) (fun v H2 => v = .non ∧ Q (.ref x) H2) E

noncomputable def Binds (K : PySem.W.Frag) (fd : FuncData) (ps : List Str) (ds : List Value) : Prop :=
  ∀ (s : Shared) (us : List Value), K.In s.heap → (us ++ ds).length = ps.length → BindsTo s fd ⟨us, []⟩ (ps.zip (us ++ ds))
theorem Binds.all {K : PySem.W.Frag} {fd : FuncData} {ps : List Str} (h : ∀ us : List Value, us.length = ps.length → bindArgs fd ⟨us, []⟩ = pure (ps.zip us)) : Binds K fd ps [] := fun s us _ hl => by
  rw [List.append_nil] at hl ⊢
  exact .of_eq (h us hl)

noncomputable def Passes (CX : CXT) (X : Cx) (E : XK) : Prop := ∀ (pins : List (Addr × Obj)) (σ : St) (H : Hp) (s : Shared) (e : Value) (s' : Shared), Inv X pins σ H s → CX X.stack H s E e s' → X.xe e s'

section
variable {X : Cx} {CX : CXT} {k : Nat} {f C : Addr} {fd : FuncData} {ps : List Str} {sp : Sp} {dvs : List V} {ds : List Value} {E : XK} {x m : Str} {p pos apos : Pos} {e o : Expr} {es : List Expr} {ta : TE} {t : TA}

theorem run_fn {pins : List (Addr × Obj)} {σ : St} {H : Hp} {s : Shared} {Q : VK} {us : List Value} {vs : List V} (F : FnOk X.prog X.w X.K X.mg X.base CX k f fd ps sp) (hr : Room k X.A) (hb : Binds X.K fd ps ds) (hd : Vals dvs ds) (hx : Passes CX X E)
    (I : Inv X pins σ H s) (r : Vals vs us) (h : sp (vs ++ dvs) H Q E) : wpAny (model X.prog X.w) X.A (call (.ref f) us) (EP X pins σ Q) X.xe s := by
  have r2 : Vals (vs ++ dvs) (us ++ ds) := r.append hd
  have hl : (us ++ ds).length = ps.length := by rw [← r2.length]; exact F.len _ _ _ _ h
  refine wpAny_call (codeAny_mono (F.run X.A X.stack s H ⟨us, []⟩ (us ++ ds) (vs ++ dvs) Q E hr I.env0 (hb s us I.kIn hl) r2 h) fun r s' hq => ?_)
  cases r with
  | error e => exact hx pins σ H s e s' I hq
  | ok fl =>
    cases fl with
    | ret u => exact I.after hq
    | next => exact False.elim hq
    | brk => exact False.elim hq
    | cont => exact False.elim hq

theorem pe_call (F : FnOk X.prog X.w X.K X.mg X.base CX k f fd ps sp) (hr : Room k X.A) (hg : Gl X x) (hm : X.mg x = some (.ref f)) (hk : PySem.W.keepIn X.K (.ref f) = true) (hb : Binds X.K fd ps ds) (hd : Vals dvs ds) (hx : Passes CX X E)
    (ha : PA X (e :: es) t) (hdb : (x == ("__debug__" : Str)) = false := by decide) (he : starEach (e :: es) X.env = (false, eval e X.env) :: starEach es X.env := by rfl) (hpl : (backTo pos (starEach es X.env)).any (·.1) = false := by rfl) :
    PE X (.Call (.Name x p) (e :: es) [] pos) (tCall sp dvs E t) := by
  intro pins s σ H Q I h
  refine wpAny_Call_Name_kw (ld_glob I hg hm ?_ hdb)
  refine PySem.W.callWith_K (h₀ := X.base) I.ok.mod.kin hk (thn (ha pos pins s σ H _ I h) fun us s1 ⟨vs, H1, I1, r, q⟩ => ⟨I1.kIn, ?_⟩) he hpl
  exact run_fn F hr hb hd hx I1 r q

theorem pe_meth0 {pl : Sem Bool} (he : PE X o ta) (c : Cls X.K C) (hm : Meth X.K C m f) (F : FnOk X.prog X.w X.K X.mg X.base CX k f fd ps sp) (hr : Room k X.A) (hb : Binds X.K fd ps ds) (hd : Vals dvs ds) (hx : Passes CX X E)
    (ht : eval (.Call (.Attribute o m apos) [] [] pos) X.env = (do
      let ov ← eval o X.env
      standAt apos.atName
      let (f, first) ← holding [ov] (getMethod ov m pl)
      callWith pos f first (backTo pos (starEach [] X.env)) (backToKw pos (keywordEach [] X.env))) := by rfl) :
    PE X (.Call (.Attribute o m apos) [] [] pos) (tMeth C m sp dvs E ta tNil) := by
  intro pins s σ H Q I h
  refine PySem.W.methodCall_KW (pl := pl) (thn (he pins s σ H _ I h) fun u s1 ⟨x, H1, I1, rx, a, dx, fs, ex, ea, l, q⟩ => ?_) ht
  subst ex
  obtain rfl : u = Value.ref a := rx
  refine getmeth_ok I1 ea c hm l ?_
  exact PySem.W.callWith_K0 (first := [.ref a]) I1.kIn hm.kp (run_fn (us := [.ref a]) (vs := [.ref a]) F hr hb hd hx I1 (.cons rfl .nil) q)

structure Mk (K : PySem.W.Frag) (C f : Addr) : Prop where
  makes : PySem.W.makesIn K C = true
  init : PySem.W.findIn K (.ref C) "__init__" = some (some (.ref f))
  fn : PySem.W.isFn K (.ref f) = true
  kp : PySem.W.keepIn K (.ref C) = true

end

noncomputable def PK (X : Cx) (kws : List Keyword) (t : TA) : Prop :=
  ∀ (pos : Pos) (pins : List (Addr × Obj)) (s : Shared) (σ : St) (H : Hp) (Q : List V → Hp → Prop), Inv X pins σ H s → t σ H Q → wpAny (model X.prog X.w) X.A (evalAll ((backToKw pos (keywordEach kws X.env)).map (·.2))) (AP X pins σ Q) X.xe s
section
variable {X : Cx} {CX : CXT} {k : Nat} {f C : Addr} {fd : FuncData} {ps ks : List Str} {sp : Sp} {E : XK} {x m : Str} {p pos apos kpos : Pos} {e o : Expr} {es : List Expr} {kws : List Keyword} {te ta : TE} {t tk : TA} {nm : Option Str}

structure KBinds (K : PySem.W.Frag) (fd : FuncData) (ps ks : List Str) (g : List Value → List Value → List Value) (gV : List V → List V → List V) : Prop where
  to : ∀ (s : Shared) (us ws : List Value), K.In s.heap → (g us ws).length = ps.length → BindsTo s fd ⟨us, ks.zip ws⟩ (ps.zip (g us ws))
  rel : ∀ {vs : List V} {us : List Value} {zs : List V} {ws : List Value}, Vals vs us → Vals zs ws → Vals (gV vs zs) (g us ws)
noncomputable def tCallK (sp : Sp) (gV : List V → List V → List V) (E : XK) (t tk : TA) : TE := fun σ H Q => t σ H fun vs H1 => tk σ H1 fun zs H2 => sp (gV vs zs) H2 Q E
variable {g : List Value → List Value → List Value} {gV : List V → List V → List V}
end

structure FnScope (N P : List Str) (sc : Scope) : Prop where
  kind : sc.kind = .function
  co : sc.isCoroutine = false
  gen : sc.isGenerator = false
  nd : N.Nodup
  pre : N.take P.length = P
  par : ∀ x ∈ P, sc.names.lookup x = some .local ∨ sc.names.lookup x = some .cell
  nofree : ∀ y ∈ sc.names, y.2 ≠ .free

theorem bindL_out {kindOf : Str → Option NameKind} {x : Str} : ∀ {binds : List (Str × Value)} {m : Str → Option Value}, (∀ v, (x, v) ∉ binds) → bindL kindOf binds m x = m x
  | [], _, _ => rfl
  | (n, v) :: r, m, h => by
    unfold bindL
    rw [bindL_out fun w hw => h w (List.mem_cons_of_mem _ hw)]
    split
    · have : x ≠ n := by rintro rfl; exact h v List.mem_cons_self
      simp [this]
    · rfl
theorem bindC_out {kindOf : Str → Option NameKind} {x : Str} : ∀ {binds : List (Str × Value)} {m : Str → Option Value}, (∀ v, (x, v) ∉ binds) → bindC kindOf binds m x = m x
  | [], _, _ => rfl
  | (n, v) :: r, m, h => by
    unfold bindC
    rw [bindC_out fun w hw => h w (List.mem_cons_of_mem _ hw)]
    split
    · rfl
    · have : x ≠ n := by rintro rfl; exact h v List.mem_cons_self
      simp [this]
theorem bindL_get {kindOf : Str → Option NameKind} {x : Str} {v : Value} : ∀ {P : List Str} {vs : List Value} {i : Nat} {m : Str → Option Value}, P.Nodup → P[i]? = some x → vs[i]? = some v → kindOf x = some .local →
    bindL kindOf (P.zip vs) m x = some v
  | [], _, _, _, _, h, _, _ => by simp at h
  | _ :: _, [], _, _, _, _, h, _ => by simp at h
  | p :: P, w :: vs, 0, m, nd, h1, h2, hk => by
    simp at h1 h2; subst h1; subst h2
    show bindL kindOf ((p, w) :: P.zip vs) m p = _
    unfold bindL
    rw [bindL_out fun v hv => (List.nodup_cons.mp nd).1 (List.of_mem_zip hv).1, if_pos hk]
    simp
  | p :: P, w :: vs, i + 1, m, nd, h1, h2, hk => by
    show bindL kindOf ((p, w) :: P.zip vs) m x = _
    unfold bindL
    exact bindL_get (i := i) (List.nodup_cons.mp nd).2 (by simpa using h1) (by simpa using h2) hk
theorem bindC_get {kindOf : Str → Option NameKind} {x : Str} {v : Value} : ∀ {P : List Str} {vs : List Value} {i : Nat} {m : Str → Option Value}, P.Nodup → P[i]? = some x → vs[i]? = some v → kindOf x ≠ some .local →
    bindC kindOf (P.zip vs) m x = some v
  | [], _, _, _, _, h, _, _ => by simp at h
  | _ :: _, [], _, _, _, _, h, _ => by simp at h
  | p :: P, w :: vs, 0, m, nd, h1, h2, hk => by
    simp at h1 h2; subst h1; subst h2
    show bindC kindOf ((p, w) :: P.zip vs) m p = _
    unfold bindC
    rw [bindC_out fun v hv => (List.nodup_cons.mp nd).1 (List.of_mem_zip hv).1, if_neg hk]
    simp
  | p :: P, w :: vs, i + 1, m, nd, h1, h2, hk => by
    show bindC kindOf ((p, w) :: P.zip vs) m x = _
    unfold bindC
    exact bindC_get (i := i) (List.nodup_cons.mp nd).2 (by simpa using h1) (by simpa using h2) hk

noncomputable def start (N : List Str) (vs : List V) : St := vs.map some ++ List.replicate (N.length - vs.length) none

noncomputable def cxOf (CX : CXT) (P : Program) (w : World) (K : PySem.W.Frag) (mg : Str → Option Value) (base : Heap) (N : List Str) (qual : Str) (scope : Scope) (f : Addr) (cd : Value) (A : Around) (outer : List Env) (s : Shared) (H : Hp) (E : XK) : Cx where
  prog := P
  w := w
  K := K
  mg := mg
  base := base
  A := A.deeper (envOfC qual scope s.heap.objs.size f cd)
  N := N
  s₀ := s
  H₀ := H
  env := envOfC qual scope s.heap.objs.size f cd
  outer := outer
  stack := envOfC qual scope s.heap.objs.size f cd :: outer
  ex := []
  calm := true
  fn := fun _ => true
  pn := []
  xe := fun e s' => wpAny (model P w) (A.deeper (envOfC qual scope s.heap.objs.size f cd)) (leaving (envOfC qual scope s.heap.objs.size f cd) e) (fun _ s'' => CX outer H s E e s'') (fun e' s'' => CX outer H s E e' s'') s'

theorem cell_has {sc : Scope} {n : Nat} {x : Str} (h : sc.names.lookup x = some .cell) : ∃ c, (cellsFrom n sc.names []).lookup x = some c := by
  have q := PySem.W.cellsFrom_some sc.names n [] (.inl h)
  exact Option.isSome_iff_exists.mp q

theorem inv_start {CX : CXT} {P : Program} {w : World} {K : PySem.W.Frag} {mg : Str → Option Value} {base : Heap} {N ps : List Str} {qual : Str} {scope : Scope} {f : Addr} {cd : Value} {A : Around} {outer : List Env} {s s1 : Shared} {H : Hp} {E : XK} {us : List Value} {vs : List V}
    (S : FnScope N ps scope) (hd : A.handled = none) (e0 : Env0 P w K mg base A outer s H) (hl : vs.length = ps.length) (r : Vals vs us)
    (x : InCallC s s.heap.objs.size (bindL (envOfC qual scope s.heap.objs.size f cd).kindOf (ps.zip us) fun _ => none) (cellsFrom (s.heap.objs.size + 1) scope.names []) (bindC (envOfC qual scope s.heap.objs.size f cd).kindOf (ps.zip us) fun _ => none) s1) :
    Inv (cxOf CX P w K mg base N qual scope f cd A outer s H E) [] (start N vs) H s1 := by
  have hpl : ps.length ≤ N.length := by have := congrArg List.length S.pre; rw [List.length_take] at this; (first | lia | omega)
  obtain ⟨h1, tk, rfl, hk⟩ := x.done
  have noA : ∀ b : Addr, b ∉ (cxOf CX P w K mg base N qual scope f cd A outer s H E).ex := fun b z => absurd (show b ∈ ([] : List Addr) from z) (by simp)
  refine ⟨⟨e0.mod, S.kind, rfl, rfl, Nat.le_refl _, fun y z c h1 h2 => ?_, fun y hy => ?_, fun y c _ h => ?_, fun _ => hd, Around.frames_deeper e0.frames, .inr ⟨rfl, rfl⟩, fun b z => absurd z (noA b), e0.bs, e0.bsz, fun b _ _ => noA b, fun b z => absurd z (noA b), e0.funs, e0.frf⟩,
    rfl, e0.bare, Un.kept hk, ⟨_, x.toInCall.ns, fun i y v h1 h2 h3 => ?_⟩, fun y c h => ⟨_, x.cell y c h⟩, e0.hok.fresh (Nat.le_refl _), fun y c h => ?_, fun p hp => absurd (show p ∈ ([] : List (Addr × Obj)) from hp) (by simp), e0.hok.kept hk, ?_⟩
  · exact name_of_addr x.apart (PySem.mem_of_lookup h1) (PySem.mem_of_lookup h2)
  · have hy : scope.names.lookup y = some .cell ∨ scope.names.lookup y = some .free := hy
    rcases hy with hy | hy
    · exact cell_has hy
    · exact absurd rfl (S.nofree _ (PySem.mem_of_lookup hy))
  · exact Nat.le_of_lt (x.above y c (PySem.mem_of_lookup h))
  · have hi : i < vs.length := by
      unfold start at h2
      by_cases hi : i < vs.length
      · exact hi
      · rw [List.getElem?_append_right (by simpa using hi)] at h2
        rw [List.getElem?_replicate] at h2
        split at h2 <;> cases h2
    have ha : vs[i]? = some v := by
      unfold start at h2
      rw [List.getElem?_append_left (by simpa using hi), List.getElem?_map] at h2
      cases e : vs[i]? with
      | none => rw [e] at h2; cases h2
      | some a => rw [e] at h2; cases h2; rfl
    obtain ⟨u, hu, rv⟩ := r.get ha
    have hp : ps[i]? = some y := by
      rw [← S.pre, List.getElem?_take_of_lt (by (first | lia | omega))]; exact h1
    have ndP : ps.Nodup := by rw [← S.pre]; exact S.nd.sublist (List.take_sublist _ _)
    refine ⟨u, rv, ?_⟩
    rcases S.par y (List.mem_of_getElem? hp) with k | k
    · exact .inl ⟨k, bindL_get ndP hp hu k⟩
    · obtain ⟨c, e⟩ := cell_has (n := s.heap.objs.size + 1) k
      refine .inr ⟨.inl k, c, e, ?_⟩
      have q := x.cell y c e
      rw [bindC_get ndP hp hu (by show scope.names.lookup y ≠ _; rw [k]; decide)] at q
      exact q
  · exact e0.hok.fresh (Nat.le_of_lt (x.above y c (PySem.mem_of_lookup h)))
  · unfold start
    show _ = N.length
    rw [List.length_append, List.length_map, List.length_replicate]
    (first | lia | omega)

theorem fn_of {CX : CXT} {P : Program} {w : World} {K : PySem.W.Frag} {mg : Str → Option Value} {base : Heap} {k : Nat} {f : Addr} {name qual : Str} {params : Arguments} {body : List Stmt} {scope : Scope} {dV kV doc pm cdv ct oc : Value} {an od : Option Addr}
    {osl : Array (Option Value)} {N ps : List Str} {sp : Sp} (lk : K.lookup f = some ⟨oc, od, .func (PySem.W.fnOf name qual params body scope dV kV doc pm an cdv ct), osl⟩) (hcd : PySem.W.codeIn K cdv qual = true) (S : FnScope N ps scope)
    (len : ∀ vs H Q E, sp vs H Q E → vs.length = ps.length)
    (hbody : ∀ (A : Around) (outer : List Env) (s : Shared) (H : Hp) (vs : List V) (Q : VK) (E : XK), Room k (A.deeper (envOfC qual scope s.heap.objs.size f cdv)) → sp vs H Q E →
      ∃ t, PSs (cxOf CX P w K mg base N qual scope f cdv A outer s H E) body t ∧ t { nx := fun _ H' => Q .non H', rt := Q } (start N vs) H) :
    FnOk P w K mg base CX (k + 1) f (PySem.W.fnOf name qual params body scope dV kV doc pm an cdv ct) ps sp := by
  refine ⟨len, fun A outer s H args us vs Q E hr e0 hb r hsp => ?_⟩
  have hl := len _ _ _ _ hsp
  have KX : K.In s.heap := e0.mod.kin.keeps fun b o e => (e0.bs b o e).1
  have lim : s.heap.NoLimit := e0.mod.nolimit.keeps fun b o e => (e0.bs b o e).1
  have hkind : ∀ y ∈ ps.zip us, scope.names.lookup y.1 = some .local ∨ (scope.names.lookup y.1 = some .cell ∧ ((cellsFrom (s.heap.objs.size + 1) scope.names []).lookup y.1).isSome = true) := fun ⟨n, v⟩ hy => by
    rcases S.par n (List.of_mem_zip hy).1 with q | q
    · exact .inl q
    · exact .inr ⟨q, PySem.W.cellsFrom_some _ _ _ (.inl q)⟩
  refine codeAny_call_function hr.depth (KX _ _ lk) rfl S.co S.gen rfl (PySem.W.codeRec_of KX hcd) (hb _ _ _ _ ?_)
  refine wpAny_newFunctionEnv_cells S.kind hkind fun env he s1 x => ?_
  subst he
  refine ⟨lim.keeps x.toInCall.keep, codeAny_func ?_⟩
  obtain ⟨t, ht, hq⟩ := hbody A outer s H vs Q E (hr.deeper _) hsp
  have I : Inv (cxOf CX P w K mg base N qual scope f cdv A outer s H E) [] (start N vs) H s1 := inv_start S hr.hd e0 hl r x
  refine wpAny_mono (ht [] s1 (start N vs) H _ I hq) (fun fl s' hs => ?_) fun e s' hs => hs
  have fin : ∀ {σ' : St} {H' : Hp} {v : V} {u : Value}, Inv (cxOf CX P w K mg base N qual scope f cdv A outer s H E) [] σ' H' s' → RelV v u → Q v H' → CE outer P w H s Q u s' :=
    fun {σ' H' v u} J rv q => ⟨v, H', J.os, J.bare, J.base, J.hok, rv, q⟩
  cases fl with
  | ret u =>
    obtain ⟨v, σ', H', J, rv, q⟩ := hs
    exact fin J rv q
  | next =>
    obtain ⟨σ', H', J, q⟩ := hs
    exact fin (v := V.non) (u := Value.none) J rfl q
  | brk =>
    obtain ⟨_, _, _, q⟩ := hs
    exact False.elim q
  | cont =>
    obtain ⟨_, _, _, q⟩ := hs
    exact False.elim q
end L2

namespace L2
open PySem PySem.Spec PyProof.Rows
section
variable {X : Cx} {x : Str} {p pos : Pos} {e : Expr} {es : List Expr} {t : TA} {id T : String} {r : List V → Hp → VK → Prop}

noncomputable def tCB (r : List V → Hp → VK → Prop) (t : TA) : TE := fun σ H Q => t σ H fun vs H1 => r vs H1 Q
theorem pe_callB (hc : CallR X (.builtin id) r) (hg : Gl X x) (hm : X.mg x = none) (hv : bootBuiltins x = some (.builtin id)) (ha : PA X (e :: es) t) (hn : x ≠ "__name__" := by decide) (hdb : (x == ("__debug__" : Str)) = false := by decide)
    (he : starEach (e :: es) X.env = (false, eval e X.env) :: starEach es X.env := by rfl) (hpl : (backTo pos (starEach es X.env)).any (·.1) = false := by rfl) : PE X (.Call (.Name x p) (e :: es) [] pos) (tCB r t) := by
  intro pins s σ H Q I h
  refine wpAny_Call_Name_kw (ld_blt I hg hm hv ?_ hn hdb)
  exact PyProof.Rows.callWith_builtin1 (thn (ha pos pins s σ H _ I h) fun us s1 ⟨vs, H1, I1, r1, q1⟩ => hc pins s1 σ H1 vs us Q I1 r1 q1) he hpl
theorem pe_callTy (hc : CallR X (.type T) r) (hg : Gl X x) (hm : X.mg x = none) (hv : bootBuiltins x = some (.type T)) (ha : PA X (e :: es) t) (hn : x ≠ "__name__" := by decide) (hdb : (x == ("__debug__" : Str)) = false := by decide)
    (he : starEach (e :: es) X.env = (false, eval e X.env) :: starEach es X.env := by rfl) (hpl : (backTo pos (starEach es X.env)).any (·.1) = false := by rfl) : PE X (.Call (.Name x p) (e :: es) [] pos) (tCB r t) := by
  intro pins s σ H Q I h
  refine wpAny_Call_Name_kw (ld_blt I hg hm hv ?_ hn hdb)
  exact PyProof.Rows.callWith_type1 (thn (ha pos pins s σ H _ I h) fun us s1 ⟨vs, H1, I1, r1, q1⟩ => hc pins s1 σ H1 vs us Q I1 r1 q1) he hpl
end
end L2

namespace HT
open PySem PyProof.Rows

noncomputable def lexLt : List Int → List Int → Bool
  | [], [] => false
  | [], _ :: _ => true
  | _ :: _, [] => false
  | x :: xs, y :: ys => if x = y then lexLt xs ys else decide (x < y)


section
open PySem.SeqAt
open PySem.AutoSeq1 (wpAny_loadPart')
open PySem.MeetsSeq PySem.MeetsSeq2 PySem.MeetsSeq3

end

section
variable {prog : Program} {w : World} {A : Around} {E : Value → Shared → Prop} {s : Shared}



noncomputable def sIx (n d : Nat) : Option Int → Nat
  | none => d
  | some v => if v < 0 then (v + (n : Int)).toNat else min v.toNat n

end
end HT

namespace L2
open PySem PySem.Spec PyProof.Rows

noncomputable abbrev TO := St → Hp → (Option Int → Hp → Prop) → Prop
noncomputable def PO (X : Cx) (e : Option Expr) (t : TO) : Prop :=
  ∀ (pins : List (Addr × Obj)) (s : Shared) (σ : St) (H : Hp) (Q : Option Int → Hp → Prop), Inv X pins σ H s → t σ H Q →
    wpAny (model X.prog X.w) X.A (evalPart e X.env) (fun u s' => ∃ o H', Inv X pins σ H' s' ∧ IsPart u o ∧ Q o H') X.xe s
noncomputable def tNoPart : TO := fun _ H Q => Q none H
noncomputable def tPart (t : TE) : TO := fun σ H Q => t σ H fun x H1 => ∃ i, x = .int i ∧ Q (some i) H1


section
variable {X : Cx} {e : Expr} {te : TE} {lo hi : Option Expr} {tl th : TO} {pos p2 : Pos}

theorem po_none : PO X none tNoPart := by
  intro pins s σ H Q I h
  rw [evalPart_none]
  exact wpAny_pure ⟨none, H, I, .none, h⟩
theorem po_some (h : PE X e te) : PO X (some e) (tPart te) := by
  intro pins s σ H Q I hw
  rw [evalPart_some]
  refine thn (h pins s σ H _ I hw) fun u s1 ⟨x, H1, I1, r1, q1⟩ => ?_
  obtain ⟨i, rfl, q⟩ := q1
  obtain ⟨t, rfl⟩ := r1
  exact ⟨some i, H1, I1, .int i t, q⟩

noncomputable def SlR (X : Cx) (r : V → Option Int → Option Int → Hp → VK → Prop) : Prop :=
  ∀ (pins : List (Addr × Obj)) (s : Shared) (σ : St) (H : Hp) (x : V) (v vl vu : Value) (lo hi : Option Int) (sl : Addr) (Q : VK), Inv X pins σ H s → RelV x v → s.heap.IsSliceOf sl vl vu .none → IsPart vl lo → IsPart vu hi → r x lo hi H Q →
    ∃ T id, typeLookup (.type T) "__getitem__" = pure (some (.builtin id)) ∧ s.TypeIs v T ∧ wpAny (model X.prog X.w) X.A (getItem v (.ref sl)) (EP X pins σ Q) X.xe s
noncomputable def tSl (r : V → Option Int → Option Int → Hp → VK → Prop) (te : TE) (tl th : TO) : TE := fun σ H Q => te σ H fun x H1 => tl σ H1 fun l H2 => th σ H2 fun u H3 => r x l u H3 Q
theorem pe_slice {r : V → Option Int → Option Int → Hp → VK → Prop} (hr : SlR X r) (he : PE X e te) (hl : PO X lo tl) (hu : PO X hi th) : PE X (.Subscript e (.Slice lo hi none p2) pos) (tSl r te tl th) := by
  intro pins s σ H Q I h
  refine Subscript_ (thn (he pins s σ H _ I h) fun v s1 ⟨x, H1, I1, r1, q1⟩ => ?_)
  refine wpAny_Slice (thn (hl pins s1 σ H1 _ I1 q1) fun vl s2 ⟨l, H2, I2, pl, q2⟩ => thn (hu pins s2 σ H2 _ I2 q2) fun vu s3 ⟨u, H3, I3, pu, q3⟩ => ?_)
  rw [evalPart_none]
  refine wpAny_pure ?_
  have I4 : Inv X pins σ H3 { s3 with heap := s3.heap.push { cls := .type "slice", data := .fields #[vl, vu, .none] } } := I3.kept (t' := s3.toks) fun b ob q => Heap.get?_push_of_some _ q
  obtain ⟨T, id, hT, ht, hg⟩ := hr pins { s3 with heap := s3.heap.push { cls := .type "slice", data := .fields #[vl, vu, .none] } } σ H3 x v vl vu l u s3.heap.objs.size Q I4 r1 (Heap.IsSliceOf.new ..) pl pu q3
  show wpAny (model X.prog X.w) X.A (subscriptTail e (.Slice lo hi none p2) v (.ref s3.heap.objs.size)) (EP X pins σ Q) X.xe { s3 with heap := s3.heap.push { cls := .type "slice", data := .fields #[vl, vu, .none] } }
  exact tail_any (ops := [.ref s3.heap.objs.size, v]) ht hT hg (by with_unfolding_all rfl)

noncomputable def cutV (xs : List V) (lo hi : Option Int) : List V := (xs.drop (HT.sIx xs.length 0 lo)).take (HT.sIx xs.length xs.length hi - HT.sIx xs.length 0 lo)
noncomputable def rSlT (K : PySem.W.Frag) : V → Option Int → Option Int → Hp → VK → Prop := fun x lo hi H Q => ∃ a xs, x = .ref a ∧ SqT K H a xs ∧
  ¬ (HT.sIx xs.length 0 lo = 0 ∧ HT.sIx xs.length xs.length hi = xs.length) ∧ ∀ p, H p = none → Q (.ref p) (upd H p (.tup (cutV xs lo hi)))

noncomputable def rLtT (K : PySem.W.Frag) : R2 := fun x y H Q => ∃ a b ns ms, x = .ref a ∧ y = .ref b ∧ SqT K H a (ns.map V.int) ∧ SqT K H b (ms.map V.int) ∧ Q (.bl (HT.lexLt ns ms)) H
noncomputable def rCatT (K : PySem.W.Frag) : R2 := fun x y H Q => ∃ a b xs ys, x = .ref a ∧ y = .ref b ∧ SqT K H a xs ∧ SqT K H b ys ∧ xs ≠ [] ∧ xs.length + ys.length ≤ sizeLine ∧
  (ys = [] → Q (.ref a) H) ∧ (ys ≠ [] → ∀ p, H p = none → Q (.ref p) (upd H p (.tup (xs ++ ys))))
end
end L2

namespace L2
open PySem PySem.Spec PyProof.Rows

noncomputable def ixN (n : Nat) (i : Int) : Option Nat := if 0 ≤ i then (if i < n then some i.toNat else none) else if -(n : Int) ≤ i then some (i + n).toNat else none
noncomputable def atI {α : Type} (xs : List α) (i : Int) : Option α := (ixN xs.length i).bind fun j => xs[j]?
theorem ixN_seq {n : Nat} {i : Int} {j : Nat} (h : ixN n i = some j) : seqIndex? i n = some j ∧ j < n ∧ -(n : Int) ≤ i ∧ i < n := by
  unfold ixN at h
  by_cases h0 : 0 ≤ i
  · rw [if_pos h0] at h
    by_cases h1 : i < n
    · rw [if_pos h1] at h
      have e : i.toNat = j := Option.some.inj h
      exact ⟨by rw [seqIndex_of h0 h1, e], by (first | lia | omega), by (first | lia | omega), h1⟩
    · rw [if_neg h1] at h; cases h
  · rw [if_neg h0] at h
    by_cases h1 : -(n : Int) ≤ i
    · rw [if_pos h1] at h
      have e : (i + n).toNat = j := Option.some.inj h
      exact ⟨by rw [seqIndex_neg (by (first | lia | omega)) h1, e], by (first | lia | omega), h1, by (first | lia | omega)⟩
    · rw [if_neg h1] at h; cases h
theorem atI_get {α : Type} {xs : List α} {i : Int} {v : α} (h : atI xs i = some v) : ∃ j, seqIndex? i xs.length = some j ∧ xs[j]? = some v ∧ j < xs.length ∧ -(xs.length : Int) ≤ i ∧ i < xs.length := by
  unfold atI at h
  cases e : ixN xs.length i with
  | none => rw [e] at h; cases h
  | some j =>
    rw [e] at h
    obtain ⟨h1, h2, h3, h4⟩ := ixN_seq e
    exact ⟨j, h1, h, h2, h3, h4⟩
theorem atI_nat {α : Type} {xs : List α} {j : Nat} {v : α} (h : xs[j]? = some v) : atI xs (j : Int) = some v := by
  have hj : j < xs.length := (List.getElem?_eq_some_iff.mp h).1
  have e : ixN xs.length (j : Int) = some j := by
    unfold ixN
    rw [if_pos (by (first | lia | omega)), if_pos (by (first | lia | omega))]; simp
  unfold atI; rw [e]; exact h

noncomputable def PlainIx (b : Expr) : Prop := ∀ o i, subscripted b false o i = operate [o, i] (getItem o i)
noncomputable def IxR (X : Cx) (r : R2) : Prop :=
  ∀ (value slice : Expr) (pins : List (Addr × Obj)) (s : Shared) (σ : St) (H : Hp) (x y : V) (v u : Value) (Q : VK), Inv X pins σ H s → RelV x v → RelV y u → r x y H Q →
    subscripted slice false v u = operate [v, u] (getItem v u) → wpAny (model X.prog X.w) X.A (subscriptTail value slice v u) (EP X pins σ Q) X.xe s
noncomputable def MtR (X : Cx) (id : String) (r : V → List V → Hp → VK → Prop) : Prop :=
  ∀ (pins : List (Addr × Obj)) (s : Shared) (σ : St) (H : Hp) (x : V) (xs : List V) (v : Value) (us : List Value) (Q : VK), Inv X pins σ H s → RelV x v → Vals xs us → r x xs H Q →
    wpAny (model X.prog X.w) X.A (call (.builtin id) (v :: us)) (EP X pins σ Q) X.xe s
section
variable {X : Cx} {a b : Expr} {ta tb : TE} {pos : Pos}
theorem pe_ix {r : R2} (hr : IxR X r) (ha : PE X a ta) (hb : PE X b tb) (hs : PlainIx b) : PE X (.Subscript a b pos) (tOp r ta tb) := by
  intro pins s σ H Q I h
  exact Subscript_ (binT ha hb I h fun v u s2 x y H2 I2 rx ry q => hr a b pins s2 σ H2 x y v u Q I2 rx ry q (hs _ _))

noncomputable def rIxL (K : PySem.W.Frag) : R2 := fun x y H Q => ∃ p xs i v, x = .ref p ∧ y = .int i ∧ SqL K H p xs ∧ atI xs i = some v ∧ Q v H
noncomputable def rIxT (K : PySem.W.Frag) : R2 := fun x y H Q => ∃ p xs i v, x = .ref p ∧ y = .int i ∧ SqT K H p xs ∧ atI xs i = some v ∧ Q v H
noncomputable def rIxS : R2 := fun x y H Q => ∃ z i c, x = .str z ∧ y = .int i ∧ z.length ≤ sizeLine ∧ atI z.cps.toList i = some c ∧ Q (.str ⟨#[c]⟩) H
theorem ix_list : IxR X (rIxL X.K) := by
  intro value slice pins s σ H x y v u Q I rx ry h hs
  obtain ⟨p, xs, i, z, rfl, rfl, hq, he, q⟩ := h
  cases rx
  obtain ⟨t, rfl⟩ := ry
  obtain ⟨its, r, pl, hz⟩ := I.list hq
  obtain ⟨j, h1, h2, h3, h4, h5⟩ := atI_get he
  obtain ⟨w, ew, rw'⟩ := r.get h2
  have hl := r.length
  have hn := line63
  have fin : EP X pins σ Q w s := ⟨z, H, I, rw', q⟩
  by_cases h0 : 0 ≤ i
  · have hj : i.toNat = j := by
      rw [seqIndex_of h0 h5] at h1
      exact Option.some.inj h1
    exact item_listR pl.isList h0 (by (first | lia | omega)) (by rw [hj]; simpa using ew) fin hs
  · have hj : (i + (its.toArray.size : Int)).toNat = j := by
      rw [seqIndex_neg (by (first | lia | omega)) h4] at h1
      rw [List.size_toArray, ← hl]
      exact Option.some.inj h1
    exact subscriptTail_builtinR (x := w) pl.isList.typeIs slot_list_getitem.lookup
      (wpAny_getItem_list_neg (Q := fun r s' => r = w ∧ EP X pins σ Q r s') pl.isList (by (first | lia | omega)) (by rw [List.size_toArray] <;> (first | lia | omega)) (by (first | lia | omega)) (by rw [hj]; simpa using ew) ⟨rfl, fin⟩) hs
theorem ix_tup : IxR X (rIxT X.K) := by
  intro value slice pins s σ H x y v u Q I rx ry h hs
  obtain ⟨p, xs, i, z, rfl, rfl, hq, he, q⟩ := h
  cases rx
  obtain ⟨t, rfl⟩ := ry
  obtain ⟨its, r, pl, hz⟩ := I.tuple hq
  obtain ⟨j, h1, h2, h3, h4, h5⟩ := atI_get he
  obtain ⟨w, ew, rw'⟩ := r.get h2
  have hl := r.length
  have hn := line63
  have fin : EP X pins σ Q w s := ⟨z, H, I, rw', q⟩
  exact subscriptTail_builtinR (x := w) pl.typeIs slot_tuple_getitem.lookup
    (getItem_tuple (j := j) (Q := fun r s' => r = w ∧ EP X pins σ Q r s') pl (by (first | lia | omega)) (by (first | lia | omega)) (by rw [List.size_toArray, ← hl]; exact h1) (by simpa using ew) ⟨rfl, fin⟩) hs
noncomputable def rIx (K : PySem.W.Frag) : R2 := fun x y H Q => rIxL K x y H Q ∨ rIxT K x y H Q ∨ rIxS x y H Q

theorem mapSeq_set (its : List Value) (n j : Nat) (u : Value) : Obj.mapSeq (·.setIfInBounds j u) { cls := .type "list", data := .seq its.toArray n } = { cls := .type "list", data := .seq (its.set j u).toArray n } := by
  simp [Obj.mapSeq]
theorem Inv.lst {pins : List (Addr × Obj)} {σ : St} {H : Hp} {s : Shared} {p : Addr} {xs : List V} (I : Inv X pins σ H s) (h : H p = some (.lst xs)) :
    ∃ (its : List Value) (n : Nat), Vals xs its ∧ s.heap.get? p = some { cls := .type "list", data := .seq its.toArray n } ∧ xs.length ≤ sizeLine := by
  obtain ⟨z, its, n, r, e⟩ := I.hok p _ h
  exact ⟨its, n, r, e, z⟩
theorem Inv.lstUpd {pins : List (Addr × Obj)} {σ : St} {H : Hp} {s : Shared} {p : Addr} {xs ys : List V} {its its' : List Value} {n n' : Nat} {f : Obj → Obj} (I : Inv X pins σ H s) (h : H p = some (.lst xs))
    (ho : s.heap.get? p = some { cls := .type "list", data := .seq its.toArray n }) (hf : f { cls := .type "list", data := .seq its.toArray n } = { cls := .type "list", data := .seq its'.toArray n' }) (r : Vals ys its') (hz : ys.length ≤ sizeLine) (t : Nat) :
    Inv X pins σ (upd H p (.lst ys)) { s with heap := s.heap.update p f, toks := t } := by
  have e : (s.heap.update p f).get? p = some { cls := .type "list", data := .seq its'.toArray n' } := by
    rw [Heap.get?_update_self f ho (by rw [hf] <;> rfl), hf]
  refine I.write (x := p) (e := p) (by rw [h]; trivial) (.inl rfl) (fun b u hb q => (Heap.get?_update_other _ _ (Ne.symm hb)).trans q) ⟨_, e⟩ ?_
  exact ⟨hz, its', n', r, e⟩
noncomputable def rSetL : V → V → V → Hp → (Hp → Prop) → Prop := fun o i v H Q => ∃ p xs k j, o = .ref p ∧ i = .int k ∧ H p = some (.lst xs) ∧ ixN xs.length k = some j ∧ Q (upd H p (.lst (xs.set j v)))
theorem set_list : PSet X rSetL := by
  intro pins s σ H o i v ov iv u Q I ro ri rv h
  obtain ⟨p, xs, k, j, rfl, rfl, hp, hj, q⟩ := h
  cases ro
  obtain ⟨t, rfl⟩ := ri
  obtain ⟨its, n, r, ho, hz⟩ := I.lst hp
  obtain ⟨h1, h2, h3, h4⟩ := ixN_seq hj
  have hl := r.length
  have hn := line63
  have I' : Inv X pins σ (upd H p (.lst (xs.set j v))) { s with heap := s.heap.update p (Obj.mapSeq (·.setIfInBounds j u)) } :=
    I.lstUpd hp ho (mapSeq_set its n j u) (r.set rv j) (by rw [List.length_set]; exact hz) s.toks
  by_cases h0 : 0 ≤ k
  · have hk : k.toNat = j := by
      rw [seqIndex_of h0 h4] at h1
      exact Option.some.inj h1
    exact PySem.W.ki_setAt ho h0 (by (first | lia | omega)) (by rw [List.size_toArray, ← hl]; exact h4) (by rw [hk]; exact ⟨_, I', q⟩)
  · have hk : (k + (its.toArray.size : Int)).toNat = j := by
      rw [seqIndex_neg (by (first | lia | omega)) h3] at h1
      rw [List.size_toArray, ← hl]
      exact Option.some.inj h1
    exact PySem.W.ki_setBack ho (by (first | lia | omega)) (by rw [List.size_toArray, ← hl]; exact h3) (by (first | lia | omega)) (by rw [hk]; exact ⟨_, I', q⟩)

noncomputable def rSlL (K : PySem.W.Frag) : V → Option Int → Option Int → Hp → VK → Prop := fun x lo hi H Q => ∃ a xs, x = .ref a ∧ SqL K H a xs ∧ ∀ p, H p = none → Q (.ref p) (upd H p (.lst (cutV xs lo hi)))

noncomputable def flatV : V → Bool
  | .non => true
  | .bl _ => true
  | .int _ => true
  | .str _ => true
  | _ => false
noncomputable def eqV : V → V → Bool
  | .non, .non => true
  | .bl a, .bl b => a == b
  | .bl a, .int b => (if a then 1 else 0) == b
  | .int a, .bl b => a == (if b then 1 else 0)
  | .int a, .int b => a == b
  | .str a, .str b => a == b
  | _, _ => false
noncomputable def eqU (x : V) (u : Value) : Bool := match u with
  | .none => eqV .non x
  | .bool b => eqV (.bl b) x
  | .int i _ => eqV (.int i) x
  | .str z _ => eqV (.str z) x
  | _ => false
noncomputable def inV (x : V) (xs : List V) : Bool := xs.any fun y => eqV y x
noncomputable def rIn (K : PySem.W.Frag) (neg : Bool) : R2 := fun x y H Q => ∃ p xs, y = .ref p ∧ (SqL K H p xs ∨ SqT K H p xs) ∧ flatV x = true ∧ xs.all flatV = true ∧ Q (.bl (if neg then !inV x xs else inV x xs)) H

theorem call_len_seq : CallR X (.builtin "len") (fun xs H Q => ∃ p ys, xs = [.ref p] ∧ (SqL X.K H p ys ∨ SqT X.K H p ys) ∧ Q (.int ys.length) H) := by
  intro pins s σ H xs us Q I r h
  obtain ⟨p, ys, rfl, hq, q⟩ := h
  obtain ⟨u, rfl, rx⟩ := vals1 r
  cases rx
  have hn := line63
  rcases hq with hq | hq
  · obtain ⟨its, r', pl, hz⟩ := I.list hq
    have hlen := r'.length
    exact Calls.call_len_list pl.isList (by simp only [List.size_toArray] <;> (first | lia | omega)) ⟨.int ys.length, H, I.tok _, ⟨s.toks + 1, by rw [List.size_toArray, hlen]⟩, q⟩
  · obtain ⟨its, r', pl, hz⟩ := I.tuple hq
    have hlen := r'.length
    exact len_tuple pl (by simp only [List.size_toArray] <;> (first | lia | omega)) ⟨.int ys.length, H, I.tok _, ⟨s.toks + 1, by rw [List.size_toArray, hlen]⟩, q⟩
theorem call_len_str : CallR X (.builtin "len") (fun xs H Q => ∃ z, xs = [.str z] ∧ z.length ≤ sizeLine ∧ Q (.int z.length) H) := by
  intro pins s σ H xs us Q I r h
  obtain ⟨z, rfl, hz, q⟩ := h
  obtain ⟨u, rfl, t, rfl⟩ := vals1 r
  have hn := line63
  exact len_str (by (first | lia | omega)) ⟨.int z.length, H, I.tok _, ⟨_, rfl⟩, q⟩
theorem call_list_of : CallR X (.type "list") (fun xs H Q => ∃ p ys, xs = [.ref p] ∧ (SqL X.K H p ys ∨ SqT X.K H p ys) ∧ ∀ l, H l = none → Q (.ref l) (upd H l (.lst ys))) := by
  intro pins s σ H xs us Q I r h
  obtain ⟨p, ys, rfl, hq, q⟩ := h
  obtain ⟨u, rfl, rx⟩ := vals1 r
  cases rx
  have fin : ∀ (its : List Value), Vals ys its → ys.length ≤ sizeLine → ∀ (h' : Heap) (c' : Nat), (∀ b o', s.heap.get? b = some o' → h'.get? b = some o') →
      h'.get? s.heap.objs.size = some { cls := .type "list", dict := none, data := .seq its.toArray c', slots := #[] } → EP X pins σ Q (.ref s.heap.objs.size) { s with heap := h' } := fun its r' hz h' c' kp e =>
    ⟨.ref s.heap.objs.size, _, I.laid (t' := s.toks) kp (Nat.le_refl _) (show ObjOk X.prog X.w _ h' _ (.lst ys) from ⟨hz, its, c', r', e⟩), rfl, q _ (I.hok.fresh (Nat.le_refl _))⟩
  rcases hq with hq | hq
  · obtain ⟨its, r', pl, hz⟩ := I.list hq
    have hlen := r'.length
    obtain ⟨o, ho, hc, n, hd⟩ := pl.isList
    exact call_list_seq p (.inl rfl) ho hc hd (fun h' c' kp e => fin its r' hz h' c' kp e) (by simp only [List.size_toArray] <;> (first | lia | omega))
  · obtain ⟨its, r', pl, hz⟩ := I.tuple hq
    have hlen := r'.length
    obtain ⟨o, ho, hc, n, hd⟩ := pl
    exact call_list_seq p (.inr rfl) ho hc hd (fun h' c' kp e => fin its r' hz h' c' kp e) (by simp only [List.size_toArray] <;> (first | lia | omega))

noncomputable def tyV (K : PySem.W.Frag) (T : String) (x : V) (H : Hp) : Prop := match x with
  | .str _ => T = "str"
  | .int _ => T = "int"
  | .ref p => (T = "list" ∧ ∃ xs, SqL K H p xs) ∨ (T = "tuple" ∧ ∃ o, K.lookup p = some o ∧ o.cls = .type "tuple" ∧ o.dict = none) ∨
      (T = "dict" ∧ ((∃ kvs, H p = some (.dK kvs)) ∨ ∃ kvs, H p = some (.dT kvs))) ∨ (T = "set" ∧ ∃ S n, H p = some (.set S n))
  | _ => False
theorem tyV_is {pins : List (Addr × Obj)} {σ : St} {H : Hp} {s : Shared} {T : String} {x : V} {v : Value} (I : Inv X pins σ H s) (r : RelV x v) (ty : tyV X.K T x H) :
    s.TypeIs v T ∧ ∀ a, v = .ref a → ∃ ob, s.heap.get? a = some ob ∧ ob.dict = none := by
  cases x with
  | str z =>
    obtain ⟨t, rfl⟩ := r
    cases (show T = "str" from ty)
    exact ⟨typeIs_str s z t, fun _ e => nomatch e⟩
  | int i =>
    obtain ⟨t, rfl⟩ := r
    cases (show T = "int" from ty)
    exact ⟨typeIs_int s i t, fun _ e => nomatch e⟩
  | ref p =>
    cases r
    rcases ty with ⟨rfl, xs, hq⟩ | ⟨rfl, o, hk, hc, hd⟩ | ⟨rfl, hk⟩ | ⟨rfl, S, n, hk⟩
    · obtain ⟨its, _, pl, _⟩ := I.list hq
      refine ⟨pl.isList.typeIs, fun a e => ?_⟩
      cases e
      obtain ⟨o, n, e, c, hd, _⟩ := pl
      exact ⟨o, e, hd⟩
    · refine ⟨⟨o, I.kIn p o hk, hc⟩, fun a e => ?_⟩
      cases e
      exact ⟨o, I.kIn _ o hk, hd⟩
    · have z : ∃ o, s.heap.get? p = some o ∧ o.ExactDict := by
        rcases hk with ⟨kvs, hk⟩ | ⟨kvs, hk⟩
        · obtain ⟨_, _, _, _, o, _, _, e, ex, _⟩ := I.hok p _ hk
          exact ⟨o, e, ex⟩
        · obtain ⟨_, _, _, _, o, _, _, e, ex, _⟩ := I.hok p _ hk
          exact ⟨o, e, ex⟩
      obtain ⟨o, e, ex⟩ := z
      refine ⟨⟨o, e, ex.1⟩, fun a e2 => ?_⟩
      cases e2
      exact ⟨o, e, ex.2.1⟩
    · obtain ⟨o, _, _, _, e, ex, _⟩ := I.hok p _ hk
      refine ⟨⟨o, e, ex.1⟩, fun a e2 => ?_⟩
      cases e2
      exact ⟨o, e, ex.2.1⟩
  | _ => exact False.elim ty
noncomputable def tBM0 (K : PySem.W.Frag) (T : String) (r : V → List V → Hp → VK → Prop) (to : TE) : TE := fun σ H Q => to σ H fun x H1 => tyV K T x H1 ∧ r x [] H1 Q
noncomputable def tBM (K : PySem.W.Frag) (T : String) (r : V → List V → Hp → VK → Prop) (to : TE) (t : TA) : TE := fun σ H Q => to σ H fun x H1 => tyV K T x H1 ∧ t σ H1 fun xs H2 => r x xs H2 Q
variable {o e : Expr} {es : List Expr} {to : TE} {t : TA} {name : Str} {apos cpos : Pos} {T id : String} {r : V → List V → Hp → VK → Prop}
theorem pe_bm0 (pa : PlainAttrs T) (slot : Slot T name id) (hty : typeOf (.builtin id) = pure (.type "method_descriptor")) (hm : MtR X id r) (ho : PE X o to)
    (hbase : attributeBase o name X.env (eval o X.env) = eval o X.env := by rfl) (hline : (apos.endLine == cpos.line) = true := by rfl) : PE X (.Call (.Attribute o name apos) [] [] cpos) (tBM0 X.K T r to) := by
  intro pins s σ H Q I h
  refine wpAny_Call_method0_late hbase hline (thn (ho pins s σ H _ I h) fun v s1 ⟨x, H1, I1, r1, ty, q1⟩ => ?_)
  obtain ⟨h1, h2⟩ := tyV_is I1 r1 ty
  exact ⟨T, id, pa, slot, hty, h1, h2, Calls.callWith_builtin rfl (PySem.evalArgs_none (hm pins s1 σ H1 x [] v [] Q I1 r1 .nil q1))⟩
theorem pe_bm (pa : PlainAttrs T) (slot : Slot T name id) (hty : typeOf (.builtin id) = pure (.type "method_descriptor")) (hm : MtR X id r) (ho : PE X o to) (ha : PA X (e :: es) t)
    (hbase : attributeBase o name X.env (eval o X.env) = eval o X.env := by rfl)
    (hfew : ((backTo cpos (starEach (e :: es) X.env)).all (fun x => !x.1) && (backToKw cpos (keywordEach [] X.env)).all (fun x => x.1.isSome)
      && decide ((e :: es).length + ([] : List Keyword).length + (if ([] : List Keyword).isEmpty then 0 else 1) < 30)) = true := by rfl)
    (hline : (apos.endLine == cpos.line) = true := by rfl) (hs : starEach (e :: es) X.env = (false, eval e X.env) :: starEach es X.env := by rfl) (hplain : (backTo cpos (starEach es X.env)).any (·.1) = false := by rfl) :
    PE X (.Call (.Attribute o name apos) (e :: es) [] cpos) (tBM X.K T r to t) := by
  intro pins s σ H Q I h
  refine wpAny_Call_method_late hbase hfew hline rfl (thn (ho pins s σ H _ I h) fun v s1 ⟨x, H1, I1, r1, ty, q1⟩ => ?_)
  obtain ⟨h1, h2⟩ := tyV_is I1 r1 ty
  refine ⟨T, id, pa, slot, hty, h1, h2, ?_⟩
  have hA := ha cpos pins s1 σ H1 _ I1 q1
  rw [hs] at hA ⊢
  refine Calls.callWith_builtin (by show (false || (backTo cpos (starEach es X.env)).any (·.1)) = false; rw [hplain] <;> rfl) (Calls.evalArgs_plain ?_)
  exact thn hA fun us s2 ⟨vs, H2, I2, r2, q2⟩ => hm pins s2 σ H2 x vs v us Q I2 r1 r2 q2
/- xs.append(e), list.index on a module's tuple .. are MtR facts of 06m -/
end
end L2

namespace L2
open PySem PySem.Spec PyProof.Rows

noncomputable def MtM (X : Cx) (id : String) (r : V → List V → Hp → VK → Prop) : Prop :=
  ∀ (pins : List (Addr × Obj)) (s : Shared) (σ : St) (H : Hp) (x : V) (xs : List V) (v : Value) (us : List Value) (Q : VK), Inv X pins σ H s → RelV x v → Vals xs us → r x xs H Q →
    wpAny (model X.prog X.w) X.A (call (.builtin id) (v :: us)) (EP X pins σ Q) X.xe s

theorem Vals.one : ∀ {x : V} {us : List Value}, Vals [x] us → ∃ u, us = [u] ∧ RelV x u
  | _, _, .cons r .nil => ⟨_, rfl, r⟩
theorem Vals.zero : ∀ {us : List Value}, Vals [] us → us = []
  | _, .nil => rfl
theorem Vals.dropLast {xs : List V} {us : List Value} (h : Vals xs us) : Vals xs.dropLast us.dropLast := by
  induction h with
  | nil => exact .nil
  | cons r t ih =>
    cases t with
    | nil => exact .nil
    | cons q t' => exact .cons r ih
theorem erase_last {α : Type} (l : List α) : l.eraseIdx (l.length - 1) = l.dropLast := by
  induction l with
  | nil => rfl
  | cons a r ih =>
    cases r with
    | nil => rfl
    | cons b r =>
      have e : (a :: b :: r).length - 1 = ((b :: r).length - 1) + 1 := by
        have h1 : (a :: b :: r).length = r.length + 2 := rfl
        have h2 : (b :: r).length = r.length + 1 := rfl
        (first | lia | omega)
      rw [e, List.eraseIdx_cons_succ, ih]
      all_goals rfl

section
variable {X : Cx} {pins : List (Addr × Obj)} {σ : St} {H : Hp} {s : Shared} {l b : Addr} {xs ys zs : List V}

theorem Inv.lset {its its' : List Value} {n : Nat} {f : Array Value → Array Value} {t' : Nat} (I : Inv X pins σ H s) (hH : H l = some (.lst xs))
    (e : s.heap.get? l = some { cls := .type "list", data := .seq its.toArray n }) (hf : f its.toArray = its'.toArray) (hv : Vals ys its') (hz : ys.length ≤ sizeLine) :
    Inv X pins σ (upd H l (.lst ys)) { s with heap := s.heap.update l (Obj.mapSeq f), toks := t' } := by
  have q := PySem.IsL.update e f
  rw [hf] at q
  refine I.write (x := l) (e := l) (by rw [hH]; exact trivial) (.inl rfl) (fun b' u hb hu => (Heap.get?_update_other s.heap (Obj.mapSeq f) (Ne.symm hb)).trans hu) ⟨_, q⟩ ?_
  exact ⟨hz, its', _, hv, q⟩
theorem Inv.lnew {its : List Value} {t' : Nat} (I : Inv X pins σ H s) (hv : Vals ys its) (hz : ys.length ≤ sizeLine) :
    Inv X pins σ (upd H s.heap.objs.size (.lst ys)) { s with heap := s.heap.push { cls := .type "list", data := .seq its.toArray }, toks := t' } :=
  I.laid (fun _ _ q => Heap.get?_push_of_some _ q) (Nat.le_refl _) ⟨hz, its, 0, hv, Heap.get?_push_size _ rfl⟩
theorem Inv.lstM (I : Inv X pins σ H s) (hH : H l = some (.lst xs)) : xs.length ≤ sizeLine ∧ ∃ (its : List Value) (n : Nat), Vals xs its ∧ xs.length = its.length ∧ s.heap.get? l = some { cls := .type "list", data := .seq its.toArray n } := by
  obtain ⟨z, its, n, r, e⟩ := I.hok l _ hH
  exact ⟨z, its, n, r, r.length, e⟩

theorem notLongL {n : Nat} (h : n ≤ sizeLine) : Builtin.List.listTooLong n = false := by
  unfold Builtin.List.listTooLong
  exact decide_eq_false (by (first | lia | omega))
end

section
variable {X : Cx}

noncomputable def rAppend : V → List V → Hp → VK → Prop := fun x vs H Q => ∃ l xs y, x = .ref l ∧ vs = [y] ∧ H l = some (.lst xs) ∧ xs.length < sizeLine ∧ Q .non (upd H l (.lst (xs ++ [y])))
theorem mt_append : MtM X "list.append" rAppend := by
  intro pins s σ H x vs v us Q I rx rv h
  obtain ⟨l, xs, y, rfl, rfl, hH, hz, q⟩ := h
  cases rx
  obtain ⟨u, rfl, ru⟩ := rv.one
  obtain ⟨z, its, n, r, hl, e⟩ := I.lstM hH
  refine call_meets F.slot_list_append ⟨_, e, rfl⟩ F.entry_list_append (F.args_list_append_2 _ _) (PySem.list_append l its.toArray n u (by rw [List.size_toArray]; (first | lia | omega))) ⟨e, ?_⟩
  refine ⟨.non, _, I.lset (its' := its ++ [u]) hH e (by simp) (r.append (.cons ru .nil)) ?_, rfl, q⟩
  rw [List.length_append, List.length_singleton]
  (first | lia | omega)

noncomputable def rExtend : V → List V → Hp → VK → Prop := fun x vs H Q => ∃ l b xs zs, x = .ref l ∧ vs = [.ref b] ∧ H l = some (.lst xs) ∧ H b = some (.lst zs) ∧ xs.length + zs.length ≤ sizeLine ∧ Q .non (upd H l (.lst (xs ++ zs)))
theorem mt_extend : MtM X "list.extend" rExtend := by
  intro pins s σ H x vs v us Q I rx rv h
  obtain ⟨l, b, xs, zs, rfl, rfl, hH, hB, hz, q⟩ := h
  cases rx
  obtain ⟨u, rfl, ru⟩ := rv.one
  cases ru
  obtain ⟨z, its, n, r, hl, e⟩ := I.lstM hH
  obtain ⟨z2, its2, n2, r2, hl2, e2⟩ := I.lstM hB
  have hsz : its.toArray.size + its2.toArray.size ≤ sizeLine := by rw [List.size_toArray, List.size_toArray]; (first | lia | omega)
  have hlong : ¬ (!its.toArray.isEmpty && Builtin.List.listTooLong (its.toArray.size + its2.toArray.size)) = true := by
    rw [notLongL hsz, Bool.and_false]
    exact Bool.false_ne_true
  refine call_meets F.slot_list_extend ⟨_, e, rfl⟩ F.entry_list_extend (F.args_list_extend_2 _ _)
    (AutoSeq1.list_extend_list_list_0 l its.toArray n b its2.toArray n2 hlong (by rw [List.size_toArray]; (first | lia | omega)) (by (first | lia | omega))) ⟨e, e2, ?_⟩
  refine ⟨.non, _, I.lset (its' := its ++ its2) hH e (by simp) (r.append r2) ?_, rfl, q⟩
  rw [List.length_append]
  (first | lia | omega)

noncomputable def rPop : V → List V → Hp → VK → Prop := fun x vs H Q => ∃ l xs y, x = .ref l ∧ vs = [] ∧ H l = some (.lst xs) ∧ xs[xs.length - 1]? = some y ∧ Q y (upd H l (.lst xs.dropLast))
theorem mt_pop : MtM X "list.pop" rPop := by
  intro pins s σ H x vs v us Q I rx rv h
  obtain ⟨l, xs, y, rfl, rfl, hH, hy, q⟩ := h
  cases rx
  have hus := rv.zero
  subst hus
  obtain ⟨z, its, n, r, hl, e⟩ := I.lstM hH
  obtain ⟨u, hu, ru⟩ := r.get hy
  have hy' : its.toArray[its.toArray.size - 1]? = some u := by
    show its.toArray[its.length - 1]? = some u
    rw [← Array.getElem?_toList, ← hl]
    exact hu
  refine call_meets F.slot_list_pop ⟨_, e, rfl⟩ F.entry_list_pop (F.args_list_pop_1 _) (MeetsSeq.list_pop_last l its.toArray n u hy' (by rw [List.size_toArray]; (first | lia | omega))) ⟨e, ?_⟩
  refine ⟨y, _, I.lset (its' := its.dropLast) hH e ?_ r.dropLast ?_, ru, q⟩
  · show its.toArray.eraseIdxIfInBounds (its.toArray.size - 1) = its.dropLast.toArray
    rw [List.size_toArray, List.eraseIdxIfInBounds_toArray, erase_last]
  · rw [List.length_dropLast]
    (first | lia | omega)

noncomputable def rPopAt : V → List V → Hp → VK → Prop := fun x vs H Q => ∃ l xs i k y, x = .ref l ∧ vs = [.int i] ∧ H l = some (.lst xs) ∧ -(2 ^ 63) ≤ i ∧ i < 2 ^ 63 ∧ seqIndex? i xs.length = some k ∧ xs[k]? = some y ∧ Q y (upd H l (.lst (xs.eraseIdx k)))

noncomputable def rReverse : V → List V → Hp → VK → Prop := fun x vs H Q => ∃ l xs, x = .ref l ∧ vs = [] ∧ H l = some (.lst xs) ∧ Q .non (upd H l (.lst xs.reverse))

noncomputable def rClear : V → List V → Hp → VK → Prop := fun x vs H Q => ∃ l xs, x = .ref l ∧ vs = [] ∧ H l = some (.lst xs) ∧ Q .non (upd H l (.lst []))

noncomputable def rCat : R2 := fun x y H Q => ∃ l b xs zs, x = .ref l ∧ y = .ref b ∧ H l = some (.lst xs) ∧ H b = some (.lst zs) ∧ xs.length + zs.length ≤ sizeLine ∧ ∀ p, H p = none → Q (.ref p) (upd H p (.lst (xs ++ zs)))
noncomputable def rRep : R2 := fun x y H Q => ∃ l k xs, x = .ref l ∧ y = .int k ∧ H l = some (.lst xs) ∧ -(2 ^ 63) ≤ k ∧ k < 2 ^ 63 ∧ xs.length * k.toNat ≤ sizeLine ∧
  ∀ p, H p = none → Q (.ref p) (upd H p (.lst (List.replicate k.toNat xs).flatten))

end

section
variable {prog : Program} {w : World} {A : Around} {E : Value → Shared → Prop} {s : Shared}
set_option maxRecDepth 100000 in
end

section
variable {X : Cx}
end
end L2

namespace Att
open PySem PySem.W PySem.Calls PyProof.Rows

theorem ints_of_wellAll {P : Params} {h : Heap} : ∀ (ns : List Int) (vs : List Value), WellAll P h vs (ns.map WData.int) → IntsAre vs ns := by
  intro ns
  induction ns with
  | nil =>
    intro vs w
    rw [List.map_nil] at w
    cases w
    exact .nil
  | cons n ns ih =>
    intro vs w
    rw [List.map_cons] at w
    cases w with
    | cons a b =>
      cases a
      exact .cons _ _ (ih _ b)

theorem script_of {l : OpenLaw} {n : Nat} (hn : l.most = some n) {P : Params} {h : Heap} {args : List WData} {vals : List Value}
    (hpre : l.row.toRowW.claim.pre args = true) (hwl : WellAll P h vals args) :
    ∃ a vs ns, vals = [Value.ref a] ∧ args = [WData.list (ns.map WData.int)] ∧ h.get? a = some { cls := .type "list", data := .seq vs.toArray } ∧ IntsAre vs ns ∧ ns.length ≤ n := by
  have hsh : WShape.hasAll [] args [.list .int] = true := (pre_splitW hpre).1
  have hc : l.pre.holds [] { args := args } = true := (pre_splitW hpre).2
  obtain ⟨d, r, rfl, h1, h2⟩ := hasAllW_cons hsh
  obtain rfl := hasAllW_nil h2
  obtain ⟨xs, rfl, h3⟩ := hasW_list h1
  obtain ⟨ns, rfl⟩ := items_int h3
  have hlen : ns.length ≤ n := by
    unfold OpenLaw.pre at hc
    have h4 : (WTm.not (.lt (.lit (.int (n : Int))) (.len (.arg 0)))).holds [] { args := [.list (ns.map .int)] } = true := by
      have h4 := (holds_andW hc).1
      rw [hn] at h4
      exact h4
    have h5 := condW_of h4 (w_not (w_lt w_lit (w_len_list (w_arg rfl))))
    rw [List.length_map] at h5
    refine Nat.le_of_not_lt fun q => ?_
    have q' : (n : Int) < ((ns.length : Nat) : Int) := by (first | lia | omega)
    first
      | (rw [decide_eq_true q'] at h5; exact absurd h5 (by decide))
      | (simp at h5; (first | lia | omega))
  cases hwl with
  | cons w1 w2 =>
    cases w2
    cases w1 with
    | list ho hall => exact ⟨_, _, ns, rfl, rfl, ho, ints_of_wellAll ns _ hall, hlen⟩

theorem post_true (l : OpenLaw) (args : List WData) : l.row.toRowW.claim.post args (.bool true) args = true :=
  postW_of (r := l.row.toRowW) (X := (true == true))
    (show WShape.has [] (.bool true) .bool = true by first | rfl | decide | simp [WShape.has, WShape.arms, WShape.armsAll])
    (show (WTm.eq .res (.lit (.bool true))).value [] { args := args, res := some (.bool true), after := args } = some (.bool (true == true)) from w_eq_bool (w_res rfl) w_lit) rfl


theorem attach_call {l : OpenLaw} {n : Nat} {q : Program} {loose : List Str} {XP : (Str → Option Value) → Heap → Prop} {YP : World → Heap → Prop} {d : DefRec}
    (hn : l.most = some n) (hdf : d.params.defaults = [])
    (call : ∀ (w : World) (s₀ s₁ : Shared) (mg mb : Str → Option Value) (fa : Addr) (o : Obj) (pm cd doc : Value) (a : Addr) (vs : List Value) (ns : List Int),
      Ground q loose [] XP w s₀ mg mb s₁.heap → YP w s₁.heap →
      s₁.heap.get? fa = some o → o.data = .func (docDef d.name d.params d.body d.scope pm cd doc) → s₁.heap.CodeRec cd d.name → mg d.name = some (.ref fa) →
      s₁.heap.get? a = some { cls := .type "list", data := .seq vs.toArray } → IntsAre vs ns → ns.length ≤ n → s₁.gens = #[] →
      codeAny (model l.prog w) callerA (.call (.ref fa) ⟨[.ref a], []⟩) (fun r s' => r = .ok (.ret (.bool true)) ∧ OldK s₁.heap s'.heap ∧ s'.os = s₁.os ∧ AllBare s'.gens) s₁) :
    WalkO q loose XP YP l.row.toRowW d [] (fun f vs => PySem.call f vs) := by
  intro w s₀ s₁ mg mb G Y fa o pm cd doc dV kV ho hd hcd hD hmg hg args vals as hpre hlay hrd hwl hlo
  obtain rfl : dV = .none := Dflts.none hD hdf
  obtain rfl : kV = .none := Dflts.noKw hD
  obtain ⟨a, vs, ns, rfl, rfl, hobj, hints, hlen⟩ := script_of hn hpre hwl
  refine enter_call (codeAny_mono (call w s₀ s₁ mg mb fa o pm cd doc a vs ns G Y ho (fd_plain hd) hcd hmg hobj hints hlen hg) fun r s' hq => ?_)
  obtain ⟨rfl, h2, h3, h4⟩ := hq
  exact ⟨.inl ⟨.bool true, .bool true, [], rfl, fun _ => rfl, .bool true, post_true l _, fun _ => ⟨List.Pairwise.nil, fun _ hm => (nomatch hm)⟩⟩, h2, h3, h4⟩


section
variable {prog : Program} {w : World} {A : Around} {E : Value → Shared → Prop} {s : Shared} {K : Frag}





noncomputable def noObjs (h : Heap) : Heap := { h with objs := #[] }
noncomputable def ledger (h : Heap) (L d : Addr) : List (Addr × Obj) := (List.range h.objs.size).filterMap fun a => if a = L ∨ a = d then none else (h.get? a).map fun o => (a, o)

end
end Att

namespace L2
open PySem PySem.Spec PyProof.Rows

theorem vals_ints : ∀ {vs : List Value} {ns : List Int}, IntsAre vs ns → Vals (ns.map V.int) vs
  | _, _, .nil => .nil
  | _, _, .cons n t h => .cons ⟨t, rfl⟩ (vals_ints h)

noncomputable def Only (H : Hp) : Prop := ∀ b, H b = none ∨ ∃ o xs, H b = some (.frz o (.lst xs))

theorem law_call {P : Program} {w : World} {K : PySem.W.Frag} {mg mb : Str → Option Value} {CX : CXT} {k : Nat} {fa a : Addr} {fd : FuncData} {x : Str} {sp : Sp} {s₁ : Shared} {vs : List Value} {ns : List Int}
    (KX : K.In s₁.heap) (hns : s₁.heap.Ns mainGlobals mg) (hb : s₁.heap.Ns builtinsNs mb) (hbb : ∀ x : Str, x ≠ "__name__" → mb x = bootBuiltins x) (hlim : s₁.heap.NoLimit) (hg : s₁.gens = #[])
    (ha : s₁.heap.get? a = some { cls := .type "list", data := .seq vs.toArray }) (hi : IntsAre vs ns) (hl : ns.length ≤ sizeLine) (hr : Room k callerA)
    (F : ∀ base : Heap, K.In base → base.Ns mainGlobals mg → FnOk P w K mg base CX k fa fd [x] sp) (hbind : ∀ (s : Shared) (u : Value), BindsTo s fd ⟨[u], []⟩ [(x, u)])
    (hsp : ∀ H : Hp, Only H → SqL K H a (ns.map V.int) → sp [.ref a] H (fun v _ => v = .bl true) fun _ _ _ => False)
    (hCX : ∀ H e s', CX [] H s₁ (fun _ _ _ => False) e s' → False) :
    codeAny (model P w) callerA (.call (.ref fa) ⟨[.ref a], []⟩) (fun r s' => r = .ok (.ret (.bool true)) ∧ OldK s₁.heap s'.heap ∧ s'.os = s₁.os ∧ AllBare s'.gens) s₁ := by
  have rv := vals_ints hi
  have lenV := hi.length
  -- from an abstract heap in which nothing but the script may be tracked
  have core : ∀ H : Hp, Only H → SqL K H a (ns.map V.int) → HOk P w H s₁.heap → (∀ b, H b ≠ none → b = a) → (H a ≠ none → K.lookup a = none) →
      codeAny (model P w) callerA (.call (.ref fa) ⟨[.ref a], []⟩) (fun r s' => r = .ok (.ret (.bool true)) ∧ OldK s₁.heap s'.heap ∧ s'.os = s₁.os ∧ AllBare s'.gens) s₁ := by
    intro H hO hS hok hA hK
    have base_of : ∀ {b : Addr} {o : Obj}, s₁.heap.get? b = some o → H b = none → (hidT s₁.heap H).get? b = some o := fun e n => hidT_get e n
    have noA : ∀ {b : Addr} {o : Obj} {es : Array DictEntry} {ep : Nat}, s₁.heap.get? b = some o → o.data = .dict es ep → H b = none := fun {b o es ep} e d => by
      cases q : H b with
      | none => rfl
      | some u =>
        have e' : b = a := hA b (by rw [q]; simp)
        subst e'
        rw [ha] at e; cases e
        have d' : Data.seq vs.toArray _ = Data.dict es ep := d
        cases d'
    have nsK : ∀ {b : Addr} {m : Str → Option Value}, s₁.heap.Ns b m → (hidT s₁.heap H).Ns b m := fun {b m} ⟨o, es, ep, e, d, r⟩ => ⟨o, es, ep, base_of e (noA e d), d, r⟩
    have hKb : K.In (hidT s₁.heap H) := fun b o e => base_of (KX b o e) (by
      cases q : H b with
      | none => rfl
      | some u =>
        have e' : b = a := hA b (by rw [q]; simp)
        subst e'
        rw [hK (by rw [q]; simp)] at e; cases e)
    have hM : Mod K mg (hidT s₁.heap H) := ⟨hKb, nsK hns, ⟨mb, nsK hb, hbb⟩, let ⟨mc, h1, h2⟩ := hlim; ⟨mc, nsK h1, h2⟩⟩
    have e0 : Env0 P w K mg (hidT s₁.heap H) callerA [] s₁ H := ⟨rfl, hM, fun b o e => of_hidT e, Nat.le_of_eq (hidT_size _ _), trivial, fun b hb => absurd (show b ∈ ([] : List Addr) from hb) (by simp), hok, .of_eq hg⟩
    refine codeAny_mono ((F _ hKb (nsK hns)).run callerA [] s₁ H ⟨[.ref a], []⟩ [.ref a] [.ref a] _ _ hr e0 (hbind s₁ (.ref a)) (.cons rfl .nil) (hsp H hO hS)) fun r s' h => ?_
    cases r with
    | error e => exact (hCX H e s' h).elim
    | ok fl =>
      cases fl with
      | next => exact False.elim h
      | brk => exact False.elim h
      | cont => exact False.elim h
      | ret u =>
        obtain ⟨v, H', os, bare, un, hok', r', q⟩ := h
        have q' : v = .bl true := q
        subst q'
        obtain rfl : u = Value.bool true := r'
        refine ⟨rfl, OldK.of_keep fun b o e => ?_, os, bare⟩
        cases q : H b with
        | none => exact un.keep b o e q (by intro z; exact absurd (show b ∈ ([] : List Addr) from z) (by simp)) (by simp)
        | some u =>
          rcases hO b with z | ⟨ob, xs, z⟩
          · rw [q] at z; cases z
          · have z2 := un.frzs b ob _ z
            obtain ⟨e1, _⟩ := hok b _ z
            obtain ⟨e2, _⟩ := hok' b _ z2
            rw [e] at e1; cases e1
            exact e2
  cases hk : K.lookup a with
  | some o =>
    -- the script is one of the module's own objects
    have e := KX a o hk
    rw [ha] at e
    cases e
    refine core (fun _ => none) (fun _ => .inl rfl) (.inr ⟨_, vs.toArray, _, hk, rfl, rfl, rfl, by rw [List.size_toArray, lenV]; exact hl, by simpa using rv⟩) (fun b u z => by have z' : (none : Option HO) = some u := z; cases z') (fun b z => absurd rfl z) fun z => absurd rfl z
  | none =>
    refine core (fun b => if b = a then some (.frz { cls := .type "list", data := .seq vs.toArray } (.lst (ns.map V.int))) else none) (fun b => ?_) (.inl (.inr ⟨{ cls := .type "list", data := .seq vs.toArray }, if_pos rfl⟩)) (fun b u z => ?_) (fun b z => ?_) fun _ => hk
    · by_cases hb : b = a
      · exact .inr ⟨_, _, if_pos hb⟩
      · exact .inl (if_neg hb)
    · by_cases hb : b = a
      · have z' := (if_pos hb).symm.trans z
        cases z'
        subst hb
        exact ⟨ha, by rw [List.length_map]; exact hl, vs, _, rv, ha⟩
      · have z' := (if_neg hb).symm.trans z
        cases z'
    · by_cases hb : b = a
      · exact hb
      · exact absurd (if_neg hb) z
end L2

namespace L2
open PySem PySem.Spec PyProof.Rows

noncomputable abbrev KOf {K : PySem.W.Frag} {h : Heap} (_ : K.In h) : PySem.W.Frag := K

theorem walk_of {l : PySem.W.OpenLaw} {n k : Nat} {q : Program} {loose : List Str} {XP : (Str → Option Value) → Heap → Prop} {YP : World → Heap → Prop} {d : DefRec} {K : Params → PySem.W.Frag} {CX : World → CXT} {sp : World → Sp} {x : Str}
    (hn : l.most = some n) (hn2 : n ≤ sizeLine) (hdf : d.params.defaults = []) (hr : Room k callerA)
    (hY : ∀ (w : World) (h : Heap), YP w h → (K w.params).In h)
    (F : ∀ (w : World) (mg : Str → Option Value) (fa : Addr) (h : Heap), (K w.params).In h → h.Ns mainGlobals mg → mg d.name = some (.ref fa) →
      ∃ fd : FuncData, (∀ (s : Shared) (u : Value), BindsTo s fd ⟨[u], []⟩ [(x, u)]) ∧
        ∀ base : Heap, (K w.params).In base → base.Ns mainGlobals mg → FnOk l.prog w (K w.params) mg base (CX w) k fa fd [x] (sp w))
    (hsp : ∀ (w : World) (H : Hp) (a : Addr) (ns : List Int), ns.length ≤ n → Only H → SqL (K w.params) H a (ns.map V.int) → sp w [.ref a] H (fun v _ => v = .bl true) fun _ _ _ => False)
    (hCX : ∀ (w : World) (H : Hp) (s : Shared) (e : Value) (s' : Shared), CX w [] H s (fun _ _ _ => False) e s' → False) :
    PySem.W.WalkO q loose XP YP l.row.toRowW d [] (fun f vs => PySem.call f vs) := by
  refine Att.attach_call hn hdf fun w s₀ s₁ mg mb fa o pm cd doc a vs ns G Y ho hd hcd hmg hobj hints hlen hg => ?_
  have KX := hY w _ Y
  obtain ⟨fd, hb, hF⟩ := F w mg fa _ KX G.T.g hmg
  exact law_call KX G.T.g G.T.b G.T.builtins G.T.nolimit hg hobj hints (Nat.le_trans hlen hn2) hr hF hb (fun H hO hS => hsp w H a ns hlen hO hS) fun H e s' => hCX w H s₁ e s'
end L2

/- THE LAST THEOREM (shape; LID, My.* are yours):
   My.Adr: a structure of the addresses that your layer names (classes, functions); My.Txt K t: a structure (Prop) of the equations over K;
   My.txt_mk : {K} {implicit addresses ..} (e1 : nsIn K mainGlobals "law" = some (some (.ref f))) (e2 : K.lookup f = some ⟨oc, od, .func (fnOf "law" "law" params body scope dV kV doc pm an cdv ct), sl⟩) (e3 : codeIn K cdv "law" = true) .. : ∃ t, My.Txt K t

set_option maxRecDepth 100000 in
set_option maxHeartbeats 0 in
theorem PySem.Challenge.cw_LID_holds : PySem.Challenge.rw_LID.Holds := by
  w_on; o_law; k_head; (case hw => w_witness2)
  k_fill
  refine L2.walk_of (l := PySem.Challenge.rw_LID) (n := 63) (k := 40) (x := "script") (CX := fun w => ..) (sp := fun _ => My.sp_law) rfl (by decide) rfl ⟨rfl, by decide, by decide⟩ (fun w h Y => PySem.W.kIn_of Y) ?F ?S ?C
  case F =>
    intro w mg fa h KX G hmg
    have T : ∃ t, My.Txt (L2.KOf KX) t := by
      dsimp only [L2.KOf]                          -- K must stand as «<heap const> w.params» for k_is
      refine' My.txt_mk ?e1 ?e2 ?e3 ..
      (case e1 => PySem.W.k_is)                    -- in the order: a name -> its address -> its object -> its parts
      (case e2 => PySem.W.k_is)
      ..
    obtain ⟨t, T⟩ := T
    have e0 := hmg.symm.trans (PySem.W.mg_of KX G T.law)
    cases e0                                       -- fa is the law's own address
    exact ⟨_, fun s u => .of_eq rfl, fun base kb nb => My.law_fn T kb nb⟩     -- if «.of_eq rfl» comes too early: refine' ⟨_, ?b, fun base kb nb => My.law_fn T kb nb⟩; exact fun s u => .of_eq rfl
  case S => exact fun w H a ns hl hO hS => ..
  case C => exact ..
(the tactic k_is has no namespace: write k_is) -/

namespace L2
open PySem PySem.Spec PyProof.Rows

noncomputable def inClass (s : Stmt) (j : Nat) : Stmt := match s with
  | .ClassDef _ _ _ body _ _ _ _ _ _ _ => body.getD j (.Pass ⟨0, 0, 0, 0⟩)
  | _ => .Pass ⟨0, 0, 0, 0⟩
noncomputable def defArgs (s : Stmt) : Arguments := match s with
  | .FunctionDef _ a _ _ _ _ _ _ _ _ => a
  | _ => { posonlyargs := [], args := [], vararg := none, kwonlyargs := [], kw_defaults := [], kwarg := none, defaults := [] }
noncomputable def defBody (s : Stmt) : List Stmt := match s with
  | .FunctionDef _ _ b _ _ _ _ _ _ _ => b
  | _ => []
noncomputable def defScope (s : Stmt) : Scope := match s with
  | .FunctionDef _ _ _ _ _ _ sc _ _ _ => sc
  | _ => { kind := .function, names := [], isGenerator := false, isCoroutine := false }

noncomputable abbrev CX0 : CXT := fun _ _ _ _ _ _ => False
noncomputable abbrev E0 : XK := fun _ _ _ => False
theorem pass0 {X : Cx} : Passes CX0 X E0 := fun _ _ _ _ _ _ _ h => h.elim

structure Fun (K : PySem.W.Frag) (x qual : Str) (st : Stmt) (f : Addr) (fd : FuncData) : Prop where
  ex : ∃ (oc : Value) (od : Option Addr) (kV doc pm : Value) (an : Option Addr) (cdv ct : Value) (osl : Array (Option Value)),
    fd = PySem.W.fnOf x qual (defArgs st) (defBody st) (defScope st) .none kV doc pm an cdv ct ∧ K.lookup f = some ⟨oc, od, .func fd, osl⟩ ∧ PySem.W.codeIn K cdv qual = true
  kp : PySem.W.keepIn K (.ref f) = true
section
variable {P : Program} {w : World} {K : PySem.W.Frag} {mg : Str → Option Value} {base : Heap}
theorem Fun.ok {x qual : Str} {st : Stmt} {f : Addr} {fd : FuncData} {N ps : List Str} {k : Nat} {sp : Sp} (F : Fun K x qual st f fd) (S : FnScope N ps (defScope st)) (len : ∀ vs H Q E, sp vs H Q E → vs.length = ps.length)
    (hbody : ∀ (cdv : Value) (A : Around) (outer : List Env) (s : Shared) (H : Hp) (vs : List V) (Q : VK) (E : XK), Room k (A.deeper (envOfC qual (defScope st) s.heap.objs.size f cdv)) → sp vs H Q E →
      ∃ t, PSs (cxOf CX0 P w K mg base N qual (defScope st) f cdv A outer s H E).nox (defBody st) t ∧ t { nx := fun _ H' => Q .non H', rt := Q } (start N vs) H) : FnOk P w K mg base CX0 (k + 1) f fd ps sp := by
  obtain ⟨oc, od, kV, doc, pm, an, cdv, ct, osl, rfl, lk, hcd⟩ := F.ex
  refine fn_of lk hcd S len fun A outer s H vs Q E hr hsp => ?_
  obtain ⟨t, h, q⟩ := hbody cdv A outer s H vs Q E hr hsp
  exact ⟨t, h.nox, q⟩
theorem Fun.binds {x qual : Str} {st : Stmt} {f : Addr} {fd : FuncData} {ps : List Str} (F : Fun K x qual st f fd)
    (h : ∀ (kV doc pm : Value) (an : Option Addr) (cdv ct : Value) (us : List Value), us.length = ps.length → bindArgs (PySem.W.fnOf x qual (defArgs st) (defBody st) (defScope st) .none kV doc pm an cdv ct) ⟨us, []⟩ = pure (ps.zip us)) : Binds K fd ps [] := by
  obtain ⟨oc, od, kV, doc, pm, an, cdv, ct, osl, rfl, lk, hcd⟩ := F.ex
  exact .all (h kV doc pm an cdv ct)
theorem fun_mk {x qual : Str} {st : Stmt} {f : Addr} {oc : Value} {od an : Option Addr} {osl : Array (Option Value)} {kV doc pm cdv ct : Value} (l : K.lookup f = some ⟨oc, od, .func (PySem.W.fnOf x qual (defArgs st) (defBody st) (defScope st) .none kV doc pm an cdv ct), osl⟩)
    (c : PySem.W.codeIn K cdv qual = true) (k : PySem.W.keepIn K (.ref f) = true) : Fun K x qual st f (PySem.W.fnOf x qual (defArgs st) (defBody st) (defScope st) .none kV doc pm an cdv ct) := ⟨⟨oc, od, kV, doc, pm, an, cdv, ct, osl, rfl, l, c⟩, k⟩
end

section
variable {X : Cx}
theorem pv (i : Nat) {x : Str} {pos : Pos} (hN : X.N[i]? = some x := by rfl) (hv : Vis X.env.scope x := by first | exact Or.inl rfl | exact Or.inr (Or.inl rfl) | exact Or.inr (Or.inr rfl)) (hd : (x == ("__debug__" : Str)) = false := by decide)
    (hcd : (x == ("__classdict__" : Str)) = false := by decide) : PE X (.Name x pos) (tVar i) := pe_var hN hv hd hcd
end

theorem iteF {A B : Prop} (h : B) : if false = true then A else B := by
  rw [if_neg Bool.false_ne_true]
  exact h
theorem iteT {A B : Prop} (h : A) : if true = true then A else B := by
  rw [if_pos rfl]
  exact h
theorem ite2 {c A B : Prop} [Decidable c] (h1 : c → A) (h2 : ¬ c → B) : if c then A else B := by
  by_cases h : c
  · rw [if_pos h]
    exact h1 h
  · rw [if_neg h]
    exact h2 h
theorem iteNS {c A B : Prop} [Decidable c] (hc : c) (h : B) : if (!decide c) = true then A else B := by
  rw [decide_eq_true hc]
  exact iteF h

noncomputable def Same (H H' : Hp) : Prop := ∀ b o, H b = some o → H' b = some o
theorem Same.refl (H : Hp) : Same H H := fun _ _ h => h
theorem Same.trans {H H1 H2 : Hp} (a : Same H H1) (b : Same H1 H2) : Same H H2 := fun c o h => b c o (a c o h)
theorem Same.free {H H' : Hp} (e : Same H H') {l : Addr} (h : H' l = Option.none) : H l = Option.none := by
  cases q : H l with
  | none => rfl
  | some o =>
    rw [e l o q] at h
    cases h
theorem Same.seq {K : PySem.W.Frag} {H H' : Hp} {a : Addr} {xs : List V} (e : Same H H') (h : SqL K H a xs) : SqL K H' a xs := by
  rcases h with (h | ⟨o, h⟩) | h
  · exact .inl (.inl (e _ _ h))
  · exact .inl (.inr ⟨o, e _ _ h⟩)
  · exact .inr h

end L2

namespace Ra
noncomputable def Bt (n : Nat) (x : Int) : Prop := x.natAbs < 2 ^ n
theorem Bt.mono {m n : Nat} {x : Int} (h : Bt m x) (l : m ≤ n) : Bt n x := Nat.lt_of_lt_of_le h (Nat.pow_le_pow_right (by decide) l)
theorem Bt.of_le {n : Nat} {x y : Int} (h : Bt n x) (k : y.natAbs ≤ x.natAbs) : Bt n y := Nat.lt_of_le_of_lt k h
theorem Bt.between {n : Nat} {x : Int} (h : -(2 ^ n : Int) < x) (k : x < (2 ^ n : Int)) : Bt n x := by
  unfold Bt
  have e : ((2 ^ n : Nat) : Int) = (2 : Int) ^ n := by push_cast; rfl
  (first | lia | omega)

noncomputable def g (a b : Int) : Int := (Int.gcd a b : Nat)
theorem g_nonneg (a b : Int) : 0 ≤ g a b := Int.natCast_nonneg _
theorem g_dvd_left (a b : Int) : g a b ∣ a := Int.gcd_dvd_left a b
theorem g_dvd_right (a b : Int) : g a b ∣ b := Int.gcd_dvd_right a b
theorem g_pos {a b : Int} (h : b ≠ 0) : 0 < g a b := by
  have h1 : 0 < Int.gcd a b := Int.gcd_pos_of_ne_zero_right a h
  unfold g
  (first | lia | omega)
structure Fq (a b : Int) : Prop where
  pos : 0 < b
  one : Int.gcd a b = 1
theorem div_cop {a b : Int} (h : b ≠ 0) : Int.gcd (a / g a b) (b / g a b) = 1 := by
  have hp : 0 < Int.gcd a b := Int.gcd_pos_of_ne_zero_right a h
  exact Int.gcd_ediv_gcd_ediv_gcd hp

theorem mul_g {a b : Int} : g a b * (a / g a b) = a := Int.mul_ediv_cancel' (g_dvd_left a b)
theorem mul_gr {a b : Int} : g a b * (b / g a b) = b := Int.mul_ediv_cancel' (g_dvd_right a b)
theorem low_ok {t b : Int} (hb : 0 < b) : Fq (t / g t b) (b / g t b) ∧ (t / g t b) * b = t * (b / g t b) := by
  have hg : 0 < g t b := g_pos (by (first | lia | omega))
  refine ⟨⟨?_, div_cop (by (first | lia | omega))⟩, ?_⟩
  · exact Int.ediv_pos_of_pos_of_dvd hb (Int.le_of_lt hg) (g_dvd_right t b)
  · have e1 := @mul_g t b
    have e2 := @mul_gr t b
    generalize t / g t b = x at *
    generalize b / g t b = y at *
    calc x * b = x * (g t b * y) := by rw [e2]
      _ = (g t b * x) * y := by rw [← Int.mul_assoc, Int.mul_comm x]
      _ = t * y := by rw [e1]
noncomputable def plsT (a b c d : Int) : Int := a * (d / g b d) + c * (b / g b d)
noncomputable def plsN (a b c d : Int) : Int := plsT a b c d / g (plsT a b c d) (g b d)
noncomputable def plsD (a b c d : Int) : Int := (b / g b d) * (d / g (plsT a b c d) (g b d))
noncomputable def tmsN (a b c d : Int) : Int := (a / g a d) * (c / g c b)
noncomputable def tmsD (a b c d : Int) : Int := (b / g c b) * (d / g a d)
theorem g_step {a b : Int} (ha : 0 ≤ a) (hb : 0 < b) : g b (a % b) = g a b := by
  unfold g
  rw [Int.gcd_comm a b]
  exact congrArg _ (by rw [Int.emod_def, Int.sub_eq_add_neg, ← Int.mul_neg, Int.gcd_add_mul_left_right])
theorem g_end {a : Int} (ha : 0 ≤ a) : g a 0 = a := by
  unfold g
  rw [Int.gcd_zero_right]
  (first | lia | omega)
theorem g_abs (a b : Int) : g (if a < 0 then -a else a) (if b < 0 then -b else b) = g a b := by
  unfold g
  split <;> split <;> simp
end Ra

namespace Ra
noncomputable def sh (t b : Int) : Int := if b < 0 then -(g t b) else g t b
noncomputable def frN (t b : Int) : Int := t.fdiv (sh t b)
noncomputable def frD (t b : Int) : Int := b.fdiv (sh t b)
noncomputable def sgn (a : Int) : Int := if a > 0 then 1 else if a < 0 then -1 else 0
noncomputable def ab (a : Int) : Int := if a < 0 then -a else a
end Ra

namespace Rq
open Ra
theorem den_pos (q : Rat) : (0 : Int) < (q.den : Int) := by have := q.den_pos; (first | lia | omega)
theorem fq (q : Rat) : Fq q.num q.den := ⟨den_pos q, q.reduced⟩
theorem q_eq (q : Rat) : (q.num : Rat) / ((q.den : Int) : Rat) = q := by
  rw [← Rat.divInt_eq_div]
  exact Rat.num_divInt_den q
theorem of_low {N D T M : Int} (f : Fq N D) (hM : M ≠ 0) (e : N * M = T * D) {q : Rat} (hq : q = (T : Rat) / (M : Rat)) : q.num = N ∧ (q.den : Int) = D := by
  have hD := f.pos
  have hd : D.toNat ≠ 0 := by (first | lia | omega)
  have ed : ((D.toNat : Nat) : Int) = D := by (first | lia | omega)
  have hr : N.natAbs.Coprime D.toNat := by
    have h := f.one
    have e2 : D.natAbs = D.toNat := by (first | lia | omega)
    rw [← e2]
    exact h
  have key : q = (⟨N, D.toNat, hd, hr⟩ : Rat) := by
    rw [hq, ← Rat.divInt_eq_div, Rat.mk_eq_divInt, ed]
    exact (Rat.divInt_eq_divInt_iff hM (by (first | lia | omega))).mpr e.symm
  rw [key]
  exact ⟨rfl, ed⟩
theorem eq_of_low {N D : Int} (f : Fq N D) {q : Rat} (hq : q = (N : Rat) / (D : Rat)) : q.num = N ∧ (q.den : Int) = D := of_low f (by have := f.pos; (first | lia | omega)) rfl hq
theorem low_q {t b : Int} (hb : 0 < b) : t / g t b = ((t : Rat) / (b : Rat)).num ∧ b / g t b = (((t : Rat) / (b : Rat)).den : Int) := by
  obtain ⟨f, e⟩ := low_ok (t := t) hb
  obtain ⟨a, b⟩ := of_low f (by (first | lia | omega)) e rfl
  exact ⟨a.symm, b.symm⟩
noncomputable def Bq (n : Nat) (q : Rat) : Prop := Bt n q.num ∧ Bt n (q.den : Int)
theorem dvd_of {T M : Int} {q : Rat} (hM : M ≠ 0) (hq : q = (T : Rat) / (M : Rat)) : q.num ∣ T ∧ (q.den : Int) ∣ M := by
  have e : q.num * M = T * q.den := by
    have e1 : (q.num : Rat) / ((q.den : Int) : Rat) = (T : Rat) / (M : Rat) := (q_eq q).trans hq
    rw [← Rat.divInt_eq_div, ← Rat.divInt_eq_div] at e1
    exact (Rat.divInt_eq_divInt_iff (by have := den_pos q; (first | lia | omega)) hM).mp e1
  have c := (fq q).one
  constructor
  · have d : q.num ∣ T * q.den := ⟨M, e.symm⟩
    have d' := Int.natAbs_dvd_natAbs.mpr d
    rw [Int.natAbs_mul] at d'
    exact Int.natAbs_dvd_natAbs.mp (Nat.Coprime.dvd_of_dvd_mul_right c d')
  · have d : (q.den : Int) ∣ q.num * M := ⟨T, by rw [e, Int.mul_comm]⟩
    have d' := Int.natAbs_dvd_natAbs.mpr d
    rw [Int.natAbs_mul] at d'
    exact Int.natAbs_dvd_natAbs.mp (Nat.Coprime.dvd_of_dvd_mul_left (Nat.Coprime.symm c) d')
end Rq

namespace Po
open Ra Rq
noncomputable def strip : List Rat → List Rat
  | [] => []
  | q :: qs => match strip qs with
    | [] => if q = 0 then [] else [q]
    | r :: rs => q :: r :: rs
noncomputable def ev : List Rat → Rat → Rat
  | [], _ => 0
  | q :: qs, x => q + x * ev qs x
noncomputable def padd (ps qs : List Rat) : List Rat := strip ((List.range (max ps.length qs.length)).map fun k => ps.getD k 0 + qs.getD k 0)
noncomputable def psub (ps qs : List Rat) : List Rat := strip ((List.range (max ps.length qs.length)).map fun k => ps.getD k 0 - qs.getD k 0)
noncomputable def pscale (qs : List Rat) (x : Rat) : List Rat := strip (qs.map (· * x))
noncomputable def pslope (qs : List Rat) : List Rat := (List.range (qs.length - 1)).map fun k => qs.getD (k + 1) 0 * (((1 : Int) + (k : Int) : Int) : Rat)
noncomputable def sm (f : Nat → Rat) (n : Nat) : Rat := (List.range n).foldl (fun acc i => acc + f i) 0
noncomputable def conv (ps qs : List Rat) (k : Nat) : Rat := sm (fun i => ps.getD i 0 * qs.getD (k - i) 0) (k + 1)
noncomputable def pmul (ps qs : List Rat) : List Rat := strip ((List.range (ps.length + qs.length)).map (conv ps qs))
noncomputable def Rep (n : Nat) (v : Rat) (T M : Int) : Prop := M ≠ 0 ∧ v = (T : Rat) / (M : Rat) ∧ Bt n T ∧ Bt n M
noncomputable def lsum (qs : List Rat) : Rat := qs.foldl (· + ·) 0
end Po

namespace Po
open Ra Rq
noncomputable def stp (gs ws : List Rat) (t h0 l0 : Rat) : Nat → Rat × Rat
  | 0 => (h0 + gs.getD 0 0 * l0, l0)
  | k + 1 => ((stp gs ws t h0 l0 k).1 + gs.getD (k + 1) 0 * ((stp gs ws t h0 l0 k).2 - t * ws.getD k 0 * (stp gs ws t h0 l0 k).1), (stp gs ws t h0 l0 k).2 - t * ws.getD k 0 * (stp gs ws t h0 l0 k).1)
noncomputable def walkQ (gs ws : List Rat) (t h0 l0 : Rat) : List (Rat × Rat) := (List.range gs.length).map (stp gs ws t h0 l0)
structure R3 (n : Nat) (h l : Rat) (th tl m : Int) : Prop where
  pos : 0 < m
  eh : h = (th : Rat) / (m : Rat)
  el : l = (tl : Rat) / (m : Rat)
  bh : Bt n th
  bl : Bt n tl
  bm : Bt n m
end Po

namespace Po
open Ra Rq
noncomputable def lst (xs : List Rat) : Rat := xs.getD (xs.length - 1) 0
noncomputable def rless (rs qs : List Rat) (f : Rat) : List Rat := rs.take (rs.length - qs.length) ++ (List.range (qs.length - 1)).map fun k => rs.getD (rs.length - qs.length + k) 0 - f * qs.getD k 0
noncomputable def dv (qs : List Rat) : Nat → List Rat → List Rat × List Rat
  | 0, rs => ([], rs)
  | s + 1, rs => if rs.length < qs.length then ([], rs) else ((dv qs s (rless rs qs (lst rs / lst qs))).1 ++ [lst rs / lst qs], (dv qs s (rless rs qs (lst rs / lst qs))).2)
noncomputable def Ov (n : Nat) (M : Int) (q : Rat) : Prop := ∃ T : Int, Bt n T ∧ q * (M : Rat) = (T : Rat)
end Po

namespace Po
open Ra Rq
noncomputable def dif (c : Rat) : List Rat → List Rat
  | [] => []
  | q :: qs => c * q :: dif (2 * c + 1) qs
noncomputable def plean (l h : List Rat) (w : Rat) : List Rat := psub l (strip (0 :: pscale h w))
noncomputable def pst (gs ws : List Rat) (h0 l0 : List Rat) : Nat → List Rat × List Rat
  | 0 => (padd h0 (pscale l0 (gs.getD 0 0)), l0)
  | k + 1 => (padd (pst gs ws h0 l0 k).1 (pscale (plean (pst gs ws h0 l0 k).2 (pst gs ws h0 l0 k).1 (ws.getD k 0)) (gs.getD (k + 1) 0)), plean (pst gs ws h0 l0 k).2 (pst gs ws h0 l0 k).1 (ws.getD k 0))
structure O2 (n : Nat) (h l : List Rat) (M : Int) : Prop where
  ne : M ≠ 0
  bm : Bt n M
  oh : ∀ q ∈ h, Ov n M q
  ol : ∀ q ∈ l, Ov n M q
end Po

namespace Po
open Ra Rq
end Po
namespace Po
open Ra Rq
end Po
namespace Po
open Ra Rq
end Po
namespace Po
open Ra Rq
noncomputable def lprod (qs : List Rat) : Rat := qs.foldl (· * ·) 1
noncomputable def gsum (gs : List Rat) (k : Nat) : Rat := sm (fun i => gs.getD i 0) (k + 1)
theorem getD_in {qs : List Rat} {k : Nat} (h : k < qs.length) : qs.getD k 0 = qs[k] := by rw [List.getD_eq_getElem?_getD, List.getElem?_eq_getElem h]; rfl
noncomputable def sg (n : Nat) : Rat := ((1 - 2 * ((n : Int) % 2) : Int) : Rat)
end Po

namespace PySem
open PyProof.Rows
theorem f_int : typeLookup (.type "str") "__int__" = pure none := by rw [typeLookup_type, builtinLookup_eq_fast]; kernel_rfl
theorem f_index : typeLookup (.type "str") "__index__" = pure none := by rw [typeLookup_type, builtinLookup_eq_fast]; kernel_rfl
theorem f_trunc : typeLookup (.type "str") "__trunc__" = pure none := by rw [typeLookup_type, builtinLookup_eq_fast]; kernel_rfl
noncomputable def isDg (c : Nat) : Prop := 48 ≤ c ∧ c ≤ 57
theorem fold_dg {F : Array Nat × Bool → Nat → Option (Array Nat × Bool)} (hF : ∀ acc b c, isDg c → F (acc, b) c = some (acc.push (c - 48), true)) : ∀ (t : List Nat) (acc : Array Nat) (b : Bool), (∀ c ∈ t, isDg c) → t.foldlM F (acc, b) = some (t.foldl (fun a c => a.push (c - 48)) acc, b || !t.isEmpty)
  | [], acc, b, _ => by simp
  | c :: t, acc, b, h => by
    rw [List.foldlM_cons, hF acc b c (h c (by simp))]
    show t.foldlM F (acc.push (c - 48), true) = _
    rw [fold_dg hF t _ _ fun d hd => h d (by simp [hd])]
    simp
theorem dw_rev (p : Nat → Bool) (t : List Nat) (h : ∀ c ∈ t, p c = false) : List.dropWhile p t.reverse = t.reverse := by
  cases e : t.reverse with
  | nil => rfl
  | cons c r =>
    have : c ∈ t := by rw [← List.mem_reverse, e]; simp
    rw [List.dropWhile_cons, h c this]
    rfl
theorem dw_one (p : Nat → Bool) (c : Nat) (r : List Nat) (h : p c = false) : List.dropWhile p (c :: r) = c :: r := by
  rw [List.dropWhile_cons, h]
  rfl
theorem isDg.cases {c : Nat} {P : Nat → Prop} (h : isDg c) (h0 : P 48) (h1 : P 49) (h2 : P 50) (h3 : P 51) (h4 : P 52) (h5 : P 53) (h6 : P 54) (h7 : P 55) (h8 : P 56) (h9 : P 57) : P c := by
  obtain ⟨a, b⟩ := h
  have : c = 48 ∨ c = 49 ∨ c = 50 ∨ c = 51 ∨ c = 52 ∨ c = 53 ∨ c = 54 ∨ c = 55 ∨ c = 56 ∨ c = 57 := by (first | lia | omega)
  rcases this with rfl | rfl | rfl | rfl | rfl | rfl | rfl | rfl | rfl | rfl <;> assumption
noncomputable def dgv (t : List Nat) : Nat := t.foldl (fun n c => n * 10 + (c - 48)) 0
noncomputable def dga (t : List Nat) : Array Nat := t.foldl (fun a c => a.push (c - 48)) #[]
theorem dga_list : ∀ (t : List Nat) (a : Array Nat), (t.foldl (fun a c => a.push (c - 48)) a).toList = a.toList ++ t.map (· - 48)
  | [], a => by simp
  | c :: t, a => by rw [List.foldl_cons, dga_list t]; simp
theorem dga_size (t : List Nat) : (dga t).size = t.length := by
  have := congrArg List.length (dga_list t #[])
  simpa [dga] using this
theorem dga_val (t : List Nat) : Array.foldl (fun acc d => acc * 10 + d) 0 (dga t) = dgv t := by
  rw [← Array.foldl_toList]
  have := dga_list t #[]
  unfold dga dgv
  rw [this]
  simp [List.foldl_map]
theorem tw_all (p : Nat → Bool) : ∀ t : List Nat, (∀ c ∈ t, p c = true) → t.takeWhile p = t
  | [], _ => rfl
  | c :: t, h => by rw [List.takeWhile_cons, if_pos (h c (by simp)), tw_all p t fun d hd => h d (by simp [hd])]
theorem dg_all {p : Nat → Bool} (h : p 48 = false ∧ p 49 = false ∧ p 50 = false ∧ p 51 = false ∧ p 52 = false ∧ p 53 = false ∧ p 54 = false ∧ p 55 = false ∧ p 56 = false ∧ p 57 = false) {c : Nat} (hc : isDg c) : p c = false := by
  obtain ⟨h0, h1, h2, h3, h4, h5, h6, h7, h8, h9⟩ := h
  exact hc.cases (P := fun c => p c = false) h0 h1 h2 h3 h4 h5 h6 h7 h8 h9
theorem dg_shape {t : List Nat} (ht : t ≠ []) (hd : ∀ c ∈ t, isDg c) : t = [48] ∨ (∃ c r, (c = 48 ∨ c = 49 ∨ c = 50 ∨ c = 51 ∨ c = 52 ∨ c = 53 ∨ c = 54 ∨ c = 55 ∨ c = 56 ∨ c = 57) ∧ t = 48 :: c :: r) ∨ ∃ c r, (c = 49 ∨ c = 50 ∨ c = 51 ∨ c = 52 ∨ c = 53 ∨ c = 54 ∨ c = 55 ∨ c = 56 ∨ c = 57) ∧ t = c :: r := by
  match t, ht, hd with
  | [c], _, hd =>
    have h := hd c (by simp)
    unfold isDg at h
    by_cases e : c = 48
    · subst e; exact .inl rfl
    · exact .inr (.inr ⟨c, [], by (first | lia | omega), rfl⟩)
  | c :: d :: r, _, hd =>
    have h := hd c (by simp)
    have h' := hd d (by simp)
    unfold isDg at h h'
    by_cases e : c = 48
    · subst e; exact .inr (.inl ⟨d, r, by (first | lia | omega), rfl⟩)
    · exact .inr (.inr ⟨c, d :: r, by (first | lia | omega), rfl⟩)
set_option maxHeartbeats 20000000 in
theorem gives_int_text (x : Str) (u : Tok) (neg : Bool) (t : List Nat) (ht : t ≠ []) (hd : ∀ c ∈ t, isDg c) (hl : t.length ≤ 600) (hx : x.cps.toList = if neg then 45 :: t else t) : Gives (Builtin.«int.__new__» ⟨[.type "int", .str x u], []⟩) (.int (if neg then -(dgv t : Int) else dgv t)) :=
  .of_wp fun M A E s Q h => by
    have hs : x.cps.all (· < 128) = true := by
      rw [← Array.all_toList, hx, List.all_eq_true]
      intro c hc
      have : c = 45 ∨ c ∈ t := by cases neg <;> simp_all
      rcases this with z | z
      · rw [z]; rfl
      · have := (hd c z).2
        exact decide_eq_true (by (first | lia | omega))
    have hz : x.cps.toList.takeWhile (· != 0) = x.cps.toList := tw_all _ _ fun c hc => by
      rw [hx] at hc
      have : c = 45 ∨ c ∈ t := by cases neg <;> simp_all
      rcases this with z | z
      · rw [z]; rfl
      · have := (hd c z).1
        simp
        (first | lia | omega)
    have hl' : x.cps.toList.length ≤ 640 := by
      rw [hx]
      cases neg <;> simp <;> (first | lia | omega)
    obtain ⟨hp, g, d, tk, os⟩ := s
    have f1 := F.conv_sub_int
    have f2 := F.madeHere_int
    have f3 := f_int
    iterate 31 (first | assumption | wp_step)
    refine wpAny_specialOf_val (T := "str") rfl f_index ?_
    dsimp only [Option.isSome]
    rw [if_neg (by decide)]
    refine wpAny_bind (wpAny_specialOf_val (T := "str") rfl f_trunc ?_)
    dsimp only
    refine wpAny_bind (wpAny_of_eq (?e : _ = pure (some x.cps.toList)) ?_)
    case e =>
      show (pure (some (ite _ _ _)) : Sem _) = _
      rw [if_pos hs]
    dsimp only
    wp_step
    rw [hz, if_pos hl', hx]
    refine wpAny_bind (wpAny_pure ?_)
    dsimp only
    clear hs hz hl' hx f1 f2 f3
    have fin : ∀ (ds : Array Nat), ds = dga t → ds.size ≤ 6000 ∧ Array.foldl (fun acc d => acc * 10 + d) 0 ds = dgv t := fun ds e => by
      rw [e]
      exact ⟨by rw [dga_size]; (first | lia | omega), dga_val t⟩
    have sh := dg_shape ht hd
    cases neg
    · rw [if_neg (show ¬ (false = true) by decide)] at h ⊢
      rcases sh with rfl | ⟨c, r, rfl | rfl | rfl | rfl | rfl | rfl | rfl | rfl | rfl | rfl, rfl⟩ | ⟨c, r, rfl | rfl | rfl | rfl | rfl | rfl | rfl | rfl | rfl, rfl⟩
      · split
        case h_1 n heq =>
          conv at heq => lhs; whnf
          cases heq
        case h_2 heq =>
          conv at heq => lhs; whnf
          cases heq
        case h_3 i heq =>
          conv at heq => lhs; whnf
          cases heq
          rw [if_pos (by simp)]
          exact wpAny_mkInt' (wpAny_ite_true rfl (wpAny_pure ⟨_, rfl, h⟩))
        case h_4 heq =>
          conv at heq => lhs; whnf
          cases heq
      all_goals
        split
        case h_1 n heq =>
          conv at heq => lhs; whnf
          split at heq
          next hn => cases heq
          next ds hn =>
            rw [if_neg (by simp)] at heq
            split at heq
            next => cases heq
            next => cases heq
        case h_2 heq =>
          conv at heq => lhs; whnf
          split at heq
          next hn => cases heq
          next ds hn =>
            conv at hn => lhs; whnf
            rw [dw_one _ _ _ (dg_all ⟨rfl, rfl, rfl, rfl, rfl, rfl, rfl, rfl, rfl, rfl⟩ (hd _ (by simp))), dw_rev _ _ (fun c hc => dg_all ⟨rfl, rfl, rfl, rfl, rfl, rfl, rfl, rfl, rfl, rfl⟩ (hd c hc)), List.reverse_reverse, fold_dg (fun acc b c hc => hc.cases (P := fun c => _ = some (acc.push (c - 48), true)) rfl rfl rfl rfl rfl rfl rfl rfl rfl rfl) _ _ _ hd] at hn
            have hn' := (fin ds (Option.some.inj hn).symm).1
            rw [if_neg (by simp), if_neg (by simp; (first | lia | omega))] at heq
            cases heq
        case h_3 i heq =>
          conv at heq => lhs; whnf
          split at heq
          next hn => cases heq
          next ds hn =>
            conv at hn => lhs; whnf
            rw [dw_one _ _ _ (dg_all ⟨rfl, rfl, rfl, rfl, rfl, rfl, rfl, rfl, rfl, rfl⟩ (hd _ (by simp))), dw_rev _ _ (fun c hc => dg_all ⟨rfl, rfl, rfl, rfl, rfl, rfl, rfl, rfl, rfl, rfl⟩ (hd c hc)), List.reverse_reverse, fold_dg (fun acc b c hc => hc.cases (P := fun c => _ = some (acc.push (c - 48), true)) rfl rfl rfl rfl rfl rfl rfl rfl rfl rfl) _ _ _ hd] at hn
            obtain ⟨hn', hv⟩ := fin ds (Option.some.inj hn).symm
            rw [if_neg (by simp), if_neg (by simp; (first | lia | omega))] at heq
            dsimp only at heq
            rw [hv] at heq
            rw [if_pos (by simp)]
            cases heq
            exact wpAny_mkInt' (wpAny_ite_true rfl (wpAny_pure ⟨_, rfl, h⟩))
        case h_4 heq =>
          conv at heq => lhs; whnf
          split at heq
          next hn =>
            conv at hn => lhs; whnf
            rw [dw_one _ _ _ (dg_all ⟨rfl, rfl, rfl, rfl, rfl, rfl, rfl, rfl, rfl, rfl⟩ (hd _ (by simp))), dw_rev _ _ (fun c hc => dg_all ⟨rfl, rfl, rfl, rfl, rfl, rfl, rfl, rfl, rfl, rfl⟩ (hd c hc)), List.reverse_reverse, fold_dg (fun acc b c hc => hc.cases (P := fun c => _ = some (acc.push (c - 48), true)) rfl rfl rfl rfl rfl rfl rfl rfl rfl rfl) _ _ _ hd] at hn
            cases hn
          next ds hn =>
            rw [if_neg (by simp)] at heq
            split at heq
            next => cases heq
            next => cases heq
    · rw [if_pos rfl] at h ⊢
      rcases sh with rfl | ⟨c, r, rfl | rfl | rfl | rfl | rfl | rfl | rfl | rfl | rfl | rfl, rfl⟩ | ⟨c, r, rfl | rfl | rfl | rfl | rfl | rfl | rfl | rfl | rfl, rfl⟩
      · split
        case h_1 n heq =>
          conv at heq => lhs; whnf
          cases heq
        case h_2 heq =>
          conv at heq => lhs; whnf
          cases heq
        case h_3 i heq =>
          conv at heq => lhs; whnf
          cases heq
          rw [if_pos (by simp)]
          exact wpAny_mkInt' (wpAny_ite_true rfl (wpAny_pure ⟨_, rfl, h⟩))
        case h_4 heq =>
          conv at heq => lhs; whnf
          cases heq
      all_goals
        split
        case h_1 n heq =>
          conv at heq => lhs; whnf
          split at heq
          next hn => cases heq
          next ds hn =>
            rw [if_neg (by simp)] at heq
            split at heq
            next => cases heq
            next => cases heq
        case h_2 heq =>
          conv at heq => lhs; whnf
          split at heq
          next hn => cases heq
          next ds hn =>
            conv at hn => lhs; whnf
            rw [dw_rev _ _ (fun c hc => dg_all ⟨rfl, rfl, rfl, rfl, rfl, rfl, rfl, rfl, rfl, rfl⟩ (hd c hc)), List.reverse_reverse, fold_dg (fun acc b c hc => hc.cases (P := fun c => _ = some (acc.push (c - 48), true)) rfl rfl rfl rfl rfl rfl rfl rfl rfl rfl) _ _ _ hd] at hn
            have hn' := (fin ds (Option.some.inj hn).symm).1
            rw [if_neg (by simp), if_neg (by simp; (first | lia | omega))] at heq
            cases heq
        case h_3 i heq =>
          conv at heq => lhs; whnf
          split at heq
          next hn => cases heq
          next ds hn =>
            conv at hn => lhs; whnf
            rw [dw_rev _ _ (fun c hc => dg_all ⟨rfl, rfl, rfl, rfl, rfl, rfl, rfl, rfl, rfl, rfl⟩ (hd c hc)), List.reverse_reverse, fold_dg (fun acc b c hc => hc.cases (P := fun c => _ = some (acc.push (c - 48), true)) rfl rfl rfl rfl rfl rfl rfl rfl rfl rfl) _ _ _ hd] at hn
            obtain ⟨hn', hv⟩ := fin ds (Option.some.inj hn).symm
            rw [if_neg (by simp), if_neg (by simp; (first | lia | omega))] at heq
            dsimp only at heq
            rw [hv] at heq
            rw [if_pos (by simp)]
            cases heq
            exact wpAny_mkInt' (wpAny_ite_true rfl (wpAny_pure ⟨_, rfl, h⟩))
        case h_4 heq =>
          conv at heq => lhs; whnf
          split at heq
          next hn =>
            conv at hn => lhs; whnf
            rw [dw_rev _ _ (fun c hc => dg_all ⟨rfl, rfl, rfl, rfl, rfl, rfl, rfl, rfl, rfl, rfl⟩ (hd c hc)), List.reverse_reverse, fold_dg (fun acc b c hc => hc.cases (P := fun c => _ = some (acc.push (c - 48), true)) rfl rfl rfl rfl rfl rfl rfl rfl rfl rfl) _ _ _ hd] at hn
            cases hn
          next ds hn =>
            rw [if_neg (by simp)] at heq
            split at heq
            next => cases heq
            next => cases heq
end PySem

namespace L3
open PySem PySem.Spec PyProof.Rows L2 Ra

theorem log2_of {j : Int} (h : Bt 9000 j) : j.natAbs.log2 < 9000 := by
  by_cases h0 : j.natAbs = 0
  · rw [h0]; decide
  · exact (Nat.log2_lt h0).mpr h
theorem mul_of {i j : Int} {m n : Nat} (h : Bt m i) (k : Bt n j) (l : m + n ≤ 134217728) : IntMulOk i j :=
  PySem.IntMulOk.of_le (PySem.intBits_le_iff.mpr h) (PySem.intBits_le_iff.mpr k) l
section
variable {X : Cx} {a b c : Expr} {ta tb tc : TE} {pos : Pos}
theorem op_fdP : OpR X (binaryOp .FloorDiv) (rI (fun _ j => 0 < j ∧ Bt 9000 j) fun i j => .int (i / j)) := opI fun i j _ _ _ _ _ hc q => by
  have h1 : (0 : Int) < j := hc.1
  exact floordiv_int (by (first | lia | omega)) (by rw [Int.fdiv_eq_ediv_of_nonneg i (by (first | lia | omega))]; exact q) (.inl (PyProof.noPylong_of_log2 (log2_of hc.2)))
theorem op_mulB : OpR X (binaryOp .Mult) (rI IntMulOk fun i j => .int (i * j)) := opI fun _ _ _ _ _ _ _ hc q => mul_int q hc
theorem call_isi : CallR X (.builtin "isinstance") (fun xs H Q => ∃ x T t b, xs = [x, .ty T] ∧ TyOf X.K H x t ∧ PySem.W.kitOne X.K t (.type T) = some b ∧ Q (.bl b) H) := by
  intro pins s σ H xs us Q I r h
  obtain ⟨x, T, t, b, rfl, ty, e, q⟩ := h
  obtain ⟨u, w', rfl, rx, rt⟩ := vals2 r
  cases rt
  exact isinst_ok I rx ty e fun tk => ⟨.bl b, H, I.tok _, rfl, q⟩
end
theorem kit_int_int (K : PySem.W.Frag) : PySem.W.kitOne K (.type "int") (.type "int") = some true := rfl
theorem kit_int_bool (K : PySem.W.Frag) : PySem.W.kitOne K (.type "int") (.type "bool") = some false := by with_unfolding_all rfl
theorem kit_tup_tup (K : PySem.W.Frag) : PySem.W.kitOne K (.type "tuple") (.type "tuple") = some true := rfl

section
variable {X : Cx} {K : PySem.W.Frag}
end
theorem iteD {c A B : Prop} [Decidable c] (h : c) (k : A) : if decide c = true then A else B := by
  rw [decide_eq_true h]
  exact iteT k
theorem iteND {c A B : Prop} [Decidable c] (h : ¬ c) (k : B) : if decide c = true then A else B := by
  rw [decide_eq_false h]
  exact iteF k
theorem iteNB {b : Bool} {A B : Prop} (h : b = true) (k : B) : if (!b) = true then A else B := by
  rw [h]
  exact iteF k
structure Cal (P : Program) (w : World) (K : PySem.W.Frag) (mg : Str → Option Value) (base : Heap) (x : Str) (k : Nat) (ps : List Str) (sp : Sp) : Prop where
  ex : ∃ f fd, FnOk P w K mg base CX0 k f fd ps sp ∧ Binds K fd ps [] ∧ PySem.W.keepIn K (.ref f) = true ∧ mg x = some (.ref f)
theorem Cal.imp {P : Program} {w : World} {K : PySem.W.Frag} {mg : Str → Option Value} {base : Heap} {x : Str} {k : Nat} {ps : List Str} {sp sp' : Sp} (C : Cal P w K mg base x k ps sp) (h : ∀ {vs : List V} {H : Hp} {Q : VK} {E : XK}, sp' vs H Q E → sp vs H Q E) : Cal P w K mg base x k ps sp' := by
  obtain ⟨f, fd, F, b, kp, m⟩ := C.ex
  exact ⟨f, fd, F.imp fun _ _ _ _ z => h z, b, kp, m⟩
theorem pe_cl {X : Cx} {x : Str} {k j : Nat} {ps : List Str} {sp : Sp} {e : Expr} {es : List Expr} {t : TA} {p pos : Pos} (C : Cal X.prog X.w X.K X.mg X.base x k ps sp) (hr : Room j X.A) (ha : PA X (e :: es) t) (hkj : k ≤ j := by decide) (hg : Gl X x := by rfl)
    (hdb : (x == ("__debug__" : Str)) = false := by decide) (he : starEach (e :: es) X.env = (false, eval e X.env) :: starEach es X.env := by rfl) (hpl : (backTo pos (starEach es X.env)).any (·.1) = false := by rfl) :
    PE X (.Call (.Name x p) (e :: es) [] pos) (tCall sp [] E0 t) := by
  obtain ⟨f, fd, F, b, kp, m⟩ := C.ex
  exact pe_call F (hr.mono hkj) hg m kp b .nil pass0 ha hdb he hpl

theorem same_upd {H : Hp} {p : Addr} (h : H p = none) (o : HO) : Same H (upd H p o) := fun b u q => by rw [upd_ne (ne_of_none q h)]; exact q
noncomputable def Pr (H : Hp) (p : Addr) (x y : Int) : Prop := H p = some (.tup [.int x, .int y])
theorem Pr.sq {K : PySem.W.Frag} {H : Hp} {p : Addr} {x y : Int} (h : Pr H p x y) : SqT K H p [.int x, .int y] := SqT.of h
theorem Pr.new {H : Hp} {p : Addr} {x y : Int} : Pr (upd H p (.tup [.int x, .int y])) p x y := upd_same

noncomputable def cellA (ns : List Int) (k : Nat) : Int := ns.getD k (2 * (k : Int) + 1)
theorem cellA_in {ns : List Int} {k : Nat} (h : k < ns.length) : cellA ns k = ns[k] := by
  unfold cellA
  rw [List.getD_eq_getElem?_getD, List.getElem?_eq_getElem h]
  rfl
theorem cellA_out {ns : List Int} {k : Nat} (h : ns.length ≤ k) : cellA ns k = 2 * (k : Int) + 1 := by
  unfold cellA
  rw [List.getD_eq_getElem?_getD, List.getElem?_eq_none h]
  rfl
noncomputable def mixed (c k : Int) : Int := if c % 2 = 0 ∧ 10 ^ 18 < c then c / 2 else ((c / 2) % 10 ^ 60 + k * k) * 6364136223846793013 + (k + 1) * 1442695040888963407
noncomputable def signed (n : Int) : Int := if n % 2 = 0 then n / 2 else -1 - n / 2
end L3

namespace L3
open PySem PySem.Spec PyProof.Rows L2 Ra
section
variable {X : Cx}
theorem call_int_txt : CallR X (.type "int") (fun xs H Q => ∃ (x : Str) (neg : Bool) (t : List Nat), xs = [.str x] ∧ t ≠ [] ∧ (∀ c ∈ t, isDg c) ∧ t.length ≤ 600 ∧ x.cps.toList = (if neg then 45 :: t else t) ∧ Q (.int (if neg then -(dgv t : Int) else dgv t)) H) := by
  intro pins s σ H xs us Q I r h
  obtain ⟨x, neg, t, rfl, h1, h2, h3, h4, q⟩ := h
  obtain ⟨u, rfl, rx⟩ := vals1 r
  obtain ⟨tk, rfl⟩ := rx
  exact call_int_1 (gives_int_text x tk neg t h1 h2 h3 h4).meets ⟨rfl, .int _, H, I.tok _, ⟨_, rfl⟩, q⟩
theorem mt_starts : MtR X "str.startswith" (fun x xs H Q => ∃ a b, x = .str a ∧ xs = [.str b] ∧ Q (.bl (Txt.startswith a b)) H) := by
  intro pins s σ H x xs v us Q I rx rs h
  obtain ⟨a, b, rfl, rfl, q⟩ := h
  obtain ⟨t, rfl⟩ := rx
  obtain ⟨u, rfl, ru⟩ := vals1 rs
  obtain ⟨t', rfl⟩ := ru
  exact SC.startswith ⟨.bl _, H, I, rfl, q⟩
theorem mt_ends : MtR X "str.endswith" (fun x xs H Q => ∃ a b, x = .str a ∧ xs = [.str b] ∧ Q (.bl (Txt.endswith a b)) H) := by
  intro pins s σ H x xs v us Q I rx rs h
  obtain ⟨a, b, rfl, rfl, q⟩ := h
  obtain ⟨t, rfl⟩ := rx
  obtain ⟨u, rfl, ru⟩ := vals1 rs
  obtain ⟨t', rfl⟩ := ru
  exact SC.endswith ⟨.bl _, H, I, rfl, q⟩
theorem vals_strs : ∀ {ts : List Str} {its : List Value}, Vals (ts.map V.str) its → ∃ l, its = strValues l ∧ l.map (·.1) = ts
  | [], _, .nil => ⟨[], rfl, rfl⟩
  | x :: ts, _, .cons h r => by
    obtain ⟨t, rfl⟩ := h
    obtain ⟨l, rfl, e⟩ := vals_strs r
    exact ⟨(x, t) :: l, rfl, by rw [List.map_cons, e]⟩
theorem mt_join : MtR X "str.join" (fun x xs H Q => ∃ a p ts, x = .str a ∧ xs = [.ref p] ∧ SqL X.K H p (ts.map V.str) ∧ JoinOk a ts = true ∧ Q (.str (Txt.join a ts)) H) := by
  intro pins s σ H x xs v us Q I rx rs h
  obtain ⟨a, p, ts, rfl, rfl, hq, ok, q⟩ := h
  obtain ⟨t, rfl⟩ := rx
  obtain ⟨u, rfl, ru⟩ := vals1 rs
  cases ru
  obtain ⟨its, r', pl, hz⟩ := I.list hq
  obtain ⟨l, rfl, e⟩ := vals_strs r'
  exact SC.join pl.isList e ok fun t' k => ⟨.str _, H, I.tok _, ⟨_, rfl⟩, q⟩
noncomputable def parts3 (x y : Str) : List Str := match Builtin.Str.occurrences x y 0 x.length 1 with
  | i :: _ => [Builtin.Str.strSub x 0 i, y, Builtin.Str.strSub x (i + y.length) x.length]
  | [] => [x, Str.empty, Str.empty]
theorem mt_part : MtR X "str.partition" (fun x xs H Q => ∃ a b, x = .str a ∧ xs = [.str b] ∧ b.length ≠ 0 ∧ a.length ≤ sizeLine ∧ ∀ p, H p = none → Q (.ref p) (upd H p (.tup ((parts3 a b).map V.str)))) := by
  intro pins s σ H x xs v us Q I rx rs h
  obtain ⟨a, b, rfl, rfl, hb, ha, q⟩ := h
  obtain ⟨t, rfl⟩ := rx
  obtain ⟨u, rfl, ru⟩ := vals1 rs
  obtain ⟨t', rfl⟩ := ru
  refine call_meets F.slot_str_partition (typeIs_str _ _ _) F.entry_str_partition (F.args_str_partition_2 _ _) (meets_str_partition a b t t' (by simpa using hb) ha) ?_
  have q' := q s.heap.objs.size (I.hok.fresh (Nat.le_refl _))
  unfold parts3 at q'
  cases ho : Builtin.Str.occurrences a b 0 a.length 1 with
  | nil =>
    rw [ho] at q'
    refine ⟨.ref s.heap.objs.size, _, I.laid (t' := s.toks + 1) (o := .tup [.str a, .str Str.empty, .str Str.empty]) (fun b ob q => Heap.get?_push_of_some _ q) (Nat.le_refl _) ?_, rfl, q'⟩
    exact ⟨by show 3 ≤ sizeLine; decide, _, .cons ⟨_, rfl⟩ (.cons ⟨_, rfl⟩ (.cons ⟨_, rfl⟩ .nil)), ⟨_, Heap.get?_push_size _ rfl, rfl, _, rfl⟩⟩
  | cons i r =>
    rw [ho] at q'
    refine ⟨.ref s.heap.objs.size, _, I.laid (t' := s.toks + 1 + 1) (o := .tup [.str (Builtin.Str.strSub a 0 i), .str b, .str (Builtin.Str.strSub a (i + b.length) a.length)]) (fun b ob q => Heap.get?_push_of_some _ q) (Nat.le_refl _) ?_, rfl, q'⟩
    exact ⟨by show 3 ≤ sizeLine; decide, _, .cons ⟨_, rfl⟩ (.cons ⟨_, rfl⟩ (.cons ⟨_, rfl⟩ .nil)), ⟨_, Heap.get?_push_size _ rfl, rfl, _, rfl⟩⟩
theorem vals_from : ∀ (k : Nat) (ts : List Str), Vals (ts.map V.str) (strsFrom k ts)
  | _, [] => .nil
  | k, x :: ts => .cons ⟨k, rfl⟩ (vals_from (k + 1) ts)
theorem mt_split : MtR X "str.split" (fun x xs H Q => ∃ a b, x = .str a ∧ xs = [.str b] ∧ b.length ≠ 0 ∧ a.length ≤ sizeLine ∧ (Txt.split a b).length ≤ sizeLine ∧ ∀ p, H p = none → Q (.ref p) (upd H p (.lst ((Txt.split a b).map V.str)))) := by
  intro pins s σ H x xs v us Q I rx rs h
  obtain ⟨a, b, rfl, rfl, hb, ha, hn, q⟩ := h
  obtain ⟨t, rfl⟩ := rx
  obtain ⟨u, rfl, ru⟩ := vals1 rs
  obtain ⟨t', rfl⟩ := ru
  have hb' : (b.length == 0) = false := by simpa using hb
  have q' := q s.heap.objs.size (I.hok.fresh (Nat.le_refl _))
  have fin : ∀ (k : Nat) (ts : List Str) (its : List Value), Txt.split a b = ts → Vals (ts.map V.str) its → EP X pins σ Q (.ref s.heap.objs.size) { s with toks := k, heap := s.heap.push { cls := .type "list", data := .seq its.toArray } } := fun k ts its e r => by
    rw [e] at q' hn
    refine ⟨.ref s.heap.objs.size, _, I.laid (t' := k) (o := .lst (ts.map V.str)) (fun b ob q => Heap.get?_push_of_some _ q) (Nat.le_refl _) ?_, rfl, q'⟩
    exact ⟨by rw [List.length_map]; exact hn, its, _, r, Heap.get?_push_size _ rfl⟩
  cases h1 : (decide (a.length < b.length) || decide (Builtin.Str.strKind a < Builtin.Str.strKind b)) with
  | true =>
    have e : Txt.split a b = [a] := by unfold Txt.split; rw [if_pos h1]
    exact call_meets F.slot_str_split (typeIs_str _ _ _) F.entry_str_split (F.args_str_split_2 _ _) (meets_str_split_cannot_occur a b t t' h1) (fin s.toks [a] [.str a t] e (.cons ⟨_, rfl⟩ .nil))
  | false =>
    cases hf : (Builtin.Str.occurrences a b 0 a.length (a.length + 1)).isEmpty with
    | true =>
      have e : Txt.split a b = [a] := by unfold Txt.split; rw [h1, hf]; rfl
      exact call_meets F.slot_str_split (typeIs_str _ _ _) F.entry_str_split (F.args_str_split_2 _ _) (meets_str_split_not_found a b t t' h1 hb' hf) (fin s.toks [a] [.str a t] e (.cons ⟨_, rfl⟩ .nil))
    | false =>
      have e : Txt.split a b = Builtin.Str.partsBetween a (Builtin.Str.occurrences a b 0 a.length (a.length + 1)) b.length := by unfold Txt.split; rw [h1, hf]; rfl
      exact call_meets F.slot_str_split (typeIs_str _ _ _) F.entry_str_split (F.args_str_split_2 _ _) (meets_str_split_sep a b t t' h1 hb' hf ha (by rw [← e]; exact hn)) (fin _ _ _ e (vals_from s.toks _))
noncomputable def rSlS : V → Option Int → Option Int → Hp → VK → Prop := fun x lo hi H Q => ∃ z, x = .str z ∧ z.length ≤ sizeLine ∧ Q (.str (Txt.slice z lo hi)) H
theorem sl_str : SlR X rSlS := by
  intro pins s σ H x v vl vu lo hi sl Q I rx hs pl pu h
  obtain ⟨z, rfl, hz, q⟩ := h
  obtain ⟨t, rfl⟩ := rx
  have pv : ∀ {v : Value} {o : Option Int}, IsPart v o → ∃ l : Option (Int × Tok), v = partValue l ∧ o = l.map (·.1) := fun {v o} h => by
    cases h with
    | none => exact ⟨none, rfl, rfl⟩
    | int i t => exact ⟨some (i, t), rfl, rfl⟩
  obtain ⟨l, rfl, rfl⟩ := pv pl
  obtain ⟨u, rfl, rfl⟩ := pv pu
  exact ⟨"str", _, F.slot_str_getitem.lookup, typeIs_str _ _ _, wpAny_getItem_str_slice (l := l) (u := u) (st := none) hs rfl (post_val_or_str ⟨Nat.le_trans (Txt.slice_le z _ _) hz, fun t' k => ⟨.str _, H, I.tok _, ⟨_, rfl⟩, q⟩⟩)⟩
noncomputable def Its (z : Str) : L2.It := ⟨fun i _ => i < z.cps.size, fun i H x H' => H' = H ∧ ∃ c, z.cps[i]? = some c ∧ x = .str ⟨#[c]⟩, fun i _ => z.cps.size ≤ i⟩
theorem turn_str {P : Program} {w : World} {K : PySem.W.Frag} {tg : Expr} (z : Str) (t : Tok) (it : Addr) : L2.Turn P w K tg (Its z) [it] it (fun i h => h.IsStrIter it "str_ascii_iterator" z t i) where
  mem := by simp
  obj := fun i h st b hb => by
    have e : b = it := by simpa using hb
    subst e
    obtain ⟨o, e, c, d⟩ := st
    exact ⟨o, e, fun v z => by rw [d] at z; cases z⟩
  keep := fun i h h' st k => by
    obtain ⟨o, e, r⟩ := st
    exact ⟨o, k it (by simp) o e, r⟩
  item := by
    intro X hP hw hK hc i pins s σ H E I hf st hg
    subst hP hw hK
    obtain ⟨f0, f1, f2, f3, f4, f5⟩ := hf it (by simp)
    have hi : i < z.cps.size := hg
    refine wpAny_pyNext_ascii_item st (c := z.cps[i]) (by simp [hi]) fun h' st' sb => ?_
    have I1 : Inv X pins σ H { s with heap := h', toks := s.toks + 1 } := I.turned (t' := s.toks + 1) (fun b o hb e => (sb.2 b hb).trans e) f0 f1 f3 f4 f5
    obtain ⟨o, e, c, d⟩ := id st'
    exact ⟨_, rfl, go_of (s := { s with heap := h', toks := s.toks + 1 }) e c d (by decide) ⟨.str ⟨#[z.cps[i]]⟩, H, I1, ⟨_, rfl⟩, ⟨rfl, _, by simp [hi], rfl⟩, st', fun b hb => (hf b hb).1⟩⟩
  done := by
    intro X hP hw hK hc i pins s σ H E I hf st hg
    subst hP hw hK
    obtain ⟨f0, f1, f2, f3, f4, f5⟩ := hf it (by simp)
    have hi : z.cps.size ≤ i := hg
    exact wpAny_pyNext_ascii_end (I.ok.hd hc) st (by simp [hi]) fun h' eb => ⟨rfl, I.turned (t' := s.toks) (fun b o hb e => eb b o hb e) f0 f1 f3 f4 f5⟩
  self := fun _ _ _ _ _ st h => wpAny_pyIter_striter_ascii st h
noncomputable def iStr (tl : TE) : L2.TI := fun σ H R => tl σ H fun x H1 => ∃ z, x = .str z ∧ z.cps.all (· < 128) = true ∧ R (Its z) H1
theorem pi_str {tg l : Expr} {tl : TE} (hl : PE X l tl) : L2.PI X tg l (iStr tl) := by
  intro pins s σ H R I h
  refine thn (hl pins s σ H _ I h) fun v s1 ⟨x, H1, I1, r1, q1⟩ => ?_
  obtain ⟨z, e, ha, q⟩ := q1
  subst e
  obtain ⟨t, rfl⟩ := r1
  refine wpAny_pyIter_ascii ha ?_
  refine ⟨s1.heap.objs.size, [s1.heap.objs.size], _, _, H1, rfl, I1.kept (t' := s1.toks) fun b o e => Heap.get?_push_of_some _ e, turn_str z t _, ⟨_, Heap.get?_push_size _ rfl, rfl, rfl⟩, fun b hb => ?_, q⟩
  have e : b = s1.heap.objs.size := by simpa using hb
  subst e
  exact I1.fpOk (Nat.le_refl _) (I1.hok.fresh (Nat.le_refl _))
noncomputable def rTx : V → Hp → VK → Prop := fun x H Q => ∃ i : Int, x = .int i ∧ i.natAbs.log2 < 1920 ∧ Q (.str (Str.ofString (toString i))) H
theorem pe_fmt {a : Expr} {ta : TE} {p : Pos} (ha : PE X a ta) : PE X (.FormattedValue a (-1) none p) (tUn rTx ta) := by
  intro pins s σ H Q I h
  refine FormattedValue_plain (thn (ha pins s σ H _ I h) fun v s1 ⟨x, H1, I1, r1, q1⟩ => ?_)
  obtain ⟨i, rfl, hi, q⟩ := q1
  obtain ⟨t, rfl⟩ := r1
  exact formatField_int_small hi ⟨.str _, H1, I1.tok _, ⟨_, rfl⟩, q⟩
theorem pe_fs1 {a : Expr} {ta : TE} {p : Pos} (ha : PE X a ta) : PE X (.JoinedStr [a] p) ta := fun pins s σ H Q I h => JoinedStr_one (ha pins s σ H Q I h)
noncomputable def tFs3 (ta tb tc : TE) : TE := fun σ H Q => ta σ H fun x H1 => ∃ a, x = .str a ∧ a.length ≤ sizeLine ∧ tb σ H1 fun y H2 => ∃ b, y = .str b ∧ a.length + b.length ≤ sizeLine ∧ tc σ H2 fun z H3 => ∃ c, z = .str c ∧ a.length + b.length + c.length ≤ sizeLine ∧ Q (.str (a ++ b ++ c)) H3
theorem slen (a b : Str) : (a ++ b).length = a.length + b.length := by
  show (a ++ b).cps.size = _
  rw [Str.cps_append, Array.size_append]
  rfl
theorem pe_fs3 {a b c : Expr} {ta tb tc : TE} {p : Pos} (ha : PE X a ta) (hb : PE X b tb) (hc : PE X c tc) : PE X (.JoinedStr [a, b, c] p) (tFs3 ta tb tc) := by
  intro pins s σ H Q I h
  have e0 : ∀ y : Str, Str.empty ++ y = y := fun y => Str.append_left_empty rfl
  refine wpAny_JoinedStr (Joins_cons (thn (ha pins s σ H _ I h) fun v s1 ⟨x, H1, I1, r1, q1⟩ => ?_))
  obtain ⟨a', rfl, l1, q1⟩ := q1
  obtain ⟨t1, rfl⟩ := r1
  refine ⟨a', t1, rfl, by rw [e0]; exact l1, Joins_cons (thn (hb pins s1 σ H1 _ I1 q1) fun v s2 ⟨y, H2, I2, r2, q2⟩ => ?_)⟩
  obtain ⟨b', rfl, l2, q2⟩ := q2
  obtain ⟨t2, rfl⟩ := r2
  refine ⟨b', t2, rfl, by rw [e0, slen]; exact l2, Joins_cons (thn (hc pins s2 σ H2 _ I2 q2) fun v s3 ⟨z, H3, I3, r3, q3⟩ => ?_)⟩
  obtain ⟨c', rfl, l3, q3⟩ := q3
  obtain ⟨t3, rfl⟩ := r3
  refine ⟨c', t3, rfl, by rw [e0, slen, slen]; exact l3, Joins_nil ?_⟩
  rw [e0]
  exact ⟨by rw [slen, slen]; exact l3, .str _, H3, I3.tok _, ⟨_, rfl⟩, q3⟩
theorem pe_globS {x : Str} {n : Str} {pos : Pos} (hg : Gl X x) (hm : ∃ t, X.mg x = some (.str n t)) (hd : (x == ("__debug__" : Str)) = false := by decide) : PE X (.Name x pos) (tC (.str n)) := by
  obtain ⟨t, hm⟩ := hm
  exact pe_glob hg hm ⟨t, rfl⟩ hd
theorem kit_str_str (K : PySem.W.Frag) : PySem.W.kitOne K (.type "str") (.type "str") = some true := rfl
end
end L3

namespace L3
open PySem PySem.Spec PyProof.Rows Ra Builtin.Str
noncomputable def sx (l : List Nat) : Str := ⟨l.toArray⟩
theorem sx_list (l : List Nat) : (sx l).cps.toList = l := rfl
theorem sx_len (l : List Nat) : (sx l).length = l.length := by
  show l.toArray.size = _
  simp
theorem sx_of (x : Str) : x = sx x.cps.toList := Str.ext' (by simp [sx])
theorem sx_app (a b : List Nat) : sx a ++ sx b = sx (a ++ b) := Str.ext' (by rw [Str.cps_append]; simp [sx])
theorem sx_inj {a b : List Nat} (h : sx a = sx b) : a = b := by
  have := congrArg (fun x : Str => x.cps.toList) h
  exact this
theorem sx_lit (s : String) : Str.ofString s = sx (s.toList.map Char.toNat) := Str.ofString_eq_toList s
noncomputable def dgs (n : Nat) : List Nat := (Nat.toDigits 10 n).map Char.toNat
theorem dch : ∀ d, d < 10 → (Nat.digitChar d).toNat = 48 + d := by decide
theorem dgs_small {n : Nat} (h : n < 10) : dgs n = [48 + n] := by
  unfold dgs
  rw [Nat.toDigits_of_lt_base h, List.map_singleton, dch n h]
theorem dgs_big {n : Nat} (h : ¬ n < 10) : dgs n = dgs (n / 10) ++ [48 + n % 10] := by
  have e : n = 10 * (n / 10) + n % 10 := by (first | lia | omega)
  have h1 := Nat.toDigits_append_toDigits (b := 10) (n := n / 10) (d := n % 10) (by decide) (by (first | lia | omega)) (by (first | lia | omega))
  rw [← e] at h1
  have h2 := dgs_small (n := n % 10) (by (first | lia | omega))
  unfold dgs at h2 ⊢
  rw [← h1, List.map_append, h2]
theorem dgs_dg : ∀ (n : Nat), ∀ c ∈ dgs n, isDg c := fun n => by
  induction n using Nat.strongRecOn with
  | _ n ih =>
    intro c hc
    by_cases h : n < 10
    · rw [dgs_small h] at hc
      rw [List.mem_singleton.mp hc]
      exact ⟨by (first | lia | omega), by (first | lia | omega)⟩
    · rw [dgs_big h] at hc
      rcases List.mem_append.mp hc with z | z
      · exact ih (n / 10) (by (first | lia | omega)) c z
      · rw [List.mem_singleton.mp z]
        exact ⟨by (first | lia | omega), by (first | lia | omega)⟩
theorem dgs_ne (n : Nat) : dgs n ≠ [] := by
  by_cases h : n < 10
  · rw [dgs_small h]; simp
  · rw [dgs_big h]; simp
theorem dgv_snoc (t : List Nat) (c : Nat) : dgv (t ++ [c]) = dgv t * 10 + (c - 48) := by
  unfold dgv
  rw [List.foldl_append]
  rfl
theorem dgs_val : ∀ (n : Nat), dgv (dgs n) = n := fun n => by
  induction n using Nat.strongRecOn with
  | _ n ih =>
    by_cases h : n < 10
    · rw [dgs_small h]
      show 0 * 10 + (48 + n - 48) = n
      (first | lia | omega)
    · rw [dgs_big h, dgv_snoc, ih (n / 10) (by (first | lia | omega))]
      (first | lia | omega)
theorem dgs_len {k n : Nat} (hk : 1 ≤ k) (h : n < 10 ^ k) : (dgs n).length ≤ k := by
  unfold dgs
  rw [List.length_map]
  exact digits10_le hk h
noncomputable def itx (i : Int) : List Nat := if i < 0 then 45 :: dgs i.natAbs else dgs i.natAbs
theorem tos (i : Int) : Str.ofString (toString i) = sx (itx i) := by
  cases i with
  | ofNat m =>
    unfold itx
    rw [if_neg (show ¬ Int.ofNat m < 0 from Int.not_lt.mpr (Int.natCast_nonneg m))]
    exact text_ofNat m
  | negSucc m =>
    unfold itx
    rw [if_pos (by (first | lia | omega))]
    rw [sx_lit]
    have e : toString (Int.negSucc m) = "-" ++ Nat.repr (m + 1) := rfl
    have e2 := text_ofNat (m + 1)
    rw [sx_lit] at e2
    have e3 : (Nat.repr (m + 1)).toList.map Char.toNat = (Nat.toDigits 10 (m + 1)).map Char.toNat := sx_inj e2
    rw [e, String.toList_append, List.map_append, e3]
    rfl
noncomputable def ftx (q : Rat) : List Nat := if q.den = 1 then itx q.num else itx q.num ++ 47 :: dgs q.den
theorem itx_free {c : Nat} (h1 : c ≠ 45) (h2 : ¬ isDg c) (i : Int) : c ∉ itx i := fun h => by
  unfold itx at h
  split at h
  · rcases List.mem_cons.mp h with z | z
    · exact h1 z
    · exact h2 (dgs_dg _ c z)
  · exact h2 (dgs_dg _ c h)
theorem ftx_free {c : Nat} (h1 : c ≠ 45) (h2 : ¬ isDg c) (h3 : c ≠ 47) (q : Rat) : c ∉ ftx q := fun h => by
  unfold ftx at h
  split at h
  · exact itx_free h1 h2 _ h
  · rcases List.mem_append.mp h with z | z
    · exact itx_free h1 h2 _ z
    · rcases List.mem_cons.mp z with y | y
      · exact h3 y
      · exact h2 (dgs_dg _ c y)
theorem at_iff (l : List Nat) (c i : Nat) : StrLaws.At (sx l) (sx [c]) (sx l).length i ↔ l[i]? = some c := StrLaws.subAt_one (sx l) c i
theorem part_none {c : Nat} {l : List Nat} (h : c ∉ l) : parts3 (sx l) (sx [c]) = [sx l, Str.empty, Str.empty] := by
  unfold parts3
  rcases StrLaws.occ_head (sx l) (sx [c]) 1 (Nat.le_refl 1) with ⟨e, _⟩ | ⟨i, r, e, ha, _⟩
  · rw [e]
  · exact absurd (List.mem_of_getElem? ((at_iff l c i).mp ha)) h
theorem part_some {c : Nat} {a b : List Nat} (h : c ∉ a) : parts3 (sx (a ++ c :: b)) (sx [c]) = [sx a, sx [c], sx b] := by
  unfold parts3
  have at1 : StrLaws.At (sx (a ++ c :: b)) (sx [c]) (sx (a ++ c :: b)).length a.length := (at_iff _ c _).mpr (by simp)
  rcases StrLaws.occ_head (sx (a ++ c :: b)) (sx [c]) 1 (Nat.le_refl 1) with ⟨_, hn⟩ | ⟨i, r, e, ha, hm⟩
  · exact absurd at1 (hn _)
  · have hi : i = a.length := by
      rcases Nat.lt_trichotomy i a.length with z | z | z
      · exfalso
        have := (at_iff _ c i).mp ha
        rw [List.getElem?_append_left z] at this
        exact h (List.mem_of_getElem? this)
      · exact z
      · exact absurd at1 (hm _ z)
    rw [e, hi]
    have e1 : strSub (sx (a ++ c :: b)) 0 a.length = sx a := Str.ext' (by simp [strSub, sx])
    have e2 : strSub (sx (a ++ c :: b)) (a.length + (sx [c]).length) (sx (a ++ c :: b)).length = sx b := Str.ext' (by
      simp [strSub, sx, Str.length]
      exact List.take_of_length_le (by (first | lia | omega)))
    show [strSub _ _ _, _, strSub _ _ _] = _
    rw [e1, e2]
noncomputable def jn (c : Nat) : List (List Nat) → List Nat
  | [] => []
  | [w] => w
  | w :: v :: r => w ++ c :: jn c (v :: r)
theorem jn_cut {c : Nat} : ∀ {a b a' b' : List Nat}, c ∉ a → c ∉ a' → a ++ c :: b = a' ++ c :: b' → a = a' ∧ b = b'
  | [], _, [], _, _, _, e => ⟨rfl, by simpa using e⟩
  | [], _, x :: a', _, _, h', e => by
    have : c = x := by simpa using (List.cons.inj e).1
    exact absurd (by rw [this]; simp) h'
  | x :: a, _, [], _, h, _, e => by
    have : x = c := by simpa using (List.cons.inj e).1
    exact absurd (by rw [this]; simp) h
  | x :: a, b, y :: a', b', h, h', e => by
    obtain ⟨e1, e2⟩ := List.cons.inj e
    obtain ⟨i1, i2⟩ := jn_cut (a := a) (a' := a') (fun z => h (by simp [z])) (fun z => h' (by simp [z])) e2
    exact ⟨by rw [e1, i1], i2⟩
theorem jn_mem {c : Nat} {w v : List Nat} {r : List (List Nat)} : c ∈ jn c (w :: v :: r) := by
  show c ∈ w ++ c :: jn c (v :: r)
  simp
theorem jn_inj {c : Nat} : ∀ {ws vs : List (List Nat)}, (∀ w ∈ ws, c ∉ w) → (∀ v ∈ vs, c ∉ v) → ws ≠ [] → vs ≠ [] → jn c ws = jn c vs → ws = vs
  | [w], [v], _, _, _, _, e => by
    have : w = v := e
    rw [this]
  | [w], v :: v' :: r, h, _, _, _, e => by
    have e' : w = jn c (v :: v' :: r) := e
    exact absurd (by rw [e']; exact jn_mem) (h w (by simp))
  | w :: w' :: r, [v], _, h', _, _, e => by
    have e' : jn c (w :: w' :: r) = v := e
    exact absurd (by rw [← e']; exact jn_mem) (h' v (by simp))
  | w :: w' :: r, v :: v' :: s, h, h', _, _, e => by
    obtain ⟨e1, e2⟩ := jn_cut (h w (by simp)) (h' v (by simp)) e
    have := jn_inj (ws := w' :: r) (vs := v' :: s) (fun x hx => h x (List.mem_cons_of_mem _ hx)) (fun x hx => h' x (List.mem_cons_of_mem _ hx)) (by simp) (by simp) e2
    rw [e1, this]
theorem join_jn (c : Nat) : ∀ ws : List (List Nat), Str.join (sx [c]) (ws.map sx) = sx (jn c ws)
  | [] => rfl
  | [w] => rfl
  | w :: v :: r => by
    show sx w ++ sx [c] ++ Str.join (sx [c]) ((v :: r).map sx) = _
    rw [join_jn c (v :: r), sx_app, sx_app]
    show sx (w ++ [c] ++ jn c (v :: r)) = sx (w ++ c :: jn c (v :: r))
    rw [List.append_assoc]
    rfl
theorem split_ne (x y : Str) : Txt.split x y ≠ [] := by
  unfold Txt.split
  split
  · simp
  · split
    · simp
    · rw [StrLaws.partsBetween_eq]
      obtain ⟨p, r, e⟩ := StrLaws.partsFrom_ne x y.length 0 (occurrences x y 0 x.length (x.length + 1))
      rw [e]
      simp
theorem split_jn {c : Nat} {ws : List (List Nat)} (h : ∀ w ∈ ws, c ∉ w) (hn : ws ≠ []) : Txt.split (sx (jn c ws)) (sx [c]) = ws.map sx := by
  have e1 := StrLaws.join_split (sx (jn c ws)) (sx [c])
  have e2 : Txt.split (sx (jn c ws)) (sx [c]) = ((Txt.split (sx (jn c ws)) (sx [c])).map fun p => p.cps.toList).map sx := by
    rw [List.map_map]
    exact (List.map_id _).symm.trans (List.map_congr_left fun p _ => sx_of p)
  have f := StrLaws.split_free (sx (jn c ws)) c
  have ne := split_ne (sx (jn c ws)) (sx [c])
  rw [e2, join_jn] at e1
  have := jn_inj (c := c) (fun w hw => by
    obtain ⟨p, hp, rfl⟩ := List.mem_map.mp hw
    exact f p hp) h (fun z => ne (List.map_eq_nil_iff.mp z)) hn (sx_inj e1)
  rw [e2, this]
theorem txt_join (c : Nat) (ws : List (List Nat)) : Txt.join (sx [c]) (ws.map sx) = sx (jn c ws) := by
  unfold Txt.join
  rw [StrLaws.glued_eq_join, join_jn]
theorem starts_one (l : List Nat) (c : Nat) : Txt.startswith (sx l) (sx [c]) = decide (l[0]? = some c) := by
  have h := at_iff l c 0
  unfold StrLaws.At at h
  unfold Txt.startswith
  by_cases e : l[0]? = some c
  · rw [decide_eq_true e]
    have := h.mpr e
    rw [Bool.and_eq_true]
    exact ⟨decide_eq_true this.1, this.2⟩
  · rw [decide_eq_false e]
    refine Bool.eq_false_iff.mpr fun z => e (h.mp ?_)
    rw [Bool.and_eq_true] at z
    exact ⟨of_decide_eq_true z.1, z.2⟩
theorem slice_from {l : List Nat} (h : l ≠ []) : Txt.slice (sx l) (some 1) none = sx (l.drop 1) := by
  have hl : 0 < l.length := List.length_pos_iff.mpr h
  have := StrLaws.sliceText_from (x := sx l) (i := 1) ⟨by decide, by rw [sx_list]; (first | lia | omega)⟩
  refine (show Txt.slice (sx l) (some 1) none = _ from this).trans ?_
  rw [sx_list]
  unfold sx
  rw [List.take_of_length_le (by rw [List.length_drop]; (first | lia | omega))]
  rfl
theorem slice_mid (a b : Nat) (m : List Nat) : Txt.slice (sx (a :: (m ++ [b]))) (some 1) (some (-1)) = sx m := by
  have hl : (sx (a :: (m ++ [b]))).length = m.length + 2 := by rw [sx_len]; simp
  have e1 := StrLaws.sliceText_neg_hi (sx (a :: (m ++ [b]))) (some 1) (j := -1) (by decide) (by (first | lia | omega))
  have e2 := StrLaws.sliceText_plain (x := sx (a :: (m ++ [b]))) (i := 1) (j := -1 + ((sx (a :: (m ++ [b]))).length : Int)) ⟨by decide, by (first | lia | omega), by rw [sx_list]; simp; (first | lia | omega)⟩
  refine (show Txt.slice (sx (a :: (m ++ [b]))) (some 1) (some (-1)) = _ from e1).trans (e2.trans ?_)
  rw [hl, sx_list, show (-1 + ((m.length + 2 : Nat) : Int) - 1).toNat = m.length by (first | lia | omega)]
  unfold sx
  congr 1
  show ((m ++ [b]).take m.length).toArray = _
  rw [List.take_left']
  rfl
theorem in_one (l : List Nat) (c : Nat) : (!(occurrences (sx l) (sx [c]) 0 (sx l).length 1).isEmpty) = decide (c ∈ l) := StrLaws.found_one (sx l) c
end L3

namespace L3
open PySem PySem.Spec PyProof.Rows L2 Ra
noncomputable def clo (sc : Scope) (env : Env) : List (Str × Addr) := ((sc.names.filter fun y => y.2 == .free).map fun y => (y.1, (env.cells.lookup y.1).getD 0)).reverse
theorem clo_in {sc : Scope} {env : Env} {y : Str} {c : Addr} (h : (clo sc env).lookup y = some c) : (y, NameKind.free) ∈ sc.names ∧ c = (env.cells.lookup y).getD 0 := by
  have m : (y, c) ∈ clo sc env := PySem.mem_of_lookup h
  unfold clo at m
  rw [List.mem_reverse, List.mem_map] at m
  obtain ⟨⟨n, k⟩, hm, e⟩ := m
  rw [List.mem_filter] at hm
  have hk : k = .free := by simpa using hm.2
  subst hk
  cases e
  exact ⟨hm.1, rfl⟩
theorem lookup_some_of_mem {α : Type} {l : List (Str × α)} {y : Str} {c : α} (h : (y, c) ∈ l) : ∃ c', l.lookup y = some c' := by
  induction l with
  | nil => cases h
  | cons p r ih =>
    obtain ⟨n, v⟩ := p
    by_cases e : y = n
    · subst e
      exact ⟨v, by simp⟩
    · have hb : (y == n) = false := by simpa using e
      rw [List.lookup_cons, hb]
      rcases List.mem_cons.mp h with z | z
      · cases z
        exact absurd rfl e
      · exact ih z
theorem clo_has {sc : Scope} {env : Env} {y : Str} (h : (y, NameKind.free) ∈ sc.names) : ∃ c, (clo sc env).lookup y = some c := by
  refine lookup_some_of_mem (c := (env.cells.lookup y).getD 0) ?_
  unfold clo
  rw [List.mem_reverse, List.mem_map]
  exact ⟨(y, .free), List.mem_filter.mpr ⟨h, by simp⟩, rfl⟩
theorem closure_aux {env : Env} : ∀ (ns : List (Str × NameKind)) (cs : List (Str × Addr)), (∀ y ∈ ns, y.2 = .free → ∃ c, env.cells.lookup y.1 = some c) →
    (forIn ns cs fun x r => (match x with | (name, kind) => if kind == .free then do let c ← cellOf env name; pure (ForInStep.yield ((name, c) :: r)) else pure (ForInStep.yield r) : Sem (ForInStep (List (Str × Addr))))) =
      pure (((ns.filter fun y => y.2 == .free).map fun y => (y.1, (env.cells.lookup y.1).getD 0)).reverse ++ cs)
  | [], cs, _ => rfl
  | (n, k) :: r, cs, h => by
    have hr : ∀ y ∈ r, y.2 = .free → ∃ c, env.cells.lookup y.1 = some c := fun y hy => h y (List.mem_cons_of_mem _ hy)
    rw [List.forIn_cons]
    by_cases hk : k = .free
    · subst hk
      obtain ⟨c, hc⟩ := h (n, .free) List.mem_cons_self rfl
      have e : cellOf env n = pure c := by unfold cellOf; rw [hc]
      have e2 : ((n, NameKind.free) :: r).filter (fun y => y.2 == .free) = (n, .free) :: r.filter fun y => y.2 == .free := by simp
      simp only [beq_self_eq_true, if_true, e, pure_bind]
      rw [closure_aux r _ hr, e2]
      simp [hc]
    · have hb : (k == NameKind.free) = false := by simpa using hk
      have e2 : ((n, k) :: r).filter (fun y => y.2 == .free) = r.filter fun y => y.2 == .free := by simp [hk]
      simp only [hb, Bool.false_eq_true, if_false, pure_bind]
      rw [closure_aux r _ hr, e2]
theorem closure_of {sc : Scope} {env : Env} (h : ∀ y ∈ sc.names, y.2 = .free → ∃ c, env.cells.lookup y.1 = some c) : closureFor sc env = pure (clo sc env) := by
  have q := closure_aux sc.names [] h
  rw [List.append_nil] at q
  unfold closureFor clo
  simp only [pure_bind, bind_pure]
  exact q
theorem relabel_lookup {sc : Scope} {env : Env} {y : Str} {k : NameKind} (h : sc.names.lookup y = some k) :
    (relabel sc env).names.lookup y = some (if (k == .free && env.scope.kind == .function && env.kindOf y == some .cell) then .cell else k) := by
  unfold relabel
  show (sc.names.map _).lookup y = _
  generalize sc.names = ns at h
  induction ns with
  | nil => cases h
  | cons p r ih =>
    obtain ⟨n, v⟩ := p
    rw [List.map_cons]
    show List.lookup y ((if (v == .free && env.scope.kind == .function && env.kindOf n == some .cell) = true then (n, NameKind.cell) else (n, v)) :: r.map _) = _
    by_cases e : y = n
    · subst e
      have ev : v = k := by simpa using h
      subst ev
      by_cases c : (v == .free && env.scope.kind == .function && env.kindOf y == some .cell) = true
      · rw [if_pos c, if_pos c]
        simp
      · rw [if_neg c, if_neg c]
        simp
    · have hb : (y == n) = false := by simpa using e
      have h' : r.lookup y = some k := by
        rw [List.lookup_cons, hb] at h
        exact h
      by_cases c : (v == .free && env.scope.kind == .function && env.kindOf n == some .cell) = true
      · rw [if_pos c]
        simp only [List.lookup_cons, hb]
        exact ih h'
      · rw [if_neg c]
        simp only [List.lookup_cons, hb]
        exact ih h'
theorem relabel_none {sc : Scope} {env : Env} {y : Str} (h : sc.names.lookup y = none) : (relabel sc env).names.lookup y = none := by
  unfold relabel
  show (sc.names.map _).lookup y = _
  generalize sc.names = ns at h
  induction ns with
  | nil => rfl
  | cons p r ih =>
    obtain ⟨n, v⟩ := p
    rw [List.map_cons]
    show List.lookup y ((if (v == .free && env.scope.kind == .function && env.kindOf n == some .cell) = true then (n, NameKind.cell) else (n, v)) :: r.map _) = _
    by_cases e : y = n
    · subst e
      simp at h
    · have hb : (y == n) = false := by simpa using e
      have h' : r.lookup y = none := by
        rw [List.lookup_cons, hb] at h
        exact h
      by_cases c : (v == .free && env.scope.kind == .function && env.kindOf n == some .cell) = true
      · rw [if_pos c]
        simp only [List.lookup_cons, hb]
        exact ih h'
      · rw [if_neg c]
        simp only [List.lookup_cons, hb]
        exact ih h'
structure CompOk (fsc csc : Scope) (x : Str) (js : List Nat) (N N' : List Str) : Prop where
  eqN : N' = x :: js.map fun j => N.getD j x
  nd : N'.Nodup
  fr : ∀ y ∈ csc.names, y.2 = .free → fsc.names.lookup y.1 = some .cell
  cell : ∀ y ∈ csc.names, y.2 ≠ .cell
  kind : csc.kind = .function
  nm : ∀ y ∈ csc.names, y.2 = .local → csc.names.lookup y.1 = some .local
  xl : csc.names.lookup x = some .local
  js : ∀ j ∈ js, j < N.length ∧ csc.names.lookup (N.getD j x) = some .free
noncomputable def blk (X : Cx) (csc : Scope) (N' : List Str) (s₀ : Shared) (H₀ : Hp) (C : Addr) (ex : List Addr) : Cx :=
  { X with N := N', s₀ := s₀, H₀ := H₀, env := compEnvC csc (clo csc X.env) C X.env, outer := X.stack, stack := X.stack, ex := ex, fn := fun _ => false, pn := [], xe := fun _ _ => False }
noncomputable def CompAt (J : It) (te : Shared → Hp → Addr → List Addr → TE) (js : List Nat) (σ : L2.St) (Q : VK) (H1 : Hp) : Prop := ∀ D, H1 D = none → ∃ W : Nat → Nat → List V → Hp → Prop, (∃ m, W 0 m [] (upd H1 D (.lst []))) ∧
  ∀ i m ys H, W i m ys H → H D = some (.lst ys) ∧ ((J.stop i H ∧ Q (.ref D) H) ∨ (J.go i H ∧ ∀ x H', J.yld i H x H' → ∀ s₀ H₀ C ex, te s₀ H₀ C ex (some x :: js.map fun j => (σ[j]?).join) H' fun y H2 =>
    H2 D = some (.lst ys) ∧ ys.length < sizeLine ∧ ∃ m', m' < m ∧ W (i + 1) m' (ys ++ [y]) (upd H2 D (.lst (ys ++ [y])))))
noncomputable def tComp (wi : TI) (te : Shared → Hp → Addr → List Addr → TE) (js : List Nat) : TE := fun σ H Q => wi σ H fun J H1 => CompAt J te js σ Q H1
theorem inv_but {X : Cx} {pins : List (Addr × Obj)} {σ : L2.St} {H : Hp} {s : Shared} {C : Addr} {h7 : Heap} (I : Inv X pins σ H s) (f : FpOk X pins H C) (sb : Heap.SameBut C s.heap h7) : Inv X pins σ H { s with heap := h7 } := by
  obtain ⟨g0, g1, g2, g3, g4, g5⟩ := f
  have hne : ∀ {b : Addr}, b ∉ [C] → b ≠ C := fun h z => h (by rw [z]; exact List.mem_cons_self)
  refine I.call' (ch := [C]) (H' := H) rfl ⟨fun b o e _ _ hx => (sb.2 b (hne hx)).trans e, fun b o e _ _ hx => ⟨o.slots, (sb.2 b (hne hx)).trans e⟩, fun _ _ _ n _ => n, fun b o e hx => ⟨o, (sb.2 b (hne hx)).trans e⟩, fun _ _ q => q, fun _ _ _ q => q, fun _ ps q => ⟨#[], by rw [Array.append_empty]; exact q⟩⟩ ?_ I.bare fun b hb => ?_
  · intro b ob e
    refine (I.hok b ob e).stay (fun c w' hcc q => (sb.2 c ?_).trans q) (fun _ q => q) fun _ _ q => q
    rintro rfl
    rcases hcc with rfl | hcc
    · rw [g0] at e; cases e
    · rw [g0] at hcc; cases hcc
  · have e : b = C := by simpa using hb
    subst e
    exact ⟨g3, g1, g4, g5⟩
theorem compLoop_gen {prog : Program} {w : World} {A : Around} {R : Result → Shared → Prop} {s : Shared} {elt target iter : Expr} {ifs : List Expr} {scope : Scope} {pos : Pos} {it acc : Value} {env : Env} (I : Nat → Shared → Prop)
    (turn : ∀ n s, I n s → wpAny (model prog w) A (pyNext it) (fun r s₁ => match r with
      | none => R (.ok .next) s₁
      | some v => wpAny (model prog w) A (letOwnedTupleGo target it v) (fun _ s₁' => wpAny (model prog w) A (assign target env v) (fun _ s₂ =>
          wpAny (model prog w) A (forIn ifs true fun c r => if r = true then do let ok ← isTrue c env (eval c env); pure (ForInStep.yield ok) else pure (ForInStep.yield r)) (fun ok s₃ =>
            if ok = true then wpAny (model prog w) A (eval elt env) (fun x s₄ =>
              wpAny (model prog w) A (call (.builtin "list.append") [acc, x]) (fun _ s₅ => ∃ m, m < n ∧ I m s₅) (notedBy (model prog w) A env fun e s' => R (.error e) s') s₄) (notedBy (model prog w) A env fun e s' => R (.error e) s') s₃
            else ∃ m, m < n ∧ I m s₃) (notedBy (model prog w) A env fun e s' => R (.error e) s') s₂) (notedBy (model prog w) A env fun e s' => R (.error e) s') s₁') (notedBy (model prog w) A env fun e s' => R (.error e) s') s₁) (notedBy (model prog w) A env fun e s' => R (.error e) s') s)
    (n : Nat) (h : I n s) : codeAny (model prog w) A (.compLoop (.ListComp elt [⟨target, iter, ifs, 0⟩] scope pos) 0 it acc env) R s := by
  refine codeAny_loop rfl I (fun n s hI => ?_) n h
  show wpAny _ A ((compTurn (.ListComp elt [⟨target, iter, ifs, 0⟩] scope pos) 0 it acc env).onRaise (fun x => do noteFrame x env; theTreesLotGoes x)) _ _ s
  refine wpAny_noted ?_
  rw [compTurn_list]
  refine wpAny_bind (wpAny_standAt (wpAny_bind (wpAny_mono (turn n s hI) (fun r s₁ h₁ => ?_) fun _ _ h' => h')))
  cases r with
  | none => exact wpAny_pure h₁
  | some v =>
    refine wpAny_bind (wpAny_mono h₁ (fun _ s₁' h₁' => ?_) fun _ _ h' => h')
    refine wpAny_bind (wpAny_mono h₁' (fun _ s₂ h₂ => wpAny_bind (wpAny_mono h₂ (fun ok s₃ h₃ => ?_) fun _ _ h' => h')) fun _ _ h' => h')
    cases ok with
    | false => exact wpAny_pure ⟨rfl, h₃⟩
    | true =>
      exact wpAny_bind (wpAny_bind (wpAny_mono h₃ (fun x s₄ h₄ => wpAny_bind (wpAny_mono h₄ (fun _ s₅ h₅ => wpAny_pure (wpAny_pure ⟨rfl, h₅⟩)) fun _ _ h' => h')) fun _ _ h' => h'))
noncomputable def PTs (X : Cx) (ifs : List Expr) (t : TT) : Prop :=
  ∀ (pins : List (Addr × Obj)) (s : Shared) (σ : L2.St) (H : Hp) (Q : Bool → Hp → Prop), Inv X pins σ H s → t σ H Q →
    wpAny (model X.prog X.w) X.A (forIn ifs true fun c r => if r = true then do let ok ← isTrue c X.env (eval c X.env); pure (ForInStep.yield ok) else pure (ForInStep.yield r)) (TP X pins σ Q) X.xe s
noncomputable def tNoTest : TT := fun _ H Q => Q true H
theorem pts_nil {X : Cx} : PTs X [] tNoTest := fun _ _ _ H _ I h => wpAny_tests_nil ⟨H, I, h⟩
structure CompOkG (fsc csc : Scope) (xs : List Str) (js : List Nat) (N N' : List Str) : Prop where
  eqN : N' = xs ++ js.map fun j => N.getD j ""
  fr : ∀ y ∈ csc.names, y.2 = .free → fsc.names.lookup y.1 = some .cell
  cell : ∀ y ∈ csc.names, y.2 ≠ .cell
  kind : csc.kind = .function
  nm : ∀ y ∈ csc.names, y.2 = .local → csc.names.lookup y.1 = some .local
  js : ∀ j ∈ js, j < N.length ∧ csc.names.lookup (N.getD j "") = some .free
noncomputable def CompAtG (J : It) (tg : TG) (tt : Shared → Hp → Addr → List Addr → TT) (te : Shared → Hp → Addr → List Addr → TE) (nx : Nat) (js : List Nat) (σ : L2.St) (Q : VK) (H1 : Hp) : Prop := ∀ D, H1 D = none → ∃ W : Nat → Nat → List V → Hp → Prop, (∃ m, W 0 m [] (upd H1 D (.lst []))) ∧
  ∀ i m ys H, W i m ys H → H D = some (.lst ys) ∧ ((J.stop i H ∧ Q (.ref D) H) ∨ (J.go i H ∧ ∀ x H', J.yld i H x H' → ∀ s₀ H₀ C ex (σ0 : L2.St), σ0.length = nx → tg x (σ0 ++ js.map fun j => (σ[j]?).join) H' fun σ1 H2 =>
    (∃ σ0' : L2.St, σ1 = σ0' ++ (js.map fun j => (σ[j]?).join) ∧ σ0'.length = nx) ∧ tt s₀ H₀ C ex σ1 H2 fun b H3 => if b = true then te s₀ H₀ C ex σ1 H3 fun y H4 =>
      H4 D = some (.lst ys) ∧ ys.length < sizeLine ∧ ∃ m', m' < m ∧ W (i + 1) m' (ys ++ [y]) (upd H4 D (.lst (ys ++ [y])))
    else H3 D = some (.lst ys) ∧ ∃ m', m' < m ∧ W (i + 1) m' ys H3))
noncomputable def tCompG (wi : TI) (tg : TG) (tt : Shared → Hp → Addr → List Addr → TT) (te : Shared → Hp → Addr → List Addr → TE) (nx : Nat) (js : List Nat) : TE := fun σ H Q => wi σ H fun J H1 => CompAtG J tg tt te nx js σ Q H1
theorem compG_core {X : Cx} {elt iter target : Expr} {ifs : List Expr} {pos pos' : Pos} {csc : Scope} {wi : TI} {tg : TG} {tt : Shared → Hp → Addr → List Addr → TT} {te : Shared → Hp → Addr → List Addr → TE} (xs : List Str) (js : List Nat) {N' : List Str} {fsc : Scope} {N : List Str} (ok : CompOkG fsc csc xs js N N') (hi : PI X target iter wi) (hg : ∀ s₀ H₀ C ex, PG (blk X csc N' s₀ H₀ C ex) target tg) (ht : ∀ s₀ H₀ C ex, PTs (blk X csc N' s₀ H₀ C ex) ifs (tt s₀ H₀ C ex))
    (he : ∀ s₀ H₀ C ex, PE (blk X csc N' s₀ H₀ C ex) elt (te s₀ H₀ C ex)) (hc : X.calm = true) (hsc : X.env.scope = fsc) (hXN : X.N = N) (hs : ∀ x, foldedSetIterable iter X.env x = pure x)
    (use : Option (Value → Sem Unit)) (R : Value → Shared → Prop) {pins : List (Addr × Obj)} {s : Shared} {σ : L2.St} {H : Hp} {Q : VK} (I : Inv X pins σ H s) (h : tCompG wi tg tt te xs.length js σ H Q)
    (hfin : ∀ (D C : Addr) (s6 : Shared) (H5 : Hp) (m6 : Str → Option Value) (r : Flow), Inv X pins σ H5 s6 → FpOk X pins H5 C → s6.heap.Ns C m6 → Q (.ref D) H5 → compPost (model X.prog X.w) X.A X.xe use R (.ref D) C (.ok r) s6) :
    wpAny (model X.prog X.w) X.A (comprehension (.ListComp elt [⟨target, iter, ifs, 0⟩] csc pos) csc X.env pos' (newList []) false (eval iter X.env) use) R X.xe s := by
  have hkX : X.env.scope.kind = .function := I.ok.kind
  have hfree : ∀ y ∈ csc.names, y.2 = .free → ∃ c, X.env.cells.lookup y.1 = some c := fun y hy hk => I.ok.has y.1 (.inl (by show X.env.scope.names.lookup y.1 = _; rw [hsc]; exact ok.fr y hy hk))
  have hcl : ∀ y c, (clo csc X.env).lookup y = some c → X.env.cells.lookup y = some c := fun y c e => by
    obtain ⟨m, e2⟩ := clo_in e
    obtain ⟨c', e3⟩ := hfree _ m rfl
    rw [e3] at e2
    rw [e3, e2]
    rfl
  refine wpAny_comprehension_free (use := use) rfl hs (closure_of hfree) ok.kind ok.nm ?_
  refine thn (hi pins s σ H _ I h) fun v s1 h1 => thn h1 fun itv s2 h2 => ?_
  obtain ⟨it, fp, tn, J, H2, e, I2, T, st2, f2, hw⟩ := h2
  subst e
  have hD : H2 s2.heap.objs.size = none := I2.hok.fresh (Nat.le_refl _)
  obtain ⟨W, ⟨m0, w0⟩, turn⟩ := hw _ hD
  refine wpAny_newObj_type ?_ (by show 0 ≤ sizeLine; decide)
  have I3 : Inv X pins σ (upd H2 s2.heap.objs.size (.lst [])) { s2 with heap := s2.heap.push { cls := .type "list", data := .seq ([] : List Value).toArray } } := I2.lnew (t' := s2.toks) .nil (by show 0 ≤ sizeLine; decide)
  generalize hs3 : ({ s2 with heap := s2.heap.push { cls := .type "list", data := .seq ([] : List Value).toArray } } : Shared) = s3 at I3 ⊢
  have hsz : s3.heap.objs.size = s2.heap.objs.size + 1 := by rw [← hs3, Heap.size_push]
  generalize hDe : s2.heap.objs.size = D at *
  have tn3 : tn 0 s3.heap := T.keep 0 s2.heap _ st2 fun b hb o e => by rw [← hs3]; exact Heap.get?_push_of_some _ e
  have fpD : ∀ b ∈ fp, b ≠ D := fun b hb z => by
    obtain ⟨o, e, _⟩ := T.obj 0 _ st2 b hb
    rw [z, ← hDe] at e
    exact absurd (Heap.lt_size e) (Nat.lt_irrefl _)
  have f3 : ∀ b ∈ fp, upd H2 D (.lst []) b = none := fun b hb => by rw [upd_ne (fpD b hb)]; exact (f2 b hb).1
  refine wpAny_newFunctionEnv ok.cell (by intro y hy; simp at hy) (fun h4 hns hsb => ?_) ok.kind
  generalize hCe : s3.heap.objs.size = C at *
  have ltC : ∀ b o, s3.heap.get? b = some o → b < C := fun b o e => by
    rw [← hCe]
    exact Heap.lt_size e
  have keep4 : ∀ b o, s3.heap.get? b = some o → h4.get? b = some o := fun b o e => by
    rw [hsb.2 b (Nat.ne_of_lt (ltC b o e))]
    exact Heap.get?_push_of_some _ e
  have Xok : (blk X csc N' s3 (upd H2 D (.lst [])) C fp).Ok := by
    refine ⟨I3.ok.mod, ?_, I3.ok.glob, I3.ok.blt, ?_, fun y z c h1 h2 => I3.ok.inj y z c (hcl y c h1) (hcl z c h2), fun y hy => ?_, fun y c h1 _ => ?_, I3.ok.hd, I3.ok.frames, .inl rfl, fun b hb => ?_, I3.bs, ?_, fun b o e hb => ?_, fun b hb hz => ?_, I3.stack, I3.stkFree⟩
    · exact ok.kind
    · exact Nat.le_of_eq hCe
    · have hy' : (relabel csc X.env).names.lookup y = some .cell ∨ (relabel csc X.env).names.lookup y = some .free := hy
      cases hk : csc.names.lookup y with
      | none =>
        rw [relabel_none hk] at hy'
        rcases hy' with z | z <;> cases z
      | some k =>
        have hm : (y, k) ∈ csc.names := PySem.mem_of_lookup hk
        by_cases hkf : k = .free
        · subst hkf
          exact clo_has hm
        · have hb : (k == NameKind.free) = false := by simpa using hkf
          rw [relabel_lookup hk] at hy'
          simp only [hb, Bool.false_and, Bool.false_eq_true, if_false] at hy'
          rcases hy' with z | z
          · exact absurd (Option.some.inj z) (ok.cell _ hm)
          · exact absurd (Option.some.inj z) hkf
    · exact absurd (show false = true from h1) Bool.false_ne_true
    · obtain ⟨g0, g1, g2, g3, g4, g5⟩ := f2 b hb
      refine ⟨fun z => ?_, fun y c e => g4 y c (hcl y c e)⟩
      obtain ⟨o, e, _⟩ := T.obj 0 _ tn3 b hb
      have z' : b = C := z
      have l := ltC b o e
      rw [z'] at l
      exact absurd l (Nat.lt_irrefl _)
    · exact Nat.le_trans I3.ok.bsz I3.sz
    · obtain ⟨g0, g1, g2, g3, g4, g5⟩ := f2 b hb
      rcases g3 with z | z
      · exact I3.ok.noex b o e z
      · exact absurd (Nat.lt_of_lt_of_le (Heap.lt_size e) (Nat.le_trans I3.ok.bsz z)) (Nat.lt_irrefl _)
    · obtain ⟨g0, g1, g2, g3, g4, g5⟩ := f2 b hb
      rcases List.mem_cons.mp (I3.stkSub b hz) with z | z
      · exact g1 z
      · exact g2 z
  have hfreeC : H2 C = none ∧ upd H2 D (.lst []) C = none := by
    have q : upd H2 D (.lst []) C = none := I3.hok.fresh (Nat.le_of_eq hCe)
    refine ⟨?_, q⟩
    rw [upd_ne (by rw [hsz]; exact Nat.succ_ne_self D)] at q
    exact q
  have I4 : Inv (blk X csc N' s3 (upd H2 D (.lst [])) C fp) [] (List.replicate xs.length none ++ js.map fun j => (σ[j]?).join) (upd H2 D (.lst [])) { s3 with heap := h4, toks := s3.toks + ([] : List (Str × Value)).length } := by
    refine ⟨Xok, rfl, I3.bare, Un.kept keep4, ⟨_, hns, fun i y v h1 h2 h3 => ?_⟩, fun y c e => ?_, hfreeC.2, fun y c e => I3.freeC y c (hcl y c e), fun p hp => absurd (show p ∈ ([] : List (Addr × Obj)) from hp) (by simp), I3.hok.kept keep4, ?_⟩
    · have h1' : (xs ++ js.map fun j => N.getD j "")[i]? = some y := by rw [← ok.eqN]; exact h1
      by_cases hi : i < xs.length
      · rw [List.getElem?_append_left (by rw [List.length_replicate]; exact hi), List.getElem?_replicate] at h2
        rw [if_pos hi] at h2
        cases h2
      · rw [List.getElem?_append_right (by (first | lia | omega)), List.getElem?_map] at h1'
        rw [List.getElem?_append_right (by rw [List.length_replicate]; (first | lia | omega)), List.length_replicate, List.getElem?_map] at h2
        cases ej : js[i - xs.length]? with
        | none => rw [ej] at h2; cases h2
        | some j =>
          rw [ej] at h1' h2
          obtain ⟨jl, jf⟩ := ok.js j (List.mem_of_getElem? ej)
          have ey : N.getD j "" = y := Option.some.inj h1'
          have ev : (σ[j]?).join = some v := Option.some.inj h2
          have ev' : σ[j]? = some (some v) := by
            cases q : σ[j]? with
            | none => rw [q] at ev; cases ev
            | some o => rw [q] at ev; rw [show o = some v from ev]
          have eN : X.N[j]? = some y := by rw [hXN, ← ey, List.getD_eq_getElem?_getD, List.getElem?_eq_getElem jl]; rfl
          rw [ey] at jf
          have kX : X.env.scope.names.lookup y = some .cell := by rw [hsc]; exact ok.fr (y, .free) (PySem.mem_of_lookup jf) rfl
          obtain ⟨m3, n3, l3⟩ := I3.loc
          obtain ⟨u, ru, lk⟩ := l3 j y v eN ev' (.inr (.inl kX))
          refine ⟨u, ru, .inr ⟨?_, ?_⟩⟩
          · left
            show (relabel csc X.env).names.lookup y = some .cell
            rw [relabel_lookup jf]
            have k2 : X.env.kindOf y = some .cell := kX
            rw [hkX, k2]
            rfl
          · rcases lk with ⟨z, _⟩ | ⟨_, c, hc1, hc2⟩
            · have z' : X.env.scope.names.lookup y = some .local := z
              rw [kX] at z'
              cases z'
            · obtain ⟨c', e'⟩ := clo_has (env := X.env) (PySem.mem_of_lookup jf)
              have : c' = c := by
                have q := hcl y c' e'
                rw [hc1] at q
                exact (Option.some.inj q).symm
              subst this
              obtain ⟨oc, ho, hd⟩ := hc2
              exact ⟨c', e', oc, keep4 _ _ ho, hd⟩
    · obtain ⟨v, oc, ho, hd⟩ := I3.cell y c (hcl y c e)
      exact ⟨v, oc, keep4 _ _ ho, hd⟩
    · show (List.replicate xs.length none ++ js.map _).length = N'.length
      rw [ok.eqN]
      simp
  have stat : ∀ {H' : Hp}, (∀ b ∈ fp, H' b = none) → ∀ b ∈ fp, FpOk (blk X csc N' s3 (upd H2 D (.lst [])) C fp) [] H' b := fun hn b hb => by
    obtain ⟨g0, g1, g2, g3, g4, g5⟩ := f2 b hb
    exact ⟨hn b hb, (Xok.exf b hb).1, Xok.exfs b hb, .inl hb, (Xok.exf b hb).2, fun p hp => absurd (show p ∈ ([] : List (Addr × Obj)) from hp) (by simp)⟩
  have loop : ∀ s' : Shared, Inv (blk X csc N' s3 (upd H2 D (.lst [])) C fp) [] (List.replicate xs.length none ++ js.map fun j => (σ[j]?).join) (upd H2 D (.lst [])) s' → tn 0 s'.heap →
      codeAny (model X.prog X.w) X.A (.compLoop (.ListComp elt [⟨target, iter, ifs, 0⟩] csc pos) 0 (.ref it) (.ref D) (compEnvC csc (clo csc X.env) C X.env)) (compPost (model X.prog X.w) X.A X.xe use R (.ref D) C) s' := by
    rintro s' I' t0
    refine compLoop_gen (fun m s => ∃ i ys H', Inv (blk X csc N' s3 (upd H2 D (.lst [])) C fp) [] (List.replicate xs.length none ++ js.map fun j => (σ[j]?).join) H' s ∧ tn i s.heap ∧ (∀ b ∈ fp, H' b = none) ∧ W i m ys H') ?_ m0 ⟨0, [], _, I', t0, f3, w0⟩
    rintro m s5 ⟨i, ys, H5, I5, t5, fr5, w5⟩
    obtain ⟨hDl, tt'⟩ := turn i m ys H5 w5
    rcases tt' with ⟨stop, qn⟩ | ⟨go, step⟩
    · refine thn (T.done (blk X csc N' s3 (upd H2 D (.lst [])) C fp) rfl rfl rfl hc i [] s5 _ H5 _ I5 (stat fr5) t5 stop) fun r s6 ⟨hr, I6⟩ => ?_
      subst hr
      obtain ⟨m6, n6, _⟩ := I6.loc
      have I7 : Inv X pins σ H5 s6 := I3.call' (s' := s6) I6.os I6.base I6.hok I6.bare fun b hb => by
        obtain ⟨g0, g1, g2, g3, g4, g5⟩ := f2 b hb
        exact ⟨g3, g1, g4, g5⟩
      exact hfin D C s6 H5 m6 _ I7 (I3.fpOk (Nat.le_of_eq hCe) I6.free) n6 qn
    · refine thn (T.item (blk X csc N' s3 (upd H2 D (.lst [])) C fp) rfl rfl rfl hc i [] s5 _ H5 _ I5 (stat fr5) t5 go) fun r s6 ⟨u, hr, h6⟩ => ?_
      subst hr
      refine thn h6 fun _ s7 ⟨xv, H6, I6, rx, y6, t6, fr6⟩ => ?_
      have I6' := I6.pinned (stat fr6) (T.obj _ _ t6)
      -- what is kept of the iterator, the block's names forgotten
      have back : ∀ {H10 : Hp} {s10 : Shared} {σ1 σ0 : L2.St}, σ1 = σ0 ++ (js.map fun j => (σ[j]?).join) → σ0.length = xs.length → Inv (blk X csc N' s3 (upd H2 D (.lst [])) C fp) ([] ++ pinsAt fp s7.heap) σ1 H10 s10 →
          Inv (blk X csc N' s3 (upd H2 D (.lst [])) C fp) [] (List.replicate xs.length none ++ js.map fun j => (σ[j]?).join) H10 s10 ∧ tn (i + 1) s10.heap ∧ ∀ b ∈ fp, H10 b = none := by
        intro H10 s10 σ1 σ0 e1 e2 I10
        subst e1
        refine ⟨(Inv.unpinned (pins := []) I10).weak (by simp [e2]) fun k v hk => ?_, T.keep _ _ _ t6 fun b hb o e => (I10.pin (b, o) (List.mem_append_right _ (List.mem_append_right _ (mem_pinsAt hb e)))).1, fun b hb => ?_⟩
        · by_cases hk' : k < xs.length
          · rw [List.getElem?_append_left (by rw [List.length_replicate]; exact hk'), List.getElem?_replicate, if_pos hk'] at hk
            cases hk
          · rw [List.getElem?_append_right (by rw [List.length_replicate]; (first | lia | omega)), List.length_replicate] at hk
            rw [List.getElem?_append_right (by (first | lia | omega)), e2]
            exact hk
        · obtain ⟨o, e, d⟩ := T.obj _ _ t6 b hb
          exact (I10.pin (b, o) (List.mem_append_right _ (List.mem_append_right _ (mem_pinsAt hb e)))).2.1
      have st0 := step xv H6 y6 s3 (upd H2 D (.lst [])) C fp (List.replicate xs.length none) (List.length_replicate ..)
      refine wpAny_mono (hg s3 (upd H2 D (.lst [])) C fp _ s7 _ H6 xv u _ I6' rx st0) (fun _ s8 h8 => ?_) (fun _ _ z => False.elim z)
      obtain ⟨σ1, H8, I8, ⟨σ0, e1, e2⟩, q8⟩ := h8
      refine wpAny_mono (ht s3 (upd H2 D (.lst [])) C fp _ s8 σ1 H8 _ I8 q8) (fun ok' s9 h9 => ?_) (fun _ _ z => False.elim z)
      obtain ⟨H9, I9, q9⟩ := h9
      cases ok' with
      | false =>
        have q9' := q9
        rw [if_neg Bool.false_ne_true] at q9'
        obtain ⟨hD9, m', hm', w9⟩ := q9'
        show if false = true then _ else _
        rw [if_neg Bool.false_ne_true]
        obtain ⟨I10, t10, f10⟩ := back e1 e2 I9
        exact ⟨m', hm', i + 1, ys, H9, I10, t10, f10, w9⟩
      | true =>
        have q9' := q9
        rw [if_pos rfl] at q9'
        show if true = true then _ else _
        rw [if_pos rfl]
        refine wpAny_mono (he s3 (upd H2 D (.lst [])) C fp _ s9 σ1 H9 _ I9 q9') (fun yv s10 h10 => ?_) (fun _ _ z => False.elim z)
        obtain ⟨y, H10, I10, ry, hD10, hlt, m', hm', w10⟩ := h10
        refine wpAny_mono (mt_append (X := blk X csc N' s3 (upd H2 D (.lst [])) C fp) _ s10 _ H10 (.ref D) [y] (.ref D) [yv] (fun _ H11 => H11 = upd H10 D (.lst (ys ++ [y]))) I10 rfl (.cons ry .nil) ⟨D, ys, y, rfl, rfl, hD10, hlt, rfl⟩) (fun v11 s11 h11 => ?_) (fun _ _ z => False.elim z)
        obtain ⟨v12, H12, I12, r12, e12⟩ := h11
        subst e12
        obtain ⟨J1, J2, J3⟩ := back e1 e2 I12
        exact ⟨m', hm', i + 1, ys ++ [y], _, J1, J2, J3, w10⟩
  have tn4 : tn 0 h4 := T.keep 0 _ _ tn3 fun b _ o e => keep4 b o e
  exact codeAny_compStart_list (loop _ I4 tn4) (T.self X.A 0 _ _ _ tn4 (loop _ I4 tn4))
theorem pg_blk {X : Cx} {csc : Scope} {N' : List Str} {s₀ : Shared} {H₀ : Hp} {C : Addr} {ex : List Addr} {i : Nat} {x : Str} {px : Pos} (nd : N'.Nodup) (hi : N'[i]? = some x) (hl : csc.names.lookup x = some .local) : PG (blk X csc N' s₀ H₀ C ex) (.Name x px) (gName i) :=
  pg_name (X := blk X csc N' s₀ H₀ C ex) nd hi (.inl (by
    show (relabel csc X.env).names.lookup x = some .local
    rw [relabel_lookup hl]
    rfl)) (.inr (by
    show (relabel csc X.env).names.lookup x = some .local
    rw [relabel_lookup hl]
    rfl))
theorem pi_mono {X : Cx} {tg iter : Expr} {wi : TI} (h : PI X tg iter wi) : PI X tg iter (fun σ H R => ∃ R' : It → Hp → Prop, wi σ H R' ∧ ∀ J H1, R' J H1 → R J H1) := by
  intro pins s σ H R I hw
  obtain ⟨R', hw, hm⟩ := hw
  refine thn (h pins s σ H R' I hw) fun v s1 h1 => thn h1 fun itv s2 h2 => ?_
  obtain ⟨it, fp, tn, J, H2, e, I2, T, st2, f2, hr⟩ := h2
  exact ⟨it, fp, tn, J, H2, e, I2, T, st2, f2, hm J H2 hr⟩
theorem comp_core {X : Cx} {elt iter : Expr} {x : Str} {px pos pos' : Pos} {csc : Scope} {wi : TI} {te : Shared → Hp → Addr → List Addr → TE} (js : List Nat) {N' : List Str} {fsc : Scope} {N : List Str} (ok : CompOk fsc csc x js N N') (hi : PI X (.Name x px) iter wi)
    (he : ∀ s₀ H₀ C ex, PE (blk X csc N' s₀ H₀ C ex) elt (te s₀ H₀ C ex)) (hc : X.calm = true) (hsc : X.env.scope = fsc) (hXN : X.N = N) (hs : ∀ x, foldedSetIterable iter X.env x = pure x)
    (use : Option (Value → Sem Unit)) (R : Value → Shared → Prop) {pins : List (Addr × Obj)} {s : Shared} {σ : L2.St} {H : Hp} {Q : VK} (I : Inv X pins σ H s) (h : tComp wi te js σ H Q)
    (hfin : ∀ (D C : Addr) (s6 : Shared) (H5 : Hp) (m6 : Str → Option Value) (r : Flow), Inv X pins σ H5 s6 → FpOk X pins H5 C → s6.heap.Ns C m6 → Q (.ref D) H5 → compPost (model X.prog X.w) X.A X.xe use R (.ref D) C (.ok r) s6) :
    wpAny (model X.prog X.w) X.A (comprehension (.ListComp elt [⟨.Name x px, iter, [], 0⟩] csc pos) csc X.env pos' (newList []) false (eval iter X.env) use) R X.xe s := by
  have ej : (js.map fun j => N.getD j x) = js.map fun j => N.getD j "" := List.map_congr_left fun j hj => by
    have := (ok.js j hj).1
    rw [List.getD_eq_getElem?_getD, List.getD_eq_getElem?_getD, List.getElem?_eq_getElem this]
    rfl
  have ok' : CompOkG fsc csc [x] js N N' := ⟨by rw [ok.eqN, ej]; rfl, ok.fr, ok.cell, ok.kind, ok.nm, fun j hj => by
    have := ok.js j hj
    have e : N.getD j x = N.getD j "" := by rw [List.getD_eq_getElem?_getD, List.getD_eq_getElem?_getD, List.getElem?_eq_getElem this.1]; rfl
    rw [e] at this
    exact this⟩
  refine compG_core (ifs := []) (tg := gName 0) (tt := fun _ _ _ _ => tNoTest) (te := te) [x] js ok' (pi_mono hi) (fun s₀ H₀ C ex => pg_blk ok.nd (by rw [ok.eqN]; rfl) ok.xl) (fun _ _ _ _ => pts_nil) he hc hsc hXN hs use R I ?_ hfin
  refine ⟨_, h, fun J H1 hw D hD => ?_⟩
  obtain ⟨W, w0, turn⟩ := hw D hD
  refine ⟨W, w0, fun i m ys H2 w => ?_⟩
  obtain ⟨e, t⟩ := turn i m ys H2 w
  refine ⟨e, t.imp id fun ⟨go, y⟩ => ⟨go, fun v H' yl s₀ H₀ C ex σ0 h0 => ?_⟩⟩
  obtain ⟨o, rfl⟩ : ∃ o, σ0 = [o] := by
    match σ0, h0 with
    | [o], _ => exact ⟨o, rfl⟩
  exact ⟨⟨[some v], rfl, rfl⟩, y v H' yl s₀ H₀ C ex⟩
theorem pe_comp {X : Cx} {elt iter : Expr} {x : Str} {px pos : Pos} {csc : Scope} {wi : TI} {te : Shared → Hp → Addr → List Addr → TE} (js : List Nat) {N' : List Str} {fsc : Scope} {N : List Str} (ok : CompOk fsc csc x js N N') (hi : PI X (.Name x px) iter wi)
    (he : ∀ s₀ H₀ C ex, PE (blk X csc N' s₀ H₀ C ex) elt (te s₀ H₀ C ex)) (hc : X.calm = true := by rfl) (hsc : X.env.scope = fsc := by rfl) (hXN : X.N = N := by rfl) (hs : ∀ x, foldedSetIterable iter X.env x = pure x := by intro _; rfl) :
    PE X (.ListComp elt [⟨.Name x px, iter, [], 0⟩] csc pos) (tComp wi te js) := by
  intro pins s σ H Q I h
  rw [eval_ListComp]
  exact comp_core js ok hi he hc hsc hXN hs none _ I h fun D C s6 H5 m6 _ I6 f6 n6 q => ⟨m6, n6, fun h7 sb => ⟨.ref D, H5, inv_but I6 f6 sb, rfl, q⟩⟩
end L3

namespace L3
open PySem PySem.Spec PyProof.Rows L2 Ra
end L3

namespace L3
open PySem PySem.Spec PyProof.Rows L2 Ra
mutual
inductive Dv (H : Hp) : V → PyData → Prop
  | non : Dv H .non .none
  | bl (b : Bool) : Dv H (.bl b) (.bool b)
  | int (i : Int) : Dv H (.int i) (.int i)
  | str (x : Str) (ok : (PyData.str x).canLay0 = true) : Dv H (.str x) (.str x)
  | lst {a : Addr} {xs : List V} {ds : List PyData} : H a = some (.lst xs) → DvAll H xs ds → Dv H (.ref a) (.list ds)
  | tup {a : Addr} {xs : List V} {ds : List PyData} : H a = some (.tup xs) → DvAll H xs ds → Dv H (.ref a) (.tuple ds)
inductive DvAll (H : Hp) : List V → List PyData → Prop
  | nil : DvAll H [] []
  | cons {v : V} {vs : List V} {d : PyData} {ds : List PyData} : Dv H v d → DvAll H vs ds → DvAll H (v :: vs) (d :: ds)
end
mutual
theorem Dv.keep {H H' : Hp} (s : Same H H') : ∀ {v : V} {d : PyData}, Dv H v d → Dv H' v d
  | _, _, .non => .non
  | _, _, .bl b => .bl b
  | _, _, .int i => .int i
  | _, _, .str x ok => .str x ok
  | _, _, .lst h r => .lst (s _ _ h) (DvAll.keep s r)
  | _, _, .tup h r => .tup (s _ _ h) (DvAll.keep s r)
theorem DvAll.keep {H H' : Hp} (s : Same H H') : ∀ {vs : List V} {ds : List PyData}, DvAll H vs ds → DvAll H' vs ds
  | _, _, .nil => .nil
  | _, _, .cons h r => .cons (Dv.keep s h) (DvAll.keep s r)
end
mutual
theorem Dv.can {H : Hp} : ∀ {v : V} {d : PyData}, Dv H v d → d.canLay0 = true
  | _, _, .non => rfl
  | _, _, .bl _ => rfl
  | _, _, .int _ => rfl
  | _, _, .str _ ok => ok
  | _, _, .lst _ r => by rw [PyData.canLay0]; exact DvAll.can r
  | _, _, .tup _ r => by rw [PyData.canLay0]; exact DvAll.can r
theorem DvAll.can {H : Hp} : ∀ {vs : List V} {ds : List PyData}, DvAll H vs ds → PyData.canLayAll0 ds = true
  | _, _, .nil => rfl
  | _, _, .cons h r => by rw [PyData.canLayAll0, Dv.can h, DvAll.can r]; rfl
end
section
variable {X : Cx} {pins : List (Addr × Obj)} {σ : L2.St} {H : Hp} {s : Shared}
mutual
theorem Dv.reads (I : Inv X pins σ H s) : ∀ {v : V} {d : PyData} {u : Value}, Dv H v d → RelV v u → ∃ as, Reads s.heap u d as
  | _, _, _, .non, r => by cases r; exact ⟨_, .none⟩
  | _, _, _, .bl b, r => by cases r; exact ⟨_, .bool b⟩
  | _, _, _, .int i, r => by obtain ⟨t, rfl⟩ := r; exact ⟨_, .int i t⟩
  | _, _, _, .str x _, r => by obtain ⟨t, rfl⟩ := r; exact ⟨_, .str x t⟩
  | _, _, _, .lst h q, r => by
    cases r
    obtain ⟨its, rv, p, _⟩ := I.list (SqL.of h)
    obtain ⟨o, e, hc, n, hd⟩ := p.isList
    obtain ⟨as, ra⟩ := DvAll.reads I q rv
    exact ⟨_, .list e hc hd ra⟩
  | _, _, _, .tup h q, r => by
    cases r
    obtain ⟨its, rv, p, _⟩ := I.tuple (SqT.of h)
    obtain ⟨o, e, hc, n, hd⟩ := p
    obtain ⟨as, ra⟩ := DvAll.reads I q rv
    exact ⟨_, .tuple e hc hd ra⟩
theorem DvAll.reads (I : Inv X pins σ H s) : ∀ {vs : List V} {ds : List PyData} {us : List Value}, DvAll H vs ds → Vals vs us → ∃ as, ReadsAll s.heap us ds as
  | _, _, _, .nil, .nil => ⟨_, .nil⟩
  | _, _, _, .cons h q, .cons r rs => by
    obtain ⟨as, ra⟩ := Dv.reads I h r
    obtain ⟨bs, rb⟩ := DvAll.reads I q rs
    exact ⟨_, .cons ra rb⟩
end
end
noncomputable def rEqD (c : Bool → Bool) : R2 := fun x y H Q => ∃ dx dy, Dv H x dx ∧ Dv H y dy ∧ dx.depth ≤ 60 ∧ Q (.bl (c (PyData.eqv dx dy))) H
theorem op_neD {X : Cx} (hu : X.A.units + 64 < cLine) : OpR X (compareOp .NotEq) (rEqD fun b => !b) := by
  intro pins s σ H x y v u Q I rx ry h
  obtain ⟨dx, dy, hx, hy, hd, q⟩ := h
  obtain ⟨as, ra⟩ := hx.reads I rx
  obtain ⟨bs, rb⟩ := hy.reads I ry
  exact SeqAt.compareNe_reads ra rb hx.can hy.can (by have := Nat.min_le_left dx.depth dy.depth; (first | lia | omega)) ⟨.bl _, H, I, rfl, q⟩
noncomputable def Pq (H : Hp) (p : Addr) (q : Rat) : Prop := Pr H p q.num q.den
theorem Pq.keep {H H' : Hp} {p : Addr} {q : Rat} (h : Pq H p q) (s : Same H H') : Pq H' p q := s _ _ h
theorem Pq.sq {K : PySem.W.Frag} {H : Hp} {p : Addr} {q : Rat} (h : Pq H p q) : SqT K H p [.int q.num, .int q.den] := SqT.of h
theorem Pq.of {H : Hp} {p : Addr} {x y : Int} {q : Rat} (h : Pr H p x y) (e : q.num = x ∧ (q.den : Int) = y) : Pq H p q := by
  unfold Pq
  rw [e.1, e.2]
  exact h
noncomputable abbrev Pqs (H : Hp) : List Addr → List Rat → Prop := Paired (Pq H)
theorem Pqs.keep {H H' : Hp} {ps : List Addr} {qs : List Rat} (h : Pqs H ps qs) (s : Same H H') : Pqs H' ps qs := Paired.imp' (fun _ _ z => z.keep s) h
noncomputable def Rw (H : Hp) (a : Addr) (qs : List Rat) : Prop := ∃ ps : List Addr, H a = some (.lst (ps.map V.ref)) ∧ Pqs H ps qs
theorem Rw.keep {H H' : Hp} {a : Addr} {qs : List Rat} (h : Rw H a qs) (s : Same H H') : Rw H' a qs := by
  obtain ⟨ps, h1, h2⟩ := h
  exact ⟨ps, s _ _ h1, h2.keep s⟩
theorem Pqs.get : ∀ {H : Hp} {ps : List Addr} {qs : List Rat} {i : Nat} {q : Rat}, Pqs H ps qs → qs[i]? = some q → ∃ p, (ps.map V.ref)[i]? = some (.ref p) ∧ Pq H p q
  | _, _, _, 0, _, .cons h _, e => by cases e; exact ⟨_, rfl, h⟩
  | _, _, _, _ + 1, _, .cons _ r, e => by
    rw [List.getElem?_cons_succ] at e
    obtain ⟨p, h1, h2⟩ := Pqs.get r e
    exact ⟨p, by rw [List.map_cons, List.getElem?_cons_succ]; exact h1, h2⟩
theorem Pqs.drop : ∀ {H : Hp} {ps : List Addr} {qs : List Rat} (n : Nat), Pqs H ps qs → Pqs H (ps.drop n) (qs.drop n)
  | _, _, _, 0, h => h
  | _, _, _, _ + 1, .nil => .nil
  | _, _, _, n + 1, .cons _ r => Pqs.drop n r
theorem Pqs.append : ∀ {H : Hp} {ps rs : List Addr} {qs ts : List Rat}, Pqs H ps qs → Pqs H rs ts → Pqs H (ps ++ rs) (qs ++ ts)
  | _, _, _, _, _, .nil, k => k
  | _, _, _, _, _, .cons h r, k => .cons h (Pqs.append r k)
theorem Pqs.length {H : Hp} {ps : List Addr} {qs : List Rat} (h : Pqs H ps qs) : ps.length = qs.length := Paired.length h
noncomputable def dq (q : Rat) : PyData := .tuple [.int q.num, .int q.den]
noncomputable def dr (qs : List Rat) : PyData := .list (qs.map dq)
theorem Pq.dv {H : Hp} {p : Addr} {q : Rat} (h : Pq H p q) : Dv H (.ref p) (dq q) := .tup h (.cons (.int _) (.cons (.int _) .nil))
theorem eqv_dq (p q : Rat) : PyData.eqv (dq p) (dq q) = decide (p = q) := by
  show PyData.eqv (.tuple [.int p.num, .int p.den]) (.tuple [.int q.num, .int q.den]) = _
  simp only [PyData.eqv, PyData.eqvAll, Bool.and_true]
  by_cases h : p = q
  · subst h
    simp
  · rw [decide_eq_false h]
    by_cases h1 : p.num = q.num
    · have h2 : ¬ (p.den : Int) = (q.den : Int) := fun z => h (Rat.ext h1 (by (first | lia | omega)))
      have : ((p.den : Int) == (q.den : Int)) = false := by simpa using h2
      rw [this, Bool.and_false]
    · have : (p.num == q.num) = false := by simpa using h1
      rw [this, Bool.false_and]
theorem depth_dq (q : Rat) : (dq q).depth ≤ 2 := by
  show PyData.depth (.tuple [.int q.num, .int q.den]) ≤ 2
  simp [PyData.depth, PyData.depthAll]
theorem Rw.lt {H : Hp} {a : Addr} {qs : List Rat} (h : Rw H a qs) : ∃ xs, H a = some (.lst xs) ∧ xs.length = qs.length := by
  obtain ⟨ps, h1, h2⟩ := h
  exact ⟨_, h1, by rw [List.length_map, h2.length]⟩
theorem Rw.app {H H2 : Hp} {D p : Addr} {qs : List Rat} {q : Rat} (h : Rw H D qs) (s : Same H H2) (kp : Pq H2 p q) :
    ∃ xs, H2 D = some (.lst xs) ∧ xs.length = qs.length ∧ Rw (upd H2 D (.lst (xs ++ [.ref p]))) D (qs ++ [q]) := by
  obtain ⟨ps, h1, h2⟩ := h.keep s
  refine ⟨_, h1, by rw [List.length_map, h2.length], ps ++ [p], by rw [upd_same]; simp, ?_⟩
  have up : ∀ p q, Pq H2 p q → Pq (upd H2 D (.lst (ps.map V.ref ++ [.ref p]))) p q := fun p q z => by
    have z' : H2 p = some (.tup [.int q.num, .int q.den]) := z
    show upd H2 D _ p = _
    rw [upd_ne (ne_of z' h1 (by intro w; cases w))]
    exact z'
  have up2 : ∀ r t, Pq H2 r t → Pq (upd H2 D (.lst (ps.map V.ref ++ [.ref p]))) r t := fun r t z => by
    have z' : H2 r = some (.tup [.int t.num, .int t.den]) := z
    show upd H2 D _ r = _
    rw [upd_ne (ne_of z' h1 (by intro w; cases w))]
    exact z'
  exact Pqs.append (Paired.imp' up2 h2) (.cons (up2 _ _ kp) .nil)
theorem atI_0 {α : Type} {xs : List α} {j : Nat} {v : α} (h : xs[j]? = some v) : atI xs (0 + (j : Int)) = some v := by
  rw [Int.zero_add]
  exact atI_nat h
theorem kit_lst_lst (K : PySem.W.Frag) : PySem.W.kitOne K (.type "list") (.type "list") = some true := rfl
theorem eqv_dq_self (q : Rat) : PyData.eqv (dq q) (dq q) = true := by rw [eqv_dq]; simp
noncomputable def drr (rss : List (List Rat)) : PyData := .list (rss.map dr)
noncomputable def Sx (S : List Addr) (H H' : Hp) : Prop := ∀ b o, b ∉ S → H b = some o → H' b = some o
theorem Rw.copy {H : Hp} {a c : Addr} {qs : List Rat} {xs : List V} (h : Rw H a qs) (e : H a = some (.lst xs)) (n : H c = none) : Rw (upd H c (.lst xs)) c qs := by
  obtain ⟨ps, e1, e2⟩ := h
  rw [e] at e1
  have e3 : xs = ps.map V.ref := by
    have := Option.some.inj e1
    injection this
  exact ⟨ps, by rw [upd_same, e3], e2.keep (same_upd n _)⟩
theorem Rw.there {H : Hp} {a : Addr} {qs : List Rat} (h : Rw H a qs) : ∃ xs, H a = some (.lst xs) ∧ xs.length = qs.length := h.lt
end L3

namespace L3
open PySem PySem.Spec PyProof.Rows L2 Ra
noncomputable def Itv (K : PySem.W.Frag) (a : Addr) (n : Nat) : It :=
  ⟨fun i H => i < n ∧ ∃ xs x, SqL K H a xs ∧ xs[n - 1 - i]? = some x, fun i H x H' => H' = H ∧ ∀ xs, SqL K H a xs → xs[n - 1 - i]? = some x, fun i _ => i = n⟩
noncomputable def iRev (K : PySem.W.Frag) (ta : TA) : TI := fun σ H R => ta σ H fun vs H1 => ∃ a xs, vs = [.ref a] ∧ SqL K H1 a xs ∧ R (Itv K a xs.length) H1
theorem gen_int {i : Nat} {σ : L2.St} {H : Hp} {Q : L2.St → Hp → Prop} {P : Int → Prop} (x : Int) (hx : P x) (h : ∀ y : Int, P y → gName i (.int y) σ H Q) : gName i (.int x) σ H Q := h x hx
noncomputable def tCutS (t : TS) : TS := fun D σ H => ∃ Mid : L2.St → Hp → Prop, (∀ σ' H', Mid σ' H' → D.nx σ' H') ∧ t { D with nx := Mid } σ H
theorem ps_cut {X : Cx} {st : Stmt} {t : TS} (h : PS X st t) : PS X st (tCutS t) := by
  intro pins s σ H D I hw
  obtain ⟨Mid, hm, hw⟩ := hw
  refine thn (h pins s σ H _ I hw) fun f s1 q => ?_
  cases f with
  | next =>
    obtain ⟨σ', H', I', q⟩ := q
    exact ⟨σ', H', I', hm _ _ q⟩
  | ret v => exact q
  | brk => exact q
  | cont => exact q
theorem Pq.updL {H : Hp} {D p : Addr} {xs ys : List V} {q : Rat} (h : H D = some (.lst xs)) (k : Pq H p q) : Pq (upd H D (.lst ys)) p q := by
  unfold Pq Pr
  rw [upd_ne (ne_of k h (by intro z; cases z))]
  exact k
theorem Pqs.updL {H : Hp} {D : Addr} {xs ys : List V} {ps : List Addr} {qs : List Rat} (h : H D = some (.lst xs)) (k : Pqs H ps qs) : Pqs (upd H D (.lst ys)) ps qs := Paired.imp' (fun _ _ z => z.updL h) k
theorem same_updF {H1 H : Hp} {D : Addr} (s : Same H1 H) (hD : H1 D = none) (o : HO) : Same H1 (upd H D o) := fun b u q => by rw [upd_ne (ne_of_none q hD)]; exact s b u q
end L3

namespace L3
open PySem PySem.Spec PyProof.Rows L2 Ra Rq
theorem comp_signB {z : List Nat} {te : Shared → Hp → Addr → List Addr → TE} {js : List Nat} {σ : L2.St} {H1 : Hp} {Q : VK} (hn : z.length ≤ 100000) (f : Nat → Bool)
    (hs : ∀ s₀ H₀ C ex c H (R : VK), c ∈ z → Same H1 H → R (.bl (f c)) H → te s₀ H₀ C ex (some (.str (sx [c])) :: js.map fun j => (σ[j]?).join) H R)
    (hd : ∀ H D, Same H1 H → H1 D = none → H D = some (.lst ((z.map f).map V.bl)) → Q (.ref D) H) : CompAt (Its (sx z)) te js σ Q H1 := by
  intro D hD
  have hsz : (sx z).cps.size = z.length := sx_len z
  refine ⟨fun i m ys H => m = z.length - i ∧ i ≤ z.length ∧ ys = ((z.take i).map f).map V.bl ∧ Same H1 H ∧ H D = some (.lst ys), ⟨z.length, by simp, Nat.zero_le _, rfl, same_upd hD _, upd_same⟩, ?_⟩
  rintro i m ys H ⟨rfl, hi, rfl, sm, hDl⟩
  refine ⟨hDl, ?_⟩
  by_cases hlt : i < z.length
  · have eq : z[i]? = some z[i] := List.getElem?_eq_getElem hlt
    refine .inr ⟨(by show i < (sx z).cps.size; (first | lia | omega)), fun x H' y s₀ H₀ C ex => ?_⟩
    obtain ⟨e, c, hc, hx⟩ := y
    subst e hx
    have hc' : z[i]? = some c := by
      have : (sx z).cps[i]? = z[i]? := by simp [sx]
      rw [← this]
      exact hc
    rw [eq] at hc'
    cases hc'
    refine hs s₀ H₀ C ex _ H' _ (List.getElem_mem hlt) sm ?_
    have hz : (100000 : Nat) < sizeLine := by decide
    refine ⟨hDl, by rw [List.length_map, List.length_map, List.length_take]; (first | lia | omega), z.length - (i + 1), by (first | lia | omega), rfl, hlt, ?_, same_updF sm hD _, upd_same⟩
    rw [List.take_succ, eq, List.map_append, List.map_append]
    rfl
  · have e : i = z.length := by (first | lia | omega)
    subst e
    rw [List.take_length] at hDl
    exact .inl ⟨(by show (sx z).cps.size ≤ _; (first | lia | omega)), hd H D sm hD hDl⟩
end L3

namespace L3
open PySem PySem.Spec PyProof.Rows L2 Ra
noncomputable def Tq (H : Hp) (r : Addr) (x : Rat × Rat) : Prop := ∃ p q, H r = some (.tup [.ref p, .ref q]) ∧ Pq H p x.1 ∧ Pq H q x.2
noncomputable abbrev Tqs (H : Hp) : List Addr → List (Rat × Rat) → Prop := Paired (Tq H)
noncomputable def Rp (H : Hp) (a : Addr) (qs : List (Rat × Rat)) : Prop := ∃ ps : List Addr, H a = some (.lst (ps.map V.ref)) ∧ Tqs H ps qs
end L3

namespace L3
open PySem PySem.Spec PyProof.Rows L2 Ra
noncomputable def Itz (K : PySem.W.Frag) (a b : Addr) : It :=
  ⟨fun i H => ∃ xs ys x y, SqL K H a xs ∧ SqL K H b ys ∧ xs[i]? = some x ∧ ys[i]? = some y,
   fun i H v H' => ∃ T x y, v = .ref T ∧ H T = none ∧ H' = upd H T (.tup [x, y]) ∧ (∀ xs, SqL K H a xs → xs[i]? = some x) ∧ ∀ ys, SqL K H b ys → ys[i]? = some y,
   fun i H => ∃ xs ys, SqL K H a xs ∧ SqL K H b ys ∧ (xs.length ≤ i ∨ ys.length ≤ i)⟩
noncomputable def iZip (K : PySem.W.Frag) (ta : TA) : TI := fun σ H R => ta σ H fun vs H1 => ∃ a b, vs = [.ref a, .ref b] ∧ (∃ xs, SqL K H1 a xs) ∧ (∃ ys, SqL K H1 b ys) ∧ R (Itz K a b) H1
end L3

namespace L3
open PySem PySem.W PySem.Calls PySem.Spec PyProof.Rows L2 Ra
end L3

namespace L3
open PySem PySem.Spec PyProof.Rows L2 Ra
structure CalM (P : Program) (w : World) (K : PySem.W.Frag) (mg : Str → Option Value) (base : Heap) (C : Addr) (m : Str) (k : Nat) (ps : List Str) (sp : Sp) : Prop where
  ex : ∃ f fd, FnOk P w K mg base CX0 k f fd ps sp ∧ Binds K fd ps [] ∧ Meth K C m f ∧ Cls K C
structure CalC (P : Program) (w : World) (K : PySem.W.Frag) (mg : Str → Option Value) (base : Heap) (x : Str) (C : Addr) (k : Nat) (ps : List Str) (sp : Sp) : Prop where
  ex : ∃ f fd, FnOk P w K mg base CX0 k f fd ps sp ∧ Binds K fd ps [] ∧ Mk K C f ∧ mg x = some (.ref C)
section
variable {X : Cx} {C : Addr} {m x : Str} {k j : Nat} {ps : List Str} {sp : Sp} {o e : Expr} {es : List Expr} {ta : TE} {t : TA} {p apos pos : Pos} {pl : Sem Bool}
theorem pe_m0 (Cm : CalM X.prog X.w X.K X.mg X.base C m k ps sp) (hr : Room j X.A) (he : PE X o ta) (hkj : k ≤ j := by decide)
    (ht : eval (.Call (.Attribute o m apos) [] [] pos) X.env = (do
      let ov ← eval o X.env
      standAt apos.atName
      let (f, first) ← holding [ov] (getMethod ov m pl)
      callWith pos f first (backTo pos (starEach [] X.env)) (backToKw pos (keywordEach [] X.env))) := by rfl) :
    PE X (.Call (.Attribute o m apos) [] [] pos) (tMeth C m sp [] E0 ta tNil) := by
  obtain ⟨f, fd, F, b, hm, cl⟩ := Cm.ex
  exact pe_meth0 he cl hm F (hr.mono hkj) b .nil pass0 ht
theorem call_isiC : CallR X (.builtin "isinstance") (fun xs H Q => ∃ x C t b, xs = [x, .ref C] ∧ TyOf X.K H x t ∧ PySem.W.kitOne X.K t (.ref C) = some b ∧ Q (.bl b) H) := by
  intro pins s σ H xs us Q I r h
  obtain ⟨x, C, t, b, rfl, ty, e, q⟩ := h
  obtain ⟨u, w', rfl, rx, rt⟩ := vals2 r
  cases rt
  exact isinst_ok I rx ty e fun tk => ⟨.bl b, H, I.tok _, rfl, q⟩
end
structure CalD (P : Program) (w : World) (K : PySem.W.Frag) (mg : Str → Option Value) (base : Heap) (x : Str) (k : Nat) (ps : List Str) (ds : List Value) (dvs : List V) (sp : Sp) : Prop where
  ex : ∃ f fd, FnOk P w K mg base CX0 k f fd ps sp ∧ Binds K fd ps ds ∧ PySem.W.keepIn K (.ref f) = true ∧ mg x = some (.ref f)
  dv : Vals dvs ds
structure CalK (P : Program) (w : World) (K : PySem.W.Frag) (mg : Str → Option Value) (base : Heap) (x : Str) (k : Nat) (ps ks : List Str) (gV : List V → List V → List V) (sp : Sp) : Prop where
  ex : ∃ f fd g, FnOk P w K mg base CX0 k f fd ps sp ∧ KBinds K fd ps ks g gV ∧ PySem.W.keepIn K (.ref f) = true ∧ mg x = some (.ref f)
noncomputable abbrev FunD (K : PySem.W.Frag) (x qual : Str) (st : Stmt) (dV : Value) (f : Addr) (fd : FuncData) : Prop := ∃ (oc : Value) (od : Option Addr) (kV doc pm : Value) (an : Option Addr) (cdv ct : Value) (osl : Array (Option Value)),
      fd = PySem.W.fnOf x qual (defArgs st) (defBody st) (defScope st) dV kV doc pm an cdv ct ∧ K.lookup f = some ⟨oc, od, .func fd, osl⟩ ∧ PySem.W.codeIn K cdv qual = true
noncomputable def tRevS (K : PySem.W.Frag) (te ts : TE) : TE := fun σ H Q => te σ H fun x H1 => ts σ H1 fun y H2 => ∃ a xs, x = .ref a ∧ y = .int (-1) ∧ SqL K H2 a xs ∧ ∀ p, H2 p = none → Q (.ref p) (upd H2 p (.lst xs.reverse))
end L3

namespace L3
open PySem PySem.Spec PyProof.Rows L2 Ra
theorem pe_globI {X : Cx} {x : Str} {n : Int} {pos : Pos} (hg : Gl X x) (hm : ∃ t, X.mg x = some (.int n t)) (hd : (x == ("__debug__" : Str)) = false := by decide) : PE X (.Name x pos) (tC (.int n)) := by
  obtain ⟨t, hm⟩ := hm
  exact pe_glob hg hm ⟨t, rfl⟩ hd
theorem call_all {X : Cx} (hc : X.calm = true) : CallR X (.builtin "all") (fun xs H Q => ∃ p bs, xs = [.ref p] ∧ SqL X.K H p (List.map V.bl bs) ∧ Q (.bl (bs.all id)) H) := by
  intro pins s σ H xs us Q I r h
  obtain ⟨p, bs, rfl, hq, q⟩ := h
  obtain ⟨u, rfl, rx⟩ := vals1 r
  cases rx
  obtain ⟨its, rv, pl, hz⟩ := I.list hq
  have hlen := rv.length
  rw [List.length_map] at hlen
  have lt : p < s.heap.objs.size := by
    obtain ⟨o, ho, _⟩ := pl.isList
    exact Heap.lt_size ho
  refine call_all_walk (wpAny_pyIter_list pl.isList ?_)
  refine ⟨s.heap.objs.size, _, _, _, _, _, (fun i => (bs[i]?).getD true), rfl, Walks.list (A := X.A.in1) (I.ok.hd hc) _ p (Nat.ne_of_lt lt) its.toArray, ?st, ?tr, fun h' tk hk => ?_⟩
  case st => exact ⟨⟨_, Heap.get?_push_size _ rfl, rfl, rfl⟩, pl.isList.at fun o e => Heap.get?_push_of_some _ e⟩
  case tr =>
    intro i v s1 Q1 E1 hv q1
    have hv' : its[i]? = some v := by simpa using hv
    have hi : i < bs.length := by
      have := (List.getElem?_eq_some_iff.mp hv').1
      (first | lia | omega)
    have eb : bs[i]? = some bs[i] := List.getElem?_eq_getElem hi
    obtain ⟨u, hu, ru⟩ := rv.get (i := i) (x := .bl bs[i]) (by rw [List.getElem?_map, eb]; rfl)
    rw [hv'] at hu
    cases hu
    cases ru
    have q2 : Q1 ((bs[i]?).getD true) s1 := q1
    rw [eb] at q2
    exact wpAny_truthy_bool q2
  · have e : (List.range its.toArray.size).all (fun i => (bs[i]?).getD true) = bs.all id := by
      rw [List.size_toArray, ← hlen, Bool.eq_iff_iff, List.all_eq_true, List.all_eq_true]
      constructor
      · intro hh b hb
        obtain ⟨i, hi, rfl⟩ := List.getElem_of_mem hb
        have := hh i (List.mem_range.mpr hi)
        rw [List.getElem?_eq_getElem hi] at this
        exact this
      · intro hh i hi
        have hi' := List.mem_range.mp hi
        rw [List.getElem?_eq_getElem hi']
        exact hh _ (List.getElem_mem hi')
    rw [e]
    refine ⟨.bl (bs.all id), H, ?_, rfl, q⟩
    exact I.kept (h' := h') (t' := tk) fun b o eb => hk b o (by
      simp
      exact Nat.ne_of_lt (Heap.lt_size eb)) (Heap.get?_push_of_some _ eb)
theorem comp_listBi {K : PySem.W.Frag} {a : Addr} {xs : List V} {te : Shared → Hp → Addr → List Addr → TE} {js : List Nat} {σ : L2.St} {H1 : Hp} {Q : VK} (hn : xs.length ≤ 100000) (ha : H1 a = some (.lst xs)) (f : Nat → Bool)
    (hs : ∀ s₀ H₀ C ex (i : Nat) x H (R : VK), xs[i]? = some x → Same H1 H → (∀ H2, Same H H2 → R (.bl (f i)) H2) → te s₀ H₀ C ex (some x :: js.map fun j => (σ[j]?).join) H R)
    (hd : ∀ H D, Same H1 H → H1 D = none → H D = some (.lst (((List.range xs.length).map f).map V.bl)) → Q (.ref D) H) : CompAt (Itl K a) te js σ Q H1 := by
  intro D hD
  refine ⟨fun i m ys H => m = xs.length - i ∧ i ≤ xs.length ∧ ys = ((List.range i).map f).map V.bl ∧ Same H1 H ∧ H D = some (.lst ys), ⟨xs.length, by simp, Nat.zero_le _, rfl, same_upd hD _, upd_same⟩, ?_⟩
  rintro i m ys H ⟨rfl, hi, rfl, sm, hDl⟩
  refine ⟨hDl, ?_⟩
  have hr := sm _ _ ha
  by_cases hlt : i < xs.length
  · have eq : xs[i]? = some xs[i] := List.getElem?_eq_getElem hlt
    refine .inr ⟨⟨_, _, SqL.of hr, eq⟩, fun x H' y s₀ H₀ C ex => ?_⟩
    obtain ⟨e, y⟩ := y
    subst e
    have ex' := y _ (SqL.of hr)
    rw [eq] at ex'
    cases ex'
    refine hs s₀ H₀ C ex i _ H' _ eq sm fun H2 s2 => ?_
    have h2 := s2 _ _ hDl
    have hz : (100000 : Nat) < sizeLine := by decide
    refine ⟨h2, by rw [List.length_map, List.length_map, List.length_range]; (first | lia | omega), xs.length - (i + 1), by (first | lia | omega), rfl, hlt, ?_, ?_, upd_same⟩
    · rw [List.range_succ, List.map_append, List.map_append]; rfl
    · intro b o e
      rw [upd_ne (ne_of_none e hD)]
      exact s2 _ _ (sm _ _ e)
  · have e : i = xs.length := by (first | lia | omega)
    subst e
    exact .inl ⟨⟨_, SqL.of hr, Nat.le_refl _⟩, hd H D sm hD hDl⟩
structure PEw (X : Cx) (e : Expr) (te : TE) : Prop where
  h : PE X e te
structure PAw (X : Cx) (es : List Expr) (t : TA) : Prop where
  h : PA X es t
section
variable {X : Cx} {es xs : List Expr} {e e2 : Expr} {p p2 : Pos} {te te2 : TE} {t : TA} {k : Nat}
theorem w_int {i : Int} : PEw X (.Constant (.int i) k p) (tC (.int i)) := ⟨pe_int⟩
theorem w_bl {b : Bool} : PEw X (.Constant (.bool b) k p) (tC (.bl b)) := ⟨pe_bl⟩
theorem w_non : PEw X (.Constant .none k p) (tC .non) := ⟨pe_non⟩
theorem w_str {x : Str} : PEw X (.Constant (.str x) k p) (tC (.str x)) := ⟨pe_str⟩
theorem w_tup (h : PAw X es t) : PEw X (.Tuple es k p) (tTup t) := ⟨pe_tup h.h⟩
theorem w_lst (h : PAw X es t) : PEw X (.List es p) (tLst t) := ⟨pe_lst h.h⟩
theorem w_any (h : PE X e te) : PEw X e te := ⟨h⟩
theorem aw_nil : PAw X [] tNil := ⟨pa_nil⟩
theorem aw_con {c} (ha : PEw X (.Constant c k p) te) (hr : PAw X es t) : PAw X (.Constant c k p :: es) (tCons te t) := ⟨pa_cons ha.h hr.h rfl⟩
theorem aw_tup (ha : PEw X (.Tuple xs k p) te) (hr : PAw X es t) : PAw X (.Tuple xs k p :: es) (tCons te t) := ⟨pa_cons ha.h hr.h rfl⟩
theorem aw_lst (ha : PEw X (.List xs p) te) (hr : PAw X es t) : PAw X (.List xs p :: es) (tCons te t) := ⟨pa_cons ha.h hr.h rfl⟩
end
structure PSw (X : Cx) (st : Stmt) (t : TS) : Prop where
  h : PS X st t
structure PSsw (X : Cx) (ss : List Stmt) (t : TS) : Prop where
  h : PSs X ss t
theorem ok_sealed {X : Cx} {ss : List Stmt} {R : TS → Prop} (h : ∃ t, PSsw X ss t ∧ R t) : ∃ t, PSs X ss t ∧ R t := by
  obtain ⟨t, a, b⟩ := h
  exact ⟨t, a.h, b⟩
section
variable {X : Cx} {a b e : Expr} {pos pos' : Pos} {ta tb te : TE} {st : Stmt} {ss : List Stmt} {t u : TS}
theorem w_set {i : Nat} {x : Str} (hN : X.N.Nodup) (hi : X.N[i]? = some x) (hx : Loc X.env.scope x) (he : PEw X e te) (hs : swapsWith e (some (.Name x pos')) pos.line X.env = pure false := by rfl) (hf : X.fn x = true ∨ X.env.scope.names.lookup x = some .local := by first | exact .inl rfl | exact .inr rfl) :
    PSw X (.Assign [.Name x pos'] e pos) (tAsg te (gName i)) := ⟨ps_set hN hi hx he.h hs hf⟩
theorem w_ret (he : PEw X e te) : PSw X (.Return (some e) pos) (tRet te) := ⟨ps_ret he.h⟩
theorem sw_one (h : PSw X st t) : PSsw X [st] t := ⟨pss_one h.h⟩
theorem sw_cons (h : PSw X st t) (k : PSsw X ss u) : PSsw X (st :: ss) (tSeq t u) := ⟨pss_cons h.h k.h⟩
end
end L3


namespace L3
open PySem PySem.Spec L2 Ra PyProof.Rows
noncomputable def ev2 {α : Type} : List α → List α
  | [] => []
  | [x] => [x]
  | x :: _ :: l => x :: ev2 l
theorem ev2_map {α β : Type} (f : α → β) : ∀ l : List α, (ev2 l).map f = ev2 (l.map f)
  | [] => rfl
  | [_] => rfl
  | x :: y :: l => congrArg (f x :: ·) (ev2_map f l)
theorem ev2_mem {α : Type} {z : α} : ∀ {l : List α}, z ∈ ev2 l → z ∈ l
  | [], h => h
  | [_], h => h
  | x :: y :: l, h => by
    rcases List.mem_cons.mp h with e | e
    · rw [e]; exact List.mem_cons_self
    · exact List.mem_cons_of_mem _ (List.mem_cons_of_mem _ (ev2_mem e))
theorem ev2_length {α : Type} : ∀ l : List α, (ev2 l).length = (l.length + 1) / 2
  | [] => by simp [ev2]
  | [_] => by simp [ev2]
  | x :: y :: l => by
    show (ev2 l).length + 1 = (l.length + 1 + 1 + 1) / 2
    rw [ev2_length l]
    (first | lia | omega)
theorem ev2_pick {α : Type} : ∀ l : List α, (List.range ((l.length + 1) / 2)).filterMap (fun k => l[2 * k]?) = ev2 l
  | [] => by simp [ev2]
  | [_] => by simp [ev2, List.range_succ]
  | x :: y :: l => by
    rw [show ((x :: y :: l).length + 1) / 2 = (l.length + 1) / 2 + 1 by simp only [List.length_cons]; (first | lia | omega), List.range_succ_eq_map, List.filterMap_cons]
    show x :: List.filterMap (fun k => (x :: y :: l)[2 * k]?) (List.map Nat.succ (List.range ((l.length + 1) / 2))) = x :: ev2 l
    rw [List.filterMap_map]
    refine congrArg (x :: ·) ?_
    rw [← ev2_pick l]
    rfl
theorem fm_congr2 {α β : Type} {f h : α → Option β} : ∀ {l : List α}, (∀ x ∈ l, f x = h x) → l.filterMap f = l.filterMap h
  | [], _ => rfl
  | x :: l, e => by
    rw [List.filterMap_cons, List.filterMap_cons, e x List.mem_cons_self, fm_congr2 fun y hy => e y (List.mem_cons_of_mem _ hy)]
noncomputable def Begun (lo : Option Int) (n : Nat) : Prop := (lo = none ∧ n = 0) ∨ lo = some (n : Int)
theorem pick_two (its : List Value) {lo : Option Int} {n : Nat} (h : Begun lo n) : slicePick its.toArray lo none (some 2) = (ev2 (its.drop n)).toArray := by
  unfold slicePick
  congr 1
  obtain ⟨m, hm⟩ : ∃ m, m = min n its.length := ⟨_, rfl⟩
  have eb : sliceBounds lo none (some 2) its.toArray.size = ((m : Int), (its.length : Int), 2) := by
    rw [List.size_toArray]
    rcases h with ⟨rfl, rfl⟩ | rfl
    · rw [hm, Nat.zero_min]; rfl
    · simp only [sliceBounds, Option.getD_some, show (2 : Int) > 0 by decide, if_true]
      refine Prod.ext ?_ rfl
      show max 0 (min (if (n : Int) < 0 then (n : Int) + (its.length : Int) else (n : Int)) (its.length : Int)) = (m : Int)
      rw [if_neg (by (first | lia | omega))]
      (first | lia | omega)
  rw [eb]
  have er : sliceRange (m : Int) (its.length : Int) 2 = (List.range (((its.drop n).length + 1) / 2)).map fun k => m + 2 * k := by
    unfold sliceRange
    have hc : (if (2 : Int) > 0 then (if (m : Int) < (its.length : Int) then ((its.length : Int) - (m : Int) + 2 - 1) / 2 else 0) else (if (m : Int) > (its.length : Int) then ((m : Int) - (its.length : Int) - 2 - 1) / (-2) else 0)).toNat = ((its.drop n).length + 1) / 2 := by
      rw [if_pos (by decide), List.length_drop]
      by_cases h : (m : Int) < (its.length : Int)
      · rw [if_pos h]; (first | lia | omega)
      · rw [if_neg h]; (first | lia | omega)
    show (List.range (if (2 : Int) > 0 then _ else _ : Int).toNat).map _ = _
    rw [hc]
    exact List.map_congr_left fun k _ => by (first | lia | omega)
  show List.filterMap _ (sliceRange (m : Int) (its.length : Int) 2) = ev2 (its.drop n)
  rw [er, List.filterMap_map, ← ev2_pick]
  refine fm_congr2 fun k hk => ?_
  have hk' := List.mem_range.mp hk
  rw [List.length_drop] at hk'
  show its.toArray[m + 2 * k]? = (its.drop n)[2 * k]?
  rw [List.getElem?_toArray, List.getElem?_drop, show m = n by (first | lia | omega)]
theorem vals_ev2 : ∀ {xs : List V} {us : List Value}, Vals xs us → Vals (ev2 xs) (ev2 us)
  | _, _, .nil => .nil
  | _, _, .cons a .nil => .cons a .nil
  | _, _, .cons a (.cons _ r) => .cons a (vals_ev2 r)
noncomputable def tStep2 (K : PySem.W.Frag) (te : TE) (tl : TO) (ts : TE) : TE := fun σ H Q => te σ H fun x H1 => tl σ H1 fun l H2 => ts σ H2 fun y H3 => ∃ a xs n, x = .ref a ∧ y = .int 2 ∧ Begun l n ∧ SqL K H3 a xs ∧ ∀ p, H3 p = none → Q (.ref p) (upd H3 p (.lst (ev2 (xs.drop n))))
theorem pe_step2 {X : Cx} {e st : Expr} {lo : Option Expr} {te ts : TE} {tl : TO} {p2 pos : Pos} (he : PE X e te) (hl : PO X lo tl) (hs : PE X st ts) : PE X (.Subscript e (.Slice lo none (some st) p2) pos) (tStep2 X.K te tl ts) := by
  intro pins s σ H Q I h
  refine Subscript_ (thn (he pins s σ H _ I h) fun v s1 ⟨x, H1, I1, r1, q1⟩ => ?_)
  refine wpAny_Slice (thn (hl pins s1 σ H1 _ I1 q1) fun vl s2 ⟨l, H2, I2, pl, q2⟩ => ?_)
  rw [evalPart_none, evalPart_some]
  refine wpAny_pure (thn (hs pins s2 σ H2 _ I2 q2) fun w s3 ⟨y, H3, I3, r3, q3⟩ => ?_)
  obtain ⟨a, xs, n, rfl, rfl, hb, hx, q⟩ := q3
  cases r1
  obtain ⟨t, rfl⟩ := r3
  have I4 : Inv X pins σ H3 { s3 with heap := s3.heap.push { cls := .type "slice", data := .fields #[vl, .none, .int 2 t] } } := I3.kept (t' := s3.toks) fun b ob q => Heap.get?_push_of_some _ q
  obtain ⟨its, rv, ht, hz⟩ := I4.list hx
  have hlen := rv.length
  show wpAny (model X.prog X.w) X.A (subscriptTail e (.Slice lo none (some st) p2) (.ref a) (.ref s3.heap.objs.size)) (EP X pins σ Q) X.xe { s3 with heap := s3.heap.push { cls := .type "slice", data := .fields #[vl, .none, .int 2 t] } }
  refine tail_any (ops := [.ref a, .ref s3.heap.objs.size]) ht.isList.typeIs slot_list_getitem.lookup ?_ (by with_unfolding_all rfl)
  refine wpAny_getItem_list_slice ht.isList (Heap.IsSliceOf.new ..) pl .none (.int 2 t) (by simp) ?_ (by rw [List.size_toArray] <;> (first | lia | omega))
  rw [pick_two its hb]
  refine ⟨.ref _, _, I4.laid (t' := s3.toks) (o := .lst (ev2 (xs.drop n))) (fun b ob q => Heap.get?_push_of_some _ q) (Nat.le_refl _) ?_, rfl, q _ (I4.hok.fresh (Nat.le_refl _))⟩
  refine ⟨?_, _, 0, vals_ev2 (rv.drop n), Heap.get?_push_size _ rfl⟩
  rw [ev2_length, List.length_drop]
  (first | lia | omega)
end L3

namespace L3
open PySem PySem.Spec PyProof.Rows L2 Ra
section
variable {X : Cx}
noncomputable def rInsert : V → List V → Hp → VK → Prop := fun x vs H Q => ∃ (l : Addr) (xs : List V) (i : Int) (y : V), x = .ref l ∧ vs = [.int i, y] ∧ H l = some (.lst xs) ∧ 0 ≤ i ∧ i < 2 ^ 63 ∧ i ≤ xs.length ∧ xs.length < sizeLine ∧ Q .non (upd H l (.lst (xs.take i.toNat ++ y :: xs.drop i.toNat)))
theorem mt_insert : MtM X "list.insert" rInsert := by
  intro pins s σ H x vs v us Q I rx rv h
  obtain ⟨l, xs, i, y, rfl, rfl, hH, h0, h2, hj, hz, q⟩ := h
  cases rx
  obtain ⟨u1, u2, rfl, r1, r2⟩ := vals2 rv
  obtain ⟨t, rfl⟩ := r1
  obtain ⟨z, its, n, r, hl, e⟩ := I.lstM hH
  have hfit : Builtin.List.listFitsIndex i = true := fitsIndex_both (by (first | lia | omega)) h2
  have hf2 : ¬ (!Builtin.List.listFitsIndex i) = true := by
    rw [hfit]
    exact fun z => nomatch z
  have hsz : its.toArray.size ≤ sizeLine := by
    rw [List.size_toArray]
    (first | lia | omega)
  refine call_meets F.slot_list_insert ⟨_, e, rfl⟩ F.entry_list_insert (F.args_list_insert_3 _ _ _) (AutoSeq1.list_insert_list_int_val_1 l its.toArray n i t u2 hf2 hsz) ⟨e, ?_⟩
  have hk : (if i < 0 then (i + (its.toArray.size : Int)).toNat else min i.toNat its.toArray.size) = i.toNat := by
    rw [if_neg (by (first | lia | omega)), List.size_toArray]
    (first | lia | omega)
  refine ⟨.non, _, I.lset (its' := its.take i.toNat ++ u2 :: its.drop i.toNat) hH e ?_ ((r.take i.toNat).append (.cons r2 (r.drop i.toNat))) ?_, rfl, q⟩
  · dsimp only
    rw [hk]
    apply Array.ext'
    simp
    exact List.take_of_length_le (by rw [List.length_drop]; exact Nat.le_refl _)
  · rw [List.length_append, List.length_cons, List.length_take, List.length_drop]
    (first | lia | omega)
end
end L3

namespace L3
open PySem PySem.Spec PyProof.Rows L2 Ra
theorem got {P : Program} {w : World} {H : Hp} {h : Heap} {a : Addr} {o : HO} (x : ObjOk P w H h a o) : ∃ ob, h.get? a = some ob := by
  induction o with
  | lst xs => obtain ⟨_, _, _, _, e⟩ := x; exact ⟨_, e⟩
  | tup xs => obtain ⟨_, _, _, ob, e, _⟩ := x; exact ⟨_, e⟩
  | dK kvs => obtain ⟨_, _, _, _, o, _, _, e, _⟩ := x; exact ⟨_, e⟩
  | dT kvs => obtain ⟨_, _, _, _, o, _, _, e, _⟩ := x; exact ⟨_, e⟩
  | set S n => obtain ⟨o, _, _, _, e, _⟩ := x; exact ⟨_, e⟩
  | ins C dx fs => obtain ⟨_, _, _, e, _⟩ := x; exact ⟨_, e⟩
  | own y => exact x
  | xd fs => obtain ⟨_, ⟨_, _, _, e, _⟩, _⟩ := x; exact ⟨_, e⟩
  | rng lo hi => obtain ⟨_, _, _, e⟩ := x; exact ⟨_, e⟩
  | frz ob u ih => obtain ⟨e, _⟩ := x; exact ⟨_, e⟩
  | tbl ps => exact ⟨_, x⟩
  | met f y => exact ⟨_, x⟩
  | ext φ => obtain ⟨_, e, _⟩ := x; exact e
structure Fly (outer : List Env) (H : Hp) (h0 : Heap) (a : Addr) (C : Value) (h : Heap) : Prop where
  ex : ∃ B T a0, Heap.FlyingW B outer a C a0 h ∧ (∀ b o, h.get? b = some o → b ∉ frs outer → b ≠ a → b ≠ T → B.get? b = some o) ∧ H a = none ∧ H T = none ∧ h0.get? a = none ∧ h0.get? T = none
theorem Fly.of {outer : List Env} {H : Hp} {h0 B h : Heap} {a : Addr} {C a0 : Value} (hf : Heap.FlyingW B outer a C a0 h) (ha : H a = none) (h0a : h0.get? a = none)
    (hT : ∀ T oT ts, B.get? T = none → h.get? T = some oT → oT.data = .fields ts → T ≠ a → H T = none ∧ h0.get? T = none) : Fly outer H h0 a C h := by
  obtain ⟨f1, f2, f3, oe, vs, T, oT, ts, he, hc, hd, h1, hB, hne, hT', hdT, h3⟩ := hf
  obtain ⟨t1, t2⟩ := hT T oT ts hB hT' hdT hne
  refine ⟨PySem.W.hideAll h (frs outer ++ [a, T]), T, a0, ⟨fun b o q => PySem.W.of_hideAll _ q, PySem.W.hideAll_none _ (by simp), PySem.W.funFrames_hide f3 fun env he b hb => List.mem_append_left _ (List.mem_filterMap.mpr ⟨env, he, hb⟩), oe, vs, T, oT, ts, he, hc, hd, h1, PySem.W.hideAll_none _ (by simp), hne, hT', hdT, h3⟩,
    fun b o q n1 n2 n3 => PySem.W.hideAll_get _ q fun z => ?_, ha, t1, h0a, t2⟩
  rcases List.mem_append.mp z with z | z
  · exact n1 z
  · simp at z
    exact z.elim n2 n3
noncomputable def CXe (P : Program) (w : World) : CXT := fun outer H s E e s' => ∃ a C H', e = .ref a ∧ s'.os = s.os ∧ AllBare s'.gens ∧ Un (frs outer) [] H H' s.heap s'.heap ∧ HOk P w H' s'.heap ∧ Fly outer H' s.heap a C s'.heap ∧ E C none H'
section
variable {P : Program} {w : World} {K : PySem.W.Frag} {mg : Str → Option Value} {base : Heap} {N : List Str} {qual : Str} {scope : Scope} {f : Addr} {cd : Value} {A : Around} {outer : List Env} {s : Shared} {H : Hp} {E : XK}
  {pins : List (Addr × Obj)} {σ : L2.St} {H1 : Hp} {s1 : Shared}
theorem left_un {h2 : Heap} (I : Inv (cxOf (CXe P w) P w K mg base N qual scope f cd A outer s H E) pins σ H1 s1) (bad : Addr → Prop) (hbad : ∀ b, bad b → s.heap.get? b = none ∧ H1 b = none)
    (kk : ∀ b o, s1.heap.get? b = some o → b ∉ frs (envOfC qual scope s.heap.objs.size f cd :: outer) → ¬ bad b → h2.get? b = some o)
    (ks : ∀ b o, s1.heap.get? b = some o → b ∈ frs (envOfC qual scope s.heap.objs.size f cd :: outer) → ∃ sl, h2.get? b = some { o with slots := sl }) :
    Un (frs outer) [] H H1 s.heap h2 ∧ HOk P w H1 h2 := by
  have nfr : ∀ b o, s.heap.get? b = some o → b ∉ frs outer → b ∉ frs (envOfC qual scope s.heap.objs.size f cd :: outer) := fun b o q nb hb => by
    rcases List.mem_cons.mp (show b ∈ s.heap.objs.size :: frs outer from hb) with z | z
    · rw [z] at q
      exact absurd (Heap.lt_size q) (Nat.lt_irrefl _)
    · exact nb z
  have nbad : ∀ b o, s.heap.get? b = some o → ¬ bad b := fun b o q z => by rw [(hbad b z).1] at q; cases q
  have nex : ∀ b, b ∉ (cxOf (CXe P w) P w K mg base N qual scope f cd A outer s H E).ex := fun b z => absurd (show b ∈ ([] : List Addr) from z) (by simp)
  refine ⟨⟨fun b o q n hb _ => kk b o (I.base.keep b o q n hb (nex b)) (nfr b o q hb) (nbad b o q), fun b o q n hb _ => ?_, fun b o q n _ => I.base.free b o q n (nex b), fun b o q _ => ?_, I.base.tups, I.base.frzs, I.base.tbls⟩, fun b ob q => ?_⟩
  · obtain ⟨sl, q1⟩ := I.base.slot b o q n hb (nex b)
    obtain ⟨sl', q2⟩ := ks b _ q1 (List.mem_cons_of_mem _ hb)
    exact ⟨sl', q2⟩
  · obtain ⟨o', q1⟩ := I.base.there b o q (nex b)
    by_cases hb : b ∈ frs (envOfC qual scope s.heap.objs.size f cd :: outer)
    · obtain ⟨sl, q2⟩ := ks b o' q1 hb
      exact ⟨_, q2⟩
    · exact ⟨o', kk b o' q1 hb (nbad b o q)⟩
  · have tr : ∀ c u, H1 c = some u → c ∉ frs (envOfC qual scope s.heap.objs.size f cd :: outer) ∧ ¬ bad c := fun c u e => by
      refine ⟨fun z => ?_, fun z => ?_⟩
      · have := I.stkFree c z
        rw [e] at this
        cases this
      · have := (hbad c z).2
        rw [e] at this
        cases this
    refine (I.hok b ob q).stay (fun c u hc qc => ?_) (fun _ z => z) fun _ _ z => z
    have t : c ∉ frs (envOfC qual scope s.heap.objs.size f cd :: outer) ∧ ¬ bad c := by
      rcases hc with rfl | hc
      · exact tr c ob q
      · exact tr c _ hc
    exact kk c u qc t.1 t.2
theorem leave_made {h' : Heap} {e C : Addr} {vs : List Value} (I : Inv (cxOf (CXe P w) P w K mg base N qual scope f cd A outer s H E) pins σ H1 s1) (hx : Heap.MadeExcOf s1.heap h' e (.ref C) vs) (hE : E (.ref C) none H1) :
    (cxOf (CXe P w) P w K mg base N qual scope f cd A outer s H E).xe (.ref e) { s1 with heap := h' } := by
  show wpAny (model P w) (A.deeper (envOfC qual scope s.heap.objs.size f cd)) (leaving (envOfC qual scope s.heap.objs.size f cd) (.ref e)) _ _ { s1 with heap := h' }
  have fsub : ∀ env ∈ (envOfC qual scope s.heap.objs.size f cd :: outer), ∀ b, env.frame = some b → b ∈ frs (envOfC qual scope s.heap.objs.size f cd :: outer) := fun env he b hb => List.mem_filterMap.mpr ⟨env, he, hb⟩
  refine wpAny_leaves_madeW (base := PySem.W.hideAll s1.heap (frs (envOfC qual scope s.heap.objs.size f cd :: outer))) I.ok.frames rfl (fun b o q => PySem.W.of_hideAll _ q) (PySem.W.funFrames_hide I.stack fsub) hx fun h2 t fl tup ht up => ?_
  have kk : ∀ b o, s1.heap.get? b = some o → b ∉ frs (envOfC qual scope s.heap.objs.size f cd :: outer) → h2.get? b = some o := fun b o q nb => fl.1 b o (PySem.W.hideAll_get _ q nb)
  have ks : ∀ b o, s1.heap.get? b = some o → b ∈ frs (envOfC qual scope s.heap.objs.size f cd :: outer) → ∃ sl, h2.get? b = some { o with slots := sl } := fun b o q hb => by
    obtain ⟨_, o', q', hd⟩ := I.stack.mem hb
    rw [q] at q'
    cases q'
    exact up b o (hx.keeps b o q) hd
  obtain ⟨un, hok⟩ := left_un I (fun _ => False) (fun _ z => z.elim) (fun b o q nb _ => kk b o q nb) ks
  have tr : ∀ c u, H1 c = some u → ∃ ob, s1.heap.get? c = some ob ∧ c ∉ frs (envOfC qual scope s.heap.objs.size f cd :: outer) := fun c u q => by
    obtain ⟨ob, qo⟩ := got (I.hok c u q)
    refine ⟨ob, qo, fun z => ?_⟩
    have := I.stkFree c z
    rw [q] at this
    cases this
  have nex : ∀ b, b ∉ (cxOf (CXe P w) P w K mg base N qual scope f cd A outer s H E).ex := fun b z => absurd (show b ∈ ([] : List Addr) from z) (by simp)
  refine ⟨e, .ref C, H1, rfl, I.os, I.bare, un, hok, Fly.of fl ?_ ?_ fun T oT ts hB hT hd hne => ⟨?_, ?_⟩, hE⟩
  · cases q : H1 e with
    | none => rfl
    | some u =>
      obtain ⟨ob, qo, _⟩ := tr e u q
      rw [hx.new] at qo
      cases qo
  · cases q : s.heap.get? e with
    | none => rfl
    | some o =>
      obtain ⟨o', q1⟩ := I.base.there e o q (nex e)
      rw [hx.new] at q1
      cases q1
  · cases q : H1 T with
    | none => rfl
    | some u =>
      obtain ⟨ob, qo, nb⟩ := tr T u q
      rw [PySem.W.hideAll_get _ qo nb] at hB
      cases hB
  · cases q : s.heap.get? T with
    | none => rfl
    | some o =>
      obtain ⟨o', q1⟩ := I.base.there T o q (nex T)
      by_cases hb : T ∈ frs (envOfC qual scope s.heap.objs.size f cd :: outer)
      · rcases List.mem_cons.mp (show T ∈ s.heap.objs.size :: frs outer from hb) with z | z
        · rw [z] at q
          exact absurd (Heap.lt_size q) (Nat.lt_irrefl _)
        · obtain ⟨_, o2, q2, hd2⟩ := fl.2.2.1.mem z
          rw [hT] at q2
          cases q2
          exact absurd hd (hd2 ts)
      · rw [PySem.W.hideAll_get _ q1 hb] at hB
        cases hB
theorem pass_on : Passes (CXe P w) (cxOf (CXe P w) P w K mg base N qual scope f cd A outer s H E) E := by
  intro pins σ H1 s1 e s2 I h
  obtain ⟨a, C, H2, rfl, os, bare, un, hok, fly, hE⟩ := h
  have I2 := I.call' (s' := s2) (ch := []) os un hok bare (fun b z => absurd z (by simp))
  obtain ⟨B, T, a0, fl, cov, ha, hT, h0a, h0T⟩ := fly.ex
  show wpAny (model P w) (A.deeper (envOfC qual scope s.heap.objs.size f cd)) (leaving (envOfC qual scope s.heap.objs.size f cd) (.ref a)) _ _ s2
  have nex : ∀ b, b ∉ (cxOf (CXe P w) P w K mg base N qual scope f cd A outer s H E).ex := fun b z => absurd (show b ∈ ([] : List Addr) from z) (by simp)
  have old : ∀ b, s1.heap.get? b = none → s.heap.get? b = none := fun b n => by
    cases q : s.heap.get? b with
    | none => rfl
    | some o =>
      obtain ⟨o', q1⟩ := I.base.there b o q (nex b)
      rw [n] at q1
      cases q1
  refine wpAny_leaves_onW I.ok.frames rfl fl fun h3 fl3 up => ?_
  have ks : ∀ b o, s2.heap.get? b = some o → b ∈ frs (envOfC qual scope s.heap.objs.size f cd :: outer) → ∃ sl, h3.get? b = some { o with slots := sl } := fun b o q hb => by
    obtain ⟨_, o', q', hd⟩ := I2.stack.mem hb
    rw [q] at q'
    cases q'
    exact up b o q hd
  obtain ⟨un3, hok3⟩ := left_un I2 (fun b => b = a ∨ b = T) (fun b z => by
    rcases z with rfl | rfl
    · exact ⟨old _ h0a, ha⟩
    · exact ⟨old _ h0T, hT⟩) (fun b o q nb nz => fl3.1 b o (cov b o q nb (fun z => nz (.inl z)) fun z => nz (.inr z))) ks
  refine ⟨a, C, H2, rfl, I2.os, bare, un3, hok3, Fly.of fl3 ha (old a h0a) fun T2 oT ts hB hT2 hd hne => ⟨?_, ?_⟩, hE⟩
  · cases q : H2 T2 with
    | none => rfl
    | some u =>
      obtain ⟨ob, qo⟩ := got (I2.hok T2 u q)
      have nb : T2 ∉ frs (envOfC qual scope s.heap.objs.size f cd :: outer) := fun z => by
        have := I2.stkFree T2 z
        rw [q] at this
        cases this
      have nT : T2 ≠ T := fun z => by
        rw [z, hT] at q
        cases q
      rw [cov T2 ob qo nb hne nT] at hB
      cases hB
  · cases q : s.heap.get? T2 with
    | none => rfl
    | some o =>
      obtain ⟨o', q1⟩ := I2.base.there T2 o q (nex T2)
      have nT : T2 ≠ T := fun z => by
        rw [z, old T h0T] at q
        cases q
      by_cases hb : T2 ∈ frs (envOfC qual scope s.heap.objs.size f cd :: outer)
      · rcases List.mem_cons.mp (show T2 ∈ s.heap.objs.size :: frs outer from hb) with z | z
        · rw [z] at q
          exact absurd (Heap.lt_size q) (Nat.lt_irrefl _)
        · obtain ⟨_, o2, q2, hd2⟩ := fl3.2.2.1.mem z
          rw [hT2] at q2
          cases q2
          exact absurd hd (hd2 ts)
      · rw [cov T2 o' q1 hb hne nT] at hB
        cases hB
end
abbrev veMro : List Value := [.type "ValueError", .type "Exception", .type "BaseException", .type "object"]
noncomputable def OwnErr (K : PySem.W.Frag) (C : Addr) : Prop := PySem.W.excIn K C veMro "ValueError.__new__" = true
theorem OwnErr.parts {K : PySem.W.Frag} {h : Heap} {C : Addr} (X : K.In h) (e : OwnErr K C) :
    ∃ bm Nn nm qn bs hd sn sub ab col dd k0 k1 k2 k3 k5 mN, h.get? C = some (excClassObj nm qn C Nn bs bm hd sn sub ab col dd k0 k1 k2 k3 k5 "ValueError.__new__") ∧ h.Ns Nn mN ∧ mN "__init__" = none ∧ OwnTail h veMro bm := by
  unfold OwnErr PySem.W.excIn at e
  split at e
  · rename_i d1 c1 l1 look
    split at e
    · rename_i C1 b1 x0 x1 x2 x3 n1 x5 em es
      simp only [Bool.and_eq_true, beq_iff_eq, Bool.not_eq_true'] at e
      obtain ⟨⟨⟨⟨⟨e1, e2⟩, e3⟩, e4⟩, e5⟩, e6⟩ := e
      subst e1 e2
      obtain ⟨nm, bs, mro, ns, qn, hd, sn, sub, ab, col, del⟩ := c1
      dsimp only at em e3 e5 e6
      subst em e3
      obtain ⟨arr⟩ := l1
      have es' : arr = [x0, x1, x2, x3, some (.builtin "ValueError.__new__"), x5] := es
      subst es'
      exact ⟨b1, ns, nm, qn, bs, hd, sn, sub, ab, col, d1, x0, x1, x2, x3, x5, _, X _ _ look, .of_isNs (PySem.W.isNs_of_in X e5), PySem.W.nsMap_none_of_in X e5 e6, PySem.W.tail_of_in X e4⟩
    · cases e
  · cases e
noncomputable def tRaise (E : XK) (C : Addr) (ta : TA) : TS := fun _ σ H => ta σ H fun vs H1 => vs.length ≤ sizeLine ∧ E (.ref C) none H1
section
variable {P : Program} {w : World} {K : PySem.W.Frag} {mg : Str → Option Value} {base : Heap} {N : List Str} {qual : Str} {scope : Scope} {f : Addr} {cd : Value} {A : Around} {outer : List Env} {s : Shared} {H : Hp} {E : XK}
theorem ps_raise {x : Str} {C : Addr} {np cpos pos : Pos} {e0 : Expr} {rest : List Expr} {ta : TA} (hm : mg x = some (.ref C)) (ho : OwnErr K C) (ha : PA (cxOf (CXe P w) P w K mg base N qual scope f cd A outer s H E) (e0 :: rest) ta)
    (hg : Gl (cxOf (CXe P w) P w K mg base N qual scope f cd A outer s H E) x := by rfl) (hd : (x == ("__debug__" : Str)) = false := by decide)
    (he : starEach (e0 :: rest) (envOfC qual scope s.heap.objs.size f cd) = (false, eval e0 (envOfC qual scope s.heap.objs.size f cd)) :: starEach rest (envOfC qual scope s.heap.objs.size f cd) := by rfl)
    (hpl : (backTo cpos (starEach rest (envOfC qual scope s.heap.objs.size f cd))).any (·.1) = false := by rfl) :
    PS (cxOf (CXe P w) P w K mg base N qual scope f cd A outer s H E) (.Raise (some (.Call (.Name x np) (e0 :: rest) [] cpos)) none pos) (tRaise E C ta) := by
  intro pins s1 σ H1 D I h
  obtain ⟨bm, Nn, nm, qn, bs, hd', sn, sub, ab, col, dd, k0, k1, k2, k3, k5, mN, hC, hN, hni, T⟩ := ho.parts I.mod.kin
  refine wpAny_Raise_call_subT (C := C) (nm := nm) (q := qn) (N := Nn) (bs := bs) (bm := bm) (hdct := hd') (sn := sn) (sub := sub) (ab := ab) (col := col) (dd := dd) (k0 := k0) (k1 := k1) (k2 := k2) (k3 := k3) (k5 := k5)
    PySem.F.excBase_ValueError (mN := mN) (T.hasType PySem.F.excBase_ValueError.hasBase) (I.ok.hd rfl) ?_ hni (ld_glob I hg hm ⟨rfl, ?_⟩ hd)
  · show (backTo cpos (starEach (e0 :: rest) (envOfC qual scope s.heap.objs.size f cd))).any (·.1) = false
    rw [he]
    show (false || (backTo cpos (starEach rest (envOfC qual scope s.heap.objs.size f cd))).any (·.1)) = false
    rw [hpl]
    rfl
  · have q := ha cpos pins s1 σ H1 _ I h
    show wpAny (model P w) _ (evalArgs (.ref C) true (backTo cpos (starEach (e0 :: rest) (envOfC qual scope s.heap.objs.size f cd))) []) _ _ s1
    have q' : wpAny (model P w) (A.deeper (envOfC qual scope s.heap.objs.size f cd)) (spliced (backTo cpos (starEach (e0 :: rest) (envOfC qual scope s.heap.objs.size f cd)))) _ _ s1 := q
    rw [he] at q' ⊢
    refine Calls.evalArgs_plain (wpAny_mono q' (fun us s2 h2 => ?_) fun _ _ z => z)
    obtain ⟨vs, H2, I2, r, hl, hE⟩ := h2
    exact ⟨rfl, by rw [← r.length]; exact hl, I2.bk _ _ hC, hN.keeps I2.bk, T.keeps I2.bk, fun h' e hx => leave_made I2 hx hE⟩
end
end L3

namespace L3
open PySem PySem.Spec PyProof.Rows L2 Ra
structure CalX (P : Program) (w : World) (K : PySem.W.Frag) (mg : Str → Option Value) (base : Heap) (x : Str) (k : Nat) (ps : List Str) (ds : List Value) (dvs : List V) (sp : Sp) : Prop where
  ex : ∃ f fd, FnOk P w K mg base (CXe P w) k f fd ps sp ∧ Binds K fd ps ds ∧ PySem.W.keepIn K (.ref f) = true ∧ mg x = some (.ref f)
  dv : Vals dvs ds
theorem Passes.none {P : Program} {w : World} {X : Cx} : Passes (CXe P w) X E0 := fun _ _ _ _ _ _ _ ⟨_, _, _, _, _, _, _, _, _, h⟩ => h.elim
theorem pe_clN {X : Cx} {x : Str} {k j : Nat} {ps : List Str} {ds : List Value} {dvs : List V} {sp : Sp} {e : Expr} {es : List Expr} {t : TA} {p pos : Pos} (C : CalX X.prog X.w X.K X.mg X.base x k ps ds dvs sp) (hr : Room j X.A) (ha : PA X (e :: es) t) (hkj : k ≤ j := by decide) (hg : Gl X x := by rfl)
    (hdb : (x == ("__debug__" : Str)) = false := by decide) (he : starEach (e :: es) X.env = (false, eval e X.env) :: starEach es X.env := by rfl) (hpl : (backTo pos (starEach es X.env)).any (·.1) = false := by rfl) :
    PE X (.Call (.Name x p) (e :: es) [] pos) (tCall sp dvs E0 t) := by
  obtain ⟨f, fd, F, b, kp, m⟩ := C.ex
  exact pe_call F (hr.mono hkj) hg m kp b C.dv Passes.none ha hdb he hpl
theorem pe_clX {P : Program} {w : World} {K : PySem.W.Frag} {mg : Str → Option Value} {base : Heap} {N : List Str} {qual : Str} {scope : Scope} {f : Addr} {cd : Value} {A : Around} {outer : List Env} {s : Shared} {H : Hp} {E : XK}
    {x : Str} {k j : Nat} {ps : List Str} {ds : List Value} {dvs : List V} {sp : Sp} {e : Expr} {es : List Expr} {t : TA} {p pos : Pos} (C : CalX P w K mg base x k ps ds dvs sp) (hr : Room j (A.deeper (envOfC qual scope s.heap.objs.size f cd)))
    (ha : PA (cxOf (CXe P w) P w K mg base N qual scope f cd A outer s H E) (e :: es) t) (hkj : k ≤ j := by decide) (hg : Gl (cxOf (CXe P w) P w K mg base N qual scope f cd A outer s H E) x := by rfl)
    (hdb : (x == ("__debug__" : Str)) = false := by decide) (he : starEach (e :: es) (envOfC qual scope s.heap.objs.size f cd) = (false, eval e (envOfC qual scope s.heap.objs.size f cd)) :: starEach es (envOfC qual scope s.heap.objs.size f cd) := by rfl)
    (hpl : (backTo pos (starEach es (envOfC qual scope s.heap.objs.size f cd))).any (·.1) = false := by rfl) :
    PE (cxOf (CXe P w) P w K mg base N qual scope f cd A outer s H E) (.Call (.Name x p) (e :: es) [] pos) (tCall sp dvs E t) := by
  obtain ⟨f, fd, F, b, kp, m⟩ := C.ex
  exact pe_call F (hr.mono hkj) hg m kp b C.dv pass_on ha hdb he hpl
theorem okX {P : Program} {w : World} {K : PySem.W.Frag} {mg : Str → Option Value} {base : Heap} {x qual : Str} {st : Stmt} {f : Addr} {fd : FuncData} {N ps : List Str} {k : Nat} {sp : Sp} {dV : Value}
    (F : ∃ (oc : Value) (od : Option Addr) (kV doc pm : Value) (an : Option Addr) (cdv ct : Value) (osl : Array (Option Value)),
      fd = PySem.W.fnOf x qual (defArgs st) (defBody st) (defScope st) dV kV doc pm an cdv ct ∧ K.lookup f = some ⟨oc, od, .func fd, osl⟩ ∧ PySem.W.codeIn K cdv qual = true)
    (S : FnScope N ps (defScope st)) (len : ∀ vs H Q E, sp vs H Q E → vs.length = ps.length)
    (hbody : ∀ (cdv : Value) (A : Around) (outer : List Env) (s : Shared) (H : Hp) (vs : List V) (Q : VK) (E : XK), Room k (A.deeper (envOfC qual (defScope st) s.heap.objs.size f cdv)) → sp vs H Q E →
      ∃ t, PSs (cxOf (CXe P w) P w K mg base N qual (defScope st) f cdv A outer s H E) (defBody st) t ∧ t { nx := fun _ H' => Q .non H', rt := Q } (start N vs) H) : FnOk P w K mg base (CXe P w) (k + 1) f fd ps sp := by
  obtain ⟨oc, od, kV, doc, pm, an, cdv, ct, osl, rfl, lk, hcd⟩ := F
  exact fn_of lk hcd S len fun A outer s H vs Q E hr hsp => hbody cdv A outer s H vs Q E hr hsp
noncomputable def XP (X : Cx) (pins : List (Addr × Obj)) (R : Value → L2.St → Hp → Prop) (e : Value) (s' : Shared) : Prop :=
  ∃ a C σ' H' H1 s1, e = .ref a ∧ Inv X pins σ' H1 s1 ∧ Inv X pins σ' H' s' ∧ Fly X.stack H' s1.heap a C s'.heap ∧ R C σ' H'
noncomputable def PSx (X : Cx) (st : Stmt) (t : (Value → L2.St → Hp → Prop) → TS) : Prop :=
  ∀ (pins : List (Addr × Obj)) (s : Shared) (σ : L2.St) (H : Hp) (D : Ends) (R : Value → L2.St → Hp → Prop), Inv X pins σ H s → t R D σ H → wpAny (model X.prog X.w) X.A (exec st X.env) (SP X pins D) (XP X pins R) s
noncomputable def tXCall (sp : Sp) (dvs : List V) (t : TA) : (Value → L2.St → Hp → Prop) → TS := fun R D σ H => t σ H fun vs H1 => sp (vs ++ dvs) H1 (fun _ H2 => D.nx σ H2) fun C _ H2 => R C σ H2
theorem psx_call {X : Cx} {x : Str} {k j : Nat} {ps : List Str} {ds : List Value} {dvs : List V} {sp : Sp} {e : Expr} {es : List Expr} {t : TA} {p pos pos' : Pos} (C : CalX X.prog X.w X.K X.mg X.base x k ps ds dvs sp) (hr : Room j X.A) (ha : PA X (e :: es) t) (hxe : X.xe = (fun _ _ => False) := by rfl) (hkj : k ≤ j := by decide) (hg : Gl X x := by rfl)
    (hdb : (x == ("__debug__" : Str)) = false := by decide) (he : starEach (e :: es) X.env = (false, eval e X.env) :: starEach es X.env := by rfl) (hpl : (backTo pos (starEach es X.env)).any (·.1) = false := by rfl)
    (hs : swapsWith (.Call (.Name x p) (e :: es) [] pos) none pos'.line X.env = pure false := by rfl) :
    PSx X (.Expr (.Call (.Name x p) (e :: es) [] pos) pos') (tXCall sp dvs t) := by
  obtain ⟨f, fd, F, b, kp, m⟩ := C.ex
  intro pins s σ H D R I h
  have ha' := ha pos pins s σ H _ I h
  rw [hxe] at ha'
  refine wpAny_Expr_any (wpAny_Call_Name_kw (ld_glob I hg m ?_ hdb)) I.quiet hs
  refine PySem.W.callWith_K (h₀ := X.base) I.ok.mod.kin kp (wpAny_mono ha' (fun us s1 h1 => ?_) fun _ _ z => False.elim z) he hpl
  obtain ⟨vs, H1, I1, r, q⟩ := h1
  refine ⟨I1.kIn, ?_⟩
  have r2 : Vals (vs ++ dvs) (us ++ ds) := r.append C.dv
  have hl : (us ++ ds).length = ps.length := by rw [← r2.length]; exact F.len _ _ _ _ q
  refine wpAny_call (codeAny_mono (F.run X.A X.stack s1 H1 ⟨us, []⟩ (us ++ ds) (vs ++ dvs) _ _ (hr.mono hkj) I1.env0 (b s1 us I1.kIn hl) r2 q) fun res s2 hq => ?_)
  cases res with
  | error ev =>
    obtain ⟨a, Cv, H2, rfl, os, bare, un, hok, fly, hE⟩ := hq
    exact ⟨a, Cv, σ, H2, H1, s1, rfl, I1, I1.call' (ch := []) os un hok bare (fun b z => absurd z (by simp)), fly, hE⟩
  | ok fl =>
    cases fl with
    | ret u =>
      obtain ⟨v, H2, I2, rv, qv⟩ := I1.after hq
      exact ⟨σ, H2, I2, qv⟩
    | next => exact False.elim hq
    | brk => exact False.elim hq
    | cont => exact False.elim hq
noncomputable def hdl (X : Cx) (a : Addr) : Cx := { X with A := X.A.mark (some (.ref a)), calm := false, xe := fun _ _ => False }
section
variable {X : Cx} {pins : List (Addr × Obj)} {σ : L2.St} {H : Hp} {s : Shared}
theorem inHdl (I : Inv X pins σ H s) (a : Addr) : Inv (hdl X a) pins σ H s :=
  ⟨⟨I.ok.mod, I.ok.kind, I.ok.glob, I.ok.blt, I.ok.above, I.ok.inj, I.ok.has, I.ok.cab, fun z => absurd (show false = true from z) Bool.false_ne_true, I.ok.frames, I.ok.stk, I.ok.exf, I.ok.bs, I.ok.bsz, I.ok.noex, I.ok.exfs, I.ok.funs, I.ok.frf⟩,
    I.os, I.bare, I.base, I.loc, I.cell, I.free, I.freeC, I.pin, I.hok, I.len⟩
theorem outHdl {a : Addr} (I : Inv (hdl X a) pins σ H s) (ok : X.Ok) : Inv X pins σ H s := ⟨ok, I.os, I.bare, I.base, I.loc, I.cell, I.free, I.freeC, I.pin, I.hok, I.len⟩
noncomputable def more (X : Cx) (l : List Addr) : Cx := { X with ex := X.ex ++ l }
theorem inMore {l : List Addr} (I : Inv X pins σ H s) (hl : ∀ b ∈ l, b ≠ X.env.locals ∧ (∀ x c, X.env.cells.lookup x = some c → c ≠ b) ∧ X.base.get? b = none ∧ b ∉ X.fs) : Inv (more X l) pins σ H s := by
  refine ⟨⟨I.ok.mod, I.ok.kind, I.ok.glob, I.ok.blt, I.ok.above, I.ok.inj, I.ok.has, I.ok.cab, I.ok.hd, I.ok.frames, I.ok.stk, fun b hb => ?_, I.ok.bs, I.ok.bsz, fun b o e hb => ?_, fun b hb => ?_, I.ok.funs, I.ok.frf⟩,
    I.os, I.bare, I.base.mono (fun _ z => z) (fun b z => List.mem_append_left _ z), I.loc, I.cell, I.free, I.freeC, I.pin, I.hok, I.len⟩
  · rcases List.mem_append.mp hb with z | z
    · exact I.ok.exf b z
    · exact ⟨(hl b z).1, (hl b z).2.1⟩
  · rcases List.mem_append.mp hb with z | z
    · exact I.ok.noex b o e z
    · have e' : X.base.get? b = some o := e
      rw [(hl b z).2.2.1] at e'
      cases e'
  · rcases List.mem_append.mp hb with z | z
    · exact I.ok.exfs b z
    · exact (hl b z).2.2.2
theorem outMore {l : List Addr} (I : Inv (more X l) pins σ H s) (ok : X.Ok) (hl : ∀ b ∈ l, X.s₀.heap.get? b = none) : Inv X pins σ H s := by
  have nl : ∀ b o, X.s₀.heap.get? b = some o → b ∉ X.ex → b ∉ (more X l).ex := fun b o q nx z => by
    rcases List.mem_append.mp z with z | z
    · exact nx z
    · rw [hl b z] at q
      cases q
  exact ⟨ok, I.os, I.bare, ⟨fun b o q n h1 h2 => I.base.keep b o q n h1 (nl b o q h2), fun b o q n h1 h2 => I.base.slot b o q n h1 (nl b o q h2), fun b o q n h2 => I.base.free b o q n (nl b o q h2), fun b o q h2 => I.base.there b o q (nl b o q h2), I.base.tups, I.base.frzs, I.base.tbls⟩,
    I.loc, I.cell, I.free, I.freeC, I.pin, I.hok, I.len⟩
theorem landed {H1 : Hp} {s1 : Shared} {a T : Addr} {B h2 : Heap} (hex : X.ex = []) (I0 : Inv X pins σ H1 s1) (I : Inv X pins σ H s) (h0a : s1.heap.get? a = none) (h0T : s1.heap.get? T = none) (ha : H a = none) (hT : H T = none)
    (cov : ∀ b o, s.heap.get? b = some o → b ∉ frs X.stack → b ≠ a → b ≠ T → B.get? b = some o) (stay : B.StaysIn h2) (up : s.heap.UpToSlots h2) : Inv X pins σ H { s with heap := h2 } := by
  have ne1 : ∀ b o, s1.heap.get? b = some o → b ≠ a ∧ b ≠ T := fun b o q => ⟨(fun z => by rw [z, h0a] at q; cases q), (fun z => by rw [z, h0T] at q; cases q)⟩
  have cond : ∀ b ∈ [a, T], b ≠ X.env.locals ∧ (∀ x c, X.env.cells.lookup x = some c → c ≠ b) ∧ X.base.get? b = none ∧ b ∉ X.fs := fun b hb => by
    have hb' : b = a ∨ b = T := by simpa using hb
    have nb : ∀ c o, s1.heap.get? c = some o → c ≠ b := fun c o q => by
      rcases hb' with rfl | rfl
      · exact (ne1 c o q).1
      · exact (ne1 c o q).2
    refine ⟨?_, fun x c e => ?_, ?_, fun z => ?_⟩
    · obtain ⟨m, ⟨o, _, _, q, _⟩, _⟩ := I0.loc
      exact (nb _ o q).symm
    · obtain ⟨v, o, q, _⟩ := I0.cell x c e
      exact nb c o q
    · cases q : X.base.get? b with
      | none => rfl
      | some o => exact absurd rfl (nb b o (I0.bk b o q))
    · obtain ⟨_, o, q, _⟩ := I0.funs.mem z
      exact absurd rfl (nb b o q)
  have tr : ∀ c u, H c = some u → c ∉ frs X.stack ∧ c ≠ a ∧ c ≠ T := fun c u e => by
    refine ⟨fun z => ?_, fun z => ?_, fun z => ?_⟩
    · have := I.stkFree c z
      rw [e] at this
      cases this
    · rw [z, ha] at e
      cases e
    · rw [z, hT] at e
      cases e
  have ks : ∀ b o, s.heap.get? b = some o → b ∈ frs X.stack → ∃ sl, h2.get? b = some { o with slots := sl } := fun b o q hb => by
    obtain ⟨_, o', q', hd⟩ := I.stack.mem hb
    rw [q] at q'
    cases q'
    exact up b o q hd
  have U : Un (frs X.stack) [a, T] H H s.heap h2 := by
    refine ⟨fun b o q _ h1 h3 => stay b o (cov b o q h1 (fun z => h3 (by simp [z])) fun z => h3 (by simp [z])), fun b o q _ h1 _ => ks b o q h1, fun _ _ _ n _ => n, fun b o q h3 => ?_, fun _ _ q => q, fun _ _ _ q => q, fun b ps q => ⟨#[], by rw [q]; simp⟩⟩
    by_cases hb : b ∈ frs X.stack
    · obtain ⟨sl, q2⟩ := ks b o q hb
      exact ⟨_, q2⟩
    · exact ⟨o, stay b o (cov b o q hb (fun z => h3 (by simp [z])) fun z => h3 (by simp [z]))⟩
  have hok : HOk X.prog X.w H h2 := fun b ob q => by
    refine (I.hok b ob q).stay (fun c u hc qc => ?_) (fun _ z => z) fun _ _ z => z
    have t : c ∉ frs X.stack ∧ c ≠ a ∧ c ≠ T := by
      rcases hc with rfl | hc
      · exact tr c ob q
      · exact tr c _ hc
    exact stay c u (cov c u qc t.1 t.2.1 t.2.2)
  have I2 := (inMore I cond).call' (s' := { s with heap := h2 }) (ch := [a, T]) rfl U hok I.bare (fun b hb => ⟨.inl (List.mem_append_right _ hb), (cond b hb).1, (cond b hb).2.1, fun p hp z => ?_⟩)
  · refine outMore I2 I.ok fun b hb => ?_
    have hb' : b = a ∨ b = T := by simpa using hb
    cases q : X.s₀.heap.get? b with
    | none => rfl
    | some o =>
      obtain ⟨o', q1⟩ := I0.base.there b o q (by rw [hex]; simp)
      rcases hb' with rfl | rfl
      · exact absurd rfl (ne1 _ _ q1).1
      · exact absurd rfl (ne1 _ _ q1).2
  · have hb' : b = a ∨ b = T := by simpa using hb
    have q := (I0.pin p hp).1
    rcases hb' with rfl | rfl
    · exact (ne1 _ _ q).1 z
    · exact (ne1 _ _ q).2 z
noncomputable def ExcAt (a : Addr) (C : Value) (h : Heap) : Prop := ∃ o, h.get? a = some o ∧ o.cls = C
theorem tracked {a : Addr} {C : Value} (I : Inv X pins σ H s) (ha : H a = none) (hs : X.s₀.heap.get? a = none) (hx : ExcAt a C s.heap) (hL : a ≠ X.env.locals) (hc : ∀ x c, X.env.cells.lookup x = some c → c ≠ a) (hp : ∀ p ∈ X.pn ++ pins, p.1 ≠ a) :
    Inv X pins σ (upd H a (.ext (ExcAt a C))) s := by
  have ne : ∀ b u, H b = some u → b ≠ a := fun b u q z => by rw [z, ha] at q; cases q
  refine ⟨I.ok, I.os, I.bare, ⟨I.base.keep, I.base.slot, fun b o q n h2 => ?_, I.base.there, fun b xs q => ?_, fun b o u q => ?_, fun b ps q => ?_⟩, I.loc, I.cell, ?_, fun x c e => ?_, fun p hq => ?_, fun b ob q => ?_, I.len⟩
  · rw [upd_ne (fun z => by rw [z, hs] at q; cases q)]
    exact I.base.free b o q n h2
  · have q1 := I.base.tups b xs q
    rw [upd_ne (ne b _ q1)]
    exact q1
  · have q1 := I.base.frzs b o u q
    rw [upd_ne (ne b _ q1)]
    exact q1
  · obtain ⟨mr, q1⟩ := I.base.tbls b ps q
    exact ⟨mr, by rw [upd_ne (ne b _ q1)]; exact q1⟩
  · rw [upd_ne hL.symm]
    exact I.free
  · rw [upd_ne (hc x c e)]
    exact I.freeC x c e
  · obtain ⟨q1, q2, q3⟩ := I.pin p hq
    exact ⟨q1, by rw [upd_ne (hp p hq)]; exact q2, q3⟩
  · by_cases hb : b = a
    · subst hb
      rw [upd_same] at q
      cases q
      obtain ⟨o, e1, e2⟩ := hx
      refine ⟨⟨o, e1, e2⟩, ⟨o, e1⟩, fun h1 h2 ⟨o1, e3, e4⟩ k => ⟨o1, k o1 e3, e4⟩⟩
    · rw [upd_ne hb] at q
      exact (I.hok b ob q).stay (fun _ _ _ z => z) (fun c z => by rw [upd_ne (ne c _ z)]; exact z) fun c xs z => by rw [upd_ne (ne c _ z)]; exact z
theorem unnamed {i : Nat} {n : Str} {v : Option Value} {m : Str → Option Value} {h2 : Heap} {tk : Nat} (I : Inv X pins σ H s) (hN : X.N.Nodup) (hi : X.N[i]? = some n)
    (hl : ∀ (j : Nat) (x : Str) (y : V), X.N[j]? = some x → σ[j]? = some (some y) → Vis X.env.scope x → ∃ u, RelV y u ∧ Look X.env s.heap m x u)
    (n2 : h2.Ns X.env.locals (fun x => if x = n then v else m x)) (sb : Heap.SameBut X.env.locals s.heap h2) : Inv X pins (σ.set i none) H { s with heap := h2, toks := tk } := by
  have neL : ∀ b o, X.s₀.heap.get? b = some o → b ≠ X.env.locals := fun b o q z => by
    rw [z] at q
    exact absurd (Nat.lt_of_lt_of_le (Heap.lt_size q) I.ok.above) (Nat.lt_irrefl _)
  refine ⟨I.ok, I.os, I.bare, ⟨fun b o q k h1 h3 => ?_, fun b o q k h1 h3 => ?_, I.base.free, fun b o q h3 => ?_, I.base.tups, I.base.frzs, I.base.tbls⟩, ⟨_, n2, fun j x y e1 e2 e3 => ?_⟩, fun x c e => ?_, I.free, I.freeC, fun p hp => ?_, fun b ob q => ?_, by rw [List.length_set]; exact I.len⟩
  · rw [show ({ s with heap := h2, toks := tk } : Shared).heap.get? b = s.heap.get? b from sb.2 b (neL b o q)]
    exact I.base.keep b o q k h1 h3
  · obtain ⟨sl, q1⟩ := I.base.slot b o q k h1 h3
    exact ⟨sl, by rw [show ({ s with heap := h2, toks := tk } : Shared).heap.get? b = s.heap.get? b from sb.2 b (neL b o q)]; exact q1⟩
  · obtain ⟨o', q1⟩ := I.base.there b o q h3
    exact ⟨o', by rw [show ({ s with heap := h2, toks := tk } : Shared).heap.get? b = s.heap.get? b from sb.2 b (neL b o q)]; exact q1⟩
  · have hj : j ≠ i := fun z => by
      subst z
      by_cases hlt : j < σ.length
      · rw [List.getElem?_set_self hlt] at e2
        cases e2
      · rw [List.getElem?_eq_none (by rw [List.length_set]; (first | lia | omega))] at e2
        cases e2
    rw [List.getElem?_set_ne (Ne.symm hj)] at e2
    have hx : x ≠ n := fun z => hj (nodup_ix hN e1 (z ▸ hi))
    obtain ⟨u, ru, lk⟩ := hl j x y e1 e2 e3
    refine ⟨u, ru, ?_⟩
    rcases lk with ⟨k1, k2⟩ | ⟨k1, c, k2, k3⟩
    · exact .inl ⟨k1, by show (if x = n then v else m x) = some u; rw [if_neg hx]; exact k2⟩
    · exact .inr ⟨k1, c, k2, k3.sameBut sb (I.cne x c k2)⟩
  · obtain ⟨u, z⟩ := I.cell x c e
    exact ⟨u, z.sameBut sb (I.cne x c e)⟩
  · obtain ⟨q1, q2, q3, q4⟩ := I.pin p hp
    exact ⟨(sb.2 p.1 q3).trans q1, q2, q3, q4⟩
  · refine (I.hok b ob q).stay (fun c u hc qc => (sb.2 c fun z => ?_).trans qc) (fun _ z => z) fun _ _ z => z
    have hf := I.free
    rcases hc with z2 | z2
    · rw [← z, z2, q] at hf
      cases hf
    · rw [← z, z2] at hf
      cases hf
end
noncomputable def unb (i : Nat) (D : Ends) : Ends := { nx := fun σ H => D.nx (σ.set i none) H, rt := D.rt, bk := fun σ H => D.bk (σ.set i none) H, ct := fun σ H => D.ct (σ.set i none) H }
noncomputable def tTry (K : PySem.W.Frag) (C0 : Addr) (i : Nat) (tb : (Value → L2.St → Hp → Prop) → TS) (ts : Addr → TS) : TS := fun D σ H =>
  tb (fun C σ' H' => PySem.W.exmOne K C (.ref C0) = some true ∧ ∀ a, H' a = none → ts a (unb i D) (σ'.set i (some (.ref a))) (upd H' a (.ext (ExcAt a C)))) D σ H
theorem ps_try {X : Cx} {st b0 : Stmt} {x n : Str} {np hpos pos : Pos} {suite : List Stmt} {C0 : Addr} {tb : (Value → L2.St → Hp → Prop) → TS} {ts : Addr → TS} (i : Nat) (hb : PSx X st tb) (hm : X.mg x = some (.ref C0)) (hs : ∀ a, PSs (hdl X a) (b0 :: suite) (ts a))
    (hN : X.N.Nodup) (hi : X.N[i]? = some n := by rfl) (hn : X.env.scope.names.lookup n = some .local := by rfl) (hg : Gl X x := by rfl) (hst : X.stack = X.env :: X.outer := by rfl) (hfr : X.env.frame = some X.env.locals := by rfl) (hex : X.ex = [] := by rfl) (hd : (x == ("__debug__" : Str)) = false := by decide) :
    PS X (.Try [st] [.ExceptHandler (some (.Name x np)) (some n) (b0 :: suite) hpos] [] [] pos) (tTry X.K C0 i tb ts) := by
  intro pins s σ H D I h
  refine wpAny_Try_except (wpAny_execs_cons (wpAny_mono (hb pins s σ H D _ I h) (fun fl s1 q => ?_) (fun e s1 q => ?_)))
  · cases fl with
    | next => exact wpAny_execs_nil (wpAny_execs_nil q)
    | ret v => exact q
    | brk => exact q
    | cont => exact q
  · obtain ⟨a, C, σ1, H1, H0, s0, rfl, I0, I1, fly, hx, hk⟩ := q
    obtain ⟨B, T, a0, fl, cov, ha, hT, h0a, h0T⟩ := fly.ex
    have fl' : Heap.FlyingW B (X.env :: X.outer) a C a0 s1.heap := by rw [← hst]; exact fl
    refine wpAny_looks_onW (by rw [← hst]; exact I1.ok.frames) hfr fl' fun h4 held4 up4 => ?_
    refine wpAny_landsW held4 fun h5 fl5 up5 => ?_
    have I5 := landed hex I0 I1 h0a h0T ha hT cov fl5.1 (up4.trans up5)
    refine wpAny_handleBy_cons (codeAny_handlers_test (ld_glob (X := hdl X a) (inHdl I5 a) hg hm ?_ hd)) (by intro q; cases q)
    obtain ⟨oe, hoe, hoc⟩ := fl5.there
    have LT : PySem.W.Looks (model X.prog X.w) h5 (typeOf (.ref a)) C := hoc ▸ (PySem.W.Looks.ld hoe).andThen .now
    refine (PySem.W.exm_one I5.kIn LT hx) _ _ _ _ (fun _ _ q => q) ?_
    refine codeAny_handlers_suite_as (lands_againW fl5 fun h6 fl6 up6 => ?_)
    have I6 := landed hex I0 I1 h0a h0T ha hT cov fl6.1 ((up4.trans up5).trans up6)
    obtain ⟨oe6, hoe6, hoc6⟩ := fl6.there
    have ne0 : ∀ b o, s0.heap.get? b = some o → b ≠ a := fun b o q z => by rw [z, h0a] at q; cases q
    have I7 := tracked (a := a) (C := C) I6 ha (by
        cases q : X.s₀.heap.get? a with
        | none => rfl
        | some o =>
          obtain ⟨o', q1⟩ := I0.base.there a o q (by rw [hex]; simp)
          exact absurd rfl (ne0 a o' q1)) ⟨oe6, hoe6, hoc6⟩ (by
        obtain ⟨m, ⟨o, _, _, q, _⟩, _⟩ := I0.loc
        exact (ne0 _ o q).symm) (fun y c e => by
        obtain ⟨v, o, q, _⟩ := I0.cell y c e
        exact ne0 c o q) (fun p hp => ne0 _ _ (I0.pin p hp).1)
    refine store_ok (X := hdl X a) (inHdl I7 a) hN hi (.inl hn) (v := .ref a) rfl (fun s8 I8 => ?_) (.inr hn)
    refine wpAny_mono (hs a pins s8 _ _ _ I8 (hk a ha)) (fun f9 s9 q9 => ?_) (fun _ _ z => False.elim z)
    have gone : ∀ σ9 H9, Inv X pins σ9 H9 s9 → (∀ s10, Inv X pins (σ9.set i none) H9 s10 → SP X pins D f9 s10) →
        wpAny (model X.prog X.w) X.A (do bindName X.env n .none; unbindBehindTheSuite X.env n hpos) (fun _ s10 => SP X pins D f9 s10) X.xe s9 := fun σ9 H9 I9 k => by
      obtain ⟨m9, n9, l9⟩ := I9.loc
      exact wpAny_nameGoes_keeps hn n9 (by rw [I9.ok.kind]; rfl) fun h10 v n10 sb10 => k _ (unnamed I9 hN hi l9 n10 sb10)
    cases f9 with
    | next =>
      obtain ⟨σ9, H9, I9, z⟩ := q9
      exact gone σ9 H9 (outHdl I9 I.ok) fun s10 I10 => ⟨_, H9, I10, z⟩
    | brk =>
      obtain ⟨σ9, H9, I9, z⟩ := q9
      exact gone σ9 H9 (outHdl I9 I.ok) fun s10 I10 => ⟨_, H9, I10, z⟩
    | cont =>
      obtain ⟨σ9, H9, I9, z⟩ := q9
      exact gone σ9 H9 (outHdl I9 I.ok) fun s10 I10 => ⟨_, H9, I10, z⟩
    | ret u =>
      obtain ⟨v, σ9, H9, I9, rv, z⟩ := q9
      exact gone σ9 H9 (outHdl I9 I.ok) fun s10 I10 => ⟨v, _, H9, I10, rv, z⟩
end L3

namespace L3
open PySem PySem.Spec PyProof.Rows L2 Ra
noncomputable def eqVs (xs ys : List V) : Bool := (List.range xs.length).all fun j => eqV (xs.getD j .non) (ys.getD j .non)
section
variable {X : Cx}
noncomputable def rEqL (K : PySem.W.Frag) (neg : Bool) : R2 := fun x y H Q => ∃ a b xs ys, x = .ref a ∧ y = .ref b ∧ SqL K H a xs ∧ SqL K H b ys ∧ xs.length = ys.length ∧ xs.all flatV = true ∧ ys.all flatV = true ∧ Q (.bl (if neg then !eqVs xs ys else eqVs xs ys)) H
end
end L3
namespace L3
open PySem
theorem exm_of {K : PySem.W.Frag} {c d : Addr} (h1 : PySem.W.subIn K (.ref d) (.type "BaseException") = some true) (h2 : PySem.W.kitOne K (.ref c) (.ref d) = some true) (h3 : (Value.ref c == .ref d) = false) : PySem.W.exmOne K (.ref c) (.ref d) = some true := by
  unfold PySem.W.exmOne
  rw [h1, if_pos (by rfl)]
  unfold PySem.W.kitOne at h2
  rw [h3, if_neg (by decide)] at h2
  exact h2
end L3

namespace L3
open PySem PySem.Spec PySem.Calls PyProof.Rows L2 Ra Builtin Builtin.ObjectAttr Builtin.Getset_descriptor
structure ExcCls (K : PySem.W.Frag) (D : Addr) : Prop where
  is : PySem.W.isClsIn K D = true
  ga : PySem.W.findIn K (.ref D) "__getattribute__" = some (some (.builtin "BaseException.__getattribute__"))
  no : PySem.W.findIn K (.ref D) "__getattr__" = some none
  cl : PySem.W.findIn K (.ref D) "__class__" = some (some (.builtin "object.__class__"))
  mb : PySem.W.mroIn K D (.type "BaseException") = some true
  mo : PySem.W.mroIn K D (.type "object") = some true
section
variable {prog : Program} {w : World} {A : Around} {E : Value → Shared → Prop} {h : Heap} {g : Array GenState} {d : Drawn} {t : Nat} {os : OsState} {a D : Addr} {K : PySem.W.Frag}
theorem exc_get {R : Result → Shared → Prop} {tp : Value} (X : K.In h) (L0 : PySem.W.Looks (model prog w) h (typeOf (.ref a)) (.ref D)) (B : ExcCls K D) (hq : R (.ok (.ret (.ref D))) ⟨h, g, d, t, os⟩) :
    codeAny (model prog w) A (.call (.builtin "getset_descriptor.__get__") ⟨[.builtin "object.__class__", .ref a, tp], []⟩) R ⟨h, g, d, t, os⟩ := by
  have L1 := PySem.W.looks_mroIn (M := model prog w) X B.mo
  refine codeAny_call_builtin PySem.W.KF.slot_gs.plain PySem.W.KF.entry_gs ?_
  refine PySem.W.KF.slot_gs.check _ _ _ _ _ _ _ _ PySem.W.KF.type_class (PySem.W.KF.args_gs _ _ _) ?_
  unfold Builtin.«getset_descriptor.__get__» descrGet
  rw [PySem.W.dga_obj]
  refine wpAny_bind (wpAny_pure ?_)
  unfold descrGetter descrCheckInstance descrNameAndClass isInstance
  simp only [PySem.W.KF.owner_class]
  repeat lk
  refine ⟨Code.quiet_builtin _ (by decide +kernel), codeAny_builtin PySem.W.KF.entry_class ?_⟩
  unfold Builtin.«object.__class__» shownTypeOf
  repeat lk
  exact hq
theorem exc_check {M : Model} {nameV : Value} {Q : Unit → Shared → Prop} {o : Obj} (X : K.In h) (hx : h.get? a = some o) (hc : o.cls = .ref D) (B : ExcCls K D) (hq : Q () ⟨h, g, d, t, os⟩) :
    wpAny M A (checkBuiltinCall "BaseException.__getattribute__" ⟨[.ref a, nameV], []⟩) Q E ⟨h, g, d, t, os⟩ := by
  have L1 := PySem.W.looks_mroIn (M := M) X B.mb
  have k1 : builtinKind "BaseException.__getattribute__" = some .slot := by decide +kernel
  have k2 : splitId "BaseException.__getattribute__" = some ("BaseException", "__getattribute__") := by decide +kernel
  have k3 := F.args_bexc_ga (.ref a) nameV
  simp only [checkBuiltinCall, k1, k2]
  refine wpAny_bind ?_
  unfold isInstance
  repeat (first | (with_reducible refine wpAny_loadPart_at hx ?_; rw [hc]) | with_reducible refine L1.here ?_ | wp_step)
  exact hq
theorem exc_entry {tk : Tok} {Q : Fin → Shared → Prop} {o : Obj} (X : K.In h) (hx : h.get? a = some o) (hc : o.cls = .ref D) (B : ExcCls K D) (hq : Q (.done (.ret (.ref D))) ⟨h, g, d, t, os⟩) :
    wpAny (model prog w) A (Builtin.«object.__getattribute__» ⟨[.ref a, .str "__class__" tk], []⟩) Q E ⟨h, g, d, t, os⟩ := by
  have t5 : (⟨h, g, d, t, os⟩ : Shared).TypeIs (.builtin "object.__class__") "getset_descriptor" := F.typeOf_object_class
  have t6 := F.slot_gs_get.lookup
  have t7 := F.slot_gs_set.lookup
  have L1 := PySem.W.looks_findIn (M := model prog w) X B.cl
  repeat (any_goals (first | assumption | (with_reducible refine wpAny_loadPart_at hx ?_; rw [hc]) | with_reducible refine L1.here ?_ | wp_step))
  refine exc_get X (hc ▸ (PySem.W.Looks.ld hx).andThen .now) B ?_
  repeat (any_goals (first | assumption | wp_step))
theorem exc_by {tk : Tok} {fill expr : Bool} {Q : Value → Shared → Prop} {o : Obj} (X : K.In h) (hx : h.get? a = some o) (hc : o.cls = .ref D) (B : ExcCls K D) (hq : Q (.ref D) ⟨h, g, d, t, os⟩) :
    wpAny (model prog w) A (getAttrBy (.ref a) (.str "__class__" tk) fill expr) Q E ⟨h, g, d, t, os⟩ := by
  have f3 := F.attr_ValueError.ga.bind (.ref a)
  have x0 : (expr && onTheHeap (Value.builtin "BaseException.__getattribute__")) = false := by cases expr <;> rfl
  have x2 : (Value.builtin "BaseException.__getattribute__" == Value.builtin "object.__getattribute__") = false := by decide +kernel
  have x1 : (onTheHeap (Value.ref D) && Value.builtin "BaseException.__getattribute__" == Value.builtin "object.__getattribute__") = false := by rw [x2]; rfl
  have L1 := PySem.W.looks_findIn (M := model prog w) X B.ga
  have L2 := PySem.W.looks_findIn (M := model prog w) X B.no
  repeat (any_goals (first | assumption | (with_reducible refine wpAny_loadPart_at hx ?_; rw [hc]) | with_reducible refine L1.here ?_ | with_reducible refine L2.here ?_ | wp_step))
  refine codeAny_call_builtin F.attr_ValueError.ga.plain F.entry_bexc_ga (exc_check X hx hc B (exc_entry X hx hc B ?_))
  repeat (any_goals (first | assumption | wp_step))
theorem exc_class {Q : Option Value → Shared → Prop} {o : Obj} (X : K.In h) (hx : h.get? a = some o) (hc : o.cls = .ref D) (B : ExcCls K D) (hq : Q (some (.ref D)) ⟨h, g, d, t + 1, os⟩) :
    wpAny (model prog w) A (getAttr? (.ref a) "__class__") Q E ⟨h, g, d, t, os⟩ := by
  unfold getAttr? getAttrBy?
  repeat (any_goals (first | assumption | with_reducible apply exc_by X hx hc B | wp_step))
theorem kitx_exc (B : ExcCls K D) : PySem.W.KitX K (.ref a) (.ref D) (ExcAt a (.ref D)) where
  ty := fun M h _ p => by
    obtain ⟨o, e1, e2⟩ := p
    exact e2 ▸ (PySem.W.Looks.ld e1).andThen .now
  it := fun M h X _ => by
    have z := B.is
    unfold PySem.W.isClsIn at z
    cases q : PySem.W.clsIn K D with
    | none => rw [q] at z; cases z
    | some cd =>
      unfold PySem.W.clsIn at q
      split at q
      · rename_i look
        intro A' Q' E' s' k q'
        unfold isType loadHead
        exact wpAny_bind (wpAny_loadPart (k _ _ (X _ _ look)) (wpAny_pure q'))
      · cases q
  ne := fun h tp dd its n sl X htp => by
    have z := B.is
    unfold PySem.W.isClsIn at z
    refine Bool.eq_false_iff.mpr fun e => ?_
    have e' : D = tp := Value.ref.inj (beq_iff_eq.mp e)
    subst e'
    cases q : PySem.W.clsIn K D with
    | none => rw [q] at z; cases z
    | some cd =>
      unfold PySem.W.clsIn at q
      split at q
      · rename_i look
        cases (X _ _ look).symm.trans htp
      · cases q
  ca := fun {prog w A E Q s} X p k => by
    obtain ⟨h, g, d, t, os⟩ := s
    obtain ⟨o, e1, e2⟩ := p
    exact exc_class X e1 e2 B k
end
section
variable {X : Cx}
noncomputable def clsV : V → Option Value
  | .ref a => some (.ref a)
  | .ty n => some (.type n)
  | _ => none
theorem call_isiE : CallR X (.builtin "isinstance") (fun xs H Q => ∃ x c u D b, xs = [.ref x, c] ∧ clsV c = some u ∧ H x = some (.ext (ExcAt x (.ref D))) ∧ ExcCls X.K D ∧ PySem.W.kitOne X.K (.ref D) u = some b ∧ Q (.bl b) H) := by
  intro pins s σ H xs us Q I r h
  obtain ⟨x, c, u, D, b, rfl, rc, hx, B, e, q⟩ := h
  obtain ⟨u1, u2, rfl, rx, rt⟩ := vals2 r
  cases rx
  have eu : u2 = u := by
    cases c with
    | ref C =>
      cases rc
      exact rt
    | ty n =>
      cases rc
      exact rt
    | _ => cases rc
  subst eu
  obtain ⟨p, _, _⟩ := (show ObjOk X.prog X.w H s.heap x (.ext (ExcAt x (.ref D))) from I.hok x _ hx)
  exact PySem.W.kia_one (kitx_exc B) I.kIn p e (fun z => nomatch z) fun tk => ⟨.bl b, H, I.tok _, rfl, q⟩
end
end L3

namespace L3
open PySem PySem.Spec PyProof.Rows L2 Ra
section
variable {X : Cx}
end
end L3

namespace L3
open PySem PySem.Spec PyProof.Rows L2 Ra
theorem ff_tail {h base : Heap} {env : Env} {outer : List Env} (F : h.FunFrames base (env :: outer)) : h.FunFrames base outer := F.2.2
theorem ff_mono {h h' base base' : Heap} (hb : ∀ b, base.get? b = none → base'.get? b = none) : ∀ {l : List Env}, (∀ b o, b ∈ frs l → h.get? b = some o → ∃ sl, h'.get? b = some { o with slots := sl }) → h.FunFrames base l → h'.FunFrames base' l
  | [], _, _ => trivial
  | env :: rest, hk, F => by
    obtain ⟨k, ⟨L, o, f1, f2, f3, f4⟩, r⟩ := F
    have mL : L ∈ frs (env :: rest) := List.mem_filterMap.mpr ⟨env, by simp, f1⟩
    obtain ⟨sl, e⟩ := hk L o mL f3
    refine ⟨k, ⟨L, _, f1, hb _ f2, e, f4⟩, ff_mono hb (fun b o hb' q => hk b o ?_ q) r⟩
    obtain ⟨en, m, f⟩ := List.mem_filterMap.mp hb'
    exact List.mem_filterMap.mpr ⟨en, by simp [m], f⟩
theorem upto_trans {h1 h2 h3 : Heap} (a : h1.UpToSlots h2) (b : h2.UpToSlots h3) : h1.UpToSlots h3 := fun c o q n => by
  obtain ⟨sl, q2⟩ := a c o q n
  obtain ⟨sl', q3⟩ := b c _ q2 n
  exact ⟨sl', q3⟩
theorem upd_rec {h : Heap} {T : Addr} {oT : Obj} {ts : Array Value} {v : Value} (hT : h.get? T = some oT) (hd : oT.data = .fields ts) : (∀ b, b ≠ T → (h.update T (Obj.mapFields fun x => x.setIfInBounds 3 v)).get? b = h.get? b) ∧ h.UpToSlots (h.update T (Obj.mapFields fun x => x.setIfInBounds 3 v)) ∧ (3 < ts.size → ∃ oT' ts', (h.update T (Obj.mapFields fun x => x.setIfInBounds 3 v)).get? T = some oT' ∧ oT'.data = .fields ts' ∧ ts'[3]? = some v) := by
  have other : ∀ b, b ≠ T → (h.update T (Obj.mapFields fun x => x.setIfInBounds 3 v)).get? b = h.get? b := fun b hb => Heap.get?_update_other h (Obj.mapFields fun x => x.setIfInBounds 3 v) (Ne.symm hb)
  refine ⟨other, fun b o q n => ?_, fun hs => ?_⟩
  · have ne : b ≠ T := fun z => by
      rw [z, hT] at q
      cases q
      exact n ts hd
    exact ⟨o.slots, by rw [other b ne, q]⟩
  · obtain ⟨c, d, da, sl⟩ := oT
    dsimp only at hd
    subst hd
    have e := Heap.get?_update_self (Obj.mapFields fun x => x.setIfInBounds 3 v) hT rfl
    exact ⟨_, _, e, rfl, by simp [hs]⟩
theorem leave_at {M : Model} {A : Around} {E : Value → Shared → Prop} {s : Shared} {base : Heap} {env : Env} {outer : List Env} {L e : Addr} {cls a0 fl : Value} {Q : Unit → Shared → Prop} (hfr : A.frames = some (env :: outer)) (hf : env.frame = some L) (hst : base.StaysIn s.heap) (hen : base.get? e = none) (hff : s.heap.FunFrames base (env :: outer)) (ht : s.heap.TracedAtW base e cls a0 fl)
    (h : ∀ h', base.FlyingW outer e cls a0 h' → s.heap.UpToSlots h' → Q () { s with heap := h' }) : wpAny M A (leaving env (.ref e)) Q E s := by
  by_cases c : fl = rawInt ↑L
  · subst c
    exact wpAny_bind (wpAny_noteFrame_againW hf ht (wpAny_landsW (l := env :: outer) ⟨hst, hen, hff, ht⟩ fun h' f' up => h h' ⟨f'.1, f'.2.1, ff_tail f'.2.2.1, f'.2.2.2⟩ up))
  · obtain ⟨oe, vs, T, oT, ts, he, ⟨hc, h0⟩, hd, h1, hnT, hTe, hT, hdT, h3⟩ := ht
    obtain ⟨other, up1, _⟩ := upd_rec (v := .none) hT hdT
    refine wpAny_bind ?_
    simp only [noteFrame, hf]
    refine wpAny_bind (wpAny_field he hd h1 ?_)
    rw [if_pos (by simp)]
    refine wpAny_bind (wpAny_field hT hdT h3 ?_)
    rw [if_neg (by simpa using c)]
    refine wpAny_bind (wpAny_setField hT hdT (Array.getElem?_eq_some_iff.mp h3).1 ?_)
    refine wpAny_newEntryW hfr (Heap.FunFrames.of_keeps (fun b o hb hnf => ?_) hff) hf ((other e (Ne.symm hTe)).trans he) (fun b o hbo => ?_) hen hd (Array.getElem?_eq_some_iff.mp h1).1 h0 fun h' left => ?_
    · obtain ⟨sl, q⟩ := up1 b o hb hnf
      exact ⟨_, q, rfl⟩
    · rw [← hst b o hbo]
      refine other b fun z => ?_
      rw [z, hnT] at hbo
      cases hbo
    · obtain ⟨l1, l2, l3, l4⟩ := left
      rw [hc] at l3
      exact h h' ⟨l1, hen, ff_tail l2, l3⟩ (upto_trans up1 l4)
theorem pass_at {α : Type} {M : Model} {A : Around} {E : Value → Shared → Prop} {s : Shared} {base : Heap} {l : List Env} {e : Addr} {cls a0 fl : Value} {what : String} {cenv : Env} {Q : α → Shared → Prop} (hst : base.StaysIn s.heap) (hff : s.heap.FunFrames base l) (ht : s.heap.TracedAtW base e cls a0 fl)
    (h : ∀ h' fl', base.StaysIn h' → h'.FunFrames base l → h'.TracedAtW base e cls a0 fl' → s.heap.UpToSlots h' → E (.ref e) { s with heap := h' }) : wpAny M A (PySem.passOn what (.ref e) cenv) Q E s := by
  obtain ⟨oe, vs, T, oT, ts, he, ⟨hc, h0⟩, hd, h1, hnT, hTe, hT, hdT, h3⟩ := ht
  have lt := (Array.getElem?_eq_some_iff.mp h3).1
  simp only [PySem.passOn]
  refine wpAny_bind (wpAny_field he hd h1 ?_)
  rw [if_neg (by simp)]
  refine wpAny_bind ?_
  simp only [setFlight]
  refine wpAny_bind (wpAny_field he hd h1 ?_)
  rw [if_pos (by simp)]
  refine wpAny_setField hT hdT lt ?_
  obtain ⟨other, up1, new⟩ := upd_rec (v := cenv.frame.elim Value.none fun f => rawInt ↑f) hT hdT
  obtain ⟨oT', ts', q1, q2, q3⟩ := new lt
  refine wpAny_throw (h _ (cenv.frame.elim Value.none fun f => rawInt ↑f) (fun b o hbo => ?_) (Heap.FunFrames.of_keeps (fun b o hb hnf => ?_) hff) ⟨oe, vs, T, oT', ts', (other e (Ne.symm hTe)).trans he, ⟨hc, h0⟩, hd, h1, hnT, hTe, q1, q2, q3⟩ up1)
  · rw [← hst b o hbo]
    refine other b fun z => ?_
    rw [z, hnT] at hbo
    cases hbo
  · obtain ⟨sl, q⟩ := up1 b o hb hnf
    exact ⟨_, q, rfl⟩
section
variable {P : Program} {w : World} {K : PySem.W.Frag} {mg : Str → Option Value} {base : Heap} {N : List Str} {qual : Str} {scope : Scope} {f : Addr} {cd : Value} {A : Around} {outer : List Env} {s : Shared} {H : Hp} {E : XK}
  {pins : List (Addr × Obj)} {σ : L2.St} {H1 : Hp} {s1 s2 : Shared}
theorem pass_comp {csc : Scope} {cl : List (Str × Addr)} {C : Addr} {use : Option (Value → Sem Unit)} {R : Value → Shared → Prop} {acc e : Value} (I : Inv (cxOf (CXe P w) P w K mg base N qual scope f cd A outer s H E) pins σ H1 s1) (hC : FpOk (cxOf (CXe P w) P w K mg base N qual scope f cd A outer s H E) pins H1 C) (ns : ∃ m, s1.heap.Ns C m)
    (h : CXe P w (cxOf (CXe P w) P w K mg base N qual scope f cd A outer s H E).stack H1 s1 E e s2) :
    notedBy (model P w) (cxOf (CXe P w) P w K mg base N qual scope f cd A outer s H E).A (compEnvC csc cl C (cxOf (CXe P w) P w K mg base N qual scope f cd A outer s H E).env) (fun e s' => compPost (model P w) (cxOf (CXe P w) P w K mg base N qual scope f cd A outer s H E).A (cxOf (CXe P w) P w K mg base N qual scope f cd A outer s H E).xe use R acc C (.error e) s') e s2 := by
  obtain ⟨a, Cv, H2, rfl, os, bare, un, hok, fly, hE⟩ := h
  have I2 := I.call' (s' := s2) (ch := []) os un hok bare (fun b z => absurd z (by simp))
  obtain ⟨B, T, a0, fl, cov, ha, hT, h0a, h0T⟩ := fly.ex
  obtain ⟨c0, c1, c2, c3, c4, c5⟩ := hC
  obtain ⟨m, oC, es, ep, eC, dC, kC, fC⟩ := ns
  have cfr : C ∉ frs (envOfC qual scope s.heap.objs.size f cd :: outer) := fun z => by
    rcases List.mem_cons.mp (show C ∈ s.heap.objs.size :: frs outer from z) with z | z
    · exact c1 z
    · exact c2 z
  have nCa : C ≠ a := fun z => by rw [z, h0a] at eC; cases eC
  have nCT : C ≠ T := fun z => by rw [z, h0T] at eC; cases eC
  have eC2 : s2.heap.get? C = some oC := un.keep C oC eC c0 cfr (by simp)
  have H2C : H2 C = none := un.free C oC eC c0 (by simp)
  have sC : s.heap.get? C = none := by
    rcases c3 with z | z
    · exact absurd (show C ∈ ([] : List Addr) from z) (by simp)
    · cases q : s.heap.get? C with
      | none => rfl
      | some o => exact absurd (Nat.lt_of_lt_of_le (Heap.lt_size q) z) (Nat.lt_irrefl _)
  have BC : B.get? C = some oC := cov C oC eC2 cfr nCa nCT
  have nex : ∀ b, b ∉ (cxOf (CXe P w) P w K mg base N qual scope f cd A outer s H E).ex := fun b z => absurd (show b ∈ ([] : List Addr) from z) (by simp)
  have old : ∀ b, s1.heap.get? b = none → s.heap.get? b = none := fun b n => by
    cases q : s.heap.get? b with
    | none => rfl
    | some o =>
      obtain ⟨o', q1⟩ := I.base.there b o q (nex b)
      rw [n] at q1
      cases q1
  show wpAny (model P w) (A.deeper (envOfC qual scope s.heap.objs.size f cd)) (noteFrame (.ref a) (envOfC qual scope s.heap.objs.size f cd)) _ _ s2
  refine wpAny_looks_onW I.ok.frames rfl fl fun h3 held up3 => ?_
  refine ⟨m, ⟨oC, es, ep, held.1 C oC BC, dC, kC, fC⟩, fun h4 sb cenv hcenv => ?_⟩
  -- the base without the block's names
  have bst : (PySem.W.hideAll B [C]).StaysIn h4 := fun b o q => by
    have q' := PySem.W.of_hideAll [C] q
    have ne : b ≠ C := fun z => by
      rw [z, PySem.W.hideAll_none [C] (by simp)] at q
      cases q
    rw [sb.2 b ne]
    exact held.1 b o q'
  have bnone : ∀ b, B.get? b = none → (PySem.W.hideAll B [C]).get? b = none := fun b n => by
    cases q : (PySem.W.hideAll B [C]).get? b with
    | none => rfl
    | some o =>
      rw [PySem.W.of_hideAll [C] q] at n
      cases n
  have ff4 : h4.FunFrames (PySem.W.hideAll B [C]) (envOfC qual scope s.heap.objs.size f cd :: outer) := ff_mono bnone (fun b o hb q => ⟨o.slots, by
    rw [sb.2 b (fun z => cfr (z ▸ hb)), q]⟩) held.2.2.1
  have up34 : ∀ b o, b ≠ C → h3.get? b = some o → h4.get? b = some o := fun b o ne q => by rw [sb.2 b ne]; exact q
  obtain ⟨oe, vs, T1, oT, ts, he, hcl, hd, h1, hnT, hTe, hT1, hdT, h3'⟩ := held.2.2.2
  have nCa' : a ≠ C := Ne.symm nCa
  have nT1 : T1 ≠ C := fun z => by
    rw [z, BC] at hnT
    cases hnT
  have tr4 : h4.TracedAtW (PySem.W.hideAll B [C]) a Cv a0 (rawInt ↑s.heap.objs.size) := ⟨oe, vs, T1, oT, ts, up34 a oe nCa' he, hcl, hd, h1, bnone _ hnT, hTe, up34 T1 oT nT1 hT1, hdT, h3'⟩
  refine pass_at bst ff4 tr4 fun h5 fl5 st5 ff5 tr5 up5 => ?_
  show wpAny (model P w) (A.deeper (envOfC qual scope s.heap.objs.size f cd)) (leaving (envOfC qual scope s.heap.objs.size f cd) (.ref a)) _ _ _
  refine leave_at I.ok.frames rfl st5 (bnone _ fl.2.1) ff5 tr5 fun h6 fl6 up6 => ?_
  have ks : ∀ b o, s2.heap.get? b = some o → b ∈ frs (envOfC qual scope s.heap.objs.size f cd :: outer) → ∃ sl, h6.get? b = some { o with slots := sl } := fun b o q hb => by
    obtain ⟨_, o', q', hd'⟩ := I2.stack.mem hb
    rw [q] at q'
    cases q'
    obtain ⟨sl3, e3⟩ := up3 b o q hd'
    have e4 := up34 b _ (fun z => cfr (z ▸ hb)) e3
    obtain ⟨sl5, e5⟩ := up5 b _ e4 hd'
    obtain ⟨sl6, e6⟩ := up6 b _ e5 hd'
    exact ⟨sl6, e6⟩
  have kk : ∀ b o, s2.heap.get? b = some o → b ∉ frs (envOfC qual scope s.heap.objs.size f cd :: outer) → ¬ (b = a ∨ b = T ∨ b = C) → h6.get? b = some o := fun b o q nb nz => fl6.1 b o (PySem.W.hideAll_get [C] (cov b o q nb (fun z => nz (.inl z)) fun z => nz (.inr (.inl z))) (fun z => nz (.inr (.inr (by simpa using z)))))
  obtain ⟨un6, hok6⟩ := left_un I2 (fun b => b = a ∨ b = T ∨ b = C) (fun b z => by
    rcases z with rfl | rfl | rfl
    · exact ⟨old _ h0a, ha⟩
    · exact ⟨old _ h0T, hT⟩
    · exact ⟨sC, H2C⟩) kk ks
  refine ⟨a, Cv, H2, rfl, I2.os, bare, un6, hok6, Fly.of fl6 ha (old a h0a) fun T2 oT2 ts2 hB hT2 hd2 hne => ⟨?_, ?_⟩, hE⟩
  · cases q : H2 T2 with
    | none => rfl
    | some u =>
      obtain ⟨ob, qo⟩ := got (I2.hok T2 u q)
      have nb : T2 ∉ frs (envOfC qual scope s.heap.objs.size f cd :: outer) := fun z => by
        have := I2.stkFree T2 z
        rw [q] at this
        cases this
      have nT : T2 ≠ T := fun z => by
        rw [z, hT] at q
        cases q
      have nC : T2 ≠ C := fun z => by
        rw [z, H2C] at q
        cases q
      rw [PySem.W.hideAll_get [C] (cov T2 ob qo nb hne nT) (by simpa using nC)] at hB
      cases hB
  · cases q : s.heap.get? T2 with
    | none => rfl
    | some o =>
      obtain ⟨o', q1⟩ := I2.base.there T2 o q (nex T2)
      have nT : T2 ≠ T := fun z => by
        rw [z, old T h0T] at q
        cases q
      have nC : T2 ≠ C := fun z => by
        rw [z, sC] at q
        cases q
      by_cases hb : T2 ∈ frs (envOfC qual scope s.heap.objs.size f cd :: outer)
      · rcases List.mem_cons.mp (show T2 ∈ s.heap.objs.size :: frs outer from hb) with z | z
        · rw [z] at q
          exact absurd (Heap.lt_size q) (Nat.lt_irrefl _)
        · obtain ⟨_, o2, q2, hd3⟩ := fl6.2.2.1.mem z
          rw [hT2] at q2
          cases q2
          exact absurd hd2 (hd3 ts2)
      · rw [PySem.W.hideAll_get [C] (cov T2 o' q1 hb hne nT) (by simpa using nC)] at hB
        cases hB
end
noncomputable def blkE (X : Cx) (csc : Scope) (N' : List Str) (s₀ : Shared) (H₀ : Hp) (C : Addr) (ex : List Addr) (Y : Value → Shared → Prop) : Cx := { blk X csc N' s₀ H₀ C ex with xe := Y }
theorem inv_toE {X : Cx} {csc : Scope} {N' : List Str} {s₀ : Shared} {H₀ : Hp} {C : Addr} {ex : List Addr} {Y : Value → Shared → Prop} {pins : List (Addr × Obj)} {σ : L2.St} {H : Hp} {s : Shared} (I : Inv (blk X csc N' s₀ H₀ C ex) pins σ H s) : Inv (blkE X csc N' s₀ H₀ C ex Y) pins σ H s :=
  ⟨⟨I.ok.mod, I.ok.kind, I.ok.glob, I.ok.blt, I.ok.above, I.ok.inj, I.ok.has, I.ok.cab, I.ok.hd, I.ok.frames, I.ok.stk, I.ok.exf, I.ok.bs, I.ok.bsz, I.ok.noex, I.ok.exfs, I.ok.funs, I.ok.frf⟩, I.os, I.bare, I.base, I.loc, I.cell, I.free, I.freeC, I.pin, I.hok, I.len⟩
theorem inv_ofE {X : Cx} {csc : Scope} {N' : List Str} {s₀ : Shared} {H₀ : Hp} {C : Addr} {ex : List Addr} {Y : Value → Shared → Prop} {pins : List (Addr × Obj)} {σ : L2.St} {H : Hp} {s : Shared} (I : Inv (blkE X csc N' s₀ H₀ C ex Y) pins σ H s) : Inv (blk X csc N' s₀ H₀ C ex) pins σ H s :=
  ⟨⟨I.ok.mod, I.ok.kind, I.ok.glob, I.ok.blt, I.ok.above, I.ok.inj, I.ok.has, I.ok.cab, I.ok.hd, I.ok.frames, I.ok.stk, I.ok.exf, I.ok.bs, I.ok.bsz, I.ok.noex, I.ok.exfs, I.ok.funs, I.ok.frf⟩, I.os, I.bare, I.base, I.loc, I.cell, I.free, I.freeC, I.pin, I.hok, I.len⟩
theorem pe_clP {X : Cx} {x : Str} {k j : Nat} {ps : List Str} {ds : List Value} {dvs : List V} {sp : Sp} {E : XK} {e : Expr} {es : List Expr} {t : TA} {p pos : Pos} (C : CalX X.prog X.w X.K X.mg X.base x k ps ds dvs sp) (hr : Room j X.A) (hp : Passes (CXe X.prog X.w) X E) (ha : PA X (e :: es) t) (hkj : k ≤ j := by decide) (hg : Gl X x := by rfl)
    (hdb : (x == ("__debug__" : Str)) = false := by decide) (he : starEach (e :: es) X.env = (false, eval e X.env) :: starEach es X.env := by rfl) (hpl : (backTo pos (starEach es X.env)).any (·.1) = false := by rfl) :
    PE X (.Call (.Name x p) (e :: es) [] pos) (tCall sp dvs E t) := by
  obtain ⟨f, fd, F, b, kp, m⟩ := C.ex
  exact pe_call F (hr.mono hkj) hg m kp b C.dv hp ha hdb he hpl
theorem compX_core {X : Cx} {E : XK} {elt iter target : Expr} {ifs : List Expr} {pos pos' : Pos} {csc : Scope} {wi : TI} {tg : TG} {tt : Shared → Hp → Addr → List Addr → TT} {te : Shared → Hp → Addr → List Addr → TE} (xs : List Str) (js : List Nat) {N' : List Str} {fsc : Scope} {N : List Str} (ok : CompOkG fsc csc xs js N N') (hi : PI X target iter wi) (hg : ∀ s₀ H₀ C ex, PG (blk X csc N' s₀ H₀ C ex) target tg) (ht : ∀ s₀ H₀ C ex, PTs (blk X csc N' s₀ H₀ C ex) ifs (tt s₀ H₀ C ex))
    (he : ∀ s₀ H₀ C ex Y, Passes (CXe X.prog X.w) (blkE X csc N' s₀ H₀ C ex Y) E → PE (blkE X csc N' s₀ H₀ C ex Y) elt (te s₀ H₀ C ex)) (hc : X.calm = true) (hsc : X.env.scope = fsc) (hXN : X.N = N) (hs : ∀ x, foldedSetIterable iter X.env x = pure x)
    (use : Option (Value → Sem Unit)) (R : Value → Shared → Prop) (hX : ∀ (C : Addr) (acc e : Value) (pins : List (Addr × Obj)) (σ : L2.St) (H1 : Hp) (s1 s2 : Shared), Inv X pins σ H1 s1 → FpOk X pins H1 C → (∃ m, s1.heap.Ns C m) → CXe X.prog X.w X.stack H1 s1 E e s2 → notedBy (model X.prog X.w) X.A (compEnvC csc (clo csc X.env) C X.env) (fun e s' => compPost (model X.prog X.w) X.A X.xe use R acc C (.error e) s') e s2) {pins : List (Addr × Obj)} {s : Shared} {σ : L2.St} {H : Hp} {Q : VK} (I : Inv X pins σ H s) (h : tCompG wi tg tt te xs.length js σ H Q)
    (hfin : ∀ (D C : Addr) (s6 : Shared) (H5 : Hp) (m6 : Str → Option Value) (r : Flow), Inv X pins σ H5 s6 → FpOk X pins H5 C → s6.heap.Ns C m6 → Q (.ref D) H5 → compPost (model X.prog X.w) X.A X.xe use R (.ref D) C (.ok r) s6) :
    wpAny (model X.prog X.w) X.A (comprehension (.ListComp elt [⟨target, iter, ifs, 0⟩] csc pos) csc X.env pos' (newList []) false (eval iter X.env) use) R X.xe s := by
  have hkX : X.env.scope.kind = .function := I.ok.kind
  have hfree : ∀ y ∈ csc.names, y.2 = .free → ∃ c, X.env.cells.lookup y.1 = some c := fun y hy hk => I.ok.has y.1 (.inl (by show X.env.scope.names.lookup y.1 = _; rw [hsc]; exact ok.fr y hy hk))
  have hcl : ∀ y c, (clo csc X.env).lookup y = some c → X.env.cells.lookup y = some c := fun y c e => by
    obtain ⟨m, e2⟩ := clo_in e
    obtain ⟨c', e3⟩ := hfree _ m rfl
    rw [e3] at e2
    rw [e3, e2]
    rfl
  refine wpAny_comprehension_free (use := use) rfl hs (closure_of hfree) ok.kind ok.nm ?_
  refine thn (hi pins s σ H _ I h) fun v s1 h1 => thn h1 fun itv s2 h2 => ?_
  obtain ⟨it, fp, tn, J, H2, e, I2, T, st2, f2, hw⟩ := h2
  subst e
  have hD : H2 s2.heap.objs.size = none := I2.hok.fresh (Nat.le_refl _)
  obtain ⟨W, ⟨m0, w0⟩, turn⟩ := hw _ hD
  refine wpAny_newObj_type ?_ (by show 0 ≤ sizeLine; decide)
  have I3 : Inv X pins σ (upd H2 s2.heap.objs.size (.lst [])) { s2 with heap := s2.heap.push { cls := .type "list", data := .seq ([] : List Value).toArray } } := I2.lnew (t' := s2.toks) .nil (by show 0 ≤ sizeLine; decide)
  generalize hs3 : ({ s2 with heap := s2.heap.push { cls := .type "list", data := .seq ([] : List Value).toArray } } : Shared) = s3 at I3 ⊢
  have hsz : s3.heap.objs.size = s2.heap.objs.size + 1 := by rw [← hs3, Heap.size_push]
  generalize hDe : s2.heap.objs.size = D at *
  have tn3 : tn 0 s3.heap := T.keep 0 s2.heap _ st2 fun b hb o e => by rw [← hs3]; exact Heap.get?_push_of_some _ e
  have fpD : ∀ b ∈ fp, b ≠ D := fun b hb z => by
    obtain ⟨o, e, _⟩ := T.obj 0 _ st2 b hb
    rw [z, ← hDe] at e
    exact absurd (Heap.lt_size e) (Nat.lt_irrefl _)
  have f3 : ∀ b ∈ fp, upd H2 D (.lst []) b = none := fun b hb => by rw [upd_ne (fpD b hb)]; exact (f2 b hb).1
  refine wpAny_newFunctionEnv ok.cell (by intro y hy; simp at hy) (fun h4 hns hsb => ?_) ok.kind
  generalize hCe : s3.heap.objs.size = C at *
  have ltC : ∀ b o, s3.heap.get? b = some o → b < C := fun b o e => by
    rw [← hCe]
    exact Heap.lt_size e
  have keep4 : ∀ b o, s3.heap.get? b = some o → h4.get? b = some o := fun b o e => by
    rw [hsb.2 b (Nat.ne_of_lt (ltC b o e))]
    exact Heap.get?_push_of_some _ e
  have Xok : (blk X csc N' s3 (upd H2 D (.lst [])) C fp).Ok := by
    refine ⟨I3.ok.mod, ?_, I3.ok.glob, I3.ok.blt, ?_, fun y z c h1 h2 => I3.ok.inj y z c (hcl y c h1) (hcl z c h2), fun y hy => ?_, fun y c h1 _ => ?_, I3.ok.hd, I3.ok.frames, .inl rfl, fun b hb => ?_, I3.bs, ?_, fun b o e hb => ?_, fun b hb hz => ?_, I3.stack, I3.stkFree⟩
    · exact ok.kind
    · exact Nat.le_of_eq hCe
    · have hy' : (relabel csc X.env).names.lookup y = some .cell ∨ (relabel csc X.env).names.lookup y = some .free := hy
      cases hk : csc.names.lookup y with
      | none =>
        rw [relabel_none hk] at hy'
        rcases hy' with z | z <;> cases z
      | some k =>
        have hm : (y, k) ∈ csc.names := PySem.mem_of_lookup hk
        by_cases hkf : k = .free
        · subst hkf
          exact clo_has hm
        · have hb : (k == NameKind.free) = false := by simpa using hkf
          rw [relabel_lookup hk] at hy'
          simp only [hb, Bool.false_and, Bool.false_eq_true, if_false] at hy'
          rcases hy' with z | z
          · exact absurd (Option.some.inj z) (ok.cell _ hm)
          · exact absurd (Option.some.inj z) hkf
    · exact absurd (show false = true from h1) Bool.false_ne_true
    · obtain ⟨g0, g1, g2, g3, g4, g5⟩ := f2 b hb
      refine ⟨fun z => ?_, fun y c e => g4 y c (hcl y c e)⟩
      obtain ⟨o, e, _⟩ := T.obj 0 _ tn3 b hb
      have z' : b = C := z
      have l := ltC b o e
      rw [z'] at l
      exact absurd l (Nat.lt_irrefl _)
    · exact Nat.le_trans I3.ok.bsz I3.sz
    · obtain ⟨g0, g1, g2, g3, g4, g5⟩ := f2 b hb
      rcases g3 with z | z
      · exact I3.ok.noex b o e z
      · exact absurd (Nat.lt_of_lt_of_le (Heap.lt_size e) (Nat.le_trans I3.ok.bsz z)) (Nat.lt_irrefl _)
    · obtain ⟨g0, g1, g2, g3, g4, g5⟩ := f2 b hb
      rcases List.mem_cons.mp (I3.stkSub b hz) with z | z
      · exact g1 z
      · exact g2 z
  have hfreeC : H2 C = none ∧ upd H2 D (.lst []) C = none := by
    have q : upd H2 D (.lst []) C = none := I3.hok.fresh (Nat.le_of_eq hCe)
    refine ⟨?_, q⟩
    rw [upd_ne (by rw [hsz]; exact Nat.succ_ne_self D)] at q
    exact q
  have I4 : Inv (blk X csc N' s3 (upd H2 D (.lst [])) C fp) [] (List.replicate xs.length none ++ js.map fun j => (σ[j]?).join) (upd H2 D (.lst [])) { s3 with heap := h4, toks := s3.toks + ([] : List (Str × Value)).length } := by
    refine ⟨Xok, rfl, I3.bare, Un.kept keep4, ⟨_, hns, fun i y v h1 h2 h3 => ?_⟩, fun y c e => ?_, hfreeC.2, fun y c e => I3.freeC y c (hcl y c e), fun p hp => absurd (show p ∈ ([] : List (Addr × Obj)) from hp) (by simp), I3.hok.kept keep4, ?_⟩
    · have h1' : (xs ++ js.map fun j => N.getD j "")[i]? = some y := by rw [← ok.eqN]; exact h1
      by_cases hi : i < xs.length
      · rw [List.getElem?_append_left (by rw [List.length_replicate]; exact hi), List.getElem?_replicate] at h2
        rw [if_pos hi] at h2
        cases h2
      · rw [List.getElem?_append_right (by (first | lia | omega)), List.getElem?_map] at h1'
        rw [List.getElem?_append_right (by rw [List.length_replicate]; (first | lia | omega)), List.length_replicate, List.getElem?_map] at h2
        cases ej : js[i - xs.length]? with
        | none => rw [ej] at h2; cases h2
        | some j =>
          rw [ej] at h1' h2
          obtain ⟨jl, jf⟩ := ok.js j (List.mem_of_getElem? ej)
          have ey : N.getD j "" = y := Option.some.inj h1'
          have ev : (σ[j]?).join = some v := Option.some.inj h2
          have ev' : σ[j]? = some (some v) := by
            cases q : σ[j]? with
            | none => rw [q] at ev; cases ev
            | some o => rw [q] at ev; rw [show o = some v from ev]
          have eN : X.N[j]? = some y := by rw [hXN, ← ey, List.getD_eq_getElem?_getD, List.getElem?_eq_getElem jl]; rfl
          rw [ey] at jf
          have kX : X.env.scope.names.lookup y = some .cell := by rw [hsc]; exact ok.fr (y, .free) (PySem.mem_of_lookup jf) rfl
          obtain ⟨m3, n3, l3⟩ := I3.loc
          obtain ⟨u, ru, lk⟩ := l3 j y v eN ev' (.inr (.inl kX))
          refine ⟨u, ru, .inr ⟨?_, ?_⟩⟩
          · left
            show (relabel csc X.env).names.lookup y = some .cell
            rw [relabel_lookup jf]
            have k2 : X.env.kindOf y = some .cell := kX
            rw [hkX, k2]
            rfl
          · rcases lk with ⟨z, _⟩ | ⟨_, c, hc1, hc2⟩
            · have z' : X.env.scope.names.lookup y = some .local := z
              rw [kX] at z'
              cases z'
            · obtain ⟨c', e'⟩ := clo_has (env := X.env) (PySem.mem_of_lookup jf)
              have : c' = c := by
                have q := hcl y c' e'
                rw [hc1] at q
                exact (Option.some.inj q).symm
              subst this
              obtain ⟨oc, ho, hd⟩ := hc2
              exact ⟨c', e', oc, keep4 _ _ ho, hd⟩
    · obtain ⟨v, oc, ho, hd⟩ := I3.cell y c (hcl y c e)
      exact ⟨v, oc, keep4 _ _ ho, hd⟩
    · show (List.replicate xs.length none ++ js.map _).length = N'.length
      rw [ok.eqN]
      simp
  have stat : ∀ {H' : Hp}, (∀ b ∈ fp, H' b = none) → ∀ b ∈ fp, FpOk (blk X csc N' s3 (upd H2 D (.lst [])) C fp) [] H' b := fun hn b hb => by
    obtain ⟨g0, g1, g2, g3, g4, g5⟩ := f2 b hb
    exact ⟨hn b hb, (Xok.exf b hb).1, Xok.exfs b hb, .inl hb, (Xok.exf b hb).2, fun p hp => absurd (show p ∈ ([] : List (Addr × Obj)) from hp) (by simp)⟩
  have loop : ∀ s' : Shared, Inv (blk X csc N' s3 (upd H2 D (.lst [])) C fp) [] (List.replicate xs.length none ++ js.map fun j => (σ[j]?).join) (upd H2 D (.lst [])) s' → tn 0 s'.heap →
      codeAny (model X.prog X.w) X.A (.compLoop (.ListComp elt [⟨target, iter, ifs, 0⟩] csc pos) 0 (.ref it) (.ref D) (compEnvC csc (clo csc X.env) C X.env)) (compPost (model X.prog X.w) X.A X.xe use R (.ref D) C) s' := by
    rintro s' I' t0
    refine compLoop_gen (fun m s => ∃ i ys H', Inv (blk X csc N' s3 (upd H2 D (.lst [])) C fp) [] (List.replicate xs.length none ++ js.map fun j => (σ[j]?).join) H' s ∧ tn i s.heap ∧ (∀ b ∈ fp, H' b = none) ∧ W i m ys H') ?_ m0 ⟨0, [], _, I', t0, f3, w0⟩
    rintro m s5 ⟨i, ys, H5, I5, t5, fr5, w5⟩
    obtain ⟨hDl, tt'⟩ := turn i m ys H5 w5
    rcases tt' with ⟨stop, qn⟩ | ⟨go, step⟩
    · refine thn (T.done (blk X csc N' s3 (upd H2 D (.lst [])) C fp) rfl rfl rfl hc i [] s5 _ H5 _ I5 (stat fr5) t5 stop) fun r s6 ⟨hr, I6⟩ => ?_
      subst hr
      obtain ⟨m6, n6, _⟩ := I6.loc
      have I7 : Inv X pins σ H5 s6 := I3.call' (s' := s6) I6.os I6.base I6.hok I6.bare fun b hb => by
        obtain ⟨g0, g1, g2, g3, g4, g5⟩ := f2 b hb
        exact ⟨g3, g1, g4, g5⟩
      exact hfin D C s6 H5 m6 _ I7 (I3.fpOk (Nat.le_of_eq hCe) I6.free) n6 qn
    · refine thn (T.item (blk X csc N' s3 (upd H2 D (.lst [])) C fp) rfl rfl rfl hc i [] s5 _ H5 _ I5 (stat fr5) t5 go) fun r s6 ⟨u, hr, h6⟩ => ?_
      subst hr
      refine thn h6 fun _ s7 ⟨xv, H6, I6, rx, y6, t6, fr6⟩ => ?_
      have I6' := I6.pinned (stat fr6) (T.obj _ _ t6)
      -- what is kept of the iterator, the block's names forgotten
      have back : ∀ {H10 : Hp} {s10 : Shared} {σ1 σ0 : L2.St}, σ1 = σ0 ++ (js.map fun j => (σ[j]?).join) → σ0.length = xs.length → Inv (blk X csc N' s3 (upd H2 D (.lst [])) C fp) ([] ++ pinsAt fp s7.heap) σ1 H10 s10 →
          Inv (blk X csc N' s3 (upd H2 D (.lst [])) C fp) [] (List.replicate xs.length none ++ js.map fun j => (σ[j]?).join) H10 s10 ∧ tn (i + 1) s10.heap ∧ ∀ b ∈ fp, H10 b = none := by
        intro H10 s10 σ1 σ0 e1 e2 I10
        subst e1
        refine ⟨(Inv.unpinned (pins := []) I10).weak (by simp [e2]) fun k v hk => ?_, T.keep _ _ _ t6 fun b hb o e => (I10.pin (b, o) (List.mem_append_right _ (List.mem_append_right _ (mem_pinsAt hb e)))).1, fun b hb => ?_⟩
        · by_cases hk' : k < xs.length
          · rw [List.getElem?_append_left (by rw [List.length_replicate]; exact hk'), List.getElem?_replicate, if_pos hk'] at hk
            cases hk
          · rw [List.getElem?_append_right (by rw [List.length_replicate]; (first | lia | omega)), List.length_replicate] at hk
            rw [List.getElem?_append_right (by (first | lia | omega)), e2]
            exact hk
        · obtain ⟨o, e, d⟩ := T.obj _ _ t6 b hb
          exact (I10.pin (b, o) (List.mem_append_right _ (List.mem_append_right _ (mem_pinsAt hb e)))).2.1
      have st0 := step xv H6 y6 s3 (upd H2 D (.lst [])) C fp (List.replicate xs.length none) (List.length_replicate ..)
      refine wpAny_mono (hg s3 (upd H2 D (.lst [])) C fp _ s7 _ H6 xv u _ I6' rx st0) (fun _ s8 h8 => ?_) (fun _ _ z => False.elim z)
      obtain ⟨σ1, H8, I8, ⟨σ0, e1, e2⟩, q8⟩ := h8
      refine wpAny_mono (ht s3 (upd H2 D (.lst [])) C fp _ s8 σ1 H8 _ I8 q8) (fun ok' s9 h9 => ?_) (fun _ _ z => False.elim z)
      obtain ⟨H9, I9, q9⟩ := h9
      cases ok' with
      | false =>
        have q9' := q9
        rw [if_neg Bool.false_ne_true] at q9'
        obtain ⟨hD9, m', hm', w9⟩ := q9'
        show if false = true then _ else _
        rw [if_neg Bool.false_ne_true]
        obtain ⟨I10, t10, f10⟩ := back e1 e2 I9
        exact ⟨m', hm', i + 1, ys, H9, I10, t10, f10, w9⟩
      | true =>
        have q9' := q9
        rw [if_pos rfl] at q9'
        show if true = true then _ else _
        rw [if_pos rfl]
        have ps : Passes (CXe X.prog X.w) (blkE X csc N' s3 (upd H2 D (.lst [])) C fp (notedBy (model X.prog X.w) X.A (compEnvC csc (clo csc X.env) C X.env) fun e s' => compPost (model X.prog X.w) X.A X.xe use R (.ref D) C (.error e) s')) E := fun pins' σ' H1' s1' e' s2' I' hcx => by
          obtain ⟨mC, nC, _⟩ := I'.loc
          exact hX C (.ref D) e' pins σ H1' s1' s2' (I3.call' (s' := s1') I'.os I'.base I'.hok I'.bare fun b hb => by
            obtain ⟨g0, g1, g2, g3, g4, g5⟩ := f2 b hb
            exact ⟨g3, g1, g4, g5⟩) (I3.fpOk (Nat.le_of_eq hCe) I'.free) ⟨mC, nC⟩ hcx
        refine wpAny_mono (he s3 (upd H2 D (.lst [])) C fp _ ps _ s9 σ1 H9 _ (inv_toE I9) q9') (fun yv s10 h10 => ?_) (fun _ _ z => z)
        obtain ⟨y, H10, I10E, ry, hD10, hlt, m', hm', w10⟩ := h10
        have I10 := inv_ofE I10E
        refine wpAny_mono (mt_append (X := blk X csc N' s3 (upd H2 D (.lst [])) C fp) _ s10 _ H10 (.ref D) [y] (.ref D) [yv] (fun _ H11 => H11 = upd H10 D (.lst (ys ++ [y]))) I10 rfl (.cons ry .nil) ⟨D, ys, y, rfl, rfl, hD10, hlt, rfl⟩) (fun v11 s11 h11 => ?_) (fun _ _ z => False.elim z)
        obtain ⟨v12, H12, I12, r12, e12⟩ := h11
        subst e12
        obtain ⟨J1, J2, J3⟩ := back e1 e2 I12
        exact ⟨m', hm', i + 1, ys ++ [y], _, J1, J2, J3, w10⟩
  have tn4 : tn 0 h4 := T.keep 0 _ _ tn3 fun b _ o e => keep4 b o e
  exact codeAny_compStart_list (loop _ I4 tn4) (T.self X.A 0 _ _ _ tn4 (loop _ I4 tn4))
theorem compX_one {X : Cx} {E : XK} {elt iter : Expr} {x : Str} {px pos pos' : Pos} {csc : Scope} {wi : TI} {te : Shared → Hp → Addr → List Addr → TE} (js : List Nat) {N' : List Str} {fsc : Scope} {N : List Str} (ok : CompOk fsc csc x js N N') (hi : PI X (.Name x px) iter wi)
    (he : ∀ s₀ H₀ C ex Y, Passes (CXe X.prog X.w) (blkE X csc N' s₀ H₀ C ex Y) E → PE (blkE X csc N' s₀ H₀ C ex Y) elt (te s₀ H₀ C ex)) (hc : X.calm = true) (hsc : X.env.scope = fsc) (hXN : X.N = N) (hs : ∀ x, foldedSetIterable iter X.env x = pure x)
    (use : Option (Value → Sem Unit)) (R : Value → Shared → Prop) (hX : ∀ (C : Addr) (acc e : Value) (pins : List (Addr × Obj)) (σ : L2.St) (H1 : Hp) (s1 s2 : Shared), Inv X pins σ H1 s1 → FpOk X pins H1 C → (∃ m, s1.heap.Ns C m) → CXe X.prog X.w X.stack H1 s1 E e s2 → notedBy (model X.prog X.w) X.A (compEnvC csc (clo csc X.env) C X.env) (fun e s' => compPost (model X.prog X.w) X.A X.xe use R acc C (.error e) s') e s2) {pins : List (Addr × Obj)} {s : Shared} {σ : L2.St} {H : Hp} {Q : VK} (I : Inv X pins σ H s) (h : tComp wi te js σ H Q)
    (hfin : ∀ (D C : Addr) (s6 : Shared) (H5 : Hp) (m6 : Str → Option Value) (r : Flow), Inv X pins σ H5 s6 → FpOk X pins H5 C → s6.heap.Ns C m6 → Q (.ref D) H5 → compPost (model X.prog X.w) X.A X.xe use R (.ref D) C (.ok r) s6) :
    wpAny (model X.prog X.w) X.A (comprehension (.ListComp elt [⟨.Name x px, iter, [], 0⟩] csc pos) csc X.env pos' (newList []) false (eval iter X.env) use) R X.xe s := by
  have ej : (js.map fun j => N.getD j x) = js.map fun j => N.getD j "" := List.map_congr_left fun j hj => by
    have := (ok.js j hj).1
    rw [List.getD_eq_getElem?_getD, List.getD_eq_getElem?_getD, List.getElem?_eq_getElem this]
    rfl
  have ok' : CompOkG fsc csc [x] js N N' := ⟨by rw [ok.eqN, ej]; rfl, ok.fr, ok.cell, ok.kind, ok.nm, fun j hj => by
    have := ok.js j hj
    have e : N.getD j x = N.getD j "" := by rw [List.getD_eq_getElem?_getD, List.getD_eq_getElem?_getD, List.getElem?_eq_getElem this.1]; rfl
    rw [e] at this
    exact this⟩
  refine compX_core (ifs := []) (tg := gName 0) (tt := fun _ _ _ _ => tNoTest) (te := te) [x] js ok' (pi_mono hi) (fun s₀ H₀ C ex => pg_blk ok.nd (by rw [ok.eqN]; rfl) ok.xl) (fun _ _ _ _ => pts_nil) he hc hsc hXN hs use R hX I ?_ hfin
  refine ⟨_, h, fun J H1 hw D hD => ?_⟩
  obtain ⟨W, w0, turn⟩ := hw D hD
  refine ⟨W, w0, fun i m ys H2 w => ?_⟩
  obtain ⟨e, t⟩ := turn i m ys H2 w
  refine ⟨e, t.imp id fun ⟨go, y⟩ => ⟨go, fun v H' yl s₀ H₀ C ex σ0 h0 => ?_⟩⟩
  obtain ⟨o, rfl⟩ : ∃ o, σ0 = [o] := by
    match σ0, h0 with
    | [o], _ => exact ⟨o, rfl⟩
  exact ⟨⟨[some v], rfl, rfl⟩, y v H' yl s₀ H₀ C ex⟩
section
variable {P : Program} {w : World} {K : PySem.W.Frag} {mg : Str → Option Value} {base : Heap} {N : List Str} {qual : Str} {scope : Scope} {f : Addr} {cd : Value} {A : Around} {outer : List Env} {s : Shared} {H : Hp} {E : XK}
end
section
variable {P : Program} {w : World} {K : PySem.W.Frag} {mg : Str → Option Value} {base : Heap} {N : List Str} {qual : Str} {scope : Scope} {f : Addr} {cd : Value} {A : Around} {outer : List Env} {s : Shared} {H : Hp} {E : XK}
theorem ps_setCompX {elt iter : Expr} {x y : Str} {px py pos spos : Pos} {i : Nat} {csc : Scope} {wi : TI} {te : Shared → Hp → Addr → List Addr → TE} (hN : (cxOf (CXe P w) P w K mg base N qual scope f cd A outer s H E).N.Nodup) (hi' : (cxOf (CXe P w) P w K mg base N qual scope f cd A outer s H E).N[i]? = some y) (hy : Loc (cxOf (CXe P w) P w K mg base N qual scope f cd A outer s H E).env.scope y)
    (js : List Nat) {N' : List Str} {fsc : Scope} {N1 : List Str} (ok : CompOk fsc csc x js N1 N') (hi : PI (cxOf (CXe P w) P w K mg base N qual scope f cd A outer s H E) (.Name x px) iter wi)
    (he : ∀ s₀ H₀ C ex Y, Passes (CXe P w) (blkE (cxOf (CXe P w) P w K mg base N qual scope f cd A outer s H E) csc N' s₀ H₀ C ex Y) E → PE (blkE (cxOf (CXe P w) P w K mg base N qual scope f cd A outer s H E) csc N' s₀ H₀ C ex Y) elt (te s₀ H₀ C ex)) (hsw : swapsWith (.ListComp elt [⟨.Name x px, iter, [], 0⟩] csc pos) (some (.Name y py)) spos.line (cxOf (CXe P w) P w K mg base N qual scope f cd A outer s H E).env = pure true := by rfl)
    (hc : (cxOf (CXe P w) P w K mg base N qual scope f cd A outer s H E).calm = true := by rfl) (hsc : (cxOf (CXe P w) P w K mg base N qual scope f cd A outer s H E).env.scope = fsc := by rfl) (hXN : (cxOf (CXe P w) P w K mg base N qual scope f cd A outer s H E).N = N1 := by rfl) (hs : ∀ x, foldedSetIterable iter (cxOf (CXe P w) P w K mg base N qual scope f cd A outer s H E).env x = pure x := by intro _; rfl)
    (hf : (cxOf (CXe P w) P w K mg base N qual scope f cd A outer s H E).fn y = true ∨ (cxOf (CXe P w) P w K mg base N qual scope f cd A outer s H E).env.scope.names.lookup y = some .local := by first | exact .inl rfl | exact .inr rfl | assumption) :
    PS (cxOf (CXe P w) P w K mg base N qual scope f cd A outer s H E) (.Assign [.Name y py] (.ListComp elt [⟨.Name x px, iter, [], 0⟩] csc pos) spos) (tAsg (tComp wi te js) (gName i)) := by
  intro pins s9 σ9 H9 D I h
  rw [exec_Assign_Name_used _ _ _ _ hsw]
  refine wpAny_bind (wpAny_standAt (wpAny_bind ?_))
  show wpAny _ (cxOf (CXe P w) P w K mg base N qual scope f cd A outer s H E).A (do let _ ← comprehension (.ListComp elt [⟨.Name x px, iter, [], 0⟩] csc pos) csc (cxOf (CXe P w) P w K mg base N qual scope f cd A outer s H E).env _ (newList []) false (eval iter (cxOf (CXe P w) P w K mg base N qual scope f cd A outer s H E).env) (some (assign (.Name y py) (cxOf (CXe P w) P w K mg base N qual scope f cd A outer s H E).env))) _ _ s9
  refine wpAny_bind (wpAny_mono (compX_one (E := E) js ok hi he hc hsc hXN hs (some (assign (.Name y py) (cxOf (CXe P w) P w K mg base N qual scope f cd A outer s H E).env)) (fun _ s' => SP (cxOf (CXe P w) P w K mg base N qual scope f cd A outer s H E) pins D .next s') (fun C acc e pins σ H1 s1 s2 I hC ns hx => pass_comp I hC ns hx) I h ?_) (fun _ s' hq => wpAny_pure (wpAny_pure hq)) fun _ _ e => e)
  intro D' C s6 H5 m6 r I6 f6 n6 q
  show wpAny _ (cxOf (CXe P w) P w K mg base N qual scope f cd A outer s H E).A (assign (.Name y py) (cxOf (CXe P w) P w K mg base N qual scope f cd A outer s H E).env (.ref D')) _ _ _
  obtain ⟨o6, es, ep, ho, hd, hrest⟩ := id n6
  have Ip := I6.pinned (fp := [C]) (fun b hb => by
    have e : b = C := by simpa using hb
    subst e
    exact f6) (fun b hb => by
    have e : b = C := by simpa using hb
    subst e
    exact ⟨o6, ho, fun v z => by rw [hd] at z; cases z⟩)
  refine wpAny_assign_Name (store_ok (i := i) Ip hN hi' hy (v := .ref D') rfl (fun s7 I7 => ?_) hf)
  refine ⟨m6, n6.at fun o e => (I7.pin (C, o) (List.mem_append_right _ (List.mem_append_right _ (mem_pinsAt List.mem_cons_self e)))).1, fun h7 sb => ?_⟩
  exact ⟨_, H5, inv_but I7.unpinned f6 sb, q⟩
end
end L3

namespace L3
open PySem PySem.Spec PyProof.Rows L2 Ra
noncomputable def FnV (P : Program) (w : World) (K : PySem.W.Frag) (mg : Str → Option Value) (base : Heap) (j : Nat) (f : Addr) (sp : Sp) : Prop := ∃ k fd ps, k ≤ j ∧ FnOk P w K mg base (CXe P w) k f fd ps sp ∧ Binds K fd ps [] ∧ PySem.W.keepIn K (.ref f) = true
noncomputable def tXCallV (P : Program) (w : World) (K : PySem.W.Frag) (mg : Str → Option Value) (base : Heap) (j i : Nat) (t : TA) : (Value → L2.St → Hp → Prop) → TS := fun R D σ H => ∃ f sp, FnV P w K mg base j f sp ∧ tVar i σ H fun y H1 => y = .ref f ∧ t σ H1 fun vs H2 => sp vs H2 (fun _ H3 => D.nx σ H3) fun C _ H3 => R C σ H3
theorem w_ix {X : Cx} {a i : Expr} {ta ti : TE} {pos : Pos} (ha : PEw X a ta) (hi : PEw X i ti) (hs : ∀ v u, subscripted i false v u = operate [v, u] (getItem v u) := by exact fun _ _ => rfl) : PEw X (.Subscript a i pos) (tOp (rIxL X.K) ta ti) := ⟨pe_ix ix_list ha.h hi.h hs⟩
end L3

namespace L3
open PySem PySem.Spec PyProof.Rows L2 Ra
theorem dict_map (o : Obj) (f) : (o.mapFields f).dict = o.dict := by
  obtain ⟨c, d, dt, sl⟩ := o
  cases dt <;> rfl
noncomputable def TrD (h base : Heap) (e : Addr) (C : Value) (dx : Option Addr) (fl : Value) : Prop :=
  ∃ oe vs T oT ts, (h.get? e = some oe ∧ oe.cls = C ∧ oe.dict = dx ∧ oe.data = .fields vs ∧ vs[1]? = some (.ref T)) ∧ (base.get? T = none ∧ T ≠ e) ∧ h.get? T = some oT ∧ oT.data = .fields ts ∧ ts[3]? = some fl
structure FlD (base : Heap) (l : List Env) (e : Addr) (C : Value) (dx : Option Addr) (fl : Value) (h : Heap) : Prop where
  st : base.StaysIn h
  nw : base.get? e = none
  fr : h.FunFrames base l
  tr : TrD h base e C dx fl
theorem FlD.there {base h : Heap} {l : List Env} {e : Addr} {C fl : Value} {dx : Option Addr} (x : FlD base l e C dx fl h) : ∃ o, h.get? e = some o ∧ o.cls = C ∧ o.dict = dx ∧ ∃ vs, o.data = .fields vs := by
  obtain ⟨oe, vs, _, _, _, ⟨a, b, c, d, _⟩, _⟩ := x.tr
  exact ⟨oe, a, b, c, vs, d⟩
section
variable {M : Model} {A : Around} {E : Value → Shared → Prop} {s : Shared} {base : Heap} {env : Env} {outer l : List Env} {L e : Addr} {C fl : Value} {dx : Option Addr} {Q : Unit → Shared → Prop}
theorem hang {h1 : Heap} {ob oe : Obj} {vs : Array Value} (he : h1.get? e = some oe) (hd : oe.data = .fields vs) (hsz : 1 < vs.size) (hob : ob.isFreed = false)
    (h : ∀ h2, (∃ o2, h2.get? e = some o2 ∧ o2.cls = oe.cls ∧ o2.dict = oe.dict ∧ o2.data = .fields (vs.setIfInBounds 1 (.ref h1.objs.size))) → h2.get? h1.objs.size = some ob → (∀ b o, b ≠ e → h1.get? b = some o → h2.get? b = some o) → Q () { s with heap := h2 }) :
    wpAny M A (setField (.ref e) 1 (.ref h1.objs.size)) Q E { s with heap := h1.push ob } := by
  have he2 : (h1.push ob).get? e = some oe := Heap.get?_push_of_some ob he
  have ne : e ≠ h1.objs.size := Nat.ne_of_lt (Heap.lt_size he)
  have hd3 := Obj.data_mapFields hd (·.setIfInBounds 1 (Value.ref h1.objs.size))
  refine wpAny_setField (s := { s with heap := h1.push ob }) he2 hd hsz (h _ ⟨_, Heap.get?_update_self _ he2 (Obj.isFreed_of_fields hd3), Obj.cls_mapFields _ _, dict_map _ _, hd3⟩ ?_ fun b o nb q => ?_)
  · rw [Heap.get?_update_other _ _ ne]
    exact Heap.get?_push_size _ hob
  · rw [Heap.get?_update_other _ _ nb.symm]
    exact Heap.get?_push_of_some _ q
theorem turn {oT : Obj} {ts : Array Value} {T : Addr} {v fl2 : Value} (x : FlD base l e C dx fl s.heap) (hT : s.heap.get? T = some oT) (hdT : oT.data = .fields ts) (h3 : ts[3]? = some fl2) (hb : base.get? T = none) (hTe : T ≠ e)
    (h : ∀ h', base.StaysIn h' → h'.FunFrames base l → (∀ b, b ≠ T → h'.get? b = s.heap.get? b) → (∃ o2, h'.get? T = some o2 ∧ o2.data = .fields (ts.setIfInBounds 3 v)) → s.heap.UpToSlots h' → Q () { s with heap := h' }) :
    wpAny M A (setField (.ref T) 3 v) Q E s := by
  have other : ∀ b, b ≠ T → (s.heap.update T (Obj.mapFields (·.setIfInBounds 3 v))).get? b = s.heap.get? b := fun b n => Heap.get?_update_other _ _ n.symm
  have rec_ : ∀ b o, s.heap.get? b = some o → (∀ ws, o.data ≠ .fields ws) → b ≠ T := fun b o q n z => by
    rw [z, hT] at q
    cases q
    exact n ts hdT
  have hd3 := Obj.data_mapFields hdT (·.setIfInBounds 3 v)
  exact wpAny_setField hT hdT (Array.getElem?_eq_some_iff.mp h3).1 (h _ (fun b o q => (other b fun z => by rw [z, hb] at q; cases q).trans (x.st b o q)) (x.fr.of_keeps fun b o q n => ⟨o, (other b (rec_ b o q n)).trans q, rfl⟩) other
    ⟨_, Heap.get?_update_self _ hT (Obj.isFreed_of_fields hd3), hd3⟩ fun b o q n => ⟨o.slots, (other b (rec_ b o q n)).trans q⟩)
theorem FlD.tail {h : Heap} (x : FlD base (env :: outer) e C dx fl h) : FlD base outer e C dx fl h := ⟨x.st, x.nw, x.fr.2.2, x.tr⟩
end
end L3

namespace L3
open PySem PySem.Spec PySem.Calls PyProof.Rows L2 Ra Builtin Builtin.ObjectAttr
noncomputable def isR : Value → Bool
  | .ref _ => true
  | _ => false
noncomputable def overVE (l : List Value) : Bool := l.dropWhile isR == [.type "ValueError", .type "Exception", .type "BaseException", .type "object"]
theorem refuse_drop (self : Value) (what : Str) : ∀ l : List Value, refuseLoop self what l = refuseLoop self what (l.dropWhile isR)
  | [] => rfl
  | v :: r => by
    cases h : isR v with
    | false => rw [List.dropWhile_cons, h]; rfl
    | true =>
      obtain ⟨c, rfl⟩ : ∃ c, v = .ref c := by cases v <;> first | exact ⟨_, rfl⟩ | cases h
      rw [refuseLoop_ref, List.dropWhile_cons_of_pos h]
      exact refuse_drop self what r
theorem refuse_ve (self : Value) {l : List Value} (e : overVE l = true) : refuseLoop self "__setattr__" l = pure () := by
  rw [refuse_drop, show l.dropWhile isR = _ from beq_iff_eq.mp e]
  exact PySem.F.store_ValueError.passes self
theorem ve_has {l : List Value} {n : String} (e : overVE l = true) (h : ([.type "ValueError", .type "Exception", .type "BaseException", .type "object"] : List Value).contains (.type n) = true) : l.contains (.type n) = true := by
  have q : l = l.takeWhile isR ++ l.dropWhile isR := (List.takeWhile_append_dropWhile).symm
  rw [q, show l.dropWhile isR = _ from beq_iff_eq.mp e, List.contains_append, h, Bool.or_true]
structure ExcF (K : PySem.W.Frag) (C : Addr) : Prop where
  ov : ((PySem.W.clsIn K C).any fun cd => overVE cd.mro) = true
  hd : PySem.W.hasDictIn K C = true
  sa : PySem.W.findIn K (.ref C) "__setattr__" = some (some (.builtin "object.__setattr__"))
  ga : PySem.W.findIn K (.ref C) "__getattribute__" = some (some (.builtin "BaseException.__getattribute__"))
  no : PySem.W.findIn K (.ref C) "__getattr__" = some none
  is : PySem.W.isClsIn K C = true
section
variable {prog : Program} {w : World} {A : Around} {E : Value → Shared → Prop} {s : Shared} {K : PySem.W.Frag} {x C : Addr} {name : Str} {v : Value} {ox : Obj} {vs : Array Value}
theorem osa_exc {od : Option Obj} {tk : Tok} {R : Result → Shared → Prop} (X : K.In s.heap) (B : ExcF K C) (ht : PySem.W.findIn K (.ref C) name = some none) (I : PySem.W.InstAt s.heap x ox C od)
    (h : wpAny (model prog w) A.in1 (storeInOwnDict (.ref x) (.ref C) (.str name tk) name v false)
      (fun fin s' => match fin with | .done f => R (.ok f) s' | .again c' => c'.quiet = true ∧ codeAny (model prog w) A c' R s') (fun e s' => R (.error e) s') s) :
    codeAny (model prog w) A (.call (.builtin "object.__setattr__") ⟨[.ref x, .str name tk, v], []⟩) R s := by
  have SF := PySem.F.store_object
  obtain ⟨cd, hcd, ho⟩ := PySem.W.any_some B.ov
  have ne : cd.mro.isEmpty = false := by cases q : cd.mro with | nil => rw [q] at ho; cases ho | cons _ _ => rfl
  have sub : PySem.W.Looks (model prog w) s.heap (isInstance (.ref x) (.type "object")) true := I.type.andThen (PySem.W.looks_mroIn X (by unfold PySem.W.mroIn; rw [hcd, Option.bind_some, if_neg (by rw [ne]; decide), ve_has ho (by decide)]))
  refine codeAny_call_builtin SF.slot.plain SF.entry (@PySem.W.check_slot (model prog w) _ _ s "object.__setattr__" "object" "__setattr__" (.ref x) [.str name tk, v] [] _ SF.kind SF.split sub (SF.args (.ref x) (.str name tk) v) ?_)
  have hm : PySem.W.Looks (model prog w) s.heap (mroOf (.ref C)) cd.mro := (PySem.W.looks_clsIn X hcd).andThen .now
  rw [PySem.W.osa_eq, refuse_eq]
  refine wpAny_bind (wpAny_bind (I.type.here (wpAny_bind (hm.here ?_))))
  rw [refuse_ve _ ho]
  have L3 : PySem.W.Looks (model prog w) s.heap (storeTaker? none) none := .now
  refine wpAny_pure (wpAny_bind (I.type.here (wpAny_bind ((PySem.W.looks_findIn X ht).here (wpAny_bind (L3.here ?_))))))
  exact h
theorem exc_store {Q : Unit → Shared → Prop} (X : K.In s.heap) (B : ExcF K C) (ht : PySem.W.findIn K (.ref C) name = some none) (hx : s.heap.get? x = some ox) (hc : ox.cls = .ref C) (hdat : ox.data = .fields vs) (hdn : ox.dict = none)
    (h : ∀ h' tk, h'.get? x = some { ox with dict := some s.heap.objs.size } → h'.Ns1 s.heap.objs.size (fun y => if y = name then some v else none) → (∀ b o, b ≠ x → s.heap.get? b = some o → h'.get? b = some o) → Q () { s with heap := h', toks := tk }) :
    wpAny (model prog w) A (setAttr (.ref x) name v) Q E s := by
  have I : PySem.W.InstAt s.heap x ox C none := ⟨hx, hc, by unfold PySem.W.notCls; rw [hdat], by rw [hdn]; trivial⟩
  refine PySem.W.set_plain X I B.sa (osa_exc (s := { s with toks := s.toks + 1 }) X B ht I ?_)
  obtain ⟨cd2, hc2, hd2⟩ := PySem.W.any_some B.hd
  obtain ⟨oc, odi, oda, osl⟩ := ox
  dsimp only at hc hdat hdn
  subst hc hdat hdn
  refine wpAny_bind (wpAny_pure (wpAny_bind (wpAny_bind (wpAny_loadPart hx (wpAny_bind (PySem.W.Looks.here (s := { s with toks := s.toks + 1 }) (PySem.W.looks_clsIn X hc2) ?_))))))
  rw [hd2]
  have hx1 : (s.heap.push { cls := .type "dict", data := .dict #[] }).get? x = some ⟨.ref C, none, .fields vs, osl⟩ := Heap.get?_push_of_some _ hx
  have ne : x ≠ s.heap.objs.size := Nat.ne_of_lt (Heap.lt_size hx)
  refine wpAny_bind (s := { s with toks := s.toks + 1 }) (wpAny_alloc' ?_)
  refine wpAny_bind (wpAny_update' hx1 (wpAny_pure ?_))
  have hgd : ((s.heap.push { cls := .type "dict", data := .dict #[] }).update x fun o => { cls := o.cls, dict := some s.heap.objs.size, data := o.data, slots := o.slots }).get? s.heap.objs.size = some { cls := .type "dict", data := .dict #[] } :=
    (Heap.get?_update_other _ _ ne).trans (Heap.get?_push_size _ rfl)
  have hnd : ((s.heap.push { cls := .type "dict", data := .dict #[] }).update x fun o => { cls := o.cls, dict := some s.heap.objs.size, data := o.data, slots := o.slots }).Ns s.heap.objs.size (fun _ => none) :=
    ⟨_, #[], _, hgd, rfl, fun e he => absurd he (by simp), fun _ => rfl⟩
  show wpAny _ _ (storeInDict s.heap.objs.size (.str name s.toks) name v) _ _ _
  unfold storeInDict newKeyGuard
  refine wpAny_bind (wpAny_pure (wpAny_bind (wpAny_nsSet1 (Heap.Ns1.of_empty hnd) fun h2 n2 sb => ?_)))
  obtain ⟨oD, esD, epD, hoD, hdD, hcD⟩ := n2.count (Within.cons name v Within.nil)
  refine wpAny_bind (wpAny_lookBehind hoD (by rw [hdD]; exact pastItsLine_dict (Nat.le_trans hcD (by rw [List.length_cons, List.length_nil, sizeLine_eq]; (first | lia | omega)))) ?_)
  refine wpAny_pure (h h2 _ ?_ n2 fun b o nb q => ?_)
  · exact (sb.2 x ne).trans (Heap.get?_update_self _ hx1 rfl)
  · exact (sb.2 b (Nat.ne_of_lt (Heap.lt_size q))).trans ((Heap.get?_update_other _ _ nb.symm).trans (Heap.get?_push_of_some _ q))
end
end L3

namespace L3
open PySem PySem.Spec PyProof.Rows L2 Ra
structure FlyD (outer : List Env) (H : Hp) (h0 : Heap) (a : Addr) (C : Value) (dx : Option Addr) (h : Heap) : Prop where
  ex : ∃ B T, FlD B outer a C dx .none h ∧ (∀ b o, h.get? b = some o → b ∉ frs outer → b ≠ a → b ≠ T → B.get? b = some o) ∧ H a = none ∧ H T = none ∧ h0.get? a = none ∧ h0.get? T = none
theorem FlyD.of {outer : List Env} {H : Hp} {h0 B h : Heap} {a : Addr} {C : Value} {dx : Option Addr} (hf : FlD B outer a C dx .none h) (ha : H a = none) (h0a : h0.get? a = none)
    (hT : ∀ T oT ts, B.get? T = none → h.get? T = some oT → oT.data = .fields ts → T ≠ a → H T = none ∧ h0.get? T = none) : FlyD outer H h0 a C dx h := by
  obtain ⟨f1, f2, f3, oe, vs, T, oT, ts, he, ⟨hB, hne⟩, hT', hdT, h3⟩ := hf
  obtain ⟨t1, t2⟩ := hT T oT ts hB hT' hdT hne
  refine ⟨PySem.W.hideAll h (frs outer ++ [a, T]), T, ⟨fun b o q => PySem.W.of_hideAll _ q, PySem.W.hideAll_none _ (by simp), PySem.W.funFrames_hide f3 fun env he b hb => List.mem_append_left _ (List.mem_filterMap.mpr ⟨env, he, hb⟩), oe, vs, T, oT, ts, he, ⟨PySem.W.hideAll_none _ (by simp), hne⟩, hT', hdT, h3⟩,
    fun b o q n1 n2 n3 => PySem.W.hideAll_get _ q fun z => ?_, ha, t1, h0a, t2⟩
  rcases List.mem_append.mp z with z | z
  · exact n1 z
  · simp at z
    exact z.elim n2 n3
noncomputable def CXd (P : Program) (w : World) : CXT := fun outer H s E e s' => ∃ a C dx H', e = .ref a ∧ s'.os = s.os ∧ AllBare s'.gens ∧ Un (frs outer) [] H H' s.heap s'.heap ∧ HOk P w H' s'.heap ∧ FlyD outer H' s.heap a C dx s'.heap ∧ E C dx H'
section
variable {P : Program} {w : World} {K : PySem.W.Frag} {mg : Str → Option Value} {base : Heap} {N : List Str} {qual : Str} {scope : Scope} {f : Addr} {cd : Value} {A : Around} {outer : List Env} {s : Shared} {H : Hp} {E : XK}
  {pins : List (Addr × Obj)} {σ : L2.St} {H1 : Hp} {s1 : Shared}
theorem left_unD {h2 : Heap} (I : Inv (cxOf (CXd P w) P w K mg base N qual scope f cd A outer s H E) pins σ H1 s1) (bad : Addr → Prop) (hbad : ∀ b, bad b → s.heap.get? b = none ∧ H1 b = none)
    (kk : ∀ b o, s1.heap.get? b = some o → b ∉ frs (envOfC qual scope s.heap.objs.size f cd :: outer) → ¬ bad b → h2.get? b = some o)
    (ks : ∀ b o, s1.heap.get? b = some o → b ∈ frs (envOfC qual scope s.heap.objs.size f cd :: outer) → ∃ sl, h2.get? b = some { o with slots := sl }) :
    Un (frs outer) [] H H1 s.heap h2 ∧ HOk P w H1 h2 := by
  have nfr : ∀ b o, s.heap.get? b = some o → b ∉ frs outer → b ∉ frs (envOfC qual scope s.heap.objs.size f cd :: outer) := fun b o q nb hb => by
    rcases List.mem_cons.mp (show b ∈ s.heap.objs.size :: frs outer from hb) with z | z
    · rw [z] at q
      exact absurd (Heap.lt_size q) (Nat.lt_irrefl _)
    · exact nb z
  have nbad : ∀ b o, s.heap.get? b = some o → ¬ bad b := fun b o q z => by rw [(hbad b z).1] at q; cases q
  have nex : ∀ b, b ∉ (cxOf (CXd P w) P w K mg base N qual scope f cd A outer s H E).ex := fun b z => absurd (show b ∈ ([] : List Addr) from z) (by simp)
  refine ⟨⟨fun b o q n hb _ => kk b o (I.base.keep b o q n hb (nex b)) (nfr b o q hb) (nbad b o q), fun b o q n hb _ => ?_, fun b o q n _ => I.base.free b o q n (nex b), fun b o q _ => ?_, I.base.tups, I.base.frzs, I.base.tbls⟩, fun b ob q => ?_⟩
  · obtain ⟨sl, q1⟩ := I.base.slot b o q n hb (nex b)
    obtain ⟨sl', q2⟩ := ks b _ q1 (List.mem_cons_of_mem _ hb)
    exact ⟨sl', q2⟩
  · obtain ⟨o', q1⟩ := I.base.there b o q (nex b)
    by_cases hb : b ∈ frs (envOfC qual scope s.heap.objs.size f cd :: outer)
    · obtain ⟨sl, q2⟩ := ks b o' q1 hb
      exact ⟨_, q2⟩
    · exact ⟨o', kk b o' q1 hb (nbad b o q)⟩
  · have tr : ∀ c u, H1 c = some u → c ∉ frs (envOfC qual scope s.heap.objs.size f cd :: outer) ∧ ¬ bad c := fun c u e => by
      refine ⟨fun z => ?_, fun z => ?_⟩
      · have := I.stkFree c z
        rw [e] at this
        cases this
      · have := (hbad c z).2
        rw [e] at this
        cases this
    refine (I.hok b ob q).stay (fun c u hc qc => ?_) (fun _ z => z) fun _ _ z => z
    have t : c ∉ frs (envOfC qual scope s.heap.objs.size f cd :: outer) ∧ ¬ bad c := by
      rcases hc with rfl | hc
      · exact tr c ob q
      · exact tr c _ hc
    exact kk c u qc t.1 t.2
end
end L3

namespace L3
open PySem PySem.Spec PyProof.Rows L2 Ra
structure CalY (P : Program) (w : World) (K : PySem.W.Frag) (mg : Str → Option Value) (base : Heap) (x : Str) (k : Nat) (ps : List Str) (ds : List Value) (dvs : List V) (sp : Sp) : Prop where
  ex : ∃ f fd, FnOk P w K mg base (CXd P w) k f fd ps sp ∧ Binds K fd ps ds ∧ PySem.W.keepIn K (.ref f) = true ∧ mg x = some (.ref f)
  dv : Vals dvs ds
noncomputable def XPD (X : Cx) (pins : List (Addr × Obj)) (R : Value → Option Addr → L2.St → Hp → Prop) (e : Value) (s' : Shared) : Prop :=
  ∃ a C dx σ' H' H1 s1, e = .ref a ∧ Inv X pins σ' H1 s1 ∧ Inv X pins σ' H' s' ∧ FlyD X.stack H' s1.heap a C dx s'.heap ∧ R C dx σ' H'
noncomputable def PSxD (X : Cx) (st : Stmt) (t : (Value → Option Addr → L2.St → Hp → Prop) → TS) : Prop :=
  ∀ (pins : List (Addr × Obj)) (s : Shared) (σ : L2.St) (H : Hp) (D : Ends) (R : Value → Option Addr → L2.St → Hp → Prop), Inv X pins σ H s → t R D σ H → wpAny (model X.prog X.w) X.A (exec st X.env) (SP X pins D) (XPD X pins R) s
noncomputable def tXCallD (sp : Sp) (dvs : List V) (t : TA) : (Value → Option Addr → L2.St → Hp → Prop) → TS := fun R D σ H => t σ H fun vs H1 => sp (vs ++ dvs) H1 (fun _ H2 => D.nx σ H2) fun C dx H2 => R C dx σ H2
section
variable {X : Cx} {pins : List (Addr × Obj)} {σ : L2.St} {H : Hp} {s : Shared}
noncomputable def ExcAtD (a : Addr) (C : Value) (dx : Option Addr) (h : Heap) : Prop := ∃ o, h.get? a = some o ∧ o.cls = C ∧ o.dict = dx ∧ ∃ vs, o.data = .fields vs
end
noncomputable def tTryD (K : PySem.W.Frag) (C0 : Addr) (i : Nat) (tb : (Value → Option Addr → L2.St → Hp → Prop) → TS) (ts : Addr → TS) : TS := fun D σ H =>
  tb (fun C dx σ' H' => PySem.W.exmOne K C (.ref C0) = some true ∧ ∀ a, H' a = none → ts a (unb i D) (σ'.set i (some (.ref a))) (upd H' a (.ext (ExcAtD a C dx)))) D σ H
end L3

namespace L3
open PySem PySem.Spec PySem.Calls PyProof.Rows L2 Ra Builtin Builtin.ObjectAttr
section
variable {prog : Program} {w : World} {A : Around} {E : Value → Shared → Prop} {h : Heap} {g : Array GenState} {d : Drawn} {t : Nat} {os : OsState} {K : PySem.W.Frag} {x C : Addr} {name : Str} {v : Value} {ox : Obj} {od : Option Obj}
end
end L3

namespace L3
open PySem PySem.Spec PyProof.Rows L2 Ra
noncomputable def tFldX (K : PySem.W.Frag) (ta : TE) (f : Str) : TE := fun σ H Q => ta σ H fun x H1 => ∃ a C d fs v, x = .ref a ∧ H1 a = some (.ext (ExcAtD a (.ref C) (some d))) ∧ ExcCls K C ∧ PySem.W.hasDictIn K C = true ∧ NoAttr K C f ∧ H1 d = some (.xd fs) ∧ fs.lookup f = some v ∧ Q v H1
noncomputable def NewX (a : Addr) (C : Value) (dx : Option Addr) (h : Heap) : Prop := ∃ o vs, h.get? a = some o ∧ o.cls = C ∧ o.dict = dx ∧ o.data = .fields vs ∧ vs[1]? = some .none ∧ vs[2]? = some .none
theorem NewX.ok {P : Program} {w : World} {H : Hp} {h : Heap} {a : Addr} {C : Value} {dx : Option Addr} (x : NewX a C dx h) : ObjOk P w H h a (.ext (NewX a C dx)) := by
  obtain ⟨o, vs, e, r⟩ := x
  exact ⟨⟨o, vs, e, r⟩, ⟨o, e⟩, fun h1 h2 ⟨o1, v1, e1, r1⟩ k => ⟨o1, v1, k o1 e1, r1⟩⟩
noncomputable def sFldX (K : PySem.W.Frag) (ta tv : TE) (f : Str) : TS := fun D σ H => tv σ H fun y H1 => ta σ H1 fun x H2 => ∃ a C, x = .ref a ∧ H2 a = some (.ext (NewX a (.ref C) none)) ∧ ExcF K C ∧ NoAttr K C f ∧
  ∀ d, H2 d = none → d ≠ a → D.nx σ (upd (upd H2 d (.xd [(f, y)])) a (.ext (NewX a (.ref C) (some d))))
theorem ps_fldX {X : Cx} {o value : Expr} {f : Str} {pos pos' : Pos} {ta tv : TE} (ha : PE X o ta) (hv : PE X value tv) (hs : swapsWith value (some (.Attribute o f pos')) pos.line X.env = pure false) : PS X (.Assign [.Attribute o f pos'] value pos) (sFldX X.K ta tv f) := by
  intro pins s σ H D I h
  refine plainObj_wpAny_Assign_Attribute (thn (hv pins s σ H _ I h) fun u s1 ⟨y, H1, I1, ry, q⟩ => thn (ha pins s1 σ H1 _ I1 q) fun ov s2 ⟨x, H2, I2, rx, a, C, ex, ea, B, n, q2⟩ => ?_) hs
  subst ex
  obtain rfl : ov = Value.ref a := rx
  obtain ⟨⟨o, vs, h1, h2, h3, h4, h5⟩, _⟩ := (show ObjOk X.prog X.w H2 s2.heap a (.ext (NewX a (.ref C) none)) from I2.hok a _ ea)
  refine exc_store I2.kIn B n h1 h2 h4 h3 fun h' tk e1 e2 e3 => ⟨σ, _, ?_, q2 s2.heap.objs.size (I2.hok.fresh (Nat.le_refl _)) (Nat.ne_of_gt (Heap.lt_size h1))⟩
  have hf : H2 s2.heap.objs.size = none := I2.hok.fresh (Nat.le_refl _)
  have ne : s2.heap.objs.size ≠ a := Nat.ne_of_gt (Heap.lt_size h1)
  have nd : ∀ b ob, s2.heap.get? b = some ob → b ≠ s2.heap.objs.size := fun b ob q => Nat.ne_of_lt (Heap.lt_size q)
  have na : ∀ b, H2 b = none → b ≠ a := fun b q z => by rw [z, ea] at q; cases q
  have same : ∀ b u, H2 b = some u → b ≠ a → (upd (upd H2 s2.heap.objs.size (.xd [(f, y)])) a (.ext (NewX a (.ref C) (some s2.heap.objs.size)))) b = some u := fun b u q z => by
    rw [upd_ne z, upd_ne (fun w => by rw [w, hf] at q; cases q)]
    exact q
  refine I2.call' (s' := { s2 with heap := h', toks := tk }) (ch := []) rfl ⟨fun b ob q z _ _ => e3 b ob (na b z) q, fun b ob q z _ _ => ⟨ob.slots, e3 b ob (na b z) q⟩, fun b ob q z _ => ?_, fun b ob q _ => ?_, fun b xs q => same b _ q ?_, fun b ob u q => same b _ q ?_, fun b ps q => ⟨#[], ?_⟩⟩ (fun b ob q => ?_) I2.bare (fun b z => absurd z (by simp))
  · rw [upd_ne (na b z), upd_ne (nd b ob q)]
    exact z
  · by_cases z : b = a
    · exact ⟨_, z ▸ e1⟩
    · exact ⟨ob, e3 b ob z q⟩
  · intro z
    rw [z, ea] at q
    cases q
  · intro z
    rw [z, ea] at q
    cases q
  · rw [same b _ q fun z => by rw [z, ea] at q; cases q]
    simp
  · by_cases z : b = a
    · subst z
      rw [upd_same] at q
      cases q
      exact NewX.ok ⟨_, vs, e1, h2, rfl, h4, h5⟩
    · by_cases z2 : b = s2.heap.objs.size
      · subst z2
        rw [upd_ne ne, upd_same] at q
        cases q
        refine ⟨_, e2, fun g => ?_⟩
        by_cases w : g = f
        · subst w
          show RelO (List.lookup g [(g, y)]) (if g = g then some u else none)
          rw [if_pos rfl, List.lookup_cons, beq_self_eq_true]
          exact ry
        · show RelO (List.lookup g [(f, y)]) (if g = f then some u else none)
          rw [if_neg w, List.lookup_cons, beq_false_of_ne w]
          exact True.intro
      · rw [upd_ne z, upd_ne z2] at q
        refine (I2.hok b ob q).stay (fun c w hc qc => e3 c w (fun zz => ?_) qc) (fun c zz => same c _ zz fun w => by rw [w, ea] at zz; cases zz) fun c xs zz => same c _ zz fun w => by rw [w, ea] at zz; cases zz
        rcases hc with hc | hc
        · exact z (hc ▸ zz)
        · rw [zz, ea] at hc
          cases hc
end L3

namespace L3
open PySem PySem.Spec PySem.Calls PyProof.Rows L2 Ra
theorem ns_some_of {K : PySem.W.Frag} {h : Heap} {N : Addr} {m : Str → Option Value} {n : Str} {v : Value} (X : K.In h) (G : h.Ns N m) (e : PySem.W.nsIn K N n = some (some v)) : m n = some v := by
  obtain ⟨o, es, ep, ho, hd, _, hf⟩ := G
  unfold PySem.W.nsIn at e
  split at e
  · rename_i q
    have := X _ _ q
    rw [ho] at this
    cases this
    cases hd
    split at e
    · rename_i he
      cases e
      rw [← hf]
      unfold nsFind findBy
      rw [← Array.find?_toList, he]
      rfl
    · split at e <;> cases e
  · cases e
noncomputable def excInI (K : PySem.W.Frag) (C fI : Addr) : Bool := match K.lookup C with
  | some ⟨.type "type", _, .cls cd, sl⟩ => (match cd.mro, sl.toList with
    | .ref C' :: bm, [_, _, _, _, some (.builtin n), _] => C' == C && n == "ValueError.__new__" && !cd.hasDel && PySem.W.tailIn K veMro bm && PySem.W.nsOkIn K cd.ns && PySem.W.nsIn K cd.ns "__init__" == some (some (.ref fI))
    | _, _ => false)
  | _ => false
structure ErrI (K : PySem.W.Frag) (C fI : Addr) : Prop where
  ex : excInI K C fI = true
  fn : PySem.W.isFn K (.ref fI) = true
theorem ErrI.parts {K : PySem.W.Frag} {C fI : Addr} (e0 : ErrI K C fI) :
    ∃ bm Nn nm qn bs hd sn sub ab col dd k0 k1 k2 k3 k5 oI, K.lookup C = some (excClassObj nm qn C Nn bs bm hd sn sub ab col dd k0 k1 k2 k3 k5 "ValueError.__new__") ∧ PySem.W.nsOkIn K Nn = true ∧ PySem.W.nsIn K Nn "__init__" = some (some (.ref fI)) ∧ PySem.W.tailIn K veMro bm = true ∧
      K.lookup fI = some oI ∧ oI.cls = .type "function" := by
  have e := e0.ex
  unfold excInI at e
  split at e
  · rename_i d1 c1 l1 look
    split at e
    · rename_i C1 b1 x0 x1 x2 x3 n1 x5 em es
      simp only [Bool.and_eq_true, beq_iff_eq, Bool.not_eq_true'] at e
      obtain ⟨⟨⟨⟨⟨e1, e2⟩, e3⟩, e4⟩, e5⟩, e6⟩ := e
      subst e1 e2
      obtain ⟨nm, bs, mro, ns, qn, hd, sn, sub, ab, col, del⟩ := c1
      dsimp only at em e3 e5 e6
      subst em e3
      obtain ⟨arr⟩ := l1
      have es' : arr = [x0, x1, x2, x3, some (.builtin "ValueError.__new__"), x5] := es
      subst es'
      obtain ⟨oI, lI, cI⟩ := Option.map_eq_some_iff.mp (show (K.lookup fI).map (·.cls) = some (.type "function") from beq_iff_eq.mp e0.fn)
      exact ⟨b1, ns, nm, qn, bs, hd, sn, sub, ab, col, d1, x0, x1, x2, x3, x5, oI, look, e5, e6, e4, lI, cI⟩
    · cases e
  · cases e
section
variable {prog : Program} {w : World} {A : Around} {E : Value → Shared → Prop} {h : Heap} {g : Array GenState} {d : Drawn} {t : Nat} {os : OsState}
variable {nm q : Str} {C N : Addr} {bs bm bmB : List Value} {hdct : Bool} {sn : List Str} {sub : List Value} {ab : Bool} {col : Option Bool} {dd : Option Addr} {k0 k1 k2 k3 k5 : Option Value} {B newId initId : String}
theorem tcall_init (F : ExcBaseFacts B newId initId bmB) (T : OwnTail h bmB bm) {mN : Str → Option Value} {rest : List Value} {fI : Addr} {oI : Obj} {Q : Fin → Shared → Prop}
    (hC : h.get? C = some (excClassObj nm q C N bs bm hdct sn sub ab col dd k0 k1 k2 k3 k5 newId)) (hn : h.Ns N mN) (hi : mN "__init__" = some (.ref fI)) (hfI : h.get? fI = some oI) (hfc : oI.cls = .type "function") (hrest : rest.length ≤ sizeLine)
    (hq : ∀ h' e, Heap.MadeExcOf h h' e (.ref C) rest → wpAny (model prog w) A (call (.ref fI) (.ref e :: rest)) (fun r s' => r = .none ∧ Q (.done (.ret (.ref e))) s') E ⟨h', g, d, t, os⟩) :
    wpAny (model prog w) A (Builtin.«type.__call__» ⟨.ref C :: rest, []⟩) Q E ⟨h, g, d, t, os⟩ := by
  repeat (first | with_reducible refine wpAny_loadPart_at hC ?_ | with_reducible refine wpAny_madeBy_exc hC ?_ | wp_step)
  refine codeAny_call_builtin_code (Code.quiet_builtin _ F.quiet) (wpAny_check_new_subT F T hC (codeAny_exc_new_subT F T hC ?_ hrest))
  show wpAny _ _ _ _ _ _
  have kp : ∀ b o, h.get? b = some o → ((h.push { cls := .type "tuple", data := .seq rest.toArray }).push { cls := .ref C, data := .fields #[.ref h.objs.size, .none, .none, .none, .bool false, .none] }).get? b = some o :=
    fun b o e => Heap.get?_push_of_some _ (Heap.get?_push_of_some _ e)
  have hn1 := hn.keeps kp
  have T1 := T.keeps kp
  have hC1 := kp _ _ hC
  have hf1 := kp _ _ hfI
  have hget : ((h.push { cls := .type "tuple", data := .seq rest.toArray }).push { cls := .ref C, data := .fields #[.ref h.objs.size, .none, .none, .none, .bool false, .none] }).get? (h.objs.size + 1) = some
      { cls := .ref C, data := .fields #[.ref h.objs.size, .none, .none, .none, .bool false, .none] } := by heap_get
  have made : Heap.MadeExcOf h ((h.push { cls := .type "tuple", data := .seq rest.toArray }).push { cls := .ref C, data := .fields #[.ref h.objs.size, .none, .none, .none, .bool false, .none] }) (h.objs.size + 1) (.ref C) rest :=
    ⟨kp, Heap.get?_none_of_le (Nat.le_succ _), h.objs.size, hget, Heap.get?_none_of_le (Nat.le_refl _), Heap.get?_push_of_some _ (Heap.get?_push_at rfl rfl)⟩
  have hcC : (Value.ref C :: bm).contains (.ref C) = true := by simp
  unfold isInstance
  repeat (first | with_reducible refine wpAny_loadPart_at hget ?_ | (with_reducible refine wpAny_isSubtype_exc hC1 ?_; rw [hcC]) | wp_step)
  show wpAny _ _ (typeLookup (.ref C) _) _ _ _
  refine wpAny_typeLookup_tail hC1 hn1 T1 F.mroIs F.init.lookup ?_
  rw [hi]
  refine wpAny_holding (wpAny_bind ?_)
  unfold bindSpecial
  refine wpAny_bind (wpAny_typeOf (T := "function") ⟨_, hf1, hfc⟩ ?_)
  rw [if_pos (by decide)]
  refine wpAny_pure (wpAny_bind (wpAny_mono (hq _ (h.objs.size + 1) made) (fun r s' hr => ?_) fun _ _ x => x))
  obtain ⟨rfl, hQ⟩ := hr
  wp_walk
  exact hQ
theorem call_init (F : ExcBaseFacts B newId initId bmB) (T : OwnTail h bmB bm) {mN : Str → Option Value} {rest : List Value} {fI : Addr} {oI : Obj} {Q : Value → Shared → Prop}
    (hC : h.get? C = some (excClassObj nm q C N bs bm hdct sn sub ab col dd k0 k1 k2 k3 k5 newId)) (hn : h.Ns N mN) (hi : mN "__init__" = some (.ref fI)) (hfI : h.get? fI = some oI) (hfc : oI.cls = .type "function") (hrest : rest.length ≤ sizeLine)
    (hq : ∀ h' e, Heap.MadeExcOf h h' e (.ref C) rest → wpAny (model prog w) (A.under (.builtin "type.__call__" ⟨.ref C :: rest, []⟩)) (call (.ref fI) (.ref e :: rest)) (fun r s' => r = .none ∧ Q (.ref e) s') E ⟨h', g, d, t, os⟩) :
    wpAny (model prog w) A (call (.ref C) rest) Q E ⟨h, g, d, t, os⟩ := by
  have f1 := tc_lookup
  have f2 := tc_bind (.ref C)
  have hT : (⟨h, g, d, t, os⟩ : Shared).TypeIs (.ref C) "type" := ⟨_, hC, rfl⟩
  refine wpAny_call (codeAny_of_tree ?_)
  show wpAny _ _ (callAny (.ref C) _) _ _ _
  repeat (any_goals (first | assumption | with_reducible refine wpAny_loadPart_at hC ?_ | wp_step))
  refine ⟨rfl, ?_⟩
  exact codeAny_call_builtin_at (Code.quiet_builtin _ (by decide +kernel)) entry_typeCall (wpAny_check_type_call_sub hC (tcall_init F T hC hn hi hfI hfc hrest fun h' e hm => hq h' e hm))
end
section
variable {M : Model} {A : Around} {E : Value → Shared → Prop} {env : Env}
variable {nm q : Str} {C N : Addr} {bs bm : List Value} {hdct : Bool} {sn : List Str} {sub : List Value} {ab : Bool} {col : Option Bool} {dd : Option Addr} {k0 k1 k2 k3 k5 : Option Value} {newId : String}
theorem raise_any {s : Shared} {x : Sem Value} {Q : Flow → Shared → Prop} (hbase : bm.contains (.type "BaseException") = true) (hh : A.handled = none)
    (h : wpAny M A x (fun v s₁ => ∃ e oe vs, v = .ref e ∧ s₁.heap.get? C = some (excClassObj nm q C N bs bm hdct sn sub ab col dd k0 k1 k2 k3 k5 newId) ∧ s₁.heap.get? e = some oe ∧ oe.cls = .ref C ∧ oe.data = .fields vs ∧ vs[1]? = some .none ∧ E (.ref e) s₁) E s) :
    wpAny M A (raiseStmt env (some x) none) Q E s := by
  have hcB : (Value.ref C :: bm).contains (.type "BaseException") = true := by rw [List.contains_cons, hbase, Bool.or_true]
  unfold raiseStmt
  refine wpAny_bind (wpAny_mono h (fun v s₁ h₁ => ?_) fun _ _ x => x)
  obtain ⟨e, oe, vs, rfl, hC, he, hcl, hdt, h1, hE⟩ := h₁
  obtain ⟨hp, g, d, tk, os⟩ := s₁
  obtain ⟨oc, od, oda, osl⟩ := oe
  dsimp only at hcl hdt
  subst hcl hdt
  repeat (first | with_reducible refine wpAny_loadPart_at he ?_ | with_reducible refine wpAny_loadPart_at hC ?_ | (with_reducible refine wpAny_isSubtype_exc hC ?_; rw [hcB]) | wp_step)
  rw [h1]
  refine wpAny_pure ?_
  rw [if_neg (by decide)]
  exact wpAny_pure (wpAny_raiseNew_none hh hE)
end
noncomputable def drp (H : Hp) (a : Addr) : Hp := fun b => if b = a then none else H b
theorem drp_ne {H : Hp} {a b : Addr} (h : b ≠ a) : drp H a b = H b := if_neg h
theorem drp_same {H : Hp} {a : Addr} : drp H a a = none := if_pos rfl
theorem untracked {X : Cx} {pins : List (Addr × Obj)} {σ : L2.St} {H : Hp} {s : Shared} {a : Addr} {φ : Heap → Prop} (I : Inv X pins σ H s) (ha : H a = some (.ext φ)) : Inv X pins σ (drp H a) s := by
  have ne : ∀ b u, H b = some u → u ≠ .ext φ → b ≠ a := fun b u q n z => by
    rw [z, ha] at q
    cases q
    exact n rfl
  have dn : ∀ b, H b = none → drp H a b = none := fun b q => by
    by_cases z : b = a
    · rw [z]; exact drp_same
    · rw [drp_ne z]; exact q
  refine ⟨I.ok, I.os, I.bare, ⟨I.base.keep, I.base.slot, fun b o q n h2 => dn b (I.base.free b o q n h2), I.base.there, fun b xs q => ?_, fun b o u q => ?_, fun b ps q => ?_⟩, I.loc, I.cell, dn _ I.free, fun x c e => dn _ (I.freeC x c e), fun p hq => ?_, fun b ob q => ?_, I.len⟩
  · have q1 := I.base.tups b xs q
    rw [drp_ne (ne b _ q1 (by intro z; cases z))]
    exact q1
  · have q1 := I.base.frzs b o u q
    rw [drp_ne (ne b _ q1 (by intro z; cases z))]
    exact q1
  · obtain ⟨mr, q1⟩ := I.base.tbls b ps q
    exact ⟨mr, by rw [drp_ne (ne b _ q1 (by intro z; cases z))]; exact q1⟩
  · obtain ⟨q1, q2, q3⟩ := I.pin p hq
    exact ⟨q1, dn _ q2, q3⟩
  · have z : b ≠ a := fun z => by rw [z, drp_same] at q; cases q
    rw [drp_ne z] at q
    exact (I.hok b ob q).stay (fun _ _ _ w => w) (fun c w => by rw [drp_ne (ne c _ w (by intro z; cases z))]; exact w) fun c xs w => by rw [drp_ne (ne c _ w (by intro z; cases z))]; exact w
theorem track {X : Cx} {pins : List (Addr × Obj)} {σ : L2.St} {H : Hp} {s : Shared} {a : Addr} {φ : Heap → Prop} (I : Inv X pins σ H s) (ha : H a = none) (hs : X.s₀.heap.get? a = none) (hx : ∀ H', ObjOk X.prog X.w H' s.heap a (.ext φ)) (hL : a ≠ X.env.locals)
    (hc : ∀ x c, X.env.cells.lookup x = some c → c ≠ a) (hp : ∀ p ∈ X.pn ++ pins, p.1 ≠ a) : Inv X pins σ (upd H a (.ext φ)) s := by
  have ne : ∀ b u, H b = some u → b ≠ a := fun b u q z => by rw [z, ha] at q; cases q
  have up : ∀ b u, H b = some u → upd H a (.ext φ) b = some u := fun b u q => by rw [upd_ne (ne b u q)]; exact q
  refine ⟨I.ok, I.os, I.bare, ⟨I.base.keep, I.base.slot, fun b o q n h2 => ?_, I.base.there, fun b xs q => up b _ (I.base.tups b xs q), fun b o u q => up b _ (I.base.frzs b o u q), fun b ps q => ?_⟩, I.loc, I.cell, ?_, fun x c e => ?_, fun p hq => ?_, fun b ob q => ?_, I.len⟩
  · rw [upd_ne (fun z => by rw [z, hs] at q; cases q)]
    exact I.base.free b o q n h2
  · obtain ⟨mr, q1⟩ := I.base.tbls b ps q
    exact ⟨mr, up b _ q1⟩
  · rw [upd_ne hL.symm]
    exact I.free
  · rw [upd_ne (hc x c e)]
    exact I.freeC x c e
  · obtain ⟨q1, q2, q3⟩ := I.pin p hq
    exact ⟨q1, by rw [upd_ne (hp p hq)]; exact q2, q3⟩
  · by_cases hb : b = a
    · subst hb
      rw [upd_same] at q
      cases q
      exact hx _
    · rw [upd_ne hb] at q
      exact (I.hok b ob q).stay (fun _ _ _ z => z) (fun c z => up c _ z) fun c xs z => up c _ z
noncomputable def tRaiseI (E : XK) (C : Addr) (sp : Sp) (ta : TA) : TS := fun _ σ H => ta σ H fun vs H1 => vs.length ≤ sizeLine ∧ ∀ e, H1 e = none →
  sp (.ref e :: vs) (upd H1 e (.ext (NewX e (.ref C) none))) (fun r H2 => r = .non ∧ ∃ dx, H2 e = some (.ext (NewX e (.ref C) dx)) ∧ E (.ref C) dx (drp H2 e)) E0
section
variable {P : Program} {w : World} {K : PySem.W.Frag} {mg : Str → Option Value} {base : Heap} {N : List Str} {qual : Str} {scope : Scope} {f : Addr} {cd : Value} {A : Around} {outer : List Env} {s : Shared} {H : Hp} {E : XK}
end
end L3

namespace L3
open PySem PySem.Spec PyProof.Rows L2 Ra
structure CalCX (P : Program) (w : World) (K : PySem.W.Frag) (mg : Str → Option Value) (base : Heap) (x : Str) (C : Addr) (k : Nat) (ps : List Str) (sp : Sp) : Prop where
  ex : ∃ f fd, FnOk P w K mg base (CXd P w) k f fd ps sp ∧ Binds K fd ps [] ∧ Mk K C f ∧ mg x = some (.ref C)
section
variable {X : Cx} {C : Addr} {x : Str} {k j : Nat} {ps : List Str} {sp : Sp} {e : Expr} {es : List Expr} {t : TA} {p pos pos' : Pos}
noncomputable def tXMake (C : Addr) (sp : Sp) (t : TA) : (Value → Option Addr → L2.St → Hp → Prop) → TS := fun R D σ H => t σ H fun vs H1 => ∀ x dx, H1 x = none → H1 dx = none → dx ≠ x →
  sp (.ref x :: vs) (upd (upd H1 dx (.own x)) x (.ins C dx [])) (fun v H2 => v = .non ∧ D.nx σ H2) fun Cv d H2 => R Cv d σ H2
end
end L3

namespace L3
open PySem PySem.Spec PyProof.Rows L2 Ra
structure CalI (P : Program) (w : World) (K : PySem.W.Frag) (mg : Str → Option Value) (base : Heap) (x : Str) (C : Addr) (k : Nat) (ps : List Str) (sp : Sp) : Prop where
  ex : ∃ fI fd, ErrI K C fI ∧ PySem.W.keepIn K (.ref C) = true ∧ FnOk P w K mg base CX0 k fI fd ps sp ∧ Binds K fd ps [] ∧ mg x = some (.ref C)
end L3

namespace L3
open PySem PySem.Spec PyProof.Rows L2 Ra
noncomputable def Cn (e : Addr) (h : Heap) : Prop := ∃ oe vs, h.get? e = some oe ∧ oe.data = .fields vs ∧ vs[2]? = some .none
theorem Cn.of {e : Addr} {h h' : Heap} (x : Cn e h) (k : h'.get? e = h.get? e) : Cn e h' := by
  obtain ⟨oe, vs, a, b, c⟩ := x
  exact ⟨oe, vs, k.trans a, b, c⟩
section
variable {M : Model} {A : Around} {E : Value → Shared → Prop} {s : Shared} {base : Heap} {env : Env} {outer l : List Env} {L e : Addr} {C fl : Value} {dx : Option Addr} {Q : Unit → Shared → Prop}
theorem entryN {oe : Obj} {vs : Array Value} {head : Value} {nx : Bool} (hfr : A.frames = some (env :: outer)) (hl : s.heap.FunFrames base (env :: outer)) (hf : env.frame = some L)
    (he : s.heap.get? e = some oe) (hkb : base.StaysIn s.heap) (hen : base.get? e = none) (hd : oe.data = .fields vs) (hsz : 1 < vs.size) (hcx : vs[2]? = some .none)
    (h : ∀ h', FlD base (env :: outer) e oe.cls oe.dict (rawInt L) h' → Cn e h' → s.heap.UpToSlots h' → Q () { s with heap := h' }) :
    wpAny M A (do let a ← frameOf env; let pl ← entryPlaceOf L nx; let b ← EntryCells.newEntry head a .none (rawInt L) .none pl; setField (.ref e) 1 b) Q E s := by
  have rec_ : ∀ b o, s.heap.get? b = some o → (∀ ws, o.data ≠ .fields ws) → b ≠ e := fun b o q n z => by
    rw [z, he] at q
    cases q
    exact n vs hd
  have nfr : e ∉ (env :: outer).filterMap (·.frame) := fun z => by
    obtain ⟨_, o, q, n⟩ := hl.mem z
    exact rec_ e o q n rfl
  refine wpAny_bind (wpAny_frameOf_fun hfr hl hf fun h1 sl => ?_)
  refine wpAny_bind (wpAny_entryPlaceOf fun pl hpl => ?_)
  unfold EntryCells.newEntry newFields
  refine wpAny_bind (wpAny_newObj_type ?_ (hpl.sizeOk5 _ _ _ _ _))
  have st1 : base.StaysIn h1 := fun b o q => (sl.2.1 b fun z => by rw [(hl.mem z).1] at q; cases q).trans (hkb b o q)
  refine hang ((sl.2.1 e nfr).trans he) hd hsz rfl fun h2 ⟨o2, q2, c2, d2, f2⟩ tb keep => h h2 ⟨fun b o q => keep b o (fun z => by rw [z, hen] at q; cases q) (st1 b o q), hen, hl.of_keeps fun b o q n => ?_, ?_⟩ ⟨o2, _, q2, f2, by rw [Array.getElem?_setIfInBounds_ne (by decide)]; exact hcx⟩ fun b o q n => ?_
  · obtain ⟨z, w⟩ := sl.2.2 b o q
    exact ⟨_, keep b _ (rec_ b o q n) w, rfl⟩
  · refine ⟨o2, _, h1.objs.size, _, _, ⟨q2, c2, d2, f2, by simp [hsz]⟩, ⟨st1.fresh, fun z => ?_⟩, tb, rfl, by first | (simp; done) | (rcases hpl with rfl | ⟨_, _, _, _, _, _, _, rfl⟩ <;> simp)⟩
    have := Heap.lt_size ((sl.2.1 e nfr).trans he)
    rw [z] at this
    exact absurd this (Nat.lt_irrefl _)
  · obtain ⟨z, w⟩ := sl.2.2 b o q
    exact ⟨z, keep b _ (rec_ b o q n) w⟩
theorem note_firstN {oe : Obj} {vs : Array Value} (hfr : A.frames = some (env :: outer)) (hl : s.heap.FunFrames base (env :: outer)) (hf : env.frame = some L)
    (he : s.heap.get? e = some oe) (hkb : base.StaysIn s.heap) (hen : base.get? e = none) (hd : oe.data = .fields vs) (h1 : vs[1]? = some .none) (hcx : vs[2]? = some .none)
    (h : ∀ h', FlD base (env :: outer) e oe.cls oe.dict (rawInt L) h' → Cn e h' → s.heap.UpToSlots h' → Q () { s with heap := h' }) : wpAny M A (noteFrame (.ref e) env) Q E s := by
  unfold noteFrame
  simp only [hf]
  refine wpAny_bind (wpAny_field he hd h1 ?_)
  rw [if_neg (by decide)]
  exact entryN hfr hl hf he hkb hen hd (Array.getElem?_eq_some_iff.mp h1).1 hcx h
theorem note_onN (hfr : A.frames = some (env :: outer)) (hf : env.frame = some L) (x : FlD base (env :: outer) e C dx .none s.heap) (cn : Cn e s.heap)
    (h : ∀ h', FlD base (env :: outer) e C dx (rawInt L) h' → Cn e h' → s.heap.UpToSlots h' → Q () { s with heap := h' }) : wpAny M A (noteFrame (.ref e) env) Q E s := by
  obtain ⟨oe, vs, T, oT, ts, ⟨he, rfl, rfl, hd, h1⟩, ⟨hb, hTe⟩, hT, hdT, h3⟩ := x.tr
  obtain ⟨oe', vs', he', hd', hcx⟩ := cn
  rw [he] at he'
  cases he'
  rw [hd] at hd'
  cases hd'
  unfold noteFrame
  simp only [hf]
  refine wpAny_bind (wpAny_field he hd h1 ?_)
  rw [if_pos (show (Value.ref T != Value.none) = true from by simp)]
  refine wpAny_bind (wpAny_field hT hdT h3 ?_)
  rw [if_neg (show ¬ ((Value.none == rawInt L) = true) from by simp [rawInt])]
  refine wpAny_bind (turn x hT hdT h3 hb hTe fun h2 st fr oth _ up => ?_)
  exact entryN (s := { s with heap := h2 }) hfr fr hf ((oth e hTe.symm).trans he) st x.nw hd (Array.getElem?_eq_some_iff.mp h1).1 hcx fun h3 f3 cn3 up3 => h h3 f3 cn3 (up.trans up3)
theorem landsN (x : FlD base l e C dx fl s.heap) (cn : Cn e s.heap) (h : ∀ h', FlD base l e C dx .none h' → Cn e h' → s.heap.UpToSlots h' → Q () { s with heap := h' }) : wpAny M A (setFlight (.ref e) none) Q E s := by
  obtain ⟨oe, vs, T, oT, ts, ⟨he, hc, hx, hd, h1⟩, ⟨hb, hTe⟩, hT, hdT, h3⟩ := x.tr
  unfold setFlight
  refine wpAny_bind (wpAny_field he hd h1 ?_)
  rw [if_pos (show (Value.ref T != Value.none) = true from by simp)]
  refine turn x hT hdT h3 hb hTe fun h2 st fr oth ⟨o2, q2, d2⟩ up => h h2 ⟨st, x.nw, fr, oe, vs, T, o2, _, ⟨(oth e hTe.symm).trans he, hc, hx, hd, h1⟩, ⟨hb, hTe⟩, q2, d2, ?_⟩ (cn.of (oth e hTe.symm)) up
  have := (Array.getElem?_eq_some_iff.mp h3).1
  simp [this]
theorem leaves_firstN {oe : Obj} {vs : Array Value} (hfr : A.frames = some (env :: outer)) (hl : s.heap.FunFrames base (env :: outer)) (hf : env.frame = some L)
    (he : s.heap.get? e = some oe) (hkb : base.StaysIn s.heap) (hen : base.get? e = none) (hd : oe.data = .fields vs) (h1 : vs[1]? = some .none) (hcx : vs[2]? = some .none)
    (h : ∀ h', FlD base outer e oe.cls oe.dict .none h' → Cn e h' → s.heap.UpToSlots h' → Q () { s with heap := h' }) : wpAny M A (leaving env (.ref e)) Q E s := by
  unfold leaving
  exact wpAny_bind (note_firstN hfr hl hf he hkb hen hd h1 hcx fun h2 f2 cn2 up2 => landsN (s := { s with heap := h2 }) f2 cn2 fun h3 f3 cn3 up3 => h h3 f3.tail cn3 (up2.trans up3))
theorem came_back {a0 : Value} (hf : env.frame = some L) (hh : Heap.HeldW base l e C a0 L s.heap) (h : ∀ h', Heap.HeldW base l e C a0 L h' → s.heap.UpToSlots h' → E (.ref e) { s with heap := h' }) : cameBackBy M A env E (.ref e) s := by
  obtain ⟨f1, f2, f3, oe, vs, T, oT, ts, he, hcls, hd, h1, hnT, hTe, hT, hdT, h3⟩ := hh
  have hsz3 : 3 < ts.size := (Array.getElem?_eq_some_iff.mp h3).1
  have other : ∀ b, b ≠ T → (s.heap.update T (Obj.mapFields (·.setIfInBounds 3 (rawInt ↑L)))).get? b = s.heap.get? b := fun b hb => Heap.get?_update_other _ _ (Ne.symm hb)
  have noRecord : ∀ b o, s.heap.get? b = some o → (∀ vs, o.data ≠ .fields vs) → b ≠ T := fun b o hb hnf q => by
    rw [q, hT] at hb; injection hb with hb; subst hb; exact hnf ts hdT
  unfold cameBackBy
  refine wpAny_bind (wpAny_field he hd h1 ?_)
  rw [if_neg (show ¬ ((Value.ref T == Value.none) = true) from by simp)]
  unfold setFlight
  refine wpAny_bind (wpAny_field he hd h1 ?_)
  rw [if_pos (show (Value.ref T != Value.none) = true from by simp), hf]
  refine wpAny_setField hT hdT hsz3 (h _ ⟨fun b o hbo => (other b fun q => by rw [q, hnT] at hbo; cases hbo).trans (f1 b o hbo), f2, f3.of_keeps fun b o hb hnf => ⟨o, (other b (noRecord b o hb hnf)).trans hb, rfl⟩, ?_⟩ fun b o hb hnf => ⟨o.slots, (other b (noRecord b o hb hnf)).trans hb⟩)
  exact ⟨oe, vs, T, _, _, (other e (Ne.symm hTe)).trans he, hcls, hd, h1, hnT, hTe, Heap.get?_update_self _ hT (Obj.isFreed_of_fields (Obj.data_mapFields hdT _)), Obj.data_mapFields hdT _, by simp [hsz3]⟩
end
noncomputable def CXn (P : Program) (w : World) : CXT := fun outer H s E e s' => CXd P w outer H s E e s' ∧ ∀ a, e = .ref a → Cn a s'.heap
section
variable {P : Program} {w : World} {K : PySem.W.Frag} {mg : Str → Option Value} {base : Heap} {N : List Str} {qual : Str} {scope : Scope} {f : Addr} {cd : Value} {A : Around} {outer : List Env} {s : Shared} {H : Hp} {E : XK}
  {pins : List (Addr × Obj)} {σ : L2.St} {H1 : Hp} {s1 : Shared}
theorem inv_CX {CX CX' : CXT} (I : Inv (cxOf CX P w K mg base N qual scope f cd A outer s H E) pins σ H1 s1) : Inv (cxOf CX' P w K mg base N qual scope f cd A outer s H E) pins σ H1 s1 :=
  ⟨⟨I.ok.mod, I.ok.kind, I.ok.glob, I.ok.blt, I.ok.above, I.ok.inj, I.ok.has, I.ok.cab, I.ok.hd, I.ok.frames, I.ok.stk, I.ok.exf, I.ok.bs, I.ok.bsz, I.ok.noex, I.ok.exfs, I.ok.funs, I.ok.frf⟩, I.os, I.bare, I.base, I.loc, I.cell, I.free, I.freeC, I.pin, I.hok, I.len⟩
theorem leave_madeN {e C : Addr} {oe : Obj} {vs : Array Value} (I0 : Inv (cxOf (CXn P w) P w K mg base N qual scope f cd A outer s H E) pins σ H1 s1) (he : s1.heap.get? e = some oe) (hc : oe.cls = .ref C) (hd : oe.data = .fields vs) (h1 : vs[1]? = some .none) (hcx : vs[2]? = some .none)
    (hn : s.heap.get? e = none) (hH : H1 e = none) (hE : E (.ref C) oe.dict H1) : (cxOf (CXn P w) P w K mg base N qual scope f cd A outer s H E).xe (.ref e) s1 := by
  have I : Inv (cxOf (CXd P w) P w K mg base N qual scope f cd A outer s H E) pins σ H1 s1 := inv_CX I0
  show wpAny (model P w) (A.deeper (envOfC qual scope s.heap.objs.size f cd)) (leaving (envOfC qual scope s.heap.objs.size f cd) (.ref e)) _ _ s1
  have fsub : ∀ env ∈ (envOfC qual scope s.heap.objs.size f cd :: outer), ∀ b, env.frame = some b → b ∈ frs (envOfC qual scope s.heap.objs.size f cd :: outer) ++ [e] := fun env he b hb => List.mem_append_left _ (List.mem_filterMap.mpr ⟨env, he, hb⟩)
  refine leaves_firstN (base := PySem.W.hideAll s1.heap (frs (envOfC qual scope s.heap.objs.size f cd :: outer) ++ [e])) I.ok.frames (PySem.W.funFrames_hide I.stack fsub) rfl he (fun b o q => PySem.W.of_hideAll _ q) (PySem.W.hideAll_none _ (by simp)) hd h1 hcx fun h2 fl cn up => ?_
  have hid : ∀ b o, s1.heap.get? b = some o → b ∉ frs (envOfC qual scope s.heap.objs.size f cd :: outer) → b ≠ e → (PySem.W.hideAll s1.heap (frs (envOfC qual scope s.heap.objs.size f cd :: outer) ++ [e])).get? b = some o := fun b o q nb ne =>
    PySem.W.hideAll_get _ q fun z => by
      rcases List.mem_append.mp z with z | z
      · exact nb z
      · exact ne (by simpa using z)
  have ks : ∀ b o, s1.heap.get? b = some o → b ∈ frs (envOfC qual scope s.heap.objs.size f cd :: outer) → ∃ sl, h2.get? b = some { o with slots := sl } := fun b o q hb => by
    obtain ⟨_, o', q', hd⟩ := I.stack.mem hb
    rw [q] at q'
    cases q'
    exact up b o q hd
  obtain ⟨un, hok⟩ := left_unD I (fun b => b = e) (fun b z => by rw [z]; exact ⟨hn, hH⟩) (fun b o q nb ne => fl.st b o (hid b o q nb ne)) ks
  have nex : ∀ b, b ∉ (cxOf (CXd P w) P w K mg base N qual scope f cd A outer s H E).ex := fun b z => absurd (show b ∈ ([] : List Addr) from z) (by simp)
  refine ⟨⟨e, .ref C, oe.dict, H1, rfl, I.os, I.bare, un, hok, FlyD.of (hc ▸ fl) hH hn fun T oT ts hB hT hdT hne => ⟨?_, ?_⟩, hE⟩, fun a ea => by cases ea; exact cn⟩
  · cases q : H1 T with
    | none => rfl
    | some u =>
      obtain ⟨ob, qo⟩ := got (I.hok T u q)
      rw [hid T ob qo (fun z => by have := I.stkFree T z; rw [q] at this; cases this) hne] at hB
      cases hB
  · cases q : s.heap.get? T with
    | none => rfl
    | some o =>
      obtain ⟨o', q1⟩ := I.base.there T o q (nex T)
      by_cases hb : T ∈ frs (envOfC qual scope s.heap.objs.size f cd :: outer)
      · rcases List.mem_cons.mp (show T ∈ s.heap.objs.size :: frs outer from hb) with z | z
        · rw [z] at q
          exact absurd (Heap.lt_size q) (Nat.lt_irrefl _)
        · obtain ⟨_, o2, q2, hd2⟩ := fl.fr.mem z
          rw [hT] at q2
          cases q2
          exact absurd hdT (hd2 ts)
      · rw [hid T o' q1 hb hne] at hB
        cases hB
end
theorem okXN {P : Program} {w : World} {K : PySem.W.Frag} {mg : Str → Option Value} {base : Heap} {x qual : Str} {st : Stmt} {f : Addr} {fd : FuncData} {N ps : List Str} {k : Nat} {sp : Sp} {dV : Value}
    (F : ∃ (oc : Value) (od : Option Addr) (kV doc pm : Value) (an : Option Addr) (cdv ct : Value) (osl : Array (Option Value)),
      fd = PySem.W.fnOf x qual (defArgs st) (defBody st) (defScope st) dV kV doc pm an cdv ct ∧ K.lookup f = some ⟨oc, od, .func fd, osl⟩ ∧ PySem.W.codeIn K cdv qual = true)
    (S : FnScope N ps (defScope st)) (len : ∀ vs H Q E, sp vs H Q E → vs.length = ps.length)
    (hbody : ∀ (cdv : Value) (A : Around) (outer : List Env) (s : Shared) (H : Hp) (vs : List V) (Q : VK) (E : XK), Room k (A.deeper (envOfC qual (defScope st) s.heap.objs.size f cdv)) → sp vs H Q E →
      ∃ t, PSs (cxOf (CXn P w) P w K mg base N qual (defScope st) f cdv A outer s H E) (defBody st) t ∧ t { nx := fun _ H' => Q .non H', rt := Q } (start N vs) H) : FnOk P w K mg base (CXn P w) (k + 1) f fd ps sp := by
  obtain ⟨oc, od, kV, doc, pm, an, cdv, ct, osl, rfl, lk, hcd⟩ := F
  exact fn_of lk hcd S len fun A outer s H vs Q E hr hsp => hbody cdv A outer s H vs Q E hr hsp
theorem ps_raiseN {P : Program} {w : World} {K : PySem.W.Frag} {mg : Str → Option Value} {base : Heap} {N : List Str} {qual : Str} {scope : Scope} {f : Addr} {cd : Value} {A : Around} {outer : List Env} {s : Shared} {H : Hp} {E : XK}
    {x : Str} {C : Addr} {ps : List Str} {sp : Sp} {k j : Nat} {np cpos pos : Pos} {e0 : Expr} {rest : List Expr} {ta : TA} (Ci : CalI P w K mg base x C k ps sp)
    (hr : Room j (A.deeper (envOfC qual scope s.heap.objs.size f cd))) (ha : PA (cxOf (CXn P w) P w K mg base N qual scope f cd A outer s H E) (e0 :: rest) ta) (hkj : k + 1 ≤ j := by decide)
    (hg : Gl (cxOf (CXn P w) P w K mg base N qual scope f cd A outer s H E) x := by rfl) (hdb : (x == ("__debug__" : Str)) = false := by decide)
    (he : starEach (e0 :: rest) (envOfC qual scope s.heap.objs.size f cd) = (false, eval e0 (envOfC qual scope s.heap.objs.size f cd)) :: starEach rest (envOfC qual scope s.heap.objs.size f cd) := by rfl)
    (hpl : (backTo cpos (starEach rest (envOfC qual scope s.heap.objs.size f cd))).any (·.1) = false := by rfl) :
    PS (cxOf (CXn P w) P w K mg base N qual scope f cd A outer s H E) (.Raise (some (.Call (.Name x np) (e0 :: rest) [] cpos)) none pos) (tRaiseI E C sp ta) := by
  obtain ⟨fI, fd, ho, kp, F, hb, hm⟩ := Ci.ex
  intro pins s1 σ H1 D I h
  obtain ⟨bm, Nn, nm, qn, bs, hd, sn, sub, ab, col, dd, k0, k1, k2, k3, k5, oI, look, nok, nin, tl, lI, cI⟩ := ho.parts
  rw [arm_exec_Raise]
  refine wpAny_bind (wpAny_standAt (raise_any (C := C) (nm := nm) (q := qn) (N := Nn) (bs := bs) (bm := bm) (hdct := hd) (sn := sn) (sub := sub) (ab := ab) (col := col) (dd := dd) (k0 := k0) (k1 := k1) (k2 := k2) (k3 := k3) (k5 := k5) (newId := "ValueError.__new__")
    ((PySem.W.tail_of_in I.kIn tl).hasType PySem.F.excBase_ValueError.hasBase) (I.ok.hd rfl) (wpAny_bind (wpAny_mono (wpAny_Call_ofName (ld_glob I hg hm ?_ hdb)) (fun v s3 h3 => wpAny_bind (wpAny_standAt (wpAny_pure h3))) fun _ _ x => x))))
  refine PySem.W.callWith_K (h₀ := base) I.ok.mod.kin kp (thn (ha cpos pins s1 σ H1 _ I h) fun us s2 ⟨vs, H2, I2, r, hlen, q⟩ => ⟨I2.kIn, ?_⟩) he hpl
  have kin := I2.kIn
  have nex : ∀ b, b ∉ (cxOf (CXn P w) P w K mg base N qual scope f cd A outer s H E).ex := fun b z => absurd (show b ∈ ([] : List Addr) from z) (by simp)
  obtain ⟨hp2, g2, d2, t2, os2⟩ := s2
  have G : hp2.Ns Nn (hp2.nsMap Nn) := .of_isNs (PySem.W.isNs_of_in kin nok)
  refine call_init PySem.F.excBase_ValueError (PySem.W.tail_of_in kin tl) (kin _ _ look) G (ns_some_of kin G nin) (kin _ _ lI) cI (by rw [List.nil_append, ← r.length]; exact hlen) fun h' e hx => ?_
  obtain ⟨tt, at_, _, _⟩ := hx.there
  have gone : ∀ b o, hp2.get? b = some o → b ≠ e := fun b o qb z => by rw [z, hx.new] at qb; cases qb
  have hH : H2 e = none := by
    cases qe : H2 e with
    | none => rfl
    | some u =>
      obtain ⟨ob, qo⟩ := got (I2.hok e u qe)
      exact absurd rfl (gone e ob qo)
  have hs0 : s.heap.get? e = none := by
    cases qe : s.heap.get? e with
    | none => rfl
    | some o =>
      obtain ⟨o', q1⟩ := I2.base.there e o qe (nex e)
      exact absurd rfl (gone e o' q1)
  have I3 : Inv (cxOf (CXn P w) P w K mg base N qual scope f cd A outer s H E) pins σ (upd H2 e (.ext (NewX e (.ref C) none))) ⟨h', g2, d2, t2, os2⟩ :=
    track (I2.kept (t' := t2) fun b ob qb => hx.keeps b ob qb) hH hs0 (fun H' => NewX.ok ⟨_, _, at_, rfl, rfl, rfl, rfl, rfl⟩)
      (by obtain ⟨m, ⟨o, _, _, qo, _⟩, _⟩ := I2.loc; exact (gone _ o qo).symm) (fun y c ec => by obtain ⟨v, o, qo, _⟩ := I2.cell y c ec; exact gone c o qo) fun p hp => gone _ _ (I2.pin p hp).1
  have hq := q e hH
  have r2 : Vals (V.ref e :: vs) (Value.ref e :: us) := .cons rfl r
  have hl : (Value.ref e :: us ++ []).length = ps.length := by
    have z := r2.length
    rw [F.len _ _ _ _ hq] at z
    rw [List.append_nil]
    exact z.symm
  have hbt := hb ⟨h', g2, d2, t2, os2⟩ (Value.ref e :: us) I3.kIn hl
  rw [List.append_nil] at hbt
  refine wpAny_call (codeAny_mono (F.run _ _ _ _ ⟨Value.ref e :: us, []⟩ (Value.ref e :: us) _ _ E0 ((hr.mono hkj).make C us []) (I3.env0.make C us []) hbt r2 hq) fun res s4 h4 => ?_)
  cases res with
  | error ev => exact False.elim h4
  | ok fl =>
    cases fl with
    | ret u =>
      obtain ⟨v, H4, I4, rv, ev, dx, he4, hE⟩ := I3.after h4
      subst ev
      obtain ⟨⟨oe, ws, z1, z2, z3, z4, z5, z6⟩, _⟩ := (show ObjOk P w H4 s4.heap e (.ext (NewX e (.ref C) dx)) from I4.hok e _ he4)
      exact ⟨rv, e, oe, ws, rfl, I4.kIn _ _ look, z1, z2, z4, z5, leave_madeN (untracked I4 he4) z1 z2 z4 z5 z6 hs0 drp_same (z3 ▸ hE)⟩
    | next => exact False.elim h4
    | brk => exact False.elim h4
    | cont => exact False.elim h4
end L3

namespace L3
open PySem PySem.Spec PyProof.Rows L2 Ra
theorem unchain_none {prog : Program} {w : World} {A : Around} {E : Value → Shared → Prop} {s : Shared} {e a : Addr} {Q : Value → Shared → Prop} (cn : Cn a s.heap) (h : Q .none s) : wpAny (model prog w) A (runValue (.builtin "proto.unchain" ⟨[.ref e, .ref a, .ref a, .bool false], []⟩)) Q E s := by
  obtain ⟨oe, vs, h1, h2, h3⟩ := cn
  refine wpAny_runValue (codeAny_builtin (b := Builtin.«proto.unchain») (entryFor_of_tree (by kernel_rfl)) ?_)
  show wpAny _ _ (Builtin.«proto.unchain» _) _ _ _
  unfold Builtin.«proto.unchain»
  refine wpAny_bind (wpAny_field h1 h2 h3 ?_)
  rw [if_pos (by decide)]
  wp_walk
  exact h
section
variable {prog : Program} {w : World} {A : Around} {E : Value → Shared → Prop} {env : Env}
variable {nm q : Str} {C N : Addr} {bs bm : List Value} {hdct : Bool} {sn : List Str} {sub : List Value} {ab : Bool} {col : Option Bool} {dd : Option Addr} {k0 k1 k2 k3 k5 : Option Value} {newId : String}
theorem raise_from {s : Shared} {x c : Sem Value} {a : Addr} {Q : Flow → Shared → Prop} (hbase : bm.contains (.type "BaseException") = true) (hh : A.handled = some (.ref a))
    (hc : ∀ (R : Value → Shared → Prop) (s₁ : Shared), R .none s₁ → wpAny (model prog w) A c R E s₁)
    (h : wpAny (model prog w) A x (fun v s₁ => ∃ e t, v = .ref e ∧ s₁.heap.get? C = some (excClassObj nm q C N bs bm hdct sn sub ab col dd k0 k1 k2 k3 k5 newId) ∧
      s₁.heap.get? e = some { cls := .ref C, data := .fields #[.ref t, .none, .none, .none, .bool false, .none] } ∧ a ≠ e ∧ C ≠ e ∧ Cn a s₁.heap ∧
      ∀ h', (∀ b, b ≠ e → h'.get? b = s₁.heap.get? b) → h'.get? e = some { cls := .ref C, data := .fields #[.ref t, .none, .ref a, .none, .bool true, .none] } → E (.ref e) { s₁ with heap := h' }) E s) :
    wpAny (model prog w) A (raiseStmt env (some x) (some c)) Q E s := by
  have hcB : (Value.ref C :: bm).contains (.type "BaseException") = true := by rw [List.contains_cons, hbase, Bool.or_true]
  unfold raiseStmt
  refine wpAny_bind (wpAny_mono h (fun v s₁ h₁ => ?_) fun _ _ x => x)
  obtain ⟨e, t, rfl, hC, he, nae, nCe, cn, hE⟩ := h₁
  obtain ⟨hp, g, d, tk, os⟩ := s₁
  refine wpAny_bind (wpAny_holding (hc _ _ (wpAny_bind (wpAny_pure ?_))))
  repeat (first | with_reducible refine wpAny_loadPart_at he ?_ | with_reducible refine wpAny_loadPart_at hC ?_ | (with_reducible refine wpAny_isSubtype_exc hC ?_; rw [hcB]) | wp_step)
  have he1 := Heap.get?_update_self (Obj.mapFields fun x => x.setIfInBounds 3 Value.none) he rfl
  have he2 := Heap.get?_update_self (Obj.mapFields fun x => x.setIfInBounds 4 (Value.bool true)) he1 rfl
  have oth : ∀ b, b ≠ e → ((hp.update e (Obj.mapFields fun x => x.setIfInBounds 3 Value.none)).update e (Obj.mapFields fun x => x.setIfInBounds 4 (Value.bool true))).get? b = hp.get? b := fun b nb => by
    rw [Heap.get?_update_other _ _ nb.symm, Heap.get?_update_other _ _ nb.symm]
  generalize (hp.update e (Obj.mapFields fun x => x.setIfInBounds 3 Value.none)).update e (Obj.mapFields fun x => x.setIfInBounds 4 (Value.bool true)) = hp2 at *
  have cn2 : Cn a hp2 := cn.of (oth a nae)
  unfold raiseNew
  refine wpAny_bind (wpAny_handled ?_)
  rw [hh]
  dsimp only
  rw [if_pos (by simpa using nae)]
  refine wpAny_bind (wpAny_holding (unchain_none cn2 (wpAny_bind (wpAny_setField (i := 2) (x := .ref a) (vs := #[Value.ref t, .none, .none, .none, .bool true, .none]) he2 rfl (show 2 < 6 by decide) (wpAny_throw ?_)))))
  refine hE _ (fun b nb => ?_) ?_
  · rw [Heap.get?_update_other _ _ nb.symm]
    exact oth b nb
  · exact Heap.get?_update_self (Obj.mapFields fun x => x.setIfInBounds 2 (Value.ref a)) he2 rfl
end
section
variable {P : Program} {w : World} {K : PySem.W.Frag} {mg : Str → Option Value} {base : Heap} {N : List Str} {qual : Str} {scope : Scope} {f : Addr} {cd : Value} {A : Around} {outer : List Env} {s : Shared} {H : Hp} {E : XK}
  {pins : List (Addr × Obj)} {σ : L2.St} {H1 : Hp} {s1 : Shared}
theorem leave_from {h1 h2 : Heap} {e C t : Addr} {a : Value} {vs : List Value} (I : Inv (cxOf (CXe P w) P w K mg base N qual scope f cd A outer s H E) pins σ H1 s1) (hx : Heap.MadeExcOf s1.heap h1 e (.ref C) vs)
    (oth : ∀ b, b ≠ e → h2.get? b = h1.get? b) (he : h2.get? e = some { cls := .ref C, data := .fields #[.ref t, .none, a, .none, .bool true, .none] }) (hE : E (.ref C) none H1) (ha : Option Value) :
    notedBy (model P w) ((cxOf (CXe P w) P w K mg base N qual scope f cd A outer s H E).A.mark ha) (envOfC qual scope s.heap.objs.size f cd) (fun x s' => cameBackBy (model P w) (cxOf (CXe P w) P w K mg base N qual scope f cd A outer s H E).A (envOfC qual scope s.heap.objs.size f cd) (cxOf (CXe P w) P w K mg base N qual scope f cd A outer s H E).xe x s') (.ref e) { s1 with heap := h2 } := by
  have fsub : ∀ env ∈ (envOfC qual scope s.heap.objs.size f cd :: outer), ∀ b, env.frame = some b → b ∈ frs (envOfC qual scope s.heap.objs.size f cd :: outer) := fun env he b hb => List.mem_filterMap.mpr ⟨env, he, hb⟩
  have k2 : ∀ b o, s1.heap.get? b = some o → h2.get? b = some o := fun b o q => by
    rw [oth b (fun z => by rw [z, hx.new] at q; cases q)]
    exact hx.keeps b o q
  have st : (PySem.W.hideAll s1.heap (frs (envOfC qual scope s.heap.objs.size f cd :: outer))).StaysIn h2 := fun b o q => k2 b o (PySem.W.of_hideAll _ q)
  have ff : h2.FunFrames (PySem.W.hideAll s1.heap (frs (envOfC qual scope s.heap.objs.size f cd :: outer))) (envOfC qual scope s.heap.objs.size f cd :: outer) := (PySem.W.funFrames_hide I.stack fsub).of_keeps fun b o q _ => ⟨o, k2 b o q, rfl⟩
  have hen : (PySem.W.hideAll s1.heap (frs (envOfC qual scope s.heap.objs.size f cd :: outer))).get? e = none := by
    cases q : (PySem.W.hideAll s1.heap (frs (envOfC qual scope s.heap.objs.size f cd :: outer))).get? e with
    | none => rfl
    | some o =>
      have := PySem.W.of_hideAll _ q
      rw [hx.new] at this
      cases this
  show wpAny (model P w) _ (noteFrame (.ref e) (envOfC qual scope s.heap.objs.size f cd)) _ _ _
  unfold noteFrame
  refine wpAny_bind (wpAny_field (i := 1) (x := .none) he rfl rfl ?_)
  rw [if_neg (by decide)]
  refine wpAny_entryW (base := PySem.W.hideAll s1.heap (frs (envOfC qual scope s.heap.objs.size f cd :: outer))) (outer := outer) (a0 := .ref t) I.ok.frames ff rfl he st hen rfl (show 1 < 6 by decide) rfl fun h3 ⟨st3, ff3, tr3, up3⟩ => ?_
  refine came_back (s := { s1 with heap := h3 }) rfl ⟨st3, hen, ff3, tr3⟩ fun h4 held4 up4 => ?_
  show wpAny (model P w) (A.deeper (envOfC qual scope s.heap.objs.size f cd)) (leaving (envOfC qual scope s.heap.objs.size f cd) (.ref e)) _ _ _
  refine leave_at (s := { s1 with heap := h4 }) I.ok.frames rfl held4.1 hen held4.2.2.1 held4.2.2.2 fun h5 fl up5 => ?_
  have kk : ∀ b o, s1.heap.get? b = some o → b ∉ frs (envOfC qual scope s.heap.objs.size f cd :: outer) → h5.get? b = some o := fun b o q nb => fl.1 b o (PySem.W.hideAll_get _ q nb)
  have ks : ∀ b o, s1.heap.get? b = some o → b ∈ frs (envOfC qual scope s.heap.objs.size f cd :: outer) → ∃ sl, h5.get? b = some { o with slots := sl } := fun b o q hb => by
    obtain ⟨_, o', q', hd⟩ := I.stack.mem hb
    rw [q] at q'
    cases q'
    obtain ⟨sl3, e3⟩ := up3 b o (k2 b o q) hd
    obtain ⟨sl4, e4⟩ := up4 b _ e3 hd
    obtain ⟨sl5, e5⟩ := up5 b _ e4 hd
    exact ⟨sl5, e5⟩
  obtain ⟨un, hok⟩ := left_un I (fun _ => False) (fun _ z => z.elim) (fun b o q nb _ => kk b o q nb) ks
  have tr : ∀ c u, H1 c = some u → ∃ ob, s1.heap.get? c = some ob ∧ c ∉ frs (envOfC qual scope s.heap.objs.size f cd :: outer) := fun c u q => by
    obtain ⟨ob, qo⟩ := got (I.hok c u q)
    refine ⟨ob, qo, fun z => ?_⟩
    have := I.stkFree c z
    rw [q] at this
    cases this
  have nex : ∀ b, b ∉ (cxOf (CXe P w) P w K mg base N qual scope f cd A outer s H E).ex := fun b z => absurd (show b ∈ ([] : List Addr) from z) (by simp)
  refine ⟨e, .ref C, H1, rfl, I.os, I.bare, un, hok, Fly.of fl ?_ ?_ fun T oT ts hB hT hd hne => ⟨?_, ?_⟩, hE⟩
  · cases q : H1 e with
    | none => rfl
    | some u =>
      obtain ⟨ob, qo, _⟩ := tr e u q
      rw [hx.new] at qo
      cases qo
  · cases q : s.heap.get? e with
    | none => rfl
    | some o =>
      obtain ⟨o', q1⟩ := I.base.there e o q (nex e)
      rw [hx.new] at q1
      cases q1
  · cases q : H1 T with
    | none => rfl
    | some u =>
      obtain ⟨ob, qo, nb⟩ := tr T u q
      rw [PySem.W.hideAll_get _ qo nb] at hB
      cases hB
  · cases q : s.heap.get? T with
    | none => rfl
    | some o =>
      obtain ⟨o', q1⟩ := I.base.there T o q (nex T)
      by_cases hb : T ∈ frs (envOfC qual scope s.heap.objs.size f cd :: outer)
      · rcases List.mem_cons.mp (show T ∈ s.heap.objs.size :: frs outer from hb) with z | z
        · rw [z] at q
          exact absurd (Heap.lt_size q) (Nat.lt_irrefl _)
        · obtain ⟨_, o2, q2, hd2⟩ := fl.2.2.1.mem z
          rw [hT] at q2
          cases q2
          exact absurd hd (hd2 ts)
      · rw [PySem.W.hideAll_get _ q1 hb] at hB
        cases hB
end
end L3

namespace L3
open PySem PySem.Spec PyProof.Rows L2 Ra
structure CalCN (P : Program) (w : World) (K : PySem.W.Frag) (mg : Str → Option Value) (base : Heap) (x : Str) (C : Addr) (k : Nat) (ps : List Str) (sp : Sp) : Prop where
  ex : ∃ f fd, FnOk P w K mg base (CXn P w) k f fd ps sp ∧ Binds K fd ps [] ∧ Mk K C f ∧ mg x = some (.ref C)
noncomputable def sil (X : Cx) : Cx := { X with xe := fun _ _ => False }
theorem inSil {X : Cx} {pins : List (Addr × Obj)} {σ : L2.St} {H : Hp} {s : Shared} (I : Inv X pins σ H s) : Inv (sil X) pins σ H s :=
  ⟨⟨I.ok.mod, I.ok.kind, I.ok.glob, I.ok.blt, I.ok.above, I.ok.inj, I.ok.has, I.ok.cab, I.ok.hd, I.ok.frames, I.ok.stk, I.ok.exf, I.ok.bs, I.ok.bsz, I.ok.noex, I.ok.exfs, I.ok.funs, I.ok.frf⟩, I.os, I.bare, I.base, I.loc, I.cell, I.free, I.freeC, I.pin, I.hok, I.len⟩
theorem outSil {X : Cx} {pins : List (Addr × Obj)} {σ : L2.St} {H : Hp} {s : Shared} (I : Inv (sil X) pins σ H s) : Inv X pins σ H s :=
  ⟨⟨I.ok.mod, I.ok.kind, I.ok.glob, I.ok.blt, I.ok.above, I.ok.inj, I.ok.has, I.ok.cab, I.ok.hd, I.ok.frames, I.ok.stk, I.ok.exf, I.ok.bs, I.ok.bsz, I.ok.noex, I.ok.exfs, I.ok.funs, I.ok.frf⟩, I.os, I.bare, I.base, I.loc, I.cell, I.free, I.freeC, I.pin, I.hok, I.len⟩
theorem Cn.ok {P : Program} {w : World} {H : Hp} {h : Heap} {a : Addr} (x : Cn a h) : ObjOk P w H h a (.ext (Cn a)) := by
  obtain ⟨o, vs, e, r⟩ := x
  exact ⟨⟨o, vs, e, r⟩, ⟨o, e⟩, fun h1 h2 ⟨o1, v1, e1, r1⟩ k => ⟨o1, v1, k o1 e1, r1⟩⟩
theorem same_drp {H H2 : Hp} {a : Addr} {o : HO} (s : Same H H2) (n : H2 a = none) : Same H (drp (upd H2 a o) a) := fun b ob e => by
  have ne : b ≠ a := ne_of_none (s _ _ e) n
  rw [drp_ne ne, upd_ne ne]
  exact s _ _ e
noncomputable def tTryR (K : PySem.W.Frag) (C C0 CT : Addr) (sp : Sp) (t u : TA) (E : XK) : TS := fun D σ H => t σ H fun vs H1 => ∀ x dx, H1 x = none → H1 dx = none → dx ≠ x →
  sp (.ref x :: vs) (upd (upd H1 dx (.own x)) x (.ins C dx [])) (fun v H2 => v = .non ∧ D.rt (.ref x) H2) fun Cv _ H2 => PySem.W.exmOne K Cv (.ref C0) = some true ∧ ∀ a, H2 a = none → u σ (upd H2 a (.ext (Cn a))) fun ws H3 => ws.length ≤ sizeLine ∧ H3 a = some (.ext (Cn a)) ∧ E (.ref CT) none (drp H3 a)
section
variable {P : Program} {w : World} {K : PySem.W.Frag} {mg : Str → Option Value} {base : Heap} {N : List Str} {qual : Str} {scope : Scope} {f : Addr} {cd : Value} {A : Around} {outer : List Env} {s : Shared} {H : Hp} {E : XK}
theorem ps_tryR {x xn xt : Str} {C C0 CT : Addr} {k j : Nat} {ps : List Str} {sp : Sp} {e m0 : Expr} {es ms : List Expr} {t u : TA} {p pos rpos np tp cpos npos wpos hpos tpos : Pos} {kd : Nat}
    (Cc : CalCN P w K mg base x C k ps sp) (hr : Room j (A.deeper (envOfC qual scope s.heap.objs.size f cd))) (ha : PA (sil (cxOf (CXe P w) P w K mg base N qual scope f cd A outer s H E)) (e :: es) t)
    (hm : mg xn = some (.ref C0)) (hmT : mg xt = some (.ref CT)) (ho : OwnErr K CT) (hu : ∀ a, PA (hdl (cxOf (CXe P w) P w K mg base N qual scope f cd A outer s H E) a) (m0 :: ms) u)
    (hkj : k + 1 ≤ j := by decide) (hg : Gl (cxOf (CXe P w) P w K mg base N qual scope f cd A outer s H E) x := by rfl) (hgn : Gl (cxOf (CXe P w) P w K mg base N qual scope f cd A outer s H E) xn := by rfl) (hgt : Gl (cxOf (CXe P w) P w K mg base N qual scope f cd A outer s H E) xt := by rfl)
    (hdb : (x == ("__debug__" : Str)) = false := by decide) (hdn : (xn == ("__debug__" : Str)) = false := by decide) (hdt : (xt == ("__debug__" : Str)) = false := by decide)
    (he : starEach (e :: es) (envOfC qual scope s.heap.objs.size f cd) = (false, eval e (envOfC qual scope s.heap.objs.size f cd)) :: starEach es (envOfC qual scope s.heap.objs.size f cd) := by rfl)
    (hpl : (backTo pos (starEach es (envOfC qual scope s.heap.objs.size f cd))).any (·.1) = false := by rfl)
    (he' : starEach (m0 :: ms) (envOfC qual scope s.heap.objs.size f cd) = (false, eval m0 (envOfC qual scope s.heap.objs.size f cd)) :: starEach ms (envOfC qual scope s.heap.objs.size f cd) := by rfl)
    (hpl' : (backTo cpos (starEach ms (envOfC qual scope s.heap.objs.size f cd))).any (·.1) = false := by rfl) :
    PS (cxOf (CXe P w) P w K mg base N qual scope f cd A outer s H E) (.Try [.Return (some (.Call (.Name x p) (e :: es) [] pos)) rpos] [.ExceptHandler (some (.Name xn np)) none [.Raise (some (.Call (.Name xt tp) (m0 :: ms) [] cpos)) (some (.Constant .none kd npos)) wpos] hpos] [] [] tpos) (tTryR K C C0 CT sp t u E) := by
  obtain ⟨fc, fd, F, b, M, m⟩ := Cc.ex
  intro pins s0 σ H0 D I h
  refine wpAny_Try_except (wpAny_execs_cons ?_)
  refine wpAny_Return_some ?_
  have ha' := ha pos pins s0 σ H0 _ (inSil I) h
  refine wpAny_Call_Name_kw (ld_glob I hg m ?_ hdb)
  refine PySem.W.callWith_K (h₀ := base) I.ok.mod.kin M.kp (wpAny_mono ha' (fun us s1 h1 => ?_) fun _ _ z => False.elim z) he hpl
  obtain ⟨vs, H1, I1', r, q⟩ := h1
  have I1 := outSil I1'
  refine ⟨I1.kIn, ?_⟩
  have hq := q (s1.heap.objs.size + 1) s1.heap.objs.size (I1.hok.fresh (Nat.le_succ _)) (I1.hok.fresh (Nat.le_refl _)) (Nat.ne_of_lt (Nat.lt_succ_self _))
  have I2 := Inv.made (C := C) I1
  have r2 : Vals (V.ref (s1.heap.objs.size + 1) :: vs) (Value.ref (s1.heap.objs.size + 1) :: us) := .cons rfl r
  have hl : (Value.ref (s1.heap.objs.size + 1) :: us ++ []).length = ps.length := by
    have z := r2.length
    rw [F.len _ _ _ _ hq] at z
    rw [List.append_nil]
    exact z.symm
  have hbt := b _ (Value.ref (s1.heap.objs.size + 1) :: us) I2.kIn hl
  rw [List.append_nil] at hbt
  refine wpAny_call (make_map (f := fc) I1.kIn M.makes M.init (beq_iff_eq.mp M.fn) (codeAny_mono (F.run _ (envOfC qual scope s.heap.objs.size f cd :: outer) _ _ ⟨Value.ref (s1.heap.objs.size + 1) :: us, []⟩ (Value.ref (s1.heap.objs.size + 1) :: us) _ _ _ ((hr.mono hkj).make C us [])
    (I2.env0.make C us []) hbt r2 hq) fun res s2 h2 => ?_))
  cases res with
  | ok fl =>
    cases fl with
    | ret v0 =>
      obtain ⟨v, H2, I3, rv, ev, qv⟩ := I2.after h2
      subst ev
      exact ⟨rv, .ref (s1.heap.objs.size + 1), σ, H2, I3, rfl, qv⟩
    | next => exact False.elim h2
    | brk => exact False.elim h2
    | cont => exact False.elim h2
  | error ev =>
    obtain ⟨⟨a, Cv, dx, H2, rfl, os, bare, un, hok, fly, hx, hE⟩, cn⟩ := h2
    have I3 := I2.call' (s' := s2) (ch := []) os un hok bare (fun b z => absurd z (by simp))
    obtain ⟨B, T, fl, cov, hHa, hHT, h0a, h0T⟩ := fly.ex
    have cn2 := cn a rfl
    refine note_onN I3.ok.frames rfl fl cn2 fun h4 held4 cn4 up4 => ?_
    refine landsN (s := { s2 with heap := h4 }) held4 cn4 fun h5 fl5 cn5 up5 => ?_
    have I5 := landed rfl I2 I3 h0a h0T hHa hHT cov fl5.st (up4.trans up5)
    refine wpAny_handleBy_cons (codeAny_handlers_test (ld_glob (X := hdl (cxOf (CXe P w) P w K mg base N qual scope f cd A outer s H E) a) (inHdl I5 a) hgn hm ?_ hdn)) (by intro q; cases q)
    obtain ⟨oe, hoe, hoc, _⟩ := fl5.there
    have LT : PySem.W.Looks (model P w) h5 (typeOf (.ref a)) Cv := hoc ▸ (PySem.W.Looks.ld hoe).andThen .now
    refine (PySem.W.exm_one I5.kIn LT hx) _ _ _ _ (fun _ _ q => q) ?_
    refine codeAny_handlers_suite (landsN (s := { s2 with heap := h5 }) fl5 cn5 fun h6 fl6 cn6 up6 => ?_)
    have I6 := landed rfl I2 I3 h0a h0T hHa hHT cov fl6.st ((up4.trans up5).trans up6)
    refine wpAny_execs_cons ?_
    rw [arm_exec_Raise]
    obtain ⟨bm, Nn, nm, qn, bs, hd', sn, sub, ab, col, dd, k0, k1, k2, k3, k5, mN, hC, hN, hni, TT⟩ := ho.parts I6.mod.kin
    refine wpAny_bind (wpAny_standAt (raise_from (C := CT) (nm := nm) (q := qn) (N := Nn) (bs := bs) (bm := bm) (hdct := hd') (sn := sn) (sub := sub) (ab := ab) (col := col) (dd := dd) (k0 := k0) (k1 := k1) (k2 := k2) (k3 := k3) (k5 := k5) (newId := "ValueError.__new__") (a := a)
      (TT.hasType PySem.F.excBase_ValueError.hasBase) rfl (fun R s7 q7 => wpAny_bind (Constant_none (wpAny_bind (wpAny_standAt (wpAny_pure q7))))) ?_))
    refine wpAny_bind (wpAny_mono (wpAny_Call_ofName (ld_glob (X := hdl (cxOf (CXe P w) P w K mg base N qual scope f cd A outer s H E) a) (inHdl I6 a) hgt hmT ?_ hdt)) (fun v s₃ h₃ => wpAny_bind (wpAny_standAt (wpAny_pure h₃))) fun _ _ x => x)
    have ne0 : ∀ b o, ((s1.heap.push PySem.W.emptyDict).push (PySem.W.instObj C s1.heap.objs.size)).get? b = some o → b ≠ a := fun b o q z => by
      rw [z, h0a] at q
      cases q
    have hs0 : s.heap.get? a = none := by
      cases q : s.heap.get? a with
      | none => rfl
      | some o =>
        obtain ⟨o', q1⟩ := I2.base.there a o q (fun z => absurd (show a ∈ ([] : List Addr) from z) (by simp))
        exact absurd rfl (ne0 a o' q1)
    have I6t := track (φ := Cn a) I6 hHa hs0 (fun H' => Cn.ok cn6) (by
        obtain ⟨m, ⟨o, _, _, q, _⟩, _⟩ := I2.loc
        exact (ne0 _ o q).symm) (fun y c e => by
        obtain ⟨v, o, q, _⟩ := I2.cell y c e
        exact ne0 c o q) (fun p hp => ne0 _ _ (I2.pin p hp).1)
    have hu' := hu a cpos pins _ σ _ _ (inHdl I6t a) (hE a hHa)
    have q' : wpAny (model P w) ((A.deeper (envOfC qual scope s.heap.objs.size f cd)).mark (some (.ref a))) (spliced (backTo cpos (starEach (m0 :: ms) (envOfC qual scope s.heap.objs.size f cd)))) _ _ _ := hu'
    have hplain : (backTo cpos (starEach (m0 :: ms) (envOfC qual scope s.heap.objs.size f cd))).any (·.1) = false := by
      rw [he']
      show (false || (backTo cpos (starEach ms (envOfC qual scope s.heap.objs.size f cd))).any (·.1)) = false
      rw [hpl']
      rfl
    show wpAny (model P w) ((A.deeper (envOfC qual scope s.heap.objs.size f cd)).mark (some (.ref a))) (callWith cpos (.ref CT) [] (backTo cpos (starEach (m0 :: ms) (envOfC qual scope s.heap.objs.size f cd))) []) _ _ _
    unfold callWith
    refine wpAny_bind (wpAny_holding ?_)
    refine wpAny_mono (Q := fun ar s₂ => ar.kw = [] ∧ ar.pos.length ≤ sizeLine ∧ s₂.heap.get? CT = some (excClassObj nm qn CT Nn bs bm hd' sn sub ab col dd k0 k1 k2 k3 k5 "ValueError.__new__") ∧ s₂.heap.Ns Nn mN ∧ OwnTail s₂.heap veMro bm ∧ ∃ H7, Inv (cxOf (CXe P w) P w K mg base N qual scope f cd A outer s H E) pins σ H7 s₂ ∧ H7 a = some (.ext (Cn a)) ∧ E (.ref CT) none (drp H7 a)) ?_ (fun ar s₂ h₂ => wpAny_bind (wpAny_standAt ?_)) fun _ _ x => x
    · rw [he'] at q' ⊢
      refine Calls.evalArgs_plain (wpAny_mono q' (fun us7 s7 h7 => ?_) fun _ _ z => False.elim z)
      obtain ⟨ws, H7, I7', r7, hlen7, hE7⟩ := h7
      have I7 := outHdl I7' I6.ok
      exact ⟨rfl, by rw [← r7.length]; exact hlen7, I7.bk _ _ hC, hN.keeps I7.bk, TT.keeps I7.bk, H7, I7, hE7⟩
    obtain ⟨apos, akw⟩ := ar
    obtain ⟨hkw, hlen, hC7, hN7, T7, H7, I7, tr7, hE7⟩ := h₂
    obtain rfl : akw = [] := hkw
    obtain ⟨hp, g, d, tk, os⟩ := s₂
    simp only [hplain]
    refine wpAny_bind (wpAny_keeperOf_exc hC7 ?_)
    refine wpAny_bind (wpAny_call_exc_subT (hrest := hlen) PySem.F.excBase_ValueError T7 hC7 hN7 hni fun h' e hm => wpAny_bind (wpAny_holding (wpAny_point (wpAny_pure ?_))))
    obtain ⟨t, ht, _, _⟩ := hm.there
    have cn7 : Cn a hp := (I7.hok a _ tr7).1
    refine ⟨e, t, rfl, hm.keeps _ _ hC7, ht, fun z => ?_, fun z => ?_, ?_, fun h8 oth8 he8 => leave_from (untracked I7 tr7) hm oth8 he8 hE7 _⟩
    · obtain ⟨_, _, q, _⟩ := cn7
      rw [z, hm.new] at q
      cases q
    · rw [z, hm.new] at hC7
      cases hC7
    · obtain ⟨o, v, q, r⟩ := cn7
      exact ⟨o, v, hm.keeps _ _ q, r⟩
end
end L3

namespace My
open PySem L2 L3 Ra Rq PyProof.Rows
theorem la1 {us : List Value} (h : us.length = 1) : ∃ a, us = [a] := match us, h with | [a], _ => ⟨a, rfl⟩
theorem la2 {us : List Value} (h : us.length = 2) : ∃ a b, us = [a, b] := match us, h with | [a, b], _ => ⟨a, b, rfl⟩
theorem la3 {us : List Value} (h : us.length = 3) : ∃ a b c, us = [a, b, c] := match us, h with | [a, b, c], _ => ⟨a, b, c, rfl⟩
theorem bt2 {n : Nat} {x : Int} (h : x.natAbs < 2 ^ n) : Bt n x := h
local macro_rules | `(tactic| walk_at "s") => `(tactic| first
  | refine ⟨_, rfl, ?_⟩
  | refine ⟨_, _, rfl, rfl, ?_⟩
  | refine ⟨_, _, rfl, ?_⟩
  | refine ⟨rfl, ?_⟩
  | refine ⟨_, _, _, _, rfl, rfl, Pr.sq (by assumption), rfl, ?_⟩
  | refine ⟨_, _, _, _, rfl, TyOf.int _, kit_int_int _, ?_⟩
  | refine ⟨_, _, _, _, rfl, TyOf.int _, kit_int_bool _, ?_⟩
  | refine ⟨_, _, _, _, rfl, TyOf.tup (by assumption), kit_tup_tup _, ?_⟩
  | refine ⟨_, _, rfl, .inr (Pr.sq (by assumption)), ?_⟩
  | refine iteF ?_
  | refine iteT ?_
  | refine ⟨(by show (0 : Int) < _; decide), ?_⟩
  | refine ⟨⟨(by decide), bt2 (by decide +kernel)⟩, ?_⟩
  | refine ⟨(⟨(by decide), (by decide), (by decide)⟩ : CPow _ _), ?_⟩)
local macro_rules | `(tactic| walk_at "r") => `(tactic| repeat walk_at "s")

structure Txt (mg : Str → Option Value) : Prop where
  z_abs : mg "abs" = none
  z_len : mg "len" = none
  z_isinstance : mg "isinstance" = none
  z_int : mg "int" = none
  z_bool : mg "bool" = none
  z_tuple : mg "tuple" = none
  z_range : mg "range" = none
  z_list : mg "list" = none
  z_zip : mg "zip" = none
  z_all : mg "all" = none
  z_str : mg "str" = none
  c_MOST_BEADS : ∃ t, mg "MOST_BEADS" = some (.int 12 t)
  c_FIGURES : ∃ t, mg "FIGURES" = some (.str "0123456789" t)
  c_MOST_FIGURES : ∃ t, mg "MOST_FIGURES" = some (.int 30 t)
structure Errs (K : PySem.W.Frag) (mg : Str → Option Value) (c_NoText c_CordError c_NoCord c_NoFraction : Addr) : Prop where
  m_NoText : mg "NoText" = some (.ref c_NoText)
  m_CordError : mg "CordError" = some (.ref c_CordError)
  m_NoCord : mg "NoCord" = some (.ref c_NoCord)
  m_NoFraction : mg "NoFraction" = some (.ref c_NoFraction)
  o_NoText : OwnErr K c_NoText
  i_NoText : PySem.W.isIn K (.ref c_NoText) c_NoText = true
  x_NoText : PySem.W.exmOne K (.ref c_NoText) (.ref c_CordError) = some true
  e_NoText : ExcCls K c_NoText
  x_NoCord : PySem.W.exmOne K (.ref c_NoCord) (.ref c_CordError) = some true
  e_NoCord : ExcCls K c_NoCord
  fx_NoCord : ExcF K c_NoCord
  nf_NoCord : NoAttr K c_NoCord "place"
  xs_NoCord : PySem.W.exmOne K (.ref c_NoCord) (.ref c_NoCord) = some true
  k_NoText_NoText : PySem.W.kitOne K (.ref c_NoText) (.ref c_NoText) = some true
  k_NoText_NoCord : PySem.W.kitOne K (.ref c_NoText) (.ref c_NoCord) = some false
  k_NoText_NoFraction : PySem.W.kitOne K (.ref c_NoText) (.ref c_NoFraction) = some false
structure OwnCord (K : PySem.W.Frag) (mg : Str → Option Value) (C : Addr) : Prop where
  m : mg "Cord" = some (.ref C)
  cl : Cls K C
  c1 : PySem.W.findIn K (.ref C) "__class__" = some (some (.builtin "object.__class__"))
  c2 : PySem.W.specialIn K (.builtin "object.__class__") "__get__" = some (some (.builtin "getset_descriptor.__get__"))
  c3 : PySem.W.takesIn K (.builtin "object.__class__") = some true
  c4 : PySem.W.mroIn K C (.type "object") = some true
  self : PySem.W.kitOne K (.ref C) (.ref C) = some true
  n_kept_gaps : NoAttr K C "kept_gaps"
  n_kept_weights : NoAttr K C "kept_weights"
theorem OwnCord.ty {K : PySem.W.Frag} {mg : Str → Option Value} {C : Addr} (O : OwnCord K mg C) {H : Hp} {a dx : Addr} {fs : List (Str × V)} (e : H a = some (.ins C dx fs)) : TyOf K H (.ref a) (.ref C) := .ins e O.cl O.c1 O.c2 O.c3 O.c4
noncomputable def top (i : Nat) : Stmt := PySem.Challenge.pw_tautcord_k83_no_cords.main.body.getD i (.Pass ⟨0, 0, 0, 0⟩)
noncomputable abbrev s_wall : Stmt := top 0
noncomputable abbrev s_NoCord_init : Stmt := inClass (top 4) 0
noncomputable abbrev s_is_whole : Stmt := top 7
noncomputable abbrev s_divisor : Stmt := top 8
noncomputable abbrev s_is_fraction : Stmt := top 10
noncomputable abbrev s_side : Stmt := top 11
noncomputable abbrev s_is_row_above : Stmt := top 14
noncomputable abbrev s_Cord_init : Stmt := inClass (top 15) 0
noncomputable abbrev s_Cord_gaps : Stmt := inClass (top 15) 1
noncomputable abbrev s_Cord_weights : Stmt := inClass (top 15) 2
noncomputable abbrev s_Cord_beads : Stmt := inClass (top 15) 3
noncomputable abbrev s_Cord_length : Stmt := inClass (top 15) 4
noncomputable abbrev s_Cord_turned : Stmt := inClass (top 15) 5
noncomputable abbrev s_show_fraction : Stmt := top 19
noncomputable abbrev s_read_fraction : Stmt := top 20
noncomputable abbrev s_read_cord : Stmt := top 21
noncomputable abbrev s_check_text : Stmt := top 22
noncomputable abbrev s_are_figures : Stmt := top 23
noncomputable abbrev s_without_minus : Stmt := top 24
noncomputable abbrev s_within_brackets : Stmt := top 25
noncomputable abbrev s_law_cell_at : Stmt := top 27
noncomputable abbrev s_law_mixed : Stmt := top 28
noncomputable abbrev s_law_part : Stmt := top 29
noncomputable abbrev s_law_low : Stmt := top 30
noncomputable abbrev s_law_cord_by : Stmt := top 31
noncomputable abbrev s_law_same : Stmt := top 32
noncomputable abbrev s_law_is_cord : Stmt := top 33
noncomputable abbrev s_law_word : Stmt := top 34
noncomputable abbrev s_law_cord_text : Stmt := top 35
noncomputable abbrev s_law_gap_by : Stmt := top 36
noncomputable abbrev s_law_weight_by : Stmt := top 37
noncomputable abbrev s_law_spoilt : Stmt := top 38
noncomputable abbrev s_law_refused : Stmt := top 39
noncomputable abbrev s_law : Stmt := top 40
noncomputable def sp_div : Sp := fun vs H Q _ => ∃ a b, vs = [.int a, .int b] ∧ Q (.int (g a b)) H
noncomputable def sp_cell (K : PySem.W.Frag) : Sp := fun vs H Q _ => ∃ (a : Addr) (ns : List Int) (k : Nat), vs = [.ref a, .int k] ∧ SqL K H a (ns.map V.int) ∧ Q (.int (cellA ns k)) H
noncomputable def sp_mixed : Sp := fun vs H Q _ => ∃ c k, vs = [.int c, .int k] ∧ (0 ≤ k ∧ k ≤ 1000) ∧ Q (.int (mixed c k)) H
noncomputable def sp_signed : Sp := fun vs H Q _ => ∃ n, vs = [.int n] ∧ ∀ H', Same H H' → Q (.int (signed n)) H'
noncomputable def sp_low : Sp := fun vs H Q _ => ∃ t b, vs = [.int t, .int b] ∧ 0 < b ∧ Bt 8000 b ∧ ∀ r H', Same H H' → Pr H' r (t / g t b) (b / g t b) → Q (.ref r) H'
noncomputable def sp_ratio : Sp := fun vs H Q _ => ∃ n, vs = [.int n] ∧ 0 ≤ n ∧ ∀ r x y H', Same H H' → Fq x y → Bt 101 x → Bt 101 y → Pr H' r x y → Q (.ref r) H'
noncomputable def sp_whole : Sp := fun vs H Q _ => ∃ i, vs = [.int i] ∧ Q (.bl true) H
noncomputable def sp_is : Sp := fun vs H Q _ => ∃ r x y t b, vs = [.ref r, .int t, .int b] ∧ Pr H r x y ∧ Fq x y ∧ x * b = t * y ∧ IntMulOk x b ∧ IntMulOk t y ∧ Q (.bl true) H
noncomputable def sp_plus : Sp := fun vs H Q _ => ∃ p q a b c d, vs = [.ref p, .ref q] ∧ Pr H p a b ∧ Pr H q c d ∧ 0 < b ∧ 0 < d ∧ Bt 8000 a ∧ Bt 8000 b ∧ Bt 8000 c ∧ Bt 8000 d ∧ ∀ r H', Same H H' → Pr H' r (plsN a b c d) (plsD a b c d) → Q (.ref r) H'
noncomputable def sp_minus : Sp := fun vs H Q _ => ∃ p q a b c d, vs = [.ref p, .ref q] ∧ Pr H p a b ∧ Pr H q c d ∧ 0 < b ∧ 0 < d ∧ Bt 8000 a ∧ Bt 8000 b ∧ Bt 8000 c ∧ Bt 8000 d ∧ ∀ r H', Same H H' → Pr H' r (plsN a b (-c) d) (plsD a b (-c) d) → Q (.ref r) H'
noncomputable def sp_times : Sp := fun vs H Q _ => ∃ p q a b c d, vs = [.ref p, .ref q] ∧ Pr H p a b ∧ Pr H q c d ∧ 0 < b ∧ 0 < d ∧ Bt 8000 a ∧ Bt 8000 b ∧ Bt 8000 c ∧ Bt 8000 d ∧ ∀ r H', Same H H' → Pr H' r (tmsN a b c d) (tmsD a b c d) → Q (.ref r) H'
noncomputable def sp_law (K : PySem.W.Frag) : Sp := fun vs H Q _ => ∃ (a : Addr) (ns : List Int), vs = [.ref a] ∧ SqL K H a (ns.map V.int) ∧ ns.length ≤ 63 ∧ ∀ H', Q (.bl true) H'
theorem g_bt {n : Nat} {t b : Int} (h : 0 < b) (k : Bt n b) : Bt n (g t b) := by
  refine k.of_le ?_
  have h1 : g t b ≤ b := Int.le_of_dvd h (g_dvd_right t b)
  have h2 := g_nonneg t b
  (first | lia | omega)
section
variable {P : Program} {w : World} {K : PySem.W.Frag} {mg : Str → Option Value} {base : Heap} {f : Addr} {fd : FuncData}
theorem sc_divisor : FnScope ["one", "other", "first", "second", "rest"] ["one", "other"] (defScope s_divisor) := ⟨rfl, rfl, rfl, by decide +kernel, rfl, by decide +kernel, by decide +kernel⟩
theorem ok_divisor (F : Fun K "divisor" "divisor" s_divisor f fd) (T : Txt mg) : FnOk P w K mg base CX0 1 f fd ["one", "other"] sp_div := by
  refine F.ok sc_divisor (fun vs H Q E h => ?_) (fun cdv A outer s H vs Q E hr h => ?_)
  · obtain ⟨a, b, rfl, _⟩ := h
    rfl
  obtain ⟨a, b, rfl, q⟩ := h
  refine ⟨_, (pss_cons (ps_set (i := 2) sc_divisor.nd rfl (Or.inl rfl) (pe_callB call_abs rfl T.z_abs boot_abs (pa_cons (pv 0) pa_nil)))
      (pss_cons (ps_set (i := 3) sc_divisor.nd rfl (Or.inl rfl) (pe_callB call_abs rfl T.z_abs boot_abs (pa_cons (pv 1) pa_nil)))
      (pss_cons (ps_while PassesOwn.never (pt_cmpR op_gt (pv 3) pe_int (nomark _))
        (pss_cons (ps_set (i := 4) sc_divisor.nd rfl (Or.inl rfl) (pe_op op_mod (pv 2) (pv 3)))
        (pss_cons (ps_set (i := 2) sc_divisor.nd rfl (Or.inl rfl) (pv 3))
        (pss_one (ps_set (i := 3) sc_divisor.nd rfl (Or.inl rfl) (pv 4))))))
      (pss_one (ps_ret (pv 2)))))), ?_⟩
  refine ⟨_, rfl, _, rfl, _, rfl, _, rfl, ?_⟩
  refine ⟨fun m σ H' => ∃ x y r, σ = [some (.int a), some (.int b), some (.int x), some (.int y), r] ∧ H = H' ∧ 0 ≤ x ∧ 0 ≤ y ∧ g x y = g a b ∧ m = y.toNat, ⟨_, _, _, _, rfl, rfl, ?_, ?_, g_abs a b, rfl⟩, ?_⟩
  · split <;> (first | lia | omega)
  · split <;> (first | lia | omega)
  rintro m σ _ ⟨x, y, r, rfl, rfl, hx, hy, e, rfl⟩
  refine ⟨_, rfl, _, _, rfl, rfl, _, rfl, ?_⟩
  refine ite2 (fun c => ⟨fun σ' H' => ∃ m', m' < y.toNat ∧ ∃ x y r, σ' = [some (.int a), some (.int b), some (.int x), some (.int y), r] ∧ H = H' ∧ 0 ≤ x ∧ 0 ≤ y ∧ g x y = g a b ∧ m' = y.toNat, fun _ _ h => h, ?_⟩) (fun c => ?_)
  · have c' : (0 : Int) < y := of_decide_eq_true c
    refine ⟨_, rfl, _, rfl, _, _, rfl, rfl, c', _, rfl, _, rfl, ?_⟩
    have h1 := Int.emod_nonneg x (show y ≠ 0 by (first | lia | omega))
    have h2 := Int.emod_lt_of_pos x c'
    exact ⟨_, by (first | lia | omega), y, x % y, _, rfl, rfl, hy, h1, by rw [g_step hx c', e], rfl⟩
  · have c' : ¬ (0 : Int) < y := of_decide_eq_false (Bool.eq_false_iff.mpr c)
    have y0 : y = 0 := by (first | lia | omega)
    refine ⟨_, rfl, ?_⟩
    rw [← e, y0, g_end hx] at q
    exact q
theorem sc_law_cell_at : FnScope ["_law_script", "_law_k"] ["_law_script", "_law_k"] (defScope s_law_cell_at) := ⟨rfl, rfl, rfl, by decide +kernel, rfl, by decide +kernel, by decide +kernel⟩
theorem ok_law_cell_at (F : Fun K "_law_cell_at" "_law_cell_at" s_law_cell_at f fd) (T : Txt mg) : FnOk P w K mg base CX0 1 f fd ["_law_script", "_law_k"] (sp_cell K) := by
  refine F.ok sc_law_cell_at (fun vs H Q E h => ?_) (fun cdv A outer s H vs Q E hr h => ?_)
  · obtain ⟨a, ns, k, rfl, _⟩ := h
    rfl
  obtain ⟨a, ns, k, rfl, hS, q⟩ := h
  refine ⟨_, (pss_cons (ps_if (pt_cmpR op_lt (pv 1) (pe_callB call_len_seq rfl T.z_len PySem.boot_len (pa_cons (pv 0) pa_nil)) (nomark _))
        (pss_one (ps_ret (pe_ix ix_list (pv 0) (pv 1) (fun _ _ => rfl))))
        pss_nil)
      (pss_one (ps_ret (pe_op op_add (pe_op op_mulB pe_int (pv 1)) pe_int)))), ?_⟩
  have hl : (ns.map V.int).length = ns.length := List.length_map _
  refine ⟨_, rfl, _, rfl, a, _, rfl, .inl hS, _, _, rfl, rfl, _, rfl, ?_⟩
  refine ite2 (fun c => ?_) (fun c => ?_)
  · have c' : (k : Int) < (((ns.map V.int).length : Nat) : Int) := of_decide_eq_true c
    rw [hl] at c'
    have hk : k < ns.length := by (first | lia | omega)
    refine ⟨_, rfl, _, rfl, a, _, _, _, rfl, rfl, hS, atI_nat (v := .int (cellA ns k)) ?_, q⟩
    rw [List.getElem?_map, List.getElem?_eq_getElem hk, cellA_in hk]
    rfl
  · have c' : ¬ (k : Int) < (((ns.map V.int).length : Nat) : Int) := of_decide_eq_false (Bool.eq_false_iff.mpr c)
    rw [hl] at c'
    refine ⟨_, rfl, _, _, rfl, rfl, CMul.ok (.inl ⟨by decide, by decide⟩), _, _, rfl, rfl, ?_⟩
    rw [cellA_out (by (first | lia | omega))] at q
    exact q
theorem sc_law_mixed : FnScope ["_law_cell", "_law_k"] ["_law_cell", "_law_k"] (defScope s_law_mixed) := ⟨rfl, rfl, rfl, by decide +kernel, rfl, by decide +kernel, by decide +kernel⟩
theorem ok_law_mixed (F : Fun K "_law_mixed" "_law_mixed" s_law_mixed f fd) (T : Txt mg) : FnOk P w K mg base CX0 1 f fd ["_law_cell", "_law_k"] sp_mixed := by
  refine F.ok sc_law_mixed (fun vs H Q E h => ?_) (fun cdv A outer s H vs Q E hr h => ?_)
  · obtain ⟨c, k, rfl, _⟩ := h
    rfl
  obtain ⟨c, k, rfl, ⟨hk0, hk1⟩, q⟩ := h
  have bk : Bt 64 k := Bt.between (by (first | lia | omega)) (by (first | lia | omega))
  have rest : ¬ (c % 2 = 0 ∧ 10 ^ 18 < c) → Q (.int (((c / 2) % 10 ^ 60 + k * k) * 6364136223846793013 + (k + 1) * 1442695040888963407)) H := fun h => by
    unfold mixed at q
    rw [if_neg h] at q
    exact q
  have one : (c % 2 = 0 ∧ 10 ^ 18 < c) → Q (.int (c / 2)) H := fun h => by
    unfold mixed at q
    rw [if_pos h] at q
    exact q
  have ok1 : ∀ x : Int, IntMulOk x 6364136223846793013 := fun x => CMul.ok (.inr ⟨by decide, by decide⟩)
  have ok2 : ∀ x : Int, IntMulOk x 1442695040888963407 := fun x => CMul.ok (.inr ⟨by decide, by decide⟩)
  have ok3 : IntMulOk k k := mul_of bk bk (by decide)
  refine ⟨_, (pss_cons (ps_if (PW.pt (pw_and (pt_cmpR op_eq (pe_op op_mod (pv 0) pe_int) pe_int (nomark _)) (pw_and1 (pt_cmpR op_gt (pv 0) (pe_op op_pow pe_int pe_int) (nomark _)))))
        (pss_one (ps_ret (pe_op op_fdP (pv 0) pe_int)))
        pss_nil)
      (pss_one (ps_ret (pe_op op_add (pe_op op_mulB (pe_op op_add (pe_op op_mod (pe_op op_fdP (pv 0) pe_int) (pe_op op_pow pe_int pe_int)) (pe_op op_mulB (pv 1) (pv 1))) pe_int) (pe_op op_mulB (pe_op op_add (pv 1) pe_int) pe_int))))), ?_⟩
  refine ⟨_, rfl, _, _, rfl, rfl, (by show (0 : Int) < 2; decide), rfl, _, rfl, ?_⟩
  refine ite2 (fun c1 => ?_) (fun c1 => ?_)
  · have d1 : c % 2 = 0 := V.int.inj (of_decide_eq_true c1)
    refine ⟨_, rfl, _, _, rfl, rfl, ⟨by decide, by decide, by decide⟩, _, _, rfl, rfl, _, rfl, ?_⟩
    refine ite2 (fun c2 => ?_) (fun c2 => ?_)
    · have d2 : (10 : Int) ^ 18 < c := of_decide_eq_true c2
      exact ⟨_, rfl, _, _, rfl, rfl, ⟨by decide, bt2 (by decide +kernel)⟩, one ⟨d1, d2⟩⟩
    · have d2 : ¬ (10 : Int) ^ 18 < c := of_decide_eq_false (Bool.eq_false_iff.mpr c2)
      refine ⟨_, rfl, _, _, rfl, rfl, ⟨by decide, bt2 (by decide +kernel)⟩, _, _, rfl, rfl, ⟨by decide, by decide, by decide⟩, _, _, rfl, rfl, (by show (0 : Int) < 10 ^ 60; decide), _, rfl, _, rfl, _, _, rfl, rfl, ok3, _, _, rfl, rfl, _, _, rfl, rfl, ok1 _, _, rfl, _, _, rfl, rfl, _, _, rfl, rfl, ok2 _, _, _, rfl, rfl, ?_⟩
      exact rest fun h => d2 h.2
  · have d1 : ¬ c % 2 = 0 := fun z => of_decide_eq_false (Bool.eq_false_iff.mpr c1) (congrArg V.int z)
    refine iteF ?_
    refine ⟨_, rfl, _, _, rfl, rfl, ⟨by decide, bt2 (by decide +kernel)⟩, _, _, rfl, rfl, ⟨by decide, by decide, by decide⟩, _, _, rfl, rfl, (by show (0 : Int) < 10 ^ 60; decide), _, rfl, _, rfl, _, _, rfl, rfl, ok3, _, _, rfl, rfl, _, _, rfl, rfl, ok1 _, _, rfl, _, _, rfl, rfl, _, _, rfl, rfl, ok2 _, _, _, rfl, rfl, ?_⟩
    exact rest fun h => d1 h.1
theorem sc_law_part : FnScope ["_law_one", "_law_other"] ["_law_one", "_law_other"] (defScope s_law_part) := ⟨rfl, rfl, rfl, by decide +kernel, rfl, by decide +kernel, by decide +kernel⟩
theorem ok_law_part (F : Fun K "_law_part" "_law_part" s_law_part f fd) (T : Txt mg) : FnOk P w K mg base CX0 1 f fd ["_law_one", "_law_other"] sp_div := by
  refine F.ok sc_law_part (fun vs H Q E h => ?_) (fun cdv A outer s H vs Q E hr h => ?_)
  · obtain ⟨a, b, rfl, _⟩ := h
    rfl
  obtain ⟨a, b, rfl, q⟩ := h
  refine ⟨_, (pss_cons (ps_set (i := 0) sc_law_part.nd rfl (Or.inl rfl) (pe_callB call_abs rfl T.z_abs boot_abs (pa_cons (pv 0) pa_nil)))
      (pss_cons (ps_set (i := 1) sc_law_part.nd rfl (Or.inl rfl) (pe_callB call_abs rfl T.z_abs boot_abs (pa_cons (pv 1) pa_nil)))
      (pss_cons (ps_while PassesOwn.never (pt_cmpR op_gt (pv 1) pe_int (nomark _))
        (pss_one (ps_par (i := 0) (j := 1) rfl sc_law_part.nd rfl rfl (by decide) rfl rfl (pa_cons (pv 1) (pa_cons (pe_op op_mod (pv 0) (pv 1)) pa_nil)) (by with_unfolding_all rfl))))
      (pss_one (ps_ret (pv 0)))))), ?_⟩
  refine ⟨_, rfl, _, rfl, _, rfl, _, rfl, ?_⟩
  refine ⟨fun m σ H' => ∃ x y, σ = [some (.int x), some (.int y)] ∧ H = H' ∧ 0 ≤ x ∧ 0 ≤ y ∧ g x y = g a b ∧ m = y.toNat, ⟨_, _, _, rfl, rfl, ?_, ?_, g_abs a b, rfl⟩, ?_⟩
  · split <;> (first | lia | omega)
  · split <;> (first | lia | omega)
  rintro m σ _ ⟨x, y, rfl, rfl, hx, hy, e, rfl⟩
  refine ⟨_, rfl, _, _, rfl, rfl, _, rfl, ?_⟩
  refine ite2 (fun c => ⟨fun σ' H' => ∃ m', m' < y.toNat ∧ ∃ x y, σ' = [some (.int x), some (.int y)] ∧ H = H' ∧ 0 ≤ x ∧ 0 ≤ y ∧ g x y = g a b ∧ m' = y.toNat, fun _ _ h => h, ?_⟩) (fun c => ?_)
  · have c' : (0 : Int) < y := of_decide_eq_true c
    refine ⟨_, rfl, _, rfl, _, rfl, _, _, rfl, rfl, c', _, _, rfl, ?_⟩
    have h1 := Int.emod_nonneg x (show y ≠ 0 by (first | lia | omega))
    have h2 := Int.emod_lt_of_pos x c'
    exact ⟨_, by (first | lia | omega), y, x % y, rfl, rfl, hy, h1, by rw [g_step hx c', e], rfl⟩
  · have c' : ¬ (0 : Int) < y := of_decide_eq_false (Bool.eq_false_iff.mpr c)
    have y0 : y = 0 := by (first | lia | omega)
    refine ⟨_, rfl, ?_⟩
    rw [← e, y0, g_end hx] at q
    exact q
theorem sc_law_low : FnScope ["_law_top", "_law_bottom", "_law_part_here"] ["_law_top", "_law_bottom"] (defScope s_law_low) := ⟨rfl, rfl, rfl, by decide +kernel, rfl, by decide +kernel, by decide +kernel⟩
theorem ok_law_low (F : Fun K "_law_low" "_law_low" s_law_low f fd) (T : Txt mg) (C_law_part : Cal P w K mg base "_law_part" 1 ["_law_one", "_law_other"] sp_div) : FnOk P w K mg base CX0 2 f fd ["_law_top", "_law_bottom"] sp_low := by
  refine F.ok sc_law_low (fun vs H Q E h => ?_) (fun cdv A outer s H vs Q E hr h => ?_)
  · obtain ⟨t, b, rfl, _⟩ := h
    rfl
  obtain ⟨t, b, rfl, hb, bb, q⟩ := h
  have c1 : 0 < g t b ∧ Bt 9000 (g t b) := ⟨g_pos (by (first | lia | omega)), (g_bt hb bb).mono (by decide)⟩
  refine ⟨_, (pss_cons (ps_set (i := 2) sc_law_low.nd rfl (Or.inl rfl) (pe_cl C_law_part hr (pa_cons (pv 0) (pa_cons (pv 1) pa_nil))))
      (pss_one (ps_ret (pe_tup (pa_cons (pe_op op_fdP (pv 0) (pv 2)) (pa_cons (pe_op op_fdP (pv 1) (pv 2)) pa_nil)))))), ?_⟩
  refine ⟨_, rfl, _, rfl, _, _, rfl, ?_⟩
  exact ⟨_, rfl, _, rfl, _, _, rfl, rfl, c1, _, rfl, _, rfl, _, _, rfl, rfl, c1, (by show 2 ≤ sizeLine; decide), fun p hp => q p _ (same_upd hp _) Pr.new⟩

noncomputable def sp_whole2 : Sp := fun vs H Q _ => ∃ i, vs = [.int i] ∧ Q (.bl true) H
noncomputable def sp_fraction (c : Addr) : Sp := fun vs H Q E => ∃ t b, vs = [.int t, .int b] ∧ (b = 0 → E (.ref c) none H) ∧ (b ≠ 0 → Bt 8000 b ∧ ∀ r H', Same H H' → Pr H' r (frN t b) (frD t b) → Q (.ref r) H')
noncomputable def sp_over (cN : Addr) : Sp := fun vs H Q E => ∃ p q a b c d, vs = [.ref p, .ref q] ∧ Pr H p a b ∧ Pr H q c d ∧ (c = 0 → E (.ref cN) none H) ∧
  (c ≠ 0 → 0 < b ∧ 0 < d ∧ Bt 8000 a ∧ Bt 8000 b ∧ Bt 8000 c ∧ Bt 8000 d ∧ ∀ r H', Same H H' → Pr H' r (tmsN a b (frN d c) (frD d c)) (tmsD a b (frN d c) (frD d c)) → Q (.ref r) H')
noncomputable def sp_under : Sp := fun vs H Q _ => ∃ p q a b c d, vs = [.ref p, .ref q] ∧ Pr H p a b ∧ Pr H q c d ∧ IntMulOk a d ∧ IntMulOk c b ∧ Q (.bl (decide (a * d < c * b))) H
noncomputable def sp_side : Sp := fun vs H Q _ => ∃ p a b, vs = [.ref p] ∧ Pr H p a b ∧ Q (.int (sgn a)) H
noncomputable def sp_side2 : Sp := fun vs H Q _ => ∃ p a b, vs = [.ref p] ∧ Pr H p a b ∧ Bt 9000 a ∧ Q (.int (sgn a)) H
theorem sc_is_whole : FnScope ["thing"] ["thing"] (defScope s_is_whole) := ⟨rfl, rfl, rfl, by decide +kernel, rfl, by decide +kernel, by decide +kernel⟩
theorem ok_is_whole (F : Fun K "is_whole" "is_whole" s_is_whole f fd) (T : Txt mg) : FnOk P w K mg base CX0 1 f fd ["thing"] sp_whole := by
  refine F.ok sc_is_whole (fun vs H Q E h => ?_) (fun cdv A outer s H vs Q E hr h => ?_)
  · obtain ⟨i, rfl, _⟩ := h
    rfl
  obtain ⟨i, rfl, q⟩ := h
  refine ⟨_, (pss_one (ps_ret (pe_and (pe_callB call_isi rfl T.z_isinstance boot_isinstance (pa_cons (pv 0) (pa_cons (pe_bltn (v := .ty "int") rfl T.z_int boot_int rfl) pa_nil))) (pe_one (pe_not (pe_callB call_isi rfl T.z_isinstance boot_isinstance (pa_cons (pv 0) (pa_cons (pe_bltn (v := .ty "bool") rfl T.z_bool boot_bool rfl) pa_nil)))))))), ?_⟩
  refine ⟨_, rfl, _, _, _, _, rfl, TyOf.int _, kit_int_int _, _, rfl, iteT ?_⟩
  exact ⟨_, rfl, _, _, _, _, rfl, TyOf.int _, kit_int_bool _, _, rfl, q⟩
theorem sc_side : FnScope ["one"] ["one"] (defScope s_side) := ⟨rfl, rfl, rfl, by decide +kernel, rfl, by decide +kernel, by decide +kernel⟩
theorem ok_side (F : Fun K "side" "side" s_side f fd) (T : Txt mg) : FnOk P w K mg base CX0 1 f fd ["one"] sp_side := by
  refine F.ok sc_side (fun vs H Q E h => ?_) (fun cdv A outer s H vs Q E hr h => ?_)
  · obtain ⟨p, a, b, rfl, _⟩ := h
    rfl
  obtain ⟨p, a, b, rfl, hp, q⟩ := h
  unfold sgn at q
  refine ⟨_, (pss_cons (ps_if (pt_cmpR op_gt (pe_ix ix_tup (pv 0) pe_int (fun _ _ => rfl)) pe_int (nomark _))
        (pss_one (ps_ret pe_int))
        pss_nil)
      (pss_cons (ps_if (pt_cmpR op_lt (pe_ix ix_tup (pv 0) pe_int (fun _ _ => rfl)) pe_int (nomark _))
        (pss_one (ps_ret (pe_un un_neg pe_int)))
        pss_nil)
      (pss_one (ps_ret pe_int)))), ?_⟩
  refine ⟨_, rfl, _, _, _, _, rfl, rfl, hp.sq, rfl, _, _, rfl, rfl, _, rfl, ?_⟩
  refine ite2 (fun c => ?_) (fun c => ?_)
  · have z : a > 0 := of_decide_eq_true c
    rw [if_pos z] at q
    exact q
  · have z : ¬ a > 0 := of_decide_eq_false (Bool.eq_false_iff.mpr c)
    rw [if_neg z] at q
    refine ⟨_, rfl, _, _, _, _, rfl, rfl, hp.sq, rfl, _, _, rfl, rfl, _, rfl, ?_⟩
    refine ite2 (fun c2 => ?_) (fun c2 => ?_)
    · have z2 : a < 0 := of_decide_eq_true c2
      rw [if_pos z2] at q
      exact ⟨_, rfl, q⟩
    · have z2 : ¬ a < 0 := of_decide_eq_false (Bool.eq_false_iff.mpr c2)
      rw [if_neg z2] at q
      exact q

noncomputable def sp_bin (n : Nat) (op : Rat → Rat → Rat) : Sp := fun vs H Q _ => ∃ p q a b, vs = [.ref p, .ref q] ∧ Pq H p a ∧ Pq H q b ∧ Bq n a ∧ Bq n b ∧ ∀ r H', Same H H' → Pq H' r (op a b) → Q (.ref r) H'
noncomputable def sp_lowQ : Sp := fun vs H Q _ => ∃ t b, vs = [.int t, .int b] ∧ 0 < b ∧ Bt 8000 b ∧ ∀ r H', Same H H' → Pq H' r ((t : Rat) / (b : Rat)) → Q (.ref r) H'
noncomputable def sp_ratioQ : Sp := fun vs H Q _ => ∃ n, vs = [.int n] ∧ 0 ≤ n ∧ ∀ r q H', Same H H' → Bq 101 q → Pq H' r q → Q (.ref r) H'
noncomputable def sp_isQ : Sp := fun vs H Q _ => ∃ r q t b, vs = [.ref r, .int t, .int b] ∧ Pq H r q ∧ b ≠ 0 ∧ q = (t : Rat) / (b : Rat) ∧ IntMulOk q.num b ∧ IntMulOk t q.den ∧ Q (.bl true) H
noncomputable def sp_atQ : Sp := fun vs H Q _ => ∃ (a : Addr) (qs : List Rat) (k : Nat), vs = [.ref a, .int k] ∧ Rw H a qs ∧ ∀ p H', Same H H' → Pq H' p (qs.getD k 0) → Q (.ref p) H'
noncomputable def sp_stripQ : Sp := fun vs H Q _ => ∃ a qs, vs = [.ref a] ∧ Rw H a qs ∧ qs.length ≤ 1000 ∧ ∀ r H', Same H H' → H r = none → Rw H' r (Po.strip qs) → Q (.ref r) H'
noncomputable def sp_row_by : Sp := fun vs H Q _ => ∃ c k w, vs = [.int c, .int k, .int w] ∧ (0 ≤ k ∧ k ≤ 900) ∧ (w = 2 ∨ w = 3) ∧ ∀ r qs H', Same H H' → H r = none → Rw H' r qs → qs.length ≤ 13 → (∀ q ∈ qs, Bq 101 q) → (w = 2 → ∀ q ∈ qs, Bq 6 q) → Q (.ref r) H'
noncomputable def sp_sameQ : Sp := fun vs H Q _ => ∃ a b qs, vs = [.ref a, .ref b] ∧ Rw H a qs ∧ Rw H b qs ∧ qs.length ≤ 1000 ∧ Q (.bl true) H
noncomputable abbrev Rws (H : Hp) : List Addr → List (List Rat) → Prop := Paired (Rw H)
noncomputable def ApartAt (a h k : Addr) (H : Hp) (R : Hp → Prop) : Prop := ∃ qs as bs rss, Rw H a qs ∧ qs.length ≤ 1000 ∧ H h = some (.lst (as.map V.ref)) ∧ Rws H as rss ∧ H k = some (.lst (bs.map V.ref)) ∧ Rws H bs rss ∧
  a ∉ as ∧ a ∉ bs ∧ a ≠ h ∧ a ≠ k ∧ h ∉ as ∧ as.length ≤ 2 ∧ (∀ rs ∈ rss, rs.length ≤ 1000) ∧ ∀ H', Sx (a :: as) H H' → R H'
noncomputable def sp_apart : Sp := fun vs H Q _ => ∃ a h k, vs = [.ref a, .ref h, .ref k] ∧ ApartAt a h k H fun H' => Q (.bl true) H'
theorem lowQ {vs : List V} {H : Hp} {Q : VK} {E : XK} (h : sp_lowQ vs H Q E) : sp_low vs H Q E := by
  obtain ⟨t, b, rfl, hb, bb, k⟩ := h
  exact ⟨t, b, rfl, hb, bb, fun r H' s hr => k r H' s (Pq.of hr ⟨(low_q hb).1.symm, (low_q hb).2.symm⟩)⟩

noncomputable def cell0 (ns : List Int) (k : Nat) : Int := ns.getD k 0
noncomputable def sp_cell0 (K : PySem.W.Frag) : Sp := fun vs H Q _ => ∃ (a : Addr) (ns : List Int) (k : Nat), vs = [.ref a, .int k] ∧ SqL K H a (ns.map V.int) ∧ Q (.int (cell0 ns k)) H
noncomputable def sp_gcd : Sp := fun vs H Q _ => ∃ a b, vs = [.int a, .int b] ∧ 0 ≤ b ∧ Q (.int (g a b)) H
noncomputable def sp_numbers : Sp := fun vs H Q _ => ∃ (c : Int) (m : Nat), vs = [.int c, .int m] ∧ m ≤ 100 ∧ ∀ (r : Addr) (ns : List Int) (H' : Hp), Same H H' → H r = none → H' r = some (.lst (ns.map V.int)) → ns.length = m → (∀ n ∈ ns, 0 ≤ n ∧ n < 100000) → Q (.ref r) H'
noncomputable def abv (v : Int) : Rat := ((1 + v % 12 : Int) : Rat) / ((1 + v / 12 % 12 : Int) : Rat)
theorem div_pos {t b : Int} (ht : 0 < t) (hb : 0 < b) : 0 < (t : Rat) / (b : Rat) := by
  rw [Rat.div_def]
  exact Rat.mul_pos (Rat.intCast_pos.mpr ht) (Rat.inv_pos.mpr (Rat.intCast_pos.mpr hb))
noncomputable def sp_above : Sp := fun vs H Q _ => ∃ v, vs = [.int v] ∧ ∀ r H', Same H H' → Pq H' r (abv v) → Q (.ref r) H'
structure Drawn (mo : Nat) (gs ws : List Rat) : Prop where
  len : gs.length = ws.length + 1
  most : ws.length ≤ mo
  pos : (∀ q ∈ gs, 0 < q) ∧ ∀ q ∈ ws, 0 < q
  size : ((∀ q ∈ gs, Bq 4 q) ∧ ∀ q ∈ ws, Bq 4 q) ∨ (ws.length ≤ 1 + mo / 11 ∧ (∀ q ∈ gs, Bq 101 q) ∧ ∀ q ∈ ws, Bq 101 q)
noncomputable def sp_cord_by (K : PySem.W.Frag) : Sp := fun vs H Q _ => ∃ (a : Addr) (ns : List Int) (most : Nat), vs = [.ref a, .int most] ∧ SqL K H a (ns.map V.int) ∧ (∀ n ∈ ns, Bt 1048576 n) ∧ (4 ≤ most ∧ most ≤ 12) ∧
  ∀ r ga wa gs ws H', Same H H' → H' r = some (.tup [.ref ga, .ref wa]) → H ga = none → H wa = none → ga ≠ wa → Rw H' ga gs → Rw H' wa ws → Drawn most gs ws → Q (.ref r) H'
noncomputable def sp_lawB (K : PySem.W.Frag) : Sp := fun vs H Q _ => ∃ (a : Addr) (ns : List Int), vs = [.ref a] ∧ SqL K H a (ns.map V.int) ∧ ns.length ≤ 63 ∧ (∀ n ∈ ns, Bt 1048576 n) ∧ ∀ H', Q (.bl true) H'
noncomputable def CbyM (H : Hp) (a xs : Addr) (mo : Nat) (hd : Int) (σ' : L2.St) (H' : Hp) : Prop := ∃ (m' : Nat) (pt : Addr) (qs : List Rat) (v w : Option V), σ' = [some (.ref a), some (.int mo), some (.int hd), some (.int m'), some (.ref xs), some (.ref pt), v, w] ∧ Same H H' ∧ H pt = none ∧ Rw H' pt qs ∧ qs.length = 2 * m' + 1 ∧ m' ≤ mo ∧ (∀ q ∈ qs, 0 < q) ∧ ((∀ q ∈ qs, Bq 4 q) ∨ (m' ≤ 1 + mo / 11 ∧ ∀ q ∈ qs, Bq 101 q))
noncomputable def CbyI (H2 : Hp) (a xs pt : Addr) (mo m' : Nat) (hd : Int) (i : Nat) (σ : L2.St) (H' : Hp) : Prop := ∃ (v w : Option V) (qs : List Rat), σ = [some (.ref a), some (.int mo), some (.int hd), some (.int m'), some (.ref xs), some (.ref pt), v, w] ∧ Same H2 H' ∧ Rw H' pt qs ∧ qs.length = i ∧ (∀ q ∈ qs, 0 < q) ∧ ∀ q ∈ qs, Bq 101 q

noncomputable def Co (C : Addr) (H : Hp) (c ga wa : Addr) (gs ws : List Rat) : Prop := (∃ dx, H c = some (.ins C dx [("kept_gaps", .ref ga), ("kept_weights", .ref wa)])) ∧ Rw H ga gs ∧ Rw H wa ws
theorem Co.keep {C : Addr} {H H' : Hp} {c ga wa : Addr} {gs ws : List Rat} (h : Co C H c ga wa gs ws) (s : Same H H') : Co C H' c ga wa gs ws := by
  obtain ⟨⟨dx, e⟩, r1, r2⟩ := h
  exact ⟨⟨dx, s _ _ e⟩, r1.keep s, r2.keep s⟩
structure Fine (gs ws : List Rat) : Prop where
  len : gs.length = ws.length + 1
  most : ws.length ≤ 12
  pos : (∀ q ∈ gs, 0 < q) ∧ ∀ q ∈ ws, 0 < q
  bq : (∀ q ∈ gs, Bq 101 q) ∧ ∀ q ∈ ws, Bq 101 q
noncomputable def sp_init (C : Addr) : Sp := fun vs H Q _ => ∃ x a b gs ws dx, vs = [.ref x, .ref a, .ref b] ∧ H x = some (.ins C dx []) ∧ Rw H a gs ∧ Rw H b ws ∧ Fine gs ws ∧
  ∀ ga wa H', (∀ b o, b ≠ x → H b = some o → H' b = some o) → H ga = none → H wa = none → Co C H' x ga wa gs ws → Q .non H'
structure Fine0 (gs ws : List Rat) : Prop where
  len : gs.length = ws.length + 1
  most : ws.length ≤ 12
  pos : (∀ q ∈ gs, 0 < q) ∧ ∀ q ∈ ws, 0 < q
noncomputable def sp_init0 (C : Addr) : Sp := fun vs H Q _ => ∃ x a b gs ws dx, vs = [.ref x, .ref a, .ref b] ∧ H x = some (.ins C dx []) ∧ Rw H a gs ∧ Rw H b ws ∧ Fine0 gs ws ∧
  ∀ ga wa H', (∀ b o, b ≠ x → H b = some o → H' b = some o) → H ga = none → H wa = none → Co C H' x ga wa gs ws → Q .non H'
noncomputable def sp_gaps (C : Addr) : Sp := fun vs H Q _ => ∃ c ga wa gs ws, vs = [.ref c] ∧ Co C H c ga wa gs ws ∧ ∀ r H', Same H H' → H r = none → Rw H' r gs → Q (.ref r) H'
noncomputable def sp_weights (C : Addr) : Sp := fun vs H Q _ => ∃ c ga wa gs ws, vs = [.ref c] ∧ Co C H c ga wa gs ws ∧ ∀ r H', Same H H' → H r = none → Rw H' r ws → Q (.ref r) H'
noncomputable def sp_beads (C : Addr) : Sp := fun vs H Q _ => ∃ c ga wa gs ws, vs = [.ref c] ∧ Co C H c ga wa gs ws ∧ Q (.int ws.length) H
noncomputable def sp_length (C : Addr) : Sp := fun vs H Q _ => ∃ c ga wa gs ws, vs = [.ref c] ∧ Co C H c ga wa gs ws ∧ gs.length ≤ 13 ∧ (∀ q ∈ gs, Bq 101 q) ∧ ∀ r H', Same H H' → Pq H' r (Po.lsum gs) → Q (.ref r) H'
noncomputable def sp_turned (C : Addr) : Sp := fun vs H Q _ => ∃ c ga wa gs ws, vs = [.ref c] ∧ Co C H c ga wa gs ws ∧ Fine gs ws ∧ ∀ c' ga' wa' H', Same H H' → H c' = none → H ga' = none → H wa' = none → Co C H' c' ga' wa' gs.reverse ws.reverse → Q (.ref c') H'
noncomputable def sp_frac : Sp := fun vs H Q _ => ∃ p q, vs = [.ref p] ∧ Pq H p q ∧ Q (.bl true) H
noncomputable def sp_row_above : Sp := fun vs H Q _ => ∃ a qs, vs = [.ref a] ∧ Rw H a qs ∧ (∀ q ∈ qs, 0 < q) ∧ qs.length ≤ 1000 ∧ ∀ H', Same H H' → Q (.bl true) H'
noncomputable def sp_whole1 : Sp := fun vs H Q _ => ∃ i, vs = [.int i] ∧ Q (.bl true) H
noncomputable def sp_same1 : Sp := fun vs H Q _ => ∃ p p' q, vs = [.ref p, .ref p'] ∧ Pq H p q ∧ Pq H p' q ∧ Q (.bl true) H
noncomputable def sp_same_list : Sp := fun vs H Q _ => ∃ a b qs, vs = [.ref a, .ref b] ∧ Rw H a qs ∧ Rw H b qs ∧ qs.length ≤ 1000 ∧ Q (.bl true) H
noncomputable def sp_len : Sp := fun vs H Q _ => ∃ a gs, vs = [.ref a] ∧ Rw H a gs ∧ gs.length ≤ 13 ∧ (∀ q ∈ gs, Bq 101 q) ∧ ∀ r H', Same H H' → Pq H' r (Po.lsum gs) → Q (.ref r) H'
noncomputable def sp_told (C : Addr) : Sp := fun vs H Q _ => ∃ c ga wa g w gs ws, vs = [.ref c, .ref g, .ref w] ∧ Co C H c ga wa gs ws ∧ Rw H g gs ∧ Rw H w ws ∧ Fine gs ws ∧ ∀ H', Same H H' → Q (.bl true) H'
variable {o_Cord : Addr}
theorem sc_Cord_gaps : FnScope ["self"] ["self"] (defScope s_Cord_gaps) := ⟨rfl, rfl, rfl, by decide +kernel, rfl, by decide +kernel, by decide +kernel⟩
theorem ok_Cord_gaps (F : Fun K "gaps" "Cord.gaps" s_Cord_gaps f fd) (T : Txt mg) (O : OwnCord K mg o_Cord) : FnOk P w K mg base CX0 1 f fd ["self"] (sp_gaps o_Cord) := by
  refine F.ok sc_Cord_gaps (fun vs H Q E h => ?_) (fun cdv A outer s H vs Q E hr h => ?_)
  · obtain ⟨c, ga, wa, gs, ws, rfl, _⟩ := h
    rfl
  obtain ⟨c, ga, wa, gs, ws, rfl, ⟨⟨dx, e⟩, r1, r2⟩, q⟩ := h
  obtain ⟨xs, hx, _⟩ := r1.there
  refine ⟨_, (pss_one (ps_ret (pe_callTy call_list_of rfl T.z_list boot_list (pa_cons (pe_fld (pv 0) rfl) pa_nil)))), ?_⟩
  exact ⟨_, rfl, c, _, dx, _, _, rfl, e, O.cl, O.n_kept_gaps, rfl, ga, _, rfl, .inl (SqL.of hx), fun r hr' => q r _ (same_upd hr' _) hr' (r1.copy hx hr')⟩
theorem sc_Cord_weights : FnScope ["self"] ["self"] (defScope s_Cord_weights) := ⟨rfl, rfl, rfl, by decide +kernel, rfl, by decide +kernel, by decide +kernel⟩
theorem ok_Cord_weights (F : Fun K "weights" "Cord.weights" s_Cord_weights f fd) (T : Txt mg) (O : OwnCord K mg o_Cord) : FnOk P w K mg base CX0 1 f fd ["self"] (sp_weights o_Cord) := by
  refine F.ok sc_Cord_weights (fun vs H Q E h => ?_) (fun cdv A outer s H vs Q E hr h => ?_)
  · obtain ⟨c, ga, wa, gs, ws, rfl, _⟩ := h
    rfl
  obtain ⟨c, ga, wa, gs, ws, rfl, ⟨⟨dx, e⟩, r1, r2⟩, q⟩ := h
  obtain ⟨xs, hx, _⟩ := r2.there
  refine ⟨_, (pss_one (ps_ret (pe_callTy call_list_of rfl T.z_list boot_list (pa_cons (pe_fld (pv 0) rfl) pa_nil)))), ?_⟩
  exact ⟨_, rfl, c, _, dx, _, _, rfl, e, O.cl, O.n_kept_weights, rfl, wa, _, rfl, .inl (SqL.of hx), fun r hr' => q r _ (same_upd hr' _) hr' (r2.copy hx hr')⟩

noncomputable def F30 (q : Rat) : Prop := q.num.natAbs < 10 ^ 30 ∧ q.den < 10 ^ 30
theorem F30.log {q : Rat} (h : F30 q) : q.num.natAbs.log2 < 1920 ∧ (q.den : Int).natAbs.log2 < 1920 := by
  have k : ∀ n : Nat, n < 10 ^ 30 → n.log2 < 1920 := fun n hn => by
    by_cases z : n = 0
    · rw [z]; decide
    · refine (Nat.log2_lt z).mpr (Nat.lt_of_lt_of_le hn ?_)
      exact Nat.le_trans (show 10 ^ 30 ≤ 2 ^ 100 by decide +kernel) (Nat.pow_le_pow_right (by decide) (by decide))
  exact ⟨k _ h.1, k _ h.2⟩
theorem itx_len {i : Int} (h : i.natAbs < 10 ^ 30) : (itx i).length ≤ 31 := by
  have := dgs_len (k := 30) (by decide) h
  unfold itx
  split
  · rw [List.length_cons]; (first | lia | omega)
  · (first | lia | omega)
theorem ftx_len {q : Rat} (h : F30 q) : (ftx q).length ≤ 62 := by
  have h1 := itx_len h.1
  have h2 := dgs_len (k := 30) (by decide) h.2
  unfold ftx
  split
  · (first | lia | omega)
  · rw [List.length_append, List.length_cons]; (first | lia | omega)
noncomputable def sp_showf : Sp := fun vs H Q _ => ∃ p q, vs = [.ref p] ∧ Pq H p q ∧ F30 q ∧ Q (.str (sx (ftx q))) H
noncomputable def figB (l : List Nat) : Bool := if l.length < 1 then false else if 30 < l.length then false else (l.map fun c => decide (c ∈ ([48, 49, 50, 51, 52, 53, 54, 55, 56, 57] : List Nat))).all id
noncomputable def sp_figsT : Sp := fun vs H Q _ => ∃ l, vs = [.str (sx l)] ∧ (∀ c ∈ l, c < 128) ∧ l.length ≤ 100000 ∧ ∀ H', Same H H' → Q (.bl (figB l)) H'
noncomputable def wmin (l : List Nat) : List Nat := if l[0]? = some 45 then l.drop 1 else l
noncomputable def sp_wmin : Sp := fun vs H Q _ => ∃ l, vs = [.str (sx l)] ∧ l.length ≤ 100000 ∧ Q (.str (sx (wmin l))) H
theorem wmin_itx (n : Int) : wmin (itx n) = dgs n.natAbs := by
  unfold wmin itx
  by_cases h : n < 0
  · rw [if_pos h, if_pos (by rfl)]
    rfl
  · rw [if_neg h, if_neg]
    intro z
    have := dgs_dg _ 45 (List.mem_of_getElem? z)
    exact absurd this.1 (by decide)
theorem fig_dgs {m : Nat} (h : m < 10 ^ 30) : figB (dgs m) = true := by
  have h1 := dgs_len (k := 30) (by decide) h
  have h2 := List.length_pos_iff.mpr (dgs_ne m)
  unfold figB
  rw [if_neg (by (first | lia | omega)), if_neg (by (first | lia | omega)), List.all_eq_true]
  intro b hb
  obtain ⟨c, hc, rfl⟩ := List.mem_map.mp hb
  obtain ⟨k1, k2⟩ := dgs_dg m c hc
  refine decide_eq_true ?_
  have : c = 48 ∨ c = 49 ∨ c = 50 ∨ c = 51 ∨ c = 52 ∨ c = 53 ∨ c = 54 ∨ c = 55 ∨ c = 56 ∨ c = 57 := by (first | lia | omega)
  simpa using this
theorem ftx_parts (q : Rat) : (q.den = 1 ∧ parts3 (sx (ftx q)) (sx [47]) = [sx (itx q.num), Str.empty, Str.empty]) ∨ (q.den ≠ 1 ∧ parts3 (sx (ftx q)) (sx [47]) = [sx (itx q.num), sx [47], sx (dgs q.den)]) := by
  have hf : 47 ∉ itx q.num := itx_free (by decide) (fun z => absurd z.1 (by decide)) _
  unfold ftx
  by_cases h : q.den = 1
  · rw [if_pos h]
    exact .inl ⟨h, part_none hf⟩
  · rw [if_neg h]
    exact .inr ⟨h, part_some hf⟩
theorem ite2T {b : Bool} {ta tb : TE} {σ : L2.St} {H : Hp} {R : VK} (M : V) (h1 : b = true → R M H → ta σ H R) (h2 : ¬ b = true → R M H → tb σ H R) (h : R M H) : if b = true then ta σ H R else tb σ H R := by
  by_cases z : b = true
  · rw [if_pos z]; exact h1 z h
  · rw [if_neg z]; exact h2 z h
theorem jn_len {c : Nat} : ∀ {ws : List (List Nat)}, (∀ w ∈ ws, w.length ≤ 64) → (jn c ws).length ≤ 65 * ws.length
  | [], _ => Nat.zero_le _
  | [w], h => by
    have := h w (by simp)
    show w.length ≤ 65 * 1
    (first | lia | omega)
  | w :: v :: r, h => by
    have h1 := h w (by simp)
    have h2 := jn_len (c := c) (ws := v :: r) fun x hx => h x (by simp [List.mem_cons.mp hx])
    show (w ++ c :: jn c (v :: r)).length ≤ 65 * ((v :: r).length + 1)
    rw [List.length_append, List.length_cons]
    (first | lia | omega)
theorem jn_nil {c : Nat} : ∀ {ws : List (List Nat)}, (∀ w ∈ ws, w ≠ []) → jn c ws = [] → ws = []
  | [], _, _ => rfl
  | [w], h, e => absurd e (h w (by simp))
  | w :: v :: r, _, e => absurd e (by show w ++ c :: jn c (v :: r) ≠ []; simp)
theorem itx_ne (i : Int) : itx i ≠ [] := by
  unfold itx
  split
  · simp
  · exact dgs_ne _
theorem ftx_ne (q : Rat) : ftx q ≠ [] := by
  unfold ftx
  split
  · exact itx_ne _
  · simp
theorem ftx_32 (q : Rat) : 32 ∉ ftx q := ftx_free (by decide) (fun z => absurd z.1 (by decide)) (by decide) q
theorem sc_show_fraction : FnScope ["one", "top", "bottom"] ["one"] (defScope s_show_fraction) := ⟨rfl, rfl, rfl, by decide +kernel, rfl, by decide +kernel, by decide +kernel⟩
theorem ok_show_fraction (F : Fun K "show_fraction" "show_fraction" s_show_fraction f fd) (T : Txt mg) : FnOk P w K mg base CX0 1 f fd ["one"] sp_showf := by
  refine F.ok sc_show_fraction (fun vs H Q E h => ?_) (fun cdv A outer s H vs Q E hr h => ?_)
  · obtain ⟨p, q, rfl, _⟩ := h
    rfl
  obtain ⟨p, q, rfl, kp, hq, k⟩ := h
  obtain ⟨l1, l2⟩ := hq.log
  have h1 := itx_len hq.1
  have h2 := dgs_len (k := 30) (by decide) hq.2
  have hz : (1000 : Nat) < sizeLine := by decide
  have eb : itx (q.den : Int) = dgs q.den := by
    unfold itx
    rw [if_neg (by (first | lia | omega))]
    rfl
  refine ⟨_, (pss_cons (ps_set (i := 1) sc_show_fraction.nd rfl (Or.inl rfl) (pe_ix ix_tup (pv 0) pe_int (fun _ _ => rfl)))
      (pss_cons (ps_set (i := 2) sc_show_fraction.nd rfl (Or.inl rfl) (pe_ix ix_tup (pv 0) pe_int (fun _ _ => rfl)))
      (pss_cons (ps_if (pt_cmpR op_eq (pv 2) pe_int (nomark _))
        (pss_one (ps_ret (pe_fs1 (pe_fmt (pv 1)))))
        pss_nil)
      (pss_one (ps_ret (pe_fs3 (pe_fmt (pv 1)) pe_str (pe_fmt (pv 2)))))))), ?_⟩
  refine ⟨_, rfl, _, _, _, _, rfl, rfl, kp.sq, rfl, _, rfl, _, _, _, _, rfl, rfl, kp.sq, rfl, _, rfl, rfl, _, rfl, ite2 (fun c => ?_) (fun c => ?_)⟩
  · have c' : (q.den : Int) = 1 := V.int.inj (of_decide_eq_true c)
    unfold ftx at k
    rw [if_pos (by (first | lia | omega))] at k
    refine ⟨_, rfl, _, rfl, l1, ?_⟩
    rw [tos]
    exact k
  · have c' : ¬ (q.den : Int) = 1 := fun z => of_decide_eq_false (Bool.eq_false_iff.mpr c) (congrArg V.int z)
    unfold ftx at k
    rw [if_neg (by (first | lia | omega))] at k
    refine ⟨_, rfl, _, rfl, l1, _, rfl, ?_, _, rfl, ?_, _, rfl, _, rfl, l2, _, rfl, ?_, ?_⟩
    · rw [tos, sx_len]; (first | lia | omega)
    · rw [tos, sx_len]
      show _ + 1 ≤ _
      (first | lia | omega)
    · rw [tos, tos, sx_len, sx_len, eb]
      show _ + 1 + _ ≤ _
      (first | lia | omega)
    · rw [tos, tos, eb, show (Str.ofString "/") = sx [47] from rfl, sx_app, sx_app, List.append_assoc]
      exact k
noncomputable def wordsOf (qs : List Rat) : List (List Nat) := qs.map ftx
theorem join_ok {ts : List (List Nat)} (h : ∀ t ∈ ts, t.length ≤ 64) (hn : ts.length ≤ 1000) : JoinOk (sx [32]) (ts.map sx) = true := by
  have hf := StrLaws.joinFits (sep := sx [32]) (texts := ts.map sx) (B := 64) (fun y hy => by
    obtain ⟨t, ht, rfl⟩ := List.mem_map.mp hy
    rw [sx_len]
    exact h t ht) (by
    rw [List.length_map]
    show ts.length * 64 + ts.length * 1 ≤ _
    (first | lia | omega))
  unfold JoinOk
  rw [hf]
  rfl
noncomputable def sp_showr : Sp := fun vs H Q _ => ∃ a qs, vs = [.ref a] ∧ Rw H a qs ∧ qs.length ≤ 100 ∧ (∀ q ∈ qs, F30 q) ∧ ∀ H', Same H H' → Q (.str (sx (jn 32 (wordsOf qs)))) H'
theorem sc_are_figures : FnScope ["text"] ["text"] (defScope s_are_figures) := ⟨rfl, rfl, rfl, by decide +kernel, rfl, by decide +kernel, by decide +kernel⟩
theorem ok_are_figures (F : Fun K "are_figures" "are_figures" s_are_figures f fd) (T : Txt mg) : FnOk P w K mg base CX0 1 f fd ["text"] sp_figsT := by
  refine F.ok sc_are_figures (fun vs H Q E h => ?_) (fun cdv A outer s H vs Q E hr h => ?_)
  · obtain ⟨l, rfl, _⟩ := h
    rfl
  obtain ⟨l, rfl, ha, hl, q⟩ := h
  have hz : (100000 : Nat) < sizeLine := by decide
  refine ⟨_, (pss_cons (ps_if (PW.pt (pw_or (pt_cmpR op_lt (pe_callB call_len_str rfl T.z_len PySem.boot_len (pa_cons (pv 0) pa_nil)) pe_int (nomark _)) (pw_or1 (pt_cmpR op_gt (pe_callB call_len_str rfl T.z_len PySem.boot_len (pa_cons (pv 0) pa_nil)) (pe_globI rfl T.c_MOST_FIGURES) (nomark _)))))
        (pss_one (ps_ret pe_bl))
        pss_nil)
      (pss_one (ps_ret (pe_callB (call_all rfl) rfl T.z_all boot_all (pa_cons (pe_comp (N' := ["sign"]) (fsc := defScope s_are_figures) (N := ["text"]) [] ⟨rfl, by decide +kernel, by decide +kernel, by decide +kernel, rfl, by decide +kernel, rfl, by decide +kernel⟩ (pi_str (pv 0)) (fun _ _ _ _ => (pe_cmpR op_in_str (pv 0) (pe_globS rfl T.c_FIGURES) (by with_unfolding_all rfl)))) pa_nil))))), ?_⟩
  unfold figB at q
  refine ⟨_, rfl, sx l, rfl, by rw [sx_len]; (first | lia | omega), _, _, rfl, rfl, _, rfl, ite2 (fun c => ?_) (fun c => ?_)⟩
  · have c' : ((sx l).length : Int) < 1 := of_decide_eq_true c
    rw [sx_len] at c'
    rw [if_pos (by (first | lia | omega))] at q
    exact q H (Same.refl H)
  have c0 : ¬ ((sx l).length : Int) < 1 := of_decide_eq_false (Bool.eq_false_iff.mpr c)
  rw [sx_len] at c0
  rw [if_neg (by (first | lia | omega))] at q
  refine ⟨_, rfl, sx l, rfl, by rw [sx_len]; (first | lia | omega), _, _, rfl, rfl, _, rfl, ite2 (fun c => ?_) (fun c => ?_)⟩
  · have c' : (30 : Int) < ((sx l).length : Int) := of_decide_eq_true c
    rw [sx_len] at c'
    rw [if_pos (by (first | lia | omega))] at q
    exact q H (Same.refl H)
  have c1 : ¬ (30 : Int) < ((sx l).length : Int) := of_decide_eq_false (Bool.eq_false_iff.mpr c)
  rw [sx_len] at c1
  rw [if_neg (by (first | lia | omega))] at q
  refine ⟨_, rfl, sx l, rfl, ?_, comp_signB (by (first | lia | omega)) (fun c => decide (c ∈ ([48, 49, 50, 51, 52, 53, 54, 55, 56, 57] : List Nat))) ?_ fun H1 D s1 nD eD => ?_⟩
  · rw [Array.all_eq_true]
    intro i hi
    exact decide_eq_true (ha _ (by simp [sx]))
  · intro _ _ _ _ c H1 R hc s1 fin
    refine ⟨_, rfl, _, _, rfl, rfl, ?_⟩
    rw [show Str.ofString "0123456789" = sx [48, 49, 50, 51, 52, 53, 54, 55, 56, 57] from rfl, in_one]
    exact fin
  · exact ⟨D, _, rfl, SqL.of eD, q H1 s1⟩
theorem sc_without_minus : FnScope ["text"] ["text"] (defScope s_without_minus) := ⟨rfl, rfl, rfl, by decide +kernel, rfl, by decide +kernel, by decide +kernel⟩
theorem ok_without_minus (F : Fun K "without_minus" "without_minus" s_without_minus f fd) (T : Txt mg) : FnOk P w K mg base CX0 1 f fd ["text"] sp_wmin := by
  refine F.ok sc_without_minus (fun vs H Q E h => ?_) (fun cdv A outer s H vs Q E hr h => ?_)
  · obtain ⟨l, rfl, _⟩ := h
    rfl
  obtain ⟨l, rfl, hl, q⟩ := h
  have hz : (100000 : Nat) < sizeLine := by decide
  refine ⟨_, (pss_cons (ps_if (pt_val (pe_bm PySem.F.plainAttrs_str PySem.F.slot_str_startswith PySem.F.type_str_startswith mt_starts (pv 0) (pa_cons pe_str pa_nil)))
        (pss_one (ps_ret (pe_slice sl_str (pv 0) (po_some pe_int) po_none)))
        pss_nil)
      (pss_one (ps_ret (pv 0)))), ?_⟩
  unfold wmin at q
  refine ⟨_, rfl, rfl, _, _, rfl, rfl, _, rfl, ite2 (fun c => ?_) (fun c => ?_)⟩
  · rw [show Str.ofString "-" = sx [45] from rfl, starts_one] at c
    have c' := of_decide_eq_true c
    rw [if_pos c'] at q
    refine ⟨_, rfl, _, rfl, _, rfl, by rw [sx_len]; (first | lia | omega), ?_⟩
    rw [slice_from (fun z => by rw [z] at c'; simp at c')]
    exact q
  · rw [show Str.ofString "-" = sx [45] from rfl, starts_one] at c
    have c' : ¬ l[0]? = some 45 := fun z => c (decide_eq_true z)
    rw [if_neg c'] at q
    exact ⟨_, rfl, q⟩

noncomputable def cw : List Rat → List Rat → List (List Nat)
  | w :: ws, g :: gs => (40 :: (ftx w ++ [41])) :: ftx g :: cw ws gs
  | _, _ => []
noncomputable def cordW (gs ws : List Rat) : List (List Nat) := ftx (gs.getD 0 0) :: cw ws (gs.drop 1)
theorem cw_snoc : ∀ {ws gs : List Rat} (w g : Rat), ws.length = gs.length → cw (ws ++ [w]) (gs ++ [g]) = cw ws gs ++ [40 :: (ftx w ++ [41])] ++ [ftx g]
  | [], [], _, _, _ => rfl
  | a :: ws, b :: gs, w, g, h => by
    show (40 :: (ftx a ++ [41])) :: ftx b :: cw (ws ++ [w]) (gs ++ [g]) = _
    rw [cw_snoc w g (by simpa using h)]
    rfl
  | [], _ :: _, _, _, h => by simp at h
  | _ :: _, [], _, _, h => by simp at h
theorem cw_len : ∀ {ws gs : List Rat}, ws.length = gs.length → (cw ws gs).length = 2 * ws.length
  | [], [], _ => rfl
  | a :: ws, b :: gs, h => by
    show (cw ws gs).length + 1 + 1 = 2 * (ws.length + 1)
    rw [cw_len (by simpa using h)]
    (first | lia | omega)
  | [], _ :: _, h => by simp at h
  | _ :: _, [], h => by simp at h
theorem cw_mem : ∀ {ws gs : List Rat} {P : List Nat → Prop}, (∀ w ∈ ws, P (40 :: (ftx w ++ [41]))) → (∀ g ∈ gs, P (ftx g)) → ∀ t ∈ cw ws gs, P t
  | [], _, _, _, _, t, h => by cases h
  | _ :: _, [], _, _, _, t, h => by cases h
  | w :: ws, g :: gs, P, h1, h2, t, h => by
    rcases List.mem_cons.mp h with z | z
    · rw [z]; exact h1 w (by simp)
    · rcases List.mem_cons.mp z with z | z
      · rw [z]; exact h2 g (by simp)
      · exact cw_mem (fun q hq => h1 q (by simp [hq])) (fun q hq => h2 q (by simp [hq])) t z
structure C30 (gs ws : List Rat) : Prop where
  fine : Fine0 gs ws
  g30 : ∀ q ∈ gs, F30 q
  w30 : ∀ q ∈ ws, F30 q
theorem C30.mem {gs ws : List Rat} (h : C30 gs ws) {P : List Nat → Prop} (h1 : ∀ w ∈ ws, P (40 :: (ftx w ++ [41]))) (h2 : ∀ g ∈ gs, P (ftx g)) : ∀ t ∈ cordW gs ws, P t := fun t ht => by
  have hl := h.fine.len
  rcases List.mem_cons.mp ht with z | z
  · rw [z, Po.getD_in (show 0 < gs.length by (first | lia | omega))]
    exact h2 _ (List.getElem_mem _)
  · exact cw_mem h1 (fun g hg => h2 g (List.mem_of_mem_drop hg)) t z
theorem C30.len {gs ws : List Rat} (h : C30 gs ws) : ∀ t ∈ cordW gs ws, t.length ≤ 64 := h.mem (fun w hw => by
    have := ftx_len (h.w30 w hw)
    rw [List.length_cons, List.length_append]
    show _ + 1 + 1 ≤ _
    (first | lia | omega)) fun g hg => by have := ftx_len (h.g30 g hg); (first | lia | omega)
theorem C30.cnt {gs ws : List Rat} (h : C30 gs ws) : (cordW gs ws).length = 2 * ws.length + 1 := by
  have hl := h.fine.len
  show (cw ws (gs.drop 1)).length + 1 = _
  rw [cw_len (by rw [List.length_drop]; (first | lia | omega))]
theorem ev2_gaps : ∀ {ws gs : List Rat} (x : List Nat), ws.length = gs.length → L3.ev2 (x :: cw ws gs) = x :: gs.map ftx
  | [], [], _, _ => rfl
  | w :: ws, g :: gs, x, h => by
    show x :: L3.ev2 (ftx g :: cw ws gs) = _
    rw [ev2_gaps (ftx g) (by simpa using h)]
    rfl
  | [], _ :: _, _, h => by simp at h
  | _ :: _, [], _, h => by simp at h
noncomputable def brx (q : Rat) : List Nat := 40 :: (ftx q ++ [41])
theorem ev2_wts : ∀ {ws gs : List Rat}, ws.length = gs.length → L3.ev2 (cw ws gs) = ws.map brx
  | [], [], _ => rfl
  | w :: ws, g :: gs, h => by
    show (40 :: (ftx w ++ [41])) :: L3.ev2 (cw ws gs) = _
    rw [ev2_wts (by simpa using h)]
    rfl
  | [], _ :: _, h => by simp at h
  | _ :: _, [], h => by simp at h

noncomputable def NoTx (K : PySem.W.Frag) (H : Hp) (v : V) : Prop := ∃ ty, TyOf K H v ty ∧ PySem.W.kitOne K ty (.type "str") = some false
noncomputable def sp_chkX (K : PySem.W.Frag) (cT : Addr) : Sp := fun vs H Q E => ∃ v, vs = [v] ∧ ((∃ x, v = .str x ∧ Q .non H) ∨ (NoTx K H v ∧ E (.ref cT) none H))
noncomputable def Pln (l : List Nat) : Prop := (∀ c ∈ l, c < 128) ∧ l.length ≤ 50000
noncomputable def sp_rdfX (K : PySem.W.Frag) (cT : Addr) : Sp := fun vs H Q E => ∃ v, vs = [v] ∧ ((NoTx K H v ∧ E (.ref cT) none H) ∨ ∃ l, v = .str (sx l) ∧ Pln l ∧ (∀ q, F30 q → l = ftx q → ∀ p H', Same H H' → Pq H' p q → Q (.ref p) H') ∧
  ((∀ q, F30 q → l ≠ ftx q) → ∀ H', Same H H' → E (.ref cT) none H'))
noncomputable def sp_rdrX (K : PySem.W.Frag) (cT : Addr) : Sp := fun vs H Q E => ∃ v, vs = [v] ∧ ((NoTx K H v ∧ E (.ref cT) none H) ∨ ∃ l, v = .str (sx l) ∧ Pln l ∧ (∀ qs, (∀ q ∈ qs, F30 q) → l = jn 32 (wordsOf qs) → ∀ r H', Same H H' → H r = none → Rw H' r qs → Q (.ref r) H') ∧
  ((∀ qs, (∀ q ∈ qs, F30 q) → l ≠ jn 32 (wordsOf qs)) → ∀ H', Same H H' → E (.ref cT) none H'))
noncomputable def sp_frP : Sp := fun vs H Q _ => ∃ p x y, vs = [.ref p] ∧ Pr H p x y ∧ Q (.bl (decide (1 ≤ y) && decide (g x y = 1))) H
theorem first_at {c : Nat} : ∀ {l : List Nat}, c ∈ l → ∃ a b, l = a ++ c :: b ∧ c ∉ a
  | [], h => by cases h
  | x :: l, h => by
    by_cases e : x = c
    · exact ⟨[], l, by rw [e]; rfl, by simp⟩
    · obtain ⟨a, b, e1, e2⟩ := first_at (l := l) (by
        rcases List.mem_cons.mp h with z | z
        · exact absurd z.symm e
        · exact z)
      exact ⟨x :: a, b, by rw [e1]; rfl, fun z => by
        rcases List.mem_cons.mp z with z | z
        · exact e z.symm
        · exact e2 z⟩
theorem empty_ne {l : List Nat} (h : l ≠ []) : Str.empty ≠ sx l := fun z => h (by
  have : sx [] = sx l := z
  exact (sx_inj this).symm)
theorem parts_any (l : List Nat) : ∃ a b x y, parts3 (sx l) (sx [47]) = [sx a, x, y] ∧ (∀ c ∈ a, c ∈ l) ∧ a.length ≤ l.length ∧ ((x = Str.empty ∧ b = [49]) ∨ (x = sx [47] ∧ y = sx b ∧ (∀ c ∈ b, c ∈ l) ∧ b.length ≤ l.length)) ∧ ∀ q, l = ftx q → a = itx q.num ∧ b = dgs q.den := by
  by_cases h : 47 ∈ l
  · obtain ⟨a, b, e1, e2⟩ := first_at h
    have e3 := part_some (b := b) e2
    rw [← e1] at e3
    refine ⟨a, b, _, _, e3, fun c hc => by rw [e1]; simp [hc], by rw [e1]; simp, .inr ⟨rfl, rfl, fun c hc => by rw [e1]; simp [hc], by rw [e1]; simp; (first | lia | omega)⟩, fun q hq => ?_⟩
    rw [hq] at e3
    rcases ftx_parts q with ⟨_, e⟩ | ⟨_, e⟩
    · rw [e3] at e
      injection e with _ e
      injection e with e _
      exact absurd e.symm (empty_ne (by simp))
    · rw [e3] at e
      injection e with i1 e
      injection e with _ e
      injection e with i3 _
      exact ⟨sx_inj i1, sx_inj i3⟩
  · have e3 := part_none h
    refine ⟨l, [49], _, _, e3, fun c hc => hc, Nat.le_refl _, .inl ⟨rfl, rfl⟩, fun q hq => ?_⟩
    rw [hq] at e3
    rcases ftx_parts q with ⟨d, e⟩ | ⟨_, e⟩
    · rw [e3] at e
      injection e with i1 _
      refine ⟨by rw [hq]; exact sx_inj i1, ?_⟩
      rw [d]
      rfl
    · rw [e3] at e
      injection e with _ e
      injection e with e _
      exact absurd e (empty_ne (by simp))
theorem fig_dg {l : List Nat} (h : figB l = true) : l ≠ [] ∧ l.length ≤ 30 ∧ ∀ c ∈ l, isDg c := by
  unfold figB at h
  split at h
  · cases h
  · split at h
    · cases h
    · rename_i h1 h2
      refine ⟨fun z => h1 (by rw [z]; decide), by (first | lia | omega), fun c hc => ?_⟩
      have := List.all_eq_true.mp h _ (List.mem_map.mpr ⟨c, hc, rfl⟩)
      have hm := of_decide_eq_true this
      unfold isDg
      have : c = 48 ∨ c = 49 ∨ c = 50 ∨ c = 51 ∨ c = 52 ∨ c = 53 ∨ c = 54 ∨ c = 55 ∨ c = 56 ∨ c = 57 := by simpa using hm
      (first | lia | omega)
theorem dgv_lt (t : List Nat) (h : ∀ c ∈ t, isDg c) : dgv t < 10 ^ t.length := by
  have key : ∀ r : List Nat, (∀ c ∈ r, isDg c) → dgv r.reverse < 10 ^ r.length := fun r => by
    induction r with
    | nil => intro _; decide
    | cons c r ih =>
      intro hr
      have i := ih fun x hx => hr x (by simp [hx])
      have hc := hr c (by simp)
      rw [List.reverse_cons, dgv_snoc, List.length_cons, Nat.pow_succ]
      have := hc.2
      (first | lia | omega)
  have := key t.reverse fun c hc => h c (List.mem_reverse.mp hc)
  rw [List.reverse_reverse, List.length_reverse] at this
  exact this
theorem dgv_30 {t : List Nat} (h : figB t = true) : dgv t < 10 ^ 30 := by
  obtain ⟨_, h2, h3⟩ := fig_dg h
  exact Nat.lt_of_lt_of_le (dgv_lt t h3) (Nat.pow_le_pow_right (by decide) h2)
theorem wmin_shape (a : List Nat) : a = if decide (a[0]? = some 45) = true then 45 :: wmin a else wmin a := by
  unfold wmin
  by_cases h : a[0]? = some 45
  · rw [if_pos (decide_eq_true h), if_pos h]
    cases a with
    | nil => simp at h
    | cons x r =>
      have : x = 45 := by simpa using h
      rw [this]
      rfl
  · rw [if_neg (fun z => h (of_decide_eq_true z)), if_neg h]
noncomputable def ival (a : List Nat) : Int := if decide (a[0]? = some 45) = true then -(dgv (wmin a) : Int) else (dgv (wmin a) : Int)
theorem ival_itx (n : Int) : ival (itx n) = n := by
  unfold ival
  rw [wmin_itx, dgs_val]
  by_cases h : n < 0
  · have : (itx n)[0]? = some 45 := by unfold itx; rw [if_pos h]; rfl
    rw [if_pos (decide_eq_true this)]
    (first | lia | omega)
  · have : ¬ (itx n)[0]? = some 45 := fun z => by
      unfold itx at z
      rw [if_neg h] at z
      exact absurd (dgs_dg _ 45 (List.mem_of_getElem? z)).1 (by decide)
    rw [if_neg (fun z => this (of_decide_eq_true z))]
    (first | lia | omega)
theorem g_one {x y : Int} (h : 1 ≤ y) (hg : g x y = 1) : Fq x y := ⟨by (first | lia | omega), by
  unfold g at hg
  (first | lia | omega)⟩
theorem split_ex (l : List Nat) : ∃ W : List (List Nat), W ≠ [] ∧ (∀ w ∈ W, 32 ∉ w) ∧ jn 32 W = l ∧ Txt.split (sx l) (sx [32]) = W.map sx := by
  have e1 := StrLaws.join_split (sx l) (sx [32])
  have e2 : Txt.split (sx l) (sx [32]) = ((Txt.split (sx l) (sx [32])).map fun p => p.cps.toList).map sx := by
    rw [List.map_map]
    exact (List.map_id _).symm.trans (List.map_congr_left fun p _ => sx_of p)
  have f := StrLaws.split_free (sx l) 32
  have ne := split_ne (sx l) (sx [32])
  rw [e2, join_jn] at e1
  refine ⟨_, fun z => ne (List.map_eq_nil_iff.mp z), fun w hw => ?_, sx_inj e1, e2⟩
  obtain ⟨p, hp, rfl⟩ := List.mem_map.mp hw
  exact f p hp
theorem jn_word {c : Nat} : ∀ {W : List (List Nat)} {w : List Nat}, w ∈ W → (∀ x ∈ w, x ∈ jn c W) ∧ w.length ≤ (jn c W).length
  | [], _, h => by cases h
  | [v], w, h => by
    rw [List.mem_singleton.mp h]
    exact ⟨fun x hx => hx, Nat.le_refl _⟩
  | v :: u :: r, w, h => by
    show (∀ x ∈ w, x ∈ v ++ c :: jn c (u :: r)) ∧ w.length ≤ (v ++ c :: jn c (u :: r)).length
    rcases List.mem_cons.mp h with z | z
    · rw [z]
      exact ⟨fun x hx => by simp [hx], by simp⟩
    · obtain ⟨i1, i2⟩ := jn_word (c := c) z
      exact ⟨fun x hx => List.mem_append_right _ (List.mem_cons_of_mem _ (i1 x hx)), by rw [List.length_append, List.length_cons]; (first | lia | omega)⟩
theorem jn_cnt {c : Nat} : ∀ {W : List (List Nat)}, W.length ≤ (jn c W).length + 1
  | [] => Nat.zero_le _
  | [v] => by show 1 ≤ v.length + 1; (first | lia | omega)
  | v :: u :: r => by
    have := jn_cnt (c := c) (W := u :: r)
    have e : (v ++ c :: jn c (u :: r)).length = v.length + ((jn c (u :: r)).length + 1) := by rw [List.length_append, List.length_cons]
    show (u :: r).length + 1 ≤ (v ++ c :: jn c (u :: r)).length + 1
    (first | lia | omega)
theorem comp_strsE {K : PySem.W.Frag} {a : Addr} {W : List (List Nat)} {te : Shared → Hp → Addr → List Addr → TE} {js : List Nat} {σ : L2.St} {H1 : Hp} {Q : VK} (hn : W.length ≤ 100000) (ha : H1 a = some (.lst ((W.map sx).map V.str))) (G : Rat → Prop) (t : Rat → List Nat)
    (hs : ∀ s₀ H₀ C ex w H (R : VK), w ∈ W → Same H1 H → (∀ q p' H2, G q → w = t q → Same H H2 → Pq H2 p' q → R (.ref p') H2) → te s₀ H₀ C ex (some (.str (sx w)) :: js.map fun j => (σ[j]?).join) H R)
    (hd : ∀ H D qs, (∀ q ∈ qs, G q) → W = qs.map t → Same H1 H → H1 D = none → Rw H D qs → Q (.ref D) H) : CompAt (Itl K a) te js σ Q H1 := by
  intro D hD
  refine ⟨fun i m ys H => m = W.length - i ∧ i ≤ W.length ∧ (∃ ps qs, ys = ps.map V.ref ∧ Pqs H ps qs ∧ (∀ q ∈ qs, G q) ∧ W.take i = qs.map t) ∧ Same H1 H ∧ H D = some (.lst ys), ⟨W.length, by simp, Nat.zero_le _, ⟨[], [], rfl, .nil, fun q hq => absurd hq (by simp), rfl⟩, same_upd hD _, upd_same⟩, ?_⟩
  rintro i m ys H ⟨rfl, hi, ⟨ps, qs, rfl, hp, hG, hW⟩, sm, hDl⟩
  refine ⟨hDl, ?_⟩
  have hr := sm _ _ ha
  by_cases hlt : i < W.length
  · have eq : W[i]? = some W[i] := List.getElem?_eq_getElem hlt
    have h0 : ((W.map sx).map V.str)[i]? = some (.str (sx W[i])) := by rw [List.getElem?_map, List.getElem?_map, eq]; rfl
    refine .inr ⟨⟨_, _, SqL.of hr, h0⟩, fun x H' y s₀ H₀ C ex => ?_⟩
    obtain ⟨e, y⟩ := y
    subst e
    have ex' := y _ (SqL.of hr)
    rw [h0] at ex'
    cases ex'
    refine hs s₀ H₀ C ex _ H' _ (List.getElem_mem hlt) sm fun q p H2 gq et s2 kp => ?_
    have h2 := s2 _ _ hDl
    have hp2 := hp.keep s2
    have hl := hp.length
    have hl2 := congrArg List.length hW
    rw [List.length_take, List.length_map] at hl2
    have hz : (100000 : Nat) < sizeLine := by decide
    refine ⟨h2, by rw [List.length_map]; (first | lia | omega), W.length - (i + 1), by (first | lia | omega), rfl, hlt, ⟨ps ++ [p], qs ++ [q], by simp, (hp2.updL h2).append (.cons (kp.updL h2) .nil), fun q' hq => ?_, ?_⟩, same_updF (sm.trans s2) hD _, upd_same⟩
    · rcases List.mem_append.mp hq with z | z
      · exact hG q' z
      · rw [List.mem_singleton.mp z]; exact gq
    · rw [List.take_succ, eq, hW, List.map_append, et]
      rfl
  · have e : i = W.length := by (first | lia | omega)
    subst e
    rw [List.take_length] at hW
    exact .inl ⟨⟨_, SqL.of hr, by rw [List.length_map, List.length_map]; (first | lia | omega)⟩, hd H D qs hG hW sm hD ⟨ps, hDl, hp⟩⟩
theorem sc_is_fraction : FnScope ["thing"] ["thing"] (defScope s_is_fraction) := ⟨rfl, rfl, rfl, by decide +kernel, rfl, by decide +kernel, by decide +kernel⟩
theorem ok_is_fraction (F : Fun K "is_fraction" "is_fraction" s_is_fraction f fd) (T : Txt mg) (C_is_whole : Cal P w K mg base "is_whole" 1 ["thing"] sp_whole) (C_divisor : Cal P w K mg base "divisor" 1 ["one", "other"] sp_div) : FnOk P w K mg base CX0 2 f fd ["thing"] sp_frP := by
  refine F.ok sc_is_fraction (fun vs H Q E h => ?_) (fun cdv A outer s H vs Q E hr h => ?_)
  · obtain ⟨p, x, y, rfl, _⟩ := h
    rfl
  obtain ⟨p, x, y, rfl, kp, q⟩ := h
  refine ⟨_, (pss_cons (ps_if (PW.pt (pw_or (pt_not (pt_val (pe_callB call_isi rfl T.z_isinstance boot_isinstance (pa_cons (pv 0) (pa_cons (pe_bltn (v := .ty "tuple") rfl T.z_tuple boot_tuple rfl) pa_nil))))) (pw_or1 (pt_cmpR op_ne (pe_callB call_len_seq rfl T.z_len PySem.boot_len (pa_cons (pv 0) pa_nil)) pe_int (nomark _)))))
        (pss_one (ps_ret pe_bl))
        pss_nil)
      (pss_cons (ps_if (PW.pt (pw_or (pt_not (pt_val (pe_cl C_is_whole hr (pa_cons (pe_ix ix_tup (pv 0) pe_int (fun _ _ => rfl)) pa_nil)))) (pw_or1 (pt_not (pt_val (pe_cl C_is_whole hr (pa_cons (pe_ix ix_tup (pv 0) pe_int (fun _ _ => rfl)) pa_nil)))))))
        (pss_one (ps_ret pe_bl))
        pss_nil)
      (pss_one (ps_ret (pe_and (pe_cmpR op_ge (pe_ix ix_tup (pv 0) pe_int (fun _ _ => rfl)) pe_int (nomark _)) (pe_one (pe_cmpR op_eq (pe_cl C_divisor hr (pa_cons (pe_ix ix_tup (pv 0) pe_int (fun _ _ => rfl)) (pa_cons (pe_ix ix_tup (pv 0) pe_int (fun _ _ => rfl)) pa_nil))) pe_int (nomark _)))))))), ?_⟩
  refine ⟨_, rfl, _, _, _, _, rfl, TyOf.tup kp, kit_tup_tup _, _, rfl, iteF ?_⟩
  refine ⟨_, rfl, _, _, rfl, .inr kp.sq, rfl, _, rfl, iteNS rfl ?_⟩
  refine ⟨_, rfl, _, _, _, _, rfl, rfl, kp.sq, rfl, _, rfl, _, rfl, iteF ?_⟩
  refine ⟨_, rfl, _, _, _, _, rfl, rfl, kp.sq, rfl, _, rfl, _, rfl, iteF ?_⟩
  refine ⟨_, rfl, _, _, _, _, rfl, rfl, kp.sq, rfl, _, _, rfl, rfl, _, rfl, ite2 (fun c => ?_) (fun c => ?_)⟩
  · have c' : (1 : Int) ≤ y := of_decide_eq_true c
    refine ⟨_, rfl, _, _, _, _, rfl, rfl, kp.sq, rfl, _, rfl, _, _, _, _, rfl, rfl, kp.sq, rfl, _, _, rfl, rfl, ?_⟩
    rw [decide_eq_true c', Bool.true_and] at q
    by_cases hg : g x y = 1
    · rw [decide_eq_true hg] at q
      rw [decide_eq_true (congrArg V.int hg)]
      exact q
    · rw [decide_eq_false hg] at q
      rw [decide_eq_false (fun z => hg (V.int.inj z))]
      exact q
  · have c' : ¬ (1 : Int) ≤ y := of_decide_eq_false (Bool.eq_false_iff.mpr c)
    rw [decide_eq_false c', Bool.false_and] at q
    exact q
theorem sc_check_text : FnScope ["thing"] ["thing"] (defScope s_check_text) := ⟨rfl, rfl, rfl, by decide +kernel, rfl, by decide +kernel, by decide +kernel⟩
theorem ok_check_text {c_NoText c_CordError c_NoCord c_NoFraction : Addr} (F : ∃ (oc : Value) (od : Option Addr) (kV doc pm : Value) (an : Option Addr) (cdv ct : Value) (osl : Array (Option Value)),
      fd = PySem.W.fnOf "check_text" "check_text" (defArgs s_check_text) (defBody s_check_text) (defScope s_check_text) .none kV doc pm an cdv ct ∧ K.lookup f = some ⟨oc, od, .func fd, osl⟩ ∧ PySem.W.codeIn K cdv "check_text" = true)
    (T : Txt mg) (R : Errs K mg c_NoText c_CordError c_NoCord c_NoFraction) : FnOk P w K mg base (CXe P w) 1 f fd ["thing"] (sp_chkX K c_NoText) := by
  refine okX F sc_check_text (fun vs H Q E h => ?_) (fun cdv A outer s H vs Q E hr h => ?_)
  · obtain ⟨v, rfl, _⟩ := h
    rfl
  obtain ⟨v, rfl, h⟩ := h
  refine ⟨_, (pss_one (ps_if (pt_not (pt_val (pe_callB call_isi rfl T.z_isinstance boot_isinstance (pa_cons (pv 0) (pa_cons (pe_bltn (v := .ty "str") rfl T.z_str boot_str rfl) pa_nil)))))
        (pss_one (ps_raise R.m_NoText R.o_NoText (pa_cons pe_str pa_nil)))
        pss_nil)), ?_⟩
  rcases h with ⟨x, rfl, q⟩ | ⟨⟨ty, ht, hk⟩, e⟩
  · exact ⟨_, rfl, _, _, _, _, rfl, TyOf.str _, kit_str_str _, _, rfl, iteF q⟩
  · exact ⟨_, rfl, _, _, _, _, rfl, ht, hk, _, rfl, iteT ⟨(by show 1 ≤ sizeLine; decide), e⟩⟩
theorem sc_read_fraction : FnScope ["text", "parts", "top", "bottom", "one"] ["text"] (defScope s_read_fraction) := ⟨rfl, rfl, rfl, by decide +kernel, rfl, by decide +kernel, by decide +kernel⟩
set_option maxHeartbeats 2000000 in
theorem ok_read_fraction {c_NoText c_CordError c_NoCord c_NoFraction : Addr} (F : ∃ (oc : Value) (od : Option Addr) (kV doc pm : Value) (an : Option Addr) (cdv ct : Value) (osl : Array (Option Value)),
      fd = PySem.W.fnOf "read_fraction" "read_fraction" (defArgs s_read_fraction) (defBody s_read_fraction) (defScope s_read_fraction) .none kV doc pm an cdv ct ∧ K.lookup f = some ⟨oc, od, .func fd, osl⟩ ∧ PySem.W.codeIn K cdv "read_fraction" = true)
    (T : Txt mg) (R : Errs K mg c_NoText c_CordError c_NoCord c_NoFraction) (C_check_text : CalX P w K mg base "check_text" 1 ["thing"] [] [] (sp_chkX K c_NoText)) (C_are_figures : Cal P w K mg base "are_figures" 1 ["text"] sp_figsT) (C_without_minus : Cal P w K mg base "without_minus" 1 ["text"] sp_wmin) (C_is_fraction : Cal P w K mg base "is_fraction" 2 ["thing"] sp_frP) (C_show_fraction : Cal P w K mg base "show_fraction" 1 ["one"] sp_showf) : FnOk P w K mg base (CXe P w) 3 f fd ["text"] (sp_rdfX K c_NoText) := by
  refine okX F sc_read_fraction (fun vs H Q E h => ?_) (fun cdv A outer s H vs Q E hr h => ?_)
  · obtain ⟨v, rfl, _⟩ := h
    rfl
  obtain ⟨v, rfl, h⟩ := h
  refine ⟨_, (pss_cons (ps_expr (pe_clX C_check_text hr (pa_cons (pv 0) pa_nil)))
      (pss_cons (ps_set (i := 1) sc_read_fraction.nd rfl (Or.inl rfl) (pe_bm PySem.F.plainAttrs_str PySem.F.slot_str_partition PySem.F.type_str_partition mt_part (pv 0) (pa_cons pe_str pa_nil)))
      (pss_cons (ps_set (i := 2) sc_read_fraction.nd rfl (Or.inl rfl) (pe_ix ix_tup (pv 1) pe_int (fun _ _ => rfl)))
      (pss_cons (ps_set (i := 3) sc_read_fraction.nd rfl (Or.inl rfl) (pe_ifExp (pt_cmpR op_eq (pe_ix ix_tup (pv 1) pe_int (fun _ _ => rfl)) pe_str (nomark _)) (pe_ix ix_tup (pv 1) pe_int (fun _ _ => rfl)) pe_str))
      (pss_cons (ps_if (PW.pt (pw_or (pt_not (pt_val (pe_cl C_are_figures hr (pa_cons (pe_cl C_without_minus hr (pa_cons (pv 2) pa_nil)) pa_nil)))) (pw_or1 (pt_not (pt_val (pe_cl C_are_figures hr (pa_cons (pv 3) pa_nil)))))))
        (pss_one (ps_raise R.m_NoText R.o_NoText (pa_cons pe_str pa_nil)))
        pss_nil)
      (pss_cons (ps_set (i := 4) sc_read_fraction.nd rfl (Or.inl rfl) (pe_tup (pa_cons (pe_callTy call_int_txt rfl T.z_int boot_int (pa_cons (pv 2) pa_nil)) (pa_cons (pe_callTy call_int_txt rfl T.z_int boot_int (pa_cons (pv 3) pa_nil)) pa_nil))))
      (pss_cons (ps_if (PW.pt (pw_or (pt_not (pt_val (pe_cl C_is_fraction hr (pa_cons (pv 4) pa_nil)))) (pw_or1 (pt_cmpR op_ne (pe_cl C_show_fraction hr (pa_cons (pv 4) pa_nil)) (pv 0) (nomark _)))))
        (pss_one (ps_raise R.m_NoText R.o_NoText (pa_cons pe_str pa_nil)))
        pss_nil)
      (pss_one (ps_ret (pv 4)))))))))), ?_⟩
  rcases h with ⟨nt, e⟩ | ⟨l, rfl, ⟨ha, hl⟩, k, kx⟩
  · exact ⟨_, rfl, _, rfl, .inr ⟨nt, e⟩⟩
  have hz : (100000 : Nat) < sizeLine := by decide
  refine ⟨_, rfl, _, rfl, .inl ⟨_, rfl, ?_⟩⟩
  refine ⟨_, rfl, rfl, _, _, rfl, rfl, (by decide), by rw [sx_len]; (first | lia | omega), fun p hp => ?_⟩
  obtain ⟨a, b, x, y, ep, pa1, pa2, hxy, key⟩ := parts_any l
  have s1 := same_upd hp (.tup ((parts3 (sx l) (Str.ofString "/")).map V.str))
  have e2 : upd H p (.tup ((parts3 (sx l) (Str.ofString "/")).map V.str)) p = some (.tup [.str (sx a), .str x, .str y]) := by
    rw [upd_same, show Str.ofString "/" = sx [47] from rfl, ep]
    rfl
  generalize upd H p (.tup ((parts3 (sx l) (Str.ofString "/")).map V.str)) = H1 at *
  refine ⟨_, rfl, p, _, _, _, rfl, rfl, SqT.of e2, rfl, ?_⟩
  refine ⟨_, rfl, p, _, _, _, rfl, rfl, SqT.of e2, rfl, rfl, _, rfl, ?_⟩
  have rest : (sx b) = (if x = sx [47] then y else Str.ofString "1") := by
    rcases hxy with ⟨h1, h2⟩ | ⟨h1, h2, _⟩
    · rw [if_neg (by rw [h1]; exact empty_ne (by simp)), h2]
      rfl
    · rw [if_pos h1, h2]
  have hb : (∀ c ∈ b, c < 128) ∧ b.length ≤ 50000 := by
    rcases hxy with ⟨_, h2⟩ | ⟨_, _, h3, h4⟩
    · rw [h2]; exact ⟨by simp, by decide⟩
    · exact ⟨fun c hc => ha c (h3 c hc), by (first | lia | omega)⟩
  refine ite2T (V.str (sx b)) (fun c fin => ?_) (fun c fin => ?_) ?_
  · have c' : x = sx [47] := V.str.inj (of_decide_eq_true c)
    rw [if_pos c'] at rest
    rw [← rest] at e2
    refine ⟨_, rfl, p, _, _, _, rfl, rfl, SqT.of e2, rfl, ?_⟩
    exact fin
  · have c' : ¬ x = sx [47] := fun z => of_decide_eq_false (Bool.eq_false_iff.mpr c) (congrArg V.str z)
    rw [if_neg c'] at rest
    rw [← rest]
    exact fin
  have wl : (wmin a).length ≤ 50000 ∧ ∀ c ∈ wmin a, c < 128 := by
    unfold wmin
    split
    · exact ⟨by rw [List.length_drop]; (first | lia | omega), fun c hc => ha c (pa1 c (List.mem_of_mem_drop hc))⟩
    · exact ⟨by (first | lia | omega), fun c hc => ha c (pa1 c hc)⟩
  refine ⟨_, rfl, a, rfl, by (first | lia | omega), wmin a, rfl, wl.2, by (first | lia | omega), fun H2 s2 => ?_⟩
  refine ⟨_, rfl, ite2 (fun c => ?_) (fun c => ?_)⟩
  · exact ⟨(by show 1 ≤ sizeLine; decide), kx (fun q hq z => by
      rw [(key q z).1, wmin_itx, fig_dgs hq.1] at c
      exact absurd c (by decide)) H2 (s1.trans s2)⟩
  have f1 : figB (wmin a) = true := by
    cases h : figB (wmin a) with
    | true => rfl
    | false => exact absurd (by rw [h]; rfl) c
  refine ⟨_, rfl, b, rfl, hb.1, by (first | lia | omega), fun H3 s3 => ?_⟩
  refine ⟨_, rfl, ite2 (fun c => ?_) (fun c => ?_)⟩
  · exact ⟨(by show 1 ≤ sizeLine; decide), kx (fun q hq z => by
      rw [(key q z).2, fig_dgs hq.2] at c
      exact absurd c (by decide)) H3 (s1.trans (s2.trans s3))⟩
  have f2 : figB b = true := by
    cases h : figB b with
    | true => rfl
    | false => exact absurd (by rw [h]; rfl) c
  obtain ⟨g1, g2, g3⟩ := fig_dg f1
  obtain ⟨g4, g5, g6⟩ := fig_dg f2
  refine ⟨_, rfl, sx a, decide (a[0]? = some 45), wmin a, rfl, g1, g3, by (first | lia | omega), wmin_shape a, _, rfl, sx b, false, b, rfl, g4, g6, by (first | lia | omega), rfl, (by show 2 ≤ sizeLine; decide), fun o ho => ?_⟩
  have ei : (if decide (a[0]? = some 45) = true then -(dgv (wmin a) : Int) else (dgv (wmin a) : Int)) = ival a := rfl
  rw [ei, if_neg (by decide)]
  have s4 := same_upd ho (.tup [.int (ival a), .int (dgv b : Int)])
  have ko : Pr (upd H3 o (.tup [.int (ival a), .int (dgv b : Int)])) o (ival a) (dgv b) := upd_same
  have s14 := s1.trans (s2.trans (s3.trans s4))
  have iv : ∀ q, F30 q → l = ftx q → ival a = q.num ∧ (dgv b : Int) = q.den := fun q _ z => by
    obtain ⟨z1, z2⟩ := key q z
    rw [z1, z2, ival_itx, dgs_val]
    exact ⟨rfl, rfl⟩
  refine ⟨_, rfl, o, _, _, rfl, ko, _, rfl, ite2 (fun c => ?_) (fun c => ?_)⟩
  · exact ⟨(by show 1 ≤ sizeLine; decide), kx (fun q hq z => by
      obtain ⟨z1, z2⟩ := iv q hq z
      have d := den_pos q
      have hg : g q.num q.den = 1 := by
        unfold g
        rw [(fq q).one]
        rfl
      rw [z1, z2, decide_eq_true (show (1 : Int) ≤ (q.den : Int) by (first | lia | omega)), decide_eq_true hg] at c
      exact absurd c (by decide)) _ s14⟩
  have fr : (decide ((1 : Int) ≤ (dgv b : Int)) && decide (g (ival a) (dgv b : Int) = 1)) = true := by
    cases h : (decide ((1 : Int) ≤ (dgv b : Int)) && decide (g (ival a) (dgv b : Int) = 1)) with
    | true => rfl
    | false => exact absurd (by rw [h]; rfl) c
  obtain ⟨fr1, fr2⟩ := Bool.and_eq_true_iff.mp fr
  have Fa := g_one (of_decide_eq_true fr1) (of_decide_eq_true fr2)
  obtain ⟨qn, qd⟩ := eq_of_low Fa (q := (ival a : Rat) / ((dgv b : Int) : Rat)) rfl
  generalize (ival a : Rat) / ((dgv b : Int) : Rat) = q0 at *
  have kq : Pq (upd H3 o (.tup [.int (ival a), .int (dgv b : Int)])) o q0 := by
    show _ = some (HO.tup [V.int q0.num, V.int q0.den])
    rw [qn, qd]
    exact ko
  have h30 : F30 q0 := by
    have b1 := dgv_30 f1
    have b2 := dgv_30 f2
    refine ⟨?_, by (first | lia | omega)⟩
    rw [qn]
    unfold ival
    split <;> (first | lia | omega)
  refine ⟨_, rfl, o, q0, rfl, kq, h30, _, rfl, rfl, _, rfl, ite2 (fun c => ?_) (fun c => ?_)⟩
  · exact ⟨(by show 1 ≤ sizeLine; decide), kx (fun q hq z => by
      obtain ⟨z1, z2⟩ := iv q hq z
      have : q = q0 := Rat.ext (by rw [qn, z1]) (by (first | lia | omega))
      rw [z, this] at c
      exact absurd c (by simp)) _ s14⟩
  · have el : l = ftx q0 := by
      apply Decidable.byContradiction
      intro z
      exact c (by
        have : ¬ V.str (sx (ftx q0)) = V.str (sx l) := fun y => z (sx_inj (V.str.inj y)).symm
        simp [this])
    exact ⟨_, rfl, k q0 h30 el o _ s14 kq⟩

theorem f30_of {T M : Int} {q : Rat} (hM : 0 < M) (hq : q = (T : Rat) / (M : Rat)) (hT : T.natAbs < 10 ^ 30) (hm : M.natAbs < 10 ^ 30) : F30 q := by
  obtain ⟨d1, d2⟩ := dvd_of (Int.ne_of_gt hM) hq
  refine ⟨?_, ?_⟩
  · by_cases h : T = 0
    · subst h
      have : q = 0 := by rw [hq]; simp [Rat.div_def]
      rw [this]
      decide
    · exact Nat.lt_of_le_of_lt (Nat.le_of_dvd (by (first | lia | omega)) (Int.natAbs_dvd_natAbs.mpr d1)) hT
  · have h := Nat.le_of_dvd (by (first | lia | omega)) (Int.natAbs_dvd_natAbs.mpr d2)
    have h' : (q.den : Int).natAbs = q.den := Int.natAbs_natCast _
    (first | lia | omega)
theorem jn_app {c : Nat} (w : List Nat) : ∀ {l : List (List Nat)}, l ≠ [] → jn c (l ++ [w]) = jn c l ++ c :: w
  | [], h => absurd rfl h
  | [x], _ => rfl
  | x :: y :: l, _ => by
    show x ++ c :: jn c (y :: l ++ [w]) = (x ++ c :: jn c (y :: l)) ++ c :: w
    rw [jn_app w (by simp)]
    simp
noncomputable def sp_rby81 : Sp := fun vs H Q _ => ∃ (c : Int) (k : Nat), vs = [.int c, .int k] ∧ k ≤ 100 ∧ ∀ r qs H', Same H H' → H r = none → Rw H' r qs → qs.length ≤ 12 → (∀ q ∈ qs, F30 q) → Q (.ref r) H'
theorem sc_law_word : FnScope ["_law_one"] ["_law_one"] (defScope s_law_word) := ⟨rfl, rfl, rfl, by decide +kernel, rfl, by decide +kernel, by decide +kernel⟩
theorem ok_law_word (F : Fun K "_law_word" "_law_word" s_law_word f fd) (T : Txt mg) : FnOk P w K mg base CX0 1 f fd ["_law_one"] sp_showf := by
  refine F.ok sc_law_word (fun vs H Q E h => ?_) (fun cdv A outer s H vs Q E hr h => ?_)
  · obtain ⟨p, q, rfl, _⟩ := h
    rfl
  obtain ⟨p, q, rfl, kp, hq, k⟩ := h
  obtain ⟨l1, l2⟩ := hq.log
  have h1 := itx_len hq.1
  have h2 := dgs_len (k := 30) (by decide) hq.2
  have hz : (1000 : Nat) < sizeLine := by decide
  have eb : itx (q.den : Int) = dgs q.den := by
    unfold itx
    rw [if_neg (by (first | lia | omega))]
    rfl
  refine ⟨_, (pss_cons (ps_if (pt_cmpR op_eq (pe_ix ix_tup (pv 0) pe_int (fun _ _ => rfl)) pe_int (nomark _))
        (pss_one (ps_ret (pe_callTy call_str_int rfl T.z_str boot_str (pa_cons (pe_ix ix_tup (pv 0) pe_int (fun _ _ => rfl)) pa_nil))))
        pss_nil)
      (pss_one (ps_ret (pe_op op_add_str (pe_op op_add_str (pe_callTy call_str_int rfl T.z_str boot_str (pa_cons (pe_ix ix_tup (pv 0) pe_int (fun _ _ => rfl)) pa_nil)) pe_str) (pe_callTy call_str_int rfl T.z_str boot_str (pa_cons (pe_ix ix_tup (pv 0) pe_int (fun _ _ => rfl)) pa_nil)))))), ?_⟩
  refine ⟨_, rfl, _, _, _, _, rfl, rfl, kp.sq, rfl, rfl, _, rfl, ite2 (fun c => ?_) (fun c => ?_)⟩
  · have c' : (q.den : Int) = 1 := V.int.inj (of_decide_eq_true c)
    unfold ftx at k
    rw [if_pos (by (first | lia | omega))] at k
    refine ⟨_, rfl, _, _, _, _, rfl, rfl, kp.sq, rfl, _, rfl, l1, ?_⟩
    rw [show (toString q.num : Str) = sx (itx q.num) from tos q.num]
    exact k
  · have c' : ¬ (q.den : Int) = 1 := fun z => of_decide_eq_false (Bool.eq_false_iff.mpr c) (congrArg V.int z)
    unfold ftx at k
    rw [if_neg (by (first | lia | omega))] at k
    refine ⟨_, rfl, _, _, _, _, rfl, rfl, kp.sq, rfl, _, rfl, l1, _, _, rfl, rfl, ?_, _, rfl, _, _, _, _, rfl, rfl, kp.sq, rfl, _, rfl, l2, _, _, rfl, rfl, ?_, ?_⟩
    · rw [show (toString q.num : Str) = sx (itx q.num) from tos q.num, sx_len]
      show _ + 1 ≤ _
      (first | lia | omega)
    · rw [show (toString q.num : Str) = sx (itx q.num) from tos q.num, show (toString (q.den : Int) : Str) = sx (itx (q.den : Int)) from tos _, slen, sx_len, sx_len, eb]
      show _ + 1 + _ ≤ _
      (first | lia | omega)
    · rw [show (toString q.num : Str) = sx (itx q.num) from tos q.num, show (toString (q.den : Int) : Str) = sx (itx (q.den : Int)) from tos _, eb, show (Str.ofString "/") = sx [47] from rfl, sx_app, sx_app, List.append_assoc]
      exact k
theorem sc_law_same : FnScope ["_law_told", "_law_due", "_law_k", "_law_number"] ["_law_told", "_law_due"] (defScope s_law_same) := ⟨rfl, rfl, rfl, by decide +kernel, rfl, by decide +kernel, by decide +kernel⟩
theorem ok_law_same (F : Fun K "_law_same" "_law_same" s_law_same f fd) (T : Txt mg) : FnOk P w K mg base CX0 1 f fd ["_law_told", "_law_due"] sp_sameQ := by
  refine F.ok sc_law_same (fun vs H Q E h => ?_) (fun cdv A outer s H vs Q E hr h => ?_)
  · obtain ⟨a, b, qs, rfl, _⟩ := h
    rfl
  obtain ⟨a, b, qs, rfl, ⟨ps, h1, h2⟩, ⟨rs, k1, k2⟩, hz, q⟩ := h
  have hl := h2.length
  have kl := k2.length
  refine ⟨_, (pss_cons (ps_if (PW.pt (pw_or (pt_not (pt_val (pe_callB call_isi rfl T.z_isinstance boot_isinstance (pa_cons (pv 0) (pa_cons (pe_bltn (v := .ty "list") rfl T.z_list boot_list rfl) pa_nil))))) (pw_or1 (pt_cmpR op_ne (pe_callB call_len_seq rfl T.z_len PySem.boot_len (pa_cons (pv 0) pa_nil)) (pe_callB call_len_seq rfl T.z_len PySem.boot_len (pa_cons (pv 1) pa_nil)) (nomark _)))))
        (pss_one (ps_ret pe_bl))
        pss_nil)
      (pss_cons (ps_for PassesOwn.never rfl (pi_range1 rfl T.z_range (pa_cons (pe_callB call_len_seq rfl T.z_len PySem.boot_len (pa_cons (pv 1) pa_nil)) pa_nil)) (pg_name (i := 2) sc_law_same.nd rfl (Or.inl rfl))
        (pss_cons (ps_if (PW.pt (pw_or (pt_not (pt_val (pe_callB call_isi rfl T.z_isinstance boot_isinstance (pa_cons (pe_ix ix_list (pv 0) (pv 2) (fun _ _ => rfl)) (pa_cons (pe_bltn (v := .ty "tuple") rfl T.z_tuple boot_tuple rfl) pa_nil))))) (pw_or (pt_cmpR op_ne (pe_callB call_len_seq rfl T.z_len PySem.boot_len (pa_cons (pe_ix ix_list (pv 0) (pv 2) (fun _ _ => rfl)) pa_nil)) pe_int (nomark _)) (pw_or1 (pt_cmpR (op_neD hr.units) (pe_ix ix_list (pv 0) (pv 2) (fun _ _ => rfl)) (pe_ix ix_list (pv 1) (pv 2) (fun _ _ => rfl)) (nomark _))))))
          (pss_one (ps_ret pe_bl))
          pss_nil)
        (pss_one (ps_for PassesOwn.never rfl (pi_tup (pe_ix ix_list (pv 0) (pv 2) (fun _ _ => rfl))) (pg_name (i := 3) sc_law_same.nd rfl (Or.inl rfl))
          (pss_one (ps_if (PW.pt (pw_or (pt_not (pt_val (pe_callB call_isi rfl T.z_isinstance boot_isinstance (pa_cons (pv 3) (pa_cons (pe_bltn (v := .ty "int") rfl T.z_int boot_int rfl) pa_nil))))) (pw_or1 (pt_val (pe_callB call_isi rfl T.z_isinstance boot_isinstance (pa_cons (pv 3) (pa_cons (pe_bltn (v := .ty "bool") rfl T.z_bool boot_bool rfl) pa_nil)))))))
            (pss_one (ps_ret pe_bl))
            pss_nil))))))
      (pss_one (ps_ret pe_bl)))), ?_⟩
  refine ⟨_, rfl, _, _, _, _, rfl, TyOf.lst h1, kit_lst_lst _, _, rfl, iteF ?_⟩
  refine ⟨_, rfl, _, _, rfl, .inl (SqL.of h1), _, rfl, _, _, rfl, .inl (SqL.of k1), rfl, _, rfl, iteNS (by rw [List.length_map, List.length_map, hl, kl]) ?_⟩
  refine ⟨_, rfl, _, _, rfl, .inl (SqL.of k1), _, rfl, by (first | lia | omega), by rw [List.length_map]; (first | lia | omega), ?_⟩
  rw [Int.toNat_natCast, List.length_map, kl]
  refine for_range (n := qs.length) (fun i σ H' => H = H' ∧ ∃ v w, σ = [some (.ref a), some (.ref b), v, w]) ⟨rfl, _, _, rfl⟩ ?_ ?_
  · rintro i σ _ hi ⟨rfl, v, w, rfl⟩
    obtain ⟨p, e1, hp⟩ := h2.get (List.getElem?_eq_getElem hi)
    obtain ⟨p', e2, hp'⟩ := k2.get (List.getElem?_eq_getElem hi)
    refine ⟨_, rfl, _, rfl, _, _, _, _, rfl, rfl, SqL.of h1, atI_0 e1, _, _, _, _, rfl, TyOf.tup hp, kit_tup_tup _, _, rfl, iteF ?_⟩
    refine ⟨_, rfl, _, rfl, _, _, _, _, rfl, rfl, SqL.of h1, atI_0 e1, _, _, rfl, .inr hp.sq, rfl, _, rfl, iteNS rfl ?_⟩
    refine ⟨_, rfl, _, rfl, _, _, _, _, rfl, rfl, SqL.of h1, atI_0 e1, _, rfl, _, rfl, _, _, _, _, rfl, rfl, SqL.of k1, atI_0 e2, _, _, hp.dv, hp'.dv, Nat.le_trans (depth_dq _) (by decide), _, rfl, iteNB (eqv_dq_self _) ?_⟩
    refine ⟨_, rfl, _, rfl, _, _, _, _, rfl, rfl, SqL.of h1, atI_0 e1, _, rfl, ⟨_, hp.sq⟩, ?_⟩
    refine for_tup (xs := [.int qs[i].num, .int qs[i].den]) (fun j σ H'' => H = H'' ∧ ∃ v w, σ = [some (.ref a), some (.ref b), v, w]) ⟨rfl, _, _, rfl⟩ ?_ ?_ ?_
    · rintro j σ _ _ ⟨rfl, _⟩
      exact hp.sq
    · rintro j x σ _ hx ⟨rfl, v, w, rfl⟩
      obtain ⟨m, rfl⟩ : ∃ m, x = .int m := by
        match j, hx with
        | 0, hx => exact ⟨_, (Option.some.inj hx).symm⟩
        | 1, hx => exact ⟨_, (Option.some.inj hx).symm⟩
      refine ⟨_, rfl, _, _, _, _, rfl, TyOf.int _, kit_int_int _, _, rfl, iteF ?_⟩
      exact ⟨_, rfl, _, _, _, _, rfl, TyOf.int _, kit_int_bool _, _, rfl, iteF ⟨rfl, _, _, rfl⟩⟩
    · rintro σ _ ⟨rfl, v, w, rfl⟩
      exact ⟨rfl, _, _, rfl⟩
  · rintro σ _ ⟨rfl, v, w, rfl⟩
    exact q

structure Odd (l : List Nat) : Prop where
  pln : ∀ c ∈ l, c < 128
  len : l.length ≤ 64
  no : ∀ q, F30 q → l ≠ ftx q
  bl : 32 ∈ l → l = [49, 32] ∨ l = [32, 49] ∨ l = [49, 32, 32, 50]
noncomputable def sp_odd : Sp := fun vs H Q _ => ∃ (r : Int) (p : Addr) (q : Rat), vs = [.int r, .ref p] ∧ Pq H p q ∧ F30 q ∧ ∀ l H', Same H H' → Odd l → Q (.str (sx l)) H'
noncomputable def rdB (l : List Nat) : Bool :=
  let a := l.takeWhile fun c => c != 47
  let b := match l.dropWhile fun c => c != 47 with
    | [] => [49]
    | _ :: r => r
  figB (wmin a) && figB b && decide ((1 : Int) ≤ dgv b) && decide (Int.gcd (ival a) (dgv b) = 1) && decide (l = if dgv b = 1 then itx (ival a) else itx (ival a) ++ 47 :: dgs (dgv b))
theorem rdB_ftx {q : Rat} (h : F30 q) : rdB (ftx q) = true := by
  have hf : ∀ c ∈ itx q.num, (c != 47) = true := fun c hc => by
    have : c ≠ 47 := fun z => itx_free (c := 47) (by decide) (fun z => absurd z.1 (by decide)) q.num (z ▸ hc)
    simpa using this
  have ea : (ftx q).takeWhile (fun c => c != 47) = itx q.num := by
    unfold ftx
    split
    · have := List.takeWhile_append_of_pos (l₂ := []) hf
      rw [List.append_nil] at this
      rw [this]
      simp
    · rw [List.takeWhile_append_of_pos hf]
      simp
  have eb : (match (ftx q).dropWhile (fun c => c != 47) with | [] => [49] | _ :: r => r) = dgs q.den := by
    unfold ftx
    by_cases d : q.den = 1
    · have := List.dropWhile_append_of_pos (l₂ := []) hf
      rw [List.append_nil] at this
      rw [if_pos d, this, d]
      rfl
    · rw [if_neg d, List.dropWhile_append_of_pos hf]
      rfl
  have d := den_pos q
  have e1 : decide ((1 : Int) ≤ ((q.den : Nat) : Int)) = true := decide_eq_true (by (first | lia | omega))
  have e2 : decide (Int.gcd q.num ((q.den : Nat) : Int) = 1) = true := decide_eq_true (fq q).one
  have e3 : decide (ftx q = if q.den = 1 then itx q.num else itx q.num ++ 47 :: dgs q.den) = true := decide_eq_true rfl
  unfold rdB
  simp only [ea, eb, ival_itx, dgs_val, wmin_itx, fig_dgs h.1, fig_dgs h.2, e1, e2, e3, Bool.and_self]
theorem ftx_low {q : Rat} {c : Nat} (h : c ∈ ftx q) : c < 128 := by
  apply Decidable.byContradiction
  intro z
  exact ftx_free (by (first | lia | omega)) (fun y => by have := y.2; (first | lia | omega)) (by (first | lia | omega)) q h
noncomputable def odds1 : List (List Nat) := [[], [43, 49], [45, 48], [48, 49], [49, 47, 49], [50, 47, 52], [49, 47, 48], [48, 47, 53], [49, 47, 45, 50], [49, 47, 47, 50], [49, 47], [47, 50], [97], [49, 46, 53], [40, 49, 41], [45, 45, 49]]
noncomputable def odds2 : List (List Nat) := [[48, 47, 49], [45, 48, 47, 51], [49, 47, 48, 50], [45], [45, 49, 47], [49, 32], [32, 49], [49, 32, 32, 50], [45, 54, 47, 51], [49, 47, 50, 47, 51], [48, 48], [49, 47, 43, 50]]
noncomputable def odds3 : List (List Nat) := [[49, 48, 48, 48, 48, 48, 48, 48, 48, 48, 48, 48, 48, 48, 48, 48, 48, 48, 48, 48, 48, 48, 48, 48, 48, 48, 48, 48, 48, 48, 48], [49, 47, 49, 48, 48, 48, 48, 48, 48, 48, 48, 48, 48, 48, 48, 48, 48, 48, 48, 48, 48, 48, 48, 48, 48, 48, 48, 48, 48, 48, 48, 48, 48], [45, 49, 48, 48, 48, 48, 48, 48, 48, 48, 48, 48, 48, 48, 48, 48, 48, 48, 48, 48, 48, 48, 48, 48, 48, 48, 48, 48, 48, 48, 48, 48]]
noncomputable def oddB (l : List Nat) : Bool := l.all (fun c => decide (c < 128)) && decide (l.length ≤ 64) && !rdB l && (!decide (32 ∈ l) || decide (l = [49, 32]) || decide (l = [32, 49]) || decide (l = [49, 32, 32, 50]))
noncomputable def sgns : List Nat := [43, 46, 95, 120, 65, 40, 41, 44, 58]
theorem ftx_inj {p q : Rat} (h : ftx p = ftx q) : p = q := by
  obtain ⟨a, b, x, y, _, _, _, _, key⟩ := parts_any (ftx p)
  obtain ⟨k1, k2⟩ := key p rfl
  obtain ⟨k3, k4⟩ := key q h
  have e1 : p.num = q.num := by rw [← ival_itx p.num, ← k1, k3, ival_itx]
  have e2 : p.den = q.den := by rw [← dgs_val p.den, ← k2, k4, dgs_val]
  exact Rat.ext e1 e2
theorem jn_low {c : Nat} (hc : c < 128) : ∀ {W : List (List Nat)}, (∀ w ∈ W, ∀ x ∈ w, x < 128) → ∀ x ∈ jn c W, x < 128
  | [], _, x, hx => by cases hx
  | [w], h, x, hx => h w (by simp) x hx
  | w :: v :: r, h, x, hx => by
    rcases List.mem_append.mp (show x ∈ w ++ c :: jn c (v :: r) from hx) with y | y
    · exact h w (by simp) x y
    · rcases List.mem_cons.mp y with y | y
      · rw [y]; exact hc
      · exact jn_low hc (W := v :: r) (fun u hu => h u (List.mem_cons_of_mem _ hu)) x y
noncomputable def Thing (H : Hp) (v : V) : Prop := v = .non ∨ (∃ b, v = .bl b) ∨ (∃ i, v = .int i) ∨ ∃ p xs, v = .ref p ∧ (H p = some (.tup xs) ∨ H p = some (.lst xs))
theorem Thing.keep {H H' : Hp} {v : V} (h : Thing H v) (s : Same H H') : Thing H' v := by
  rcases h with h | h | h | ⟨p, xs, h, h'⟩
  · exact .inl h
  · exact .inr (.inl h)
  · exact .inr (.inr (.inl h))
  · refine .inr (.inr (.inr ⟨p, xs, h, ?_⟩))
    rcases h' with h' | h'
    · exact .inl (s _ _ h')
    · exact .inr (s _ _ h')
theorem Thing.no {K : PySem.W.Frag} {H : Hp} {v : V} (h : Thing H v) : NoTx K H v := by
  rcases h with h | ⟨b, h⟩ | ⟨i, h⟩ | ⟨p, xs, h, h' | h'⟩
  · rw [h]; exact ⟨_, TyOf.non, by with_unfolding_all rfl⟩
  · rw [h]; exact ⟨_, TyOf.bl b, by with_unfolding_all rfl⟩
  · rw [h]; exact ⟨_, TyOf.int i, by with_unfolding_all rfl⟩
  · rw [h]; exact ⟨_, TyOf.tup h', by with_unfolding_all rfl⟩
  · rw [h]; exact ⟨_, TyOf.lst h', by with_unfolding_all rfl⟩
noncomputable def Bad (l : List Nat) : Prop := Pln l ∧ ∀ qs, (∀ q ∈ qs, F30 q) → l ≠ jn 32 (wordsOf qs)

theorem ends_one (l : List Nat) (c : Nat) : Txt.endswith (sx l) (sx [c]) = decide (l.getLast? = some c) := by
  rcases List.eq_nil_or_concat l with e | ⟨m, x, e⟩
  · subst e
    unfold Txt.endswith
    have : decide ((sx [c]).length ≤ (sx ([] : List Nat)).length) = false := decide_eq_false (by rw [sx_len, sx_len]; simp)
    simp [this]
  · rw [List.concat_eq_append] at e
    subst e
    have h := at_iff (m ++ [x]) c m.length
    unfold StrLaws.At at h
    unfold Txt.endswith
    have e1 : (sx (m ++ [x])).length - (sx [c]).length = m.length := by rw [sx_len, sx_len]; simp
    rw [e1]
    have e2 : (m ++ [x])[m.length]? = some x := by simp
    have e3 : (m ++ [x]).getLast? = some x := by simp
    rw [e3]
    rw [e2] at h
    by_cases hx : x = c
    · have := h.mpr (by rw [hx])
      rw [decide_eq_true (show some x = some c by rw [hx]), Bool.and_eq_true]
      refine ⟨decide_eq_true ?_, this.2⟩
      rw [sx_len, sx_len]
      simp
    · rw [decide_eq_false (fun z => hx (Option.some.inj z))]
      refine Bool.eq_false_iff.mpr fun z => hx (Option.some.inj (h.mp ?_))
      rw [Bool.and_eq_true] at z
      refine ⟨?_, z.2⟩
      rw [sx_len, sx_len]
      simp
theorem cordW_32 {gs ws : List Rat} (h : C30 gs ws) : ∀ v ∈ cordW gs ws, 32 ∉ v := h.mem (fun w _ z => by
    rcases List.mem_cons.mp z with y | y
    · cases y
    · rcases List.mem_append.mp y with y | y
      · exact ftx_32 w y
      · cases List.mem_singleton.mp y) fun g _ => ftx_32 g
theorem cordW_ev {gs ws : List Rat} (h : C30 gs ws) : L3.ev2 (cordW gs ws) = gs.map ftx := by
  have hl := h.fine.len
  have h0 : 0 < gs.length := by (first | lia | omega)
  unfold cordW
  rw [ev2_gaps _ (by rw [List.length_drop]; (first | lia | omega)), Po.getD_in h0, ← List.map_cons (f := ftx), ← List.drop_eq_getElem_cons h0, List.drop_zero]
theorem cordW_ev1 {gs ws : List Rat} (h : C30 gs ws) : L3.ev2 ((cordW gs ws).drop 1) = ws.map brx := by
  have hl := h.fine.len
  show L3.ev2 (cw ws (gs.drop 1)) = _
  rw [ev2_wts (by rw [List.length_drop]; (first | lia | omega))]
theorem maps_inj {f : Rat → List Nat} (hf : ∀ p q, f p = f q → p = q) : ∀ {ps qs : List Rat}, ps.map f = qs.map f → ps = qs
  | [], [], _ => rfl
  | [], _ :: _, h => by cases h
  | _ :: _, [], h => by cases h
  | p :: ps, q :: qs, h => by
    rw [List.map_cons, List.map_cons] at h
    injection h with h1 h2
    rw [hf _ _ h1, maps_inj hf h2]
theorem brx_inj {p q : Rat} (h : brx p = brx q) : p = q := by
  unfold brx at h
  injection h with _ h
  exact ftx_inj (List.append_cancel_right h)
theorem ev2_both : ∀ (xs ys : List (List Nat)), xs.length = ys.length → L3.ev2 xs = L3.ev2 ys → L3.ev2 (xs.drop 1) = L3.ev2 (ys.drop 1) → xs = ys
  | [], [], _, _, _ => rfl
  | [x], [y], _, h, _ => h
  | x :: x' :: xs, y :: y' :: ys, hl, h, h' => by
    have h1 : x :: L3.ev2 xs = y :: L3.ev2 ys := h
    injection h1 with h1 h2
    have hl' : (x' :: xs).length = (y' :: ys).length := by simpa using hl
    have h3 : L3.ev2 (x' :: xs) = L3.ev2 (y' :: ys) := h'
    have := ev2_both (x' :: xs) (y' :: ys) hl' h3 h2
    rw [h1, this]
  | [], _ :: _, h, _, _ => by simp at h
  | _ :: _, [], h, _, _ => by simp at h
  | [_], _ :: _ :: _, h, _, _ => by simp at h
  | _ :: _ :: _, [_], h, _, _ => by simp at h
theorem words_of {W : List (List Nat)} {gs ws : List Rat} (fine : Fine0 gs ws) (hg : L3.ev2 W = gs.map ftx) (hw : L3.ev2 (W.drop 1) = ws.map brx) : W = cordW gs ws := by
  have hl := fine.len
  have h0 : 0 < gs.length := by (first | lia | omega)
  have lgd : ws.length = (gs.drop 1).length := by rw [List.length_drop]; (first | lia | omega)
  have e0 : L3.ev2 (cordW gs ws) = gs.map ftx := by
    unfold cordW
    rw [ev2_gaps _ lgd, Po.getD_in h0, ← List.map_cons (f := ftx), ← List.drop_eq_getElem_cons h0, List.drop_zero]
  have e1 : L3.ev2 ((cordW gs ws).drop 1) = ws.map brx := by
    show L3.ev2 (cw ws (gs.drop 1)) = _
    rw [ev2_wts lgd]
  refine ev2_both _ _ ?_ (hg.trans e0.symm) (hw.trans e1.symm)
  have a1 := congrArg List.length hg
  have a2 := congrArg List.length hw
  rw [L3.ev2_length, List.length_map] at a1 a2
  rw [List.length_drop] at a2
  show _ = (cw ws (gs.drop 1)).length + 1
  rw [cw_len lgd]
  (first | lia | omega)
noncomputable def sp_brkX (cT : Addr) : Sp := fun vs H Q E => ∃ l, vs = [.str (sx l)] ∧ l.length ≤ 50000 ∧ (∀ m, l = 40 :: (m ++ [41]) → Q (.str (sx m)) H) ∧ ((∀ m, l ≠ 40 :: (m ++ [41])) → E (.ref cT) none H)
noncomputable def sp_rdcX (K : PySem.W.Frag) (C cT : Addr) : Sp := fun vs H Q E => ∃ v, vs = [v] ∧ ((NoTx K H v ∧ E (.ref cT) none H) ∨ ∃ l, v = .str (sx l) ∧ Pln l ∧ (∀ gs ws, C30 gs ws → l = jn 32 (cordW gs ws) → ∀ c ga wa H', Same H H' → Co C H' c ga wa gs ws → Q (.ref c) H') ∧
  ((∀ gs ws, C30 gs ws → l ≠ jn 32 (cordW gs ws)) → ∀ H', Same H H' → E (.ref cT) none H'))
noncomputable def sp_noinit (cN : Addr) : Sp := fun vs H Q _ => ∃ e v, vs = [.ref e, v] ∧ H e = some (.ext (NewX e (.ref cN) none)) ∧ ∀ d, H d = none → d ≠ e → Q .non (upd (upd H d (.xd [("place", v)])) e (.ext (NewX e (.ref cN) (some d))))
noncomputable def sp_rowA : Sp := fun vs H Q _ => ∃ a qs, vs = [.ref a] ∧ Rw H a qs ∧ qs.length ≤ 60000 ∧ ∀ b H', Same H H' → (b = true ↔ ∀ q ∈ qs, 0 < q) → Q (.bl b) H'
noncomputable def sp_initT (C cN : Addr) : Sp := fun vs H Q E => ∃ x a b gs ws dx, vs = [.ref x, .ref a, .ref b] ∧ H x = some (.ins C dx []) ∧ Rw H a gs ∧ Rw H b ws ∧ gs.length ≤ 60000 ∧ ws.length ≤ 60000 ∧
  (Fine0 gs ws → ∀ ga wa H', (∀ b o, b ≠ x → H b = some o → H' b = some o) → H ga = none → H wa = none → Co C H' x ga wa gs ws → Q .non H') ∧
  (¬ Fine0 gs ws → ∀ d H', Same H H' → E (.ref cN) (some d) H')
theorem frP_ok (q : Rat) : (decide ((1 : Int) ≤ (q.den : Int)) && decide (g q.num (q.den : Int) = 1)) = true := by
  have d := den_pos q
  have hg : g q.num q.den = 1 := by
    unfold g
    rw [(fq q).one]
    rfl
  rw [decide_eq_true (show (1 : Int) ≤ (q.den : Int) by (first | lia | omega)), decide_eq_true hg]
  rfl
theorem sgn_pos (q : Rat) : sgn q.num = 1 ↔ 0 < q := by
  unfold sgn
  constructor
  · intro h
    by_cases h' : 0 < q.num
    · have h0 : 0 ≤ q := Rat.num_nonneg.mp (by (first | lia | omega))
      apply Decidable.byContradiction
      intro z
      have : q = 0 := Rat.le_antisymm (Rat.not_lt.mp z) h0
      rw [this] at h'
      exact absurd h' (by decide)
    · rw [if_neg h'] at h
      split at h <;> (first | lia | omega)
  · intro h
    have h0 : 0 ≤ q.num := Rat.num_nonneg.mpr (Rat.le_of_lt h)
    have h1 : q.num ≠ 0 := fun z => Rat.ne_of_gt h (Rat.num_eq_zero.mp z)
    rw [if_pos (by (first | lia | omega))]
theorem sc_within_brackets : FnScope ["word"] ["word"] (defScope s_within_brackets) := ⟨rfl, rfl, rfl, by decide +kernel, rfl, by decide +kernel, by decide +kernel⟩
theorem ok_within_brackets {c_NoText c_CordError c_NoCord c_NoFraction : Addr} (F : ∃ (oc : Value) (od : Option Addr) (kV doc pm : Value) (an : Option Addr) (cdv ct : Value) (osl : Array (Option Value)),
      fd = PySem.W.fnOf "within_brackets" "within_brackets" (defArgs s_within_brackets) (defBody s_within_brackets) (defScope s_within_brackets) .none kV doc pm an cdv ct ∧ K.lookup f = some ⟨oc, od, .func fd, osl⟩ ∧ PySem.W.codeIn K cdv "within_brackets" = true)
    (T : Txt mg) (R : Errs K mg c_NoText c_CordError c_NoCord c_NoFraction) : FnOk P w K mg base (CXe P w) 1 f fd ["word"] (sp_brkX c_NoText) := by
  refine okX F sc_within_brackets (fun vs H Q E h => ?_) (fun cdv A outer s H vs Q E hr h => ?_)
  · obtain ⟨l, rfl, _⟩ := h
    rfl
  obtain ⟨l, rfl, hl, q, qx⟩ := h
  have hz : (100000 : Nat) < sizeLine := by decide
  refine ⟨_, (pss_cons (ps_if (PW.pt (pw_or (pt_not (pt_val (pe_bm PySem.F.plainAttrs_str PySem.F.slot_str_startswith PySem.F.type_str_startswith mt_starts (pv 0) (pa_cons pe_str pa_nil)))) (pw_or1 (pt_not (pt_val (pe_bm PySem.F.plainAttrs_str PySem.F.slot_str_endswith PySem.F.type_str_endswith mt_ends (pv 0) (pa_cons pe_str pa_nil)))))))
        (pss_one (ps_raise R.m_NoText R.o_NoText (pa_cons pe_str pa_nil)))
        pss_nil)
      (pss_one (ps_ret (pe_slice sl_str (pv 0) (po_some pe_int) (po_some (pe_un un_neg pe_int)))))), ?_⟩
  refine ⟨_, rfl, rfl, _, _, rfl, rfl, ?_⟩
  rw [show Str.ofString "(" = sx [40] from rfl, starts_one]
  refine ⟨_, rfl, ite2 (fun c => ?_) (fun c => ?_)⟩
  · refine ⟨(by show 1 ≤ sizeLine; decide), qx fun m z => ?_⟩
    rw [z] at c
    exact absurd c (by simp)
  have c0 : l[0]? = some 40 := by
    apply Decidable.byContradiction
    intro z
    exact c (by rw [decide_eq_false z]; rfl)
  refine ⟨_, rfl, rfl, _, _, rfl, rfl, ?_⟩
  rw [show Str.ofString ")" = sx [41] from rfl, ends_one]
  refine ⟨_, rfl, ite2 (fun c => ?_) (fun c => ?_)⟩
  · refine ⟨(by show 1 ≤ sizeLine; decide), qx fun m z => ?_⟩
    have e : l.getLast? = some 41 := by
      rw [z, ← List.cons_append]
      exact List.getLast?_concat
    rw [decide_eq_true e] at c
    exact absurd c (by decide)
  have c1 : l.getLast? = some 41 := by
    apply Decidable.byContradiction
    intro z
    exact c (by rw [decide_eq_false z]; rfl)
  obtain ⟨m, rfl⟩ : ∃ m, l = 40 :: (m ++ [41]) := by
    cases l with
    | nil => simp at c0
    | cons x r =>
      have ex : x = 40 := by simpa using c0
      subst ex
      rcases List.eq_nil_or_concat r with e | ⟨m, y, e⟩
      · subst e
        simp at c1
      · rw [List.concat_eq_append] at e
        subst e
        rw [← List.cons_append] at c1
        rw [List.getLast?_concat] at c1
        have : y = 41 := Option.some.inj c1
        exact ⟨m, by rw [this]⟩
  refine ⟨_, rfl, _, rfl, _, rfl, _, rfl, _, rfl, ?_, ?_⟩
  · rw [sx_len]
    (first | lia | omega)
  · rw [slice_mid]
    exact q m rfl
theorem sc_is_row_above : FnScope ["thing"] ["thing"] (defScope s_is_row_above) := ⟨rfl, rfl, rfl, by decide +kernel, rfl, by decide +kernel, by decide +kernel⟩
theorem ok_is_row_above (F : Fun K "is_row_above" "is_row_above" s_is_row_above f fd) (T : Txt mg) (C_is_fraction : Cal P w K mg base "is_fraction" 2 ["thing"] sp_frP) (C_side : Cal P w K mg base "side" 1 ["one"] sp_side) : FnOk P w K mg base CX0 3 f fd ["thing"] sp_rowA := by
  refine F.ok sc_is_row_above (fun vs H Q E h => ?_) (fun cdv A outer s H vs Q E hr h => ?_)
  · obtain ⟨a, qs, rfl, _⟩ := h
    rfl
  obtain ⟨a, qs, rfl, ra, hlen, q⟩ := h
  obtain ⟨ps, hx, kp⟩ := id ra
  have hl := kp.length
  refine ⟨_, (pss_cons (ps_if (pt_not (pt_val (pe_callB call_isi rfl T.z_isinstance boot_isinstance (pa_cons (pv 0) (pa_cons (pe_bltn (v := .ty "list") rfl T.z_list boot_list rfl) pa_nil)))))
        (pss_one (ps_ret pe_bl))
        pss_nil)
      (pss_one (ps_ret (pe_callB (call_all rfl) rfl T.z_all boot_all (pa_cons (pe_comp (N' := ["part"]) (fsc := defScope s_is_row_above) (N := ["thing"]) [] ⟨rfl, by decide +kernel, by decide +kernel, by decide +kernel, rfl, by decide +kernel, rfl, by decide +kernel⟩ (pi_list (pv 0)) (fun _ _ _ _ => (pe_and (pe_cl C_is_fraction hr (pa_cons (pv 0) pa_nil)) (pe_one (pe_cmpR op_eq (pe_cl C_side hr (pa_cons (pv 0) pa_nil)) pe_int (nomark _)))))) pa_nil))))), ?_⟩
  refine ⟨_, rfl, _, _, _, _, rfl, TyOf.lst hx, kit_lst_lst _, _, rfl, iteF ?_⟩
  refine ⟨_, rfl, a, rfl, ⟨_, SqL.of hx⟩, comp_listBi (xs := ps.map V.ref) (by rw [List.length_map]; (first | lia | omega)) hx (fun i => decide (0 < qs.getD i 0)) ?_ fun H1 D s1 nD eD => ?_⟩
  · intro _ _ _ _ i x H1 R hxm s1 fin
    have hi : i < qs.length := by
      have := (List.getElem?_eq_some_iff.mp hxm).1
      rw [List.length_map] at this
      (first | lia | omega)
    obtain ⟨p1, e1, k1⟩ := kp.get (List.getElem?_eq_getElem hi)
    rw [hxm] at e1
    cases e1
    have k2 := k1.keep s1
    rw [Po.getD_in hi] at fin
    generalize qs[i] = q1 at *
    refine ⟨_, rfl, p1, _, _, rfl, k2, _, rfl, ?_⟩
    rw [frP_ok]
    refine iteT ⟨_, rfl, p1, _, _, rfl, k2, rfl, ?_⟩
    have e : decide (V.int (sgn q1.num) = V.int 1) = decide (0 < q1) := by
      by_cases h : 0 < q1
      · rw [decide_eq_true h, decide_eq_true (congrArg V.int ((sgn_pos q1).mpr h))]
      · rw [decide_eq_false h, decide_eq_false (fun z => h ((sgn_pos q1).mp (V.int.inj z)))]
    rw [e]
    exact fin H1 (Same.refl _)
  · refine ⟨D, _, rfl, SqL.of eD, q _ H1 s1 ?_⟩
    rw [List.length_map, hl, List.all_eq_true]
    constructor
    · intro h x hx
      obtain ⟨i, hi, rfl⟩ := List.getElem_of_mem hx
      have := h (decide (0 < qs.getD i 0)) (List.mem_map.mpr ⟨i, List.mem_range.mpr hi, rfl⟩)
      rw [Po.getD_in hi] at this
      exact of_decide_eq_true this
    · intro h x hx
      obtain ⟨i, hi, rfl⟩ := List.mem_map.mp hx
      have hi' := List.mem_range.mp hi
      rw [Po.getD_in hi']
      exact decide_eq_true (h _ (List.getElem_mem hi'))
theorem sc_NoCord_init : FnScope ["self", "place"] ["self", "place"] (defScope s_NoCord_init) := ⟨rfl, rfl, rfl, by decide +kernel, rfl, by decide +kernel, by decide +kernel⟩
theorem ok_NoCord_init {c_NoText c_CordError c_NoCord c_NoFraction : Addr} (F : Fun K "__init__" "NoCord.__init__" s_NoCord_init f fd) (T : Txt mg) (R : Errs K mg c_NoText c_CordError c_NoCord c_NoFraction) : FnOk P w K mg base CX0 1 f fd ["self", "place"] (sp_noinit c_NoCord) := by
  refine F.ok sc_NoCord_init (fun vs H Q E h => ?_) (fun cdv A outer s H vs Q E hr h => ?_)
  · obtain ⟨e, v, rfl, _⟩ := h
    rfl
  obtain ⟨e, v, rfl, he, q⟩ := h
  refine ⟨_, (pss_one (ps_fldX (pv 0) (pv 1) rfl)), ?_⟩
  exact ⟨_, rfl, _, rfl, e, c_NoCord, rfl, he, R.fx_NoCord, R.nf_NoCord, fun d hd hne => q d hd hne⟩
theorem sc_Cord_init : FnScope ["self", "gaps", "weights"] ["self", "gaps", "weights"] (defScope s_Cord_init) := ⟨rfl, rfl, rfl, by decide +kernel, rfl, by decide +kernel, by decide +kernel⟩
set_option maxHeartbeats 1000000 in
theorem ok_Cord_initT {c_NoText c_CordError c_NoCord c_NoFraction : Addr} (F : ∃ (oc : Value) (od : Option Addr) (kV doc pm : Value) (an : Option Addr) (cdv ct : Value) (osl : Array (Option Value)),
      fd = PySem.W.fnOf "__init__" "Cord.__init__" (defArgs s_Cord_init) (defBody s_Cord_init) (defScope s_Cord_init) .none kV doc pm an cdv ct ∧ K.lookup f = some ⟨oc, od, .func fd, osl⟩ ∧ PySem.W.codeIn K cdv "Cord.__init__" = true) (T : Txt mg) (R : Errs K mg c_NoText c_CordError c_NoCord c_NoFraction) (O : OwnCord K mg o_Cord) (C_is_row_above : Cal P w K mg base "is_row_above" 3 ["thing"] sp_rowA) (C_NoCord_init : CalI P w K mg base "NoCord" c_NoCord 1 ["self", "place"] (sp_noinit c_NoCord)) : FnOk P w K mg base (CXn P w) 4 f fd ["self", "gaps", "weights"] (sp_initT o_Cord c_NoCord) := by
  refine okXN F sc_Cord_init (fun vs H Q E h => ?_) (fun cdv A outer s H vs Q E hr h => ?_)
  · obtain ⟨x, a, b, gs, ws, dx, rfl, _⟩ := h
    rfl
  obtain ⟨x, a, b, gs, ws, dx, rfl, ex0, ra0, rb0, lg60, lw60, q00, qe⟩ := h
  have hz : (100000 : Nat) < sizeLine := by decide
  have raise : ∀ (H1 : Hp), Same H H1 → ¬ Fine0 gs ws → ([V.non] : List V).length ≤ sizeLine ∧ ∀ e, H1 e = none → sp_noinit c_NoCord (.ref e :: [V.non]) (upd H1 e (.ext (NewX e (.ref c_NoCord) none)))
      (fun r H2 => r = .non ∧ ∃ dx, H2 e = some (.ext (NewX e (.ref c_NoCord) dx)) ∧ E (.ref c_NoCord) dx (drp H2 e)) E0 := fun H1 sm nf => by
    refine ⟨by show 1 ≤ sizeLine; decide, fun e he => ⟨e, .non, rfl, upd_same, fun d hd hde => ⟨rfl, some d, upd_same, ?_⟩⟩⟩
    have hd1 : H1 d = none := by rw [upd_ne hde] at hd; exact hd
    refine qe nf d _ (fun b o eb => ?_)
    have n1 : b ≠ e := ne_of_none (sm _ _ eb) he
    have n2 : b ≠ d := ne_of_none (sm _ _ eb) hd1
    rw [drp_ne n1, upd_ne n1, upd_ne n2, upd_ne n1]
    exact sm _ _ eb
  refine ⟨_, (pss_cons (ps_if (PW.pt (pw_or (pt_not (pt_val (pe_cl C_is_row_above hr (pa_cons (pv 1) pa_nil)))) (pw_or1 (pt_not (pt_val (pe_cl C_is_row_above hr (pa_cons (pv 2) pa_nil)))))))
        (pss_one (ps_raiseN C_NoCord_init hr (pa_cons pe_non pa_nil)))
        pss_nil)
      (pss_cons (ps_if (PW.pt (pw_or (pt_cmpR op_ne (pe_callB call_len_seq rfl T.z_len PySem.boot_len (pa_cons (pv 1) pa_nil)) (pe_op op_add (pe_callB call_len_seq rfl T.z_len PySem.boot_len (pa_cons (pv 2) pa_nil)) pe_int) (nomark _)) (pw_or1 (pt_cmpR op_gt (pe_callB call_len_seq rfl T.z_len PySem.boot_len (pa_cons (pv 2) pa_nil)) (pe_globI rfl T.c_MOST_BEADS) (nomark _)))))
        (pss_one (ps_raiseN C_NoCord_init hr (pa_cons pe_non pa_nil)))
        pss_nil)
      (pss_cons (ps_fld (pv 0) (pe_callTy call_list_of rfl T.z_list boot_list (pa_cons (pv 1) pa_nil)) rfl)
      (pss_one (ps_fld (pv 0) (pe_callTy call_list_of rfl T.z_list boot_list (pa_cons (pv 2) pa_nil)) rfl))))), ?_⟩
  refine ⟨_, rfl, a, gs, rfl, ra0, lg60, fun b1 H1 t1 hb1 => ⟨_, rfl, ?_⟩⟩
  by_cases e1 : b1 = true
  case neg =>
    rw [Bool.eq_false_iff.mpr e1]
    exact iteT (raise H1 t1 fun fine => e1 (hb1.mpr fine.pos.1))
  subst e1
  refine iteF ?_
  refine ⟨_, rfl, b, ws, rfl, rb0.keep t1, lw60, fun b2 H2 t2 hb2 => ⟨_, rfl, ?_⟩⟩
  by_cases e2 : b2 = true
  case neg =>
    rw [Bool.eq_false_iff.mpr e2]
    exact iteT (raise H2 (t1.trans t2) fun fine => e2 (hb2.mpr fine.pos.2))
  subst e2
  refine iteF ?_
  have pg := hb1.mp rfl
  have pw := hb2.mp rfl
  have t12 := t1.trans t2
  have ex := t12 _ _ ex0
  have ra := ra0.keep t12
  have rb := rb0.keep t12
  have raise2 := raise H2 t12
  obtain ⟨xa, ea, la⟩ := ra.there
  obtain ⟨xb, eb, lb⟩ := rb.there
  by_cases hlen : gs.length = ws.length + 1
  case neg =>
    refine ⟨_, rfl, _, _, rfl, .inl (SqL.of ea), _, rfl, _, _, rfl, .inl (SqL.of eb), _, _, rfl, rfl, rfl, _, rfl, ite2 (fun c => ?_) (fun c => ?_)⟩
    · exact raise2 fun fine => hlen fine.len
    · exfalso
      refine c ?_
      have : ¬ (V.int (xa.length : Int) = V.int ((xb.length : Int) + 1)) := fun z => hlen (by have := V.int.inj z; (first | lia | omega))
      simpa using this
  by_cases hmost : ws.length ≤ 12
  case neg =>
    refine ⟨_, rfl, _, _, rfl, .inl (SqL.of ea), _, rfl, _, _, rfl, .inl (SqL.of eb), _, _, rfl, rfl, rfl, _, rfl, iteNS (by rw [la, lb]; exact congrArg V.int (by (first | lia | omega))) ?_⟩
    exact ⟨_, rfl, _, _, rfl, .inl (SqL.of eb), _, _, rfl, rfl, _, rfl, iteD (by (first | lia | omega)) (raise2 fun fine => hmost fine.most)⟩
  clear raise raise2
  have q0 := q00 ⟨hlen, hmost, pg, pw⟩
  clear qe q00 ea la eb lb xa xb hb1 hb2
  have q : ∀ ga wa H', (∀ b o, b ≠ x → H2 b = some o → H' b = some o) → H2 ga = none → H2 wa = none → Co o_Cord H' x ga wa gs ws → Q .non H' := fun ga wa H' k n1 n2 co => q0 ga wa H' (fun b o n e => k b o n (t12 _ _ e)) (t12.free n1) (t12.free n2) co
  clear q0 ex0 ra0 rb0 t1
  clear t12
  clear t2
  clear H1
  generalize H2 = H at *
  obtain ⟨xa, ea, la⟩ := ra.there
  obtain ⟨xb, eb, lb⟩ := rb.there
  refine ⟨_, rfl, _, _, rfl, .inl (SqL.of ea), _, rfl, _, _, rfl, .inl (SqL.of eb), _, _, rfl, rfl, rfl, _, rfl, iteNS (by rw [la, lb]; exact congrArg V.int (by (first | lia | omega))) ?_⟩
  refine ⟨_, rfl, _, _, rfl, .inl (SqL.of eb), _, _, rfl, rfl, _, rfl, iteND (by (first | lia | omega)) ?_⟩
  refine ⟨_, rfl, a, _, rfl, .inl (SqL.of ea), fun ga hga => ?_⟩
  have s1 := same_upd hga (.lst xa)
  have r1 := ra.copy ea hga
  refine ⟨_, rfl, x, _, dx, _, rfl, s1 _ _ ex, O.cl, O.n_kept_gaps, by decide, ?_⟩
  have nxa : x ≠ ga := ne_of_none ex hga
  have nb : b ≠ x := ne_of eb ex (by intro z; cases z)
  obtain ⟨H2, e2⟩ : ∃ H2, H2 = upd (upd H ga (.lst xa)) x (.ins o_Cord dx (putF "kept_gaps" (.ref ga) [])) := ⟨_, rfl⟩
  rw [← e2]
  have k2 : ∀ c o, c ≠ x → (upd H ga (.lst xa)) c = some o → H2 c = some o := fun c o n e => by rw [e2, upd_ne n]; exact e
  have rows : ∀ {c : Addr} {qs : List Rat}, Rw (upd H ga (.lst xa)) c qs → Rw H2 c qs := fun {c qs} r => by
    obtain ⟨ps, h1, h2⟩ := r
    exact ⟨ps, k2 _ _ (ne_of h1 (s1 _ _ ex) (by intro z; cases z)) h1, Paired.imp' (fun p t z => by
      have z' : (upd H ga (.lst xa)) p = some (.tup [.int t.num, .int t.den]) := z
      exact k2 _ _ (ne_of z' (s1 _ _ ex) (by intro w; cases w)) z') h2⟩
  have rb2 := rows (rb.keep s1)
  have rg2 := rows r1
  have ex2 : H2 x = some (.ins o_Cord dx [("kept_gaps", .ref ga)]) := by rw [e2, upd_same]; rfl
  obtain ⟨xb2, eb2, lb2⟩ := rb2.there
  refine ⟨_, rfl, b, _, rfl, .inl (SqL.of eb2), fun wa hwa => ?_⟩
  have s3 := same_upd hwa (.lst xb2)
  have r3 := rb2.copy eb2 hwa
  refine ⟨_, rfl, x, _, dx, _, rfl, s3 _ _ ex2, O.cl, O.n_kept_weights, (by show 1 < 1000; decide), ?_⟩
  obtain ⟨H4, e4⟩ : ∃ H4, H4 = upd (upd H2 wa (.lst xb2)) x (.ins o_Cord dx (putF "kept_weights" (.ref wa) [("kept_gaps", .ref ga)])) := ⟨_, rfl⟩
  have k4 : ∀ c o, c ≠ x → (upd H2 wa (.lst xb2)) c = some o → H4 c = some o := fun c o n e => by rw [e4, upd_ne n]; exact e
  have rows4 : ∀ {c : Addr} {qs : List Rat}, Rw (upd H2 wa (.lst xb2)) c qs → Rw H4 c qs := fun {c qs} r => by
    obtain ⟨ps, h1, h2⟩ := r
    exact ⟨ps, k4 _ _ (ne_of h1 (s3 _ _ ex2) (by intro z; cases z)) h1, Paired.imp' (fun p t z => by
      have z' : (upd H2 wa (.lst xb2)) p = some (.tup [.int t.num, .int t.den]) := z
      exact k4 _ _ (ne_of z' (s3 _ _ ex2) (by intro w; cases w)) z') h2⟩
  have fin := q ga wa H4 (fun c o n e => k4 c o n (s3 _ _ (k2 c o n (s1 _ _ e)))) hga ?_ ⟨⟨dx, ?_⟩, rows4 (rg2.keep s3), rows4 r3⟩
  · rw [e4] at fin
    exact fin
  · cases hw : H wa with
    | none => rfl
    | some o =>
      by_cases n : wa = x
      · rw [n, ex2] at hwa; cases hwa
      · rw [k2 wa o n (s1 _ _ hw)] at hwa; cases hwa
  · rw [e4, upd_same]; rfl
theorem sc_read_cord : FnScope ["text", "words", "gaps", "weights"] ["text"] (defScope s_read_cord) := ⟨rfl, rfl, rfl, by decide +kernel, rfl, by decide +kernel, by decide +kernel⟩
set_option maxHeartbeats 2000000 in
theorem ok_read_cord {c_NoText c_CordError c_NoCord c_NoFraction : Addr} (F : ∃ (oc : Value) (od : Option Addr) (kV doc pm : Value) (an : Option Addr) (cdv ct : Value) (osl : Array (Option Value)),
      fd = PySem.W.fnOf "read_cord" "read_cord" (defArgs s_read_cord) (defBody s_read_cord) (defScope s_read_cord) .none kV doc pm an cdv ct ∧ K.lookup f = some ⟨oc, od, .func fd, osl⟩ ∧ PySem.W.codeIn K cdv "read_cord" = true)
    (T : Txt mg) (R : Errs K mg c_NoText c_CordError c_NoCord c_NoFraction) (C_check_text : CalX P w K mg base "check_text" 1 ["thing"] [] [] (sp_chkX K c_NoText)) (C_read_fraction : CalX P w K mg base "read_fraction" 3 ["text"] [] [] (sp_rdfX K c_NoText)) (C_within_brackets : CalX P w K mg base "within_brackets" 1 ["word"] [] [] (sp_brkX c_NoText))
    (C_Cord_init : CalCN P w K mg base "Cord" o_Cord 4 ["self", "gaps", "weights"] (sp_initT o_Cord c_NoCord)) : FnOk P w K mg base (CXe P w) 6 f fd ["text"] (sp_rdcX K o_Cord c_NoText) := by
  refine okX F sc_read_cord (fun vs H Q E h => ?_) (fun cdv A outer s H vs Q E hr h => ?_)
  · obtain ⟨v, rfl, _⟩ := h
    rfl
  obtain ⟨v, rfl, h⟩ := h
  refine ⟨_, (pss_cons (ps_expr (pe_clX C_check_text hr (pa_cons (pv 0) pa_nil)))
      (pss_cons (ps_set (i := 1) sc_read_cord.nd rfl (Or.inl rfl) (pe_bm PySem.F.plainAttrs_str PySem.F.slot_str_split PySem.F.type_str_split mt_split (pv 0) (pa_cons pe_str pa_nil)))
      (pss_cons (ps_setCompX (i := 2) sc_read_cord.nd rfl (Or.inl rfl) (N' := ["word"]) (fsc := defScope s_read_cord) (N1 := ["text", "words", "gaps", "weights"]) [] ⟨rfl, by decide +kernel, by decide +kernel, by decide +kernel, rfl, by decide +kernel, rfl, by decide +kernel⟩ (pi_list (pe_step2 (pv 1) po_none pe_int)) (fun _ _ _ _ _ hpp => (pe_clP C_read_fraction hr hpp (pa_cons (pv 0) pa_nil))))
      (pss_cons (ps_setCompX (i := 3) sc_read_cord.nd rfl (Or.inl rfl) (N' := ["word"]) (fsc := defScope s_read_cord) (N1 := ["text", "words", "gaps", "weights"]) [] ⟨rfl, by decide +kernel, by decide +kernel, by decide +kernel, rfl, by decide +kernel, rfl, by decide +kernel⟩ (pi_list (pe_step2 (pv 1) (po_some pe_int) pe_int)) (fun _ _ _ _ _ hpp => (pe_clP C_read_fraction hr hpp (pa_cons (pe_clP C_within_brackets hr hpp (pa_cons (pv 0) pa_nil)) pa_nil))))
      (pss_one (ps_tryR C_Cord_init hr (pa_cons (pv 2) (pa_cons (pv 3) pa_nil)) R.m_NoCord R.m_NoText R.o_NoText (fun _ => (pa_cons pe_str pa_nil)))))))), ?_⟩
  rcases h with ⟨nt, e⟩ | ⟨l, rfl, ⟨ha, hl⟩, k, kx⟩
  · exact ⟨_, rfl, _, rfl, .inr ⟨nt, e⟩⟩
  have hz : (100000 : Nat) < sizeLine := by decide
  refine ⟨_, rfl, _, rfl, .inl ⟨_, rfl, ?_⟩⟩
  obtain ⟨W, nW, fW, eW, es⟩ := split_ex l
  have lc := jn_cnt (c := 32) (W := W)
  rw [eW] at lc
  have es' : Txt.split (sx l) (Str.ofString " ") = W.map sx := es
  have key : ∀ gs ws, C30 gs ws → l = jn 32 (cordW gs ws) → W = cordW gs ws := fun gs ws c30 z => jn_inj (c := 32) fW (cordW_32 c30) nW (by unfold cordW; simp) (eW.trans z)
  refine ⟨_, rfl, rfl, _, _, rfl, rfl, (by decide), by rw [sx_len]; (first | lia | omega), by rw [es', List.length_map]; (first | lia | omega), fun D hD => ?_⟩
  rw [es']
  have s1 := same_upd hD (.lst ((W.map sx).map V.str))
  have e1 : upd H D (.lst ((W.map sx).map V.str)) D = some (.lst ((W.map sx).map V.str)) := upd_same
  generalize upd H D (.lst ((W.map sx).map V.str)) = H1 at *
  have ev : ∀ n, L3.ev2 (((W.map sx).map V.str).drop n) = (((L3.ev2 (W.drop n)).map sx).map V.str) := fun n => by
    rw [L3.ev2_map, L3.ev2_map, List.map_drop, List.map_drop]
  have hev : ∀ n, (L3.ev2 (W.drop n)).length ≤ 60000 := fun n => by
    rw [L3.ev2_length, List.length_drop]
    (first | lia | omega)
  have hmem : ∀ n, ∀ w ∈ L3.ev2 (W.drop n), Pln w := fun n w hw => by
    obtain ⟨j1, j2⟩ := jn_word (c := 32) (List.mem_of_mem_drop (L3.ev2_mem hw))
    rw [eW] at j1 j2
    exact ⟨fun x hx => ha x (j1 x hx), by (first | lia | omega)⟩
  refine ⟨_, rfl, D, _, 0, rfl, rfl, .inl ⟨rfl, rfl⟩, SqL.of e1, fun g1 n1 => ?_⟩
  rw [ev 0]
  have s2 := same_upd n1 (.lst (((L3.ev2 (W.drop 0)).map sx).map V.str))
  have l0 := hev 0
  refine ⟨g1, rfl, ⟨_, SqL.of upd_same⟩, comp_strsE (W := L3.ev2 (W.drop 0)) (by (first | lia | omega)) upd_same F30 ftx ?_ fun H3 G gs gG gW s3 nG rG => ?_⟩
  · intro _ _ _ _ w H2 R' hw s3 fin
    refine ⟨_, rfl, _, rfl, .inr ⟨w, rfl, hmem 0 w hw, fun q hq ew p H3 s4 kp => fin q p H3 hq ew s4 kp, fun nf H3 s4 => kx (fun gs ws c30 z => ?_) H3 (s1.trans (s2.trans (s3.trans s4)))⟩⟩
    rw [key gs ws c30 z, List.drop_zero, cordW_ev c30] at hw
    obtain ⟨q, hq, eq⟩ := List.mem_map.mp hw
    exact nf q (c30.g30 q hq) eq.symm
  have e3 := (s2.trans s3) _ _ e1
  refine ⟨_, rfl, _, rfl, D, _, 1, rfl, rfl, .inr rfl, SqL.of e3, fun w1 n2 => ?_⟩
  rw [ev 1]
  have s4 := same_upd n2 (.lst (((L3.ev2 (W.drop 1)).map sx).map V.str))
  have l1 := hev 1
  refine ⟨w1, rfl, ⟨_, SqL.of upd_same⟩, comp_strsE (W := L3.ev2 (W.drop 1)) (by (first | lia | omega)) upd_same F30 brx ?_ fun H5 Wa ws wG wW s5 nW rW => ?_⟩
  · intro _ _ _ _ w H2 R' hw s5 fin
    have bad : (∀ q, F30 q → w ≠ brx q) → ∀ gs ws, C30 gs ws → l ≠ jn 32 (cordW gs ws) := fun nf gs ws c30 z => by
      rw [key gs ws c30 z, cordW_ev1 c30] at hw
      obtain ⟨q, hq, eq⟩ := List.mem_map.mp hw
      exact nf q (c30.w30 q hq) eq.symm
    have sA := s1.trans (s2.trans (s3.trans (s4.trans s5)))
    have pw := hmem 1 w hw
    refine ⟨_, rfl, w, rfl, pw.2, fun m em => ?_, fun nm => kx (bad fun q _ z => nm _ z) _ sA⟩
    refine ⟨_, rfl, .inr ⟨m, rfl, ⟨fun x hx => pw.1 x (by rw [em]; simp [hx]), ?_⟩, fun q hq ew p H3 s6 kp => fin q p H3 hq (by rw [em, ew]; rfl) s6 kp, fun nf H3 s6 => kx (bad fun q hq z => ?_) H3 (sA.trans s6)⟩⟩
    · have := pw.2
      rw [em] at this
      simp at this
      (first | lia | omega)
    · rw [em] at z
      unfold brx at z
      injection z with _ z
      exact nf q hq (List.append_cancel_right z)
  have s15 := s1.trans (s2.trans (s3.trans (s4.trans s5)))
  have rG5 := rG.keep (s4.trans s5)
  clear e3 e1 s1 s2 s3 s4 s5 rG
  have lg : gs.length ≤ 60000 := by
    have := congrArg List.length gW
    rw [List.length_map] at this
    (first | lia | omega)
  have lw : ws.length ≤ 60000 := by
    have := congrArg List.length wW
    rw [List.length_map] at this
    (first | lia | omega)
  rw [List.drop_zero] at gW
  refine ⟨_, rfl, _, rfl, ?_⟩
  intro x dx2 nx ndx ne
  have s6 : Same H5 (upd (upd H5 dx2 (.own x)) x (.ins o_Cord dx2 [])) := fun b o e => by
    rw [upd_ne (ne_of_none e nx), upd_ne (ne_of_none e ndx)]
    exact e
  refine ⟨x, G, Wa, gs, ws, dx2, rfl, upd_same, rG5.keep s6, rW.keep s6, lg, lw, fun fine ga' wa' H' kp n1 n2 co => ⟨rfl, ?_⟩, fun nf d H' s7 => ⟨R.xs_NoCord, fun a na => ?_⟩⟩
  · exact k gs ws ⟨fine, gG, wG⟩ (by rw [← eW, words_of fine gW wW]) x ga' wa' H' (fun b o z => kp b o (ne_of_none (s15 _ _ z) nx) ((s15.trans s6) _ _ z)) co
  · refine ⟨(by show 1 ≤ sizeLine; decide), upd_same, kx (fun gs' ws' c30 z => nf ?_) _ (same_drp ((s15.trans s6).trans s7) na)⟩
    have e := key gs' ws' c30 z
    rw [e, cordW_ev c30] at gW
    rw [e, cordW_ev1 c30] at wW
    rw [← maps_inj (fun p q => ftx_inj) gW, ← maps_inj (fun p q => brx_inj) wW]
    exact c30.fine

theorem Pqs.ev2 : ∀ {H : Hp} {ps : List Addr} {qs : List Rat}, Pqs H ps qs → Pqs H (L3.ev2 ps) (L3.ev2 qs)
  | _, _, _, .nil => .nil
  | _, _, _, .cons a .nil => .cons a .nil
  | _, _, _, .cons a (.cons _ r) => .cons a (Pqs.ev2 r)
noncomputable def sp_ctext : Sp := fun vs H Q _ => ∃ a b gs ws, vs = [.ref a, .ref b] ∧ Rw H a gs ∧ Rw H b ws ∧ C30 gs ws ∧ Q (.str (sx (jn 32 (cordW gs ws)))) H
noncomputable def sp_cby81 : Sp := fun vs H Q _ => ∃ (c : Int) (k mo : Nat), vs = [.int c, .int k, .int mo] ∧ k ≤ 100 ∧ mo ≤ 12 ∧
  ∀ r ga wa gs ws H', Same H H' → H' r = some (.tup [.ref ga, .ref wa]) → H ga = none → H wa = none → ga ≠ wa → Rw H' ga gs → Rw H' wa ws → C30 gs ws → Q (.ref r) H'
theorem sc_law_cord_by : FnScope ["_law_cell", "_law_k", "_law_most", "_law_rest", "_law_many", "_law_wide", "_law_row", "_law_turn"] ["_law_cell", "_law_k", "_law_most"] (defScope s_law_cord_by) := ⟨rfl, rfl, rfl, by decide +kernel, rfl, by decide +kernel, by decide +kernel⟩
set_option maxHeartbeats 4000000 in
theorem ok_law_cord_by (F : Fun K "_law_cord_by" "_law_cord_by" s_law_cord_by f fd) (T : Txt mg) (C_law_mixed : Cal P w K mg base "_law_mixed" 1 ["_law_cell", "_law_k"] sp_mixed) (C_law_low : Cal P w K mg base "_law_low" 2 ["_law_top", "_law_bottom"] sp_lowQ) : FnOk P w K mg base CX0 3 f fd ["_law_cell", "_law_k", "_law_most"] sp_cby81 := by
  refine F.ok sc_law_cord_by (fun vs H Q E h => ?_) (fun cdv A outer s H vs Q E hr h => ?_)
  · obtain ⟨c, k, mo, rfl, _⟩ := h
    rfl
  obtain ⟨c, k, mo, rfl, hk1, hmo, q⟩ := h
  have hz : (1000 : Nat) < sizeLine := by decide
  refine ⟨_, (pss_cons (ps_set (i := 3) sc_law_cord_by.nd rfl (Or.inl rfl) (pe_cl C_law_mixed hr (pa_cons (pv 0) (pa_cons (pv 1) pa_nil))))
      (pss_cons (ps_set (i := 4) sc_law_cord_by.nd rfl (Or.inl rfl) (pe_op op_mod (pv 3) (pe_op op_add (pv 2) pe_int)))
      (pss_cons (ps_set (i := 5) sc_law_cord_by.nd rfl (Or.inl rfl) (pe_cmpR op_eq (pe_op op_mod (pe_op op_fdP (pv 3) pe_int) pe_int) pe_int (nomark _)))
      (pss_cons (ps_cut (ps_if (pt_val (pv 5))
        (pss_one (ps_set (i := 4) sc_law_cord_by.nd rfl (Or.inl rfl) (pe_op op_mod (pv 4) pe_int)))
        pss_nil))
      (pss_cons (ps_set (i := 3) sc_law_cord_by.nd rfl (Or.inl rfl) (pe_op op_fdP (pv 3) pe_int))
      (pss_cons (ps_set (i := 6) sc_law_cord_by.nd rfl (Or.inl rfl) (pe_lst pa_nil))
      (pss_cons (ps_for PassesOwn.never rfl (pi_range1 rfl T.z_range (pa_cons (pe_op op_add (pe_op op_mulB pe_int (pv 4)) pe_int) pa_nil)) (pg_name (i := 7) sc_law_cord_by.nd rfl (Or.inl rfl))
        (pss_cons (ps_cut (ps_if (PW.pt (pw_or (pt_cmpR op_eq (pe_op op_mod (pv 0) pe_int) pe_int (nomark _)) (pw_or1 (pt_cmpR op_le (pv 0) (pe_op op_pow pe_int pe_int) (nomark _)))))
          (pss_one (ps_set (i := 3) sc_law_cord_by.nd rfl (Or.inl rfl) (pe_op op_fdP (pe_cl C_law_mixed hr (pa_cons (pv 0) (pa_cons (pe_op op_add (pe_op op_add (pv 1) pe_int) (pv 7)) pa_nil))) pe_int)))
          pss_nil))
        (pss_one (ps_if (pt_val (pv 5))
          (pss_cons (ps_expr (pe_bm PySem.F.plainAttrs_list PySem.F.slot_list_append PySem.F.type_list_append mt_append (pv 6) (pa_cons (pe_cl C_law_low hr (pa_cons (pe_op op_add pe_int (pe_op op_mod (pv 3) (pe_op op_sub (pe_op op_pow pe_int pe_int) pe_int))) (pa_cons (pe_op op_add pe_int (pe_op op_mod (pe_op op_fdP (pv 3) (pe_op op_pow pe_int pe_int)) (pe_op op_sub (pe_op op_pow pe_int pe_int) pe_int))) pa_nil))) pa_nil)))
          (pss_one (ps_set (i := 3) sc_law_cord_by.nd rfl (Or.inl rfl) (pe_op op_fdP (pv 3) (pe_op op_pow pe_int pe_int)))))
          (pss_cons (ps_expr (pe_bm PySem.F.plainAttrs_list PySem.F.slot_list_append PySem.F.type_list_append mt_append (pv 6) (pa_cons (pe_cl C_law_low hr (pa_cons (pe_op op_add pe_int (pe_op op_mod (pv 3) pe_int)) (pa_cons (pe_op op_add pe_int (pe_op op_mod (pe_op op_fdP (pv 3) pe_int) pe_int)) pa_nil))) pa_nil)))
          (pss_one (ps_set (i := 3) sc_law_cord_by.nd rfl (Or.inl rfl) (pe_op op_fdP (pv 3) pe_int))))))))
      (pss_one (ps_ret (pe_tup (pa_cons (pe_step2 (pv 6) po_none pe_int) (pa_cons (pe_step2 (pv 6) (po_some pe_int) pe_int) pa_nil)))))))))))), ?_⟩
  refine ⟨_, rfl, _, rfl, c, k, rfl, ⟨by (first | lia | omega), by (first | lia | omega)⟩, ?_⟩
  generalize mixed c (k : Int) = r0
  refine ⟨_, rfl, _, rfl, _, _, rfl, rfl, _, _, rfl, rfl, (by show (0 : Int) < (mo : Int) + 1; (first | lia | omega)), ?_⟩
  have h5 := Int.emod_nonneg r0 (show (mo : Int) + 1 ≠ 0 by (first | lia | omega))
  have h5' := Int.emod_lt_of_pos r0 (show (0 : Int) < (mo : Int) + 1 by (first | lia | omega))
  refine ⟨_, rfl, _, _, rfl, rfl, ⟨by decide, bt2 (by decide +kernel)⟩, _, _, rfl, rfl, (by show (0 : Int) < 6; decide), rfl, ?_⟩
  generalize decide (V.int (r0 / 13 % 6) = V.int 1) = wd
  refine ⟨fun σ' H' => ∃ m : Nat, m ≤ mo ∧ (wd = true → m ≤ 2) ∧ σ' = [some (.int c), some (.int k), some (.int mo), some (.int r0), some (.int m), some (.bl wd), none, none] ∧ H = H', ?tl, ?hd⟩
  case hd =>
    refine ⟨_, rfl, _, rfl, ite2 (fun _ => ?_) (fun z => ?_)⟩
    · have h6 := Int.emod_nonneg (r0 % ((mo : Int) + 1)) (show (3 : Int) ≠ 0 by decide)
      have h6' := Int.emod_lt_of_pos (r0 % ((mo : Int) + 1)) (show (0 : Int) < 3 by decide)
      have h7 : r0 % ((mo : Int) + 1) % 3 ≤ r0 % ((mo : Int) + 1) := by (first | lia | omega)
      refine ⟨_, rfl, _, _, rfl, rfl, (by show (0 : Int) < 3; decide), (r0 % ((mo : Int) + 1) % 3).toNat, by (first | lia | omega), fun _ => by (first | lia | omega), ?_, rfl⟩
      have e : (((r0 % ((mo : Int) + 1) % 3).toNat : Nat) : Int) = r0 % ((mo : Int) + 1) % 3 := by (first | lia | omega)
      rw [e]
      rfl
    · refine ⟨(r0 % ((mo : Int) + 1)).toNat, by (first | lia | omega), fun z' => absurd z' z, ?_, rfl⟩
      have e : (((r0 % ((mo : Int) + 1)).toNat : Nat) : Int) = r0 % ((mo : Int) + 1) := by (first | lia | omega)
      rw [e]
      rfl
  rintro _ _ ⟨m, hm, hm3, rfl, rfl⟩
  refine ⟨_, rfl, _, _, rfl, rfl, ⟨by decide, bt2 (by decide +kernel)⟩, ?_⟩
  generalize r0 / 78 = r1
  refine ⟨(by show 0 ≤ sizeLine; decide), fun D hD => ?_⟩
  refine ⟨_, rfl, _, _, rfl, rfl, CMul.ok (.inl ⟨by decide, by decide⟩), _, _, rfl, rfl, _, rfl, by (first | lia | omega), by (first | lia | omega), ?_⟩
  rw [show (2 * (m : Int) + 1).toNat = 2 * m + 1 by (first | lia | omega)]
  refine for_range (n := 2 * m + 1) (fun i σ H' => (∃ (r : Int) (v : Option V), σ = [some (.int c), some (.int k), some (.int mo), some (.int r), some (.int m), some (.bl wd), some (.ref D), v]) ∧ Same H H' ∧ ∃ qs, Rw H' D qs ∧ qs.length = i ∧ (∀ q ∈ qs, 0 < q) ∧ ∀ q ∈ qs, F30 q)
    ⟨⟨_, _, rfl⟩, same_upd hD _, [], ⟨[], upd_same, .nil⟩, rfl, fun q hq => absurd hq (by simp), fun q hq => absurd hq (by simp)⟩ ?_ ?_
  · rintro i σ H1 hi ⟨⟨r, v, rfl⟩, sm, qs, rw1, l1, p1, b1⟩
    refine ⟨fun σ' H' => ∃ r' : Int, σ' = [some (.int c), some (.int k), some (.int mo), some (.int r'), some (.int m), some (.bl wd), some (.ref D), some (.int (0 + (i : Int)))] ∧ H1 = H', ?tl2, ?hd2⟩
    case hd2 =>
      refine ⟨_, rfl, _, _, rfl, rfl, (by show (0 : Int) < 2; decide), rfl, _, rfl, ite2 (fun _ => ?_) (fun _ => ?_)⟩
      · exact ⟨_, rfl, _, rfl, _, _, rfl, rfl, _, rfl, _, _, rfl, rfl, c, k + 3 + i, by simp, ⟨by (first | lia | omega), by (first | lia | omega)⟩, _, _, rfl, rfl, ⟨by decide, bt2 (by decide +kernel)⟩, _, rfl, rfl⟩
      · refine ⟨_, rfl, _, _, rfl, rfl, ⟨by decide, by decide, by decide⟩, _, _, rfl, rfl, _, rfl, ite2 (fun _ => ?_) (fun _ => ⟨_, rfl, rfl⟩)⟩
        exact ⟨_, rfl, _, rfl, _, _, rfl, rfl, _, rfl, _, _, rfl, rfl, c, k + 3 + i, by simp, ⟨by (first | lia | omega), by (first | lia | omega)⟩, _, _, rfl, rfl, ⟨by decide, bt2 (by decide +kernel)⟩, _, rfl, rfl⟩
    rintro _ _ ⟨r', rfl, rfl⟩
    obtain ⟨x4, e4, _⟩ := rw1.there
    refine ⟨_, rfl, _, rfl, ite2 (fun z => ?_) (fun z => ?_)⟩
    · have h1 := Int.emod_nonneg r' (show (10 ^ 30 - 1 : Int) ≠ 0 by decide)
      have h2 := Int.emod_lt_of_pos r' (show (0 : Int) < 10 ^ 30 - 1 by decide)
      have h3 := Int.emod_nonneg (r' / 10 ^ 30) (show (10 ^ 30 - 1 : Int) ≠ 0 by decide)
      have h4 := Int.emod_lt_of_pos (r' / 10 ^ 30) (show (0 : Int) < 10 ^ 30 - 1 by decide)
      have ht : 0 < 1 + r' % (10 ^ 30 - 1) := by (first | lia | omega)
      have hb : 0 < 1 + r' / 10 ^ 30 % (10 ^ 30 - 1) := by (first | lia | omega)
      have bt : Bt 101 (1 + r' % (10 ^ 30 - 1)) := Bt.between (by (first | lia | omega)) (by (first | lia | omega))
      have bb : Bt 101 (1 + r' / 10 ^ 30 % (10 ^ 30 - 1)) := Bt.between (by (first | lia | omega)) (by (first | lia | omega))
      refine ⟨_, rfl, .inl ⟨rfl, _, SqL.of e4⟩, _, rfl, _, _, rfl, rfl, ⟨by decide, by decide, by decide⟩, _, _, rfl, rfl, _, _, rfl, rfl, (by show (0 : Int) < 10 ^ 30 - 1; decide), _, _, rfl, rfl, _, rfl, _, _, rfl, rfl, ⟨by decide, by decide, by decide⟩, _, _, rfl, rfl, ⟨by decide, bt2 (by decide +kernel)⟩, _, _, rfl, rfl, ⟨by decide, by decide, by decide⟩, _, _, rfl, rfl, _, _, rfl, rfl, (by show (0 : Int) < 10 ^ 30 - 1; decide), _, _, rfl, rfl, _, _, rfl, hb, bb.mono (by decide), fun p H5 s5 k5 => ?_⟩
      obtain ⟨xs5, hxs, hxl, rw5⟩ := rw1.app s5 k5
      have hlz : xs5.length < sizeLine := by (first | lia | omega)
      refine ⟨D, xs5, _, rfl, rfl, hxs, hlz, _, rfl, _, _, rfl, rfl, ⟨by decide, by decide, by decide⟩, _, _, rfl, rfl, ⟨by decide, bt2 (by decide +kernel)⟩, ⟨_, _, rfl⟩, same_updF (sm.trans s5) hD _, _, rw5, by simp [l1], fun q hq => ?_, fun q hq => ?_⟩
      · rcases List.mem_append.mp hq with z | z
        · exact p1 q z
        · rw [List.mem_singleton.mp z]; exact div_pos ht hb
      · rcases List.mem_append.mp hq with y | y
        · exact b1 q y
        · rw [List.mem_singleton.mp y]; exact f30_of (T := 1 + r' % (10 ^ 30 - 1)) (M := 1 + r' / 10 ^ 30 % (10 ^ 30 - 1)) hb rfl (by (first | lia | omega)) (by (first | lia | omega))
    · have h1 := Int.emod_nonneg r' (show (12 : Int) ≠ 0 by decide)
      have h2 := Int.emod_lt_of_pos r' (show (0 : Int) < 12 by decide)
      have h3 := Int.emod_nonneg (r' / 12) (show (12 : Int) ≠ 0 by decide)
      have h4 := Int.emod_lt_of_pos (r' / 12) (show (0 : Int) < 12 by decide)
      have ht : 0 < 1 + r' % 12 := by (first | lia | omega)
      have hb : 0 < 1 + r' / 12 % 12 := by (first | lia | omega)
      have bt : Bt 4 (1 + r' % 12) := Bt.between (by (first | lia | omega)) (by (first | lia | omega))
      have bb : Bt 4 (1 + r' / 12 % 12) := Bt.between (by (first | lia | omega)) (by (first | lia | omega))
      refine ⟨_, rfl, .inl ⟨rfl, _, SqL.of e4⟩, _, rfl, _, _, rfl, rfl, (by show (0 : Int) < 12; decide), _, _, rfl, rfl, _, rfl, _, _, rfl, rfl, ⟨by decide, bt2 (by decide +kernel)⟩, _, _, rfl, rfl, (by show (0 : Int) < 12; decide), _, _, rfl, rfl, _, _, rfl, hb, bb.mono (by decide), fun p H5 s5 k5 => ?_⟩
      obtain ⟨xs5, hxs, hxl, rw5⟩ := rw1.app s5 k5
      have hlz : xs5.length < sizeLine := by (first | lia | omega)
      refine ⟨D, xs5, _, rfl, rfl, hxs, hlz, _, rfl, _, _, rfl, rfl, ⟨by decide, bt2 (by decide +kernel)⟩, ⟨_, _, rfl⟩, same_updF (sm.trans s5) hD _, _, rw5, by simp [l1], fun q hq => ?_, fun q hq => ?_⟩
      · rcases List.mem_append.mp hq with z | z
        · exact p1 q z
        · rw [List.mem_singleton.mp z]; exact div_pos ht hb
      · rcases List.mem_append.mp hq with y | y
        · exact b1 q y
        · rw [List.mem_singleton.mp y]; exact f30_of hb rfl (by (first | lia | omega)) (by (first | lia | omega))
  · rintro σ H1 ⟨⟨r, v, rfl⟩, sm, qs, ⟨ps, ep, kp⟩, lq, pq, bq⟩
    have lp := kp.length
    refine ⟨_, rfl, D, _, 0, rfl, rfl, .inl ⟨rfl, rfl⟩, SqL.of ep, fun ga hga => ?_⟩
    have t1 := same_upd hga (.lst (L3.ev2 ((ps.map V.ref).drop 0)))
    refine ⟨_, rfl, _, rfl, D, _, 1, rfl, rfl, .inr rfl, SqL.of (t1 _ _ ep), fun wa hwa => ⟨(by show 2 ≤ sizeLine; decide), fun r hr' => ?_⟩⟩
    have t2 := same_upd hwa (.lst (L3.ev2 ((ps.map V.ref).drop 1)))
    have t3 := same_upd hr' (.tup [.ref ga, .ref wa])
    have t := t1.trans (t2.trans t3)
    refine q r ga wa (L3.ev2 (qs.drop 0)) (L3.ev2 (qs.drop 1)) _ (sm.trans t) upd_same (sm.free hga) (sm.free (t1.free hwa)) (ne_of_none upd_same hwa) ⟨L3.ev2 (ps.drop 0), ?_, Pqs.keep (Pqs.ev2 (Pqs.drop 0 kp)) t⟩ ⟨L3.ev2 (ps.drop 1), ?_, Pqs.keep (Pqs.ev2 (Pqs.drop 1 kp)) t⟩ ⟨⟨?_, ?_, ⟨fun q hq => pq q (List.mem_of_mem_drop (L3.ev2_mem hq)), fun q hq => pq q (List.mem_of_mem_drop (L3.ev2_mem hq))⟩⟩, fun q hq => bq q (List.mem_of_mem_drop (L3.ev2_mem hq)), fun q hq => bq q (List.mem_of_mem_drop (L3.ev2_mem hq))⟩
    · rw [(t2.trans t3) _ _ upd_same, L3.ev2_map, List.map_drop]
    · rw [t3 _ _ upd_same, L3.ev2_map, List.map_drop]
    · rw [L3.ev2_length, L3.ev2_length, List.length_drop, List.length_drop]; (first | lia | omega)
    · rw [L3.ev2_length, List.length_drop]; (first | lia | omega)
noncomputable def sp_text : Sp := fun vs H Q _ => ∃ x, vs = [.str x, .str x] ∧ Q (.bl true) H
theorem sc_law_cord_text : FnScope ["_law_gaps", "_law_weights", "_law_text", "_law_k"] ["_law_gaps", "_law_weights"] (defScope s_law_cord_text) := ⟨rfl, rfl, rfl, by decide +kernel, rfl, by decide +kernel, by decide +kernel⟩
theorem ok_law_cord_text (F : Fun K "_law_cord_text" "_law_cord_text" s_law_cord_text f fd) (T : Txt mg) (C_law_word : Cal P w K mg base "_law_word" 1 ["_law_one"] sp_showf) : FnOk P w K mg base CX0 2 f fd ["_law_gaps", "_law_weights"] sp_ctext := by
  refine F.ok sc_law_cord_text (fun vs H Q E h => ?_) (fun cdv A outer s H vs Q E hr h => ?_)
  · obtain ⟨a, b, gs, ws, rfl, _⟩ := h
    rfl
  obtain ⟨a, b, gs, ws, rfl, ra, rb, c30, k⟩ := h
  have hlen := c30.fine.len
  have hmost := c30.fine.most
  have hz : (100000 : Nat) < sizeLine := by decide
  have h0 : 0 < gs.length := by (first | lia | omega)
  obtain ⟨pa, ea, ka⟩ := ra
  obtain ⟨pb, eb, kb⟩ := rb
  have lpb := kb.length
  obtain ⟨p0, e0, k0⟩ := ka.get (List.getElem?_eq_getElem h0)
  refine ⟨_, (pss_cons (ps_set (i := 2) sc_law_cord_text.nd rfl (Or.inl rfl) (pe_cl C_law_word hr (pa_cons (pe_ix ix_list (pv 0) pe_int (fun _ _ => rfl)) pa_nil)))
      (pss_cons (ps_for PassesOwn.never rfl (pi_range1 rfl T.z_range (pa_cons (pe_callB call_len_seq rfl T.z_len PySem.boot_len (pa_cons (pv 1) pa_nil)) pa_nil)) (pg_name (i := 3) sc_law_cord_text.nd rfl (Or.inl rfl))
        (pss_cons (ps_set (i := 2) sc_law_cord_text.nd rfl (Or.inl rfl) (pe_op op_add_str (pe_op op_add_str (pe_op op_add_str (pv 2) pe_str) (pe_cl C_law_word hr (pa_cons (pe_ix ix_list (pv 1) (pv 3) (fun _ _ => rfl)) pa_nil))) pe_str))
        (pss_one (ps_set (i := 2) sc_law_cord_text.nd rfl (Or.inl rfl) (pe_op op_add_str (pv 2) (pe_cl C_law_word hr (pa_cons (pe_ix ix_list (pv 0) (pe_op op_add (pv 3) pe_int) (fun _ _ => rfl)) pa_nil)))))))
      (pss_one (ps_ret (pv 2))))), ?_⟩
  refine ⟨_, rfl, a, _, _, _, rfl, rfl, SqL.of ea, atI_nat (j := 0) e0, p0, _, rfl, k0, c30.g30 _ (List.getElem_mem h0), ?_⟩
  refine ⟨_, rfl, _, _, rfl, .inl (SqL.of eb), _, rfl, by (first | lia | omega), by rw [List.length_map]; (first | lia | omega), ?_⟩
  rw [Int.toNat_natCast, List.length_map, lpb]
  have lgd : (gs.drop 1).length = ws.length := by rw [List.length_drop]; (first | lia | omega)
  refine for_range (n := ws.length) (fun i σ H' => H = H' ∧ ∃ v, σ = [some (.ref a), some (.ref b), some (.str (sx (jn 32 (ftx gs[0] :: cw (ws.take i) ((gs.drop 1).take i))))), v]) ⟨rfl, _, rfl⟩ ?_ ?_
  · rintro i σ _ hi ⟨rfl, v, rfl⟩
    have hi2 : i < (gs.drop 1).length := by (first | lia | omega)
    have hi3 : i + 1 < gs.length := by (first | lia | omega)
    obtain ⟨p1, e1, k1⟩ := kb.get (List.getElem?_eq_getElem hi)
    obtain ⟨p2, e2, k2⟩ := ka.get (List.getElem?_eq_getElem hi3)
    have f1 := c30.w30 _ (List.getElem_mem hi)
    have f2 := c30.g30 _ (List.getElem_mem hi3)
    have l1 := ftx_len f1
    have l2 := ftx_len f2
    have lt := jn_len (c := 32) (ws := ftx gs[0] :: cw (ws.take i) ((gs.drop 1).take i)) fun t ht => by
      rcases List.mem_cons.mp ht with z | z
      · rw [z]
        have := ftx_len (c30.g30 _ (List.getElem_mem h0))
        (first | lia | omega)
      · exact cw_mem (P := fun t => t.length ≤ 64) (fun w hw => by
          have := ftx_len (c30.w30 w (List.mem_of_mem_take hw))
          rw [List.length_cons, List.length_append]
          show _ + 1 + 1 ≤ _
          (first | lia | omega)) (fun g hg => by
          have := ftx_len (c30.g30 g (List.mem_of_mem_drop (List.mem_of_mem_take hg)))
          (first | lia | omega)) t z
    rw [List.length_cons, cw_len (by rw [List.length_take, List.length_take]; (first | lia | omega)), List.length_take] at lt
    have eg : gs[i + 1] = (gs.drop 1)[i] := by rw [List.getElem_drop]; congr 1; (first | lia | omega)
    have en : jn 32 (ftx gs[0] :: cw (ws.take (i + 1)) ((gs.drop 1).take (i + 1))) = jn 32 (ftx gs[0] :: cw (ws.take i) ((gs.drop 1).take i)) ++ [32, 40] ++ ftx ws[i] ++ [41, 32] ++ ftx gs[i + 1] := by
      rw [List.take_succ_eq_append_getElem hi, List.take_succ_eq_append_getElem hi2, cw_snoc _ _ (by rw [List.length_take, List.length_take]; (first | lia | omega)), ← List.cons_append, ← List.cons_append, jn_app _ (by simp), jn_app _ (by simp), eg]
      simp
    generalize jn 32 (ftx gs[0] :: cw (ws.take i) ((gs.drop 1).take i)) = Z at *
    refine ⟨_, rfl, _, _, rfl, rfl, ?_, _, rfl, _, rfl, b, _, _, _, rfl, rfl, SqL.of eb, atI_0 e1, p1, _, rfl, k1, f1, _, _, rfl, rfl, ?_, _, _, rfl, rfl, ?_, ?_⟩
    · rw [sx_len]
      show _ + 2 ≤ _
      (first | lia | omega)
    · rw [slen, sx_len, sx_len]
      show _ + 2 + _ ≤ _
      (first | lia | omega)
    · rw [slen, slen, sx_len, sx_len]
      show _ + 2 + _ + 2 ≤ _
      (first | lia | omega)
    rw [show Str.ofString " (" = sx [32, 40] from rfl, show Str.ofString ") " = sx [41, 32] from rfl, sx_app, sx_app, sx_app]
    refine ⟨_, rfl, _, rfl, _, rfl, _, _, rfl, rfl, a, _, _, _, rfl, rfl, SqL.of ea, ?_, p2, _, rfl, k2, f2, _, _, rfl, rfl, ?_, ?_⟩
    · rw [show (0 + (i : Int) + 1) = ((i + 1 : Nat) : Int) by (first | lia | omega)]
      exact atI_nat e2
    · rw [sx_len, sx_len]
      simp only [List.length_append, List.length_cons, List.length_nil]
      (first | lia | omega)
    · rw [sx_app, ← en]
      exact ⟨rfl, _, rfl⟩
  · rintro σ _ ⟨rfl, v, rfl⟩
    rw [List.take_length, show (gs.drop 1).take ws.length = gs.drop 1 by rw [← lgd, List.take_length]]
    refine ⟨_, rfl, ?_⟩
    unfold cordW at k
    rw [Po.getD_in h0] at k
    exact k
noncomputable def sp_iscord (C : Addr) : Sp := fun vs H Q _ => ∃ c ga wa gs ws g w, vs = [.ref c, .ref g, .ref w] ∧ Co C H c ga wa gs ws ∧ Rw H g gs ∧ Rw H w ws ∧ gs.length ≤ 100 ∧ ws.length ≤ 100 ∧ ∀ H', Same H H' → Q (.bl true) H'
theorem sc_law_is_cord : FnScope ["_law_told", "_law_gaps", "_law_weights"] ["_law_told", "_law_gaps", "_law_weights"] (defScope s_law_is_cord) := ⟨rfl, rfl, rfl, by decide +kernel, rfl, by decide +kernel, by decide +kernel⟩
theorem ok_law_is_cord (F : Fun K "_law_is_cord" "_law_is_cord" s_law_is_cord f fd) (T : Txt mg) (O : OwnCord K mg o_Cord) (C_Cord_gaps : CalM P w K mg base o_Cord "gaps" 1 ["self"] (sp_gaps o_Cord)) (C_Cord_weights : CalM P w K mg base o_Cord "weights" 1 ["self"] (sp_weights o_Cord)) (C_law_same : Cal P w K mg base "_law_same" 1 ["_law_told", "_law_due"] sp_sameQ) :
    FnOk P w K mg base CX0 2 f fd ["_law_told", "_law_gaps", "_law_weights"] (sp_iscord o_Cord) := by
  refine F.ok sc_law_is_cord (fun vs H Q E h => ?_) (fun cdv A outer s H vs Q E hr h => ?_)
  · obtain ⟨c, ga, wa, gs, ws, g, w, rfl, _⟩ := h
    rfl
  obtain ⟨c, ga, wa, gs, ws, g, w, rfl, co, rg, rw', lg, lw, q⟩ := h
  refine ⟨_, (pss_one (ps_ret (pe_and (pe_callB call_isiC rfl T.z_isinstance boot_isinstance (pa_cons (pv 0) (pa_cons (pe_glob (v := .ref _) rfl O.m rfl) pa_nil))) (pe_and (pe_cl C_law_same hr (pa_cons (pe_m0 C_Cord_gaps hr (pv 0)) (pa_cons (pv 1) pa_nil))) (pe_one (pe_cl C_law_same hr (pa_cons (pe_m0 C_Cord_weights hr (pv 0)) (pa_cons (pv 2) pa_nil)))))))), ?_⟩
  obtain ⟨dx, ec⟩ := co.1
  refine ⟨_, rfl, _, _, _, _, rfl, O.ty ec, O.self, _, rfl, iteT ?_⟩
  refine ⟨_, rfl, c, dx, _, rfl, ec, rfl, c, ga, wa, gs, ws, rfl, co, fun r1 H1 s1 n1 rr1 => ?_⟩
  refine ⟨_, rfl, r1, g, gs, rfl, rr1, rg.keep s1, by (first | lia | omega), _, rfl, iteT ?_⟩
  refine ⟨_, rfl, c, dx, _, rfl, s1 _ _ ec, rfl, c, ga, wa, gs, ws, rfl, co.keep s1, fun r2 H2 s2 n2 rr2 => ?_⟩
  exact ⟨_, rfl, r2, w, ws, rfl, rr2, rw'.keep (s1.trans s2), by (first | lia | omega), q H2 (s1.trans s2)⟩

noncomputable def Bad83 (l : List Nat) : Prop := Pln l ∧ ∀ gs ws, C30 gs ws → l ≠ jn 32 (cordW gs ws)
theorem bad83_of {W : List (List Nat)} (pl : Pln (jn 32 W)) (h32 : ∀ w ∈ W, 32 ∉ w) (ne : ∀ gs ws, C30 gs ws → W ≠ cordW gs ws) : Bad83 (jn 32 W) := by
  refine ⟨pl, fun gs ws c30 e => ?_⟩
  by_cases h : W = []
  · rw [h] at e
    have := jn_nil (c30.mem (P := fun t => t ≠ []) (fun w _ => by simp) fun g _ => ftx_ne g) e.symm
    exact absurd this (by unfold cordW; simp)
  · exact ne gs ws c30 (jn_inj h32 (cordW_32 c30) h (by unfold cordW; simp) e)
noncomputable def Wd (w : List Nat) : Prop := (∀ c ∈ w, c < 128) ∧ w.length ≤ 64
theorem wd_pln {W : List (List Nat)} (h : ∀ w ∈ W, Wd w) (hl : W.length ≤ 60) : Pln (jn 32 W) := by
  have := jn_len (c := 32) (ws := W) fun w hw => (h w hw).2
  exact ⟨jn_low (by decide) fun w hw => (h w hw).1, by (first | lia | omega)⟩
theorem cordW_wd {gs ws : List Rat} (h : C30 gs ws) : ∀ w ∈ cordW gs ws, Wd w := fun t ht => ⟨h.mem (P := fun t => ∀ c ∈ t, c < 128) (fun w _ c hc => by
    rcases List.mem_cons.mp hc with z | z
    · (first | lia | omega)
    · rcases List.mem_append.mp z with z | z
      · exact ftx_low z
      · have := List.mem_singleton.mp z
        (first | lia | omega)) (fun g _ c hc => ftx_low hc) t ht, h.len t ht⟩
theorem bad_len {W : List (List Nat)} (hw : ∀ w ∈ W, Wd w) (hl : W.length ≤ 60) (h32 : ∀ w ∈ W, 32 ∉ w) (h : W.length % 2 = 0 ∨ 25 < W.length) : Bad83 (jn 32 W) := by
  refine bad83_of (wd_pln hw hl) h32 fun gs ws c30 e => ?_
  have e1 := c30.cnt
  have e2 := c30.fine.most
  rw [← e] at e1
  (first | lia | omega)
noncomputable def gapO : List (List Nat) := [[48], [45, 49], [40, 49, 41], [50, 47, 52], [], [120], [45, 49, 47, 50], [49, 47, 49], [48, 47, 51], [40, 41]]
theorem gapO_eq : [V.str (Str.ofString "0"), V.str (Str.ofString "-1"), V.str (Str.ofString "(1)"), V.str (Str.ofString "2/4"), V.str (Str.ofString ""), V.str (Str.ofString "x"), V.str (Str.ofString "-1/2"), V.str (Str.ofString "1/1"), V.str (Str.ofString "0/3"), V.str (Str.ofString "()")] = gapO.map fun l => V.str (sx l) := rfl
noncomputable def wtO : List (List Nat) := [[49], [40, 49], [49, 41], [40, 48, 41], [40, 45, 49, 41], [40, 41], [40, 50, 47, 52, 41], [40, 40, 49, 41, 41], [40, 49, 47, 49, 41], [40, 32, 41], [40], [40, 49, 41, 50], [91, 49, 93]]
theorem wtO_eq : [V.str (Str.ofString "1"), V.str (Str.ofString "(1"), V.str (Str.ofString "1)"), V.str (Str.ofString "(0)"), V.str (Str.ofString "(-1)"), V.str (Str.ofString "()"), V.str (Str.ofString "(2/4)"), V.str (Str.ofString "((1))"), V.str (Str.ofString "(1/1)"), V.str (Str.ofString "( )"), V.str (Str.ofString "("), V.str (Str.ofString "(1)2"), V.str (Str.ofString "[1]")] = wtO.map fun l => V.str (sx l) := rfl
noncomputable def posB (l : List Nat) : Bool := rdB l && decide (l[0]? ≠ some 45) && decide (l ≠ [48])
theorem posB_ftx {q : Rat} (h : F30 q) (h0 : 0 < q) : posB (ftx q) = true := by
  unfold posB
  rw [rdB_ftx h, Bool.true_and, Bool.and_eq_true]
  have hn : 0 < q.num := by
    have a0 : 0 ≤ q.num := Rat.num_nonneg.mpr (Rat.le_of_lt h0)
    have a1 : q.num ≠ 0 := fun z => Rat.ne_of_gt h0 (Rat.num_eq_zero.mp z)
    (first | lia | omega)
  refine ⟨decide_eq_true fun z => ?_, decide_eq_true fun z => ?_⟩
  · have e : itx q.num = dgs q.num.natAbs := by
      unfold itx
      rw [if_neg (by (first | lia | omega))]
    have hd := dgs_dg q.num.natAbs
    have ne := dgs_ne q.num.natAbs
    have z' : (dgs q.num.natAbs)[0]? = some 45 := by
      unfold ftx at z
      rw [e] at z
      split at z
      · exact z
      · rw [List.getElem?_append_left (List.length_pos_iff.mpr ne)] at z
        exact z
    exact absurd (hd 45 (List.mem_of_getElem? z')).1 (by decide)
  · have : ftx q = ftx 0 := z
    have := ftx_inj this
    rw [this] at h0
    exact absurd h0 (by decide)
noncomputable def posW (l : List Nat) : Bool := decide (l[0]? = some 40) && decide (l.getLast? = some 41) && posB (l.drop 1).dropLast
theorem posW_brx {q : Rat} (h : F30 q) (h0 : 0 < q) : posW (brx q) = true := by
  unfold posW brx
  rw [List.drop_one, List.tail_cons, List.dropLast_concat, posB_ftx h h0, ← List.cons_append, List.getLast?_concat]
  rfl
theorem gapO_all : ∀ l ∈ gapO, posB l = false ∧ (l.all fun c => decide (c < 128)) = true ∧ l.length ≤ 64 ∧ 32 ∉ l := by decide +kernel
theorem wtO_all : ∀ l ∈ wtO, posW l = false ∧ (l.all fun c => decide (c < 128)) = true ∧ l.length ≤ 64 ∧ (32 ∉ l ∨ l = [40, 32, 41]) := by decide +kernel
noncomputable def GapO (l : List Nat) : Prop := Wd l ∧ 32 ∉ l ∧ ∀ q, F30 q → 0 < q → l ≠ ftx q
noncomputable def WtO (l : List Nat) : Prop := Wd l ∧ (32 ∉ l ∨ l = [40, 32, 41]) ∧ ∀ q, F30 q → 0 < q → l ≠ brx q
theorem GapO.of {l : List Nat} (h : l ∈ gapO) : GapO l := by
  obtain ⟨h1, h2, h3, h4⟩ := gapO_all l h
  refine ⟨⟨fun c hc => of_decide_eq_true (List.all_eq_true.mp h2 c hc), h3⟩, h4, fun q hq h0 z => ?_⟩
  rw [z, posB_ftx hq h0] at h1
  cases h1
theorem WtO.of {l : List Nat} (h : l ∈ wtO) : WtO l := by
  obtain ⟨h1, h2, h3, h4⟩ := wtO_all l h
  refine ⟨⟨fun c hc => of_decide_eq_true (List.all_eq_true.mp h2 c hc), h3⟩, h4, fun q hq h0 z => ?_⟩
  rw [z, posW_brx hq h0] at h1
  cases h1
theorem ev2_get : ∀ (xs : List (List Nat)) (j : Nat), (L3.ev2 xs)[j]? = xs[2 * j]?
  | [], j => by simp [L3.ev2]
  | [x], 0 => rfl
  | [x], j + 1 => by
    rw [show 2 * (j + 1) = 2 * j + 2 by (first | lia | omega)]
    simp [L3.ev2]
  | x :: y :: xs, 0 => rfl
  | x :: y :: xs, j + 1 => by
    show (L3.ev2 xs)[j]? = (x :: y :: xs)[2 * j + 2]?
    rw [ev2_get xs j]
    rfl
theorem bad_gap {gs ws : List Rat} (c30 : C30 gs ws) {j : Nat} (hj : 2 * j < (cordW gs ws).length) {z : List Nat} (hz : GapO z) : Bad83 (jn 32 ((cordW gs ws).set (2 * j) z)) := by
  have e1 := c30.cnt
  have e2 := c30.fine.most
  refine bad83_of (wd_pln (fun w hw => ?_) (by rw [List.length_set]; (first | lia | omega))) (fun w hw => ?_) fun gs' ws' c' e => ?_
  · rcases List.mem_or_eq_of_mem_set hw with y | y
    · exact cordW_wd c30 w y
    · rw [y]; exact hz.1
  · rcases List.mem_or_eq_of_mem_set hw with y | y
    · exact cordW_32 c30 w y
    · rw [y]; exact hz.2.1
  · have h1 : ((cordW gs ws).set (2 * j) z)[2 * j]? = some z := by rw [List.getElem?_set_self hj]
    rw [e, ← ev2_get, cordW_ev c', List.getElem?_map] at h1
    obtain ⟨q, hq, eq⟩ := Option.map_eq_some_iff.mp h1
    have hm := List.mem_of_getElem? hq
    exact hz.2.2 q (c'.g30 q hm) (c'.fine.pos.1 q hm) eq.symm
theorem not_open {gs ws : List Rat} (c30 : C30 gs ws) : [40] ∉ cordW gs ws := fun h => by
  have := c30.mem (P := fun t => t ≠ [40]) (fun w _ z => by simp at z) (fun g _ z => by
    exact ftx_free (c := 40) (by decide) (fun z => absurd z.1 (by decide)) (by decide) g (by rw [z]; simp)) _ h
  exact this rfl
theorem jn_open {A B : List (List Nat)} (hA : A ≠ []) : jn 32 (A ++ [40, 32, 41] :: B) = jn 32 (A ++ [40] :: [41] :: B) := by
  induction A with
  | nil => exact absurd rfl hA
  | cons a A ih =>
    cases A with
    | nil =>
      cases B with
      | nil => rfl
      | cons b B => show a ++ 32 :: ([40, 32, 41] ++ 32 :: jn 32 (b :: B)) = a ++ 32 :: ([40] ++ 32 :: ([41] ++ 32 :: jn 32 (b :: B))); simp
    | cons a' A =>
      show a ++ 32 :: jn 32 (a' :: A ++ [40, 32, 41] :: B) = a ++ 32 :: jn 32 (a' :: A ++ [40] :: [41] :: B)
      rw [ih (by simp)]
theorem bad_wt {A B : List (List Nat)} {z : List Nat} (hA : A.length % 2 = 1) (hw : ∀ w ∈ A ++ B, Wd w) (h32 : ∀ w ∈ A ++ B, 32 ∉ w) (hl : (A ++ B).length ≤ 50) (hz : WtO z) : Bad83 (jn 32 (A ++ z :: B)) := by
  have nA : A ≠ [] := fun y => by rw [y] at hA; cases hA
  rcases hz.2.1 with n | n
  · refine bad83_of (wd_pln (fun w h => ?_) (by simp at hl ⊢; (first | lia | omega))) (fun w h => ?_) fun gs' ws' c' e => ?_
    · rcases List.mem_append.mp h with y | y
      · exact hw w (List.mem_append_left _ y)
      · rcases List.mem_cons.mp y with y | y
        · rw [y]; exact hz.1
        · exact hw w (List.mem_append_right _ y)
    · rcases List.mem_append.mp h with y | y
      · exact h32 w (List.mem_append_left _ y)
      · rcases List.mem_cons.mp y with y | y
        · rw [y]; exact n
        · exact h32 w (List.mem_append_right _ y)
    · obtain ⟨j, hj⟩ : ∃ j, A.length = 2 * j + 1 := ⟨A.length / 2, by (first | lia | omega)⟩
      have h1 : (A ++ z :: B)[2 * j + 1]? = some z := by
        rw [← hj, List.getElem?_append_right (Nat.le_refl _), Nat.sub_self]
        rfl
      have h2 : ((cordW gs' ws').drop 1)[2 * j]? = some z := by
        rw [List.getElem?_drop, ← e, show 1 + 2 * j = 2 * j + 1 by (first | lia | omega)]
        exact h1
      rw [← ev2_get, cordW_ev1 c', List.getElem?_map] at h2
      obtain ⟨q, hq, eq⟩ := Option.map_eq_some_iff.mp h2
      have hm := List.mem_of_getElem? hq
      exact hz.2.2 q (c'.w30 q hm) (c'.fine.pos.2 q hm) eq.symm
  · subst n
    rw [jn_open nA]
    have wd1 : Wd [40] := ⟨by simp, by decide⟩
    have wd2 : Wd [41] := ⟨by simp, by decide⟩
    refine bad83_of (wd_pln (fun w h => ?_) (by simp at hl ⊢; (first | lia | omega))) (fun w h => ?_) fun gs' ws' c' e => ?_
    · rcases List.mem_append.mp h with y | y
      · exact hw w (List.mem_append_left _ y)
      · rcases List.mem_cons.mp y with y | y
        · rw [y]; exact wd1
        · rcases List.mem_cons.mp y with y | y
          · rw [y]; exact wd2
          · exact hw w (List.mem_append_right _ y)
    · rcases List.mem_append.mp h with y | y
      · exact h32 w (List.mem_append_left _ y)
      · rcases List.mem_cons.mp y with y | y
        · rw [y]; simp
        · rcases List.mem_cons.mp y with y | y
          · rw [y]; simp
          · exact h32 w (List.mem_append_right _ y)
    · exact not_open c' (by rw [← e]; simp)
theorem cord_inj {gs ws gs' ws' : List Rat} (c : C30 gs ws) (c' : C30 gs' ws') (e : jn 32 (cordW gs ws) = jn 32 (cordW gs' ws')) : gs = gs' ∧ ws = ws' := by
  have h := jn_inj (cordW_32 c) (cordW_32 c') (by unfold cordW; simp) (by unfold cordW; simp) e
  have h1 := congrArg L3.ev2 h
  rw [cordW_ev c, cordW_ev c'] at h1
  have h2 := congrArg (fun x => L3.ev2 (x.drop 1)) h
  rw [cordW_ev1 c, cordW_ev1 c'] at h2
  exact ⟨maps_inj (fun p q => ftx_inj) h1, maps_inj (fun p q => brx_inj) h2⟩
noncomputable def sp_gapby : Sp := fun vs H Q _ => ∃ r : Int, vs = [.int r] ∧ ∀ l H', Same H H' → GapO l → Q (.str (sx l)) H'
noncomputable def sp_wtby : Sp := fun vs H Q _ => ∃ r : Int, vs = [.int r] ∧ ∀ l H', Same H H' → WtO l → Q (.str (sx l)) H'
noncomputable def sp_ref83 (K : PySem.W.Frag) : Sp := fun vs H Q _ => ∃ v, vs = [v] ∧ (NoTx K H v ∨ ∃ l, v = .str (sx l) ∧ Bad83 l) ∧ ∀ H', Same H H' → Q (.bl true) H'
noncomputable def sp_spo83 : Sp := fun vs H Q _ => ∃ (a : Addr) (r : Int) (gs ws : List Rat), vs = [.ref a, .int r] ∧ H a = some (.lst (((cordW gs ws).map sx).map V.str)) ∧ C30 gs ws ∧ ∀ l H', Same H H' → Bad83 l → Q (.str (sx l)) H'
theorem sc_law_gap_by : FnScope ["_law_rest"] ["_law_rest"] (defScope s_law_gap_by) := ⟨rfl, rfl, rfl, by decide +kernel, rfl, by decide +kernel, by decide +kernel⟩
theorem ok_law_gap_by (F : Fun K "_law_gap_by" "_law_gap_by" s_law_gap_by f fd) (T : Txt mg) : FnOk P w K mg base CX0 1 f fd ["_law_rest"] sp_gapby := by
  refine F.ok sc_law_gap_by (fun vs H Q E h => ?_) (fun cdv A outer s H vs Q E hr h => ?_)
  · obtain ⟨r, rfl, _⟩ := h
    rfl
  obtain ⟨r, rfl, k⟩ := h
  refine ok_sealed ?_
  refine ⟨_, (sw_one (w_ret (w_ix (w_lst (aw_con w_str (aw_con w_str (aw_con w_str (aw_con w_str (aw_con w_str (aw_con w_str (aw_con w_str (aw_con w_str (aw_con w_str (aw_con w_str aw_nil))))))))))) (w_any (pe_op op_mod (pv 0) pe_int))))), ?_⟩
  refine ⟨(by show 10 ≤ sizeLine; decide), fun L1 h1 => ?_⟩
  rw [gapO_eq]
  have u1 := same_upd h1 (.lst (gapO.map fun l => V.str (sx l)))
  have a0 := Int.emod_nonneg r (show (10 : Int) ≠ 0 by decide)
  have a1 := Int.emod_lt_of_pos r (show (0 : Int) < 10 by decide)
  obtain ⟨n, hn⟩ : ∃ n : Nat, r % 10 = n := ⟨(r % 10).toNat, by (first | lia | omega)⟩
  have hn' : n < gapO.length := by show n < 10; (first | lia | omega)
  refine ⟨_, rfl, _, _, rfl, rfl, (by show (0 : Int) < 10; decide), L1, _, _, .str (sx gapO[n]), rfl, rfl, SqL.of upd_same, ?_, k _ _ u1 (GapO.of (List.getElem_mem hn'))⟩
  show atI _ (r % 10) = _
  rw [hn]
  refine atI_nat ?_
  rw [List.getElem?_map, List.getElem?_eq_getElem hn']
  rfl
theorem sc_law_weight_by : FnScope ["_law_rest"] ["_law_rest"] (defScope s_law_weight_by) := ⟨rfl, rfl, rfl, by decide +kernel, rfl, by decide +kernel, by decide +kernel⟩
theorem ok_law_weight_by (F : Fun K "_law_weight_by" "_law_weight_by" s_law_weight_by f fd) (T : Txt mg) : FnOk P w K mg base CX0 1 f fd ["_law_rest"] sp_wtby := by
  refine F.ok sc_law_weight_by (fun vs H Q E h => ?_) (fun cdv A outer s H vs Q E hr h => ?_)
  · obtain ⟨r, rfl, _⟩ := h
    rfl
  obtain ⟨r, rfl, k⟩ := h
  refine ok_sealed ?_
  refine ⟨_, (sw_one (w_ret (w_ix (w_lst (aw_con w_str (aw_con w_str (aw_con w_str (aw_con w_str (aw_con w_str (aw_con w_str (aw_con w_str (aw_con w_str (aw_con w_str (aw_con w_str (aw_con w_str (aw_con w_str (aw_con w_str aw_nil)))))))))))))) (w_any (pe_op op_mod (pv 0) pe_int))))), ?_⟩
  refine ⟨(by show 13 ≤ sizeLine; decide), fun L1 h1 => ?_⟩
  rw [wtO_eq]
  have u1 := same_upd h1 (.lst (wtO.map fun l => V.str (sx l)))
  have a0 := Int.emod_nonneg r (show (13 : Int) ≠ 0 by decide)
  have a1 := Int.emod_lt_of_pos r (show (0 : Int) < 13 by decide)
  obtain ⟨n, hn⟩ : ∃ n : Nat, r % 13 = n := ⟨(r % 13).toNat, by (first | lia | omega)⟩
  have hn' : n < wtO.length := by show n < 13; (first | lia | omega)
  refine ⟨_, rfl, _, _, rfl, rfl, (by show (0 : Int) < 13; decide), L1, _, _, .str (sx wtO[n]), rfl, rfl, SqL.of upd_same, ?_, k _ _ u1 (WtO.of (List.getElem_mem hn'))⟩
  show atI _ (r % 13) = _
  rw [hn]
  refine atI_nat ?_
  rw [List.getElem?_map, List.getElem?_eq_getElem hn']
  rfl
theorem sc_law_refused : FnScope ["_law_text", "_law_refused_here", "e"] ["_law_text"] (defScope s_law_refused) := ⟨rfl, rfl, rfl, by decide +kernel, rfl, by decide +kernel, by decide +kernel⟩
theorem ok_law_refused {c_NoText c_CordError c_NoCord c_NoFraction : Addr} (F : Fun K "_law_refused" "_law_refused" s_law_refused f fd) (T : Txt mg) (R : Errs K mg c_NoText c_CordError c_NoCord c_NoFraction) (C_read_cord : CalX P w K mg base "read_cord" 6 ["text"] [] [] (sp_rdcX K o_Cord c_NoText)) : FnOk P w K mg base CX0 7 f fd ["_law_text"] (sp_ref83 K) := by
  refine F.ok sc_law_refused (fun vs H Q E h => ?_) (fun cdv A outer s H vs Q E hr h => ?_)
  · obtain ⟨v, rfl, _⟩ := h
    rfl
  obtain ⟨v, rfl, hv, k⟩ := h
  refine ⟨_, (pss_cons (ps_set (i := 1) sc_law_refused.nd rfl (Or.inl rfl) pe_bl)
      (pss_cons (ps_try 2 (psx_call C_read_cord hr (pa_cons (pv 0) pa_nil)) R.m_CordError (fun _ =>
        (pss_one (ps_set (i := 1) sc_law_refused.nd rfl (Or.inl rfl) (pe_and (pe_callB call_isiE rfl T.z_isinstance boot_isinstance (pa_cons (pv 2) (pa_cons (pe_glob (v := .ref _) rfl R.m_NoText rfl) pa_nil))) (pe_and (pe_not (pe_callB call_isiE rfl T.z_isinstance boot_isinstance (pa_cons (pv 2) (pa_cons (pe_glob (v := .ref _) rfl R.m_NoCord rfl) pa_nil)))) (pe_one (pe_not (pe_callB call_isiE rfl T.z_isinstance boot_isinstance (pa_cons (pv 2) (pa_cons (pe_glob (v := .ref _) rfl R.m_NoFraction rfl) pa_nil)))))))))) sc_law_refused.nd)
      (pss_one (ps_ret (pv 1))))), ?_⟩
  refine ⟨_, rfl, v, rfl, ?_⟩
  rcases hv with nt | ⟨l, rfl, bad⟩
  · refine .inl ⟨nt, R.x_NoText, fun x hx => ?_⟩
    have u1 := same_upd hx (.ext (ExcAt x (.ref c_NoText)))
    refine ⟨_, rfl, _, _, _, _, _, rfl, rfl, upd_same, R.e_NoText, R.k_NoText_NoText, true, rfl, ?_⟩
    refine iteT ⟨_, rfl, _, _, _, _, _, rfl, rfl, upd_same, R.e_NoText, R.k_NoText_NoCord, _, rfl, true, rfl, ?_⟩
    refine iteT ⟨_, rfl, _, _, _, _, _, rfl, rfl, upd_same, R.e_NoText, R.k_NoText_NoFraction, _, rfl, ?_⟩
    exact ⟨_, rfl, k _ u1⟩
  · refine .inr ⟨l, rfl, bad.1, fun gs ws c30 e => absurd e (bad.2 gs ws c30), fun _ H1 s1 => ⟨R.x_NoText, fun x hx => ?_⟩⟩
    have u1 := same_upd hx (.ext (ExcAt x (.ref c_NoText)))
    refine ⟨_, rfl, _, _, _, _, _, rfl, rfl, upd_same, R.e_NoText, R.k_NoText_NoText, true, rfl, ?_⟩
    refine iteT ⟨_, rfl, _, _, _, _, _, rfl, rfl, upd_same, R.e_NoText, R.k_NoText_NoCord, _, rfl, true, rfl, ?_⟩
    refine iteT ⟨_, rfl, _, _, _, _, _, rfl, rfl, upd_same, R.e_NoText, R.k_NoText_NoFraction, _, rfl, ?_⟩
    exact ⟨_, rfl, k _ (s1.trans u1)⟩
theorem sc_law_spoilt : FnScope ["_law_words", "_law_rest", "_law_made", "_law_way"] ["_law_words", "_law_rest"] (defScope s_law_spoilt) := ⟨rfl, rfl, rfl, by decide +kernel, rfl, by decide +kernel, by decide +kernel⟩
set_option maxHeartbeats 4000000 in
theorem ok_law_spoilt (F : Fun K "_law_spoilt" "_law_spoilt" s_law_spoilt f fd) (T : Txt mg) (C_law_gap_by : Cal P w K mg base "_law_gap_by" 1 ["_law_rest"] sp_gapby) (C_law_weight_by : Cal P w K mg base "_law_weight_by" 1 ["_law_rest"] sp_wtby) : FnOk P w K mg base CX0 2 f fd ["_law_words", "_law_rest"] sp_spo83 := by
  refine F.ok sc_law_spoilt (fun vs H Q E h => ?_) (fun cdv A outer s H vs Q E hr h => ?_)
  · obtain ⟨a, r, gs, ws, rfl, _⟩ := h
    rfl
  obtain ⟨a, r, gs, ws, rfl, ha, c30, k⟩ := h
  have hz : (100000 : Nat) < sizeLine := by decide
  refine ⟨_, (pss_cons (ps_set (i := 2) sc_law_spoilt.nd rfl (Or.inl rfl) (pe_callTy call_list_of rfl T.z_list boot_list (pa_cons (pv 0) pa_nil)))
      (pss_cons (ps_set (i := 3) sc_law_spoilt.nd rfl (Or.inl rfl) (pe_op op_mod (pv 1) pe_int))
      (pss_cons (ps_set (i := 1) sc_law_spoilt.nd rfl (Or.inl rfl) (pe_op op_fdP (pv 1) pe_int))
      (pss_cons (ps_if (pt_cmpR op_eq (pv 3) pe_int (nomark _))
        (pss_one (ps_expr (pe_bm0 PySem.F.plainAttrs_list PySem.F.slot_list_pop PySem.F.type_list_pop mt_pop (pv 2))))
        pss_nil)
      (pss_cons (ps_if (pt_cmpR op_eq (pv 3) pe_int (nomark _))
        (pss_one (ps_expr (pe_bm PySem.F.plainAttrs_list PySem.F.slot_list_append PySem.F.type_list_append mt_append (pv 2) (pa_cons (pe_ix ix_list (pe_lst (pa_cons pe_str (pa_cons pe_str (pa_cons pe_str pa_nil)))) (pe_op op_mod (pv 1) pe_int) (fun _ _ => rfl)) pa_nil))))
        pss_nil)
      (pss_cons (ps_if (pt_cmpR op_eq (pv 3) pe_int (nomark _))
        (pss_one (ps_expr (pe_bm PySem.F.plainAttrs_list PySem.F.slot_list_insert PySem.F.type_list_insert mt_insert (pv 2) (pa_cons (pe_op op_mod (pv 1) (pe_op op_add (pe_callB call_len_seq rfl T.z_len PySem.boot_len (pa_cons (pv 2) pa_nil)) pe_int)) (pa_cons pe_str pa_nil)))))
        pss_nil)
      (pss_cons (ps_if (pt_cmpR op_eq (pv 3) pe_int (nomark _))
        (pss_one (ps_asg (pe_cl C_law_gap_by hr (pa_cons (pe_op op_fdP (pv 1) pe_int) pa_nil)) (pg_sub (pv 2) (pe_op op_mulB (pe_op op_mod (pv 1) (pe_op op_fdP (pe_op op_add (pe_callB call_len_seq rfl T.z_len PySem.boot_len (pa_cons (pv 2) pa_nil)) pe_int) pe_int)) pe_int) set_list)))
        pss_nil)
      (pss_cons (ps_if (PW.pt (pw_and (pt_cmpR op_eq (pv 3) pe_int (nomark _)) (pw_and1 (pt_cmpR op_gt (pe_callB call_len_seq rfl T.z_len PySem.boot_len (pa_cons (pv 2) pa_nil)) pe_int (nomark _)))))
        (pss_one (ps_asg (pe_cl C_law_weight_by hr (pa_cons (pe_op op_fdP (pv 1) pe_int) pa_nil)) (pg_sub (pv 2) (pe_op op_add pe_int (pe_op op_mulB (pe_op op_mod (pv 1) (pe_op op_fdP (pe_callB call_len_seq rfl T.z_len PySem.boot_len (pa_cons (pv 2) pa_nil)) pe_int)) pe_int)) set_list)))
        pss_nil)
      (pss_cons (ps_if (PW.pt (pw_and (pt_cmpR op_eq (pv 3) pe_int (nomark _)) (pw_and1 (pt_cmpR op_eq (pe_callB call_len_seq rfl T.z_len PySem.boot_len (pa_cons (pv 2) pa_nil)) pe_int (nomark _)))))
        (pss_one (ps_expr (pe_bm PySem.F.plainAttrs_list PySem.F.slot_list_append PySem.F.type_list_append mt_append (pv 2) (pa_cons (pe_cl C_law_weight_by hr (pa_cons (pe_op op_fdP (pv 1) pe_int) pa_nil)) pa_nil))))
        pss_nil)
      (pss_cons (ps_if (pt_cmpR op_gt (pv 3) pe_int (nomark _))
        (pss_one (ps_while PassesOwn.never (pt_cmpR op_lt (pe_callB call_len_seq rfl T.z_len PySem.boot_len (pa_cons (pv 2) pa_nil)) (pe_op op_add pe_int (pe_op op_mulB (pe_op op_mod (pv 1) pe_int) pe_int)) (nomark _))
          (pss_one (ps_expr (pe_bm PySem.F.plainAttrs_list PySem.F.slot_list_extend PySem.F.type_list_extend mt_extend (pv 2) (pa_cons (pe_lst (pa_cons pe_str (pa_cons pe_str pa_nil))) pa_nil))))))
        pss_nil)
      (pss_one (ps_ret (pe_bm PySem.F.plainAttrs_str PySem.F.slot_str_join PySem.F.type_str_join mt_join pe_str (pa_cons (pv 2) pa_nil)))))))))))))), ?_⟩
  refine ⟨_, rfl, a, _, rfl, .inl (SqL.of ha), fun D hD => ?_⟩
  refine ⟨_, rfl, _, _, rfl, rfl, (by show (0 : Int) < 7; decide), ?_⟩
  have b0 := Int.emod_nonneg r (show (7 : Int) ≠ 0 by decide)
  have b1 := Int.emod_lt_of_pos r (show (0 : Int) < 7 by decide)
  refine gen_int (P := fun y => 0 ≤ y ∧ y < 7) (r % 7) ⟨b0, b1⟩ fun y ⟨y0, y1⟩ => ?_
  refine ⟨_, rfl, _, _, rfl, rfl, ⟨by decide, bt2 (by decide +kernel)⟩, ?_⟩
  refine gen_int (P := fun _ => True) (r / 7) trivial fun R _ => ?_
  have e1 := c30.cnt
  have e2 := c30.fine.most
  have wd := cordW_wd c30
  have w32 := cordW_32 c30
  have s1 := same_upd hD (.lst (((cordW gs ws).map sx).map V.str))
  have eD : upd H D (.lst (((cordW gs ws).map sx).map V.str)) D = some (.lst (((cordW gs ws).map sx).map V.str)) := upd_same
  generalize upd H D (.lst (((cordW gs ws).map sx).map V.str)) = H1 at *
  have em : ∀ W : List (List Nat), (W.map sx).map V.str = W.map fun w => V.str (sx w) := fun W => by rw [List.map_map]; rfl
  rw [em] at eD
  have fin : ∀ (W : List (List Nat)) (H' : Hp), Same H H' → H' D = some (.lst (W.map fun w => V.str (sx w))) → (∀ w ∈ W, Wd w) → W.length ≤ 60 → Bad83 (jn 32 W) → ∃ a p ts, V.str (Str.ofString " ") = V.str a ∧ [V.ref D] = [V.ref p] ∧ SqL K H' p (ts.map V.str) ∧ JoinOk a ts = true ∧ Q (V.str (Txt.join a ts)) H' := fun W H' s' e' hw hl bad =>
    ⟨_, D, W.map sx, rfl, rfl, SqL.of (by rw [em]; exact e'), join_ok (fun w h => (hw w h).2) (by (first | lia | omega)), by
      rw [show Str.ofString " " = sx [32] from rfl, txt_join]
      exact k _ H' s' bad⟩
  have ix : ∀ {m : Nat} {k : Int}, 0 ≤ k → k < (m : Int) → ixN m k = some k.toNat := fun {m k} h1 h2 => by
    unfold ixN
    rw [if_pos h1, if_pos h2]
  have mulok : ∀ x : Int, IntMulOk x 2 := fun x => CMul.ok (.inr ⟨by decide, by decide⟩)
  refine ⟨_, rfl, rfl, _, rfl, ite2 (fun c => ?_) (fun c0 => ?_)⟩
  · obtain rfl : y = 0 := V.int.inj (of_decide_eq_true c)
    have hg : ((cordW gs ws).map fun w => V.str (sx w))[((cordW gs ws).map fun w => V.str (sx w)).length - 1]? = some (V.str (sx (cordW gs ws)[(cordW gs ws).length - 1])) := by
      rw [List.length_map, List.getElem?_map, List.getElem?_eq_getElem (by (first | lia | omega))]
      rfl
    refine ⟨_, rfl, .inl ⟨rfl, _, SqL.of eD⟩, D, _, _, rfl, rfl, eD, hg, ?_⟩
    rw [← List.map_dropLast]
    refine ⟨_, rfl, rfl, _, rfl, iteND (by decide) ⟨_, rfl, rfl, _, rfl, iteND (by decide) ⟨_, rfl, rfl, _, rfl, iteND (by decide) ⟨_, rfl, rfl, _, rfl, iteND (by decide) (iteF ⟨_, rfl, rfl, _, rfl, iteND (by decide) (iteF ⟨_, rfl, _, _, rfl, rfl, _, rfl, iteND (by decide) ?_⟩)⟩)⟩⟩⟩⟩
    have wd' : ∀ w ∈ (cordW gs ws).dropLast, Wd w := fun w hw => wd w ((List.dropLast_sublist _).subset hw)
    exact ⟨rfl, _, rfl, fin _ _ (same_updF s1 hD _) upd_same wd' (by rw [List.length_dropLast]; (first | lia | omega)) (bad_len wd' (by rw [List.length_dropLast]; (first | lia | omega)) (fun w hw => w32 w ((List.dropLast_sublist _).subset hw)) (.inl (by rw [List.length_dropLast]; (first | lia | omega))))⟩
  refine ⟨_, rfl, rfl, _, rfl, ite2 (fun c => ?_) (fun c1 => ?_)⟩
  · obtain rfl : y = 1 := V.int.inj (of_decide_eq_true c)
    refine ⟨_, rfl, .inl ⟨rfl, _, SqL.of eD⟩, (by show 3 ≤ sizeLine; decide), fun L hL => ?_⟩
    have u2 := same_upd hL (.lst [.str (Str.ofString "(1)"), .str (Str.ofString "1"), .str (Str.ofString "")])
    obtain ⟨l, el, wl, l32⟩ : ∃ l, atI [V.str (Str.ofString "(1)"), V.str (Str.ofString "1"), V.str (Str.ofString "")] (R % 3) = some (V.str (sx l)) ∧ Wd l ∧ 32 ∉ l := by
      have h : R % 3 = 0 ∨ R % 3 = 1 ∨ R % 3 = 2 := by (first | lia | omega)
      rcases h with h | h | h
      · rw [h]; exact ⟨[40, 49, 41], rfl, ⟨by simp, by decide⟩, by simp⟩
      · rw [h]; exact ⟨[49], rfl, ⟨by simp, by decide⟩, by simp⟩
      · rw [h]; exact ⟨[], rfl, ⟨by simp, by decide⟩, by simp⟩
    refine ⟨_, rfl, _, _, rfl, rfl, (by show (0 : Int) < 3; decide), L, _, _, _, rfl, rfl, SqL.of upd_same, el, D, _, _, rfl, rfl, u2 _ _ eD, by rw [List.length_map]; (first | lia | omega), ?_⟩
    refine ⟨_, rfl, rfl, _, rfl, iteND (by decide) ⟨_, rfl, rfl, _, rfl, iteND (by decide) ⟨_, rfl, rfl, _, rfl, iteND (by decide) (iteF ⟨_, rfl, rfl, _, rfl, iteND (by decide) (iteF ⟨_, rfl, _, _, rfl, rfl, _, rfl, iteND (by decide) ?_⟩)⟩)⟩⟩⟩
    have wd' : ∀ w ∈ cordW gs ws ++ [l], Wd w := fun w hw => by
      rcases List.mem_append.mp hw with z | z
      · exact wd w z
      · rw [List.mem_singleton.mp z]; exact wl
    have ll : (cordW gs ws ++ [l]).length = 2 * ws.length + 2 := by rw [List.length_append, e1]; rfl
    exact ⟨rfl, _, rfl, fin (cordW gs ws ++ [l]) _ (same_updF (s1.trans u2) hD _) (by rw [upd_same, List.map_append]; rfl) wd' (by (first | lia | omega)) (bad_len wd' (by (first | lia | omega)) (fun w hw => by
      rcases List.mem_append.mp hw with z | z
      · exact w32 w z
      · rw [List.mem_singleton.mp z]; exact l32) (.inl (by (first | lia | omega))))⟩
  refine ⟨_, rfl, rfl, _, rfl, ite2 (fun c => ?_) (fun c2 => ?_)⟩
  · obtain rfl : y = 2 := V.int.inj (of_decide_eq_true c)
    refine ⟨_, rfl, .inl ⟨rfl, _, SqL.of eD⟩, _, rfl, _, rfl, D, _, rfl, .inl (SqL.of eD), _, _, rfl, rfl, ?_⟩
    rw [List.length_map, e1]
    have i0 := Int.emod_nonneg R (show ((2 * ws.length + 1 : Nat) : Int) + 1 ≠ 0 by (first | lia | omega))
    have i1 := Int.emod_lt_of_pos R (show (0 : Int) < ((2 * ws.length + 1 : Nat) : Int) + 1 by (first | lia | omega))
    refine ⟨_, _, rfl, rfl, (by show (0 : Int) < ((2 * ws.length + 1 : Nat) : Int) + 1; (first | lia | omega)), D, _, _, _, rfl, rfl, eD, i0, by (first | lia | omega), by rw [List.length_map]; (first | lia | omega), by rw [List.length_map]; (first | lia | omega), ?_⟩
    generalize (R % (((2 * ws.length + 1 : Nat) : Int) + 1)).toNat = n
    refine ⟨_, rfl, rfl, _, rfl, iteND (by decide) ⟨_, rfl, rfl, _, rfl, iteND (by decide) (iteF ⟨_, rfl, rfl, _, rfl, iteND (by decide) (iteF ⟨_, rfl, _, _, rfl, rfl, _, rfl, iteND (by decide) ?_⟩)⟩)⟩⟩
    have we : Wd [] := ⟨by simp, by decide⟩
    have mm : ∀ w ∈ (cordW gs ws).take n ++ [] :: (cordW gs ws).drop n, w ∈ cordW gs ws ∨ w = [] := fun w hw => by
      rcases List.mem_append.mp hw with z | z
      · exact .inl (List.mem_of_mem_take z)
      · rcases List.mem_cons.mp z with z | z
        · exact .inr z
        · exact .inl (List.mem_of_mem_drop z)
    have wd' : ∀ w ∈ (cordW gs ws).take n ++ [] :: (cordW gs ws).drop n, Wd w := fun w hw => by
      rcases mm w hw with z | z
      · exact wd w z
      · rw [z]; exact we
    have ll : ((cordW gs ws).take n ++ [] :: (cordW gs ws).drop n).length = 2 * ws.length + 2 := by
      rw [List.length_append, List.length_cons, List.length_take, List.length_drop]
      (first | lia | omega)
    exact ⟨rfl, _, rfl, fin ((cordW gs ws).take n ++ [] :: (cordW gs ws).drop n) _ (same_updF s1 hD _) (by rw [upd_same, List.map_append, List.map_cons, List.map_take, List.map_drop]; rfl) wd' (by (first | lia | omega)) (bad_len wd' (by (first | lia | omega)) (fun w hw => by
      rcases mm w hw with z | z
      · exact w32 w z
      · rw [z]; simp) (.inl (by (first | lia | omega))))⟩
  refine ⟨_, rfl, rfl, _, rfl, ite2 (fun c => ?_) (fun c3 => ?_)⟩
  · obtain rfl : y = 3 := V.int.inj (of_decide_eq_true c)
    refine ⟨_, rfl, _, _, rfl, rfl, ⟨by decide, bt2 (by decide +kernel)⟩, _, rfl, fun l H2 s2 gl => ?_⟩
    have eD2 := s2 _ _ eD
    refine ⟨_, rfl, _, rfl, _, rfl, D, _, rfl, .inl (SqL.of eD2), _, _, rfl, rfl, ?_⟩
    rw [List.length_map, e1]
    have hdiv : (((2 * ws.length + 1 : Nat) : Int) + 1) / 2 = (ws.length : Int) + 1 := by (first | lia | omega)
    have i0 := Int.emod_nonneg R (show (ws.length : Int) + 1 ≠ 0 by (first | lia | omega))
    have i1 := Int.emod_lt_of_pos R (show (0 : Int) < (ws.length : Int) + 1 by (first | lia | omega))
    refine ⟨_, _, rfl, rfl, ⟨by decide, bt2 (by decide +kernel)⟩, _, _, rfl, rfl, (by show (0 : Int) < (((2 * ws.length + 1 : Nat) : Int) + 1) / 2; (first | lia | omega)), _, _, rfl, rfl, mulok _, D, _, _, _, rfl, rfl, eD2, ix (by rw [hdiv]; (first | lia | omega)) (by rw [hdiv, List.length_map]; (first | lia | omega)), ?_⟩
    rw [hdiv]
    refine ⟨_, rfl, rfl, _, rfl, iteND (by decide) (iteF ⟨_, rfl, rfl, _, rfl, iteND (by decide) (iteF ⟨_, rfl, _, _, rfl, rfl, _, rfl, iteND (by decide) ?_⟩)⟩)⟩
    obtain ⟨j, hj⟩ : ∃ j : Nat, R % ((ws.length : Int) + 1) = j := ⟨(R % ((ws.length : Int) + 1)).toNat, by (first | lia | omega)⟩
    have ej : (R % ((ws.length : Int) + 1) * 2).toNat = 2 * j := by (first | lia | omega)
    rw [ej]
    have lj : 2 * j < (cordW gs ws).length := by (first | lia | omega)
    exact ⟨rfl, _, rfl, fin ((cordW gs ws).set (2 * j) l) _ (same_updF (s1.trans s2) hD _) (by rw [upd_same, List.map_set]) (fun w hw => by
      rcases List.mem_or_eq_of_mem_set hw with z | z
      · exact wd w z
      · rw [z]; exact gl.1) (by rw [List.length_set]; (first | lia | omega)) (bad_gap c30 lj gl)⟩
  refine ⟨_, rfl, rfl, _, rfl, ite2 (fun c => ?_) (fun c4 => ?_)⟩
  · obtain rfl : y = 4 := V.int.inj (of_decide_eq_true c)
    refine ⟨_, rfl, _, _, rfl, .inl (SqL.of eD), _, _, rfl, rfl, _, rfl, ite2 (fun c => ?_) (fun c => ?_)⟩
    · have hn : 0 < ws.length := by
        have := of_decide_eq_true c
        rw [List.length_map, e1] at this
        (first | lia | omega)
      refine ⟨_, rfl, _, _, rfl, rfl, ⟨by decide, bt2 (by decide +kernel)⟩, _, rfl, fun l H2 s2 wl => ?_⟩
      have eD2 := s2 _ _ eD
      refine ⟨_, rfl, _, rfl, _, rfl, D, _, rfl, .inl (SqL.of eD2), ?_⟩
      rw [List.length_map, e1]
      have hdiv : ((2 * ws.length + 1 : Nat) : Int) / 2 = (ws.length : Int) := by (first | lia | omega)
      have i0 := Int.emod_nonneg R (show (ws.length : Int) ≠ 0 by (first | lia | omega))
      have i1 := Int.emod_lt_of_pos R (show (0 : Int) < (ws.length : Int) by (first | lia | omega))
      refine ⟨_, _, rfl, rfl, ⟨by decide, bt2 (by decide +kernel)⟩, _, _, rfl, rfl, (by show (0 : Int) < ((2 * ws.length + 1 : Nat) : Int) / 2; (first | lia | omega)), _, _, rfl, rfl, mulok _, _, _, rfl, rfl, D, _, _, _, rfl, rfl, eD2, ix (by rw [hdiv]; (first | lia | omega)) (by rw [hdiv, List.length_map]; (first | lia | omega)), ?_⟩
      rw [hdiv]
      obtain ⟨j, hj⟩ : ∃ j : Nat, R % (ws.length : Int) = j := ⟨(R % (ws.length : Int)).toNat, by (first | lia | omega)⟩
      have ej : (1 + R % (ws.length : Int) * 2).toNat = 2 * j + 1 := by (first | lia | omega)
      rw [ej]
      have lj : 2 * j + 1 < (cordW gs ws).length := by (first | lia | omega)
      have eD3 : upd H2 D (.lst (((cordW gs ws).map fun w => V.str (sx w)).set (2 * j + 1) (.str (sx l)))) D = some (.lst (((cordW gs ws).take (2 * j + 1) ++ l :: (cordW gs ws).drop (2 * j + 2)).map fun w => V.str (sx w))) := by
        rw [upd_same, ← List.map_set, List.set_eq_take_append_cons_drop, if_pos lj]
      have s3 := same_updF (s1.trans s2) hD (.lst (((cordW gs ws).map fun w => V.str (sx w)).set (2 * j + 1) (.str (sx l))))
      generalize upd H2 D (.lst (((cordW gs ws).map fun w => V.str (sx w)).set (2 * j + 1) (.str (sx l)))) = H3 at *
      have mm : ∀ w ∈ (cordW gs ws).take (2 * j + 1) ++ (cordW gs ws).drop (2 * j + 2), w ∈ cordW gs ws := fun w hw => by
        rcases List.mem_append.mp hw with z | z
        · exact List.mem_of_mem_take z
        · exact List.mem_of_mem_drop z
      have ll : ((cordW gs ws).take (2 * j + 1) ++ l :: (cordW gs ws).drop (2 * j + 2)).length = 2 * ws.length + 1 := by
        rw [List.length_append, List.length_cons, List.length_take, List.length_drop]
        (first | lia | omega)
      refine ⟨_, rfl, rfl, _, rfl, iteD rfl ⟨_, rfl, _, _, rfl, .inl (SqL.of eD3), rfl, _, rfl, iteND (by rw [List.length_map, ll]; intro z; have := V.int.inj z; (first | lia | omega)) ⟨_, rfl, _, _, rfl, rfl, _, rfl, iteND (by decide) ?_⟩⟩⟩
      exact ⟨rfl, _, rfl, fin _ _ s3 eD3 (fun w hw => by
        rcases List.mem_append.mp hw with z | z
        · exact wd w (List.mem_of_mem_take z)
        · rcases List.mem_cons.mp z with z | z
          · rw [z]; exact wl.1
          · exact wd w (List.mem_of_mem_drop z)) (by (first | lia | omega)) (bad_wt (by rw [List.length_take]; (first | lia | omega)) (fun w hw => wd w (mm w hw)) (fun w hw => w32 w (mm w hw)) (by rw [List.length_append, List.length_take, List.length_drop]; (first | lia | omega)) wl)⟩
    · have hn : ws.length = 0 := by
        have := of_decide_eq_false (Bool.eq_false_iff.mpr c)
        rw [List.length_map, e1] at this
        (first | lia | omega)
      refine ⟨_, rfl, rfl, _, rfl, iteD rfl ⟨_, rfl, _, _, rfl, .inl (SqL.of eD), rfl, _, rfl, iteD (by rw [List.length_map, e1, hn]; rfl) ?_⟩⟩
      refine ⟨_, rfl, .inl ⟨rfl, _, SqL.of eD⟩, _, rfl, _, _, rfl, rfl, ⟨by decide, bt2 (by decide +kernel)⟩, _, rfl, fun l H2 s2 wl => ⟨D, _, _, rfl, rfl, s2 _ _ eD, by rw [List.length_map]; (first | lia | omega), ?_⟩⟩
      refine ⟨_, rfl, _, _, rfl, rfl, _, rfl, iteND (by decide) ?_⟩
      exact ⟨rfl, _, rfl, fin (cordW gs ws ++ [l]) _ (same_updF (s1.trans s2) hD _) (by rw [upd_same, List.map_append]; rfl) (fun w hw => by
        rcases List.mem_append.mp hw with z | z
        · exact wd w z
        · rw [List.mem_singleton.mp z]; exact wl.1) (by rw [List.length_append]; show _ + 1 ≤ _; (first | lia | omega)) (bad_wt (B := []) (by (first | lia | omega)) (fun w hw => by rw [List.append_nil] at hw; exact wd w hw) (fun w hw => by rw [List.append_nil] at hw; exact w32 w hw) (by rw [List.append_nil]; (first | lia | omega)) wl)⟩
  have y5 : 4 < y := by
    have n0 : y ≠ 0 := fun z => c0 (decide_eq_true (congrArg V.int z))
    have n1 : y ≠ 1 := fun z => c1 (decide_eq_true (congrArg V.int z))
    have n2 : y ≠ 2 := fun z => c2 (decide_eq_true (congrArg V.int z))
    have n3 : y ≠ 3 := fun z => c3 (decide_eq_true (congrArg V.int z))
    have n4 : y ≠ 4 := fun z => c4 (decide_eq_true (congrArg V.int z))
    (first | lia | omega)
  have n4 : ¬ V.int y = V.int 4 := fun z => by have := V.int.inj z; (first | lia | omega)
  refine iteF ⟨_, rfl, rfl, _, rfl, iteND n4 (iteF ⟨_, rfl, _, _, rfl, rfl, _, rfl, iteD y5 ?_⟩)⟩
  have d0 := Int.emod_nonneg R (show (3 : Int) ≠ 0 by decide)
  have d1 := Int.emod_lt_of_pos R (show (0 : Int) < 3 by decide)
  refine ⟨fun m σ H' => ∃ W : List (List Nat), m = 40 - W.length ∧ σ = [some (.ref a), some (.int R), some (.ref D), some (.int y)] ∧ Same H H' ∧ H' D = some (.lst (W.map fun w => V.str (sx w))) ∧ (∀ w ∈ W, Wd w) ∧ (∀ w ∈ W, 32 ∉ w) ∧ W.length ≤ 32, ⟨_, cordW gs ws, rfl, rfl, s1, eD, wd, w32, by (first | lia | omega)⟩, ?_⟩
  rintro m _ H2 ⟨W, rfl, rfl, s2, e2', wd2, w322, lW⟩
  refine ⟨_, rfl, _, _, rfl, .inl (SqL.of e2'), _, rfl, _, _, rfl, rfl, (by show (0 : Int) < 3; decide), _, _, rfl, rfl, mulok _, _, _, rfl, rfl, _, _, rfl, rfl, _, rfl, ite2 (fun c => ?_) (fun c => ?_)⟩
  · have lt : W.length + 2 ≤ 32 := by
      have := of_decide_eq_true c
      rw [List.length_map] at this
      (first | lia | omega)
    refine ⟨fun σ' H' => ∃ W' : List (List Nat), W'.length = W.length + 2 ∧ σ' = [some (.ref a), some (.int R), some (.ref D), some (.int y)] ∧ Same H H' ∧ H' D = some (.lst (W'.map fun w => V.str (sx w))) ∧ (∀ w ∈ W', Wd w) ∧ (∀ w ∈ W', 32 ∉ w), fun σ' H' ⟨W', l', es', s', e', wd', w32'⟩ => ⟨40 - W'.length, by (first | lia | omega), W', rfl, es', s', e', wd', w32', by (first | lia | omega)⟩, ?_⟩
    refine ⟨_, rfl, .inl ⟨rfl, _, SqL.of e2'⟩, (by show 2 ≤ sizeLine; decide), fun L hL => ?_⟩
    have u2 := same_upd hL (.lst [.str (Str.ofString "(1/2)"), .str (Str.ofString "3")])
    refine ⟨D, L, _, _, rfl, rfl, u2 _ _ e2', upd_same, by rw [List.length_map]; show _ + 2 ≤ _; (first | lia | omega), W ++ [[40, 49, 47, 50, 41], [51]], by rw [List.length_append]; rfl, rfl, same_updF (s2.trans u2) hD _, by rw [upd_same, List.map_append]; rfl, fun w hw => ?_, fun w hw => ?_⟩
    · rcases List.mem_append.mp hw with z | z
      · exact wd2 w z
      · have : w = [40, 49, 47, 50, 41] ∨ w = [51] := by simpa using z
        rcases this with z | z
        · rw [z]; exact ⟨by simp, by decide⟩
        · rw [z]; exact ⟨by simp, by decide⟩
    · rcases List.mem_append.mp hw with z | z
      · exact w322 w z
      · have : w = [40, 49, 47, 50, 41] ∨ w = [51] := by simpa using z
        rcases this with z | z
        · rw [z]; simp
        · rw [z]; simp
  · have ge : 25 < W.length := by
      have := of_decide_eq_false (Bool.eq_false_iff.mpr c)
      rw [List.length_map] at this
      (first | lia | omega)
    exact ⟨rfl, _, rfl, fin W H2 s2 e2' wd2 (by (first | lia | omega)) (bad_len wd2 (by (first | lia | omega)) w322 (.inr ge))⟩
theorem sc_law : FnScope ["_law_script", "_law_gaps", "_law_weights", "_law_rest", "_law_text", "_law_thing"] ["_law_script"] (defScope s_law) := ⟨rfl, rfl, rfl, by decide +kernel, rfl, by decide +kernel, by decide +kernel⟩
set_option maxHeartbeats 4000000 in
theorem ok_law {c_NoText : Addr} (F : Fun K "law" "law" s_law f fd) (T : Txt mg) (C_law_cell_at : Cal P w K mg base "_law_cell_at" 1 ["_law_script", "_law_k"] (sp_cell K)) (C_law_mixed : Cal P w K mg base "_law_mixed" 1 ["_law_cell", "_law_k"] sp_mixed) (C_law_cord_by : Cal P w K mg base "_law_cord_by" 3 ["_law_cell", "_law_k", "_law_most"] sp_cby81)
    (C_law_cord_text : Cal P w K mg base "_law_cord_text" 2 ["_law_gaps", "_law_weights"] sp_ctext) (C_law_is_cord : Cal P w K mg base "_law_is_cord" 2 ["_law_told", "_law_gaps", "_law_weights"] (sp_iscord o_Cord)) (C_law_refused : Cal P w K mg base "_law_refused" 7 ["_law_text"] (sp_ref83 K)) (C_law_spoilt : Cal P w K mg base "_law_spoilt" 2 ["_law_words", "_law_rest"] sp_spo83)
    (C_read_cord : CalX P w K mg base "read_cord" 6 ["text"] [] [] (sp_rdcX K o_Cord c_NoText)) : FnOk P w K mg base CX0 8 f fd ["_law_script"] (sp_law K) := by
  refine F.ok sc_law (fun vs H Q E h => ?_) (fun cdv A outer s H vs Q E hr h => ?_)
  · obtain ⟨a, ns, rfl, _⟩ := h
    rfl
  obtain ⟨a, ns, rfl, hS, h63, q⟩ := h
  have hz : (100000 : Nat) < sizeLine := by decide
  refine ok_sealed ?_
  refine ⟨_, (sw_cons (PSw.mk (ps_asg (pe_cl C_law_cord_by hr (pa_cons (pe_cl C_law_cell_at hr (pa_cons (pv 0) (pa_cons pe_int pa_nil))) (pa_cons pe_int (pa_cons pe_int pa_nil)))) (pg_tup rfl (pgs_cons (pg_name (i := 1) sc_law.nd rfl (Or.inl rfl)) (pgs_cons (pg_name (i := 2) sc_law.nd rfl (Or.inl rfl)) pgs_nil)))))
      (sw_cons (w_set (i := 3) sc_law.nd rfl (Or.inl rfl) (w_any (pe_cl C_law_mixed hr (pa_cons (pe_cl C_law_cell_at hr (pa_cons (pv 0) (pa_cons pe_int pa_nil))) (pa_cons pe_int pa_nil)))))
      (sw_cons (w_set (i := 4) sc_law.nd rfl (Or.inl rfl) (w_any (pe_cl C_law_cord_text hr (pa_cons (pv 1) (pa_cons (pv 2) pa_nil)))))
      (sw_cons (w_set (i := 5) sc_law.nd rfl (Or.inl rfl) (w_ix (w_lst (aw_con w_non (aw_con w_int (aw_con w_bl (aw_tup (w_tup (aw_con w_int (aw_con w_int aw_nil))) (aw_lst (w_lst (aw_con w_str aw_nil)) (aw_lst (w_lst aw_nil) (aw_tup (w_tup aw_nil) (aw_con w_int aw_nil))))))))) (w_any (pe_op op_mod (pv 3) pe_int))))
      (sw_cons (PSw.mk (ps_if (PW.pt (pw_or (pt_not (pt_val (pe_cl C_law_is_cord hr (pa_cons (pe_clN C_read_cord hr (pa_cons (pv 4) pa_nil)) (pa_cons (pv 1) (pa_cons (pv 2) pa_nil)))))) (pw_or1 (pt_not (pt_val (pe_cl C_law_refused hr (pa_cons (pv 5) pa_nil)))))))
      (pss_one (ps_ret pe_bl))
      pss_nil))
      (sw_cons (PSw.mk (ps_if (pt_not (pt_val (pe_cl C_law_refused hr (pa_cons (pe_cl C_law_spoilt hr (pa_cons (pe_bm PySem.F.plainAttrs_str PySem.F.slot_str_split PySem.F.type_str_split mt_split (pv 4) (pa_cons pe_str pa_nil)) (pa_cons (pe_op op_fdP (pv 3) pe_int) pa_nil))) pa_nil))))
      (pss_one (ps_ret pe_bl))
      pss_nil))
      (sw_one (w_ret (w_any (pe_cl C_law_is_cord hr (pa_cons (pe_clN C_read_cord hr (pa_cons (pv 4) pa_nil)) (pa_cons (pv 1) (pa_cons (pv 2) pa_nil))))))))))))), ?_⟩
  refine ⟨_, rfl, a, ns, 0, rfl, hS, _, 0, 11, rfl, by decide, by decide, fun t ga wa gs ws H1 s1 et nga nwa ne rg rw' c30 => ⟨t, _, rfl, SqT.of et, rfl, _, _, rfl, _, _, rfl, rfl, ?_⟩⟩
  refine ⟨_, rfl, a, ns, 1, rfl, s1.seq hS, _, 1, rfl, ⟨by decide, by decide⟩, ?_⟩
  generalize mixed (cellA ns 1) 1 = R
  clear hS nga nwa ne s1 et
  refine ⟨_, rfl, _, rfl, ga, wa, gs, ws, rfl, rg, rw', c30, ?_⟩
  have hlen := c30.fine.len
  have hmost := c30.fine.most
  have cnt := c30.cnt
  have pl : Pln (jn 32 (cordW gs ws)) := wd_pln (cordW_wd c30) (by (first | lia | omega))
  have l0 := jn_len (c := 32) c30.len
  refine ⟨(by show 2 ≤ sizeLine; decide), fun t1 h1 => ?_⟩
  have u1 := same_upd h1 (.tup [.int 1, .int 2])
  refine ⟨(by show 1 ≤ sizeLine; decide), fun t2 h2 => ?_⟩
  have u2 := same_upd h2 (.lst [.str (Str.ofString "1")])
  refine ⟨(by show 0 ≤ sizeLine; decide), fun t3 h3 => ?_⟩
  have u3 := same_upd h3 (.lst [])
  refine ⟨(by show 0 ≤ sizeLine; decide), fun t4 h4 => ?_⟩
  have u4 := same_upd h4 (.tup [])
  refine ⟨(by show 8 ≤ sizeLine; decide), fun L hL => ?_⟩
  have u5 := same_upd hL (.lst [.non, .int 3, .bl true, .ref t1, .ref t2, .ref t3, .ref t4, .int 0])
  obtain ⟨v, ev, tv⟩ : ∃ v, atI [V.non, .int 3, .bl true, .ref t1, .ref t2, .ref t3, .ref t4, .int 0] (R % 8) = some v ∧ Thing (upd (upd (upd (upd (upd H1 t1 (.tup [.int 1, .int 2])) t2 (.lst [.str (Str.ofString "1")])) t3 (.lst [])) t4 (.tup [])) L (.lst [.non, .int 3, .bl true, .ref t1, .ref t2, .ref t3, .ref t4, .int 0])) v := by
    have h : R % 8 = 0 ∨ R % 8 = 1 ∨ R % 8 = 2 ∨ R % 8 = 3 ∨ R % 8 = 4 ∨ R % 8 = 5 ∨ R % 8 = 6 ∨ R % 8 = 7 := by (first | lia | omega)
    rcases h with h | h | h | h | h | h | h | h
    · rw [h]; exact ⟨_, rfl, .inl rfl⟩
    · rw [h]; exact ⟨_, rfl, .inr (.inr (.inl ⟨_, rfl⟩))⟩
    · rw [h]; exact ⟨_, rfl, .inr (.inl ⟨_, rfl⟩)⟩
    · rw [h]; exact ⟨_, rfl, .inr (.inr (.inr ⟨_, _, rfl, .inl (u5 _ _ (u4 _ _ (u3 _ _ (u2 _ _ upd_same))))⟩))⟩
    · rw [h]; exact ⟨_, rfl, .inr (.inr (.inr ⟨_, _, rfl, .inr (u5 _ _ (u4 _ _ (u3 _ _ upd_same)))⟩))⟩
    · rw [h]; exact ⟨_, rfl, .inr (.inr (.inr ⟨_, _, rfl, .inr (u5 _ _ (u4 _ _ upd_same))⟩))⟩
    · rw [h]; exact ⟨_, rfl, .inr (.inr (.inr ⟨_, _, rfl, .inl (u5 _ _ upd_same)⟩))⟩
    · rw [h]; exact ⟨_, rfl, .inr (.inr (.inl ⟨_, rfl⟩))⟩
  refine ⟨_, rfl, _, _, rfl, rfl, (by show (0 : Int) < 8; decide), L, _, _, v, rfl, rfl, SqL.of upd_same, ev, ?_⟩
  have s6 := u1.trans (u2.trans (u3.trans (u4.trans u5)))
  have rg6 := rg.keep s6
  have rw6 := rw'.keep s6
  clear rg rw' ev u1 u2 u3 u4 u5 h1 h2 h3 h4 hL s6
  generalize upd (upd (upd (upd (upd H1 t1 (.tup [.int 1, .int 2])) t2 (.lst [.str (Str.ofString "1")])) t3 (.lst [])) t4 (.tup [])) L (.lst [.non, .int 3, .bl true, .ref t1, .ref t2, .ref t3, .ref t4, .int 0]) = H6 at *
  have same : ∀ gs' ws', C30 gs' ws' → jn 32 (cordW gs ws) = jn 32 (cordW gs' ws') → gs' = gs ∧ ws' = ws := fun gs' ws' c' e => cord_inj c' c30 e.symm
  refine ⟨_, rfl, _, rfl, .inr ⟨_, rfl, pl, fun gs' ws' c' e c ga' wa' H7 s7 co => ?_, fun nf => absurd rfl (nf gs ws c30)⟩⟩
  obtain ⟨rfl, rfl⟩ := same gs' ws' c' e
  refine ⟨_, rfl, _, rfl, c, ga', wa', _, _, ga, wa, rfl, co, rg6.keep s7, rw6.keep s7, by (first | lia | omega), by (first | lia | omega), fun H8 s8 => ⟨_, rfl, iteF ?_⟩⟩
  have s78 := s7.trans s8
  refine ⟨_, rfl, v, rfl, .inl (tv.keep s78).no, fun H9 s9 => ⟨_, rfl, iteF ?_⟩⟩
  have rg9 := rg6.keep (s78.trans s9)
  have rw9 := rw6.keep (s78.trans s9)
  have es : Txt.split (sx (jn 32 (cordW gs' ws'))) (Str.ofString " ") = (cordW gs' ws').map sx := by
    rw [show Str.ofString " " = sx [32] from rfl, split_jn (cordW_32 c30) (by unfold cordW; simp)]
  refine ⟨_, rfl, rfl, _, _, rfl, rfl, (by decide), by rw [sx_len]; (first | lia | omega), by rw [es, List.length_map]; (first | lia | omega), fun D hD => ?_⟩
  rw [es]
  have u1 := same_upd hD (.lst (((cordW gs' ws').map sx).map V.str))
  refine ⟨_, rfl, _, _, rfl, rfl, ⟨by decide, bt2 (by decide +kernel)⟩, D, _, gs', ws', rfl, upd_same, c30, fun l H10 s10 bad => ?_⟩
  refine ⟨.str (sx l), rfl, .inr ⟨l, rfl, bad⟩, fun H11 s11 => ⟨_, rfl, iteF ?_⟩⟩
  have s911 := u1.trans (s10.trans s11)
  refine ⟨_, rfl, _, rfl, .inr ⟨_, rfl, pl, fun gs2 ws2 c2 e cc ga2 wa2 H12 s12 co2 => ?_, fun nf => absurd rfl (nf _ _ c30)⟩⟩
  obtain ⟨rfl, rfl⟩ := same gs2 ws2 c2 e
  exact ⟨_, rfl, _, rfl, cc, ga2, wa2, _, _, ga, wa, rfl, co2, rg9.keep (s911.trans s12), rw9.keep (s911.trans s12), by (first | lia | omega), by (first | lia | omega), fun H13 _ => q H13⟩

end
set_option maxHeartbeats 4000000 in
theorem all_mk {l : PySem.W.OpenLaw} {w : World} {K : PySem.W.Frag} {h : Heap} {mg : Str → Option Value} {fa f1 f2 f3 f4 f5 f6 f7 f8 f9 f10 f11 f12 f13 f14 f15 f16 f17 f18 f19 f20 f21 f22 f23 f24 f25 f26 f27 f28 f29 f30 c_NoText c_CordError c_NoCord c_NoFraction o_Cord : Addr} (X : K.In h) (G : h.Ns mainGlobals mg) (hfa : mg "law" = some (.ref fa))
    {od1 an1 od2 an2 od3 an3 od4 an4 od5 an5 od6 an6 od7 an7 od8 an8 od9 an9 od10 an10 od11 an11 od12 an12 od13 an13 od14 an14 od15 an15 od16 an16 od17 an17 od18 an18 od19 an19 od20 an20 od21 an21 od22 an22 od23 an23 od24 an24 od25 an25 od26 an26 od27 an27 od28 an28 od29 an29 od30 an30 : Option Addr} {sl1 sl2 sl3 sl4 sl5 sl6 sl7 sl8 sl9 sl10 sl11 sl12 sl13 sl14 sl15 sl16 sl17 sl18 sl19 sl20 sl21 sl22 sl23 sl24 sl25 sl26 sl27 sl28 sl29 sl30 : Array (Option Value)} {oc1 kV1 dc1 pm1 cd1 ct1 oc2 kV2 dc2 pm2 cd2 ct2 oc3 kV3 dc3 pm3 cd3 ct3 oc4 kV4 dc4 pm4 cd4 ct4 oc5 kV5 dc5 pm5 cd5 ct5 oc6 kV6 dc6 pm6 cd6 ct6 oc7 kV7 dc7 pm7 cd7 ct7 oc8 kV8 dc8 pm8 cd8 ct8 oc9 kV9 dc9 pm9 cd9 ct9 oc10 kV10 dc10 pm10 cd10 ct10 oc11 kV11 dc11 pm11 cd11 ct11 oc12 kV12 dc12 pm12 cd12 ct12 oc13 kV13 dc13 pm13 cd13 ct13 oc14 kV14 dc14 pm14 cd14 ct14 oc15 kV15 dc15 pm15 cd15 ct15 oc16 kV16 dc16 pm16 cd16 ct16 oc17 kV17 dc17 pm17 cd17 ct17 oc18 kV18 dc18 pm18 cd18 ct18 oc19 kV19 dc19 pm19 cd19 ct19 oc20 kV20 dc20 pm20 cd20 ct20 oc21 kV21 dc21 pm21 cd21 ct21 oc22 kV22 dc22 pm22 cd22 ct22 oc23 kV23 dc23 pm23 cd23 ct23 oc24 kV24 dc24 pm24 cd24 ct24 oc25 kV25 dc25 pm25 cd25 ct25 oc26 kV26 dc26 pm26 cd26 ct26 oc27 kV27 dc27 pm27 cd27 ct27 oc28 kV28 dc28 pm28 cd28 ct28 oc29 kV29 dc29 pm29 cd29 ct29 oc30 kV30 dc30 pm30 cd30 ct30 : Value}
    (a1 : PySem.W.nsIn K mainGlobals "divisor" = some (some (.ref f1))) (l1 : K.lookup f1 = some ⟨oc1, od1, .func (PySem.W.fnOf "divisor" "divisor" (defArgs s_divisor) (defBody s_divisor) (defScope s_divisor) .none kV1 dc1 pm1 an1 cd1 ct1), sl1⟩) (c1 : PySem.W.codeIn K cd1 "divisor" = true) (k1 : PySem.W.keepIn K (.ref f1) = true)
    (a2 : PySem.W.nsIn K mainGlobals "is_whole" = some (some (.ref f2))) (l2 : K.lookup f2 = some ⟨oc2, od2, .func (PySem.W.fnOf "is_whole" "is_whole" (defArgs s_is_whole) (defBody s_is_whole) (defScope s_is_whole) .none kV2 dc2 pm2 an2 cd2 ct2), sl2⟩) (c2 : PySem.W.codeIn K cd2 "is_whole" = true) (k2 : PySem.W.keepIn K (.ref f2) = true)
    (a3 : PySem.W.nsIn K mainGlobals "is_fraction" = some (some (.ref f3))) (l3 : K.lookup f3 = some ⟨oc3, od3, .func (PySem.W.fnOf "is_fraction" "is_fraction" (defArgs s_is_fraction) (defBody s_is_fraction) (defScope s_is_fraction) .none kV3 dc3 pm3 an3 cd3 ct3), sl3⟩) (c3 : PySem.W.codeIn K cd3 "is_fraction" = true) (k3 : PySem.W.keepIn K (.ref f3) = true)
    (a4 : PySem.W.nsIn K mainGlobals "side" = some (some (.ref f4))) (l4 : K.lookup f4 = some ⟨oc4, od4, .func (PySem.W.fnOf "side" "side" (defArgs s_side) (defBody s_side) (defScope s_side) .none kV4 dc4 pm4 an4 cd4 ct4), sl4⟩) (c4 : PySem.W.codeIn K cd4 "side" = true) (k4 : PySem.W.keepIn K (.ref f4) = true)
    (a5 : PySem.W.nsIn K mainGlobals "is_row_above" = some (some (.ref f5))) (l5 : K.lookup f5 = some ⟨oc5, od5, .func (PySem.W.fnOf "is_row_above" "is_row_above" (defArgs s_is_row_above) (defBody s_is_row_above) (defScope s_is_row_above) .none kV5 dc5 pm5 an5 cd5 ct5), sl5⟩) (c5 : PySem.W.codeIn K cd5 "is_row_above" = true) (k5 : PySem.W.keepIn K (.ref f5) = true)
    (a6 : PySem.W.findIn K (.ref c_NoCord) "__init__" = some (some (.ref f6))) (i6 : PySem.W.isFn K (.ref f6) = true) (l6 : K.lookup f6 = some ⟨oc6, od6, .func (PySem.W.fnOf "__init__" "NoCord.__init__" (defArgs s_NoCord_init) (defBody s_NoCord_init) (defScope s_NoCord_init) .none kV6 dc6 pm6 an6 cd6 ct6), sl6⟩) (c6 : PySem.W.codeIn K cd6 "NoCord.__init__" = true) (k6 : PySem.W.keepIn K (.ref f6) = true)
    (a7 : PySem.W.findIn K (.ref o_Cord) "__init__" = some (some (.ref f7))) (i7 : PySem.W.isFn K (.ref f7) = true) (l7 : K.lookup f7 = some ⟨oc7, od7, .func (PySem.W.fnOf "__init__" "Cord.__init__" (defArgs s_Cord_init) (defBody s_Cord_init) (defScope s_Cord_init) .none kV7 dc7 pm7 an7 cd7 ct7), sl7⟩) (c7 : PySem.W.codeIn K cd7 "Cord.__init__" = true) (k7 : PySem.W.keepIn K (.ref f7) = true)
    (a8 : PySem.W.findIn K (.ref o_Cord) "gaps" = some (some (.ref f8))) (i8 : PySem.W.isFn K (.ref f8) = true) (l8 : K.lookup f8 = some ⟨oc8, od8, .func (PySem.W.fnOf "gaps" "Cord.gaps" (defArgs s_Cord_gaps) (defBody s_Cord_gaps) (defScope s_Cord_gaps) .none kV8 dc8 pm8 an8 cd8 ct8), sl8⟩) (c8 : PySem.W.codeIn K cd8 "Cord.gaps" = true) (k8 : PySem.W.keepIn K (.ref f8) = true)
    (a9 : PySem.W.findIn K (.ref o_Cord) "weights" = some (some (.ref f9))) (i9 : PySem.W.isFn K (.ref f9) = true) (l9 : K.lookup f9 = some ⟨oc9, od9, .func (PySem.W.fnOf "weights" "Cord.weights" (defArgs s_Cord_weights) (defBody s_Cord_weights) (defScope s_Cord_weights) .none kV9 dc9 pm9 an9 cd9 ct9), sl9⟩) (c9 : PySem.W.codeIn K cd9 "Cord.weights" = true) (k9 : PySem.W.keepIn K (.ref f9) = true)
    (a10 : PySem.W.nsIn K mainGlobals "show_fraction" = some (some (.ref f10))) (l10 : K.lookup f10 = some ⟨oc10, od10, .func (PySem.W.fnOf "show_fraction" "show_fraction" (defArgs s_show_fraction) (defBody s_show_fraction) (defScope s_show_fraction) .none kV10 dc10 pm10 an10 cd10 ct10), sl10⟩) (c10 : PySem.W.codeIn K cd10 "show_fraction" = true) (k10 : PySem.W.keepIn K (.ref f10) = true)
    (a11 : PySem.W.nsIn K mainGlobals "check_text" = some (some (.ref f11))) (l11 : K.lookup f11 = some ⟨oc11, od11, .func (PySem.W.fnOf "check_text" "check_text" (defArgs s_check_text) (defBody s_check_text) (defScope s_check_text) .none kV11 dc11 pm11 an11 cd11 ct11), sl11⟩) (c11 : PySem.W.codeIn K cd11 "check_text" = true) (k11 : PySem.W.keepIn K (.ref f11) = true)
    (a12 : PySem.W.nsIn K mainGlobals "are_figures" = some (some (.ref f12))) (l12 : K.lookup f12 = some ⟨oc12, od12, .func (PySem.W.fnOf "are_figures" "are_figures" (defArgs s_are_figures) (defBody s_are_figures) (defScope s_are_figures) .none kV12 dc12 pm12 an12 cd12 ct12), sl12⟩) (c12 : PySem.W.codeIn K cd12 "are_figures" = true) (k12 : PySem.W.keepIn K (.ref f12) = true)
    (a13 : PySem.W.nsIn K mainGlobals "without_minus" = some (some (.ref f13))) (l13 : K.lookup f13 = some ⟨oc13, od13, .func (PySem.W.fnOf "without_minus" "without_minus" (defArgs s_without_minus) (defBody s_without_minus) (defScope s_without_minus) .none kV13 dc13 pm13 an13 cd13 ct13), sl13⟩) (c13 : PySem.W.codeIn K cd13 "without_minus" = true) (k13 : PySem.W.keepIn K (.ref f13) = true)
    (a14 : PySem.W.nsIn K mainGlobals "within_brackets" = some (some (.ref f14))) (l14 : K.lookup f14 = some ⟨oc14, od14, .func (PySem.W.fnOf "within_brackets" "within_brackets" (defArgs s_within_brackets) (defBody s_within_brackets) (defScope s_within_brackets) .none kV14 dc14 pm14 an14 cd14 ct14), sl14⟩) (c14 : PySem.W.codeIn K cd14 "within_brackets" = true) (k14 : PySem.W.keepIn K (.ref f14) = true)
    (a15 : PySem.W.nsIn K mainGlobals "read_fraction" = some (some (.ref f15))) (l15 : K.lookup f15 = some ⟨oc15, od15, .func (PySem.W.fnOf "read_fraction" "read_fraction" (defArgs s_read_fraction) (defBody s_read_fraction) (defScope s_read_fraction) .none kV15 dc15 pm15 an15 cd15 ct15), sl15⟩) (c15 : PySem.W.codeIn K cd15 "read_fraction" = true) (k15 : PySem.W.keepIn K (.ref f15) = true)
    (a16 : PySem.W.nsIn K mainGlobals "read_cord" = some (some (.ref f16))) (l16 : K.lookup f16 = some ⟨oc16, od16, .func (PySem.W.fnOf "read_cord" "read_cord" (defArgs s_read_cord) (defBody s_read_cord) (defScope s_read_cord) .none kV16 dc16 pm16 an16 cd16 ct16), sl16⟩) (c16 : PySem.W.codeIn K cd16 "read_cord" = true) (k16 : PySem.W.keepIn K (.ref f16) = true)
    (a17 : PySem.W.nsIn K mainGlobals "_law_cell_at" = some (some (.ref f17))) (l17 : K.lookup f17 = some ⟨oc17, od17, .func (PySem.W.fnOf "_law_cell_at" "_law_cell_at" (defArgs s_law_cell_at) (defBody s_law_cell_at) (defScope s_law_cell_at) .none kV17 dc17 pm17 an17 cd17 ct17), sl17⟩) (c17 : PySem.W.codeIn K cd17 "_law_cell_at" = true) (k17 : PySem.W.keepIn K (.ref f17) = true)
    (a18 : PySem.W.nsIn K mainGlobals "_law_mixed" = some (some (.ref f18))) (l18 : K.lookup f18 = some ⟨oc18, od18, .func (PySem.W.fnOf "_law_mixed" "_law_mixed" (defArgs s_law_mixed) (defBody s_law_mixed) (defScope s_law_mixed) .none kV18 dc18 pm18 an18 cd18 ct18), sl18⟩) (c18 : PySem.W.codeIn K cd18 "_law_mixed" = true) (k18 : PySem.W.keepIn K (.ref f18) = true)
    (a19 : PySem.W.nsIn K mainGlobals "_law_part" = some (some (.ref f19))) (l19 : K.lookup f19 = some ⟨oc19, od19, .func (PySem.W.fnOf "_law_part" "_law_part" (defArgs s_law_part) (defBody s_law_part) (defScope s_law_part) .none kV19 dc19 pm19 an19 cd19 ct19), sl19⟩) (c19 : PySem.W.codeIn K cd19 "_law_part" = true) (k19 : PySem.W.keepIn K (.ref f19) = true)
    (a20 : PySem.W.nsIn K mainGlobals "_law_low" = some (some (.ref f20))) (l20 : K.lookup f20 = some ⟨oc20, od20, .func (PySem.W.fnOf "_law_low" "_law_low" (defArgs s_law_low) (defBody s_law_low) (defScope s_law_low) .none kV20 dc20 pm20 an20 cd20 ct20), sl20⟩) (c20 : PySem.W.codeIn K cd20 "_law_low" = true) (k20 : PySem.W.keepIn K (.ref f20) = true)
    (a21 : PySem.W.nsIn K mainGlobals "_law_cord_by" = some (some (.ref f21))) (l21 : K.lookup f21 = some ⟨oc21, od21, .func (PySem.W.fnOf "_law_cord_by" "_law_cord_by" (defArgs s_law_cord_by) (defBody s_law_cord_by) (defScope s_law_cord_by) .none kV21 dc21 pm21 an21 cd21 ct21), sl21⟩) (c21 : PySem.W.codeIn K cd21 "_law_cord_by" = true) (k21 : PySem.W.keepIn K (.ref f21) = true)
    (a22 : PySem.W.nsIn K mainGlobals "_law_same" = some (some (.ref f22))) (l22 : K.lookup f22 = some ⟨oc22, od22, .func (PySem.W.fnOf "_law_same" "_law_same" (defArgs s_law_same) (defBody s_law_same) (defScope s_law_same) .none kV22 dc22 pm22 an22 cd22 ct22), sl22⟩) (c22 : PySem.W.codeIn K cd22 "_law_same" = true) (k22 : PySem.W.keepIn K (.ref f22) = true)
    (a23 : PySem.W.nsIn K mainGlobals "_law_is_cord" = some (some (.ref f23))) (l23 : K.lookup f23 = some ⟨oc23, od23, .func (PySem.W.fnOf "_law_is_cord" "_law_is_cord" (defArgs s_law_is_cord) (defBody s_law_is_cord) (defScope s_law_is_cord) .none kV23 dc23 pm23 an23 cd23 ct23), sl23⟩) (c23 : PySem.W.codeIn K cd23 "_law_is_cord" = true) (k23 : PySem.W.keepIn K (.ref f23) = true)
    (a24 : PySem.W.nsIn K mainGlobals "_law_word" = some (some (.ref f24))) (l24 : K.lookup f24 = some ⟨oc24, od24, .func (PySem.W.fnOf "_law_word" "_law_word" (defArgs s_law_word) (defBody s_law_word) (defScope s_law_word) .none kV24 dc24 pm24 an24 cd24 ct24), sl24⟩) (c24 : PySem.W.codeIn K cd24 "_law_word" = true) (k24 : PySem.W.keepIn K (.ref f24) = true)
    (a25 : PySem.W.nsIn K mainGlobals "_law_cord_text" = some (some (.ref f25))) (l25 : K.lookup f25 = some ⟨oc25, od25, .func (PySem.W.fnOf "_law_cord_text" "_law_cord_text" (defArgs s_law_cord_text) (defBody s_law_cord_text) (defScope s_law_cord_text) .none kV25 dc25 pm25 an25 cd25 ct25), sl25⟩) (c25 : PySem.W.codeIn K cd25 "_law_cord_text" = true) (k25 : PySem.W.keepIn K (.ref f25) = true)
    (a26 : PySem.W.nsIn K mainGlobals "_law_gap_by" = some (some (.ref f26))) (l26 : K.lookup f26 = some ⟨oc26, od26, .func (PySem.W.fnOf "_law_gap_by" "_law_gap_by" (defArgs s_law_gap_by) (defBody s_law_gap_by) (defScope s_law_gap_by) .none kV26 dc26 pm26 an26 cd26 ct26), sl26⟩) (c26 : PySem.W.codeIn K cd26 "_law_gap_by" = true) (k26 : PySem.W.keepIn K (.ref f26) = true)
    (a27 : PySem.W.nsIn K mainGlobals "_law_weight_by" = some (some (.ref f27))) (l27 : K.lookup f27 = some ⟨oc27, od27, .func (PySem.W.fnOf "_law_weight_by" "_law_weight_by" (defArgs s_law_weight_by) (defBody s_law_weight_by) (defScope s_law_weight_by) .none kV27 dc27 pm27 an27 cd27 ct27), sl27⟩) (c27 : PySem.W.codeIn K cd27 "_law_weight_by" = true) (k27 : PySem.W.keepIn K (.ref f27) = true)
    (a28 : PySem.W.nsIn K mainGlobals "_law_spoilt" = some (some (.ref f28))) (l28 : K.lookup f28 = some ⟨oc28, od28, .func (PySem.W.fnOf "_law_spoilt" "_law_spoilt" (defArgs s_law_spoilt) (defBody s_law_spoilt) (defScope s_law_spoilt) .none kV28 dc28 pm28 an28 cd28 ct28), sl28⟩) (c28 : PySem.W.codeIn K cd28 "_law_spoilt" = true) (k28 : PySem.W.keepIn K (.ref f28) = true)
    (a29 : PySem.W.nsIn K mainGlobals "_law_refused" = some (some (.ref f29))) (l29 : K.lookup f29 = some ⟨oc29, od29, .func (PySem.W.fnOf "_law_refused" "_law_refused" (defArgs s_law_refused) (defBody s_law_refused) (defScope s_law_refused) .none kV29 dc29 pm29 an29 cd29 ct29), sl29⟩) (c29 : PySem.W.codeIn K cd29 "_law_refused" = true) (k29 : PySem.W.keepIn K (.ref f29) = true)
    (a30 : PySem.W.nsIn K mainGlobals "law" = some (some (.ref f30))) (l30 : K.lookup f30 = some ⟨oc30, od30, .func (PySem.W.fnOf "law" "law" (defArgs s_law) (defBody s_law) (defScope s_law) .none kV30 dc30 pm30 an30 cd30 ct30), sl30⟩) (c30 : PySem.W.codeIn K cd30 "law" = true) (k30 : PySem.W.keepIn K (.ref f30) = true)
    (n_NoText : PySem.W.nsIn K mainGlobals "NoText" = some (some (.ref c_NoText)))
    (n_CordError : PySem.W.nsIn K mainGlobals "CordError" = some (some (.ref c_CordError)))
    (n_NoCord : PySem.W.nsIn K mainGlobals "NoCord" = some (some (.ref c_NoCord)))
    (n_NoFraction : PySem.W.nsIn K mainGlobals "NoFraction" = some (some (.ref c_NoFraction)))
    (o_NoText : PySem.W.excIn K c_NoText veMro "ValueError.__new__" = true) (i_NoText : PySem.W.isIn K (.ref c_NoText) c_NoText = true) (x_NoText : PySem.W.kitOne K (.ref c_NoText) (.ref c_CordError) = some true) (y_NoText : (Value.ref c_NoText == .ref c_CordError) = false)
    (eis_NoText : PySem.W.isClsIn K c_NoText = true)
    (ega_NoText : PySem.W.findIn K (.ref c_NoText) "__getattribute__" = some (some (.builtin "BaseException.__getattribute__")))
    (eno_NoText : PySem.W.findIn K (.ref c_NoText) "__getattr__" = some none)
    (ecl_NoText : PySem.W.findIn K (.ref c_NoText) "__class__" = some (some (.builtin "object.__class__")))
    (emb_NoText : PySem.W.mroIn K c_NoText (.type "BaseException") = some true)
    (emo_NoText : PySem.W.mroIn K c_NoText (.type "object") = some true)
    (x_NoCord : PySem.W.kitOne K (.ref c_NoCord) (.ref c_CordError) = some true) (y_NoCord : (Value.ref c_NoCord == .ref c_CordError) = false) (ei_NoCord : excInI K c_NoCord f6 = true) (ek_NoCord : PySem.W.keepIn K (.ref c_NoCord) = true)
    (xs_NoCord : PySem.W.exmOne K (.ref c_NoCord) (.ref c_NoCord) = some true)
    (eis_NoCord : PySem.W.isClsIn K c_NoCord = true)
    (ega_NoCord : PySem.W.findIn K (.ref c_NoCord) "__getattribute__" = some (some (.builtin "BaseException.__getattribute__")))
    (eno_NoCord : PySem.W.findIn K (.ref c_NoCord) "__getattr__" = some none)
    (ecl_NoCord : PySem.W.findIn K (.ref c_NoCord) "__class__" = some (some (.builtin "object.__class__")))
    (emb_NoCord : PySem.W.mroIn K c_NoCord (.type "BaseException") = some true)
    (emo_NoCord : PySem.W.mroIn K c_NoCord (.type "object") = some true)
    (fo_NoCord : ((PySem.W.clsIn K c_NoCord).any fun cd => overVE cd.mro) = true) (fh_NoCord : PySem.W.hasDictIn K c_NoCord = true) (fs_NoCord : PySem.W.findIn K (.ref c_NoCord) "__setattr__" = some (some (.builtin "object.__setattr__"))) (fn_NoCord : PySem.W.findIn K (.ref c_NoCord) "place" = some none)
    (om_Cord : PySem.W.nsIn K mainGlobals "Cord" = some (some (.ref o_Cord))) (pg_Cord : PySem.W.plainGet K o_Cord Str.empty = true) (hd_Cord : PySem.W.hasDictIn K o_Cord = true) (po_Cord : PySem.W.plainOver K o_Cord = true) (sa_Cord : PySem.W.findIn K (.ref o_Cord) "__setattr__" = some (some (.builtin "object.__setattr__"))) (mk_Cord : PySem.W.makesIn K o_Cord = true) (kc_Cord : PySem.W.keepIn K (.ref o_Cord) = true)
    (d1_Cord : PySem.W.findIn K (.ref o_Cord) "__class__" = some (some (.builtin "object.__class__"))) (d2_Cord : PySem.W.specialIn K (.builtin "object.__class__") "__get__" = some (some (.builtin "getset_descriptor.__get__"))) (d3_Cord : PySem.W.takesIn K (.builtin "object.__class__") = some true) (d4_Cord : PySem.W.mroIn K o_Cord (.type "object") = some true) (ks_Cord : PySem.W.kitOne K (.ref o_Cord) (.ref o_Cord) = some true)
    (nf_Cord_kept_gaps : PySem.W.findIn K (.ref o_Cord) "kept_gaps" = some none)
    (nf_Cord_kept_weights : PySem.W.findIn K (.ref o_Cord) "kept_weights" = some none)
    (k_NoText_NoText : PySem.W.kitOne K (.ref c_NoText) (.ref c_NoText) = some true)
    (k_NoText_NoCord : PySem.W.kitOne K (.ref c_NoText) (.ref c_NoCord) = some false)
    (k_NoText_NoFraction : PySem.W.kitOne K (.ref c_NoText) (.ref c_NoFraction) = some false)
    (b_CordError : PySem.W.subIn K (.ref c_CordError) (.type "BaseException") = some true)
    (z_abs : PySem.W.nsIn K mainGlobals "abs" = some none) (z_len : PySem.W.nsIn K mainGlobals "len" = some none) (z_isinstance : PySem.W.nsIn K mainGlobals "isinstance" = some none) (z_int : PySem.W.nsIn K mainGlobals "int" = some none) (z_bool : PySem.W.nsIn K mainGlobals "bool" = some none) (z_tuple : PySem.W.nsIn K mainGlobals "tuple" = some none) (z_range : PySem.W.nsIn K mainGlobals "range" = some none) (z_list : PySem.W.nsIn K mainGlobals "list" = some none) (z_zip : PySem.W.nsIn K mainGlobals "zip" = some none) (z_all : PySem.W.nsIn K mainGlobals "all" = some none) (z_str : PySem.W.nsIn K mainGlobals "str" = some none) {qt_MOST_BEADS : Tok} (q_MOST_BEADS : PySem.W.nsIn K mainGlobals "MOST_BEADS" = some (some (.int 12 qt_MOST_BEADS))) {qt_FIGURES : Tok} (q_FIGURES : PySem.W.nsIn K mainGlobals "FIGURES" = some (some (.str "0123456789" qt_FIGURES))) {qt_MOST_FIGURES : Tok} (q_MOST_FIGURES : PySem.W.nsIn K mainGlobals "MOST_FIGURES" = some (some (.int 30 qt_MOST_FIGURES))) :
    ∃ fd : FuncData, (∀ (s : Shared) (v : Value), BindsTo s fd ⟨[v], []⟩ [("_law_script", v)]) ∧ ∀ base : Heap, K.In base → base.Ns mainGlobals mg → FnOk l.prog w K mg base CX0 8 fa fd ["_law_script"] (sp_law K) := by
  have e := hfa.symm.trans (PySem.W.mg_of X G a30)
  cases e
  have T : Txt mg := ⟨PySem.W.mg_none_of X G z_abs, PySem.W.mg_none_of X G z_len, PySem.W.mg_none_of X G z_isinstance, PySem.W.mg_none_of X G z_int, PySem.W.mg_none_of X G z_bool, PySem.W.mg_none_of X G z_tuple, PySem.W.mg_none_of X G z_range, PySem.W.mg_none_of X G z_list, PySem.W.mg_none_of X G z_zip, PySem.W.mg_none_of X G z_all, PySem.W.mg_none_of X G z_str, ⟨_, PySem.W.mg_of X G q_MOST_BEADS⟩, ⟨_, PySem.W.mg_of X G q_FIGURES⟩, ⟨_, PySem.W.mg_of X G q_MOST_FIGURES⟩⟩
  have R : Errs K mg c_NoText c_CordError c_NoCord c_NoFraction := ⟨PySem.W.mg_of X G n_NoText, PySem.W.mg_of X G n_CordError, PySem.W.mg_of X G n_NoCord, PySem.W.mg_of X G n_NoFraction, o_NoText, i_NoText, exm_of b_CordError x_NoText y_NoText, ⟨eis_NoText, ega_NoText, eno_NoText, ecl_NoText, emb_NoText, emo_NoText⟩, exm_of b_CordError x_NoCord y_NoCord, ⟨eis_NoCord, ega_NoCord, eno_NoCord, ecl_NoCord, emb_NoCord, emo_NoCord⟩, ⟨fo_NoCord, fh_NoCord, fs_NoCord, ega_NoCord, eno_NoCord, eis_NoCord⟩, fn_NoCord, xs_NoCord, k_NoText_NoText, k_NoText_NoCord, k_NoText_NoFraction⟩
  have O : OwnCord K mg o_Cord := ⟨PySem.W.mg_of X G om_Cord, ⟨pg_Cord, hd_Cord, po_Cord, sa_Cord⟩, d1_Cord, d2_Cord, d3_Cord, d4_Cord, ks_Cord, nf_Cord_kept_gaps, nf_Cord_kept_weights⟩
  have F1 := fun_mk (st := s_divisor) l1 c1 k1
  have b1 := F1.binds (ps := ["one", "other"]) fun _ _ _ _ _ _ us hl => by
    obtain ⟨u0, u1, rfl⟩ := la2 hl
    rfl
  have F2 := fun_mk (st := s_is_whole) l2 c2 k2
  have b2 := F2.binds (ps := ["thing"]) fun _ _ _ _ _ _ us hl => by
    obtain ⟨u0, rfl⟩ := la1 hl
    rfl
  have F3 := fun_mk (st := s_is_fraction) l3 c3 k3
  have b3 := F3.binds (ps := ["thing"]) fun _ _ _ _ _ _ us hl => by
    obtain ⟨u0, rfl⟩ := la1 hl
    rfl
  have F4 := fun_mk (st := s_side) l4 c4 k4
  have b4 := F4.binds (ps := ["one"]) fun _ _ _ _ _ _ us hl => by
    obtain ⟨u0, rfl⟩ := la1 hl
    rfl
  have F5 := fun_mk (st := s_is_row_above) l5 c5 k5
  have b5 := F5.binds (ps := ["thing"]) fun _ _ _ _ _ _ us hl => by
    obtain ⟨u0, rfl⟩ := la1 hl
    rfl
  have F6 := fun_mk (st := s_NoCord_init) l6 c6 k6
  have b6 := F6.binds (ps := ["self", "place"]) fun _ _ _ _ _ _ us hl => by
    obtain ⟨u0, u1, rfl⟩ := la2 hl
    rfl
  have F7 := fun_mk (st := s_Cord_init) l7 c7 k7
  have b7 := F7.binds (ps := ["self", "gaps", "weights"]) fun _ _ _ _ _ _ us hl => by
    obtain ⟨u0, u1, u2, rfl⟩ := la3 hl
    rfl
  have F8 := fun_mk (st := s_Cord_gaps) l8 c8 k8
  have b8 := F8.binds (ps := ["self"]) fun _ _ _ _ _ _ us hl => by
    obtain ⟨u0, rfl⟩ := la1 hl
    rfl
  have F9 := fun_mk (st := s_Cord_weights) l9 c9 k9
  have b9 := F9.binds (ps := ["self"]) fun _ _ _ _ _ _ us hl => by
    obtain ⟨u0, rfl⟩ := la1 hl
    rfl
  have F10 := fun_mk (st := s_show_fraction) l10 c10 k10
  have b10 := F10.binds (ps := ["one"]) fun _ _ _ _ _ _ us hl => by
    obtain ⟨u0, rfl⟩ := la1 hl
    rfl
  have F11 := fun_mk (st := s_check_text) l11 c11 k11
  have b11 := F11.binds (ps := ["thing"]) fun _ _ _ _ _ _ us hl => by
    obtain ⟨u0, rfl⟩ := la1 hl
    rfl
  have F12 := fun_mk (st := s_are_figures) l12 c12 k12
  have b12 := F12.binds (ps := ["text"]) fun _ _ _ _ _ _ us hl => by
    obtain ⟨u0, rfl⟩ := la1 hl
    rfl
  have F13 := fun_mk (st := s_without_minus) l13 c13 k13
  have b13 := F13.binds (ps := ["text"]) fun _ _ _ _ _ _ us hl => by
    obtain ⟨u0, rfl⟩ := la1 hl
    rfl
  have F14 := fun_mk (st := s_within_brackets) l14 c14 k14
  have b14 := F14.binds (ps := ["word"]) fun _ _ _ _ _ _ us hl => by
    obtain ⟨u0, rfl⟩ := la1 hl
    rfl
  have F15 := fun_mk (st := s_read_fraction) l15 c15 k15
  have b15 := F15.binds (ps := ["text"]) fun _ _ _ _ _ _ us hl => by
    obtain ⟨u0, rfl⟩ := la1 hl
    rfl
  have F16 := fun_mk (st := s_read_cord) l16 c16 k16
  have b16 := F16.binds (ps := ["text"]) fun _ _ _ _ _ _ us hl => by
    obtain ⟨u0, rfl⟩ := la1 hl
    rfl
  have F17 := fun_mk (st := s_law_cell_at) l17 c17 k17
  have b17 := F17.binds (ps := ["_law_script", "_law_k"]) fun _ _ _ _ _ _ us hl => by
    obtain ⟨u0, u1, rfl⟩ := la2 hl
    rfl
  have F18 := fun_mk (st := s_law_mixed) l18 c18 k18
  have b18 := F18.binds (ps := ["_law_cell", "_law_k"]) fun _ _ _ _ _ _ us hl => by
    obtain ⟨u0, u1, rfl⟩ := la2 hl
    rfl
  have F19 := fun_mk (st := s_law_part) l19 c19 k19
  have b19 := F19.binds (ps := ["_law_one", "_law_other"]) fun _ _ _ _ _ _ us hl => by
    obtain ⟨u0, u1, rfl⟩ := la2 hl
    rfl
  have F20 := fun_mk (st := s_law_low) l20 c20 k20
  have b20 := F20.binds (ps := ["_law_top", "_law_bottom"]) fun _ _ _ _ _ _ us hl => by
    obtain ⟨u0, u1, rfl⟩ := la2 hl
    rfl
  have F21 := fun_mk (st := s_law_cord_by) l21 c21 k21
  have b21 := F21.binds (ps := ["_law_cell", "_law_k", "_law_most"]) fun _ _ _ _ _ _ us hl => by
    obtain ⟨u0, u1, u2, rfl⟩ := la3 hl
    rfl
  have F22 := fun_mk (st := s_law_same) l22 c22 k22
  have b22 := F22.binds (ps := ["_law_told", "_law_due"]) fun _ _ _ _ _ _ us hl => by
    obtain ⟨u0, u1, rfl⟩ := la2 hl
    rfl
  have F23 := fun_mk (st := s_law_is_cord) l23 c23 k23
  have b23 := F23.binds (ps := ["_law_told", "_law_gaps", "_law_weights"]) fun _ _ _ _ _ _ us hl => by
    obtain ⟨u0, u1, u2, rfl⟩ := la3 hl
    rfl
  have F24 := fun_mk (st := s_law_word) l24 c24 k24
  have b24 := F24.binds (ps := ["_law_one"]) fun _ _ _ _ _ _ us hl => by
    obtain ⟨u0, rfl⟩ := la1 hl
    rfl
  have F25 := fun_mk (st := s_law_cord_text) l25 c25 k25
  have b25 := F25.binds (ps := ["_law_gaps", "_law_weights"]) fun _ _ _ _ _ _ us hl => by
    obtain ⟨u0, u1, rfl⟩ := la2 hl
    rfl
  have F26 := fun_mk (st := s_law_gap_by) l26 c26 k26
  have b26 := F26.binds (ps := ["_law_rest"]) fun _ _ _ _ _ _ us hl => by
    obtain ⟨u0, rfl⟩ := la1 hl
    rfl
  have F27 := fun_mk (st := s_law_weight_by) l27 c27 k27
  have b27 := F27.binds (ps := ["_law_rest"]) fun _ _ _ _ _ _ us hl => by
    obtain ⟨u0, rfl⟩ := la1 hl
    rfl
  have F28 := fun_mk (st := s_law_spoilt) l28 c28 k28
  have b28 := F28.binds (ps := ["_law_words", "_law_rest"]) fun _ _ _ _ _ _ us hl => by
    obtain ⟨u0, u1, rfl⟩ := la2 hl
    rfl
  have F29 := fun_mk (st := s_law_refused) l29 c29 k29
  have b29 := F29.binds (ps := ["_law_text"]) fun _ _ _ _ _ _ us hl => by
    obtain ⟨u0, rfl⟩ := la1 hl
    rfl
  have F30 := fun_mk (st := s_law) l30 c30 k30
  refine ⟨PySem.W.fnOf "law" "law" (defArgs s_law) (defBody s_law) (defScope s_law) .none kV30 dc30 pm30 an30 cd30 ct30, fun s v => .of_eq rfl, fun base _ _ => ?_⟩
  have C_divisor : Cal l.prog w K mg base "divisor" 1 ["one", "other"] (sp_div) := ⟨_, _, ok_divisor F1 T, b1, k1, PySem.W.mg_of X G a1⟩
  have C_is_whole : Cal l.prog w K mg base "is_whole" 1 ["thing"] (sp_whole) := ⟨_, _, ok_is_whole F2 T, b2, k2, PySem.W.mg_of X G a2⟩
  have C_is_fraction : Cal l.prog w K mg base "is_fraction" 2 ["thing"] (sp_frP) := ⟨_, _, ok_is_fraction F3 T C_is_whole C_divisor, b3, k3, PySem.W.mg_of X G a3⟩
  have C_side : Cal l.prog w K mg base "side" 1 ["one"] (sp_side) := ⟨_, _, ok_side F4 T, b4, k4, PySem.W.mg_of X G a4⟩
  have C_is_row_above : Cal l.prog w K mg base "is_row_above" 3 ["thing"] (sp_rowA) := ⟨_, _, ok_is_row_above F5 T C_is_fraction C_side, b5, k5, PySem.W.mg_of X G a5⟩
  have C_NoCord_init : CalI l.prog w K mg base "NoCord" c_NoCord 1 ["self", "place"] (sp_noinit c_NoCord) := ⟨_, _, ⟨ei_NoCord, i6⟩, ek_NoCord, ok_NoCord_init F6 T R, b6, PySem.W.mg_of X G n_NoCord⟩
  have C_Cord_init : CalCN l.prog w K mg base "Cord" o_Cord 4 ["self", "gaps", "weights"] (sp_initT o_Cord c_NoCord) := ⟨_, _, ok_Cord_initT F7.ex T R O C_is_row_above C_NoCord_init, b7, ⟨mk_Cord, a7, i7, kc_Cord⟩, O.m⟩
  have C_Cord_gaps : CalM l.prog w K mg base o_Cord "gaps" 1 ["self"] (sp_gaps o_Cord) := ⟨_, _, ok_Cord_gaps F8 T O, b8, ⟨a8, i8, k8⟩, O.cl⟩
  have C_Cord_weights : CalM l.prog w K mg base o_Cord "weights" 1 ["self"] (sp_weights o_Cord) := ⟨_, _, ok_Cord_weights F9 T O, b9, ⟨a9, i9, k9⟩, O.cl⟩
  have C_show_fraction : Cal l.prog w K mg base "show_fraction" 1 ["one"] (sp_showf) := ⟨_, _, ok_show_fraction F10 T, b10, k10, PySem.W.mg_of X G a10⟩
  have O_check_text := ok_check_text (P := l.prog) (w := w) (base := base) F11.ex T R
  have C_check_text : CalX l.prog w K mg base "check_text" 1 ["thing"] [] [] (sp_chkX K c_NoText) := ⟨⟨_, _, O_check_text, b11, k11, PySem.W.mg_of X G a11⟩, .nil⟩
  have C_are_figures : Cal l.prog w K mg base "are_figures" 1 ["text"] (sp_figsT) := ⟨_, _, ok_are_figures F12 T, b12, k12, PySem.W.mg_of X G a12⟩
  have C_without_minus : Cal l.prog w K mg base "without_minus" 1 ["text"] (sp_wmin) := ⟨_, _, ok_without_minus F13 T, b13, k13, PySem.W.mg_of X G a13⟩
  have O_within_brackets := ok_within_brackets (P := l.prog) (w := w) (base := base) F14.ex T R
  have C_within_brackets : CalX l.prog w K mg base "within_brackets" 1 ["word"] [] [] (sp_brkX c_NoText) := ⟨⟨_, _, O_within_brackets, b14, k14, PySem.W.mg_of X G a14⟩, .nil⟩
  have O_read_fraction := ok_read_fraction (P := l.prog) (w := w) (base := base) F15.ex T R C_check_text C_are_figures C_without_minus C_is_fraction C_show_fraction
  have C_read_fraction : CalX l.prog w K mg base "read_fraction" 3 ["text"] [] [] (sp_rdfX K c_NoText) := ⟨⟨_, _, O_read_fraction, b15, k15, PySem.W.mg_of X G a15⟩, .nil⟩
  have O_read_cord := ok_read_cord (P := l.prog) (w := w) (base := base) F16.ex T R C_check_text C_read_fraction C_within_brackets C_Cord_init
  have C_read_cord : CalX l.prog w K mg base "read_cord" 6 ["text"] [] [] (sp_rdcX K o_Cord c_NoText) := ⟨⟨_, _, O_read_cord, b16, k16, PySem.W.mg_of X G a16⟩, .nil⟩
  have C_law_cell_at : Cal l.prog w K mg base "_law_cell_at" 1 ["_law_script", "_law_k"] (sp_cell K) := ⟨_, _, ok_law_cell_at F17 T, b17, k17, PySem.W.mg_of X G a17⟩
  have C_law_mixed : Cal l.prog w K mg base "_law_mixed" 1 ["_law_cell", "_law_k"] (sp_mixed) := ⟨_, _, ok_law_mixed F18 T, b18, k18, PySem.W.mg_of X G a18⟩
  have C_law_part : Cal l.prog w K mg base "_law_part" 1 ["_law_one", "_law_other"] (sp_div) := ⟨_, _, ok_law_part F19 T, b19, k19, PySem.W.mg_of X G a19⟩
  have C_law_low : Cal l.prog w K mg base "_law_low" 2 ["_law_top", "_law_bottom"] (sp_low) := ⟨_, _, ok_law_low F20 T C_law_part, b20, k20, PySem.W.mg_of X G a20⟩
  have C_law_cord_by : Cal l.prog w K mg base "_law_cord_by" 3 ["_law_cell", "_law_k", "_law_most"] (sp_cby81) := ⟨_, _, ok_law_cord_by F21 T C_law_mixed (C_law_low.imp lowQ), b21, k21, PySem.W.mg_of X G a21⟩
  have C_law_same : Cal l.prog w K mg base "_law_same" 1 ["_law_told", "_law_due"] (sp_sameQ) := ⟨_, _, ok_law_same F22 T, b22, k22, PySem.W.mg_of X G a22⟩
  have C_law_is_cord : Cal l.prog w K mg base "_law_is_cord" 2 ["_law_told", "_law_gaps", "_law_weights"] (sp_iscord o_Cord) := ⟨_, _, ok_law_is_cord F23 T O C_Cord_gaps C_Cord_weights C_law_same, b23, k23, PySem.W.mg_of X G a23⟩
  have C_law_word : Cal l.prog w K mg base "_law_word" 1 ["_law_one"] (sp_showf) := ⟨_, _, ok_law_word F24 T, b24, k24, PySem.W.mg_of X G a24⟩
  have C_law_cord_text : Cal l.prog w K mg base "_law_cord_text" 2 ["_law_gaps", "_law_weights"] (sp_ctext) := ⟨_, _, ok_law_cord_text F25 T C_law_word, b25, k25, PySem.W.mg_of X G a25⟩
  have C_law_gap_by : Cal l.prog w K mg base "_law_gap_by" 1 ["_law_rest"] (sp_gapby) := ⟨_, _, ok_law_gap_by F26 T, b26, k26, PySem.W.mg_of X G a26⟩
  have C_law_weight_by : Cal l.prog w K mg base "_law_weight_by" 1 ["_law_rest"] (sp_wtby) := ⟨_, _, ok_law_weight_by F27 T, b27, k27, PySem.W.mg_of X G a27⟩
  have C_law_spoilt : Cal l.prog w K mg base "_law_spoilt" 2 ["_law_words", "_law_rest"] (sp_spo83) := ⟨_, _, ok_law_spoilt F28 T C_law_gap_by C_law_weight_by, b28, k28, PySem.W.mg_of X G a28⟩
  have C_law_refused : Cal l.prog w K mg base "_law_refused" 7 ["_law_text"] (sp_ref83 K) := ⟨_, _, ok_law_refused F29 T R C_read_cord, b29, k29, PySem.W.mg_of X G a29⟩
  exact ok_law F30 T C_law_cell_at C_law_mixed C_law_cord_by C_law_cord_text C_law_is_cord C_law_refused C_law_spoilt C_read_cord
theorem walk {l : PySem.W.OpenLaw} {q : Program} {loose : List Str} {XP : (Str → Option Value) → Heap → Prop} {YP : World → Heap → Prop} {d : DefRec} {K : Params → PySem.W.Frag} (hn : l.most = some 63) (hdf : d.params.defaults = [])
    (hY : ∀ (w : World) (h : Heap), YP w h → (K w.params).In h)
    (F : ∀ (w : World) (mg : Str → Option Value) (fa : Addr) (h : Heap), (K w.params).In h → h.Ns mainGlobals mg → mg d.name = some (.ref fa) →
      ∃ fd : FuncData, (∀ (s : Shared) (u : Value), BindsTo s fd ⟨[u], []⟩ [("_law_script", u)]) ∧ ∀ base : Heap, (K w.params).In base → base.Ns mainGlobals mg → FnOk l.prog w (K w.params) mg base CX0 8 fa fd ["_law_script"] (sp_law (K w.params))) :
    PySem.W.WalkO q loose XP YP l.row.toRowW d [] (fun f vs => PySem.call f vs) :=
  L2.walk_of (n := 63) (k := 8) (x := "_law_script") (CX := fun _ => CX0) (sp := fun w => sp_law (K w.params)) hn (by decide) hdf ⟨rfl, by decide, by decide⟩ hY F (fun _ _ a ns hl _ hS => ⟨a, ns, rfl, hS, hl, fun _ => rfl⟩) fun _ _ _ _ _ z => z
end My
namespace My
open PySem PySem.W L2
noncomputable abbrev tp : Program := PySem.Challenge.pw_tautcord_k83_no_cords
noncomputable abbrev ke (P : Params) (x : Str) (n : Nat) (v : Value) : DictEntry := { hash := PyData.keyHash P x, key := .str x n, val := v }
noncomputable abbrev fo (x y : Str) (s : Stmt) (g : Addr) (m c : Value) : Obj := { cls := .type "function", data := .func { name := x, qualname := y, params := defArgs s, body := .stmts (defBody s), scope := defScope s, globals := g, closure := [], defaults := .none, kwdefaults := .none, pyModule := m, code := c } }
noncomputable abbrev tE : Obj := { cls := .type "tuple", data := .seq #[] }
noncomputable abbrev fE : Obj := { cls := .none, data := .fields #[] }
noncomputable def tL : Nat → List Str → List Value
  | _, [] => []
  | n, x :: xs => .str x n :: tL (n + 1) xs
noncomputable abbrev tS (n : Nat) (xs : List Str) : Obj := { cls := .type "tuple", data := .seq (Array.mk (tL n xs)) }
noncomputable abbrev pF (x y : Str) (s : Stmt) : Obj := { cls := .none, dict := none, data := .func { name := x, qualname := y, params := defArgs s, body := .stmts (defBody s), scope := defScope s, globals := 0, closure := [], defaults := .none, kwdefaults := .none, doc := .none, pyModule := .none, annotations := none, code := .none, closureTuple := .none, builtins := 0 }, slots := #[] }
noncomputable abbrev cO (x y : Str) (k l a b r m z : Nat) : Obj := { cls := .type "code", data := .fields #[.str x k, .str y (k + 1), .str "/claim/cut.py" (k + 2), .int l 0, .int a 0, .int 0 0, .int 0 0, .int b 0, .ref r, .bool Bool.true, .int 181 0, .ref (r + 1), .none, .ref (r + 2), .ref (r + 3), .ref (r + 4), .int m 0, .int l 0, .str "/claim/cut.py" z] }
noncomputable abbrev lf (o : Obj) : BT := .node o .nil .nil
noncomputable def q : Program := view tp [0, 2, 3, 4, 5, 7, 8, 10, 11, 13, 14, 15, 17, 18, 19, 20, 21, 22, 23, 24, 25, 27, 28, 29, 30, 31, 32, 33, 34, 35, 36, 37, 38, 39, 40]
noncomputable def bE : List Stmt := behindTheImports tp
noncomputable def eE : Env := { scope := tp.main.scope, locals := mainNs, globals := mainNs, cells := [], code := .ref 13, frame := some 14 }
noncomputable abbrev cE : Code := .body bE eE
noncomputable def u11_a (P : Params) : Obj := tE
noncomputable def u12_a (P : Params) : Obj := fE
noncomputable def u13_a (P : Params) : Obj := { cls := .type "code", data := .fields #[.str "<module>" 182, .str "<module>" 183, .str "/claim/cut.py" 184, .int 1 0, .int 0 0, .int 0 0, .int 0 0, .int 0 0, .ref 11, .bool Bool.false, .int 181 0, .ref 12, .none, .none, .none, .none, .int 185 0, .int 1 0, .str "/claim/cut.py" 186] }
noncomputable def u14_a (P : Params) : Obj := { cls := .type "frame", slots := #[some (.ref 13), some (.ref 3), some (.ref 3), none, some (.str "__main__" 164), none, some (.ref 0)] }
noncomputable def u3_1 (P : Params) : Obj := { cls := .type "dict", data := .dict #[ke P "__name__" 165 (.str "tautcord.ratios" 291), ke P "__doc__" 166 .none, ke P "__package__" 167 .none, ke P "__loader__" 168 (.builtin "__main__.__loader__#opaque"), ke P "__spec__" 169 .none, ke P "__annotations__" 170 (.ref 6), ke P "__builtins__" 171 (.ref 4), ke P "__file__" 173 (.str "/claim/cut.py" 172), ke P "__cached__" 174 .none, ke P "_wall" 193 (.ref 21), ke P "CordError" 213 (.ref 31), ke P "NoFraction" 229 (.ref 44), ke P "NoCord" 254 (.ref 63), ke P "NoText" 270 (.ref 75), ke P "is_whole" 279 (.ref 84), ke P "divisor" 290 (.ref 91)] 16 }
noncomputable def u12_1 (P : Params) : Obj := { cls := .none, data := .fields #[.int 1 0, .int 0 0, .ref 20, .int 5 0, .int 0 0, .ref 27, .int 7 0, .int 0 0, .ref 40, .int 9 0, .int 0 0, .ref 52, .int 13 0, .int 0 0, .ref 71, .int 16 0, .int 0 0, .ref 83, .int 18 0, .int 0 0, .ref 90] }
noncomputable def u15_1 (P : Params) : Obj := tE
noncomputable def u16_1 (P : Params) : Obj := fE
noncomputable def u17_1 (P : Params) : Obj := tS 190 ["k"]
noncomputable def u18_1 (P : Params) : Obj := tE
noncomputable def u19_1 (P : Params) : Obj := pF "_wall" "_wall" (top 0)
noncomputable def u20_1 (P : Params) : Obj := cO "_wall" "_wall" 187 1 1 3 15 191 192
noncomputable def u21_1 (P : Params) : Obj := fo "_wall" "_wall" (top 0) 3 (.str "__main__" 164) (.ref 20)
noncomputable def u22_1 (P : Params) : Obj := { cls := .type "tuple", data := .seq #[.type "ValueError"] }
noncomputable def u23_1 (P : Params) : Obj := { cls := .type "builtin_function_or_method", data := .fields #[.builtin "type.__prepare__", .type "type"] }
noncomputable def u24_1 (P : Params) : Obj := { cls := .type "dict", data := .dict #[ke P "__module__" 203 (.str "tautcord.errors" 194), ke P "__qualname__" 205 (.str "CordError" 204), ke P "__firstlineno__" 207 (.int 5 206), ke P "__static_attributes__" 208 (.ref 29)] 4 }
noncomputable def u25_1 (P : Params) : Obj := tE
noncomputable def u26_1 (P : Params) : Obj := fE
noncomputable def u27_1 (P : Params) : Obj := { cls := .type "code", data := .fields #[.str "CordError" 198, .str "CordError" 199, .str "/claim/cut.py" 200, .int 5 0, .int 0 0, .int 0 0, .int 0 0, .int 0 0, .ref 25, .bool Bool.false, .int 181 0, .ref 26, .none, .none, .none, .none, .int 201 0, .int 5 0, .str "/claim/cut.py" 202] }
noncomputable def u28_1 (P : Params) : Obj := { cls := .type "frame", slots := #[some (.ref 27), some (.ref 3), some (.ref 24), none, some (.str "tautcord.errors" 194), none, some (.ref 0)] }
noncomputable def u29_1 (P : Params) : Obj := tE
noncomputable def u30_1 (P : Params) : Obj := { cls := .type "dict", data := .dict #[ke P "__module__" 203 (.str "tautcord.errors" 194), ke P "__firstlineno__" 207 (.int 5 206), ke P "__static_attributes__" 208 (.ref 29), ke P "__weakref__" 210 (.ref 32), ke P "__doc__" 211 .none] 3 }
noncomputable def u31_1 (P : Params) : Obj := { cls := .type "type", data := .cls { name := "CordError", bases := [.type "ValueError"], mro := [.ref 31, .type "ValueError", .type "Exception", .type "BaseException", .type "object"], ns := 30, qualname := "CordError", subclasses := [.ref 44, .ref 63, .ref 75] }, slots := #[some (.ref 22), none, some (.str "CordError" 196), some (.str "CordError" 204), some (.builtin "ValueError.__new__"), some (.bool Bool.true)] }
noncomputable def u32_1 (P : Params) : Obj := { cls := .type "getset_descriptor", data := .fields #[.str "__weakref__" 209, .ref 31, .builtin "ExceptionGroup.__weakref__", .none] }
noncomputable def u33_1 (P : Params) : Obj := { cls := .type "super", data := .fields #[.ref 31, .ref 31, .ref 31] }
noncomputable def u34_1 (P : Params) : Obj := { cls := .type "builtin_function_or_method", data := .fields #[.builtin "object.__init_subclass__", .ref 31] }
noncomputable def u35_1 (P : Params) : Obj := { cls := .type "tuple", data := .seq #[.ref 31] }
noncomputable def u36_1 (P : Params) : Obj := { cls := .type "builtin_function_or_method", data := .fields #[.builtin "type.__prepare__", .type "type"] }
noncomputable def u37_1 (P : Params) : Obj := { cls := .type "dict", data := .dict #[ke P "__module__" 221 (.str "tautcord.errors" 194), ke P "__qualname__" 223 (.str "NoFraction" 222), ke P "__firstlineno__" 225 (.int 7 224), ke P "__static_attributes__" 226 (.ref 42)] 4 }
noncomputable def u38_1 (P : Params) : Obj := tE
noncomputable def u39_1 (P : Params) : Obj := fE
noncomputable def u40_1 (P : Params) : Obj := { cls := .type "code", data := .fields #[.str "NoFraction" 216, .str "NoFraction" 217, .str "/claim/cut.py" 218, .int 7 0, .int 0 0, .int 0 0, .int 0 0, .int 0 0, .ref 38, .bool Bool.false, .int 181 0, .ref 39, .none, .none, .none, .none, .int 219 0, .int 7 0, .str "/claim/cut.py" 220] }
noncomputable def u41_1 (P : Params) : Obj := { cls := .type "frame", slots := #[some (.ref 40), some (.ref 3), some (.ref 37), none, some (.str "tautcord.errors" 194), none, some (.ref 0)] }
noncomputable def u42_1 (P : Params) : Obj := tE
noncomputable def u43_1 (P : Params) : Obj := { cls := .type "dict", data := .dict #[ke P "__module__" 221 (.str "tautcord.errors" 194), ke P "__firstlineno__" 225 (.int 7 224), ke P "__static_attributes__" 226 (.ref 42), ke P "__doc__" 227 .none] 2 }
noncomputable def u44_1 (P : Params) : Obj := { cls := .type "type", data := .cls { name := "NoFraction", bases := [.ref 31], mro := [.ref 44, .ref 31, .type "ValueError", .type "Exception", .type "BaseException", .type "object"], ns := 43, qualname := "NoFraction" }, slots := #[some (.ref 35), none, some (.str "NoFraction" 214), some (.str "NoFraction" 222), some (.builtin "ValueError.__new__"), some (.bool Bool.true)] }
noncomputable def u45_1 (P : Params) : Obj := { cls := .type "super", data := .fields #[.ref 44, .ref 44, .ref 44] }
noncomputable def u46_1 (P : Params) : Obj := { cls := .type "builtin_function_or_method", data := .fields #[.builtin "object.__init_subclass__", .ref 44] }
noncomputable def u47_1 (P : Params) : Obj := { cls := .type "tuple", data := .seq #[.ref 31] }
noncomputable def u48_1 (P : Params) : Obj := { cls := .type "builtin_function_or_method", data := .fields #[.builtin "type.__prepare__", .type "type"] }
noncomputable def u49_1 (P : Params) : Obj := { cls := .type "dict", data := .dict #[ke P "__module__" 237 (.str "tautcord.errors" 194), ke P "__qualname__" 239 (.str "NoCord" 238), ke P "__firstlineno__" 241 (.int 9 240), ke P "__init__" 249 (.ref 60), ke P "__static_attributes__" 251 (.ref 61)] 5 }
noncomputable def u50_1 (P : Params) : Obj := tE
noncomputable def u51_1 (P : Params) : Obj := { cls := .none, data := .fields #[.int 11 0, .int 4 0, .ref 59] }
noncomputable def u52_1 (P : Params) : Obj := { cls := .type "code", data := .fields #[.str "NoCord" 232, .str "NoCord" 233, .str "/claim/cut.py" 234, .int 9 0, .int 0 0, .int 0 0, .int 0 0, .int 0 0, .ref 50, .bool Bool.false, .int 181 0, .ref 51, .none, .none, .none, .none, .int 235 0, .int 9 0, .str "/claim/cut.py" 236] }
noncomputable def u53_1 (P : Params) : Obj := { cls := .type "frame", slots := #[some (.ref 52), some (.ref 3), some (.ref 49), none, some (.str "tautcord.errors" 194), none, some (.ref 0)] }
noncomputable def u54_1 (P : Params) : Obj := tE
noncomputable def u55_1 (P : Params) : Obj := fE
noncomputable def u56_1 (P : Params) : Obj := tS 245 ["self", "place"]
noncomputable def u57_1 (P : Params) : Obj := tE
noncomputable def u58_1 (P : Params) : Obj := pF "__init__" "NoCord.__init__" (inClass (top 4) 0)
noncomputable def u59_1 (P : Params) : Obj := cO "__init__" "NoCord.__init__" 242 11 2 3 54 247 248
noncomputable def u60_1 (P : Params) : Obj := fo "__init__" "NoCord.__init__" (inClass (top 4) 0) 3 (.str "tautcord.errors" 194) (.ref 59)
noncomputable def u61_1 (P : Params) : Obj := tS 250 ["place"]
noncomputable def u62_1 (P : Params) : Obj := { cls := .type "dict", data := .dict #[ke P "__module__" 237 (.str "tautcord.errors" 194), ke P "__firstlineno__" 241 (.int 9 240), ke P "__init__" 249 (.ref 60), ke P "__static_attributes__" 251 (.ref 61), ke P "__doc__" 252 .none] 2 }
noncomputable def u63_1 (P : Params) : Obj := { cls := .type "type", data := .cls { name := "NoCord", bases := [.ref 31], mro := [.ref 63, .ref 31, .type "ValueError", .type "Exception", .type "BaseException", .type "object"], ns := 62, qualname := "NoCord" }, slots := #[some (.ref 47), none, some (.str "NoCord" 230), some (.str "NoCord" 238), some (.builtin "ValueError.__new__"), some (.bool Bool.true)] }
noncomputable def u64_1 (P : Params) : Obj := { cls := .type "super", data := .fields #[.ref 63, .ref 63, .ref 63] }
noncomputable def u65_1 (P : Params) : Obj := { cls := .type "builtin_function_or_method", data := .fields #[.builtin "object.__init_subclass__", .ref 63] }
noncomputable def u66_1 (P : Params) : Obj := { cls := .type "tuple", data := .seq #[.ref 31] }
noncomputable def u67_1 (P : Params) : Obj := { cls := .type "builtin_function_or_method", data := .fields #[.builtin "type.__prepare__", .type "type"] }
noncomputable def u68_1 (P : Params) : Obj := { cls := .type "dict", data := .dict #[ke P "__module__" 262 (.str "tautcord.errors" 194), ke P "__qualname__" 264 (.str "NoText" 263), ke P "__firstlineno__" 266 (.int 13 265), ke P "__static_attributes__" 267 (.ref 73)] 4 }
noncomputable def u69_1 (P : Params) : Obj := tE
noncomputable def u70_1 (P : Params) : Obj := fE
noncomputable def u71_1 (P : Params) : Obj := { cls := .type "code", data := .fields #[.str "NoText" 257, .str "NoText" 258, .str "/claim/cut.py" 259, .int 13 0, .int 0 0, .int 0 0, .int 0 0, .int 0 0, .ref 69, .bool Bool.false, .int 181 0, .ref 70, .none, .none, .none, .none, .int 260 0, .int 13 0, .str "/claim/cut.py" 261] }
noncomputable def u72_1 (P : Params) : Obj := { cls := .type "frame", slots := #[some (.ref 71), some (.ref 3), some (.ref 68), none, some (.str "tautcord.errors" 194), none, some (.ref 0)] }
noncomputable def u73_1 (P : Params) : Obj := tE
noncomputable def u74_1 (P : Params) : Obj := { cls := .type "dict", data := .dict #[ke P "__module__" 262 (.str "tautcord.errors" 194), ke P "__firstlineno__" 266 (.int 13 265), ke P "__static_attributes__" 267 (.ref 73), ke P "__doc__" 268 .none] 2 }
noncomputable def u75_1 (P : Params) : Obj := { cls := .type "type", data := .cls { name := "NoText", bases := [.ref 31], mro := [.ref 75, .ref 31, .type "ValueError", .type "Exception", .type "BaseException", .type "object"], ns := 74, qualname := "NoText" }, slots := #[some (.ref 66), none, some (.str "NoText" 255), some (.str "NoText" 263), some (.builtin "ValueError.__new__"), some (.bool Bool.true)] }
noncomputable def u76_1 (P : Params) : Obj := { cls := .type "super", data := .fields #[.ref 75, .ref 75, .ref 75] }
noncomputable def u77_1 (P : Params) : Obj := { cls := .type "builtin_function_or_method", data := .fields #[.builtin "object.__init_subclass__", .ref 75] }
noncomputable def u78_1 (P : Params) : Obj := tE
noncomputable def u79_1 (P : Params) : Obj := fE
noncomputable def u80_1 (P : Params) : Obj := tS 276 ["thing"]
noncomputable def u81_1 (P : Params) : Obj := tE
noncomputable def u82_1 (P : Params) : Obj := pF "is_whole" "is_whole" (top 7)
noncomputable def u83_1 (P : Params) : Obj := cO "is_whole" "is_whole" 273 16 1 3 78 277 278
noncomputable def u84_1 (P : Params) : Obj := fo "is_whole" "is_whole" (top 7) 3 (.str "tautcord.wholes" 271) (.ref 83)
noncomputable def u85_1 (P : Params) : Obj := tE
noncomputable def u86_1 (P : Params) : Obj := fE
noncomputable def u87_1 (P : Params) : Obj := tS 283 ["one", "other", "first", "second", "rest"]
noncomputable def u88_1 (P : Params) : Obj := tE
noncomputable def u89_1 (P : Params) : Obj := pF "divisor" "divisor" (top 8)
noncomputable def u90_1 (P : Params) : Obj := cO "divisor" "divisor" 280 18 2 3 85 288 289
noncomputable def u91_1 (P : Params) : Obj := fo "divisor" "divisor" (top 8) 3 (.str "tautcord.wholes" 271) (.ref 90)
noncomputable def u3_2 (P : Params) : Obj := { cls := .type "dict", data := .dict #[ke P "__name__" 165 (.str "law_tautcord_k83_no_cords" 442), ke P "__doc__" 166 .none, ke P "__package__" 167 .none, ke P "__loader__" 168 (.builtin "__main__.__loader__#opaque"), ke P "__spec__" 169 .none, ke P "__annotations__" 170 (.ref 6), ke P "__builtins__" 171 (.ref 4), ke P "__file__" 173 (.str "/claim/cut.py" 172), ke P "__cached__" 174 .none, ke P "_wall" 193 (.ref 21), ke P "CordError" 213 (.ref 31), ke P "NoFraction" 229 (.ref 44), ke P "NoCord" 254 (.ref 63), ke P "NoText" 270 (.ref 75), ke P "is_whole" 279 (.ref 84), ke P "divisor" 290 (.ref 91), ke P "is_fraction" 299 (.ref 98), ke P "side" 306 (.ref 105), ke P "MOST_BEADS" 310 (.int 12 309), ke P "is_row_above" 316 (.ref 110), ke P "Cord" 382 (.ref 162), ke P "FIGURES" 386 (.str "0123456789" 385), ke P "MOST_FIGURES" 388 (.int 30 387), ke P "show_fraction" 397 (.ref 173), ke P "read_fraction" 408 (.ref 180), ke P "read_cord" 414 (.ref 185), ke P "check_text" 421 (.ref 192), ke P "are_figures" 427 (.ref 197), ke P "without_minus" 434 (.ref 204), ke P "within_brackets" 441 (.ref 211), ke P "_law_cell_at" 451 (.ref 218), ke P "_law_mixed" 459 (.ref 225), ke P "_law_part" 467 (.ref 232), ke P "_law_low" 476 (.ref 239), ke P "_law_cord_by" 490 (.ref 246), ke P "_law_same" 500 (.ref 253), ke P "_law_is_cord" 509 (.ref 260), ke P "_law_word" 516 (.ref 267)] 38 }
noncomputable def u12_2 (P : Params) : Obj := { cls := .none, data := .fields #[.int 1 0, .int 0 0, .ref 20, .int 5 0, .int 0 0, .ref 27, .int 7 0, .int 0 0, .ref 40, .int 9 0, .int 0 0, .ref 52, .int 13 0, .int 0 0, .ref 71, .int 16 0, .int 0 0, .ref 83, .int 18 0, .int 0 0, .ref 90, .int 27 0, .int 0 0, .ref 97, .int 33 0, .int 0 0, .ref 104, .int 41 0, .int 0 0, .ref 109, .int 45 0, .int 0 0, .ref 116, .int 72 0, .int 0 0, .ref 172, .int 78 0, .int 0 0, .ref 179, .int 89 0, .int 0 0, .ref 184, .int 98 0, .int 0 0, .ref 191, .int 101 0, .int 0 0, .ref 196, .int 105 0, .int 0 0, .ref 203, .int 109 0, .int 0 0, .ref 210, .int 114 0, .int 0 0, .ref 217, .int 118 0, .int 0 0, .ref 224, .int 122 0, .int 0 0, .ref 231, .int 128 0, .int 0 0, .ref 238, .int 131 0, .int 0 0, .ref 245, .int 149 0, .int 0 0, .ref 252, .int 159 0, .int 0 0, .ref 259, .int 161 0, .int 0 0, .ref 266] }
noncomputable def u92_2 (P : Params) : Obj := tE
noncomputable def u93_2 (P : Params) : Obj := fE
noncomputable def u94_2 (P : Params) : Obj := tS 296 ["thing"]
noncomputable def u95_2 (P : Params) : Obj := tE
noncomputable def u96_2 (P : Params) : Obj := pF "is_fraction" "is_fraction" (top 10)
noncomputable def u97_2 (P : Params) : Obj := cO "is_fraction" "is_fraction" 293 27 1 3 92 297 298
noncomputable def u98_2 (P : Params) : Obj := fo "is_fraction" "is_fraction" (top 10) 3 (.str "tautcord.ratios" 291) (.ref 97)
noncomputable def u99_2 (P : Params) : Obj := tE
noncomputable def u100_2 (P : Params) : Obj := fE
noncomputable def u101_2 (P : Params) : Obj := tS 303 ["one"]
noncomputable def u102_2 (P : Params) : Obj := tE
noncomputable def u103_2 (P : Params) : Obj := pF "side" "side" (top 11)
noncomputable def u104_2 (P : Params) : Obj := cO "side" "side" 300 33 1 3 99 304 305
noncomputable def u105_2 (P : Params) : Obj := fo "side" "side" (top 11) 3 (.str "tautcord.ratios" 291) (.ref 104)
noncomputable def u106_2 (P : Params) : Obj := tE
noncomputable def u107_2 (P : Params) : Obj := fE
noncomputable def u108_2 (P : Params) : Obj := pF "is_row_above" "is_row_above" (top 14)
noncomputable def u109_2 (P : Params) : Obj := { cls := .type "code", data := .fields #[.str "is_row_above" 311, .str "is_row_above" 312, .str "/claim/cut.py" 313, .int 41 0, .int 1 0, .int 0 0, .int 0 0, .int 3 0, .ref 106, .bool Bool.true, .int 181 0, .ref 107, .none, .none, .none, .ref 108, .int 314 0, .int 41 0, .str "/claim/cut.py" 315] }
noncomputable def u110_2 (P : Params) : Obj := fo "is_row_above" "is_row_above" (top 14) 3 (.str "tautcord.cords" 307) (.ref 109)
noncomputable def u111_2 (P : Params) : Obj := tE
noncomputable def u112_2 (P : Params) : Obj := { cls := .type "builtin_function_or_method", data := .fields #[.builtin "type.__prepare__", .type "type"] }
noncomputable def u113_2 (P : Params) : Obj := { cls := .type "dict", data := .dict #[ke P "__module__" 324 (.str "tautcord.cords" 307), ke P "__qualname__" 326 (.str "Cord" 325), ke P "__firstlineno__" 328 (.int 45 327), ke P "__init__" 337 (.ref 124), ke P "gaps" 344 (.ref 131), ke P "weights" 351 (.ref 138), ke P "beads" 358 (.ref 145), ke P "length" 365 (.ref 152), ke P "turned" 372 (.ref 159), ke P "__static_attributes__" 375 (.ref 160)] 10 }
noncomputable def u114_2 (P : Params) : Obj := tE
noncomputable def u115_2 (P : Params) : Obj := { cls := .none, data := .fields #[.int 47 0, .int 4 0, .ref 123, .int 55 0, .int 4 0, .ref 130, .int 58 0, .int 4 0, .ref 137, .int 61 0, .int 4 0, .ref 144, .int 64 0, .int 4 0, .ref 151, .int 67 0, .int 4 0, .ref 158] }
noncomputable def u116_2 (P : Params) : Obj := { cls := .type "code", data := .fields #[.str "Cord" 319, .str "Cord" 320, .str "/claim/cut.py" 321, .int 45 0, .int 0 0, .int 0 0, .int 0 0, .int 0 0, .ref 114, .bool Bool.false, .int 181 0, .ref 115, .none, .none, .none, .none, .int 322 0, .int 45 0, .str "/claim/cut.py" 323] }
noncomputable def u117_2 (P : Params) : Obj := { cls := .type "frame", slots := #[some (.ref 116), some (.ref 3), some (.ref 113), none, some (.str "tautcord.cords" 307), none, some (.ref 0)] }
noncomputable def u118_2 (P : Params) : Obj := tE
noncomputable def u119_2 (P : Params) : Obj := fE
noncomputable def u120_2 (P : Params) : Obj := tS 332 ["self", "gaps", "weights"]
noncomputable def u121_2 (P : Params) : Obj := tE
noncomputable def u122_2 (P : Params) : Obj := pF "__init__" "Cord.__init__" (inClass (top 15) 0)
noncomputable def u123_2 (P : Params) : Obj := cO "__init__" "Cord.__init__" 329 47 3 3 118 335 336
noncomputable def u124_2 (P : Params) : Obj := fo "__init__" "Cord.__init__" (inClass (top 15) 0) 3 (.str "tautcord.cords" 307) (.ref 123)
noncomputable def u125_2 (P : Params) : Obj := tE
noncomputable def u126_2 (P : Params) : Obj := fE
noncomputable def u127_2 (P : Params) : Obj := tS 341 ["self"]
noncomputable def u128_2 (P : Params) : Obj := tE
noncomputable def u129_2 (P : Params) : Obj := pF "gaps" "Cord.gaps" (inClass (top 15) 1)
noncomputable def u130_2 (P : Params) : Obj := cO "gaps" "Cord.gaps" 338 55 1 3 125 342 343
noncomputable def u131_2 (P : Params) : Obj := fo "gaps" "Cord.gaps" (inClass (top 15) 1) 3 (.str "tautcord.cords" 307) (.ref 130)
noncomputable def u132_2 (P : Params) : Obj := tE
noncomputable def u133_2 (P : Params) : Obj := fE
noncomputable def u134_2 (P : Params) : Obj := tS 348 ["self"]
noncomputable def u135_2 (P : Params) : Obj := tE
noncomputable def u136_2 (P : Params) : Obj := pF "weights" "Cord.weights" (inClass (top 15) 2)
noncomputable def u137_2 (P : Params) : Obj := cO "weights" "Cord.weights" 345 58 1 3 132 349 350
noncomputable def u138_2 (P : Params) : Obj := fo "weights" "Cord.weights" (inClass (top 15) 2) 3 (.str "tautcord.cords" 307) (.ref 137)
noncomputable def u139_2 (P : Params) : Obj := tE
noncomputable def u140_2 (P : Params) : Obj := fE
noncomputable def u141_2 (P : Params) : Obj := tS 355 ["self"]
noncomputable def u142_2 (P : Params) : Obj := tE
noncomputable def u143_2 (P : Params) : Obj := pF "beads" "Cord.beads" (inClass (top 15) 3)
noncomputable def u144_2 (P : Params) : Obj := cO "beads" "Cord.beads" 352 61 1 3 139 356 357
noncomputable def u145_2 (P : Params) : Obj := fo "beads" "Cord.beads" (inClass (top 15) 3) 3 (.str "tautcord.cords" 307) (.ref 144)
noncomputable def u146_2 (P : Params) : Obj := tE
noncomputable def u147_2 (P : Params) : Obj := fE
noncomputable def u148_2 (P : Params) : Obj := tS 362 ["self"]
noncomputable def u149_2 (P : Params) : Obj := tE
noncomputable def u150_2 (P : Params) : Obj := pF "length" "Cord.length" (inClass (top 15) 4)
noncomputable def u151_2 (P : Params) : Obj := cO "length" "Cord.length" 359 64 1 3 146 363 364
noncomputable def u152_2 (P : Params) : Obj := fo "length" "Cord.length" (inClass (top 15) 4) 3 (.str "tautcord.cords" 307) (.ref 151)
noncomputable def u153_2 (P : Params) : Obj := tE
noncomputable def u154_2 (P : Params) : Obj := fE
noncomputable def u155_2 (P : Params) : Obj := tS 369 ["self"]
noncomputable def u156_2 (P : Params) : Obj := tE
noncomputable def u157_2 (P : Params) : Obj := pF "turned" "Cord.turned" (inClass (top 15) 5)
noncomputable def u158_2 (P : Params) : Obj := cO "turned" "Cord.turned" 366 67 1 3 153 370 371
noncomputable def u159_2 (P : Params) : Obj := fo "turned" "Cord.turned" (inClass (top 15) 5) 3 (.str "tautcord.cords" 307) (.ref 158)
noncomputable def u160_2 (P : Params) : Obj := tS 373 ["kept_gaps", "kept_weights"]
noncomputable def u161_2 (P : Params) : Obj := { cls := .type "dict", data := .dict #[ke P "__module__" 324 (.str "tautcord.cords" 307), ke P "__firstlineno__" 328 (.int 45 327), ke P "__init__" 337 (.ref 124), ke P "gaps" 344 (.ref 131), ke P "weights" 351 (.ref 138), ke P "beads" 358 (.ref 145), ke P "length" 365 (.ref 152), ke P "turned" 372 (.ref 159), ke P "__static_attributes__" 375 (.ref 160), ke P "__dict__" 377 (.ref 163), ke P "__weakref__" 379 (.ref 164), ke P "__doc__" 380 .none] 4 }
noncomputable def u162_2 (P : Params) : Obj := { cls := .type "type", data := .cls { name := "Cord", bases := [.type "object"], mro := [.ref 162, .type "object"], ns := 161, qualname := "Cord" }, slots := #[none, none, some (.str "Cord" 317), some (.str "Cord" 325), some (.builtin "object.__new__"), some (.bool Bool.true)] }
noncomputable def u163_2 (P : Params) : Obj := { cls := .type "getset_descriptor", data := .fields #[.str "__dict__" 376, .ref 162, .builtin "function.__dict__", .builtin "function.__dict__#set"] }
noncomputable def u164_2 (P : Params) : Obj := { cls := .type "getset_descriptor", data := .fields #[.str "__weakref__" 378, .ref 162, .builtin "ExceptionGroup.__weakref__", .none] }
noncomputable def u165_2 (P : Params) : Obj := { cls := .type "super", data := .fields #[.ref 162, .ref 162, .ref 162] }
noncomputable def u166_2 (P : Params) : Obj := { cls := .type "builtin_function_or_method", data := .fields #[.builtin "object.__init_subclass__", .ref 162] }
noncomputable def u167_2 (P : Params) : Obj := tE
noncomputable def u168_2 (P : Params) : Obj := fE
noncomputable def u169_2 (P : Params) : Obj := tS 392 ["one", "top", "bottom"]
noncomputable def u170_2 (P : Params) : Obj := tE
noncomputable def u171_2 (P : Params) : Obj := pF "show_fraction" "show_fraction" (top 19)
noncomputable def u172_2 (P : Params) : Obj := cO "show_fraction" "show_fraction" 389 72 1 3 167 395 396
noncomputable def u173_2 (P : Params) : Obj := fo "show_fraction" "show_fraction" (top 19) 3 (.str "tautcord.texts" 383) (.ref 172)
noncomputable def u174_2 (P : Params) : Obj := tE
noncomputable def u175_2 (P : Params) : Obj := fE
noncomputable def u176_2 (P : Params) : Obj := tS 401 ["text", "parts", "top", "bottom", "one"]
noncomputable def u177_2 (P : Params) : Obj := tE
noncomputable def u178_2 (P : Params) : Obj := pF "read_fraction" "read_fraction" (top 20)
noncomputable def u179_2 (P : Params) : Obj := cO "read_fraction" "read_fraction" 398 78 1 3 174 406 407
noncomputable def u180_2 (P : Params) : Obj := fo "read_fraction" "read_fraction" (top 20) 3 (.str "tautcord.texts" 383) (.ref 179)
noncomputable def u181_2 (P : Params) : Obj := tE
noncomputable def u182_2 (P : Params) : Obj := fE
noncomputable def u183_2 (P : Params) : Obj := pF "read_cord" "read_cord" (top 21)
noncomputable def u184_2 (P : Params) : Obj := { cls := .type "code", data := .fields #[.str "read_cord" 409, .str "read_cord" 410, .str "/claim/cut.py" 411, .int 89 0, .int 1 0, .int 0 0, .int 0 0, .int 3 0, .ref 181, .bool Bool.true, .int 181 0, .ref 182, .none, .none, .none, .ref 183, .int 412 0, .int 89 0, .str "/claim/cut.py" 413] }
noncomputable def u185_2 (P : Params) : Obj := fo "read_cord" "read_cord" (top 21) 3 (.str "tautcord.texts" 383) (.ref 184)
noncomputable def u186_2 (P : Params) : Obj := tE
noncomputable def u187_2 (P : Params) : Obj := fE
noncomputable def u188_2 (P : Params) : Obj := tS 418 ["thing"]
noncomputable def u189_2 (P : Params) : Obj := tE
noncomputable def u190_2 (P : Params) : Obj := pF "check_text" "check_text" (top 22)
noncomputable def u191_2 (P : Params) : Obj := cO "check_text" "check_text" 415 98 1 3 186 419 420
noncomputable def u192_2 (P : Params) : Obj := fo "check_text" "check_text" (top 22) 3 (.str "tautcord.texts" 383) (.ref 191)
noncomputable def u193_2 (P : Params) : Obj := tE
noncomputable def u194_2 (P : Params) : Obj := fE
noncomputable def u195_2 (P : Params) : Obj := pF "are_figures" "are_figures" (top 23)
noncomputable def u196_2 (P : Params) : Obj := { cls := .type "code", data := .fields #[.str "are_figures" 422, .str "are_figures" 423, .str "/claim/cut.py" 424, .int 101 0, .int 1 0, .int 0 0, .int 0 0, .int 3 0, .ref 193, .bool Bool.true, .int 181 0, .ref 194, .none, .none, .none, .ref 195, .int 425 0, .int 101 0, .str "/claim/cut.py" 426] }
noncomputable def u197_2 (P : Params) : Obj := fo "are_figures" "are_figures" (top 23) 3 (.str "tautcord.texts" 383) (.ref 196)
noncomputable def u198_2 (P : Params) : Obj := tE
noncomputable def u199_2 (P : Params) : Obj := fE
noncomputable def u200_2 (P : Params) : Obj := tS 431 ["text"]
noncomputable def u201_2 (P : Params) : Obj := tE
noncomputable def u202_2 (P : Params) : Obj := pF "without_minus" "without_minus" (top 24)
noncomputable def u203_2 (P : Params) : Obj := cO "without_minus" "without_minus" 428 105 1 3 198 432 433
noncomputable def u204_2 (P : Params) : Obj := fo "without_minus" "without_minus" (top 24) 3 (.str "tautcord.texts" 383) (.ref 203)
noncomputable def u205_2 (P : Params) : Obj := tE
noncomputable def u206_2 (P : Params) : Obj := fE
noncomputable def u207_2 (P : Params) : Obj := tS 438 ["word"]
noncomputable def u208_2 (P : Params) : Obj := tE
noncomputable def u209_2 (P : Params) : Obj := pF "within_brackets" "within_brackets" (top 25)
noncomputable def u210_2 (P : Params) : Obj := cO "within_brackets" "within_brackets" 435 109 1 3 205 439 440
noncomputable def u211_2 (P : Params) : Obj := fo "within_brackets" "within_brackets" (top 25) 3 (.str "tautcord.texts" 383) (.ref 210)
noncomputable def u212_2 (P : Params) : Obj := tE
noncomputable def u213_2 (P : Params) : Obj := fE
noncomputable def u214_2 (P : Params) : Obj := tS 447 ["_law_script", "_law_k"]
noncomputable def u215_2 (P : Params) : Obj := tE
noncomputable def u216_2 (P : Params) : Obj := pF "_law_cell_at" "_law_cell_at" (top 27)
noncomputable def u217_2 (P : Params) : Obj := cO "_law_cell_at" "_law_cell_at" 444 114 2 3 212 449 450
noncomputable def u218_2 (P : Params) : Obj := fo "_law_cell_at" "_law_cell_at" (top 27) 3 (.str "law_tautcord_k83_no_cords" 442) (.ref 217)
noncomputable def u219_2 (P : Params) : Obj := tE
noncomputable def u220_2 (P : Params) : Obj := fE
noncomputable def u221_2 (P : Params) : Obj := tS 455 ["_law_cell", "_law_k"]
noncomputable def u222_2 (P : Params) : Obj := tE
noncomputable def u223_2 (P : Params) : Obj := pF "_law_mixed" "_law_mixed" (top 28)
noncomputable def u224_2 (P : Params) : Obj := cO "_law_mixed" "_law_mixed" 452 118 2 3 219 457 458
noncomputable def u225_2 (P : Params) : Obj := fo "_law_mixed" "_law_mixed" (top 28) 3 (.str "law_tautcord_k83_no_cords" 442) (.ref 224)
noncomputable def u226_2 (P : Params) : Obj := tE
noncomputable def u227_2 (P : Params) : Obj := fE
noncomputable def u228_2 (P : Params) : Obj := tS 463 ["_law_one", "_law_other"]
noncomputable def u229_2 (P : Params) : Obj := tE
noncomputable def u230_2 (P : Params) : Obj := pF "_law_part" "_law_part" (top 29)
noncomputable def u231_2 (P : Params) : Obj := cO "_law_part" "_law_part" 460 122 2 3 226 465 466
noncomputable def u232_2 (P : Params) : Obj := fo "_law_part" "_law_part" (top 29) 3 (.str "law_tautcord_k83_no_cords" 442) (.ref 231)
noncomputable def u233_2 (P : Params) : Obj := tE
noncomputable def u234_2 (P : Params) : Obj := fE
noncomputable def u235_2 (P : Params) : Obj := tS 471 ["_law_top", "_law_bottom", "_law_part_here"]
noncomputable def u236_2 (P : Params) : Obj := tE
noncomputable def u237_2 (P : Params) : Obj := pF "_law_low" "_law_low" (top 30)
noncomputable def u238_2 (P : Params) : Obj := cO "_law_low" "_law_low" 468 128 2 3 233 474 475
noncomputable def u239_2 (P : Params) : Obj := fo "_law_low" "_law_low" (top 30) 3 (.str "law_tautcord_k83_no_cords" 442) (.ref 238)
noncomputable def u240_2 (P : Params) : Obj := tE
noncomputable def u241_2 (P : Params) : Obj := fE
noncomputable def u242_2 (P : Params) : Obj := tS 480 ["_law_cell", "_law_k", "_law_most", "_law_rest", "_law_many", "_law_wide", "_law_row", "_law_turn"]
noncomputable def u243_2 (P : Params) : Obj := tE
noncomputable def u244_2 (P : Params) : Obj := pF "_law_cord_by" "_law_cord_by" (top 31)
noncomputable def u245_2 (P : Params) : Obj := cO "_law_cord_by" "_law_cord_by" 477 131 3 3 240 488 489
noncomputable def u246_2 (P : Params) : Obj := fo "_law_cord_by" "_law_cord_by" (top 31) 3 (.str "law_tautcord_k83_no_cords" 442) (.ref 245)
noncomputable def u247_2 (P : Params) : Obj := tE
noncomputable def u248_2 (P : Params) : Obj := fE
noncomputable def u249_2 (P : Params) : Obj := tS 494 ["_law_told", "_law_due", "_law_k", "_law_number"]
noncomputable def u250_2 (P : Params) : Obj := tE
noncomputable def u251_2 (P : Params) : Obj := pF "_law_same" "_law_same" (top 32)
noncomputable def u252_2 (P : Params) : Obj := cO "_law_same" "_law_same" 491 149 2 3 247 498 499
noncomputable def u253_2 (P : Params) : Obj := fo "_law_same" "_law_same" (top 32) 3 (.str "law_tautcord_k83_no_cords" 442) (.ref 252)
noncomputable def u254_2 (P : Params) : Obj := tE
noncomputable def u255_2 (P : Params) : Obj := fE
noncomputable def u256_2 (P : Params) : Obj := tS 504 ["_law_told", "_law_gaps", "_law_weights"]
noncomputable def u257_2 (P : Params) : Obj := tE
noncomputable def u258_2 (P : Params) : Obj := pF "_law_is_cord" "_law_is_cord" (top 33)
noncomputable def u259_2 (P : Params) : Obj := cO "_law_is_cord" "_law_is_cord" 501 159 3 3 254 507 508
noncomputable def u260_2 (P : Params) : Obj := fo "_law_is_cord" "_law_is_cord" (top 33) 3 (.str "law_tautcord_k83_no_cords" 442) (.ref 259)
noncomputable def u261_2 (P : Params) : Obj := tE
noncomputable def u262_2 (P : Params) : Obj := fE
noncomputable def u263_2 (P : Params) : Obj := tS 513 ["_law_one"]
noncomputable def u264_2 (P : Params) : Obj := tE
noncomputable def u265_2 (P : Params) : Obj := pF "_law_word" "_law_word" (top 34)
noncomputable def u266_2 (P : Params) : Obj := cO "_law_word" "_law_word" 510 161 1 3 261 514 515
noncomputable def u267_2 (P : Params) : Obj := fo "_law_word" "_law_word" (top 34) 3 (.str "law_tautcord_k83_no_cords" 442) (.ref 266)
noncomputable def u3_3 (P : Params) : Obj := { cls := .type "dict", data := .dict #[ke P "__name__" 165 (.str "law_tautcord_k83_no_cords" 442), ke P "__doc__" 166 .none, ke P "__package__" 167 .none, ke P "__loader__" 168 (.builtin "__main__.__loader__#opaque"), ke P "__spec__" 169 .none, ke P "__annotations__" 170 (.ref 6), ke P "__builtins__" 171 (.ref 4), ke P "__file__" 173 (.str "/claim/cut.py" 172), ke P "__cached__" 174 .none, ke P "_wall" 193 (.ref 21), ke P "CordError" 213 (.ref 31), ke P "NoFraction" 229 (.ref 44), ke P "NoCord" 254 (.ref 63), ke P "NoText" 270 (.ref 75), ke P "is_whole" 279 (.ref 84), ke P "divisor" 290 (.ref 91), ke P "is_fraction" 299 (.ref 98), ke P "side" 306 (.ref 105), ke P "MOST_BEADS" 310 (.int 12 309), ke P "is_row_above" 316 (.ref 110), ke P "Cord" 382 (.ref 162), ke P "FIGURES" 386 (.str "0123456789" 385), ke P "MOST_FIGURES" 388 (.int 30 387), ke P "show_fraction" 397 (.ref 173), ke P "read_fraction" 408 (.ref 180), ke P "read_cord" 414 (.ref 185), ke P "check_text" 421 (.ref 192), ke P "are_figures" 427 (.ref 197), ke P "without_minus" 434 (.ref 204), ke P "within_brackets" 441 (.ref 211), ke P "_law_cell_at" 451 (.ref 218), ke P "_law_mixed" 459 (.ref 225), ke P "_law_part" 467 (.ref 232), ke P "_law_low" 476 (.ref 239), ke P "_law_cord_by" 490 (.ref 246), ke P "_law_same" 500 (.ref 253), ke P "_law_is_cord" 509 (.ref 260), ke P "_law_word" 516 (.ref 267), ke P "_law_cord_text" 526 (.ref 274), ke P "_law_gap_by" 533 (.ref 281), ke P "_law_weight_by" 540 (.ref 288), ke P "_law_spoilt" 550 (.ref 295), ke P "_law_refused" 559 (.ref 302), ke P "law" 571 (.ref 309)] 44 }
noncomputable def u12_3 (P : Params) : Obj := { cls := .none, data := .fields #[.int 1 0, .int 0 0, .ref 20, .int 5 0, .int 0 0, .ref 27, .int 7 0, .int 0 0, .ref 40, .int 9 0, .int 0 0, .ref 52, .int 13 0, .int 0 0, .ref 71, .int 16 0, .int 0 0, .ref 83, .int 18 0, .int 0 0, .ref 90, .int 27 0, .int 0 0, .ref 97, .int 33 0, .int 0 0, .ref 104, .int 41 0, .int 0 0, .ref 109, .int 45 0, .int 0 0, .ref 116, .int 72 0, .int 0 0, .ref 172, .int 78 0, .int 0 0, .ref 179, .int 89 0, .int 0 0, .ref 184, .int 98 0, .int 0 0, .ref 191, .int 101 0, .int 0 0, .ref 196, .int 105 0, .int 0 0, .ref 203, .int 109 0, .int 0 0, .ref 210, .int 114 0, .int 0 0, .ref 217, .int 118 0, .int 0 0, .ref 224, .int 122 0, .int 0 0, .ref 231, .int 128 0, .int 0 0, .ref 238, .int 131 0, .int 0 0, .ref 245, .int 149 0, .int 0 0, .ref 252, .int 159 0, .int 0 0, .ref 259, .int 161 0, .int 0 0, .ref 266, .int 165 0, .int 0 0, .ref 273, .int 171 0, .int 0 0, .ref 280, .int 173 0, .int 0 0, .ref 287, .int 175 0, .int 0 0, .ref 294, .int 195 0, .int 0 0, .ref 301, .int 202 0, .int 0 0, .ref 308] }
noncomputable def u268_3 (P : Params) : Obj := tE
noncomputable def u269_3 (P : Params) : Obj := fE
noncomputable def u270_3 (P : Params) : Obj := tS 520 ["_law_gaps", "_law_weights", "_law_text", "_law_k"]
noncomputable def u271_3 (P : Params) : Obj := tE
noncomputable def u272_3 (P : Params) : Obj := pF "_law_cord_text" "_law_cord_text" (top 35)
noncomputable def u273_3 (P : Params) : Obj := cO "_law_cord_text" "_law_cord_text" 517 165 2 3 268 524 525
noncomputable def u274_3 (P : Params) : Obj := fo "_law_cord_text" "_law_cord_text" (top 35) 3 (.str "law_tautcord_k83_no_cords" 442) (.ref 273)
noncomputable def u275_3 (P : Params) : Obj := tE
noncomputable def u276_3 (P : Params) : Obj := fE
noncomputable def u277_3 (P : Params) : Obj := tS 530 ["_law_rest"]
noncomputable def u278_3 (P : Params) : Obj := tE
noncomputable def u279_3 (P : Params) : Obj := pF "_law_gap_by" "_law_gap_by" (top 36)
noncomputable def u280_3 (P : Params) : Obj := cO "_law_gap_by" "_law_gap_by" 527 171 1 3 275 531 532
noncomputable def u281_3 (P : Params) : Obj := fo "_law_gap_by" "_law_gap_by" (top 36) 3 (.str "law_tautcord_k83_no_cords" 442) (.ref 280)
noncomputable def u282_3 (P : Params) : Obj := tE
noncomputable def u283_3 (P : Params) : Obj := fE
noncomputable def u284_3 (P : Params) : Obj := tS 537 ["_law_rest"]
noncomputable def u285_3 (P : Params) : Obj := tE
noncomputable def u286_3 (P : Params) : Obj := pF "_law_weight_by" "_law_weight_by" (top 37)
noncomputable def u287_3 (P : Params) : Obj := cO "_law_weight_by" "_law_weight_by" 534 173 1 3 282 538 539
noncomputable def u288_3 (P : Params) : Obj := fo "_law_weight_by" "_law_weight_by" (top 37) 3 (.str "law_tautcord_k83_no_cords" 442) (.ref 287)
noncomputable def u289_3 (P : Params) : Obj := tE
noncomputable def u290_3 (P : Params) : Obj := fE
noncomputable def u291_3 (P : Params) : Obj := tS 544 ["_law_words", "_law_rest", "_law_made", "_law_way"]
noncomputable def u292_3 (P : Params) : Obj := tE
noncomputable def u293_3 (P : Params) : Obj := pF "_law_spoilt" "_law_spoilt" (top 38)
noncomputable def u294_3 (P : Params) : Obj := cO "_law_spoilt" "_law_spoilt" 541 175 2 3 289 548 549
noncomputable def u295_3 (P : Params) : Obj := fo "_law_spoilt" "_law_spoilt" (top 38) 3 (.str "law_tautcord_k83_no_cords" 442) (.ref 294)
noncomputable def u296_3 (P : Params) : Obj := tE
noncomputable def u297_3 (P : Params) : Obj := fE
noncomputable def u298_3 (P : Params) : Obj := tS 554 ["_law_text", "_law_refused_here", "e"]
noncomputable def u299_3 (P : Params) : Obj := tE
noncomputable def u300_3 (P : Params) : Obj := pF "_law_refused" "_law_refused" (top 39)
noncomputable def u301_3 (P : Params) : Obj := cO "_law_refused" "_law_refused" 551 195 1 3 296 557 558
noncomputable def u302_3 (P : Params) : Obj := fo "_law_refused" "_law_refused" (top 39) 3 (.str "law_tautcord_k83_no_cords" 442) (.ref 301)
noncomputable def u303_3 (P : Params) : Obj := tE
noncomputable def u304_3 (P : Params) : Obj := fE
noncomputable def u305_3 (P : Params) : Obj := tS 563 ["_law_script", "_law_gaps", "_law_weights", "_law_rest", "_law_text", "_law_thing"]
noncomputable def u306_3 (P : Params) : Obj := tE
noncomputable def u307_3 (P : Params) : Obj := pF "law" "law" (top 40)
noncomputable def u308_3 (P : Params) : Obj := cO "law" "law" 560 202 1 3 303 569 570
noncomputable def u309_3 (P : Params) : Obj := fo "law" "law" (top 40) 3 (.str "law_tautcord_k83_no_cords" 442) (.ref 308)
noncomputable def tr_0 (P : Params) : BT := (.node (boot_o_0 P) (.node (boot_o_1 P) (.node (boot_o_3 P) (lf (boot_o_7 P)) (lf (u11_a P))) (.node (boot_o_5 P) (lf (boot_o_9 P)) (lf (u13_a P)))) (.node (boot_o_2 P) (.node (boot_o_4 P) (lf (boot_o_8 P)) (lf (u12_a P))) (.node (boot_o_6 P) (lf (boot_o_10 P)) (lf (u14_a P)))))
noncomputable def tr_1 (P : Params) : BT := (.node (boot_o_0 P) (.node (boot_o_1 P) (.node (u3_1 P) (.node (boot_o_7 P) (.node (u15_1 P) (.node (u31_1 P) (lf (u63_1 P)) .nil) (.node (u47_1 P) (lf (u79_1 P)) .nil)) (.node (u23_1 P) (.node (u39_1 P) (lf (u71_1 P)) .nil) (.node (u55_1 P) (lf (u87_1 P)) .nil))) (.node (u11_a P) (.node (u19_1 P) (.node (u35_1 P) (lf (u67_1 P)) .nil) (.node (u51_1 P) (lf (u83_1 P)) .nil)) (.node (u27_1 P) (.node (u43_1 P) (lf (u75_1 P)) .nil) (.node (u59_1 P) (lf (u91_1 P)) .nil)))) (.node (boot_o_5 P) (.node (boot_o_9 P) (.node (u17_1 P) (.node (u33_1 P) (lf (u65_1 P)) .nil) (.node (u49_1 P) (lf (u81_1 P)) .nil)) (.node (u25_1 P) (.node (u41_1 P) (lf (u73_1 P)) .nil) (.node (u57_1 P) (lf (u89_1 P)) .nil))) (.node (u13_a P) (.node (u21_1 P) (.node (u37_1 P) (lf (u69_1 P)) .nil) (.node (u53_1 P) (lf (u85_1 P)) .nil)) (.node (u29_1 P) (.node (u45_1 P) (lf (u77_1 P)) .nil) (lf (u61_1 P)))))) (.node (boot_o_2 P) (.node (boot_o_4 P) (.node (boot_o_8 P) (.node (u16_1 P) (.node (u32_1 P) (lf (u64_1 P)) .nil) (.node (u48_1 P) (lf (u80_1 P)) .nil)) (.node (u24_1 P) (.node (u40_1 P) (lf (u72_1 P)) .nil) (.node (u56_1 P) (lf (u88_1 P)) .nil))) (.node (u12_1 P) (.node (u20_1 P) (.node (u36_1 P) (lf (u68_1 P)) .nil) (.node (u52_1 P) (lf (u84_1 P)) .nil)) (.node (u28_1 P) (.node (u44_1 P) (lf (u76_1 P)) .nil) (lf (u60_1 P))))) (.node (boot_o_6 P) (.node (boot_o_10 P) (.node (u18_1 P) (.node (u34_1 P) (lf (u66_1 P)) .nil) (.node (u50_1 P) (lf (u82_1 P)) .nil)) (.node (u26_1 P) (.node (u42_1 P) (lf (u74_1 P)) .nil) (.node (u58_1 P) (lf (u90_1 P)) .nil))) (.node (u14_a P) (.node (u22_1 P) (.node (u38_1 P) (lf (u70_1 P)) .nil) (.node (u54_1 P) (lf (u86_1 P)) .nil)) (.node (u30_1 P) (.node (u46_1 P) (lf (u78_1 P)) .nil) (lf (u62_1 P)))))))
noncomputable def tr_2 (P : Params) : BT := (.node (boot_o_0 P) (.node (boot_o_1 P) (.node (u3_2 P) (.node (boot_o_7 P) (.node (u15_1 P) (.node (u31_1 P) (.node (u63_1 P) (.node (u127_2 P) (lf (u255_2 P)) .nil) (lf (u191_2 P))) (.node (u95_2 P) (lf (u159_2 P)) (lf (u223_2 P)))) (.node (u47_1 P) (.node (u79_1 P) (lf (u143_2 P)) (lf (u207_2 P))) (.node (u111_2 P) (lf (u175_2 P)) (lf (u239_2 P))))) (.node (u23_1 P) (.node (u39_1 P) (.node (u71_1 P) (.node (u135_2 P) (lf (u263_2 P)) .nil) (lf (u199_2 P))) (.node (u103_2 P) (lf (u167_2 P)) (lf (u231_2 P)))) (.node (u55_1 P) (.node (u87_1 P) (lf (u151_2 P)) (lf (u215_2 P))) (.node (u119_2 P) (lf (u183_2 P)) (lf (u247_2 P)))))) (.node (u11_a P) (.node (u19_1 P) (.node (u35_1 P) (.node (u67_1 P) (.node (u131_2 P) (lf (u259_2 P)) .nil) (lf (u195_2 P))) (.node (u99_2 P) (lf (u163_2 P)) (lf (u227_2 P)))) (.node (u51_1 P) (.node (u83_1 P) (lf (u147_2 P)) (lf (u211_2 P))) (.node (u115_2 P) (lf (u179_2 P)) (lf (u243_2 P))))) (.node (u27_1 P) (.node (u43_1 P) (.node (u75_1 P) (.node (u139_2 P) (lf (u267_2 P)) .nil) (lf (u203_2 P))) (.node (u107_2 P) (lf (u171_2 P)) (lf (u235_2 P)))) (.node (u59_1 P) (.node (u91_1 P) (lf (u155_2 P)) (lf (u219_2 P))) (.node (u123_2 P) (lf (u187_2 P)) (lf (u251_2 P))))))) (.node (boot_o_5 P) (.node (boot_o_9 P) (.node (u17_1 P) (.node (u33_1 P) (.node (u65_1 P) (.node (u129_2 P) (lf (u257_2 P)) .nil) (lf (u193_2 P))) (.node (u97_2 P) (lf (u161_2 P)) (lf (u225_2 P)))) (.node (u49_1 P) (.node (u81_1 P) (lf (u145_2 P)) (lf (u209_2 P))) (.node (u113_2 P) (lf (u177_2 P)) (lf (u241_2 P))))) (.node (u25_1 P) (.node (u41_1 P) (.node (u73_1 P) (.node (u137_2 P) (lf (u265_2 P)) .nil) (lf (u201_2 P))) (.node (u105_2 P) (lf (u169_2 P)) (lf (u233_2 P)))) (.node (u57_1 P) (.node (u89_1 P) (lf (u153_2 P)) (lf (u217_2 P))) (.node (u121_2 P) (lf (u185_2 P)) (lf (u249_2 P)))))) (.node (u13_a P) (.node (u21_1 P) (.node (u37_1 P) (.node (u69_1 P) (.node (u133_2 P) (lf (u261_2 P)) .nil) (lf (u197_2 P))) (.node (u101_2 P) (lf (u165_2 P)) (lf (u229_2 P)))) (.node (u53_1 P) (.node (u85_1 P) (lf (u149_2 P)) (lf (u213_2 P))) (.node (u117_2 P) (lf (u181_2 P)) (lf (u245_2 P))))) (.node (u29_1 P) (.node (u45_1 P) (.node (u77_1 P) (lf (u141_2 P)) (lf (u205_2 P))) (.node (u109_2 P) (lf (u173_2 P)) (lf (u237_2 P)))) (.node (u61_1 P) (.node (u93_2 P) (lf (u157_2 P)) (lf (u221_2 P))) (.node (u125_2 P) (lf (u189_2 P)) (lf (u253_2 P)))))))) (.node (boot_o_2 P) (.node (boot_o_4 P) (.node (boot_o_8 P) (.node (u16_1 P) (.node (u32_1 P) (.node (u64_1 P) (.node (u128_2 P) (lf (u256_2 P)) .nil) (lf (u192_2 P))) (.node (u96_2 P) (lf (u160_2 P)) (lf (u224_2 P)))) (.node (u48_1 P) (.node (u80_1 P) (lf (u144_2 P)) (lf (u208_2 P))) (.node (u112_2 P) (lf (u176_2 P)) (lf (u240_2 P))))) (.node (u24_1 P) (.node (u40_1 P) (.node (u72_1 P) (.node (u136_2 P) (lf (u264_2 P)) .nil) (lf (u200_2 P))) (.node (u104_2 P) (lf (u168_2 P)) (lf (u232_2 P)))) (.node (u56_1 P) (.node (u88_1 P) (lf (u152_2 P)) (lf (u216_2 P))) (.node (u120_2 P) (lf (u184_2 P)) (lf (u248_2 P)))))) (.node (u12_2 P) (.node (u20_1 P) (.node (u36_1 P) (.node (u68_1 P) (.node (u132_2 P) (lf (u260_2 P)) .nil) (lf (u196_2 P))) (.node (u100_2 P) (lf (u164_2 P)) (lf (u228_2 P)))) (.node (u52_1 P) (.node (u84_1 P) (lf (u148_2 P)) (lf (u212_2 P))) (.node (u116_2 P) (lf (u180_2 P)) (lf (u244_2 P))))) (.node (u28_1 P) (.node (u44_1 P) (.node (u76_1 P) (lf (u140_2 P)) (lf (u204_2 P))) (.node (u108_2 P) (lf (u172_2 P)) (lf (u236_2 P)))) (.node (u60_1 P) (.node (u92_2 P) (lf (u156_2 P)) (lf (u220_2 P))) (.node (u124_2 P) (lf (u188_2 P)) (lf (u252_2 P))))))) (.node (boot_o_6 P) (.node (boot_o_10 P) (.node (u18_1 P) (.node (u34_1 P) (.node (u66_1 P) (.node (u130_2 P) (lf (u258_2 P)) .nil) (lf (u194_2 P))) (.node (u98_2 P) (lf (u162_2 P)) (lf (u226_2 P)))) (.node (u50_1 P) (.node (u82_1 P) (lf (u146_2 P)) (lf (u210_2 P))) (.node (u114_2 P) (lf (u178_2 P)) (lf (u242_2 P))))) (.node (u26_1 P) (.node (u42_1 P) (.node (u74_1 P) (.node (u138_2 P) (lf (u266_2 P)) .nil) (lf (u202_2 P))) (.node (u106_2 P) (lf (u170_2 P)) (lf (u234_2 P)))) (.node (u58_1 P) (.node (u90_1 P) (lf (u154_2 P)) (lf (u218_2 P))) (.node (u122_2 P) (lf (u186_2 P)) (lf (u250_2 P)))))) (.node (u14_a P) (.node (u22_1 P) (.node (u38_1 P) (.node (u70_1 P) (.node (u134_2 P) (lf (u262_2 P)) .nil) (lf (u198_2 P))) (.node (u102_2 P) (lf (u166_2 P)) (lf (u230_2 P)))) (.node (u54_1 P) (.node (u86_1 P) (lf (u150_2 P)) (lf (u214_2 P))) (.node (u118_2 P) (lf (u182_2 P)) (lf (u246_2 P))))) (.node (u30_1 P) (.node (u46_1 P) (.node (u78_1 P) (lf (u142_2 P)) (lf (u206_2 P))) (.node (u110_2 P) (lf (u174_2 P)) (lf (u238_2 P)))) (.node (u62_1 P) (.node (u94_2 P) (lf (u158_2 P)) (lf (u222_2 P))) (.node (u126_2 P) (lf (u190_2 P)) (lf (u254_2 P)))))))))
noncomputable def tr_3 (P : Params) : BT := (.node (boot_o_0 P) (.node (boot_o_1 P) (.node (u3_3 P) (.node (boot_o_7 P) (.node (u15_1 P) (.node (u31_1 P) (.node (u63_1 P) (.node (u127_2 P) (lf (u255_2 P)) .nil) (lf (u191_2 P))) (.node (u95_2 P) (.node (u159_2 P) (lf (u287_3 P)) .nil) (lf (u223_2 P)))) (.node (u47_1 P) (.node (u79_1 P) (.node (u143_2 P) (lf (u271_3 P)) .nil) (lf (u207_2 P))) (.node (u111_2 P) (.node (u175_2 P) (lf (u303_3 P)) .nil) (lf (u239_2 P))))) (.node (u23_1 P) (.node (u39_1 P) (.node (u71_1 P) (.node (u135_2 P) (lf (u263_2 P)) .nil) (lf (u199_2 P))) (.node (u103_2 P) (.node (u167_2 P) (lf (u295_3 P)) .nil) (lf (u231_2 P)))) (.node (u55_1 P) (.node (u87_1 P) (.node (u151_2 P) (lf (u279_3 P)) .nil) (lf (u215_2 P))) (.node (u119_2 P) (lf (u183_2 P)) (lf (u247_2 P)))))) (.node (u11_a P) (.node (u19_1 P) (.node (u35_1 P) (.node (u67_1 P) (.node (u131_2 P) (lf (u259_2 P)) .nil) (lf (u195_2 P))) (.node (u99_2 P) (.node (u163_2 P) (lf (u291_3 P)) .nil) (lf (u227_2 P)))) (.node (u51_1 P) (.node (u83_1 P) (.node (u147_2 P) (lf (u275_3 P)) .nil) (lf (u211_2 P))) (.node (u115_2 P) (.node (u179_2 P) (lf (u307_3 P)) .nil) (lf (u243_2 P))))) (.node (u27_1 P) (.node (u43_1 P) (.node (u75_1 P) (.node (u139_2 P) (lf (u267_2 P)) .nil) (lf (u203_2 P))) (.node (u107_2 P) (.node (u171_2 P) (lf (u299_3 P)) .nil) (lf (u235_2 P)))) (.node (u59_1 P) (.node (u91_1 P) (.node (u155_2 P) (lf (u283_3 P)) .nil) (lf (u219_2 P))) (.node (u123_2 P) (lf (u187_2 P)) (lf (u251_2 P))))))) (.node (boot_o_5 P) (.node (boot_o_9 P) (.node (u17_1 P) (.node (u33_1 P) (.node (u65_1 P) (.node (u129_2 P) (lf (u257_2 P)) .nil) (lf (u193_2 P))) (.node (u97_2 P) (.node (u161_2 P) (lf (u289_3 P)) .nil) (lf (u225_2 P)))) (.node (u49_1 P) (.node (u81_1 P) (.node (u145_2 P) (lf (u273_3 P)) .nil) (lf (u209_2 P))) (.node (u113_2 P) (.node (u177_2 P) (lf (u305_3 P)) .nil) (lf (u241_2 P))))) (.node (u25_1 P) (.node (u41_1 P) (.node (u73_1 P) (.node (u137_2 P) (lf (u265_2 P)) .nil) (lf (u201_2 P))) (.node (u105_2 P) (.node (u169_2 P) (lf (u297_3 P)) .nil) (lf (u233_2 P)))) (.node (u57_1 P) (.node (u89_1 P) (.node (u153_2 P) (lf (u281_3 P)) .nil) (lf (u217_2 P))) (.node (u121_2 P) (lf (u185_2 P)) (lf (u249_2 P)))))) (.node (u13_a P) (.node (u21_1 P) (.node (u37_1 P) (.node (u69_1 P) (.node (u133_2 P) (lf (u261_2 P)) .nil) (lf (u197_2 P))) (.node (u101_2 P) (.node (u165_2 P) (lf (u293_3 P)) .nil) (lf (u229_2 P)))) (.node (u53_1 P) (.node (u85_1 P) (.node (u149_2 P) (lf (u277_3 P)) .nil) (lf (u213_2 P))) (.node (u117_2 P) (.node (u181_2 P) (lf (u309_3 P)) .nil) (lf (u245_2 P))))) (.node (u29_1 P) (.node (u45_1 P) (.node (u77_1 P) (.node (u141_2 P) (lf (u269_3 P)) .nil) (lf (u205_2 P))) (.node (u109_2 P) (.node (u173_2 P) (lf (u301_3 P)) .nil) (lf (u237_2 P)))) (.node (u61_1 P) (.node (u93_2 P) (.node (u157_2 P) (lf (u285_3 P)) .nil) (lf (u221_2 P))) (.node (u125_2 P) (lf (u189_2 P)) (lf (u253_2 P)))))))) (.node (boot_o_2 P) (.node (boot_o_4 P) (.node (boot_o_8 P) (.node (u16_1 P) (.node (u32_1 P) (.node (u64_1 P) (.node (u128_2 P) (lf (u256_2 P)) .nil) (lf (u192_2 P))) (.node (u96_2 P) (.node (u160_2 P) (lf (u288_3 P)) .nil) (lf (u224_2 P)))) (.node (u48_1 P) (.node (u80_1 P) (.node (u144_2 P) (lf (u272_3 P)) .nil) (lf (u208_2 P))) (.node (u112_2 P) (.node (u176_2 P) (lf (u304_3 P)) .nil) (lf (u240_2 P))))) (.node (u24_1 P) (.node (u40_1 P) (.node (u72_1 P) (.node (u136_2 P) (lf (u264_2 P)) .nil) (lf (u200_2 P))) (.node (u104_2 P) (.node (u168_2 P) (lf (u296_3 P)) .nil) (lf (u232_2 P)))) (.node (u56_1 P) (.node (u88_1 P) (.node (u152_2 P) (lf (u280_3 P)) .nil) (lf (u216_2 P))) (.node (u120_2 P) (lf (u184_2 P)) (lf (u248_2 P)))))) (.node (u12_3 P) (.node (u20_1 P) (.node (u36_1 P) (.node (u68_1 P) (.node (u132_2 P) (lf (u260_2 P)) .nil) (lf (u196_2 P))) (.node (u100_2 P) (.node (u164_2 P) (lf (u292_3 P)) .nil) (lf (u228_2 P)))) (.node (u52_1 P) (.node (u84_1 P) (.node (u148_2 P) (lf (u276_3 P)) .nil) (lf (u212_2 P))) (.node (u116_2 P) (.node (u180_2 P) (lf (u308_3 P)) .nil) (lf (u244_2 P))))) (.node (u28_1 P) (.node (u44_1 P) (.node (u76_1 P) (.node (u140_2 P) (lf (u268_3 P)) .nil) (lf (u204_2 P))) (.node (u108_2 P) (.node (u172_2 P) (lf (u300_3 P)) .nil) (lf (u236_2 P)))) (.node (u60_1 P) (.node (u92_2 P) (.node (u156_2 P) (lf (u284_3 P)) .nil) (lf (u220_2 P))) (.node (u124_2 P) (lf (u188_2 P)) (lf (u252_2 P))))))) (.node (boot_o_6 P) (.node (boot_o_10 P) (.node (u18_1 P) (.node (u34_1 P) (.node (u66_1 P) (.node (u130_2 P) (lf (u258_2 P)) .nil) (lf (u194_2 P))) (.node (u98_2 P) (.node (u162_2 P) (lf (u290_3 P)) .nil) (lf (u226_2 P)))) (.node (u50_1 P) (.node (u82_1 P) (.node (u146_2 P) (lf (u274_3 P)) .nil) (lf (u210_2 P))) (.node (u114_2 P) (.node (u178_2 P) (lf (u306_3 P)) .nil) (lf (u242_2 P))))) (.node (u26_1 P) (.node (u42_1 P) (.node (u74_1 P) (.node (u138_2 P) (lf (u266_2 P)) .nil) (lf (u202_2 P))) (.node (u106_2 P) (.node (u170_2 P) (lf (u298_3 P)) .nil) (lf (u234_2 P)))) (.node (u58_1 P) (.node (u90_1 P) (.node (u154_2 P) (lf (u282_3 P)) .nil) (lf (u218_2 P))) (.node (u122_2 P) (lf (u186_2 P)) (lf (u250_2 P)))))) (.node (u14_a P) (.node (u22_1 P) (.node (u38_1 P) (.node (u70_1 P) (.node (u134_2 P) (lf (u262_2 P)) .nil) (lf (u198_2 P))) (.node (u102_2 P) (.node (u166_2 P) (lf (u294_3 P)) .nil) (lf (u230_2 P)))) (.node (u54_1 P) (.node (u86_1 P) (.node (u150_2 P) (lf (u278_3 P)) .nil) (lf (u214_2 P))) (.node (u118_2 P) (lf (u182_2 P)) (lf (u246_2 P))))) (.node (u30_1 P) (.node (u46_1 P) (.node (u78_1 P) (.node (u142_2 P) (lf (u270_3 P)) .nil) (lf (u206_2 P))) (.node (u110_2 P) (.node (u174_2 P) (lf (u302_3 P)) .nil) (lf (u238_2 P)))) (.node (u62_1 P) (.node (u94_2 P) (.node (u158_2 P) (lf (u286_3 P)) .nil) (lf (u222_2 P))) (.node (u126_2 P) (lf (u190_2 P)) (lf (u254_2 P)))))))))
noncomputable def ha (P : Params) : Heap := ⟨Array.mk [boot_o_0 P, boot_o_1 P, boot_o_2 P, boot_o_3 P, boot_o_4 P, boot_o_5 P, boot_o_6 P, boot_o_7 P, boot_o_8 P, boot_o_9 P, boot_o_10 P, u11_a P, u12_a P, u13_a P, u14_a P], {}⟩
noncomputable abbrev st_0 (w : World) (os : OsState) : SharedT := ⟨tr_0 w.params, 15, {}, Array.mk [], {}, 187, os⟩
noncomputable abbrev st_1 (w : World) (os : OsState) : SharedT := ⟨tr_1 w.params, 92, {}, Array.mk [], {}, 293, os⟩
noncomputable def l_1 : List Stmt := (bE.drop 0).take 10
noncomputable abbrev st_2 (w : World) (os : OsState) : SharedT := ⟨tr_2 w.params, 268, {}, Array.mk [], {}, 517, os⟩
noncomputable def l_2 : List Stmt := (bE.drop 10).take 25
noncomputable abbrev st_3 (w : World) (os : OsState) : SharedT := ⟨tr_3 w.params, 310, {}, Array.mk [], {}, 572, os⟩
noncomputable def l_3 : List Stmt := (bE.drop 35).take 6
noncomputable def hf (P : Params) : Heap := ⟨Array.mk [boot_o_0 P, boot_o_1 P, boot_o_2 P, u3_3 P, boot_o_4 P, boot_o_5 P, boot_o_6 P, boot_o_7 P, boot_o_8 P, boot_o_9 P, boot_o_10 P, u11_a P, u12_3 P, u13_a P, u14_a P, u15_1 P, u16_1 P, u17_1 P, u18_1 P, u19_1 P, u20_1 P, u21_1 P, u22_1 P, u23_1 P, u24_1 P, u25_1 P, u26_1 P, u27_1 P, u28_1 P, u29_1 P, u30_1 P, u31_1 P, u32_1 P, u33_1 P, u34_1 P, u35_1 P, u36_1 P, u37_1 P, u38_1 P, u39_1 P, u40_1 P, u41_1 P, u42_1 P, u43_1 P, u44_1 P, u45_1 P, u46_1 P, u47_1 P, u48_1 P, u49_1 P, u50_1 P, u51_1 P, u52_1 P, u53_1 P, u54_1 P, u55_1 P, u56_1 P, u57_1 P, u58_1 P, u59_1 P, u60_1 P, u61_1 P, u62_1 P, u63_1 P, u64_1 P, u65_1 P, u66_1 P, u67_1 P, u68_1 P, u69_1 P, u70_1 P, u71_1 P, u72_1 P, u73_1 P, u74_1 P, u75_1 P, u76_1 P, u77_1 P, u78_1 P, u79_1 P, u80_1 P, u81_1 P, u82_1 P, u83_1 P, u84_1 P, u85_1 P, u86_1 P, u87_1 P, u88_1 P, u89_1 P, u90_1 P, u91_1 P, u92_2 P, u93_2 P, u94_2 P, u95_2 P, u96_2 P, u97_2 P, u98_2 P, u99_2 P, u100_2 P, u101_2 P, u102_2 P, u103_2 P, u104_2 P, u105_2 P, u106_2 P, u107_2 P, u108_2 P, u109_2 P, u110_2 P, u111_2 P, u112_2 P, u113_2 P, u114_2 P, u115_2 P, u116_2 P, u117_2 P, u118_2 P, u119_2 P, u120_2 P, u121_2 P, u122_2 P, u123_2 P, u124_2 P, u125_2 P, u126_2 P, u127_2 P, u128_2 P, u129_2 P, u130_2 P, u131_2 P, u132_2 P, u133_2 P, u134_2 P, u135_2 P, u136_2 P, u137_2 P, u138_2 P, u139_2 P, u140_2 P, u141_2 P, u142_2 P, u143_2 P, u144_2 P, u145_2 P, u146_2 P, u147_2 P, u148_2 P, u149_2 P, u150_2 P, u151_2 P, u152_2 P, u153_2 P, u154_2 P, u155_2 P, u156_2 P, u157_2 P, u158_2 P, u159_2 P, u160_2 P, u161_2 P, u162_2 P, u163_2 P, u164_2 P, u165_2 P, u166_2 P, u167_2 P, u168_2 P, u169_2 P, u170_2 P, u171_2 P, u172_2 P, u173_2 P, u174_2 P, u175_2 P, u176_2 P, u177_2 P, u178_2 P, u179_2 P, u180_2 P, u181_2 P, u182_2 P, u183_2 P, u184_2 P, u185_2 P, u186_2 P, u187_2 P, u188_2 P, u189_2 P, u190_2 P, u191_2 P, u192_2 P, u193_2 P, u194_2 P, u195_2 P, u196_2 P, u197_2 P, u198_2 P, u199_2 P, u200_2 P, u201_2 P, u202_2 P, u203_2 P, u204_2 P, u205_2 P, u206_2 P, u207_2 P, u208_2 P, u209_2 P, u210_2 P, u211_2 P, u212_2 P, u213_2 P, u214_2 P, u215_2 P, u216_2 P, u217_2 P, u218_2 P, u219_2 P, u220_2 P, u221_2 P, u222_2 P, u223_2 P, u224_2 P, u225_2 P, u226_2 P, u227_2 P, u228_2 P, u229_2 P, u230_2 P, u231_2 P, u232_2 P, u233_2 P, u234_2 P, u235_2 P, u236_2 P, u237_2 P, u238_2 P, u239_2 P, u240_2 P, u241_2 P, u242_2 P, u243_2 P, u244_2 P, u245_2 P, u246_2 P, u247_2 P, u248_2 P, u249_2 P, u250_2 P, u251_2 P, u252_2 P, u253_2 P, u254_2 P, u255_2 P, u256_2 P, u257_2 P, u258_2 P, u259_2 P, u260_2 P, u261_2 P, u262_2 P, u263_2 P, u264_2 P, u265_2 P, u266_2 P, u267_2 P, u268_3 P, u269_3 P, u270_3 P, u271_3 P, u272_3 P, u273_3 P, u274_3 P, u275_3 P, u276_3 P, u277_3 P, u278_3 P, u279_3 P, u280_3 P, u281_3 P, u282_3 P, u283_3 P, u284_3 P, u285_3 P, u286_3 P, u287_3 P, u288_3 P, u289_3 P, u290_3 P, u291_3 P, u292_3 P, u293_3 P, u294_3 P, u295_3 P, u296_3 P, u297_3 P, u298_3 P, u299_3 P, u300_3 P, u301_3 P, u302_3 P, u303_3 P, u304_3 P, u305_3 P, u306_3 P, u307_3 P, u308_3 P, u309_3 P], {}⟩
theorem t_pre (w : World) (os : OsState) : topGo treeTable tp w 11 (some (.ref 6)) 12 ⟨boot_heap w.params, Array.mk [], boot_drawn, boot_toks, os⟩ (topStub tp) = some (⟨ha w.params, Array.mk [], {}, 187, os⟩, Thread.mk (denote treeTable cE) cE ⟨0, 0, 0, 0⟩ [topFrame ⟨0, 0, 0, 0⟩]) := by kernel_rfl
theorem t_blk (w : World) (os : OsState) : segRun treeTable tp w 11 (some (.ref 6)) 1 1 ⟨ha w.params, Array.mk [], {}, 187, os⟩ (blockOf bE eE cE ⟨0, 0, 0, 0⟩ [topFrame ⟨0, 0, 0, 0⟩]) = some (.next, (st_0 w os).abs, cE, ⟨0, 0, 0, 0⟩) := by kernel_rfl
theorem t_1 (w : World) (os : OsState) : segRunT treeTable tp w 11 (some (.ref 6)) 1 976 (st_0 w os) (piecesOf l_1 eE cE ⟨0, 0, 0, 0⟩ [topFrame ⟨0, 0, 0, 0⟩]) = some (.next, st_1 w os, cE, ⟨26, 0, 26, 8⟩) := by kernel_rfl
theorem t_2 (w : World) (os : OsState) : segRunT treeTable tp w 11 (some (.ref 6)) 1 970 (st_1 w os) (piecesOf l_2 eE cE ⟨26, 0, 26, 8⟩ [topFrame ⟨0, 0, 0, 0⟩]) = some (.next, st_2 w os, cE, ⟨161, 0, 164, 52⟩) := by kernel_rfl
theorem t_3 (w : World) (os : OsState) : segRunT treeTable tp w 11 (some (.ref 6)) 1 188 (st_2 w os) (piecesOf l_3 eE cE ⟨161, 0, 164, 52⟩ [topFrame ⟨0, 0, 0, 0⟩]) = some (.next, st_3 w os, cE, ⟨202, 0, 211, 70⟩) := by kernel_rfl
theorem t_fin (w : World) (os : OsState) : topRun treeTable tp w 11 (some (.ref 6)) 2 (st_3 w os).abs ⟨doneF .next, cE, ⟨202, 0, 211, 70⟩, [topFrame ⟨0, 0, 0, 0⟩]⟩ = some ⟨hf w.params, Array.mk [], {}, 572, os⟩ := by kernel_rfl
theorem l_all : l_1 ++ (l_2 ++ (l_3 ++ ([]))) = bE := by kernel_rfl
theorem run0 (w : World) (os : OsState) : topRun treeTable tp w 11 (some (.ref 6)) (976 + (970 + (188 + (2)))) (st_0 w os).abs (restOf (l_1 ++ (l_2 ++ (l_3 ++ ([])))) eE cE ⟨0, 0, 0, 0⟩ [topFrame ⟨0, 0, 0, 0⟩]) = some ⟨hf w.params, Array.mk [], {}, 572, os⟩ := piece_app (segRun_of (t_1 w os)) (piece_app (segRun_of (t_2 w os)) (piece_app (segRun_of (t_3 w os)) (piece_nil (t_fin w os))))
theorem run (w : World) (os : OsState) : topRun treeTable tp w 11 (some (.ref 6)) (12 + (1 + (976 + (970 + (188 + (2)))))) ⟨boot_heap w.params, Array.mk [], boot_drawn, boot_toks, os⟩ (topStub tp) = some ⟨hf w.params, Array.mk [], {}, 572, os⟩ := by
  have k := run0 w os
  rw [l_all] at k
  exact go_top (t_pre w os) (piece_block (t_blk w os) k)
noncomputable def KK (P : Params) : Frag :=
  (nat_lit 2, boot_o_2 P) :: (nat_lit 3, u3_3 P) :: (nat_lit 20, u20_1 P) :: (nat_lit 21, u21_1 P) :: (nat_lit 30, u30_1 P) :: (nat_lit 31, u31_1 P) :: (nat_lit 32, u32_1 P) :: (nat_lit 43, u43_1 P) :: (nat_lit 44, u44_1 P) :: (nat_lit 59, u59_1 P) :: (nat_lit 60, u60_1 P) :: (nat_lit 62, u62_1 P) :: (nat_lit 63, u63_1 P) :: (nat_lit 74, u74_1 P) :: (nat_lit 75, u75_1 P) :: (nat_lit 83, u83_1 P) :: (nat_lit 84, u84_1 P) :: (nat_lit 90, u90_1 P) :: (nat_lit 91, u91_1 P) :: (nat_lit 97, u97_2 P) :: (nat_lit 98, u98_2 P) :: (nat_lit 104, u104_2 P) :: (nat_lit 105, u105_2 P) :: (nat_lit 109, u109_2 P) :: (nat_lit 110, u110_2 P) :: (nat_lit 123, u123_2 P) :: (nat_lit 124, u124_2 P) :: (nat_lit 130, u130_2 P) :: (nat_lit 131, u131_2 P) :: (nat_lit 137, u137_2 P) :: (nat_lit 138, u138_2 P) :: (nat_lit 144, u144_2 P) :: (nat_lit 145, u145_2 P) :: (nat_lit 151, u151_2 P) :: (nat_lit 152, u152_2 P) :: (nat_lit 158, u158_2 P) :: (nat_lit 159, u159_2 P) :: (nat_lit 161, u161_2 P) :: (nat_lit 162, u162_2 P) :: (nat_lit 163, u163_2 P) :: (nat_lit 164, u164_2 P) :: (nat_lit 172, u172_2 P) :: (nat_lit 173, u173_2 P) :: (nat_lit 179, u179_2 P) :: (nat_lit 180, u180_2 P) :: (nat_lit 184, u184_2 P) :: (nat_lit 185, u185_2 P) :: (nat_lit 191, u191_2 P) :: (nat_lit 192, u192_2 P) :: (nat_lit 196, u196_2 P) :: (nat_lit 197, u197_2 P) :: (nat_lit 203, u203_2 P) :: (nat_lit 204, u204_2 P) :: (nat_lit 210, u210_2 P) :: (nat_lit 211, u211_2 P) :: (nat_lit 217, u217_2 P) :: (nat_lit 218, u218_2 P) :: (nat_lit 224, u224_2 P) :: (nat_lit 225, u225_2 P) :: (nat_lit 231, u231_2 P) :: (nat_lit 232, u232_2 P) :: (nat_lit 238, u238_2 P) :: (nat_lit 239, u239_2 P) :: (nat_lit 245, u245_2 P) :: (nat_lit 246, u246_2 P) :: (nat_lit 252, u252_2 P) :: (nat_lit 253, u253_2 P) :: (nat_lit 259, u259_2 P) :: (nat_lit 260, u260_2 P) :: (nat_lit 266, u266_2 P) :: (nat_lit 267, u267_2 P) :: (nat_lit 273, u273_3 P) :: (nat_lit 274, u274_3 P) :: (nat_lit 280, u280_3 P) :: (nat_lit 281, u281_3 P) :: (nat_lit 287, u287_3 P) :: (nat_lit 288, u288_3 P) :: (nat_lit 294, u294_3 P) :: (nat_lit 295, u295_3 P) :: (nat_lit 301, u301_3 P) :: (nat_lit 302, u302_3 P) :: (nat_lit 308, u308_3 P) :: (nat_lit 309, u309_3 P) :: []
theorem KK_as (P : Params) : [2, 3, 20, 21, 30, 31, 32, 43, 44, 59, 60, 62, 63, 74, 75, 83, 84, 90, 91, 97, 98, 104, 105, 109, 110, 123, 124, 130, 131, 137, 138, 144, 145, 151, 152, 158, 159, 161, 162, 163, 164, 172, 173, 179, 180, 184, 185, 191, 192, 196, 197, 203, 204, 210, 211, 217, 218, 224, 225, 231, 232, 238, 239, 245, 246, 252, 253, 259, 260, 266, 267, 273, 274, 280, 281, 287, 288, 294, 295, 301, 302, 308, 309] = (KK P).map (·.1) := by kernel_rfl
noncomputable abbrev hook : Hook := kHook KK [2, 3, 20, 21, 30, 31, 32, 43, 44, 59, 60, 62, 63, 74, 75, 83, 84, 90, 91, 97, 98, 104, 105, 109, 110, 123, 124, 130, 131, 137, 138, 144, 145, 151, 152, 158, 159, 161, 162, 163, 164, 172, 173, 179, 180, 184, 185, 191, 192, 196, 197, 203, 204, 210, 211, 217, 218, 224, 225, 231, 232, 238, 239, 245, 246, 252, 253, 259, 260, 266, 267, 273, 274, 280, 281, 287, 288, 294, 295, 301, 302, 308, 309] KK_as
theorem left : LeftO tp q [] (fun s => xlAt q [] s && recOk [] s) hook.obs hook.val 5268 :=
  LeftO.of_pieces (boot_open (by kernel_rfl) (by decide) (fun s => by kernel_rfl)) (fun w => by kernel_rfl) run (by decide) (fun w => by kernel_rfl)
theorem said : OpenLaw.wellSaid PySem.Challenge.rw_tautcord_k83_no_cords = true := by kernel_rfl
end My
open PySem PySem.W PyProof.Rows
set_option maxRecDepth 100000 in
set_option maxHeartbeats 0 in
theorem PySem.Challenge.cw_tautcord_k83_no_cords_holds : PySem.Challenge.rw_tautcord_k83_no_cords.Holds := by
  refine holds_law My.said fun said => ?_
  refine holds_open (q := My.q) (loose := []) (Xt := fun s => xlAt My.q [] s && recOk [] s) (XP := XL My.q []) (Yf := Hook.obs My.hook) (Ya := Hook.val My.hook) (YP := Hook.says My.hook) (N := 5268) My.left (Hook.of My.hook) (Hook.keeps My.hook) (fun s e => xl_of s (Bool.and_eq_true_iff.mp e).1) XL.keeps (by rfl) (by rfl) (by rfl) (fun s e => recFacts_of (Bool.and_eq_true_iff.mp e).2) (by rfl) said (by decide +kernel) ⟨rfl, rfl, rfl, rfl, rfl, by decide +kernel⟩ ?hw ?hc
  case hw => w_witness2
  delta My.hook
  k_fill
  refine My.walk (l := PySem.Challenge.rw_tautcord_k83_no_cords) rfl rfl (fun w h Y => PySem.W.kIn_of Y) ?F
  case F =>
    intro w mg fa h KX G hmg
    refine' My.all_mk KX G hmg ?a1 ?l1 ?c1 ?k1 ?a2 ?l2 ?c2 ?k2 ?a3 ?l3 ?c3 ?k3 ?a4 ?l4 ?c4 ?k4 ?a5 ?l5 ?c5 ?k5 ?a6 ?i6 ?l6 ?c6 ?k6 ?a7 ?i7 ?l7 ?c7 ?k7 ?a8 ?i8 ?l8 ?c8 ?k8 ?a9 ?i9 ?l9 ?c9 ?k9 ?a10 ?l10 ?c10 ?k10 ?a11 ?l11 ?c11 ?k11 ?a12 ?l12 ?c12 ?k12 ?a13 ?l13 ?c13 ?k13 ?a14 ?l14 ?c14 ?k14 ?a15 ?l15 ?c15 ?k15 ?a16 ?l16 ?c16 ?k16 ?a17 ?l17 ?c17 ?k17 ?a18 ?l18 ?c18 ?k18 ?a19 ?l19 ?c19 ?k19 ?a20 ?l20 ?c20 ?k20 ?a21 ?l21 ?c21 ?k21 ?a22 ?l22 ?c22 ?k22 ?a23 ?l23 ?c23 ?k23 ?a24 ?l24 ?c24 ?k24 ?a25 ?l25 ?c25 ?k25 ?a26 ?l26 ?c26 ?k26 ?a27 ?l27 ?c27 ?k27 ?a28 ?l28 ?c28 ?k28 ?a29 ?l29 ?c29 ?k29 ?a30 ?l30 ?c30 ?k30 ?n_NoText ?n_CordError ?n_NoCord ?n_NoFraction ?o_NoText ?i_NoText ?x_NoText ?y_NoText ?eis_NoText ?ega_NoText ?eno_NoText ?ecl_NoText ?emb_NoText ?emo_NoText ?x_NoCord ?y_NoCord ?ei_NoCord ?ek_NoCord ?xs_NoCord ?eis_NoCord ?ega_NoCord ?eno_NoCord ?ecl_NoCord ?emb_NoCord ?emo_NoCord ?fo_NoCord ?fh_NoCord ?fs_NoCord ?fn_NoCord ?om_Cord ?pg_Cord ?hd_Cord ?po_Cord ?sa_Cord ?mk_Cord ?kc_Cord ?d1_Cord ?d2_Cord ?d3_Cord ?d4_Cord ?ks_Cord ?nf_Cord_kept_gaps ?nf_Cord_kept_weights ?k_NoText_NoText ?k_NoText_NoCord ?k_NoText_NoFraction ?b_CordError ?z_abs ?z_len ?z_isinstance ?z_int ?z_bool ?z_tuple ?z_range ?z_list ?z_zip ?z_all ?z_str ?q_MOST_BEADS ?q_FIGURES ?q_MOST_FIGURES
    (case om_Cord => k_is); (case n_NoCord => k_is); (case a1 => k_is); (case l1 => k_is)
    (case c1 => k_is); (case k1 => k_is); (case a2 => k_is); (case l2 => k_is)
    (case c2 => k_is); (case k2 => k_is); (case a3 => k_is); (case l3 => k_is)
    (case c3 => k_is); (case k3 => k_is); (case a4 => k_is); (case l4 => k_is)
    (case c4 => k_is); (case k4 => k_is); (case a5 => k_is); (case l5 => k_is)
    (case c5 => k_is); (case k5 => k_is); (case a6 => k_is); (case i6 => k_is)
    (case l6 => k_is); (case c6 => k_is); (case k6 => k_is); (case a7 => k_is)
    (case i7 => k_is); (case l7 => k_is); (case c7 => k_is); (case k7 => k_is)
    (case a8 => k_is); (case i8 => k_is); (case l8 => k_is); (case c8 => k_is)
    (case k8 => k_is); (case a9 => k_is); (case i9 => k_is); (case l9 => k_is)
    (case c9 => k_is); (case k9 => k_is); (case a10 => k_is); (case l10 => k_is)
    (case c10 => k_is); (case k10 => k_is); (case a11 => k_is); (case l11 => k_is)
    (case c11 => k_is); (case k11 => k_is); (case a12 => k_is); (case l12 => k_is)
    (case c12 => k_is); (case k12 => k_is); (case a13 => k_is); (case l13 => k_is)
    (case c13 => k_is); (case k13 => k_is); (case a14 => k_is); (case l14 => k_is)
    (case c14 => k_is); (case k14 => k_is); (case a15 => k_is); (case l15 => k_is)
    (case c15 => k_is); (case k15 => k_is); (case a16 => k_is); (case l16 => k_is)
    (case c16 => k_is); (case k16 => k_is); (case a17 => k_is); (case l17 => k_is)
    (case c17 => k_is); (case k17 => k_is); (case a18 => k_is); (case l18 => k_is)
    (case c18 => k_is); (case k18 => k_is); (case a19 => k_is); (case l19 => k_is)
    (case c19 => k_is); (case k19 => k_is); (case a20 => k_is); (case l20 => k_is)
    (case c20 => k_is); (case k20 => k_is); (case a21 => k_is); (case l21 => k_is)
    (case c21 => k_is); (case k21 => k_is); (case a22 => k_is); (case l22 => k_is)
    (case c22 => k_is); (case k22 => k_is); (case a23 => k_is); (case l23 => k_is)
    (case c23 => k_is); (case k23 => k_is); (case a24 => k_is); (case l24 => k_is)
    (case c24 => k_is); (case k24 => k_is); (case a25 => k_is); (case l25 => k_is)
    (case c25 => k_is); (case k25 => k_is); (case a26 => k_is); (case l26 => k_is)
    (case c26 => k_is); (case k26 => k_is); (case a27 => k_is); (case l27 => k_is)
    (case c27 => k_is); (case k27 => k_is); (case a28 => k_is); (case l28 => k_is)
    (case c28 => k_is); (case k28 => k_is); (case a29 => k_is); (case l29 => k_is)
    (case c29 => k_is); (case k29 => k_is); (case a30 => k_is); (case l30 => k_is)
    (case c30 => k_is); (case k30 => k_is); (case n_NoText => k_is); (case n_CordError => k_is)
    (case n_NoFraction => k_is); (case o_NoText => k_exc); (case i_NoText => k_is); (case x_NoText => kit_is)
    (case y_NoText => rfl); (case eis_NoText => k_is); (case ega_NoText => k_is); (case eno_NoText => k_is)
    (case ecl_NoText => k_is); (case emb_NoText => k_is); (case emo_NoText => k_is); (case x_NoCord => kit_is)
    (case y_NoCord => rfl); (case ei_NoCord => kernel_rfl); (case ek_NoCord => k_is); (case xs_NoCord => kernel_rfl)
    (case eis_NoCord => k_is); (case ega_NoCord => k_is); (case eno_NoCord => k_is); (case ecl_NoCord => k_is)
    (case emb_NoCord => k_is); (case emo_NoCord => k_is); (case fo_NoCord => rfl); (case fh_NoCord => k_is)
    (case fs_NoCord => k_is); (case fn_NoCord => k_is); (case pg_Cord => k_is); (case hd_Cord => k_is)
    (case po_Cord => k_is); (case sa_Cord => k_is); (case mk_Cord => k_is); (case kc_Cord => k_is)
    (case d1_Cord => k_is); (case d2_Cord => k_is); (case d3_Cord => k_is); (case d4_Cord => k_is)
    (case ks_Cord => kit_is); (case nf_Cord_kept_gaps => k_is); (case nf_Cord_kept_weights => k_is); (case k_NoText_NoText => kit_is)
    (case k_NoText_NoCord => kit_is); (case k_NoText_NoFraction => kit_is); (case b_CordError => k_is); (case z_abs => k_is)
    (case z_len => k_is); (case z_isinstance => k_is); (case z_int => k_is); (case z_bool => k_is)
    (case z_tuple => k_is); (case z_range => k_is); (case z_list => k_is); (case z_zip => k_is)
    (case z_all => k_is); (case z_str => k_is); (case q_MOST_BEADS => k_is); (case q_FIGURES => k_is)
    (case q_MOST_FIGURES => k_is)
