import PyProof.Rows.All
import Wide.All
import OpenK.AllK
import Wide.FinOn
import Lean
import PyProof.EqAt
import PyProof.EqKinds
import PyProof.TupleCall
import PySem.Challenge.RW_tautcord_k74_whole_no_worth_rises
set_option Elab.async false
set_option linter.all false
set_option maxRecDepth 100000
/-! THE HAND LAYER, for ints, bools, texts, own classes, LISTS and tuples (index, slices, in, append, pop ..), calls, loops. Paste it whole ahead of your own text; what your proof does not reach may be deleted. -/
namespace L2
open PySem PySem.Spec PyProof.Rows

/-- a key: an int or a str -/
abbrev Key := Sum Int Str
def keyIs : Key → Value → Bool
  | .inl k, v => Value.isInt k v
  | .inr x, v => Value.isStrOf x v
def keyH (w : World) : Key → Int
  | .inl k => hashInt k
  | .inr x => hashStr w x
theorem keyIs_shape : ∀ {k : Key} {v : Value}, keyIs k v = true → (∃ i t, k = Sum.inl i ∧ v = Value.int i t) ∨ (∃ x t, k = Sum.inr x ∧ v = Value.str x t)
  | .inl i, v, h => by
    obtain ⟨t, e⟩ := Value.isInt_shape (k := i) (v := v) h
    exact .inl ⟨i, t, rfl, e⟩
  | .inr x, v, h => by
    obtain ⟨t, e⟩ := Value.isStrOf_shape (x := x) (v := v) h
    exact .inr ⟨x, t, rfl, e⟩
theorem key_ll (a b : Int) : decide ((Sum.inl a : Key) = Sum.inl b) = (a == b) := by
  by_cases e : a = b
  · subst e; simp
  · have h : ¬ (Sum.inl a : Key) = Sum.inl b := fun q => e (Sum.inl.inj q)
    rw [decide_eq_false h]
    exact (beq_eq_false_iff_ne.mpr e).symm
theorem key_rr (a b : Str) : decide ((Sum.inr a : Key) = Sum.inr b) = decide (a = b) := by
  by_cases e : a = b
  · subst e; simp
  · have h : ¬ (Sum.inr a : Key) = Sum.inr b := fun q => e (Sum.inr.inj q)
    rw [decide_eq_false h, decide_eq_false e]
theorem key_lr (a : Int) (b : Str) : decide ((Sum.inl a : Key) = Sum.inr b) = false := decide_eq_false (fun q => nomatch q)
theorem key_rl (a : Str) (b : Int) : decide ((Sum.inr a : Key) = Sum.inl b) = false := decide_eq_false (fun q => nomatch q)

def mixKind (prog : Program) (w : World) : PySem.KeyKind prog w Key where
  is := keyIs
  hash := keyH w
  inj := fun v a b ha hb => by
    rcases keyIs_shape ha with ⟨i, t, rfl, rfl⟩ | ⟨x, t, rfl, rfl⟩
    · rcases keyIs_shape hb with ⟨j, u, rfl, e⟩ | ⟨y, u, rfl, e⟩
      · injection e with e1 _; rw [e1]
      · exact nomatch e
    · rcases keyIs_shape hb with ⟨j, u, rfl, e⟩ | ⟨y, u, rfl, e⟩
      · exact nomatch e
      · injection e with e1 _; rw [e1]
  byValue := fun k v h => by
    rcases keyIs_shape h with ⟨i, t, rfl, rfl⟩ | ⟨x, t, rfl, rfl⟩ <;> rfl
  pyHash := fun hv h => by
    rcases keyIs_shape hv with ⟨i, t, rfl, rfl⟩ | ⟨x, t, rfl, rfl⟩
    · exact wpAny_pyHash_int h
    · exact wpAny_pyHash_str h
  eqBool := fun hu hv h => by
    rcases keyIs_shape hu with ⟨i, t, rfl, rfl⟩ | ⟨x, t, rfl, rfl⟩
    · rcases keyIs_shape hv with ⟨j, u, rfl, rfl⟩ | ⟨y, u, rfl, rfl⟩
      · rw [key_ll] at h; exact wpAny_eqBool_int h
      · rw [key_lr] at h; exact SeqAt.EqAt.int_str i t y u _ _ _ _ h
    · rcases keyIs_shape hv with ⟨j, u, rfl, rfl⟩ | ⟨y, u, rfl, rfl⟩
      · rw [key_rl] at h; exact SeqAt.EqAt.str_int x t j u _ _ _ _ h
      · rw [key_rr] at h; exact wpAny_eqBool_str h
  «strs» := fun k x t v h => by
    rcases keyIs_shape h with ⟨i, u, rfl, e⟩ | ⟨y, u, rfl, e⟩
    · exact nomatch e
    · injection e with e1 _
      subst e1
      cases v <;> rfl

end L2

namespace L2
open PySem PySem.Spec PyProof.Rows

/-- a value, without the heap -/
inductive V where
  | non | bl (b : Bool) | int (i : Int) | str (x : Str) | byt (b : Array UInt8) | flt (b : UInt64) | ref (a : Addr) | ty (n : String)
  deriving DecidableEq

def RelV : V → Value → Prop
  | .non, u => u = Value.none
  | .bl b, u => u = Value.bool b
  | .int i, u => ∃ t, u = Value.int i t
  | .str x, u => ∃ t, u = Value.str x t
  | .byt b, u => ∃ t, u = Value.bytes b t
  | .flt b, u => ∃ t, u = Value.float b t
  | .ref a, u => u = Value.ref a
  | .ty n, u => u = Value.type n

abbrev Vals : List V → List Value → Prop := Paired RelV
theorem Vals.length {xs : List V} {us : List Value} (r : Vals xs us) : xs.length = us.length := Paired.length r
theorem Vals.get : ∀ {xs : List V} {us : List Value} {i : Nat} {x : V}, Vals xs us → xs[i]? = some x → ∃ u, us[i]? = some u ∧ RelV x u
  | _, _, _, _, .nil, e => by simp at e
  | _, _, 0, _, .cons r _, e => by simp at e; subst e; exact ⟨_, rfl, r⟩
  | _, _, i + 1, x, .cons _ t, e => by
    obtain ⟨u, h1, h2⟩ := Vals.get (i := i) (x := x) t (by simpa using e)
    exact ⟨u, by simpa using h1, h2⟩
theorem Vals.append : ∀ {xs ys : List V} {us ws : List Value}, Vals xs us → Vals ys ws → Vals (xs ++ ys) (us ++ ws)
  | _, _, _, _, .nil, s => s
  | _, _, _, _, .cons r t, s => .cons r (Vals.append t s)
theorem Vals.take : ∀ {xs : List V} {us : List Value} (n : Nat), Vals xs us → Vals (xs.take n) (us.take n)
  | _, _, 0, _ => .nil
  | _, _, _ + 1, .nil => .nil
  | _, _, n + 1, .cons r t => .cons r (Vals.take n t)
theorem Vals.drop : ∀ {xs : List V} {us : List Value} (n : Nat), Vals xs us → Vals (xs.drop n) (us.drop n)
  | _, _, 0, r => r
  | _, _, _ + 1, .nil => .nil
  | _, _, n + 1, .cons _ t => Vals.drop n t

def RelO : Option V → Option Value → Prop
  | some v, some u => RelV v u
  | none, none => True
  | _, _ => False
def KV {κ : Type} : List (κ × V) → List (κ × Value) → Prop := Paired fun (p : κ × V) (q : κ × Value) => p.1 = q.1 ∧ RelV p.2 q.2

/-- a key of a dict (00_mix): an int or a text -/
def kV : Key → V
  | .inl i => .int i
  | .inr x => .str x

/-- what stands at a tracked address -/
inductive HO where
  /-- a list -/
  | lst (xs : List V)
  /-- a tuple (never changes) -/
  | tup (xs : List V)
  /-- a dict whose keys are ints and texts; one whose keys are tuples of ints and texts (the empty one is both) -/
  | dK (kvs : List (Key × V)) | dT (kvs : List (List Key × V))
  /-- a set of ints: its members, its size -/
  | set (S : Int → Bool) (n : Nat)
  /-- an instance of the class at C, its dict at dx, its attributes -/
  | ins (C dx : Addr) (fs : List (Str × V))
  /-- the dict of the instance at x -/
  | own (x : Addr)
  /-- the dict of an exception -/
  | xd (fs : List (Str × V))
  /-- a bound method, f of x -/
  | met (f x : Addr)
  /-- a range object lo, lo + 1, .. below hi -/
  | rng (lo hi : Int)
  /-- a thing that is known to the object (the script; a dict while a loop walks it): read, never written while it is so -/
  | frz (o : Obj) (u : HO)
  /-- a code object's table -/
  | tbl (ps : Array Value)
  /-- any other thing, by what is true of its one object (a def of one's own: SetO a S n := HO.ext fun h => ..) -/
  | ext (φ : Heap → Prop)

abbrev Hp := Addr → Option HO
def upd (H : Hp) (a : Addr) (o : HO) : Hp := fun b => if b = a then some o else H b
theorem upd_same {H : Hp} {a : Addr} {o : HO} : upd H a o a = some o := by unfold upd; rw [if_pos rfl]
theorem upd_ne {H : Hp} {a b : Addr} {o : HO} (h : b ≠ a) : upd H a o b = H b := by unfold upd; rw [if_neg h]
/-- two objects of different content stand apart -/
theorem ne_of {H : Hp} {a b : Addr} {o u : HO} (h : H a = some o) (h' : H b = some u) (d : o ≠ u) : a ≠ b := by
  intro e; subst e; rw [h] at h'; exact d (Option.some.inj h')
theorem ne_of_none {H : Hp} {a b : Addr} {o : HO} (h : H a = some o) (h' : H b = none) : a ≠ b := by
  intro e; subst e; rw [h] at h'; cases h'

section
variable (P : Program) (w : World)
def ObjOk (H : Hp) (h : Heap) (a : Addr) : HO → Prop
  | .lst xs => xs.length ≤ sizeLine ∧ ∃ (its : List Value) (n : Nat), Vals xs its ∧ h.get? a = some { cls := .type "list", data := .seq its.toArray n }
  | .tup xs => xs.length ≤ sizeLine ∧ ∃ its : List Value, Vals xs its ∧ IsTup h a its.toArray
  | .dK kvs => kvs.length ≤ sizeLine ∧ (a == sysModules) = false ∧ ∃ vs, KV kvs vs ∧ h.DictOf (mixKind P w) a vs
  | .dT kvs => kvs.length ≤ sizeLine ∧ (a == sysModules) = false ∧ ∃ xs : List (List Key × Addr × Value),
      Paired (fun (p : List Key × V) (q : List Key × Addr × Value) => p.1 = q.1 ∧ H q.2.1 = some (.tup (p.1.map kV)) ∧ RelV p.2 q.2.2) kvs xs ∧
      ∃ o es ep, h.get? a = some o ∧ o.ExactDict ∧ o.data = .dict es ep ∧ es.toList = xs.map (entryOfKey (tupleKind (mixKind P w))) ∧ (xs.map (·.1)).Nodup
  | .set S n => h.SetOf (intKind P w) a S n
  | .ins C dx fs => H dx = some (.own a) ∧ fs.length ≤ 1000 ∧ dx ≠ a ∧ h.get? a = some (PySem.W.instObj C dx) ∧
      ∃ mA, h.Ns1 dx mA ∧ (∀ f, RelO (fs.lookup f) (mA f)) ∧ PySem.Within mA (fs.map (·.1))
  | .own _ => ∃ o, h.get? a = some o
  | .xd fs => ∃ mA, h.Ns1 a mA ∧ ∀ f, RelO (fs.lookup f) (mA f)
  | .rng lo hi => ∃ t u v, h.get? a = some { cls := .type "range", data := .fields #[.int lo t, .int hi u, .int 1 v] }
  | .frz o u => h.get? a = some o ∧ ObjOk H h a u
  | .tbl ps => h.get? a = some { cls := .none, data := .fields ps }
  | .met f x => h.get? a = some (PySem.W.methodObj (.ref f) (.ref x))
  | .ext φ => φ h ∧ (∃ o, h.get? a = some o) ∧ ∀ h1 h2 : Heap, φ h1 → (∀ o, h1.get? a = some o → h2.get? a = some o) → φ h2
/-- the abstract heap is held -/
def HOk (H : Hp) (h : Heap) : Prop := ∀ a o, H a = some o → ObjOk P w H h a o
end

section
variable {P : Program} {w : World} {H H' : Hp} {h h' : Heap} {a : Addr} {o : HO}
theorem ObjOk.lt (x : ObjOk P w H h a o) : a < h.objs.size := by
  cases o with
  | lst xs => obtain ⟨_, _, _, _, e⟩ := x; exact Heap.lt_size e
  | tup xs => obtain ⟨_, _, _, p⟩ := x; exact p.lt
  | dK kvs => obtain ⟨_, _, _, _, o, _, _, e, _⟩ := x; exact Heap.lt_size e
  | dT kvs => obtain ⟨_, _, _, _, o, _, _, e, _⟩ := x; exact Heap.lt_size e
  | set S n => obtain ⟨o, _, _, _, e, _⟩ := x; exact Heap.lt_size e
  | ins C dx fs => obtain ⟨_, _, _, e, _⟩ := x; exact Heap.lt_size e
  | own y => obtain ⟨_, e⟩ := x; exact Heap.lt_size e
  | xd fs => obtain ⟨_, ⟨_, _, _, e, _⟩, _⟩ := x; exact Heap.lt_size e
  | rng lo hi => obtain ⟨_, _, _, e⟩ := x; exact Heap.lt_size e
  | frz ob u => obtain ⟨e, _⟩ := x; exact Heap.lt_size e
  | tbl ps => exact Heap.lt_size (show h.get? a = some _ from x)
  | met f y => exact Heap.lt_size (show h.get? a = some _ from x)
  | ext φ => obtain ⟨_, ⟨_, e⟩, _⟩ := x; exact Heap.lt_size e
theorem Paired.mapP {α β : Type} {F G : α → β → Prop} : ∀ {l₁ : List α} {l₂ : List β}, Paired F l₁ l₂ → (∀ a b, F a b → G a b) → Paired G l₁ l₂
  | _, _, .nil, _ => .nil
  | _, _, .cons r t, f => .cons (f _ _ r) (Paired.mapP t f)
theorem Paired.imp' {α β : Type} {F G : α → β → Prop} (f : ∀ a b, F a b → G a b) {l₁ : List α} {l₂ : List β} (r : Paired F l₁ l₂) : Paired G l₁ l₂ := Paired.mapP r f
/-- what an object's description leans on: its own object, its own dict, the tuples -/
theorem ObjOk.stay (x : ObjOk P w H h a o) (k : ∀ b u, (b = a ∨ H b = some (.own a)) → h.get? b = some u → h'.get? b = some u)
    (ho : ∀ b, H b = some (.own a) → H' b = some (.own a)) (ht : ∀ b xs, H b = some (.tup xs) → H' b = some (.tup xs)) : ObjOk P w H' h' a o := by
  induction o with
  | lst xs => obtain ⟨z, its, n, r, e⟩ := x; exact ⟨z, its, n, r, k _ _ (.inl rfl) e⟩
  | tup xs => obtain ⟨z, its, r, ob, e, c⟩ := x; exact ⟨z, its, r, ob, k _ _ (.inl rfl) e, c⟩
  | dK kvs => obtain ⟨z, y, vs, r, ob, es, ep, e, c⟩ := x; exact ⟨z, y, vs, r, ob, es, ep, k _ _ (.inl rfl) e, c⟩
  | dT kvs =>
    obtain ⟨z, y, xs, r, ob, es, ep, e, c⟩ := x
    exact ⟨z, y, xs, Paired.mapP r fun p q z => ⟨z.1, ht _ _ z.2.1, z.2.2⟩, ob, es, ep, k _ _ (.inl rfl) e, c⟩
  | set S n => obtain ⟨ob, es, ep, t, e, c⟩ := x; exact ⟨ob, es, ep, t, k _ _ (.inl rfl) e, c⟩
  | ins C dx fs =>
    obtain ⟨d, z, ne, e, mA, ⟨od, es, ep, e2, c⟩, r⟩ := x
    exact ⟨ho _ d, z, ne, k _ _ (.inl rfl) e, mA, ⟨od, es, ep, k _ _ (.inr d) e2, c⟩, r⟩
  | own y => obtain ⟨ob, e⟩ := x; exact ⟨ob, k _ _ (.inl rfl) e⟩
  | xd fs => obtain ⟨mA, ⟨od, es, ep, e, c⟩, r⟩ := x; exact ⟨mA, ⟨od, es, ep, k _ _ (.inl rfl) e, c⟩, r⟩
  | rng lo hi => obtain ⟨t, u, v, e⟩ := x; exact ⟨t, u, v, k _ _ (.inl rfl) e⟩
  | frz ob u ih => obtain ⟨e, q⟩ := x; exact ⟨k _ _ (.inl rfl) e, ih q⟩
  | tbl ps =>
    have e : h.get? a = some { cls := .none, data := .fields ps } := x
    show h'.get? a = some { cls := .none, data := .fields ps }
    exact k a _ (.inl rfl) e
  | met f y =>
    have e : h.get? a = some (PySem.W.methodObj (.ref f) (.ref y)) := x
    show h'.get? a = some (PySem.W.methodObj (.ref f) (.ref y))
    exact k a _ (.inl rfl) e
  | ext φ => obtain ⟨p, ⟨o, e⟩, st⟩ := x; exact ⟨st _ _ p fun o q => k _ _ (.inl rfl) q, ⟨o, k _ _ (.inl rfl) e⟩, st⟩
theorem HOk.lt (x : HOk P w H h) (e : H a = some o) : a < h.objs.size := (x a o e).lt
theorem HOk.fresh (x : HOk P w H h) (e : h.objs.size ≤ a) : H a = none := by
  cases q : H a with
  | none => rfl
  | some u => exact absurd (Nat.lt_of_lt_of_le (x.lt q) e) (Nat.lt_irrefl _)
/-- every object of the heap is kept -/
theorem HOk.kept (x : HOk P w H h) (k : ∀ b u, h.get? b = some u → h'.get? b = some u) : HOk P w H h' := fun a o e =>
  (x a o e).stay (fun b u _ q => k b u q) (fun _ q => q) fun _ _ q => q
/-- a new object is laid and tracked -/
theorem HOk.laid (x : HOk P w H h) (k : ∀ b u, h.get? b = some u → h'.get? b = some u) (hp : h.objs.size ≤ a) (new : ObjOk P w (upd H a o) h' a o) : HOk P w (upd H a o) h' := fun b u e => by
  have hn := x.fresh hp
  by_cases hb : b = a
  · subst hb; rw [upd_same] at e; cases e; exact new
  · rw [upd_ne hb] at e
    exact (x b u e).stay (fun c v _ q => k c v q) (fun c q => by rw [upd_ne (ne_of_none q hn)]; exact q) fun c xs q => by rw [upd_ne (ne_of_none q hn)]; exact q
end

/-- what may be read as u: it is u, or a known u -/
def Rd (H : Hp) (a : Addr) (u : HO) : Prop := H a = some u ∨ ∃ o, H a = some (.frz o u)
theorem Rd.ok {P : Program} {w : World} {H : Hp} {h : Heap} {a : Addr} {u : HO} (r : Rd H a u) (x : HOk P w H h) : ObjOk P w H h a u := by
  rcases r with r | ⟨o, r⟩
  · exact x a u r
  · obtain ⟨_, q⟩ := x a _ r
    exact q
/-- what may be written -/
def Mut : Option HO → Prop
  | some (.lst _) => True
  | some (.dK _) => True
  | some (.dT _) => True
  | some (.set _ _) => True
  | some (.ins _ _ _) => True
  | some (.ext _) => True
  | _ => False
section
variable {P : Program} {w : World} {H : Hp} {h h' : Heap} {x e : Addr} {o' : HO}
/-- the object at e is changed: x itself, or the dict of the instance x -/
theorem HOk.write (ok : HOk P w H h) (mu : Mut (H x)) (he : e = x ∨ H e = some (.own x)) (k : ∀ b u, b ≠ e → h.get? b = some u → h'.get? b = some u) (heo : ∃ u, h'.get? e = some u)
    (new : ObjOk P w (upd H x o') h' x o') : HOk P w (upd H x o') h' := fun b u q => by
  have nown : ∀ c y, H c = some (.own y) → c ≠ x := fun c y r z => by subst z; rw [r] at mu; exact mu
  have ntup : ∀ c xs, H c = some (.tup xs) → c ≠ x := fun c xs r z => by subst z; rw [r] at mu; exact mu
  by_cases hb : b = x
  · subst hb; rw [upd_same] at q; cases q; exact new
  · rw [upd_ne hb] at q
    by_cases hbe : b = e
    · have q' : H b = some (.own x) := by
        rcases he with z | z
        · exact absurd (hbe.trans z) hb
        · rw [hbe]; exact z
      rw [q] at q'; cases q'
      obtain ⟨v, hv⟩ := heo
      exact ⟨v, by rw [hbe]; exact hv⟩
    · refine (ok b u q).stay (fun c v hc r => k c v ?_ r) (fun c r => by rw [upd_ne (nown c b r)]; exact r) fun c xs r => by rw [upd_ne (ntup c xs r)]; exact r
      rcases hc with rfl | hc
      · exact hbe
      · rintro rfl
        rcases he with z | z
        · exact nown c b hc z
        · rw [hc] at z; cases z; exact hb rfl
end

/-! ### kept unless tracked; of the frames at fs (the callers') the slots may change (an exception that passes writes there); of the records at ex (iterators) nothing is said -/
structure Un (fs ex : List Addr) (H H' : Hp) (h h' : Heap) : Prop where
  keep : ∀ b o, h.get? b = some o → H b = none → b ∉ fs → b ∉ ex → h'.get? b = some o
  slot : ∀ b o, h.get? b = some o → H b = none → b ∈ fs → b ∉ ex → ∃ sl, h'.get? b = some { o with slots := sl }
  free : ∀ b o, h.get? b = some o → H b = none → b ∉ ex → H' b = none
  there : ∀ b o, h.get? b = some o → b ∉ ex → ∃ o', h'.get? b = some o'
  tups : ∀ b xs, H b = some (.tup xs) → H' b = some (.tup xs)
  frzs : ∀ b o u, H b = some (.frz o u) → H' b = some (.frz o u)
  tbls : ∀ b ps, H b = some (.tbl ps) → ∃ more, H' b = some (.tbl (ps ++ more))
section
variable {fs fs' ex ex' : List Addr} {H H1 H2 : Hp} {h h1 h2 h' : Heap} {a x e : Addr} {o : HO}
theorem Un.any (u : Un fs ex H H1 h h1) {b : Addr} {ob : Obj} (q : h.get? b = some ob) (n : H b = none) (hx : b ∉ ex) : ∃ sl, h1.get? b = some { ob with slots := sl } := by
  by_cases hb : b ∈ fs
  · exact u.slot b ob q n hb hx
  · exact ⟨ob.slots, u.keep b ob q n hb hx⟩
theorem Un.kept (k : ∀ b u, h.get? b = some u → h'.get? b = some u) : Un fs ex H H h h' :=
  ⟨fun b ob q _ _ _ => k b ob q, fun b ob q _ _ _ => ⟨ob.slots, k b ob q⟩, fun _ _ _ n _ => n, fun b ob q _ => ⟨ob, k b ob q⟩, fun _ _ q => q, fun _ _ _ q => q, fun _ ps q => ⟨#[], by rw [q]; simp⟩⟩
theorem Un.refl : Un fs ex H H h h := Un.kept fun _ _ q => q
theorem Un.laid (k : ∀ b u, h.get? b = some u → h'.get? b = some u) (hp : h.objs.size ≤ a) (hn : H a = none) : Un fs ex H (upd H a o) h h' where
  keep := fun b u q _ _ _ => k b u q
  slot := fun b u q _ _ _ => ⟨u.slots, k b u q⟩
  free := fun b u q n _ => by rw [upd_ne (Nat.ne_of_lt (Nat.lt_of_lt_of_le (Heap.lt_size q) hp))]; exact n
  there := fun b u q _ => ⟨u, k b u q⟩
  tups := fun b xs q => by rw [upd_ne (ne_of_none q hn)]; exact q
  frzs := fun b u xs q => by rw [upd_ne (ne_of_none q hn)]; exact q
  tbls := fun b ps q => ⟨#[], by rw [upd_ne (ne_of_none q hn), q]; simp⟩
theorem Un.write (mu : Mut (H x)) (he : e = x ∨ H e = some (.own x)) (k : ∀ b u, b ≠ e → h.get? b = some u → h'.get? b = some u) (heo : ∃ u, h'.get? e = some u) : Un fs ex H (upd H x o) h h' := by
  have hx : ∀ b, H b = none → b ≠ x := fun b n z => by subst z; rw [n] at mu; exact mu
  have hb : ∀ b, H b = none → b ≠ e := fun b n z => by
    subst z
    rcases he with r | r
    · exact hx b n r
    · rw [n] at r; cases r
  have hm : ∀ b u, H b = some u → ¬ Mut (some u) → b ≠ x := fun b u q nm z => by subst z; rw [q] at mu; exact nm mu
  refine ⟨fun b u q n _ _ => k b u (hb b n) q, fun b u q n _ _ => ⟨u.slots, k b u (hb b n) q⟩, fun b u q n _ => by rw [upd_ne (hx b n)]; exact n, fun b u q _ => ?_,
    fun b xs q => by rw [upd_ne (hm b _ q fun z => z)]; exact q, fun b u xs q => by rw [upd_ne (hm b _ q fun z => z)]; exact q, fun b ps q => ⟨#[], by rw [upd_ne (hm b _ q fun z => z), q]; simp⟩⟩
  by_cases hbe : b = e
  · subst hbe; exact heo
  · exact ⟨u, k b u hbe q⟩
end

/-! ### the heap without what is tracked -/
def trk (h : Heap) (H : Hp) : List Addr := (List.range h.objs.size).filter fun a => (H a).isSome
def hidT (h : Heap) (H : Hp) : Heap := PySem.W.hideAll h (trk h H)
theorem hidT_size (h : Heap) (H : Hp) : (hidT h H).objs.size = h.objs.size := PySem.W.hideAll_size _ _
theorem hidT_get {h : Heap} {H : Hp} {b : Addr} {o : Obj} (e : h.get? b = some o) (n : H b = none) : (hidT h H).get? b = some o :=
  PySem.W.hideAll_get _ e fun hm => by
    have q : (H b).isSome = true := (List.mem_filter.mp hm).2
    rw [n] at q; simp at q
theorem of_hidT {h : Heap} {H : Hp} {b : Addr} {o : Obj} (e : (hidT h H).get? b = some o) : h.get? b = some o ∧ H b = none := by
  have e' : h.get? b = some o := PySem.W.of_hideAll (trk h H) e
  refine ⟨e', ?_⟩
  cases q : H b with
  | none => rfl
  | some x =>
    have hm : b ∈ trk h H := List.mem_filter.mpr ⟨List.mem_range.mpr (Heap.lt_size e'), by simp [q]⟩
    have z : (hidT h H).get? b = none := PySem.W.hideAll_none (trk h H) hm
    rw [z] at e; cases e

/-! ### OpenK's ledger, filled with every new object but one -/
def allNews (g h : Heap) (L : Addr) : List (Addr × Obj) := (List.range h.objs.size).filterMap fun a => if a = L ∨ (g.get? a).isSome = true then none else (h.get? a).map fun o => (a, o)
def rest (g h : Heap) (L d : Addr) : List (Addr × Obj) := (allNews g h L).filter fun p => decide (p.1 ≠ d)
end L2

namespace L2
open PySem PySem.Spec PyProof.Rows

/-- the module's facts, over the base: the heap at the law's entry without what is tracked there -/
structure Mod (K : PySem.W.Frag) (mg : Str → Option Value) (base : Heap) : Prop where
  kin : K.In base
  glob : base.Ns mainGlobals mg
  blt : ∃ mb, base.Ns builtinsNs mb ∧ ∀ x : Str, x ≠ "__name__" → mb x = bootBuiltins x
  nolimit : base.NoLimit

/-- the context: a def's body (or a comprehension's block) running. base: fixed through the whole law; s₀, H₀: the entry; outer: the frames whose slots others may change (a def's callers); stack: all frames that run;
   ex: iterators that were made ahead of the entry and are walked here (a comprehension's); fn: the names whose cells were made at the entry (a def: all; a comprehension's block: its own); calm: not within an except suite; pn: pins that every state bears; xe: what is wanted of an exception that leaves the code -/
structure Cx where
  prog : Program
  w : World
  K : PySem.W.Frag
  mg : Str → Option Value
  base : Heap
  A : Around
  N : List Str
  s₀ : Shared
  H₀ : Hp
  env : Env
  outer : List Env
  stack : List Env
  ex : List Addr
  fn : Str → Bool
  calm : Bool
  pn : List (Addr × Obj)
  xe : Value → Shared → Prop
/-- the callers' frames -/
def frs (l : List Env) : List Addr := l.filterMap (·.frame)
abbrev Cx.fs (X : Cx) : List Addr := frs X.outer

def Vis (sc : Scope) (x : Str) : Prop := sc.names.lookup x = some .local ∨ sc.names.lookup x = some .cell ∨ sc.names.lookup x = some .free
def Loc (sc : Scope) (x : Str) : Prop := sc.names.lookup x = some .local ∨ sc.names.lookup x = some .cell
def Look (env : Env) (h : Heap) (m : Str → Option Value) (x : Str) (u : Value) : Prop :=
  (env.kindOf x = some .local ∧ m x = some u) ∨ ((env.kindOf x = some .cell ∨ env.kindOf x = some .free) ∧ ∃ c, env.cells.lookup x = some c ∧ h.IsCell c (some u))

structure Cx.Ok (X : Cx) : Prop where
  mod : Mod X.K X.mg X.base
  kind : X.env.scope.kind = .function
  glob : X.env.globals = mainGlobals
  blt : X.env.builtins = builtinsNs
  above : X.s₀.heap.objs.size ≤ X.env.locals
  inj : ∀ x y c, X.env.cells.lookup x = some c → X.env.cells.lookup y = some c → x = y
  has : ∀ x, (X.env.kindOf x = some .cell ∨ X.env.kindOf x = some .free) → ∃ c, X.env.cells.lookup x = some c
  cab : ∀ x c, X.fn x = true → X.env.cells.lookup x = some c → X.s₀.heap.objs.size ≤ c
  hd : X.calm = true → X.A.handled = none
  frames : X.A.frames = some X.stack
  stk : X.stack = X.outer ∨ (X.stack = X.env :: X.outer ∧ X.env.frame = some X.env.locals)
  exf : ∀ b ∈ X.ex, b ≠ X.env.locals ∧ ∀ x c, X.env.cells.lookup x = some c → c ≠ b
  bs : ∀ b o, X.base.get? b = some o → X.s₀.heap.get? b = some o ∧ X.H₀ b = none
  bsz : X.base.objs.size ≤ X.s₀.heap.objs.size
  noex : ∀ b o, X.base.get? b = some o → b ∉ X.ex
  exfs : ∀ b ∈ X.ex, b ∉ X.fs
  funs : X.s₀.heap.FunFrames X.base X.outer
  frf : ∀ b ∈ X.fs, X.H₀ b = none

structure Inv (X : Cx) (pins : List (Addr × Obj)) (σ : List (Option V)) (H : Hp) (s : Shared) : Prop where
  ok : X.Ok
  os : s.os = X.s₀.os
  bare : AllBare s.gens
  base : Un X.fs X.ex X.H₀ H X.s₀.heap s.heap
  loc : ∃ m, s.heap.Ns X.env.locals m ∧ ∀ (i : Nat) (x : Str) (v : V), X.N[i]? = some x → σ[i]? = some (some v) → Vis X.env.scope x → ∃ u, RelV v u ∧ Look X.env s.heap m x u
  cell : ∀ x c, X.env.cells.lookup x = some c → ∃ v, s.heap.IsCell c v
  free : H X.env.locals = none
  freeC : ∀ x c, X.env.cells.lookup x = some c → H c = none
  pin : ∀ p ∈ X.pn ++ pins, s.heap.get? p.1 = some p.2 ∧ H p.1 = none ∧ p.1 ≠ X.env.locals ∧ p.1 ∉ X.fs ∧ ∀ v, p.2.data ≠ .cell v
  hok : HOk X.prog X.w H s.heap
  len : σ.length = X.N.length

section
variable {X : Cx} {pins : List (Addr × Obj)} {σ : List (Option V)} {H H' : Hp} {s : Shared} {h' : Heap}

theorem Cx.Ok.nofr (ok : X.Ok) {b : Addr} {o : Obj} (e : X.base.get? b = some o) : b ∉ X.fs := fun hb => by
  have := (ok.funs.mem hb).1
  rw [e] at this; cases this
theorem Inv.bs (I : Inv X pins σ H s) : ∀ b o, X.base.get? b = some o → s.heap.get? b = some o ∧ H b = none := fun b o e =>
  ⟨I.base.keep b o (I.ok.bs b o e).1 (I.ok.bs b o e).2 (I.ok.nofr e) (I.ok.noex b o e), I.base.free b o (I.ok.bs b o e).1 (I.ok.bs b o e).2 (I.ok.noex b o e)⟩
theorem Inv.bk (I : Inv X pins σ H s) : ∀ b o, X.base.get? b = some o → s.heap.get? b = some o := fun b o e => (I.bs b o e).1
theorem Inv.mod (I : Inv X pins σ H s) : Mod X.K X.mg X.base := I.ok.mod
theorem Inv.kIn (I : Inv X pins σ H s) : X.K.In s.heap := I.ok.mod.kin.keeps I.bk
theorem Inv.lt (I : Inv X pins σ H s) : X.env.locals < s.heap.objs.size := let ⟨_, hn, _⟩ := I.loc; hn.lt
theorem Inv.sz (I : Inv X pins σ H s) : X.s₀.heap.objs.size ≤ s.heap.objs.size := Nat.le_trans I.ok.above (Nat.le_of_lt I.lt)
theorem Inv.nofs (I : Inv X pins σ H s) {a : Addr} (h : s.heap.objs.size ≤ a) : a ∉ X.fs := fun hb => by
  obtain ⟨_, o, ho, _⟩ := I.ok.funs.mem hb
  exact absurd (Nat.lt_of_lt_of_le (Heap.lt_size ho) (Nat.le_trans I.sz h)) (Nat.lt_irrefl _)
theorem Inv.cne (I : Inv X pins σ H s) : ∀ x c, X.env.cells.lookup x = some c → c ≠ X.env.locals := fun x c e z => by
  obtain ⟨v, o, ho, hd⟩ := I.cell x c e
  obtain ⟨m, ⟨o', es, ep, ho', hd', _⟩, _⟩ := I.loc
  rw [z, ho'] at ho; cases ho; rw [hd'] at hd; cases hd
theorem Inv.funs (I : Inv X pins σ H s) : s.heap.FunFrames X.base X.outer := by
  have all : ∀ (l : List Env), (∀ b ∈ frs l, b ∈ X.fs) → X.s₀.heap.FunFrames X.base l → s.heap.FunFrames X.base l := by
    intro l
    induction l with
    | nil => intro _ _; trivial
    | cons env r ih =>
      intro hs hl
      obtain ⟨hk, ⟨L, o, hf, hn, ho, hd⟩, hr⟩ := hl
      have hL : L ∈ X.fs := hs L (by unfold frs; rw [List.filterMap_cons, hf]; exact List.mem_cons_self)
      obtain ⟨sl, e⟩ := I.base.slot L o ho (I.ok.frf L hL) hL fun z => I.ok.exfs L z hL
      exact ⟨hk, ⟨L, _, hf, hn, e, hd⟩, ih (fun b hb => hs b (by unfold frs; rw [List.filterMap_cons, hf]; exact List.mem_cons_of_mem _ hb)) hr⟩
  exact all X.outer (fun _ hb => hb) I.ok.funs

/-- the frames that run, for a call -/
theorem Inv.stack (I : Inv X pins σ H s) : s.heap.FunFrames X.base X.stack := by
  rcases I.ok.stk with e | ⟨e, hf⟩
  · rw [e]; exact I.funs
  · rw [e]
    obtain ⟨m, hn, _⟩ := I.loc
    refine .cons (by rw [I.ok.kind]; decide) hf hn ?_ I.funs
    exact Heap.get?_none_of_le (Nat.le_trans I.ok.bsz I.ok.above)
theorem Inv.stkSub (I : Inv X pins σ H s) : ∀ b ∈ frs X.stack, b ∈ X.env.locals :: X.fs := fun b hb => by
  rcases I.ok.stk with e | ⟨e, hf⟩
  · rw [e] at hb; exact List.mem_cons_of_mem _ hb
  · rw [e] at hb
    unfold frs at hb
    rw [List.filterMap_cons, hf] at hb
    exact hb
theorem Inv.stkFree (I : Inv X pins σ H s) : ∀ b ∈ frs X.stack, H b = none := fun b hb => by
  rcases List.mem_cons.mp (I.stkSub b hb) with e | hb
  · rw [e]; exact I.free
  · obtain ⟨_, o, ho, _⟩ := I.ok.funs.mem hb
    exact I.base.free b o ho (I.ok.frf b hb) fun z => I.ok.exfs b z hb

/-- THE STEP: the untracked objects but the frame and the records at ch are kept (the callers' frames up to slots), the frame's map is kept, the new abstract heap is held -/
theorem Inv.step {g' : Array GenState} {t' : Nat} {d' : Drawn} {ch : List Addr} (I : Inv X pins σ H s)
    (hch : ∀ b ∈ ch, (b ∈ X.ex ∨ X.s₀.heap.objs.size ≤ b) ∧ b ≠ X.env.locals ∧ (∀ x c, X.env.cells.lookup x = some c → c ≠ b) ∧ ∀ p ∈ X.pn ++ pins, p.1 ≠ b)
    (keep : ∀ b o, b ≠ X.env.locals → b ∉ X.fs → b ∉ ch → s.heap.get? b = some o → H b = none → h'.get? b = some o)
    (slot : ∀ b o, b ≠ X.env.locals → b ∈ X.fs → b ∉ ch → s.heap.get? b = some o → H b = none → ∃ sl, h'.get? b = some { o with slots := sl }) (free : ∀ b o, b ∉ ch → s.heap.get? b = some o → H b = none → H' b = none)
    (there : ∀ b o, b ∉ ch → s.heap.get? b = some o → ∃ o', h'.get? b = some o')
    (tups : ∀ b xs, H b = some (.tup xs) → H' b = some (.tup xs)) (frzs : ∀ b o u, H b = some (.frz o u) → H' b = some (.frz o u)) (tbls : ∀ b ps, H b = some (.tbl ps) → ∃ more, H' b = some (.tbl (ps ++ more)))
    (ns : ∀ m, s.heap.Ns X.env.locals m → h'.Ns X.env.locals m) (hok : HOk X.prog X.w H' h') (hg : AllBare g') :
    Inv X pins σ H' { s with heap := h', gens := g', drawn := d', toks := t' } := by
  have neL : ∀ b o, X.s₀.heap.get? b = some o → b ≠ X.env.locals := fun b o e => Nat.ne_of_lt (Nat.lt_of_lt_of_le (Heap.lt_size e) I.ok.above)
  have neC : ∀ b o, X.s₀.heap.get? b = some o → b ∉ X.ex → b ∉ ch := fun b o e hx hb => by
    rcases (hch b hb).1 with z | z
    · exact hx z
    · exact absurd (Nat.lt_of_lt_of_le (Heap.lt_size e) z) (Nat.lt_irrefl _)
  have cellK : ∀ x c, X.env.cells.lookup x = some c → ∀ v, s.heap.IsCell c v → h'.IsCell c v := fun x c e v ⟨o, ho, hd⟩ => by
    have nch : c ∉ ch := fun z => (hch c z).2.2.1 x c e rfl
    by_cases hc : c ∈ X.fs
    · obtain ⟨sl, q⟩ := slot c o (I.cne x c e) hc nch ho (I.freeC x c e)
      exact ⟨_, q, hd⟩
    · exact ⟨o, keep c o (I.cne x c e) hc nch ho (I.freeC x c e), hd⟩
  refine ⟨I.ok, I.os, hg, ⟨fun b o e n hb hx => ?_, fun b o e n hb hx => ?_, fun b o e n hx => ?_, fun b o e hx => ?_, fun b xs e => tups b xs (I.base.tups b xs e), fun b o xs e => frzs b o xs (I.base.frzs b o xs e), fun b ps e => ?_⟩, ?_, fun x c e => ?_, ?_, fun x c e => ?_, fun p hp => ?_, hok, I.len⟩
  · exact keep b o (neL b o e) hb (neC b o e hx) (I.base.keep b o e n hb hx) (I.base.free b o e n hx)
  · obtain ⟨sl, e1⟩ := I.base.slot b o e n hb hx
    obtain ⟨sl', e2⟩ := slot b _ (neL b o e) hb (neC b o e hx) e1 (I.base.free b o e n hx)
    exact ⟨sl', e2⟩
  · obtain ⟨o', e1⟩ := I.base.there b o e hx
    exact free b o' (neC b o e hx) e1 (I.base.free b o e n hx)
  · obtain ⟨o', e1⟩ := I.base.there b o e hx
    exact there b o' (neC b o e hx) e1
  · obtain ⟨m1, e1⟩ := I.base.tbls b ps e
    obtain ⟨m2, e2⟩ := tbls b _ e1
    exact ⟨m1 ++ m2, by rw [e2, Array.append_assoc]⟩
  · obtain ⟨m, hn, hl⟩ := I.loc
    refine ⟨m, ns m hn, fun i x v e1 e2 e3 => ?_⟩
    obtain ⟨u, r, l⟩ := hl i x v e1 e2 e3
    refine ⟨u, r, ?_⟩
    rcases l with l | ⟨k, c, e, z⟩
    · exact .inl l
    · exact .inr ⟨k, c, e, cellK x c e _ z⟩
  · obtain ⟨v, z⟩ := I.cell x c e
    exact ⟨v, cellK x c e v z⟩
  · obtain ⟨m, ⟨o, _, _, ho, _⟩, _⟩ := I.loc
    exact free _ o (fun z => (hch _ z).2.1 rfl) ho I.free
  · obtain ⟨v, o, ho, hd⟩ := I.cell x c e
    exact free c o (fun z => (hch c z).2.2.1 x c e rfl) ho (I.freeC x c e)
  · obtain ⟨e, n, ne, nf, d⟩ := I.pin p hp
    have nch : p.1 ∉ ch := fun z => (hch p.1 z).2.2.2 p hp rfl
    exact ⟨keep p.1 p.2 ne nf nch e n, free p.1 p.2 nch e n, ne, nf, d⟩
/-- .. where the frame's own object is kept too -/
theorem Inv.un {t' : Nat} (I : Inv X pins σ H s) (u : Un X.fs [] H H' s.heap h') (hok : HOk X.prog X.w H' h') : Inv X pins σ H' { s with heap := h', toks := t' } := by
  obtain ⟨m, ⟨o, es, ep, ho, r⟩, _⟩ := id I.loc
  obtain ⟨sl, hL⟩ := u.any ho I.free (by simp)
  exact I.step (g' := s.gens) (d' := s.drawn) (ch := []) (fun _ z => nomatch z) (fun b o _ hb _ e n => u.keep b o e n hb (by simp)) (fun b o _ hb _ e n => u.slot b o e n hb (by simp)) (fun b o _ e n => u.free b o e n (by simp)) (fun b o _ e => u.there b o e (by simp)) u.tups u.frzs u.tbls (fun m' hm => by
    obtain ⟨o', es', ep', ho', r'⟩ := hm
    rw [ho] at ho'; cases ho'
    exact ⟨_, es', ep', hL, r'⟩) hok I.bare
/-- behind a call (or a comprehension's block): the slots of this frame may have changed too, the records at ch may have turned -/
theorem Inv.call {g' : Array GenState} {t' : Nat} {d' : Drawn} {ch : List Addr} (I : Inv X pins σ H s) (u : Un (frs X.stack) ch H H' s.heap h') (hok : HOk X.prog X.w H' h') (hg : AllBare g')
    (hch : ∀ b ∈ ch, (b ∈ X.ex ∨ X.s₀.heap.objs.size ≤ b) ∧ b ≠ X.env.locals ∧ (∀ x c, X.env.cells.lookup x = some c → c ≠ b) ∧ ∀ p ∈ X.pn ++ pins, p.1 ≠ b) :
    Inv X pins σ H' { s with heap := h', gens := g', drawn := d', toks := t' } := by
  obtain ⟨m, ⟨o, es, ep, ho, r⟩, _⟩ := id I.loc
  obtain ⟨sl, hL⟩ := u.any ho I.free fun z => (hch _ z).2.1 rfl
  exact I.step (ch := ch) hch (fun b o hL hb hc e n => u.keep b o e n (fun z => (List.mem_cons.mp (I.stkSub b z)).elim hL hb) hc) (fun b o _ _ hc e n => u.any e n hc) (fun b o hc e n => u.free b o e n hc) (fun b o hc e => u.there b o e hc) u.tups u.frzs u.tbls (fun m' hm => by
    obtain ⟨o', es', ep', ho', r'⟩ := hm
    rw [ho] at ho'; cases ho'
    exact ⟨_, es', ep', hL, r'⟩) hok hg
/-- an untracked record of ours (an iterator) has turned -/
theorem Inv.turned {t' : Nat} {it : Addr} (I : Inv X pins σ H s) (k : ∀ b o, b ≠ it → s.heap.get? b = some o → h'.get? b = some o) (hn : H it = none) (hL : it ≠ X.env.locals)
    (h1 : it ∈ X.ex ∨ X.s₀.heap.objs.size ≤ it) (h2 : ∀ x c, X.env.cells.lookup x = some c → c ≠ it) (h3 : ∀ p ∈ X.pn ++ pins, p.1 ≠ it) : Inv X pins σ H { s with heap := h', toks := t' } := by
  have nit : ∀ b u, H b = some u → b ≠ it := fun b u e z => by rw [z, hn] at e; cases e
  refine I.step (g' := s.gens) (d' := s.drawn) (ch := [it]) (fun b hb => ?_) (fun b o _ _ hc e _ => k b o (fun z => hc (by simp [z])) e) (fun b o _ _ hc e _ => ⟨o.slots, k b o (fun z => hc (by simp [z])) e⟩) (fun _ _ _ _ n => n)
    (fun b o hc e => ⟨o, k b o (fun z => hc (by simp [z])) e⟩) (fun _ _ e => e) (fun _ _ _ e => e) (fun b ps e => ⟨#[], by rw [e]; simp⟩) (fun m hm => ?_) (fun b u e => ?_) I.bare
  · have e : b = it := by simpa using hb
    subst e
    exact ⟨h1, hL, h2, h3⟩
  · obtain ⟨o, es, ep, ho, r⟩ := hm
    exact ⟨o, es, ep, k _ o (Ne.symm hL) ho, r⟩
  · refine (I.hok b u e).stay (fun c v hc q => k c v ?_ q) (fun _ q => q) fun _ _ q => q
    rcases hc with z | z
    · rw [z]; exact nit b u e
    · exact nit c _ z
theorem Inv.tok (I : Inv X pins σ H s) (t : Nat) : Inv X pins σ H { s with toks := t } := I.un (h' := s.heap) (t' := t) Un.refl I.hok
/-- all objects kept -/
theorem Inv.kept {t' : Nat} (I : Inv X pins σ H s) (k : ∀ b u, s.heap.get? b = some u → h'.get? b = some u) : Inv X pins σ H { s with heap := h', toks := t' } := I.un (Un.kept k) (I.hok.kept k)
/-- a new object laid and tracked -/
theorem Inv.laid {a : Addr} {o : HO} {t' : Nat} (I : Inv X pins σ H s) (k : ∀ b u, s.heap.get? b = some u → h'.get? b = some u) (hp : s.heap.objs.size ≤ a) (new : ObjOk X.prog X.w (upd H a o) h' a o) :
    Inv X pins σ (upd H a o) { s with heap := h', toks := t' } := I.un (Un.laid k hp (I.hok.fresh hp)) (I.hok.laid k hp new)
/-- an object written -/
theorem Inv.write {x e : Addr} {o : HO} {t' : Nat} (I : Inv X pins σ H s) (mu : Mut (H x)) (he : e = x ∨ H e = some (.own x)) (k : ∀ b u, b ≠ e → s.heap.get? b = some u → h'.get? b = some u) (heo : ∃ u, h'.get? e = some u)
    (new : ObjOk X.prog X.w (upd H x o) h' x o) : Inv X pins σ (upd H x o) { s with heap := h', toks := t' } := I.un (Un.write mu he k heo) (I.hok.write mu he k heo new)
/-- forgetting slots, pins -/
theorem Inv.weak {σ' : List (Option V)} (I : Inv X pins σ H s) (hl : σ'.length = σ.length) (w : ∀ (i : Nat) v, σ'[i]? = some (some v) → σ[i]? = some (some v)) : Inv X pins σ' H s :=
  ⟨I.ok, I.os, I.bare, I.base, let ⟨m, hn, hl'⟩ := I.loc; ⟨m, hn, fun i x v e1 e2 e3 => hl' i x v e1 (w i v e2) e3⟩, I.cell, I.free, I.freeC, I.pin, I.hok, hl.trans I.len⟩
theorem Inv.pins_of {pins' : List (Addr × Obj)} (I : Inv X pins σ H s) (h : ∀ p ∈ pins', s.heap.get? p.1 = some p.2 ∧ H p.1 = none ∧ p.1 ≠ X.env.locals ∧ p.1 ∉ X.fs ∧ ∀ v, p.2.data ≠ .cell v) : Inv X pins' σ H s :=
  ⟨I.ok, I.os, I.bare, I.base, I.loc, I.cell, I.free, I.freeC, fun p hp => (List.mem_append.mp hp).elim (fun z => I.pin p (List.mem_append_left _ z)) (h p), I.hok, I.len⟩

theorem nodup_ix {N : List Str} (hN : N.Nodup) {i j : Nat} {x : Str} (a : N[i]? = some x) (b : N[j]? = some x) : i = j := by
  obtain ⟨h1, e1⟩ := List.getElem?_eq_some_iff.mp a
  obtain ⟨h2, e2⟩ := List.getElem?_eq_some_iff.mp b
  exact (List.getElem_inj hN).mp (e1.trans e2.symm)

/-- a name is stored; what changed -/
theorem store_ok2 {M : Model} {A : Around} {E : Value → Shared → Prop} {i : Nat} {x : Str} {v : V} {u : Value} {Q : Unit → Shared → Prop} (I : Inv X pins σ H s) (hN : X.N.Nodup) (hi : X.N[i]? = some x) (hx : Loc X.env.scope x) (r : RelV v u)
    (h : ∀ s', Inv X pins (σ.set i (some v)) H s' → (∃ a, Heap.SameBut a s.heap s'.heap ∧ (a = X.env.locals ∨ X.env.cells.lookup x = some a)) → Q () s') (hf : X.fn x = true ∨ X.env.scope.names.lookup x = some .local := by first | exact .inl rfl | exact .inr rfl | assumption) : wpAny M A (storeName X.env x u) Q E s := by
  obtain ⟨m, hn, hl⟩ := id I.loc
  have hcls : (X.env.scope.kind == .class || (X.env.scope.kind == .module && X.env.locals != X.env.globals)) = false := by rw [I.ok.kind]; rfl
  have hiσ : i < σ.length := by rw [I.len]; exact (List.getElem?_eq_some_iff.mp hi).1
  have cne := I.cne
  have tracked : ∀ {a : Addr} {h' : Heap}, (∃ o, s.heap.get? a = some o ∧ H a = none) → Heap.SameBut a s.heap h' → HOk X.prog X.w H h' := fun {a h'} ha hs b ob e => by
    obtain ⟨_, _, hfree⟩ := ha
    refine (I.hok b ob e).stay (fun c w' hc q => (hs.2 c ?_).trans q) (fun _ q => q) fun _ _ q => q
    rintro rfl
    rcases hc with rfl | hc
    · rw [hfree] at e; cases e
    · rw [hfree] at hc; cases hc
  rcases hx with hk | hk
  · refine wpAny_storeName_local hk hn (fun h' hn' hs => ?_) hcls
    obtain ⟨oL, _, _, hoL, _⟩ := id hn
    refine h _ ⟨I.ok, I.os, I.bare, ⟨fun b o e n hb hx => ?_, fun b o e n hb hx => ?_, I.base.free, fun b o e hx => ?_, I.base.tups, I.base.frzs, I.base.tbls⟩, ⟨_, hn', fun j y v' e1 e2 e3 => ?_⟩, fun y c e => ?_, I.free, I.freeC, fun p hp => ?_, tracked ⟨oL, hoL, I.free⟩ hs, by simpa using I.len⟩ ⟨_, hs, .inl rfl⟩
    · exact (hs.2 b (Nat.ne_of_lt (Nat.lt_of_lt_of_le (Heap.lt_size e) I.ok.above))).trans (I.base.keep b o e n hb hx)
    · obtain ⟨sl, e1⟩ := I.base.slot b o e n hb hx
      exact ⟨sl, (hs.2 b (Nat.ne_of_lt (Nat.lt_of_lt_of_le (Heap.lt_size e) I.ok.above))).trans e1⟩
    · obtain ⟨o', e1⟩ := I.base.there b o e hx
      exact ⟨o', (hs.2 b (Nat.ne_of_lt (Nat.lt_of_lt_of_le (Heap.lt_size e) I.ok.above))).trans e1⟩
    · by_cases hj : j = i
      · subst hj
        rw [hi] at e1; cases e1
        rw [List.getElem?_set_self hiσ] at e2
        cases e2
        exact ⟨u, r, .inl ⟨hk, by simp⟩⟩
      · rw [List.getElem?_set_ne (Ne.symm hj)] at e2
        obtain ⟨u', r', q⟩ := hl j y v' e1 e2 e3
        refine ⟨u', r', ?_⟩
        rcases q with ⟨k, e⟩ | ⟨k, c, e, z⟩
        · refine .inl ⟨k, ?_⟩
          have : y ≠ x := fun e => hj (nodup_ix hN e1 (e ▸ hi))
          simp [this, e]
        · exact .inr ⟨k, c, e, z.sameBut hs (cne y c e)⟩
    · obtain ⟨w', z⟩ := I.cell y c e
      exact ⟨w', z.sameBut hs (cne y c e)⟩
    · obtain ⟨e, n, ne, nf, d⟩ := I.pin p hp
      exact ⟨(hs.2 p.1 ne).trans e, n, ne, nf, d⟩
  · have hfn : X.fn x = true := by
      rcases hf with z | z
      · exact z
      · rw [z] at hk; cases hk
    obtain ⟨c, hc⟩ := I.ok.has x (.inl hk)
    obtain ⟨w', z⟩ := I.cell x c hc
    refine wpAny_storeName_cell I.ok.kind hk hc z (fun h' hc' hs => ?_)
    obtain ⟨oc, hoc, hocd⟩ := id z
    refine h { s with heap := h' } ⟨I.ok, I.os, I.bare, ⟨fun b o e n hb hx => ?_, fun b o e n hb hx => ?_, I.base.free, fun b o e hx => ?_, I.base.tups, I.base.frzs, I.base.tbls⟩, ⟨m, hn.sameBut hs (Ne.symm (cne x c hc)), fun j y v' e1 e2 e3 => ?_⟩, fun y c' e => ?_, I.free, I.freeC, fun p hp => ?_, tracked ⟨oc, hoc, I.freeC x c hc⟩ hs, by simpa using I.len⟩ ⟨c, hs, .inr hc⟩
    · exact (hs.2 b (Nat.ne_of_lt (Nat.lt_of_lt_of_le (Heap.lt_size e) (I.ok.cab x c hfn hc)))).trans (I.base.keep b o e n hb hx)
    · obtain ⟨sl, e1⟩ := I.base.slot b o e n hb hx
      exact ⟨sl, (hs.2 b (Nat.ne_of_lt (Nat.lt_of_lt_of_le (Heap.lt_size e) (I.ok.cab x c hfn hc)))).trans e1⟩
    · obtain ⟨o', e1⟩ := I.base.there b o e hx
      exact ⟨o', (hs.2 b (Nat.ne_of_lt (Nat.lt_of_lt_of_le (Heap.lt_size e) (I.ok.cab x c hfn hc)))).trans e1⟩
    · by_cases hj : j = i
      · subst hj
        rw [hi] at e1; cases e1
        rw [List.getElem?_set_self hiσ] at e2
        cases e2
        exact ⟨u, r, .inr ⟨.inl hk, c, hc, hc'⟩⟩
      · rw [List.getElem?_set_ne (Ne.symm hj)] at e2
        obtain ⟨u', r', q⟩ := hl j y v' e1 e2 e3
        refine ⟨u', r', ?_⟩
        rcases q with q | ⟨k, c', e, z'⟩
        · exact .inl q
        · refine .inr ⟨k, c', e, z'.sameBut hs ?_⟩
          rintro rfl
          exact hj (nodup_ix hN e1 (I.ok.inj _ _ _ e hc ▸ hi))
    · by_cases hcc : c' = c
      · subst hcc; exact ⟨_, hc'⟩
      · obtain ⟨w2, z2⟩ := I.cell y c' e
        exact ⟨w2, z2.sameBut hs hcc⟩
    · obtain ⟨e, n, ne, nf, d⟩ := I.pin p hp
      refine ⟨(hs.2 p.1 ?_).trans e, n, ne, nf, d⟩
      intro q
      rw [q, hoc] at e
      have q' : oc = p.2 := Option.some.inj e
      exact d w' (by rw [← q']; exact hocd)
theorem store_ok {M : Model} {A : Around} {E : Value → Shared → Prop} {i : Nat} {x : Str} {v : V} {u : Value} {Q : Unit → Shared → Prop} (I : Inv X pins σ H s) (hN : X.N.Nodup) (hi : X.N[i]? = some x) (hx : Loc X.env.scope x) (r : RelV v u)
    (h : ∀ s', Inv X pins (σ.set i (some v)) H s' → Q () s') (hf : X.fn x = true ∨ X.env.scope.names.lookup x = some .local := by first | exact .inl rfl | exact .inr rfl | assumption) : wpAny M A (storeName X.env x u) Q E s :=
  store_ok2 I hN hi hx r (fun s' I' _ => h s' I') hf
/-- behind a call or a block, the state as it is -/
theorem Inv.call' {s' : Shared} {ch : List Addr} (I : Inv X pins σ H s) (ho : s'.os = s.os) (u : Un (frs X.stack) ch H H' s.heap s'.heap) (hok : HOk X.prog X.w H' s'.heap) (hg : AllBare s'.gens)
    (hch : ∀ b ∈ ch, (b ∈ X.ex ∨ X.s₀.heap.objs.size ≤ b) ∧ b ≠ X.env.locals ∧ (∀ x c, X.env.cells.lookup x = some c → c ≠ b) ∧ ∀ p ∈ X.pn ++ pins, p.1 ≠ b) : Inv X pins σ H' s' := by
  obtain ⟨h', g', d', t', o'⟩ := s'
  have e : o' = s.os := ho
  subst e
  exact I.call (g' := g') (t' := t') (d' := d') u hok hg hch
end

/-! ### the judgements -/
/-- an exception: its class, its own dict's address (where it has one), the abstract heap behind it -/
abbrev XK := Value → Option Addr → Hp → Prop
abbrev St := List (Option V)
abbrev VK := V → Hp → Prop
/-- an expression's reading; a test's; an argument list's -/
abbrev TE := St → Hp → VK → Prop
abbrev TT := St → Hp → (Bool → Hp → Prop) → Prop
abbrev TA := St → Hp → (List V → Hp → Prop) → Prop
/-- what is wanted behind a statement -/
structure Ends where
  nx : St → Hp → Prop
  rt : VK
  bk : St → Hp → Prop := fun _ _ => False
  ct : St → Hp → Prop := fun _ _ => False
abbrev TS := Ends → St → Hp → Prop

def EP (X : Cx) (pins : List (Addr × Obj)) (σ : St) (Q : VK) (u : Value) (s' : Shared) : Prop := ∃ v H', Inv X pins σ H' s' ∧ RelV v u ∧ Q v H'
def TP (X : Cx) (pins : List (Addr × Obj)) (σ : St) (Q : Bool → Hp → Prop) (b : Bool) (s' : Shared) : Prop := ∃ H', Inv X pins σ H' s' ∧ Q b H'
def AP (X : Cx) (pins : List (Addr × Obj)) (σ : St) (Q : List V → Hp → Prop) (us : List Value) (s' : Shared) : Prop := ∃ vs H', Inv X pins σ H' s' ∧ Vals vs us ∧ Q vs H'
def SP (X : Cx) (pins : List (Addr × Obj)) (D : Ends) (f : Flow) (s' : Shared) : Prop :=
  match f with
  | .next => ∃ σ' H', Inv X pins σ' H' s' ∧ D.nx σ' H'
  | .brk => ∃ σ' H', Inv X pins σ' H' s' ∧ D.bk σ' H'
  | .cont => ∃ σ' H', Inv X pins σ' H' s' ∧ D.ct σ' H'
  | .ret u => ∃ v σ' H', Inv X pins σ' H' s' ∧ RelV v u ∧ D.rt v H'

def PE (X : Cx) (e : Expr) (t : TE) : Prop :=
  ∀ (pins : List (Addr × Obj)) (s : Shared) (σ : St) (H : Hp) (Q : VK), Inv X pins σ H s → t σ H Q → wpAny (model X.prog X.w) X.A (eval e X.env) (EP X pins σ Q) X.xe s
def PT (X : Cx) (e : Expr) (t : TT) : Prop :=
  ∀ (pins : List (Addr × Obj)) (s : Shared) (σ : St) (H : Hp) (Q : Bool → Hp → Prop), Inv X pins σ H s → t σ H Q → wpAny (model X.prog X.w) X.A (isTrue e X.env (eval e X.env)) (TP X pins σ Q) X.xe s
/-- a test whatever its 'whole' is (and, or) -/
def PW (X : Cx) (e : Expr) (t : TT) : Prop :=
  ∀ (whole : Sem Value) (pins : List (Addr × Obj)) (s : Shared) (σ : St) (H : Hp) (Q : Bool → Hp → Prop), Inv X pins σ H s → t σ H Q → wpAny (model X.prog X.w) X.A (isTrue e X.env whole) (TP X pins σ Q) X.xe s
theorem PW.pt {X : Cx} {e : Expr} {t : TT} (h : PW X e t) : PT X e t := h _
/-- an argument list (no star), from the left -/
def PA (X : Cx) (es : List Expr) (t : TA) : Prop :=
  ∀ (pos : Pos) (pins : List (Addr × Obj)) (s : Shared) (σ : St) (H : Hp) (Q : List V → Hp → Prop), Inv X pins σ H s → t σ H Q → wpAny (model X.prog X.w) X.A (spliced (backTo pos (starEach es X.env))) (AP X pins σ Q) X.xe s
def PS (X : Cx) (st : Stmt) (t : TS) : Prop :=
  ∀ (pins : List (Addr × Obj)) (s : Shared) (σ : St) (H : Hp) (D : Ends), Inv X pins σ H s → t D σ H → wpAny (model X.prog X.w) X.A (exec st X.env) (SP X pins D) X.xe s
def PSs (X : Cx) (st : List Stmt) (t : TS) : Prop :=
  ∀ (pins : List (Addr × Obj)) (s : Shared) (σ : St) (H : Hp) (D : Ends), Inv X pins σ H s → t D σ H → wpAny (model X.prog X.w) X.A (execs st X.env) (SP X pins D) X.xe s
/-- weaken the end -/
theorem thn {α : Type} {t : Sem α} {Q Q' : α → Shared → Prop} {M : Model} {A : Around} {E : Value → Shared → Prop} {s : Shared} (h : wpAny M A t Q E s) (hQ : ∀ a s, Q a s → Q' a s) : wpAny M A t Q' E s := wpAny_mono h hQ fun _ _ x => x
end L2

namespace L2
open PySem PySem.Spec PyProof.Rows
section
variable {X : Cx}


/-! ### names and constants -/
def tVar (i : Nat) : TE := fun σ H Q => ∃ v, σ[i]? = some (some v) ∧ Q v H
def tC (v : V) : TE := fun _ H Q => Q v H
theorem pe_var {i : Nat} {x : Str} {pos : Pos} (hN : X.N[i]? = some x) (hv : Vis X.env.scope x) (hd : (x == ("__debug__" : Str)) = false := by decide) (hcd : (x == ("__classdict__" : Str)) = false := by decide) : PE X (.Name x pos) (tVar i) := by
  intro pins s σ H Q I h
  obtain ⟨v, e, h⟩ := h
  obtain ⟨m, hn, hl⟩ := I.loc
  obtain ⟨u, r, l⟩ := hl i x v hN e hv
  have fin : EP X pins σ Q u s := ⟨v, H, I, r, h⟩
  rcases l with ⟨hk, hm⟩ | ⟨hk, c, hc, hcell⟩
  · exact wpAny_Name (wpAny_loadName_local I.ok.kind hk hn hm fin) hd
  · rcases hk with hk | hk
    · exact wpAny_Name (wpAny_loadName_cell I.ok.kind hk hc hcell fin) hd
    · exact wpAny_Name (wpAny_loadName_free I.ok.kind hk hc hcell fin hcd) hd
theorem pe_int {i j pos} : PE X (.Constant (.int i) j pos) (tC (.int i)) := fun _ _ _ H _ I h => wpAny_Constant_int ⟨.int i, H, I.tok _, ⟨_, rfl⟩, h⟩
theorem pe_bl {b j pos} : PE X (.Constant (.bool b) j pos) (tC (.bl b)) := fun _ _ _ H _ I h => Constant_bool ⟨.bl b, H, I, rfl, h⟩
theorem pe_non {j pos} : PE X (.Constant .none j pos) (tC .non) := fun _ _ _ H _ I h => Constant_none ⟨.non, H, I, rfl, h⟩
theorem pe_str {x j pos} : PE X (.Constant (.str x) j pos) (tC (.str x)) := fun _ _ _ H _ I h => Calls.Constant_str ⟨.str x, H, I.tok _, ⟨_, rfl⟩, h⟩

/-- a global name of the def -/
def Gl (X : Cx) (x : Str) : Prop := X.env.kindOf x = some .globalImplicit
theorem ld_glob {E : Value → Shared → Prop} {pins : List (Addr × Obj)} {s : Shared} {σ : St} {H : Hp} {x : Str} {u : Value} {pos : Pos} {Q : Value → Shared → Prop} (I : Inv X pins σ H s) (hg : Gl X x) (hm : X.mg x = some u) (h : Q u s)
    (hd : (x == ("__debug__" : Str)) = false := by decide) : wpAny (model X.prog X.w) X.A (eval (.Name x pos) X.env) Q E s :=
  Calls.Name_function_global I.ok.kind hg (Calls.loadGlobal_global (by rw [I.ok.glob]; exact I.mod.glob.keeps I.bk) hm h) hd
theorem ld_blt {E : Value → Shared → Prop} {pins : List (Addr × Obj)} {s : Shared} {σ : St} {H : Hp} {x : Str} {u : Value} {pos : Pos} {Q : Value → Shared → Prop} (I : Inv X pins σ H s) (hg : Gl X x) (hm : X.mg x = none) (hv : bootBuiltins x = some u) (h : Q u s)
    (hn : x ≠ "__name__" := by decide) (hd : (x == ("__debug__" : Str)) = false := by decide) : wpAny (model X.prog X.w) X.A (eval (.Name x pos) X.env) Q E s := by
  obtain ⟨mb, h1, h2⟩ := I.mod.blt
  exact Calls.Name_function_global I.ok.kind hg (Calls.loadGlobal_builtin (by rw [I.ok.glob]; exact I.mod.glob.keeps I.bk) hm (by rw [I.ok.blt]; exact h1.keeps I.bk) ((h2 x hn).trans hv) h) hd
/-- a module's constant, a class, a function, as a value -/
theorem pe_glob {x : Str} {v : V} {u : Value} {pos : Pos} (hg : Gl X x) (hm : X.mg x = some u) (r : RelV v u) (hd : (x == ("__debug__" : Str)) = false := by decide) : PE X (.Name x pos) (tC v) :=
  fun _ _ _ H _ I h => ld_glob I hg hm ⟨v, H, I, r, h⟩ hd
theorem pe_bltn {x : Str} {v : V} {u : Value} {pos : Pos} (hg : Gl X x) (hm : X.mg x = none) (hv : bootBuiltins x = some u) (r : RelV v u) (hn : x ≠ "__name__" := by decide) (hd : (x == ("__debug__" : Str)) = false := by decide) : PE X (.Name x pos) (tC v) :=
  fun _ _ _ H _ I h => ld_blt I hg hm hv ⟨v, H, I, r, h⟩ hn hd

/-! ### arithmetic -/
/-- two ints -/
def t2I (ta tb : TE) (k : Int → Int → Hp → Prop) : St → Hp → Prop := fun σ H => ta σ H fun x H1 => tb σ H1 fun y H2 => ∃ i j, x = .int i ∧ y = .int j ∧ k i j H2
def tAdd (ta tb : TE) : TE := fun σ H Q => t2I ta tb (fun i j H2 => Q (.int (i + j)) H2) σ H
def tSub (ta tb : TE) : TE := fun σ H Q => t2I ta tb (fun i j H2 => Q (.int (i - j)) H2) σ H
/-- the left factor below 2^64 -/
def tMul (ta tb : TE) : TE := fun σ H Q => t2I ta tb (fun i j H2 => (-(2 ^ 64) < i ∧ i < 2 ^ 64) ∧ Q (.int (i * j)) H2) σ H
variable {a b : Expr} {ta tb : TE} {pos : Pos}

/-! ### comparisons -/
def PC (X : Cx) (op : CmpOp) (a b : Expr) (t : TE) : Prop :=
  ∀ (pins : List (Addr × Obj)) (s : Shared) (σ : St) (H : Hp) (Q : VK), Inv X pins σ H s → t σ H Q →
    wpAny (model X.prog X.w) X.A (eval a X.env) (fun v s₁ => wpAny (model X.prog X.w) X.A (eval b X.env) (fun u s₂ => wpAny (model X.prog X.w) X.A (compareOp op v u) (EP X pins σ Q) X.xe s₂) X.xe s₁) X.xe s
def tCmp (p : Int → Int → Bool) (ta tb : TE) : TE := fun σ H Q => t2I ta tb (fun i j H2 => Q (.bl (p i j)) H2) σ H
abbrev tLt : TE → TE → TE := tCmp fun i j => decide (i < j)
abbrev tLe : TE → TE → TE := tCmp fun i j => decide (i ≤ j)
abbrev tGt : TE → TE → TE := tCmp fun i j => decide (j < i)
abbrev tGe : TE → TE → TE := tCmp fun i j => decide (j ≤ i)
abbrev tEqI : TE → TE → TE := tCmp fun i j => decide (i = j)
abbrev tNeI : TE → TE → TE := tCmp fun i j => !decide (i = j)
/-- is None -/
def tIsN (ta : TE) : TE := fun σ H Q => ta σ H fun x H1 => Q (.bl (decide (x = .non))) H1
def tNotN (ta : TE) : TE := fun σ H Q => ta σ H fun x H1 => Q (.bl (!decide (x = .non))) H1
/-- a comparison as a value, as a test -/
def tB (t : TE) : TT := fun σ H Q => t σ H fun x H1 => ∃ c, x = .bl c ∧ Q c H1
/-- an expression whose value is a bool, as a test -/
theorem pt_val {e : Expr} {t : TE} (h : PE X e t) (he : ∀ whole, isTrue e X.env whole = (do let v ← whole; standAt e.pos; holding [v] (truthy v)) := by intro _; rfl) : PT X e (tB t) := by
  intro pins s σ H Q I hw
  refine isTrue_plain (thn (h pins s σ H _ I hw) fun v s1 ⟨x, H1, I1, r1, q1⟩ => ?_) (he _)
  obtain ⟨d, rfl, q⟩ := q1
  cases r1
  exact wpAny_truthy_bool ⟨H1, I1, q⟩

/-! ### and, or, not -/
variable {tA tB' : TT} {rest : List Expr}
def tAnd (t u : TT) : TT := fun σ H Q => t σ H fun c H1 => if c = true then u σ H1 Q else Q false H1
def tOr (t u : TT) : TT := fun σ H Q => t σ H fun c H1 => if c = true then Q true H1 else u σ H1 Q
def tNot (t : TT) : TT := fun σ H Q => t σ H fun c H1 => Q (!c) H1
theorem pw_and1 (ha : PT X a tA) : PW X (.BoolOp .And [a] pos) tA := by
  intro wh pins s σ H Q I h
  refine isTrue_and (thn (ha pins s σ H Q I h) fun c s1 e => ?_)
  cases c with
  | true => exact isTrue_and_nil e
  | false => exact e
theorem pw_or1 (ha : PT X a tA) : PW X (.BoolOp .Or [a] pos) tA := by
  intro wh pins s σ H Q I h
  refine isTrue_or (thn (ha pins s σ H Q I h) fun c s1 e => ?_)
  cases c with
  | false => exact isTrue_or_nil e
  | true => exact e
theorem pw_and (ha : PT X a tA) (hb : PW X (.BoolOp .And (b :: rest) pos) tB') : PW X (.BoolOp .And (a :: b :: rest) pos) (tAnd tA tB') := by
  intro wh pins s σ H Q I h
  refine isTrue_and (thn (ha pins s σ H _ I h) fun c s1 ⟨H1, I1, q1⟩ => ?_)
  cases c with
  | true => exact hb wh pins s1 σ H1 Q I1 q1
  | false => exact ⟨H1, I1, q1⟩
theorem pw_or (ha : PT X a tA) (hb : PW X (.BoolOp .Or (b :: rest) pos) tB') : PW X (.BoolOp .Or (a :: b :: rest) pos) (tOr tA tB') := by
  intro wh pins s σ H Q I h
  refine isTrue_or (thn (ha pins s σ H _ I h) fun c s1 ⟨H1, I1, q1⟩ => ?_)
  cases c with
  | true => exact ⟨H1, I1, q1⟩
  | false => exact hb wh pins s1 σ H1 Q I1 q1
theorem pt_not (ha : PT X a tA) : PT X (.UnaryOp .Not a pos) (tNot tA) := by
  intro pins s σ H Q I h
  exact isTrue_not (ha pins s σ H (fun c H1 => Q (!c) H1) I h)
/-- .. as values (bools) -/
def tAndV (ta tb : TE) : TE := fun σ H Q => ta σ H fun x H1 => ∃ c, x = .bl c ∧ if c = true then tb σ H1 Q else Q (.bl false) H1
def tOrV (ta tb : TE) : TE := fun σ H Q => ta σ H fun x H1 => ∃ c, x = .bl c ∧ if c = true then Q (.bl true) H1 else tb σ H1 Q
def tNotV (ta : TE) : TE := fun σ H Q => ta σ H fun x H1 => ∃ c, x = .bl c ∧ Q (.bl (!c)) H1
theorem pe_one {op} {t : TE} (h : PE X a t) : PE X (.BoolOp op [a] pos) t := fun pins s σ H Q I hw => BoolOp_one (h pins s σ H Q I hw)
theorem pe_and (ha : PE X a ta) (hb : PE X (.BoolOp .And (b :: rest) pos) tb) : PE X (.BoolOp .And (a :: b :: rest) pos) (tAndV ta tb) := by
  intro pins s σ H Q I h
  refine BoolOp_and (thn (ha pins s σ H _ I h) fun v s1 ⟨x, H1, I1, r1, q1⟩ => ?_)
  obtain ⟨c, rfl, q1⟩ := q1
  cases r1
  refine wpAny_truthy_bool ?_
  cases c with
  | true => exact hb pins s1 σ H1 Q I1 q1
  | false => exact ⟨.bl false, H1, I1, rfl, q1⟩
theorem pe_not (ha : PE X a ta) : PE X (.UnaryOp .Not a pos) (tNotV ta) := by
  intro pins s σ H Q I h
  refine UnaryOp_ (thn (ha pins s σ H _ I h) fun v s1 ⟨x, H1, I1, r1, q1⟩ => ?_)
  obtain ⟨c, rfl, q1⟩ := q1
  cases r1
  exact not_of (wpAny_truthy_bool ⟨.bl (!c), H1, I1, rfl, q1⟩)
/-- a if t else b -/
def tIf (t : TT) (ta tb : TE) : TE := fun σ H Q => t σ H fun c H1 => if c = true then ta σ H1 Q else tb σ H1 Q
theorem pe_ifExp {c : Expr} (hc : PT X c tA) (ha : PE X a ta) (hb : PE X b tb) : PE X (.IfExp c a b pos) (tIf tA ta tb) := by
  intro pins s σ H Q I h
  refine wpAny_IfExp (thn (hc pins s σ H _ I h) fun d s1 ⟨H1, I1, q1⟩ => ?_)
  cases d with
  | true => exact ha pins s1 σ H1 Q I1 q1
  | false => exact hb pins s1 σ H1 Q I1 q1
end
end L2

namespace L2
open PySem PySem.Spec PyProof.Rows

/-! ### a list, a tuple that is read: tracked, frozen, or an object of the module -/
def SqL (K : PySem.W.Frag) (H : Hp) (a : Addr) (xs : List V) : Prop :=
  Rd H a (.lst xs) ∨
    ∃ (o : Obj) (its : Array Value) (n : Nat), K.lookup a = some o ∧ o.cls = .type "list" ∧ o.dict = none ∧ o.data = .seq its n ∧ its.size ≤ sizeLine ∧ Vals xs its.toList
def SqT (K : PySem.W.Frag) (H : Hp) (a : Addr) (xs : List V) : Prop :=
  Rd H a (.tup xs) ∨
    ∃ (o : Obj) (its : Array Value) (n : Nat), K.lookup a = some o ∧ o.cls = .type "tuple" ∧ o.data = .seq its n ∧ its.size ≤ sizeLine ∧ Vals xs its.toList
def absV : Value → Option V
  | .none => some .non
  | .bool b => some (.bl b)
  | .int i _ => some (.int i)
  | .str x _ => some (.str x)
  | .bytes b _ => some (.byt b)
  | .float b _ => some (.flt b)
  | .ref a => some (.ref a)
  | .type n => some (.ty n)
  | _ => none
theorem RelV.abs {x : V} {u : Value} (r : RelV x u) : absV u = some x := by
  cases x with
  | non => cases r; rfl
  | bl _ => cases r; rfl
  | int _ => obtain ⟨t, rfl⟩ := r; rfl
  | str _ => obtain ⟨t, rfl⟩ := r; rfl
  | byt _ => obtain ⟨t, rfl⟩ := r; rfl
  | flt _ => obtain ⟨t, rfl⟩ := r; rfl
  | ref _ => cases r; rfl
  | ty _ => cases r; rfl
theorem RelV.inj {x y : V} {u : Value} (r : RelV x u) (q : RelV y u) : x = y := Option.some.inj (r.abs.symm.trans q.abs)
theorem Vals.inj : ∀ {xs ys : List V} {us : List Value}, Vals xs us → Vals ys us → xs = ys
  | _, _, _, .nil, .nil => rfl
  | _, _, _, .cons r t, .cons r' t' => by rw [r.inj r', Vals.inj t t']
section
variable {X : Cx} {pins : List (Addr × Obj)} {σ : St} {H : Hp} {s : Shared} {a : Addr} {xs ys : List V}
theorem SqL.of {K : PySem.W.Frag} (h : H a = some (.lst xs)) : SqL K H a xs := .inl (.inl h)
theorem SqT.of {K : PySem.W.Frag} (h : H a = some (.tup xs)) : SqT K H a xs := .inl (.inl h)
theorem Inv.list (I : Inv X pins σ H s) (h : SqL X.K H a xs) : ∃ its : List Value, Vals xs its ∧ PlainL s.heap a its.toArray ∧ xs.length ≤ sizeLine := by
  rcases h with h | ⟨o, its, n, hk, hc, hd, hs, hz, r⟩
  · obtain ⟨z, its, n, r, e⟩ := h.ok I.hok
    exact ⟨its, r, ⟨_, n, e, rfl, rfl, rfl⟩, z⟩
  · refine ⟨its.toList, r, ⟨o, n, I.kIn a o hk, hc, hd, by simpa using hs⟩, ?_⟩
    have e := r.length
    simp only [Array.length_toList] at e
    (first | lia | omega)
theorem Inv.tuple (I : Inv X pins σ H s) (h : SqT X.K H a xs) : ∃ its : List Value, Vals xs its ∧ IsTup s.heap a its.toArray ∧ xs.length ≤ sizeLine := by
  rcases h with h | ⟨o, its, n, hk, hc, hs, hz, r⟩
  · obtain ⟨z, its, r, p⟩ := h.ok I.hok
    exact ⟨its, r, p, z⟩
  · refine ⟨its.toList, r, ⟨o, I.kIn a o hk, hc, n, by simpa using hs⟩, ?_⟩
    have e := r.length
    simp only [Array.length_toList] at e
    (first | lia | omega)
theorem Inv.list_inj (I : Inv X pins σ H s) (h : SqL X.K H a xs) (h' : SqL X.K H a ys) : xs = ys := by
  obtain ⟨its, r, ⟨o, n, e, _, _, d⟩, _⟩ := I.list h
  obtain ⟨its', r', ⟨o', n', e', _, _, d'⟩, _⟩ := I.list h'
  rw [e] at e'; cases e'
  rw [d] at d'
  injection d' with d1 _
  have : its = its' := by simpa using congrArg Array.toList d1
  subst this
  exact r.inj r'
theorem Inv.tuple_inj (I : Inv X pins σ H s) (h : SqT X.K H a xs) (h' : SqT X.K H a ys) : xs = ys := by
  obtain ⟨its, r, ⟨o, e, _, n, d⟩, _⟩ := I.tuple h
  obtain ⟨its', r', ⟨o', e', _, n', d'⟩, _⟩ := I.tuple h'
  rw [e] at e'; cases e'
  rw [d] at d'
  injection d' with d1 _
  have : its = its' := by simpa using congrArg Array.toList d1
  subst this
  exact r.inj r'
end

/-! ### another wish about exceptions -/
abbrev Cx.wish (X : Cx) (E : Value → Shared → Prop) : Cx := { X with xe := E }
/-- no exception leaves -/
abbrev Cx.nox (X : Cx) : Cx := X.wish fun _ _ => False
theorem Cx.Ok.wish {X : Cx} (ok : X.Ok) (E : Value → Shared → Prop) : (X.wish E).Ok :=
  ⟨ok.mod, ok.kind, ok.glob, ok.blt, ok.above, ok.inj, ok.has, ok.cab, ok.hd, ok.frames, ok.stk, ok.exf, ok.bs, ok.bsz, ok.noex, ok.exfs, ok.funs, ok.frf⟩
theorem Cx.Ok.unwish {X : Cx} {E : Value → Shared → Prop} (ok : (X.wish E).Ok) : X.Ok :=
  ⟨ok.mod, ok.kind, ok.glob, ok.blt, ok.above, ok.inj, ok.has, ok.cab, ok.hd, ok.frames, ok.stk, ok.exf, ok.bs, ok.bsz, ok.noex, ok.exfs, ok.funs, ok.frf⟩
section
variable {X : Cx} {pins : List (Addr × Obj)} {σ : St} {H : Hp} {s : Shared} {E : Value → Shared → Prop}
theorem Inv.wish (I : Inv X pins σ H s) (E : Value → Shared → Prop) : Inv (X.wish E) pins σ H s := ⟨I.ok.wish E, I.os, I.bare, I.base, I.loc, I.cell, I.free, I.freeC, I.pin, I.hok, I.len⟩
theorem Inv.unwish (I : Inv (X.wish E) pins σ H s) : Inv X pins σ H s := ⟨I.ok.unwish, I.os, I.bare, I.base, I.loc, I.cell, I.free, I.freeC, I.pin, I.hok, I.len⟩
theorem SP.unwish {D : Ends} {f : Flow} {s' : Shared} (h : SP (X.wish E) pins D f s') : SP X pins D f s' := by
  cases f with
  | next => obtain ⟨σ', H', I, q⟩ := h; exact ⟨σ', H', I.unwish, q⟩
  | brk => obtain ⟨σ', H', I, q⟩ := h; exact ⟨σ', H', I.unwish, q⟩
  | cont => obtain ⟨σ', H', I, q⟩ := h; exact ⟨σ', H', I.unwish, q⟩
  | ret u => obtain ⟨v, σ', H', I, r, q⟩ := h; exact ⟨v, σ', H', I.unwish, r, q⟩
theorem PSs.nox {st : List Stmt} {t : TS} (h : PSs X.nox st t) : PSs X st t := fun pins s σ H D I hw =>
  wpAny_mono (h pins s σ H D (I.wish _) hw) (fun _ _ q => q.unwish) fun _ _ z => False.elim z
end

/-! ### blocks and small statements -/
section
variable {X : Cx} {st : Stmt} {rest : List Stmt} {t u : TS} {e : Expr} {te : TE} {pos : Pos}
def tNext : TS := fun D σ H => D.nx σ H
def tSeq (t u : TS) : TS := fun D σ H => t { D with nx := u D } σ H
theorem pss_nil : PSs X [] tNext := fun _ _ σ H _ I h => wpAny_execs_nil ⟨σ, H, I, h⟩
theorem pss_cons (h1 : PS X st t) (h2 : PSs X rest u) : PSs X (st :: rest) (tSeq t u) := by
  intro pins s σ H D I h
  refine wpAny_execs_cons (thn (h1 pins s σ H { D with nx := u D } I h) fun f s1 q => ?_)
  cases f with
  | next =>
    obtain ⟨σ', H', I', q⟩ := q
    exact h2 pins s1 σ' H' D I' q
  | ret v => exact q
  | brk => exact q
  | cont => exact q
theorem pss_one (h1 : PS X st t) : PSs X [st] t := by
  intro pins s σ H D I h
  refine wpAny_execs_cons (thn (h1 pins s σ H D I h) fun f s1 q => ?_)
  cases f with
  | next => exact wpAny_execs_nil q
  | ret v => exact q
  | brk => exact q
  | cont => exact q
def tBreak : TS := fun D σ H => D.bk σ H
def tCont : TS := fun D σ H => D.ct σ H
/-- in a def's body nothing is shown -/
theorem Inv.quiet {pins : List (Addr × Obj)} {σ : St} {H : Hp} {s : Shared} (I : Inv X pins σ H s) : interactive X.env = false := by simp [interactive, I.ok.kind]
/-- an expression whose value is dropped -/
def tDrop (te : TE) : TS := fun D σ H => te σ H fun _ H1 => D.nx σ H1
theorem ps_expr (he : PE X e te) (hs : swapsWith e none pos.line X.env = pure false := by rfl) : PS X (.Expr e pos) (tDrop te) := by
  intro pins s σ H D I h
  exact wpAny_Expr_any (thn (he pins s σ H _ I h) fun v s1 ⟨x, H1, I1, r1, q1⟩ => ⟨σ, H1, I1, q1⟩) I.quiet hs
def tRet (te : TE) : TS := fun D σ H => te σ H D.rt
theorem ps_ret (he : PE X e te) : PS X (.Return (some e) pos) (tRet te) := by
  intro pins s σ H D I h
  exact wpAny_Return_some (thn (he pins s σ H _ I h) fun v s1 ⟨x, H1, I1, r1, q1⟩ => ⟨x, σ, H1, I1, r1, q1⟩)
def tRetN : TS := fun D _ H => D.rt .non H
def tIfS (c : TT) (t u : TS) : TS := fun D σ H => c σ H fun b H1 => if b = true then t D σ H1 else u D σ H1
theorem ps_if {c : Expr} {a b : List Stmt} {tc : TT} (hc : PT X c tc) (ha : PSs X a t) (hb : PSs X b u) : PS X (.If c a b pos) (tIfS tc t u) := by
  intro pins s σ H D I h
  refine wpAny_If (thn (hc pins s σ H _ I h) fun d s1 ⟨H1, I1, q1⟩ => ?_)
  cases d with
  | true => exact ha pins s1 σ H1 D I1 q1
  | false => exact hb pins s1 σ H1 D I1 q1
/-- code that the proof never comes to -/
def tNever : TS := fun _ _ _ => False
theorem ps_never : PS X st tNever := fun _ _ _ _ _ _ h => h.elim
end

/-! ### targets -/
abbrev TG := V → St → Hp → (St → Hp → Prop) → Prop
abbrev TGs := List V → St → Hp → (St → Hp → Prop) → Prop
def PG (X : Cx) (target : Expr) (t : TG) : Prop :=
  ∀ (pins : List (Addr × Obj)) (s : Shared) (σ : St) (H : Hp) (v : V) (u : Value) (Q : St → Hp → Prop), Inv X pins σ H s → RelV v u → t v σ H Q →
    wpAny (model X.prog X.w) X.A (assign target X.env u) (fun _ s' => ∃ σ' H', Inv X pins σ' H' s' ∧ Q σ' H') X.xe s
/-- several targets, one after another -/
def PGs (X : Cx) (ts : List Expr) (t : TGs) : Prop :=
  ∀ (pins : List (Addr × Obj)) (s : Shared) (σ : St) (H : Hp) (vs : List V) (us : List Value) (Q : St → Hp → Prop), Inv X pins σ H s → Vals vs us → t vs σ H Q →
    wpAny (model X.prog X.w) X.A (assignInOrder ((assignEach ts X.env).map (·.2)) us) (fun _ s' => ∃ σ' H', Inv X pins σ' H' s' ∧ Q σ' H') X.xe s
/-- o[i] = v, by values -/
abbrev TSet := V → V → V → Hp → (Hp → Prop) → Prop
def PSet (X : Cx) (t : TSet) : Prop :=
  ∀ (pins : List (Addr × Obj)) (s : Shared) (σ : St) (H : Hp) (o i v : V) (ov iv u : Value) (Q : Hp → Prop), Inv X pins σ H s → RelV o ov → RelV i iv → RelV v u → t o i v H Q →
    wpAny (model X.prog X.w) X.A (setItem ov iv u) (fun _ s' => ∃ H', Inv X pins σ H' s' ∧ Q H') X.xe s
/-- a op= b, by values -/
abbrev TIp := V → V → Hp → VK → Prop
def PIp (X : Cx) (op : Operator) (t : TIp) : Prop :=
  ∀ (pins : List (Addr × Obj)) (s : Shared) (σ : St) (H : Hp) (x y : V) (v u : Value) (Q : VK), Inv X pins σ H s → RelV x v → RelV y u → t x y H Q →
    wpAny (model X.prog X.w) X.A (inplaceOp op v u) (EP X pins σ Q) X.xe s
section
variable {X : Cx} {pos : Pos}
def gName (i : Nat) : TG := fun v σ H Q => Q (σ.set i (some v)) H
theorem pg_name {i : Nat} {x : Str} (hN : X.N.Nodup) (hi : X.N[i]? = some x) (hx : Loc X.env.scope x) (hf : X.fn x = true ∨ X.env.scope.names.lookup x = some .local := by first | exact .inl rfl | exact .inr rfl | assumption) : PG X (.Name x pos) (gName i) := by
  intro pins s σ H v u Q I r h
  exact wpAny_assign_Name (store_ok I hN hi hx r (fun s' I' => ⟨_, H, I', h⟩) hf)
def gNil : TGs := fun vs σ H Q => vs = [] ∧ Q σ H
def gCons (t : TG) (u : TGs) : TGs := fun vs σ H Q => ∃ v r, vs = v :: r ∧ t v σ H fun σ' H' => u r σ' H' Q
theorem pgs_nil : PGs X [] gNil := by
  intro pins s σ H vs us Q I r h
  obtain ⟨e, h⟩ := h
  subst e
  cases r
  exact assignInOrder_nil ⟨σ, H, I, h⟩
theorem pgs_cons {e : Expr} {es : List Expr} {t : TG} {u : TGs} (h1 : PG X e t) (h2 : PGs X es u)
    (hs : (assignEach (e :: es) X.env).map (·.2) = assign e X.env :: (assignEach es X.env).map (·.2) := by rfl) : PGs X (e :: es) (gCons t u) := by
  intro pins s σ H vs us Q I r h
  obtain ⟨v, vr, e1, h⟩ := h
  subst e1
  cases r with
  | cons r rr =>
    rw [hs]
    refine assignInOrder_cons (thn (h1 pins s σ H _ _ _ I r h) fun _ s1 ⟨σ1, H1, I1, q1⟩ => ?_)
    exact h2 pins s1 σ1 H1 _ _ Q I1 rr q1
/-- (a, b, ..) = a tuple of that length -/
def gTup (K : PySem.W.Frag) (n : Nat) (t : TGs) : TG := fun v σ H Q => ∃ a xs, v = .ref a ∧ SqT K H a xs ∧ xs.length = n ∧ t xs σ H Q
theorem pg_tup {es : List Expr} {k : Nat} {t : TGs} {n : Nat} (hc : X.calm = true) (h : PGs X es t)
    (hn : (assignEach es X.env).length = n := by rfl) (hst : (assignEach es X.env).findIdx? (·.1) = none := by rfl) : PG X (.Tuple es k pos) (gTup X.K n t) := by
  intro pins s σ H v u Q I r hw
  obtain ⟨a, xs, e1, hq, hl, hw⟩ := hw
  subst e1
  cases r
  obtain ⟨its, rv, ht, hz⟩ := I.tuple hq
  refine assign_Tuple_tuple (I.ok.hd hc) ht (by simp [hn, ← hl, rv.length]) hst fun h' hx => ?_
  have I1 : Inv X pins σ H { s with heap := h' } := I.kept (t' := s.toks) fun b o e => hx b o (Nat.ne_of_lt (Heap.lt_size e)) e
  exact h pins _ σ H xs _ Q I1 (by simpa using rv) hw
/-- o[i] = .. -/
def gSub (to ti : TE) (t : TSet) : TG := fun v σ H Q => to σ H fun o H1 => ti σ H1 fun i H2 => t o i v H2 fun H3 => Q σ H3
/-- target = value -/
def tAsg (te : TE) (g : TG) : TS := fun D σ H => te σ H fun x H1 => g x σ H1 D.nx
theorem ps_asg {tg e : Expr} {te : TE} {g : TG} (he : PE X e te) (hg : PG X tg g) (hs : swapsWithSole [tg] e pos.line X.env = pure false := by rfl) (hw : swappedStores [tg] e X.env = pure none := by rfl)
    (h1 : (assignEach [tg] X.env).map (·.2) = [assign tg X.env] := by rfl) : PS X (.Assign [tg] e pos) (tAsg te g) := by
  intro pins s σ H D I h
  refine wpAny_Assign_stores (thn (he pins s σ H _ I h) fun v s1 ⟨x, H1, I1, r1, q1⟩ => ?_) hs hw
  rw [h1]
  exact thn (hg pins s1 σ H1 x v _ I1 r1 q1) fun _ s2 q => q
/-- name = value -/
theorem ps_set {i : Nat} {x : Str} {e : Expr} {te : TE} {pos' : Pos} (hN : X.N.Nodup) (hi : X.N[i]? = some x) (hx : Loc X.env.scope x) (he : PE X e te) (hs : swapsWith e (some (.Name x pos')) pos.line X.env = pure false := by rfl) (hf : X.fn x = true ∨ X.env.scope.names.lookup x = some .local := by first | exact .inl rfl | exact .inr rfl | assumption) :
    PS X (.Assign [.Name x pos'] e pos) (tAsg te (gName i)) := by
  intro pins s σ H D I h
  refine wpAny_Assign_Name (thn (he pins s σ H _ I h) fun v s1 ⟨y, H1, I1, r1, q1⟩ => ?_) hs
  exact store_ok I1 hN hi hx r1 (fun s2 I2 => ⟨_, H1, I2, q1⟩) hf
/-- a, b = x, y with plain local names: stored from the right; the pair itself is not tracked (the opening rows as in PyProof/Rows/TupAssign.lean:23) -/
def tPar (i j : Nat) (ta : TA) : TS := fun D σ H => ta σ H fun vs H1 => ∃ v w, vs = [v, w] ∧ D.nx ((σ.set i (some v)).set j (some w)) H1
theorem ps_par {i j : Nat} {x y : Str} {a b : Expr} {ta : TA} {px py pt : Pos} {kt k2 pt2} (hc : X.calm = true) (hN : X.N.Nodup) (hi : X.N[i]? = some x) (hj : X.N[j]? = some y) (hij : i ≠ j)
    (hx : X.env.scope.names.lookup x = some .local) (hy : X.env.scope.names.lookup y = some .local) (ha : PA X [a, b] ta)
    (hw : swappedStores [.Tuple [.Name x px, .Name y py] kt pt] (.Tuple [a, b] k2 pt2) X.env = pure (some [x, y]))
    (hs : swapsWithSole [.Tuple [.Name x px, .Name y py] kt pt] (.Tuple [a, b] k2 pt2) pos.line X.env = pure false := by rfl) :
    PS X (.Assign [.Tuple [.Name x px, .Name y py] kt pt] (.Tuple [a, b] k2 pt2) pos) (tPar i j ta) := by
  intro pins s σ H D I h
  rw [exec_Assign_arm]
  refine wpAny_bind (wpAny_standAt ?_)
  rw [hs]
  refine wpAny_bind (wpAny_pure ?_)
  rw [if_neg (by decide)]
  refine wpAny_bind (Tuple_ (thn (ha _ pins s σ H _ I h) fun us s1 ⟨vs, H1, I1, r1, q1⟩ => ?_))
  obtain ⟨v, w, e1, q1⟩ := q1
  subst e1
  obtain ⟨u1, u2, rfl, rv, rw'⟩ : ∃ u1 u2, us = [u1, u2] ∧ RelV v u1 ∧ RelV w u2 := by
    cases r1 with
    | cons p q =>
      cases q with
      | cons p' q' =>
        cases q'
        exact ⟨_, _, rfl, p, p'⟩
  refine wpAny_newObj_type ?_ (by show 2 ≤ sizeLine; decide)
  have I2 : Inv X pins σ H1 { s1 with heap := s1.heap.push { cls := .type "tuple", data := .seq [u1, u2].toArray } } := I1.kept (t' := s1.toks) fun b o e => Heap.get?_push_of_some _ e
  rw [hw]
  refine wpAny_bind (wpAny_pure ?_)
  show wpAny (model X.prog X.w) X.A (do rule "assign.swapped-stores"; let items ← unpackItems (.ref s1.heap.objs.size) 2 none; assignInOrder [fun v => bindName X.env y v, fun v => bindName X.env x v] items.reverse; pure Flow.next) _ _ _
  refine wpAny_bind (wpAny_rule (wpAny_bind (unpackItems_tuple (items := #[u1, u2]) (I.ok.hd hc) (IsTup.new s1.heap _) fun h' hx' => ?_)))
  have I3 := I2.kept (h' := h') (t' := s1.toks) fun b o e => hx' b o (Nat.ne_of_lt (Heap.lt_size e)) e
  show wpAny _ _ (assignInOrder [fun v => bindName X.env y v, fun v => bindName X.env x v] [u2, u1] >>= fun _ => pure Flow.next) _ _ _
  refine wpAny_bind (assignInOrder_cons (wpAny_bindName (store_ok I3 hN hj (.inl hy) rw' (fun s2 I4 => ?_) (.inr hy))))
  refine assignInOrder_cons (wpAny_bindName (store_ok I4 hN hi (.inl hx) rv (fun s3 I5 => assignInOrder_nil (wpAny_pure ?_)) (.inr hx)))
  rw [List.set_comm _ _ (Ne.symm hij)] at I5
  exact ⟨_, H1, I5, q1⟩
/-- name op= e -/
def tAug (i : Nat) (te : TE) (ti : TIp) : TS := fun D σ H => ∃ x, σ[i]? = some (some x) ∧ te σ H fun y H1 => ti x y H1 fun z H2 => D.nx (σ.set i (some z)) H2
/-- o[i] op= e -/
def tAugS (to ti te : TE) (tget : V → V → Hp → VK → Prop) (tip : TIp) (tset : TSet) : TS := fun D σ H => to σ H fun o H1 => ti σ H1 fun i H2 => tget o i H2 fun x H3 => te σ H3 fun y H4 => tip x y H4 fun z H5 => tset o i z H5 fun H6 => D.nx σ H6
/-- o[i], by values -/
def PGet (X : Cx) (t : V → V → Hp → VK → Prop) : Prop :=
  ∀ (pins : List (Addr × Obj)) (s : Shared) (σ : St) (H : Hp) (o i : V) (ov iv : Value) (Q : VK), Inv X pins σ H s → RelV o ov → RelV i iv → t o i H Q →
    wpAny (model X.prog X.w) X.A (getItem ov iv) (EP X pins σ Q) X.xe s
/-- ints -/
def ipI (f : Int → Int → Int) : TIp := fun x y H Q => ∃ i j, x = .int i ∧ y = .int j ∧ Q (.int (f i j)) H
end

/-! ### while -/
section
variable {X : Cx} {pos : Pos}
/-- the invariant W with its measure -/
def tWhile (c : TT) (tb : TS) : TS := fun D σ H => ∃ W : Nat → St → Hp → Prop, (∃ m, W m σ H) ∧ ∀ m σ H, W m σ H →
  c σ H fun b H1 => if b = true then ∃ N : St → Hp → Prop, (∀ σ' H', N σ' H' → ∃ m', m' < m ∧ W m' σ' H') ∧ tb { D with nx := N, ct := N, bk := D.nx } σ H1 else D.nx σ H1
theorem ps_while {c : Expr} {body : List Stmt} {tc : TT} {tb : TS} (hp : PassesOwn (model X.prog X.w) X.A X.env X.xe) (hc : PT X c tc) (hb : PSs X body tb) : PS X (.While c body [] pos) (tWhile tc tb) := by
  intro pins s σ H D I h
  obtain ⟨W, ⟨m0, w0⟩, turn⟩ := h
  refine wpAny_While (codeAny_whileLoop (fun n s' => ∃ σ' H', Inv X pins σ' H' s' ∧ W n σ' H') ?_ m0 ⟨σ, H, I, w0⟩)
  rintro n s1 ⟨σ1, H1, I1, w1⟩
  refine wpAny_passesOwn hp (thn (hc pins s1 σ1 H1 _ I1 (turn n σ1 H1 w1)) fun b s2 ⟨H2, I2, q2⟩ => ?_)
  cases b with
  | true =>
    obtain ⟨N, hN, q2⟩ := q2
    rw [if_pos rfl]
    refine wpAny_passesOwn hp (thn (hb pins s2 σ1 H2 _ I2 q2) fun f s3 q3 => ?_)
    cases f with
    | next =>
      obtain ⟨σ3, H3, I3, n3⟩ := q3
      obtain ⟨m', hm, w3⟩ := hN σ3 H3 n3
      exact ⟨m', hm, σ3, H3, I3, w3⟩
    | cont =>
      obtain ⟨σ3, H3, I3, n3⟩ := q3
      obtain ⟨m', hm, w3⟩ := hN σ3 H3 n3
      exact ⟨m', hm, σ3, H3, I3, w3⟩
    | brk => exact q3
    | ret v => exact q3
  | false =>
    rw [if_neg Bool.false_ne_true]
    exact wpAny_execs_nil ⟨σ1, H2, I2, q2⟩
end

/-! ### what a loop or a comprehension walks -/
/-- at turn i: it yields x (the heap may grow), or it stops -/
structure It where
  go : Nat → Hp → Prop
  yld : Nat → Hp → V → Hp → Prop
  stop : Nat → Hp → Prop
/-- the iterator's own objects may turn: they are not the frame's, not pinned, younger than the entry (or a comprehension's own) -/
def FpOk (X : Cx) (pins : List (Addr × Obj)) (H : Hp) (b : Addr) : Prop :=
  H b = none ∧ b ≠ X.env.locals ∧ b ∉ X.fs ∧ (b ∈ X.ex ∨ X.s₀.heap.objs.size ≤ b) ∧ (∀ x c, X.env.cells.lookup x = some c → c ≠ b) ∧ ∀ p ∈ X.pn ++ pins, p.1 ≠ b
theorem Inv.fpOk {X : Cx} {pins : List (Addr × Obj)} {σ : St} {H H' : Hp} {s : Shared} {b : Addr} (I : Inv X pins σ H s) (hb : s.heap.objs.size ≤ b) (hn : H' b = none) : FpOk X pins H' b := by
  refine ⟨hn, Nat.ne_of_gt (Nat.lt_of_lt_of_le I.lt hb), I.nofs hb, .inr (Nat.le_trans I.sz hb), fun x c e z => ?_, fun p hp z => ?_⟩
  · obtain ⟨v, q⟩ := I.cell x c e
    exact absurd (Nat.lt_of_lt_of_le q.lt (by rw [z]; exact hb)) (Nat.lt_irrefl _)
  · exact absurd (Nat.lt_of_lt_of_le (Heap.lt_size (I.pin p hp).1) (by rw [z]; exact hb)) (Nat.lt_irrefl _)
structure Turn (P : Program) (w : World) (K : PySem.W.Frag) (tg : Expr) (J : It) (fp : List Addr) (it : Addr) (tn : Nat → Heap → Prop) : Prop where
  mem : it ∈ fp
  obj : ∀ i h, tn i h → ∀ b ∈ fp, ∃ o, h.get? b = some o ∧ ∀ v, o.data ≠ .cell v
  keep : ∀ i h h', tn i h → (∀ b ∈ fp, ∀ o, h.get? b = some o → h'.get? b = some o) → tn i h'
  item : ∀ (X : Cx), X.prog = P → X.w = w → X.K = K → X.calm = true → ∀ (i : Nat) (pins : List (Addr × Obj)) (s : Shared) (σ : St) (H : Hp) (E : Value → Shared → Prop), Inv X pins σ H s → (∀ b ∈ fp, FpOk X pins H b) → tn i s.heap → J.go i H →
    wpAny (model P w) X.A (pyNext (.ref it)) (fun r s1 => ∃ u, r = some u ∧
      wpAny (model P w) X.A (letOwnedTupleGo tg (.ref it) u) (fun _ s2 => ∃ x H', Inv X pins σ H' s2 ∧ RelV x u ∧ J.yld i H x H' ∧ tn (i + 1) s2.heap ∧ ∀ b ∈ fp, H' b = none) E s1) E s
  done : ∀ (X : Cx), X.prog = P → X.w = w → X.K = K → X.calm = true → ∀ (i : Nat) (pins : List (Addr × Obj)) (s : Shared) (σ : St) (H : Hp) (E : Value → Shared → Prop), Inv X pins σ H s → (∀ b ∈ fp, FpOk X pins H b) → tn i s.heap → J.stop i H →
    wpAny (model P w) X.A (pyNext (.ref it)) (fun r s1 => r = none ∧ Inv X pins σ H s1) E s
  self : ∀ (A : Around) (i : Nat) (s : Shared) (Q : Value → Shared → Prop) (E : Value → Shared → Prop), tn i s.heap → Q (.ref it) s → wpAny (model P w) A (pyIter (.ref it)) Q E s
abbrev TI := St → Hp → (It → Hp → Prop) → Prop
/-- an iterator has come -/
def PIE (X : Cx) (pins : List (Addr × Obj)) (σ : St) (tg : Expr) (R : It → Hp → Prop) (itv : Value) (s2 : Shared) : Prop :=
  ∃ (it : Addr) (fp : List Addr) (tn : Nat → Heap → Prop) (J : It) (H' : Hp), itv = .ref it ∧ Inv X pins σ H' s2 ∧ Turn X.prog X.w X.K tg J fp it tn ∧ tn 0 s2.heap ∧ (∀ b ∈ fp, FpOk X pins H' b) ∧ R J H'
def PI (X : Cx) (tg iter : Expr) (wi : TI) : Prop :=
  ∀ (pins : List (Addr × Obj)) (s : Shared) (σ : St) (H : Hp) (R : It → Hp → Prop), Inv X pins σ H s → wi σ H R →
    wpAny (model X.prog X.w) X.A (eval iter X.env) (fun v s1 => wpAny (model X.prog X.w) X.A (pyIter v) (PIE X pins σ tg R) X.xe s1) X.xe s

/-- the step ahead of the store is nothing for an iterator that keeps no tuple -/
theorem go_of {M : Model} {A : Around} {E : Value → Shared → Prop} {s : Shared} {tg : Expr} {it : Addr} {u : Value} {o : Obj} {n : String} {vs : Array Value} {Q : Unit → Shared → Prop} (ho : s.heap.get? it = some o) (hc : o.cls = .type n) (hd : o.data = .fields vs)
    (hn : ["enumerate", "zip", "dict_itemiterator", "dict_reverseitemiterator", "odict_iterator", "itertools.zip_longest", "itertools.pairwise"].contains n = false) (hQ : Q () s) : wpAny M A (letOwnedTupleGo tg (.ref it) u) Q E s := by
  unfold letOwnedTupleGo
  cases tg <;> first
    | exact wpAny_pure hQ
    | (cases u <;> first
        | exact wpAny_pure hQ
        | (refine wpAny_bind (wpAny_load ho ?_)
           rw [hc, hd]
           show wpAny M A (if (["enumerate", "zip", "dict_itemiterator", "dict_reverseitemiterator", "odict_iterator", "itertools.zip_longest", "itertools.pairwise"].contains n && vs[0]? == some (rawInt _)) = true then _ else _) Q E s
           rw [if_neg (by intro h; rw [hn, Bool.false_and] at h; cases h)]
           exact wpAny_pure hQ))

/-- the list at a, as it stands at each turn (a loop may append to it) -/
def Itl (K : PySem.W.Frag) (a : Addr) : It :=
  ⟨fun i H => ∃ xs x, SqL K H a xs ∧ xs[i]? = some x, fun i H x H' => H' = H ∧ ∀ xs, SqL K H a xs → xs[i]? = some x, fun i H => ∃ xs, SqL K H a xs ∧ xs.length ≤ i⟩
def Itt (K : PySem.W.Frag) (a : Addr) : It :=
  ⟨fun i H => ∃ xs x, SqT K H a xs ∧ xs[i]? = some x, fun i H x H' => H' = H ∧ ∀ xs, SqT K H a xs → xs[i]? = some x, fun i H => ∃ xs, SqT K H a xs ∧ xs.length ≤ i⟩
/-- lo, lo + 1, .. (n of them) -/
def Itr (lo : Int) (n : Nat) : It := ⟨fun i _ => i < n, fun i H x H' => H' = H ∧ x = .int (lo + i), fun i _ => n ≤ i⟩
theorem turn_list {P : Program} {w : World} {K : PySem.W.Frag} {tg : Expr} (a it : Addr) : Turn P w K tg (Itl K a) [it] it (fun i h => h.IsListIter it a i) where
  mem := by simp
  obj := fun i h st b hb => by
    have e : b = it := by simpa using hb
    subst e
    obtain ⟨o, e, c, d⟩ := st
    exact ⟨o, e, fun v z => by rw [d] at z; cases z⟩
  keep := fun i h h' st k => st.at fun o e => k it (by simp) o e
  item := by
    intro X hP hw hK hc i pins s σ H E I hf st hg
    subst hP hw hK
    obtain ⟨xs, x, hq, hx⟩ := hg
    obtain ⟨its, rv, p, hz⟩ := I.list hq
    obtain ⟨u, hu, ru⟩ := rv.get hx
    obtain ⟨f0, f1, f2, f3, f4, f5⟩ := hf it (by simp)
    refine wpAny_pyNext_list_item st p.isList (x := u) (by simpa using hu) fun h' st' sb => ?_
    have I1 : Inv X pins σ H { s with heap := h' } := I.turned (t' := s.toks) (fun b o hb e => (sb.2 b hb).trans e) f0 f1 f3 f4 f5
    obtain ⟨o, e, c, d⟩ := id st'
    exact ⟨u, rfl, go_of (s := { s with heap := h' }) e c d (by decide) ⟨x, H, I1, ru, ⟨rfl, fun ys hy => by rw [I.list_inj hy hq]; exact hx⟩, st', fun b hb => (hf b hb).1⟩⟩
  done := by
    intro X hP hw hK hc i pins s σ H E I hf st hg
    subst hP hw hK
    obtain ⟨xs, hq, hx⟩ := hg
    obtain ⟨its, rv, p, hz⟩ := I.list hq
    obtain ⟨f0, f1, f2, f3, f4, f5⟩ := hf it (by simp)
    have hl := rv.length
    exact wpAny_pyNext_list_end (I.ok.hd hc) st p.isList (by simp; (first | lia | omega)) fun h' eb => ⟨rfl, I.turned (t' := s.toks) (fun b o hb e => eb b o hb e) f0 f1 f3 f4 f5⟩
  self := fun _ _ _ _ _ st h => wpAny_pyIter_listiter st h
theorem turn_tuple {P : Program} {w : World} {K : PySem.W.Frag} {tg : Expr} (a it : Addr) : Turn P w K tg (Itt K a) [it] it (fun i h => h.IsTupleIter it a i) where
  mem := by simp
  obj := fun i h st b hb => by
    have e : b = it := by simpa using hb
    subst e
    obtain ⟨o, e, c, d⟩ := st
    exact ⟨o, e, fun v z => by rw [d] at z; cases z⟩
  keep := fun i h h' st k => st.at fun o e => k it (by simp) o e
  item := by
    intro X hP hw hK hc i pins s σ H E I hf st hg
    subst hP hw hK
    obtain ⟨xs, x, hq, hx⟩ := hg
    obtain ⟨its, rv, p, hz⟩ := I.tuple hq
    obtain ⟨u, hu, ru⟩ := rv.get hx
    obtain ⟨f0, f1, f2, f3, f4, f5⟩ := hf it (by simp)
    refine wpAny_pyNext_tuple_item st (show s.heap.IsTuple a its.toArray from p) (x := u) (by simpa using hu) fun h' st' sb => ?_
    have I1 : Inv X pins σ H { s with heap := h' } := I.turned (t' := s.toks) (fun b o hb e => (sb.2 b hb).trans e) f0 f1 f3 f4 f5
    obtain ⟨o, e, c, d⟩ := id st'
    exact ⟨u, rfl, go_of (s := { s with heap := h' }) e c d (by decide) ⟨x, H, I1, ru, ⟨rfl, fun ys hy => by rw [I.tuple_inj hy hq]; exact hx⟩, st', fun b hb => (hf b hb).1⟩⟩
  done := by
    intro X hP hw hK hc i pins s σ H E I hf st hg
    subst hP hw hK
    obtain ⟨xs, hq, hx⟩ := hg
    obtain ⟨its, rv, p, hz⟩ := I.tuple hq
    obtain ⟨f0, f1, f2, f3, f4, f5⟩ := hf it (by simp)
    have hl := rv.length
    exact wpAny_pyNext_tuple_end (I.ok.hd hc) st (show s.heap.IsTuple a its.toArray from p) (by simp; (first | lia | omega)) fun h' eb => ⟨rfl, I.turned (t' := s.toks) (fun b o hb e => eb b o hb e) f0 f1 f3 f4 f5⟩
  self := fun _ _ _ _ _ st h => wpAny_pyIter_tupleiter st h
theorem turn_range {P : Program} {w : World} {K : PySem.W.Frag} {tg : Expr} (it : Addr) (lo : Int) (n : Nat) : Turn P w K tg (Itr lo n) [it] it (fun i h => IsRangeIter h it (lo + (i : Nat) * 1) ((n : Int) - (i : Nat)) 1) where
  mem := by simp
  obj := fun i h st b hb => by
    have e : b = it := by simpa using hb
    subst e
    exact ⟨_, st, fun v z => by
      have z' : Data.fields _ = Data.cell v := z
      cases z'⟩
  keep := fun i h h' st k => k it (by simp) _ st
  item := by
    intro X hP hw hK hc i pins s σ H E I hf st hg
    subst hP hw hK
    obtain ⟨f0, f1, f2, f3, f4, f5⟩ := hf it (by simp)
    have W := Walks.range (prog := X.prog) (w := X.w) (I.ok.hd hc) it lo 1 n
    refine W.item i s _ _ hg st fun v h' tk hv st' kk => ?_
    obtain ⟨t, rfl⟩ := hv
    have I1 : Inv X pins σ H { s with heap := h', toks := tk } := I.turned (fun b o hb e => kk b o (by simpa using hb) e) f0 f1 f3 f4 f5
    refine ⟨_, rfl, go_of (s := { s with heap := h', toks := tk }) (n := "range_iterator") st' rfl rfl (by decide) ⟨.int (lo + i), H, I1, ⟨t, ?_⟩, ⟨rfl, rfl⟩, st', fun b hb => (hf b hb).1⟩⟩
    rw [Int.mul_one]
  done := by
    intro X hP hw hK hc i pins s σ H E I hf st hg
    subst hP hw hK
    obtain ⟨f0, f1, f2, f3, f4, f5⟩ := hf it (by simp)
    exact wpAny_pyNext_range_end (I.ok.hd hc) st (by have : n ≤ i := hg; (first | lia | omega)) fun h' eb => ⟨rfl, I.turned (t' := s.toks) (fun b o hb e => eb b o hb e) f0 f1 f3 f4 f5⟩
  self := fun _ _ _ _ _ st h => wpAny_pyIter_rangeiter st h
end L2

namespace L2
open PySem PySem.Spec PyProof.Rows
section
variable {X : Cx} {tg : Expr}
def iList (K : PySem.W.Frag) (tl : TE) : TI := fun σ H R => tl σ H fun x H1 => ∃ a, x = .ref a ∧ (∃ xs, SqL K H1 a xs) ∧ R (Itl K a) H1
def iTup (K : PySem.W.Frag) (tl : TE) : TI := fun σ H R => tl σ H fun x H1 => ∃ a, x = .ref a ∧ (∃ xs, SqT K H1 a xs) ∧ R (Itt K a) H1
theorem pi_list {l : Expr} {tl : TE} (hl : PE X l tl) : PI X tg l (iList X.K tl) := by
  intro pins s σ H R I h
  refine thn (hl pins s σ H _ I h) fun v s1 ⟨x, H1, I1, r1, q1⟩ => ?_
  obtain ⟨a, e, ⟨xs, hq⟩, q⟩ := q1
  subst e
  cases r1
  obtain ⟨its, rv, p, hz⟩ := I1.list hq
  refine wpAny_pyIter_list p.isList ?_
  refine ⟨s1.heap.objs.size, [s1.heap.objs.size], _, _, H1, rfl, I1.kept (t' := s1.toks) fun b o e => Heap.get?_push_of_some _ e, turn_list a _, ⟨_, Heap.get?_push_size _ rfl, rfl, rfl⟩, fun b hb => ?_, q⟩
  have e : b = s1.heap.objs.size := by simpa using hb
  subst e
  exact I1.fpOk (Nat.le_refl _) (I1.hok.fresh (Nat.le_refl _))
theorem pi_tup {l : Expr} {tl : TE} (hl : PE X l tl) : PI X tg l (iTup X.K tl) := by
  intro pins s σ H R I h
  refine thn (hl pins s σ H _ I h) fun v s1 ⟨x, H1, I1, r1, q1⟩ => ?_
  obtain ⟨a, e, ⟨xs, hq⟩, q⟩ := q1
  subst e
  cases r1
  obtain ⟨its, rv, p, hz⟩ := I1.tuple hq
  refine wpAny_pyIter_tuple (show s1.heap.IsTuple a its.toArray from p) ?_
  refine ⟨s1.heap.objs.size, [s1.heap.objs.size], _, _, H1, rfl, I1.kept (t' := s1.toks) fun b o e => Heap.get?_push_of_some _ e, turn_tuple a _, ⟨_, Heap.get?_push_size _ rfl, rfl, rfl⟩, fun b hb => ?_, q⟩
  have e : b = s1.heap.objs.size := by simpa using hb
  subst e
  exact I1.fpOk (Nat.le_refl _) (I1.hok.fresh (Nat.le_refl _))
/-- a range object just made, walked -/
theorem range_it {pins : List (Addr × Obj)} {σ : St} {H : Hp} {s : Shared} {R : It → Hp → Prop} {E : Value → Shared → Prop} {lo hi : Int} {t u v : Tok} {tk : Nat} (I : Inv X pins σ H s) (h1 : -(2 ^ 62) ≤ lo) (h2 : lo < 2 ^ 62) (h3 : -(2 ^ 62) ≤ hi) (h4 : hi < 2 ^ 62)
    (q : R (Itr lo (hi - lo).toNat) H) : wpAny (model X.prog X.w) X.A (pyIter (.ref s.heap.objs.size)) (PIE X pins σ tg R) E { s with heap := s.heap.push { cls := .type "range", data := .fields #[.int lo t, .int hi u, .int 1 v] }, toks := tk } := by
  refine wpAny_pyIter_range (IsRange.new ..) (small_one h1 h2 h3 h4) ?_
  have I1 : Inv X pins σ H { s with heap := s.heap.push { cls := .type "range", data := .fields #[.int lo t, .int hi u, .int 1 v] }, toks := tk } := I.kept fun b o e => Heap.get?_push_of_some _ e
  refine ⟨(s.heap.push { cls := .type "range", data := .fields #[.int lo t, .int hi u, .int 1 v] }).objs.size, [(s.heap.push { cls := .type "range", data := .fields #[.int lo t, .int hi u, .int 1 v] }).objs.size], _, _, H, rfl,
    I1.kept (t' := tk) fun b o e => Heap.get?_push_of_some _ e, turn_range _ lo (hi - lo).toNat, ?_, fun b hb => ?_, q⟩
  · have e1 : lo + ((0 : Nat) : Int) * 1 = lo := by simp
    have e2 : (((hi - lo).toNat : Nat) : Int) - ((0 : Nat) : Int) = Builtin.Range.rangeSize lo hi 1 := by rw [rangeSize_one]; split <;> (first | lia | omega)
    show IsRangeIter _ _ (lo + ((0 : Nat) : Int) * 1) ((((hi - lo).toNat : Nat) : Int) - ((0 : Nat) : Int)) 1
    rw [e1, e2]
    exact Heap.get?_push_size _ rfl
  · have e : b = (s.heap.push { cls := .type "range", data := .fields #[.int lo t, .int hi u, .int 1 v] }).objs.size := by simpa using hb
    subst e
    exact I1.fpOk (Nat.le_refl _) (I1.hok.fresh (Nat.le_refl _))
def iRng1 (ta : TA) : TI := fun σ H R => ta σ H fun vs H1 => ∃ j : Int, vs = [.int j] ∧ -(2 ^ 62) ≤ j ∧ j < 2 ^ 62 ∧ R (Itr 0 j.toNat) H1
def iRng2 (ta : TA) : TI := fun σ H R => ta σ H fun vs H1 => ∃ i j : Int, vs = [.int i, .int j] ∧ (-(2 ^ 62) ≤ i ∧ i < 2 ^ 62 ∧ -(2 ^ 62) ≤ j ∧ j < 2 ^ 62) ∧ R (Itr i (j - i).toNat) H1
theorem pi_range1 {a : Expr} {ta : TA} {p pos : Pos} (hg : Gl X "range") (hm : X.mg "range" = none) (ha : PA X [a] ta) (hs : starEach [a] X.env = [(false, eval a X.env)] := by rfl) : PI X tg (.Call (.Name "range" p) [a] [] pos) (iRng1 ta) := by
  intro pins s σ H R I h
  refine Call_ (ld_blt I hg hm boot_range (PyProof.Rows.callWith_type1 (thn (ha pos pins s σ H _ I h) fun us s1 ⟨vs, H1, I1, r1, q1⟩ => ?_) hs rfl))
  obtain ⟨j, e, q1, q2, q⟩ := q1
  subst e
  cases r1 with
  | cons r rr =>
    cases rr
    obtain ⟨t, rfl⟩ := r
    exact call_range_1 (range_it I1 (by (first | lia | omega)) (by (first | lia | omega)) q1 q2 (by simpa using q))

/-! ### for -/
/-- W: the invariant by the turn and a measure; N: what the body is to reach -/
def tFor (wi : TI) (g : TG) (tb : TS) : TS := fun D σ H => wi σ H fun J H1 => ∃ W : Nat → Nat → St → Hp → Prop, (∃ m, W 0 m σ H1) ∧ ∀ i m σ H, W i m σ H →
  (J.stop i H ∧ D.nx σ H) ∨ (J.go i H ∧ ∃ N : St → Hp → Prop, (∀ σ' H', N σ' H' → ∃ m', m' < m ∧ W (i + 1) m' σ' H') ∧ ∀ x H', J.yld i H x H' → g x σ H' fun σ2 H2 => tb { D with nx := N, ct := N, bk := D.nx } σ2 H2)
/-- the records at fp as they stand -/
def pinsAt (fp : List Addr) (h : Heap) : List (Addr × Obj) := fp.filterMap fun b => (h.get? b).map fun o => (b, o)
theorem mem_pinsAt {fp : List Addr} {h : Heap} {b : Addr} {o : Obj} (hb : b ∈ fp) (e : h.get? b = some o) : (b, o) ∈ pinsAt fp h := List.mem_filterMap.mpr ⟨b, hb, by rw [e]; rfl⟩
theorem of_pinsAt {fp : List Addr} {h : Heap} {p : Addr × Obj} (hp : p ∈ pinsAt fp h) : p.1 ∈ fp ∧ h.get? p.1 = some p.2 := by
  obtain ⟨b, hb, e⟩ := List.mem_filterMap.mp hp
  cases q : h.get? b with
  | none => rw [q] at e; cases e
  | some o =>
    rw [q] at e
    have e' : (b, o) = p := Option.some.inj e
    subst e'
    exact ⟨hb, q⟩
theorem Inv.pinned {pins : List (Addr × Obj)} {σ : St} {H : Hp} {s : Shared} {fp : List Addr} (I : Inv X pins σ H s) (hf : ∀ b ∈ fp, FpOk X pins H b) (ho : ∀ b ∈ fp, ∃ o, s.heap.get? b = some o ∧ ∀ v, o.data ≠ .cell v) : Inv X (pins ++ pinsAt fp s.heap) σ H s :=
  I.pins_of fun p hp => (List.mem_append.mp hp).elim (fun z => I.pin p (List.mem_append_right _ z)) fun z => by
    obtain ⟨hb, e⟩ := of_pinsAt z
    obtain ⟨f0, f1, f2, _⟩ := hf p.1 hb
    obtain ⟨o, e', d⟩ := ho p.1 hb
    rw [e] at e'; cases e'
    exact ⟨e, f0, f1, f2, d⟩
theorem Inv.unpinned {pins pl : List (Addr × Obj)} {σ : St} {H : Hp} {s : Shared} (I : Inv X (pins ++ pl) σ H s) : Inv X pins σ H s := I.pins_of fun p hp => I.pin p (List.mem_append_right _ (List.mem_append_left _ hp))
theorem ps_for {iter : Expr} {body : List Stmt} {wi : TI} {g : TG} {tb : TS} {pos : Pos} (hp : PassesOwn (model X.prog X.w) X.A X.env X.xe) (hc : X.calm = true) (hi : PI X tg iter wi) (hg : PG X tg g) (hb : PSs X body tb)
    (hs : ∀ x, foldedSetIterable iter X.env x = pure x := by intro _; rfl) : PS X (.For tg iter body [] pos) (tFor wi g tb) := by
  intro pins s σ H D I h
  refine wpAny_For (thn (hi pins s σ H _ I h) fun v s1 h1 => thn h1 fun itv s2 h2 => ?_) hs
  obtain ⟨it, fp, tn, J, H2, e, I2, T, st2, f2, W, ⟨m0, w0⟩, turn⟩ := h2
  subst e
  -- what stays true of the iterator's objects through the loop
  have stat : ∀ {H' : Hp}, (∀ b ∈ fp, H' b = none) → ∀ b ∈ fp, FpOk X pins H' b := fun hn b hb => ⟨hn b hb, (f2 b hb).2⟩
  refine codeAny_forLoop_any (fun n s' => ∃ i σ' H', Inv X pins σ' H' s' ∧ tn i s'.heap ∧ (∀ b ∈ fp, H' b = none) ∧ W i n σ' H') ?_ m0 ⟨0, σ, H2, I2, st2, fun b hb => (f2 b hb).1, w0⟩
  rintro n s3 ⟨i, σ3, H3, I3, st3, fr3, w3⟩
  rcases turn i n σ3 H3 w3 with ⟨stop, qn⟩ | ⟨go, N, hN, step⟩
  · refine wpAny_passesOwn hp (thn (T.done X rfl rfl rfl hc i pins s3 σ3 H3 X.xe I3 (stat fr3) st3 stop) fun r s4 ⟨hr, I4⟩ => ?_)
    subst hr
    exact wpAny_execs_nil ⟨σ3, H3, I4, qn⟩
  · refine wpAny_passesOwn hp (thn (T.item X rfl rfl rfl hc i pins s3 σ3 H3 X.xe I3 (stat fr3) st3 go) fun r s4 ⟨u, hr, h4⟩ => ?_)
    subst hr
    refine wpAny_passesOwn hp (thn h4 fun _ s5 ⟨x, H5, I5, r5, y5, st5, fr5⟩ => ?_)
    have I5' := I5.pinned (stat fr5) (T.obj _ _ st5)
    refine wpAny_passesOwn hp (thn (hg _ s5 σ3 H5 x u _ I5' r5 (step x H5 y5)) fun _ s6 ⟨σ6, H6, I6, q6⟩ => ?_)
    refine wpAny_passesOwn hp (thn (hb _ s6 σ6 H6 _ I6 q6) fun f s7 q7 => ?_)
    have again : ∀ {σ7 : St} {H7 : Hp}, Inv X (pins ++ pinsAt fp s5.heap) σ7 H7 s7 → N σ7 H7 → ∃ m, m < n ∧ ∃ i σ' H', Inv X pins σ' H' s7 ∧ tn i s7.heap ∧ (∀ b ∈ fp, H' b = none) ∧ W i m σ' H' := fun {σ7 H7} I7 n7 => by
      obtain ⟨m', hm, w7⟩ := hN σ7 H7 n7
      refine ⟨m', hm, i + 1, σ7, H7, I7.unpinned, T.keep _ _ _ st5 fun b hb o e => (I7.pin (b, o) (List.mem_append_right _ (List.mem_append_right _ (mem_pinsAt hb e)))).1, fun b hb => ?_, w7⟩
      obtain ⟨o, e, d⟩ := T.obj _ _ st5 b hb
      exact (I7.pin (b, o) (List.mem_append_right _ (List.mem_append_right _ (mem_pinsAt hb e)))).2.1
    cases f with
    | next => obtain ⟨σ7, H7, I7, n7⟩ := q7; exact again I7 n7
    | cont => obtain ⟨σ7, H7, I7, n7⟩ := q7; exact again I7 n7
    | brk => obtain ⟨σ7, H7, I7, q7⟩ := q7; exact ⟨σ7, H7, I7.unpinned, q7⟩
    | ret v => obtain ⟨x7, σ7, H7, I7, r7, q7⟩ := q7; exact ⟨x7, σ7, H7, I7.unpinned, r7, q7⟩
end

/-! ### the forms one uses -/
theorem for_tup {K : PySem.W.Frag} {a : Addr} {xs : List V} {g : TG} {tb : TS} {D : Ends} {σ : St} {H : Hp} (Pv : Nat → St → Hp → Prop) (h0 : Pv 0 σ H) (hl : ∀ i σ H, i ≤ xs.length → Pv i σ H → SqT K H a xs)
    (hs : ∀ i x σ H, xs[i]? = some x → Pv i σ H → g x σ H fun σ2 H2 => tb { D with nx := Pv (i + 1), ct := Pv (i + 1), bk := D.nx } σ2 H2) (hd : ∀ σ H, Pv xs.length σ H → D.nx σ H) :
    ∃ W : Nat → Nat → St → Hp → Prop, (∃ m, W 0 m σ H) ∧ ∀ i m σ H, W i m σ H →
      ((Itt K a).stop i H ∧ D.nx σ H) ∨ ((Itt K a).go i H ∧ ∃ N : St → Hp → Prop, (∀ σ' H', N σ' H' → ∃ m', m' < m ∧ W (i + 1) m' σ' H') ∧ ∀ x H', (Itt K a).yld i H x H' → g x σ H' fun σ2 H2 => tb { D with nx := N, ct := N, bk := D.nx } σ2 H2) := by
  refine ⟨fun i m σ H => m = xs.length - i ∧ i ≤ xs.length ∧ Pv i σ H, ⟨xs.length, by simp, Nat.zero_le _, h0⟩, ?_⟩
  rintro i m σ H ⟨rfl, hi, p⟩
  have q := hl i σ H hi p
  by_cases hlt : i < xs.length
  · refine .inr ⟨⟨xs, xs[i], q, by simp [hlt]⟩, Pv (i + 1), fun σ' H' p' => ⟨xs.length - (i + 1), by (first | lia | omega), rfl, hlt, p'⟩, fun x H' y => ?_⟩
    obtain ⟨e, y⟩ := y
    subst e
    exact hs i x σ _ (y xs q) p
  · have e : i = xs.length := by (first | lia | omega)
    subst e
    exact .inl ⟨⟨xs, q, Nat.le_refl _⟩, hd σ H p⟩
theorem for_range {lo : Int} {n : Nat} {g : TG} {tb : TS} {D : Ends} {σ : St} {H : Hp} (Pv : Nat → St → Hp → Prop) (h0 : Pv 0 σ H)
    (hs : ∀ i σ H, i < n → Pv i σ H → g (.int (lo + i)) σ H fun σ2 H2 => tb { D with nx := Pv (i + 1), ct := Pv (i + 1), bk := D.nx } σ2 H2) (hd : ∀ σ H, Pv n σ H → D.nx σ H) :
    ∃ W : Nat → Nat → St → Hp → Prop, (∃ m, W 0 m σ H) ∧ ∀ i m σ H, W i m σ H →
      ((Itr lo n).stop i H ∧ D.nx σ H) ∨ ((Itr lo n).go i H ∧ ∃ N : St → Hp → Prop, (∀ σ' H', N σ' H' → ∃ m', m' < m ∧ W (i + 1) m' σ' H') ∧ ∀ x H', (Itr lo n).yld i H x H' → g x σ H' fun σ2 H2 => tb { D with nx := N, ct := N, bk := D.nx } σ2 H2) := by
  refine ⟨fun i m σ H => m = n - i ∧ i ≤ n ∧ Pv i σ H, ⟨n, by simp, Nat.zero_le _, h0⟩, ?_⟩
  rintro i m σ H ⟨rfl, hi, p⟩
  by_cases hlt : i < n
  · refine .inr ⟨hlt, Pv (i + 1), fun σ' H' p' => ⟨n - (i + 1), by (first | lia | omega), rfl, hlt, p'⟩, fun x H' y => ?_⟩
    obtain ⟨e, y⟩ := y
    subst e y
    exact hs i σ _ hlt p
  · have e : i = n := by (first | lia | omega)
    subst e
    exact .inl ⟨Nat.le_refl _, hd σ H p⟩
end L2

namespace L2
open PySem PySem.Spec PyProof.Rows

abbrev R2 := V → V → Hp → VK → Prop
/-- a two-place operation on values: f is binaryOp op, inplaceOp op or compareOp op -/
def OpR (X : Cx) (f : Value → Value → Sem Value) (r : R2) : Prop :=
  ∀ (pins : List (Addr × Obj)) (s : Shared) (σ : St) (H : Hp) (x y : V) (v u : Value) (Q : VK), Inv X pins σ H s → RelV x v → RelV y u → r x y H Q →
    wpAny (model X.prog X.w) X.A (f v u) (EP X pins σ Q) X.xe s
/-- a one-place operation -/
def UnR (X : Cx) (f : Value → Sem Value) (r : V → Hp → VK → Prop) : Prop :=
  ∀ (pins : List (Addr × Obj)) (s : Shared) (σ : St) (H : Hp) (x : V) (v : Value) (Q : VK), Inv X pins σ H s → RelV x v → r x H Q →
    wpAny (model X.prog X.w) X.A (f v) (EP X pins σ Q) X.xe s
/-- a call of a value that is known (a builtin, a type) with values -/
def CallR (X : Cx) (f : Value) (r : List V → Hp → VK → Prop) : Prop :=
  ∀ (pins : List (Addr × Obj)) (s : Shared) (σ : St) (H : Hp) (xs : List V) (us : List Value) (Q : VK), Inv X pins σ H s → Vals xs us → r xs H Q →
    wpAny (model X.prog X.w) X.A (call f us) (EP X pins σ Q) X.xe s
/-- a value's truth -/
def TruR (X : Cx) (r : V → Hp → (Bool → Hp → Prop) → Prop) : Prop :=
  ∀ (pins : List (Addr × Obj)) (s : Shared) (σ : St) (H : Hp) (x : V) (v : Value) (Q : Bool → Hp → Prop), Inv X pins σ H s → RelV x v → r x H Q →
    wpAny (model X.prog X.w) X.A (truthy v) (TP X pins σ Q) X.xe s

def tOp (r : R2) (ta tb : TE) : TE := fun σ H Q => ta σ H fun x H1 => tb σ H1 fun y H2 => r x y H2 Q
def tUn (r : V → Hp → VK → Prop) (ta : TE) : TE := fun σ H Q => ta σ H fun x H1 => r x H1 Q
/-- ints in, under C, and a value out -/
def rI (C : Int → Int → Prop) (g : Int → Int → V) : R2 := fun x y H Q => ∃ i j, x = .int i ∧ y = .int j ∧ C i j ∧ Q (g i j) H
def rI0 (g : Int → Int → V) : R2 := fun x y H Q => ∃ i j, x = .int i ∧ y = .int j ∧ Q (g i j) H
def rU (g : Int → V) : V → Hp → VK → Prop := fun x H Q => ∃ i, x = .int i ∧ Q (g i) H

section
variable {X : Cx} {a b c : Expr} {ta tb tc : TE} {pos : Pos}

theorem binT (ha : PE X a ta) (hb : PE X b tb) {pins : List (Addr × Obj)} {s : Shared} {σ : St} {H : Hp} {R : V → V → Hp → Prop} (I : Inv X pins σ H s)
    (h : ta σ H fun x H1 => tb σ H1 fun y H2 => R x y H2) {Q : Value → Shared → Prop} {f : Value → Value → Sem Value}
    (hf : ∀ v u s2 x y H2, Inv X pins σ H2 s2 → RelV x v → RelV y u → R x y H2 → wpAny (model X.prog X.w) X.A (f v u) Q X.xe s2) :
    wpAny (model X.prog X.w) X.A (eval a X.env) (fun v s₁ => wpAny (model X.prog X.w) X.A (eval b X.env) (fun u s₂ => wpAny (model X.prog X.w) X.A (f v u) Q X.xe s₂) X.xe s₁) X.xe s := by
  refine thn (ha pins s σ H _ I h) fun v s1 ⟨x, H1, I1, r1, q1⟩ => ?_
  refine thn (hb pins s1 σ H1 _ I1 q1) fun u s2 ⟨y, H2, I2, r2, q2⟩ => ?_
  exact hf v u s2 x y H2 I2 r1 r2 q2

theorem pe_op {op : Operator} {r : R2} (ho : OpR X (binaryOp op) r) (ha : PE X a ta) (hb : PE X b tb) : PE X (.BinOp a op b pos) (tOp r ta tb) := by
  intro pins s σ H Q I h
  exact wpAny_BinOp (binT ha hb I h fun v u s2 x y H2 I2 rx ry q => ho pins s2 σ H2 x y v u Q I2 rx ry q)
theorem pe_un {op : UnaryOp} {r : V → Hp → VK → Prop} (ho : UnR X (unaryOp op) r) (ha : PE X a ta) : PE X (.UnaryOp op a pos) (tUn r ta) := by
  intro pins s σ H Q I h
  exact UnaryOp_ (thn (ha pins s σ H _ I h) fun v s1 ⟨x, H1, I1, r1, q1⟩ => ho pins s1 σ H1 x v Q I1 r1 q1)

/-! ### ints -/
theorem opI {f : Value → Value → Sem Value} {C : Int → Int → Prop} {g : Int → Int → Int}
    (rule : ∀ (i j : Int) (t u : Tok) (s : Shared) (Q : Value → Shared → Prop) (E : Value → Shared → Prop), C i j → Q (.int (g i j) s.toks) { s with toks := s.toks + 1 } → wpAny (model X.prog X.w) X.A (f (.int i t) (.int j u)) Q E s) :
    OpR X f (rI C fun i j => .int (g i j)) := by
  intro pins s σ H x y v u Q I rx ry h
  obtain ⟨i, j, rfl, rfl, hc, q⟩ := h
  obtain ⟨t, rfl⟩ := rx
  obtain ⟨t', rfl⟩ := ry
  exact rule i j t t' s _ _ hc ⟨.int (g i j), H, I.tok _, ⟨_, rfl⟩, q⟩
theorem opI0 {f : Value → Value → Sem Value} {g : Int → Int → Int}
    (rule : ∀ (i j : Int) (t u : Tok) (s : Shared) (Q : Value → Shared → Prop) (E : Value → Shared → Prop), Q (.int (g i j) s.toks) { s with toks := s.toks + 1 } → wpAny (model X.prog X.w) X.A (f (.int i t) (.int j u)) Q E s) :
    OpR X f (rI0 fun i j => .int (g i j)) := by
  intro pins s σ H x y v u Q I rx ry h
  obtain ⟨i, j, rfl, rfl, q⟩ := h
  obtain ⟨t, rfl⟩ := rx
  obtain ⟨t', rfl⟩ := ry
  exact rule i j t t' s _ _ ⟨.int (g i j), H, I.tok _, ⟨_, rfl⟩, q⟩
theorem opB0 {f : Value → Value → Sem Value} {g : Int → Int → Bool}
    (rule : ∀ (i j : Int) (t u : Tok) (s : Shared) (Q : Value → Shared → Prop) (E : Value → Shared → Prop), Q (.bool (g i j)) s → wpAny (model X.prog X.w) X.A (f (.int i t) (.int j u)) Q E s) :
    OpR X f (rI0 fun i j => .bl (g i j)) := by
  intro pins s σ H x y v u Q I rx ry h
  obtain ⟨i, j, rfl, rfl, q⟩ := h
  obtain ⟨t, rfl⟩ := rx
  obtain ⟨t', rfl⟩ := ry
  exact rule i j t t' s _ _ ⟨.bl (g i j), H, I, rfl, q⟩

def CDiv (i j : Int) : Prop := 0 < j ∧ j < 1073741824
def CDivN (i j : Int) : Prop := j ≠ 0 ∧ j.natAbs < 1073741824
def CPow (i j : Int) : Prop := 0 ≤ j ∧ j ≤ 1000000 ∧ i.natAbs < 2 ^ 64
def CMul (i j : Int) : Prop := (-(2 ^ 64) < i ∧ i < 2 ^ 64) ∨ (-(2 ^ 64) < j ∧ j < 2 ^ 64)
theorem CMul.ok {i j : Int} (h : CMul i j) : IntMulOk i j := by
  rcases h with ⟨h1, h2⟩ | ⟨h1, h2⟩
  · exact .of_left (intBits_le_64 h1 h2)
  · exact .of_right (intBits_le_64 h1 h2)

theorem op_add : OpR X (binaryOp .Add) (rI0 fun i j => .int (i + j)) := opI0 fun _ _ _ _ _ _ _ q => add_int q
theorem op_sub : OpR X (binaryOp .Sub) (rI0 fun i j => .int (i - j)) := opI0 fun _ _ _ _ _ _ _ q => sub_int q
/-- % by a positive divisor of any size -/
theorem op_mod : OpR X (binaryOp .Mod) (rI (fun _ j => 0 < j) fun i j => .int (i % j)) := opI fun i j _ _ _ _ _ hc q => by
  have h1 : (0 : Int) < j := hc
  exact mod_int' (by (first | lia | omega)) (by rw [Int.fmod_eq_emod_of_nonneg i (by (first | lia | omega))]; exact q)
theorem op_pow : OpR X (binaryOp .Pow) (rI CPow fun i j => .int (i ^ j.toNat)) := opI fun _ _ _ _ _ _ _ hc q => pow_int_small hc.1 hc.2.1 hc.2.2 q


theorem unI {f : Value → Sem Value} {g : Int → Int}
    (rule : ∀ (i : Int) (t : Tok) (s : Shared) (Q : Value → Shared → Prop) (E : Value → Shared → Prop), Q (.int (g i) s.toks) { s with toks := s.toks + 1 } → wpAny (model X.prog X.w) X.A (f (.int i t)) Q E s) :
    UnR X f (rU fun i => .int (g i)) := by
  intro pins s σ H x v Q I rx h
  obtain ⟨i, rfl, q⟩ := h
  obtain ⟨t, rfl⟩ := rx
  exact rule i t s _ _ ⟨.int (g i), H, I.tok _, ⟨_, rfl⟩, q⟩
theorem un_neg : UnR X (unaryOp .USub) (rU fun i => .int (-i)) := unI fun _ _ _ _ _ q => neg_int q

/-! ### bools among ints: n += (a < b) -/
end

/-! ### comparisons -/
/-- the scalars that == tells apart as data does -/
def scal : V → V → Bool
  | .non, .non => true | .non, .int _ => true | .int _, .non => true | .non, .bl _ => true | .bl _, .non => true | .non, .str _ => true | .str _, .non => true
  | .int _, .int _ => true | .bl _, .bl _ => true | .str _, .str _ => true | .byt _, .byt _ => true
  | .int _, .str _ => true | .str _, .int _ => true | .bl _, .str _ => true | .str _, .bl _ => true
  | _, _ => false
def rEq : R2 := fun x y H Q => scal x y = true ∧ Q (.bl (decide (x = y))) H
def rNe : R2 := fun x y H Q => scal x y = true ∧ Q (.bl (!decide (x = y))) H

theorem dec_int {i j : Int} : decide (V.int i = V.int j) = (i == j) := by
  rw [Bool.eq_iff_iff]
  simp
theorem dec_bl {i j : Bool} : decide (V.bl i = V.bl j) = (i == j) := by
  rw [Bool.eq_iff_iff]
  simp
theorem dec_str {i j : Str} : decide (V.str i = V.str j) = (i == j) := by
  rw [Bool.eq_iff_iff]
  simp
theorem dec_byt {i j : Array UInt8} : decide (V.byt i = V.byt j) = (i.toList == j.toList) := by
  rw [Bool.eq_iff_iff]
  cases i
  cases j
  simp

section
variable {X : Cx} {a b c : Expr} {ta tb tc : TE} {pos : Pos}
theorem fin_bl {pins : List (Addr × Obj)} {σ : St} {H : Hp} {s : Shared} {Q : VK} {k k' : Bool} (I : Inv X pins σ H s) (q : Q (.bl k) H) (e : k = k') : EP X pins σ Q (.bool k') s := by
  subst e
  exact ⟨.bl k, H, I, rfl, q⟩
theorem op_eq : OpR X (compareOp .Eq) rEq := by
  intro pins s σ H x y v u Q I rx ry h
  obtain ⟨hs, q⟩ := h
  cases x with
  | non =>
    cases rx
    cases y with
    | non => cases ry; exact PySem.EqNone.eq_none_none (fin_bl I q (by simp))
    | bl j => cases ry; exact PySem.EqNone.eq_none_bool (fin_bl I q (by simp))
    | int j => obtain ⟨t', rfl⟩ := ry; exact PySem.EqNone.eq_none_int (fin_bl I q (by simp))
    | str j => obtain ⟨t', rfl⟩ := ry; exact PySem.EqNone.eq_none_str (fin_bl I q (by simp))
    | _ => exact absurd (show false = true from hs) Bool.false_ne_true
  | bl i =>
    cases rx
    cases y with
    | non => cases ry; exact PySem.EqNone.eq_bool_none (fin_bl I q (by simp))
    | bl j => cases ry; exact eq_bool (fin_bl I q dec_bl)
    | str j => obtain ⟨t', rfl⟩ := ry; exact PySem.EqMixed.eq_bool_str (fin_bl I q (by simp))
    | _ => exact absurd (show false = true from hs) Bool.false_ne_true
  | int i =>
    obtain ⟨t, rfl⟩ := rx
    cases y with
    | non => cases ry; exact PySem.EqNone.eq_int_none (fin_bl I q (by simp))
    | int j => obtain ⟨t', rfl⟩ := ry; exact eq_int (fin_bl I q dec_int)
    | str j => obtain ⟨t', rfl⟩ := ry; exact PySem.EqMixed.eq_int_str (fin_bl I q (by simp))
    | _ => exact absurd (show false = true from hs) Bool.false_ne_true
  | str i =>
    obtain ⟨t, rfl⟩ := rx
    cases y with
    | non => cases ry; exact PySem.EqNone.eq_str_none (fin_bl I q (by simp))
    | bl j => cases ry; exact PySem.EqMixed.eq_str_bool (fin_bl I q (by simp))
    | int j => obtain ⟨t', rfl⟩ := ry; exact PySem.EqMixed.eq_str_int (fin_bl I q (by simp))
    | str j => obtain ⟨t', rfl⟩ := ry; exact eq_str (fin_bl I q dec_str)
    | _ => exact absurd (show false = true from hs) Bool.false_ne_true
  | byt i =>
    obtain ⟨t, rfl⟩ := rx
    cases y with
    | byt j => obtain ⟨t', rfl⟩ := ry; exact PySem.W.eq_bytes (fin_bl I q dec_byt)
    | _ => exact absurd (show false = true from hs) Bool.false_ne_true
  | _ => cases y <;> exact absurd (show false = true from hs) Bool.false_ne_true
theorem op_ne : OpR X (compareOp .NotEq) rNe := by
  intro pins s σ H x y v u Q I rx ry h
  obtain ⟨hs, q⟩ := h
  cases x with
  | non =>
    cases rx
    cases y with
    | non => cases ry; exact PySem.EqNone.ne_none_none (fin_bl I q (by simp))
    | bl j => cases ry; exact PySem.EqNone.ne_none_bool (fin_bl I q (by simp))
    | int j => obtain ⟨t', rfl⟩ := ry; exact PySem.EqNone.ne_none_int (fin_bl I q (by simp))
    | str j => obtain ⟨t', rfl⟩ := ry; exact PySem.EqNone.ne_none_str (fin_bl I q (by simp))
    | _ => exact absurd (show false = true from hs) Bool.false_ne_true
  | bl i =>
    cases rx
    cases y with
    | non => cases ry; exact PySem.EqNone.ne_bool_none (fin_bl I q (by simp))
    | bl j => cases ry; exact ne_bool (fin_bl I q (congrArg not dec_bl))
    | str j => obtain ⟨t', rfl⟩ := ry; exact PySem.EqMixed.ne_bool_str (fin_bl I q (by simp))
    | _ => exact absurd (show false = true from hs) Bool.false_ne_true
  | int i =>
    obtain ⟨t, rfl⟩ := rx
    cases y with
    | non => cases ry; exact PySem.EqNone.ne_int_none (fin_bl I q (by simp))
    | int j => obtain ⟨t', rfl⟩ := ry; exact ne_int (fin_bl I q (congrArg not dec_int))
    | str j => obtain ⟨t', rfl⟩ := ry; exact PySem.EqMixed.ne_int_str (fin_bl I q (by simp))
    | _ => exact absurd (show false = true from hs) Bool.false_ne_true
  | str i =>
    obtain ⟨t, rfl⟩ := rx
    cases y with
    | non => cases ry; exact PySem.EqNone.ne_str_none (fin_bl I q (by simp))
    | bl j => cases ry; exact PySem.EqMixed.ne_str_bool (fin_bl I q (by simp))
    | int j => obtain ⟨t', rfl⟩ := ry; exact PySem.EqMixed.ne_str_int (fin_bl I q (by simp))
    | str j => obtain ⟨t', rfl⟩ := ry; exact ne_str (fin_bl I q (congrArg not dec_str))
    | _ => exact absurd (show false = true from hs) Bool.false_ne_true
  | byt i =>
    obtain ⟨t, rfl⟩ := rx
    cases y with
    | byt j => obtain ⟨t', rfl⟩ := ry; exact PySem.W.ne_bytes (fin_bl I q (congrArg not dec_byt))
    | _ => exact absurd (show false = true from hs) Bool.false_ne_true
  | _ => cases y <;> exact absurd (show false = true from hs) Bool.false_ne_true

theorem op_lt : OpR X (compareOp .Lt) (rI0 fun i j => .bl (decide (i < j))) := opB0 fun _ _ _ _ _ _ _ q => lt_int q
theorem op_le : OpR X (compareOp .LtE) (rI0 fun i j => .bl (decide (i ≤ j))) := opB0 fun _ _ _ _ _ _ _ q => le_int q
theorem op_gt : OpR X (compareOp .Gt) (rI0 fun i j => .bl (decide (j < i))) := opB0 fun _ _ _ _ _ _ _ q => gt_int q
theorem op_ge : OpR X (compareOp .GtE) (rI0 fun i j => .bl (decide (j ≤ i))) := opB0 fun _ _ _ _ _ _ _ q => ge_int q

/-- is None, is not None: the right side a value none -/
theorem op_isN : OpR X (compareOp .Is) (fun x y H Q => y = .non ∧ Q (.bl (decide (x = .non))) H) := by
  intro pins s σ H x y v u Q I rx ry h
  obtain ⟨rfl, q⟩ := h
  cases ry
  refine is_none_gen (fin_bl I q ?_)
  cases x <;> first
    | (cases rx; rfl)
    | (obtain ⟨t, rfl⟩ := rx; rfl)

/-- is, is not of two objects that are tracked lists or instances -/
def isObj : HO → Bool
  | .lst _ => true
  | .ins _ _ _ => true
  | _ => false


theorem nomark (b : Expr) {op : CmpOp} (h : op ≠ .In := by decide) (h2 : op ≠ .NotIn := by decide) : behindInMarks op b = false := by
  have e1 : (op == CmpOp.In) = false := by cases op <;> first | rfl | exact absurd rfl h
  have e2 : (op == CmpOp.NotIn) = false := by cases op <;> first | rfl | exact absurd rfl h2
  cases b <;> simp [behindInMarks, e1, e2]
/-- a comparison as a value; hm: nomark b, or (for in, not in) by with_unfolding_all rfl -/
theorem pe_cmpR {op : CmpOp} {r : R2} (ho : OpR X (compareOp op) r) (ha : PE X a ta) (hb : PE X b tb) (hm : behindInMarks op b = false) : PE X (.Compare a [op] [b] pos) (tOp r ta tb) := by
  intro pins s σ H Q I h
  exact wpAny_Compare1 (binT ha hb I h fun v u s2 x y H2 I2 rx ry q => ho pins s2 σ H2 x y v u Q I2 rx ry q) hm
/-- a reading of a value as a test -/
def tTest (t : TE) : TT := fun σ H Q => t σ H fun x H' => ∃ k, x = .bl k ∧ Q k H'
theorem pt_cmpR {op : CmpOp} {r : R2} (ho : OpR X (compareOp op) r) (ha : PE X a ta) (hb : PE X b tb) (hm : behindInMarks op b = false) : PT X (.Compare a [op] [b] pos) (tTest (tOp r ta tb)) := by
  intro pins s σ H Q I h
  refine wpAny_isTrue_Compare1 (thn (ha pins s σ H _ I h) fun v s1 ⟨x, H1, I1, r1, q1⟩ => thn (hb pins s1 σ H1 _ I1 q1) fun u s2 ⟨y, H2, I2, r2, q2⟩ =>
    thn (ho pins s2 σ H2 x y v u _ I2 r1 r2 q2) fun c s3 ⟨z, H3, I3, r3, k, e, q3⟩ => ?_) hm
  subst e
  cases r3
  exact wpAny_truthy_bool ⟨H3, I3, q3⟩
/-- a op1 b op2 c -/
def tChain (r r' : R2) (ta tb tc : TE) : TE := fun σ H Q => ta σ H fun x H1 => tb σ H1 fun y H2 => r x y H2 fun z H3 => ∃ k, z = .bl k ∧
  (if k = true then tc σ H3 fun w' H4 => r' y w' H4 Q else Q (.bl false) H3)
theorem pe_chain {op op' : CmpOp} {r r' : R2} (ho : OpR X (compareOp op) r) (ho' : OpR X (compareOp op') r') (ha : PE X a ta) (hb : PE X b tb) (hc : PE X c tc)
    (hm : lastMarks [op, op'] [b, c] = false := by with_unfolding_all rfl) : PE X (.Compare a [op, op'] [b, c] pos) (tChain r r' ta tb tc) := by
  intro pins s σ H Q I h
  refine Compare_chain (thn (ha pins s σ H _ I h) fun v s1 ⟨x, H1, I1, r1, q1⟩ => chain_link (thn (hb pins s1 σ H1 _ I1 q1) fun u s2 ⟨y, H2, I2, r2, q2⟩ =>
    thn (ho pins s2 σ H2 x y v u _ I2 r1 r2 q2) fun d s3 ⟨z, H3, I3, r3, k, e, q3⟩ => ?_)) hm
  subst e
  cases r3
  refine wpAny_truthy_bool ?_
  cases k with
  | false => exact ite_ff ⟨.bl false, H3, I3, rfl, q3⟩
  | true => exact ite_tt (chain_last (thn (hc pins s3 σ H3 _ I3 q3) fun w' s4 ⟨z', H4, I4, r4, q4⟩ => ho' pins s4 σ H4 y z' u w' Q I4 r2 r4 q4))
theorem pt_chain {op op' : CmpOp} {r r' : R2} (ho : OpR X (compareOp op) r) (ho' : OpR X (compareOp op') r') (ha : PE X a ta) (hb : PE X b tb) (hc : PE X c tc)
    (hm : lastMarks [op, op'] [b, c] = false := by with_unfolding_all rfl) : PT X (.Compare a [op, op'] [b, c] pos) (tTest (tChain r r' ta tb tc)) := by
  intro pins s σ H Q I h
  refine isTrue_chain (thn (ha pins s σ H _ I h) fun v s1 ⟨x, H1, I1, r1, q1⟩ => test_link (thn (hb pins s1 σ H1 _ I1 q1) fun u s2 ⟨y, H2, I2, r2, q2⟩ =>
    thn (ho pins s2 σ H2 x y v u _ I2 r1 r2 q2) fun d s3 ⟨z, H3, I3, r3, k, e, q3⟩ => ?_)) hm
  subst e
  cases r3
  refine wpAny_truthy_bool ?_
  cases k with
  | false =>
    obtain ⟨k', e', q'⟩ := q3
    cases e'
    exact ite_ff ⟨H3, I3, q'⟩
  | true =>
    refine ite_tt (test_last (thn (hc pins s3 σ H3 _ I3 q3) fun w' s4 ⟨z', H4, I4, r4, q4⟩ => thn (ho' pins s4 σ H4 y z' u w' _ I4 r2 r4 q4) fun d' s5 ⟨z2, H5, I5, r5, k2, e2, q5⟩ => ?_))
    subst e2
    cases r5
    exact wpAny_truthy_bool ⟨H5, I5, q5⟩

/-! ### truth -/
/-- a value's truth by the abstract heap -/
def TruV (K : PySem.W.Frag) (x : V) (H : Hp) (k : Bool) : Prop :=
  match x with
  | .non => k = false
  | .bl b => k = b
  | .int i => k = (i != 0)
  | .str y => y.length ≤ sizeLine ∧ k = ((y.length : Int) != 0)
  | .byt y => y.size ≤ sizeLine ∧ k = ((y.size : Int) != 0)
  | .ref p => (∃ xs, SqL K H p xs ∧ k = !xs.isEmpty) ∨ (∃ xs, SqT K H p xs ∧ k = !xs.isEmpty) ∨ ∃ kvs, H p = some (.dK kvs) ∧ k = !kvs.isEmpty
  | _ => False
theorem line63 : (sizeLine : Nat) < 2 ^ 63 := by rw [sizeLine_eq]; decide

/-! ### strs and bytes -/

def PlainIxT (b : Expr) : Prop := ∀ o i, subscripted b false o i = operate [o, i] (getItem o i)

/-! ### scalar builtins, by CallR -/
theorem vals1 {x : V} {us : List Value} (r : Vals [x] us) : ∃ u, us = [u] ∧ RelV x u := by
  cases r with
  | cons r1 r2 => cases r2; exact ⟨_, rfl, r1⟩
theorem vals2 {x y : V} {us : List Value} (r : Vals [x, y] us) : ∃ u w', us = [u, w'] ∧ RelV x u ∧ RelV y w' := by
  cases r with
  | cons r1 r2 =>
    cases r2 with
    | cons r3 r4 => cases r4; exact ⟨_, _, rfl, r1, r3⟩
theorem call_abs : CallR X (.builtin "abs") (fun xs H Q => ∃ i, xs = [.int i] ∧ Q (.int (if i < 0 then -i else i)) H) := by
  intro pins s σ H xs us Q I r h
  obtain ⟨i, rfl, q⟩ := h
  obtain ⟨u, rfl, t, rfl⟩ := vals1 r
  exact call_abs_int fun u tk => ⟨.int (if i < 0 then -i else i), H, I.tok _, ⟨_, rfl⟩, q⟩
/-- len of a str, a bytes, a list, a tuple -/
def LenV (K : PySem.W.Frag) (x : V) (H : Hp) (n : Nat) : Prop :=
  match x with
  | .str y => y.length ≤ sizeLine ∧ n = y.length
  | .byt y => y.size ≤ sizeLine ∧ n = y.size
  | .ref p => (∃ xs, SqL K H p xs ∧ n = xs.length) ∨ ∃ xs, SqT K H p xs ∧ n = xs.length
  | _ => False
end
end L2

namespace L2
open PySem PySem.Spec PyProof.Rows

/-! ### an instance, its attributes a map -/
structure ObjM (h : Heap) (x dx C : Addr) (mA : Str → Option Value) : Prop where
  obj : h.get? x = some (PySem.W.instObj C dx)
  ns : h.Ns1 dx mA
  ne : dx ≠ x

theorem lookIn_ns {h : Heap} {dx : Addr} {mA : Str → Option Value} (n : h.Ns1 dx mA) : ∃ od, h.get? dx = some od ∧ ∀ name, PySem.W.lookIn name od = some (mA name) := by
  obtain ⟨o, es, ep, ho, hd, hk, _, hm⟩ := n
  refine ⟨o, ho, fun name => ?_⟩
  have e := hm name
  unfold nsFind findBy at e
  rw [← Array.find?_toList] at e
  unfold PySem.W.lookIn
  rw [hd]
  dsimp only
  split
  · rename_i y q
    rw [q] at e
    exact congrArg some e
  · rename_i q
    rw [q] at e
    have a : es.toList.any (·.refKey) = false := by
      rw [List.any_eq_false]
      intro y hy
      obtain ⟨z, t, hkey⟩ := hk y (Array.mem_toList_iff.mp hy)
      simp [DictEntry.refKey, hkey]
    have a' : ¬ es.toList.any (·.refKey) = true := by rw [a]; exact Bool.false_ne_true
    rw [if_neg a']
    exact congrArg some e

theorem ObjM.look {h : Heap} {x dx C : Addr} {mA : Str → Option Value} (I : ObjM h x dx C mA) : ∃ od, PySem.W.InstAt h x (PySem.W.instObj C dx) C (some od) ∧ ∀ name, PySem.W.lookIn name od = some (mA name) :=
  let ⟨od, ho, hl⟩ := lookIn_ns I.ns
  ⟨od, ⟨I.obj, rfl, rfl, ho⟩, hl⟩

section
variable {prog : Program} {w : World} {A : Around} {E : Value → Shared → Prop} {s : Shared} {K : PySem.W.Frag} {x dx C f : Addr} {mA : Str → Option Value} {name : Str} {v : Value}

theorem get_map {expr : Bool} {Q : Value → Shared → Prop} (X : K.In s.heap) (I : ObjM s.heap x dx C mA) (hg : PySem.W.plainGet K C name = true) (hh : PySem.W.hasDictIn K C = true)
    (ha : PySem.W.findIn K (.ref C) name = some none) (hv : mA name = some v) (hv' : PySem.W.handedIn v = true) (h : Q v { s with toks := s.toks + 1 }) :
    wpAny (model prog w) A (getAttr (.ref x) name expr) Q E s := by
  obtain ⟨od, J, hl⟩ := I.look
  exact PySem.W.get_value X J (PySem.W.plainGet_of hg).1 (PySem.W.findObj_own hh ha rfl (by rw [hl, hv])) hv' h


theorem get_meth {pl : Sem Bool} {Q : Value × List Value → Shared → Prop} (X : K.In s.heap) (I : ObjM s.heap x dx C mA) (hg : PySem.W.plainGet K C name = true)
    (hf : PySem.W.findIn K (.ref C) name = some (some (.ref f))) (ht : PySem.W.isFn K (.ref f) = true) (hv : mA name = none) (h : Q (.ref f, [.ref x]) s) :
    wpAny (model prog w) A (getMethod (.ref x) name pl) Q E s := by
  obtain ⟨od, J, hl⟩ := I.look
  exact PySem.W.method_fn X J (PySem.W.plainGet_of hg).1 (PySem.W.plainGet_of hg).2 hf (beq_iff_eq.mp ht) (by show (PySem.W.lookIn name od).map (·.isSome) = some false; rw [hl, hv]; rfl) h

theorem set_map {ns : List Str} {Q : Unit → Shared → Prop} (X : K.In s.heap) (I : ObjM s.heap x dx C mA)
    (hs : PySem.W.findIn K (.ref C) "__setattr__" = some (some (.builtin "object.__setattr__"))) (hp : PySem.W.plainOver K C = true) (ht : PySem.W.takerIn K C name = some none) (hh : PySem.W.hasDictIn K C = true)
    (hw : PySem.Within mA ns) (hsz : ns.length ≤ sizeLine)
    (h : ∀ h', ObjM h' x dx C (fun y => if y = name then some v else mA y) → Heap.SameBut dx s.heap h' → Q () { s with heap := h', toks := s.toks + 2 }) :
    wpAny (model prog w) A (setAttr (.ref x) name v) Q E s := by
  obtain ⟨od, J, hl⟩ := I.look
  refine PySem.W.set_plain X J hs (PySem.W.osa_open (s := { s with toks := s.toks + 1 }) (r := none) X J hp ht fun b => ?_)
  obtain ⟨cd, hc, hd'⟩ := PySem.W.any_some hh
  have hx : s.heap.get? x = some ⟨.ref C, some dx, .plain, #[]⟩ := I.obj
  refine wpAny_bind (wpAny_pure (wpAny_bind (wpAny_bind (wpAny_loadPart hx (wpAny_bind (PySem.W.Looks.here (s := { s with toks := s.toks + 1 }) (PySem.W.looks_clsIn X hc) ?_))))))
  rw [hd']
  refine wpAny_pure (a := some dx) (wpAny_bind (wpAny_pure (wpAny_bind ?_)))
  refine wpAny_nsSet1 (s := { s with toks := s.toks + 1 }) I.ns fun h' hn2 hs2 => ?_
  obtain ⟨oD, esD, epD, hoD, hdD, hcD⟩ := hn2.count (PySem.Within.cons name v hw)
  refine wpAny_bind (wpAny_lookBehind hoD (by rw [hdD]; exact pastItsLine_dict (Nat.le_trans hcD (by rw [List.length_cons]; (first | lia | omega)))) ?_)
  exact wpAny_pure (h _ ⟨(hs2.2 _ (Ne.symm I.ne)).trans I.obj, hn2, I.ne⟩ hs2)

/-- C(..): the dict at the heap's end, the instance behind it; then its __init__ -/
theorem make_map {R : Result → Shared → Prop} {vs : List Value} {kw : List (Str × Value)} (X : K.In s.heap) (hm : PySem.W.makesIn K C = true)
    (hi : PySem.W.findIn K (.ref C) "__init__" = some (some (.ref f))) (hf : PySem.W.typeIn K (.ref f) = some (.type "function"))
    (h : codeAny (model prog w) (A.under (.builtin "type.__call__" ⟨.ref C :: vs, kw⟩)) (.call (.ref f) ⟨.ref (s.heap.objs.size + 1) :: vs, kw⟩) (PySem.W.InitBack (s.heap.objs.size + 1) R)
      { s with heap := (s.heap.push PySem.W.emptyDict).push (PySem.W.instObj C s.heap.objs.size) }) :
    codeAny (model prog w) A (.call (.ref C) ⟨vs, kw⟩) R s := by
  obtain ⟨hh, g, d, t, os⟩ := s
  exact PySem.W.make_core (PySem.W.makes_of X hm) (PySem.W.looks_findIn X hi) (fun self => PySem.W.bind_fn X self hf) (.inl rfl) h
end

/-! ### the attributes as a list of pairs -/
def putF (f : Str) (v : V) : List (Str × V) → List (Str × V)
  | [] => [(f, v)]
  | (g, x) :: r => if g = f then (g, v) :: r else (g, x) :: putF f v r
theorem lookup_putF (f g : Str) (v : V) : ∀ fs : List (Str × V), (putF f v fs).lookup g = if g = f then some v else fs.lookup g
  | [] => by
    show List.lookup g [(f, v)] = _
    by_cases h : g = f
    · have hb : (g == f) = true := beq_iff_eq.mpr h
      simp only [List.lookup, hb, if_pos h]
    · have hb : (g == f) = false := beq_eq_false_iff_ne.mpr h
      simp only [List.lookup, hb, if_neg h]
  | (k, x) :: r => by
    have ih := lookup_putF f g v r
    rw [show putF f v ((k, x) :: r) = (if k = f then (k, v) :: r else (k, x) :: putF f v r) from rfl]
    by_cases hk : k = f
    · rw [if_pos hk]
      by_cases h : g = k
      · have hb : (g == k) = true := beq_iff_eq.mpr h
        simp only [List.lookup, hb, if_pos (h.trans hk)]
      · have hb : (g == k) = false := beq_eq_false_iff_ne.mpr h
        simp only [List.lookup, hb, if_neg (fun e : g = f => h (e.trans hk.symm))]
    · rw [if_neg hk]
      by_cases h : g = k
      · have hb : (g == k) = true := beq_iff_eq.mpr h
        simp only [List.lookup, hb, if_neg (fun e : g = f => hk (h.symm.trans e))]
      · have hb : (g == k) = false := beq_eq_false_iff_ne.mpr h
        simp only [List.lookup, hb]
        exact ih
theorem keys_putF (f : Str) (v : V) : ∀ fs : List (Str × V), f ∈ (putF f v fs).map (·.1) ∧ ∀ g, g ∈ fs.map (·.1) → g ∈ (putF f v fs).map (·.1)
  | [] => ⟨by simp [putF], fun g h => by simp at h⟩
  | (k, x) :: r => by
    obtain ⟨i1, i2⟩ := keys_putF f v r
    rw [show putF f v ((k, x) :: r) = (if k = f then (k, v) :: r else (k, x) :: putF f v r) from rfl]
    by_cases hk : k = f
    · rw [if_pos hk]
      subst hk
      exact ⟨by simp, fun g h => by simpa using h⟩
    · rw [if_neg hk]
      refine ⟨?_, fun g h => ?_⟩
      · rw [List.map_cons]
        exact List.mem_cons_of_mem _ i1
      · rw [List.map_cons] at h ⊢
        rcases List.mem_cons.mp h with e | e
        · exact List.mem_cons.mpr (.inl e)
        · exact List.mem_cons_of_mem _ (i2 g e)
theorem length_putF (f : Str) (v : V) : ∀ fs : List (Str × V), (putF f v fs).length ≤ fs.length + 1
  | [] => by simp [putF]
  | (k, x) :: r => by
    have ih := length_putF f v r
    rw [show putF f v ((k, x) :: r) = (if k = f then (k, v) :: r else (k, x) :: putF f v r) from rfl]
    by_cases hk : k = f
    · rw [if_pos hk, List.length_cons, List.length_cons]; (first | lia | omega)
    · rw [if_neg hk, List.length_cons, List.length_cons]; (first | lia | omega)

theorem RelO.some_of {v : V} {o : Option Value} (r : RelO (some v) o) : ∃ u, o = some u ∧ RelV v u := by
  cases o with
  | none => exact (show False from r).elim
  | some u => exact ⟨u, rfl, r⟩
theorem RelO.none_of {o : Option Value} (r : RelO none o) : o = none := by
  cases o with
  | none => rfl
  | some u => exact (show False from r).elim
theorem handed_of {v : V} {u : Value} (r : RelV v u) : PySem.W.handedIn u = true := by
  cases v with
  | non => cases (show u = Value.none from r); rfl
  | bl b => cases (show u = Value.bool b from r); rfl
  | int i => obtain ⟨t, e⟩ := (show ∃ t, u = Value.int i t from r); cases e; rfl
  | str x => obtain ⟨t, e⟩ := (show ∃ t, u = Value.str x t from r); cases e; rfl
  | byt b => obtain ⟨t, e⟩ := (show ∃ t, u = Value.bytes b t from r); cases e; rfl
  | flt b => obtain ⟨t, e⟩ := (show ∃ t, u = Value.float b t from r); cases e; rfl
  | ref a => cases (show u = Value.ref a from r); rfl
  | ty n => cases (show u = Value.type n from r); rfl

section
variable {P : Program} {w : World} {H H' : Hp} {h h' : Heap} {a C dx : Addr} {fs fs' : List (Str × V)}
theorem ins_get (hok : HOk P w H h) (e : H a = some (.ins C dx fs)) : ∃ mA, ObjM h a dx C mA ∧ (∀ f, RelO (fs.lookup f) (mA f)) ∧ PySem.Within mA (fs.map (·.1)) ∧ fs.length ≤ 1000 ∧ H dx = some (.own a) := by
  obtain ⟨d, z, ne, ob, mA, n, r, q⟩ := (show ObjOk P w H h a (.ins C dx fs) from hok a _ e)
  exact ⟨mA, ⟨ob, n, ne⟩, r, q, z, d⟩
end

/-! ### what of the text a class must have -/
structure Cls (K : PySem.W.Frag) (C : Addr) : Prop where
  pg : PySem.W.plainGet K C Str.empty = true
  hd : PySem.W.hasDictIn K C = true
  po : PySem.W.plainOver K C = true
  sa : PySem.W.findIn K (.ref C) "__setattr__" = some (some (.builtin "object.__setattr__"))
theorem Cls.get {K : PySem.W.Frag} {C : Addr} (c : Cls K C) (f : Str) : PySem.W.plainGet K C f = true := c.pg
/-- no class of it has the name -/
def NoAttr (K : PySem.W.Frag) (C : Addr) (f : Str) : Prop := PySem.W.findIn K (.ref C) f = some none
theorem NoAttr.taker {K : PySem.W.Frag} {C : Addr} {f : Str} (n : NoAttr K C f) : PySem.W.takerIn K C f = some none := by
  unfold PySem.W.takerIn
  rw [show PySem.W.findIn K (.ref C) f = some none from n]
  rfl
/-- a constant of the class -/
structure Con (K : PySem.W.Frag) (C : Addr) (f : Str) (v : V) (u : Value) : Prop where
  at_ : PySem.W.findIn K (.ref C) f = some (some u)
  rel : RelV v u
  get : PySem.W.specialIn K u "__get__" = some none
  cp : PySem.W.copiedNames.contains f = false
/-- a method: a plain def of the class or of one above it -/
structure Meth (K : PySem.W.Frag) (C : Addr) (m : Str) (f : Addr) : Prop where
  at_ : PySem.W.findIn K (.ref C) m = some (some (.ref f))
  fn : PySem.W.isFn K (.ref f) = true
  kp : PySem.W.keepIn K (.ref f) = true

section
variable {X : Cx} {pins : List (Addr × Obj)} {σ : St} {H : Hp} {s : Shared} {a C dx : Addr} {fs : List (Str × V)} {f : Str} {v : V} {A : Around} {E : Value → Shared → Prop}

theorem getattr_ok {b : Bool} {Q : Value → Shared → Prop} (I : Inv X pins σ H s) (e : H a = some (.ins C dx fs)) (c : Cls X.K C) (n : NoAttr X.K C f) (l : fs.lookup f = some v)
    (h : ∀ u s', Inv X pins σ H s' → RelV v u → Q u s') : wpAny (model X.prog X.w) A (getAttr (.ref a) f b) Q E s := by
  obtain ⟨mA, O, r, _, _, _⟩ := ins_get I.hok e
  obtain ⟨u, hu, ru⟩ := RelO.some_of (v := v) (o := mA f) (by rw [← l]; exact r f)
  exact get_map I.kIn O (c.get f) c.hd n hu (handed_of ru) (h u _ (I.tok _) ru)


theorem getmeth_ok {m : Str} {g : Addr} {pl : Sem Bool} {Q : Value × List Value → Shared → Prop} (I : Inv X pins σ H s) (e : H a = some (.ins C dx fs)) (c : Cls X.K C) (k : Meth X.K C m g) (l : fs.lookup m = none)
    (h : Q (.ref g, [.ref a]) s) : wpAny (model X.prog X.w) A (getMethod (.ref a) m pl) Q E s := by
  obtain ⟨mA, O, r, _, _, _⟩ := ins_get I.hok e
  have hn : mA m = none := RelO.none_of (by rw [← l]; exact r m)
  exact get_meth I.kIn O (c.get m) k.at_ k.fn hn h

theorem setattr_ok {y : V} {u : Value} {Q : Unit → Shared → Prop} (I : Inv X pins σ H s) (e : H a = some (.ins C dx fs)) (c : Cls X.K C) (n : NoAttr X.K C f) (hl : fs.length < 1000) (ry : RelV y u)
    (h : ∀ s', Inv X pins σ (upd H a (.ins C dx (putF f y fs))) s' → Q () s') : wpAny (model X.prog X.w) A (setAttr (.ref a) f u) Q E s := by
  obtain ⟨mA, O, r, wi, _, ho⟩ := ins_get I.hok e
  have hz : (fs.map (·.1)).length ≤ sizeLine := by rw [List.length_map, sizeLine_eq]; (first | lia | omega)
  refine set_map I.kIn O c.sa c.po n.taker c.hd wi hz fun h' O' sb => h _ ?_
  have hd : ∃ o, h'.get? dx = some o := let ⟨o, _, _, e', _⟩ := O'.ns; ⟨o, e'⟩
  refine I.write (x := a) (e := dx) (by rw [e]; exact True.intro) (.inr ho) (fun b q hb z => (sb.2 b hb).trans z) hd ?_
  refine ⟨by rw [upd_ne O.ne]; exact ho, ?_, O.ne, O'.obj, _, O'.ns, fun g => ?_, fun g hg => ?_⟩
  · have := length_putF f y fs; (first | lia | omega)
  · show RelO ((putF f y fs).lookup g) (if g = f then some u else mA g)
    rw [lookup_putF]
    by_cases q : g = f
    · rw [if_pos q, if_pos q]; exact ry
    · rw [if_neg q, if_neg q]; exact r g
  · by_cases q : g = f
    · rw [q]; exact (keys_putF f y fs).1
    · refine (keys_putF f y fs).2 g (wi g fun z => hg ?_)
      show (if g = f then some u else mA g) = none
      rw [if_neg q]; exact z

/-- a new instance, tracked, without attributes -/
theorem Inv.made (I : Inv X pins σ H s) : Inv X pins σ (upd (upd H s.heap.objs.size (.own (s.heap.objs.size + 1))) (s.heap.objs.size + 1) (.ins C s.heap.objs.size []))
    { s with heap := (s.heap.push PySem.W.emptyDict).push (PySem.W.instObj C s.heap.objs.size) } := by
  have e1 : (s.heap.push PySem.W.emptyDict).get? s.heap.objs.size = some PySem.W.emptyDict := Heap.get?_push_size s.heap rfl
  have e2 : ((s.heap.push PySem.W.emptyDict).push (PySem.W.instObj C s.heap.objs.size)).get? (s.heap.objs.size + 1) = some (PySem.W.instObj C s.heap.objs.size) := by
    have := Heap.get?_push_size (s.heap.push PySem.W.emptyDict) (o := PySem.W.instObj C s.heap.objs.size) rfl
    rwa [Heap.size_push] at this
  have e3 : (s.heap.push PySem.W.emptyDict).Ns s.heap.objs.size (fun _ => none) := ⟨PySem.W.emptyDict, #[], _, e1, rfl, (fun e he => absurd he (by simp)), fun _ => rfl⟩
  have I1 := I.laid (a := s.heap.objs.size) (o := .own (s.heap.objs.size + 1)) (h' := s.heap.push PySem.W.emptyDict) (t' := s.toks) (fun b u q => Heap.get?_push_of_some _ q) (Nat.le_refl _) ⟨_, e1⟩
  refine I1.laid (a := s.heap.objs.size + 1) (o := .ins C s.heap.objs.size []) (t' := s.toks) (fun b u q => Heap.get?_push_of_some _ q) (Nat.le_of_eq (Heap.size_push _ _)) ?_
  have ne : s.heap.objs.size ≠ s.heap.objs.size + 1 := Nat.ne_of_lt (Nat.lt_succ_self _)
  refine ⟨by rw [upd_ne ne, upd_same], Nat.zero_le _, ne, e2, fun _ => none, (Heap.Ns1.of_empty e3).at fun o q => Heap.get?_push_of_some _ q, fun _ => True.intro, fun y hy => absurd rfl hy⟩

/-- e.f where nothing but the object is asked: through attributeBase (super) and the last hold -/
theorem attr_of {prog : Program} {w : World} {env : Env} {e : Expr} {f : Str} {pos : Pos} {s : Shared} {Q : Value → Shared → Prop} (hb : attributeBase e f env (eval e env) = eval e env)
    (h : wpAny (model prog w) A (eval e env) (fun o s₁ => wpAny (model prog w) A (getAttr o f true) Q E s₁) E s) : wpAny (model prog w) A (eval (.Attribute e f pos) env) Q E s :=
  Attribute_any_ h (by rw [arm_eval_Attribute, hb])
end

/-! ### readings and rules -/
/-- e.f, an attribute of the instance -/
def tFld (K : PySem.W.Frag) (ta : TE) (f : Str) : TE := fun σ H Q => ta σ H fun x H1 => ∃ a C dx fs v, x = .ref a ∧ H1 a = some (.ins C dx fs) ∧ Cls K C ∧ NoAttr K C f ∧ fs.lookup f = some v ∧ Q v H1
/-- e.f, a constant of the class -/
def tCon (K : PySem.W.Frag) (ta : TE) (f : Str) : TE := fun σ H Q => ta σ H fun x H1 => ∃ a C dx fs v u, x = .ref a ∧ H1 a = some (.ins C dx fs) ∧ Cls K C ∧ Con K C f v u ∧ fs.lookup f = none ∧ Q v H1
/-- e.f = value -/
def sFld (K : PySem.W.Frag) (ta tv : TE) (f : Str) : TS := fun D σ H => tv σ H fun y H1 => ta σ H1 fun x H2 => ∃ a C dx fs, x = .ref a ∧ H2 a = some (.ins C dx fs) ∧ Cls K C ∧ NoAttr K C f ∧ fs.length < 1000 ∧
  D.nx σ (upd H2 a (.ins C dx (putF f y fs)))
/-- an augmented operator on two values -/
def InOp (X : Cx) (op : Operator) (rd : V → V → Hp → VK → Prop) : Prop :=
  ∀ (pins : List (Addr × Obj)) (s : Shared) (σ : St) (H : Hp) (x y : V) (u v : Value) (Q : VK), Inv X pins σ H s → RelV x u → RelV y v → rd x y H Q → wpAny (model X.prog X.w) X.A (inplaceOp op u v) (EP X pins σ Q) X.xe s
/-- e.f op= value -/
def sFldAug (K : PySem.W.Frag) (ta tv : TE) (rd : V → V → Hp → VK → Prop) (f : Str) : TS := fun D σ H => ta σ H fun x H1 => ∃ a C dx fs v, x = .ref a ∧ H1 a = some (.ins C dx fs) ∧ Cls K C ∧ NoAttr K C f ∧ fs.lookup f = some v ∧
  tv σ H1 fun y H2 => rd v y H2 fun z H3 => ∃ dx' fs', H3 a = some (.ins C dx' fs') ∧ fs'.length < 1000 ∧ D.nx σ (upd H3 a (.ins C dx' (putF f z fs')))

section
variable {X : Cx} {o e value : Expr} {f : Str} {pos pos' tpos : Pos} {ta tv : TE}
theorem pe_fld (he : PE X e ta) (hb : attributeBase e f X.env (eval e X.env) = eval e X.env) : PE X (.Attribute e f pos) (tFld X.K ta f) := by
  intro pins s σ H Q I h
  refine attr_of hb (thn (he pins s σ H _ I h) fun u s1 ⟨x, H1, I1, rx, a, C, dx, fs, v, ex, ea, c, n, l, q⟩ => ?_)
  subst ex
  obtain rfl : u = Value.ref a := rx
  exact getattr_ok I1 ea c n l fun u' s2 I2 ru => ⟨v, H1, I2, ru, q⟩
theorem ps_fld (ha : PE X o ta) (hv : PE X value tv) (hs : swapsWith value (some (.Attribute o f pos')) pos.line X.env = pure false) : PS X (.Assign [.Attribute o f pos'] value pos) (sFld X.K ta tv f) := by
  intro pins s σ H D I h
  refine plainObj_wpAny_Assign_Attribute (thn (hv pins s σ H _ I h) fun u s1 ⟨y, H1, I1, ry, q⟩ => thn (ha pins s1 σ H1 _ I1 q) fun ov s2 ⟨x, H2, I2, rx, a, C, dx, fs, ex, ea, c, n, l, q2⟩ => ?_) hs
  subst ex
  obtain rfl : ov = Value.ref a := rx
  exact setattr_ok I2 ea c n l ry fun s3 I3 => ⟨σ, _, I3, q2⟩
def rAdd : V → V → Hp → VK → Prop := fun x y H Q => ∃ i j, x = .int i ∧ y = .int j ∧ Q (.int (i + j)) H
def rSub : V → V → Hp → VK → Prop := fun x y H Q => ∃ i j, x = .int i ∧ y = .int j ∧ Q (.int (i - j)) H

end

/-! ### isinstance -/
section
variable {X : Cx} {pins : List (Addr × Obj)} {σ : St} {H : Hp} {s : Shared} {A : Around} {E : Value → Shared → Prop} {Q : Value → Shared → Prop} {c : Value} {b : Bool}
/-- the type of a value, as the fragment's deciders take it; for an instance its class -/
inductive TyOf (K : PySem.W.Frag) (H : Hp) : V → Value → Prop where
  | non : TyOf K H .non (.type "NoneType")
  | bl (x : Bool) : TyOf K H (.bl x) (.type "bool")
  | int (i : Int) : TyOf K H (.int i) (.type "int")
  | str (x : Str) : TyOf K H (.str x) (.type "str")
  | flt (x : UInt64) : TyOf K H (.flt x) (.type "float")
  | lst {a : Addr} {xs : List V} (e : H a = some (.lst xs)) : TyOf K H (.ref a) (.type "list")
  | frz {a : Addr} {o : Obj} {xs : List V} (e : H a = some (.frz o (.lst xs))) : TyOf K H (.ref a) (.type "list")
  | tup {a : Addr} {xs : List V} (e : H a = some (.tup xs)) : TyOf K H (.ref a) (.type "tuple")
  | dK {a : Addr} {kvs : List (Key × V)} (e : H a = some (.dK kvs)) : TyOf K H (.ref a) (.type "dict")
  | dT {a : Addr} {kvs : List (List Key × V)} (e : H a = some (.dT kvs)) : TyOf K H (.ref a) (.type "dict")
  | ins {a C dx : Addr} {fs : List (Str × V)} (e : H a = some (.ins C dx fs)) (cl : Cls K C) (ha : PySem.W.findIn K (.ref C) "__class__" = some (some (.builtin "object.__class__")))
      (hn : PySem.W.specialIn K (.builtin "object.__class__") "__get__" = some (some (.builtin "getset_descriptor.__get__"))) (htk : PySem.W.takesIn K (.builtin "object.__class__") = some true)
      (hm : PySem.W.mroIn K C (.type "object") = some true) : TyOf K H (.ref a) (.ref C)
/-- isinstance(x, c) for one class c, a built-in or an own one: kitOne's answer -/
theorem isinst_ok {x : V} {u t : Value} (I : Inv X pins σ H s) (rx : RelV x u) (ty : TyOf X.K H x t) (e : PySem.W.kitOne X.K t c = some b) (h : ∀ tk, Q (.bool b) { s with toks := tk }) :
    wpAny (model X.prog X.w) A (call (.builtin "isinstance") [u, c]) Q E s := by
  cases ty with
  | non => cases (show u = Value.none from rx); exact PySem.W.kia_one PySem.W.kitx_none I.kIn True.intro e (fun z => nomatch z) h
  | bl y => cases (show u = Value.bool y from rx); exact PySem.W.kia_one PySem.W.kitx_bool I.kIn True.intro e (fun z => nomatch z) h
  | int i => obtain ⟨t, q⟩ := (show ∃ t, u = Value.int i t from rx); cases q; exact PySem.W.kia_one PySem.W.kitx_int I.kIn True.intro e (fun z => nomatch z) h
  | str y => obtain ⟨t, q⟩ := (show ∃ t, u = Value.str y t from rx); cases q; exact PySem.W.kia_one PySem.W.kitx_str I.kIn True.intro e (fun z => nomatch z) h
  | flt y => obtain ⟨t, q⟩ := (show ∃ t, u = Value.float y t from rx); cases q; exact PySem.W.kia_one PySem.W.kitx_float I.kIn True.intro e (fun z => nomatch z) h
  | @lst a xs ea =>
    cases (show u = Value.ref a from rx)
    obtain ⟨_, _, n, _, h1⟩ := (show ObjOk X.prog X.w H s.heap a (.lst xs) from I.hok a _ ea)
    exact PySem.W.kia_one PySem.W.kitx_list I.kIn ⟨_, h1, rfl⟩ e (fun z => nomatch z) h
  | @frz a ob xs ea =>
    cases (show u = Value.ref a from rx)
    obtain ⟨_, _, _, n, _, h1⟩ := (show ObjOk X.prog X.w H s.heap a (.frz ob (.lst xs)) from I.hok a _ ea)
    exact PySem.W.kia_one PySem.W.kitx_list I.kIn ⟨_, h1, rfl⟩ e (fun z => nomatch z) h
  | @tup a xs ea =>
    cases (show u = Value.ref a from rx)
    obtain ⟨_, _, _, p⟩ := (show ObjOk X.prog X.w H s.heap a (.tup xs) from I.hok a _ ea)
    obtain ⟨o, h1, h2, _⟩ := p
    exact PySem.W.kia_one PySem.W.kitx_tuple I.kIn ⟨o, h1, h2⟩ e (fun z => nomatch z) h
  | @dK a kvs ea =>
    cases (show u = Value.ref a from rx)
    obtain ⟨_, _, vs, _, p⟩ := (show ObjOk X.prog X.w H s.heap a (.dK kvs) from I.hok a _ ea)
    obtain ⟨o, es, ep, h1, h2, _⟩ := p
    exact PySem.W.kia_one PySem.W.kitx_dict I.kIn ⟨o, h1, h2.1⟩ e (fun z => nomatch z) h
  | @dT a kvs ea =>
    cases (show u = Value.ref a from rx)
    obtain ⟨_, _, xs, _, o, es, ep, h1, h2, _⟩ := (show ObjOk X.prog X.w H s.heap a (.dT kvs) from I.hok a _ ea)
    exact PySem.W.kia_one PySem.W.kitx_dict I.kIn ⟨o, h1, h2.1⟩ e (fun z => nomatch z) h
  | @ins a C dx fs ea cl ha hn htk hm =>
    cases (show u = Value.ref a from rx)
    obtain ⟨mA, O, _⟩ := ins_get I.hok ea
    obtain ⟨od, J, _⟩ := O.look
    exact PySem.W.kia_one (PySem.W.kitx_own (cl.get _) cl.hd ha hn htk hm) I.kIn J e (fun z => nomatch z) h
end
end L2

namespace L2
open PySem PySem.Spec PyProof.Rows

/-! ### room -/
structure Room (k : Nat) (A : Around) : Prop where
  hd : A.handled = none
  dp : A.depth + 3 * k + 5 < recursionLimit
  un : A.units + 16 * k + 200 < cLine
theorem Room.mono {j k : Nat} {A : Around} (r : Room k A) (h : j ≤ k) : Room j A := ⟨r.hd, by have := r.dp; (first | lia | omega), by have := r.un; (first | lia | omega)⟩
theorem Room.deeper {k : Nat} {A : Around} (r : Room (k + 1) A) (env : Env) : Room k (A.deeper env) :=
  ⟨r.hd, by have := r.dp; show A.depth + 1 + 3 * k + 5 < _; (first | lia | omega), by have := r.un; show A.units + 3 + 16 * k + 200 < _; (first | lia | omega)⟩
theorem make_depth {A : Around} {C : Addr} {us : List Value} {kw : List (Str × Value)} : (A.under (.builtin "type.__call__" ⟨.ref C :: us, kw⟩)).depth = A.depth + 1 := by
  first | rfl | simp [Around.under, Code.weight, Code.isCreation, Code.isGuard, Code.isCaller, Code.frames, Code.isFrame, guardIds]
theorem make_units {A : Around} {C : Addr} {us : List Value} {kw : List (Str × Value)} : (A.under (.builtin "type.__call__" ⟨.ref C :: us, kw⟩)).units = A.units + 1 := by
  first | rfl | simp [Around.under, Code.cUnits, Code.frames, Code.isFrame]
theorem Room.make {k : Nat} {A : Around} (r : Room (k + 1) A) (C : Addr) (us : List Value) (kw : List (Str × Value)) : Room k (A.under (.builtin "type.__call__" ⟨.ref C :: us, kw⟩)) :=
  ⟨r.hd, by have := r.dp; rw [make_depth]; (first | lia | omega), by have := r.un; rw [make_units]; (first | lia | omega)⟩
theorem Room.depth {k : Nat} {A : Around} (r : Room k A) : A.depth < recursionLimit := by have := r.dp; (first | lia | omega)

/-! ### argument lists and displays -/
def tNil : TA := fun _ H Q => Q [] H
def tCons (ta : TE) (tr : TA) : TA := fun σ H Q => ta σ H fun x H1 => tr σ H1 fun xs H2 => Q (x :: xs) H2
section
variable {X : Cx} {e : Expr} {es : List Expr} {te : TE} {t : TA} {pos : Pos}
theorem pa_nil : PA X [] tNil := fun _ _ _ _ H Q I h => Calls.spliced_nil ⟨[], H, I, .nil, h⟩
theorem pa_cons (ha : PE X e te) (hr : PA X es t) (hs : starEach (e :: es) X.env = (false, eval e X.env) :: starEach es X.env := by rfl) : PA X (e :: es) (tCons te t) := by
  intro pos pins s σ H Q I h
  rw [hs]
  show wpAny _ _ (spliced ((false, eval e X.env) :: backTo pos (starEach es X.env))) _ _ s
  refine Calls.spliced_cons (thn (ha pins s σ H _ I h) fun u s1 ⟨x, H1, I1, r1, q1⟩ => ?_)
  exact thn (hr pos pins s1 σ H1 _ I1 q1) fun us s2 ⟨xs, H2, I2, r2, q2⟩ => ⟨x :: xs, H2, I2, .cons r1 r2, q2⟩

/-- a tuple, a list of written items -/
def tTup (t : TA) : TE := fun σ H Q => t σ H fun xs H1 => xs.length ≤ sizeLine ∧ ∀ p, H1 p = none → Q (.ref p) (upd H1 p (.tup xs))
def tLst (t : TA) : TE := fun σ H Q => t σ H fun xs H1 => xs.length ≤ sizeLine ∧ ∀ p, H1 p = none → Q (.ref p) (upd H1 p (.lst xs))
theorem pe_tup {x1} (h : PA X es t) : PE X (.Tuple es x1 pos) (tTup t) := by
  intro pins s σ H Q I hq
  refine wpAny_Tuple_spliced (thn (h pos pins s σ H _ I hq) fun us s1 ⟨xs, H1, I1, r, z, q⟩ => ⟨by rw [← r.length]; exact z, ?_⟩)
  have hf : H1 s1.heap.objs.size = none := I1.hok.fresh (Nat.le_refl _)
  refine ⟨.ref s1.heap.objs.size, upd H1 s1.heap.objs.size (.tup xs), I1.laid (t' := s1.toks) (fun b u e => Heap.get?_push_of_some _ e) (Nat.le_refl _) ?_, rfl, q _ hf⟩
  exact ⟨z, us, r, ⟨_, Heap.get?_push_size _ rfl, rfl, _, rfl⟩⟩
theorem pe_lst (h : PA X es t) : PE X (.List es pos) (tLst t) := by
  intro pins s σ H Q I hq
  refine wpAny_List_spliced (thn (h pos pins s σ H _ I hq) fun us s1 ⟨xs, H1, I1, r, z, q⟩ => ⟨by rw [← r.length]; exact z, ?_⟩)
  have hf : H1 s1.heap.objs.size = none := I1.hok.fresh (Nat.le_refl _)
  refine ⟨.ref s1.heap.objs.size, upd H1 s1.heap.objs.size (.lst xs), I1.laid (t' := s1.toks) (fun b u e => Heap.get?_push_of_some _ e) (Nat.le_refl _) ?_, rfl, q _ hf⟩
  exact ⟨z, us, 0, r, Heap.get?_push_size _ rfl⟩
end

/-! ### what a def promises -/
/-- a def's promise: the bound arguments in the parameters' order, the heap, the wanted end, the wanted exception -/
abbrev Sp := List V → Hp → VK → XK → Prop
/-- how an exception lies behind a call (file 08 gives it): the callers' frames, abstract heap and state ahead of the call, the wish, the exception, the state -/
abbrev CXT := List Env → Hp → Shared → XK → Value → Shared → Prop

/-- the state at a call -/
structure Env0 (P : Program) (w : World) (K : PySem.W.Frag) (mg : Str → Option Value) (base : Heap) (A : Around) (outer : List Env) (s : Shared) (H : Hp) : Prop where
  frames : A.frames = some outer
  mod : Mod K mg base
  bs : ∀ b o, base.get? b = some o → s.heap.get? b = some o ∧ H b = none
  bsz : base.objs.size ≤ s.heap.objs.size
  funs : s.heap.FunFrames base outer
  frf : ∀ b ∈ frs outer, H b = none
  hok : HOk P w H s.heap
  bare : AllBare s.gens
/-- a call's end -/
def CE (outer : List Env) (P : Program) (w : World) (H : Hp) (s : Shared) (Q : VK) (u : Value) (s' : Shared) : Prop :=
  ∃ v H', s'.os = s.os ∧ AllBare s'.gens ∧ Un (frs outer) [] H H' s.heap s'.heap ∧ HOk P w H' s'.heap ∧ RelV v u ∧ Q v H'
def CR (CX : CXT) (outer : List Env) (P : Program) (w : World) (H : Hp) (s : Shared) (Q : VK) (E : XK) (r : Result) (s' : Shared) : Prop :=
  match r with
  | .ok (.ret u) => CE outer P w H s Q u s'
  | .ok _ => False
  | .error e => CX outer H s E e s'
structure FnOk (P : Program) (w : World) (K : PySem.W.Frag) (mg : Str → Option Value) (base : Heap) (CX : CXT) (k : Nat) (f : Addr) (fd : FuncData) (ps : List Str) (sp : Sp) : Prop where
  len : ∀ vs H Q E, sp vs H Q E → vs.length = ps.length
  run : ∀ (A : Around) (outer : List Env) (s : Shared) (H : Hp) (args : Args) (us : List Value) (vs : List V) (Q : VK) (E : XK), Room k A → Env0 P w K mg base A outer s H → BindsTo s fd args (ps.zip us) → Vals vs us → sp vs H Q E →
    codeAny (model P w) A (.call (.ref f) args) (CR CX outer P w H s Q E) s
/-- a weaker promise -/
theorem FnOk.imp {P : Program} {w : World} {K : PySem.W.Frag} {mg : Str → Option Value} {base : Heap} {CX : CXT} {k : Nat} {f : Addr} {fd : FuncData} {ps : List Str} {sp sp' : Sp} (F : FnOk P w K mg base CX k f fd ps sp)
    (h : ∀ vs H Q E, sp' vs H Q E → sp vs H Q E) : FnOk P w K mg base CX k f fd ps sp' :=
  ⟨fun vs H Q E q => F.len vs H Q E (h _ _ _ _ q), fun A outer s H args us vs Q E hr he hb hv hs => F.run A outer s H args us vs Q E hr he hb hv (h _ _ _ _ hs)⟩

theorem Env0.make {P : Program} {w : World} {K : PySem.W.Frag} {mg : Str → Option Value} {base : Heap} {A : Around} {outer : List Env} {s : Shared} {H : Hp} (e : Env0 P w K mg base A outer s H) (C : Addr) (us : List Value) (kw : List (Str × Value)) :
    Env0 P w K mg base (A.under (.builtin "type.__call__" ⟨.ref C :: us, kw⟩)) outer s H := ⟨by first | exact e.frames | (simpa [Around.under, Code.envs, Code.isFrame, pushEnvs] using e.frames), e.mod, e.bs, e.bsz, e.funs, e.frf, e.hok, e.bare⟩

section
variable {X : Cx} {pins : List (Addr × Obj)} {σ : St} {H : Hp} {s s' : Shared}
/-- from a body: what a callee wants -/
theorem Inv.env0 (I : Inv X pins σ H s) : Env0 X.prog X.w X.K X.mg X.base X.A X.stack s H :=
  ⟨I.ok.frames, I.ok.mod, I.bs, Nat.le_trans I.ok.bsz I.sz, I.stack, I.stkFree, I.hok, I.bare⟩
/-- behind a call -/
theorem Inv.after {Q : VK} {u : Value} (I : Inv X pins σ H s) (h : CE X.stack X.prog X.w H s Q u s') : EP X pins σ Q u s' := by
  obtain ⟨v, H', os, bare, un, hok, r, q⟩ := h
  obtain ⟨hh, g, d, t, os'⟩ := s'
  obtain rfl : os' = s.os := os
  exact ⟨v, H', I.call (h' := hh) (g' := g) (d' := d) (t' := t) (ch := []) un hok bare (fun b z => absurd z (by simp)), r, q⟩
end

/-! ### calls -/
/-- f(..): the written arguments, then the defaults dvs; E: what is wanted of an exception -/
def tCall (sp : Sp) (dvs : List V) (E : XK) (t : TA) : TE := fun σ H Q => t σ H fun vs H1 => sp (vs ++ dvs) H1 Q E
/-- o.m(..) of an instance of the class at C -/
def tMeth (C : Addr) (m : Str) (sp : Sp) (dvs : List V) (E : XK) (ta : TE) (t : TA) : TE := fun σ H Q => ta σ H fun x H1 => ∃ a dx fs, x = .ref a ∧ H1 a = some (.ins C dx fs) ∧ fs.lookup m = none ∧
  t σ H1 fun vs H2 => sp (x :: (vs ++ dvs)) H2 Q E
/-- C(..): a new instance and its dict, then __init__ -/
def tMake (C : Addr) (sp : Sp) (dvs : List V) (E : XK) (t : TA) : TE := fun σ H Q => t σ H fun vs H1 => ∀ x dx, H1 x = none → H1 dx = none → dx ≠ x →
  sp (.ref x :: (vs ++ dvs)) (upd (upd H1 dx (.own x)) x (.ins C dx [])) (fun v H2 => v = .non ∧ Q (.ref x) H2) E

/-- how the parameters are bound: us the positional arguments, kw the keywords' values by name, ds the defaults that fill up -/
def Binds (K : PySem.W.Frag) (fd : FuncData) (ps : List Str) (ds : List Value) : Prop :=
  ∀ (s : Shared) (us : List Value), K.In s.heap → (us ++ ds).length = ps.length → BindsTo s fd ⟨us, []⟩ (ps.zip (us ++ ds))
/-- every parameter is given -/
theorem Binds.all {K : PySem.W.Frag} {fd : FuncData} {ps : List Str} (h : ∀ us : List Value, us.length = ps.length → bindArgs fd ⟨us, []⟩ = pure (ps.zip us)) : Binds K fd ps [] := fun s us _ hl => by
  rw [List.append_nil] at hl ⊢
  exact .of_eq (h us hl)

/-- an exception of a callee reaches what this body wants of exceptions -/
def Passes (CX : CXT) (X : Cx) (E : XK) : Prop := ∀ (pins : List (Addr × Obj)) (σ : St) (H : Hp) (s : Shared) (e : Value) (s' : Shared), Inv X pins σ H s → CX X.stack H s E e s' → X.xe e s'

section
variable {X : Cx} {CX : CXT} {k : Nat} {f C : Addr} {fd : FuncData} {ps : List Str} {sp : Sp} {dvs : List V} {ds : List Value} {E : XK} {x m : Str} {p pos apos : Pos} {e o : Expr} {es : List Expr} {ta : TE} {t : TA}

/-- the callee runs -/
theorem run_fn {pins : List (Addr × Obj)} {σ : St} {H : Hp} {s : Shared} {Q : VK} {us : List Value} {vs : List V} (F : FnOk X.prog X.w X.K X.mg X.base CX k f fd ps sp) (hr : Room k X.A) (hb : Binds X.K fd ps ds) (hd : Vals dvs ds) (hx : Passes CX X E)
    (I : Inv X pins σ H s) (r : Vals vs us) (h : sp (vs ++ dvs) H Q E) : wpAny (model X.prog X.w) X.A (call (.ref f) us) (EP X pins σ Q) X.xe s := by
  have r2 : Vals (vs ++ dvs) (us ++ ds) := r.append hd
  have hl : (us ++ ds).length = ps.length := by rw [← r2.length]; exact F.len _ _ _ _ h
  refine wpAny_call (codeAny_mono (F.run X.A X.stack s H ⟨us, []⟩ (us ++ ds) (vs ++ dvs) Q E hr I.env0 (hb s us I.kIn hl) r2 h) fun r s' hq => ?_)
  cases r with
  | error e => exact hx pins σ H s e s' I hq
  | ok fl =>
    cases fl with
    | ret u => exact I.after hq
    | next => exact False.elim hq
    | brk => exact False.elim hq
    | cont => exact False.elim hq

theorem pe_call (F : FnOk X.prog X.w X.K X.mg X.base CX k f fd ps sp) (hr : Room k X.A) (hg : Gl X x) (hm : X.mg x = some (.ref f)) (hk : PySem.W.keepIn X.K (.ref f) = true) (hb : Binds X.K fd ps ds) (hd : Vals dvs ds) (hx : Passes CX X E)
    (ha : PA X (e :: es) t) (hdb : (x == ("__debug__" : Str)) = false := by decide) (he : starEach (e :: es) X.env = (false, eval e X.env) :: starEach es X.env := by rfl) (hpl : (backTo pos (starEach es X.env)).any (·.1) = false := by rfl) :
    PE X (.Call (.Name x p) (e :: es) [] pos) (tCall sp dvs E t) := by
  intro pins s σ H Q I h
  refine wpAny_Call_Name_kw (ld_glob I hg hm ?_ hdb)
  refine PySem.W.callWith_K (h₀ := X.base) I.ok.mod.kin hk (thn (ha pos pins s σ H _ I h) fun us s1 ⟨vs, H1, I1, r, q⟩ => ⟨I1.kIn, ?_⟩) he hpl
  exact run_fn F hr hb hd hx I1 r q

/-- o.m() -/
theorem pe_meth0 {pl : Sem Bool} (he : PE X o ta) (c : Cls X.K C) (hm : Meth X.K C m f) (F : FnOk X.prog X.w X.K X.mg X.base CX k f fd ps sp) (hr : Room k X.A) (hb : Binds X.K fd ps ds) (hd : Vals dvs ds) (hx : Passes CX X E)
    (ht : eval (.Call (.Attribute o m apos) [] [] pos) X.env = (do
      let ov ← eval o X.env
      standAt apos.atName
      let (f, first) ← holding [ov] (getMethod ov m pl)
      callWith pos f first (backTo pos (starEach [] X.env)) (backToKw pos (keywordEach [] X.env))) := by rfl) :
    PE X (.Call (.Attribute o m apos) [] [] pos) (tMeth C m sp dvs E ta tNil) := by
  intro pins s σ H Q I h
  refine PySem.W.methodCall_KW (pl := pl) (thn (he pins s σ H _ I h) fun u s1 ⟨x, H1, I1, rx, a, dx, fs, ex, ea, l, q⟩ => ?_) ht
  subst ex
  obtain rfl : u = Value.ref a := rx
  refine getmeth_ok I1 ea c hm l ?_
  exact PySem.W.callWith_K0 (first := [.ref a]) I1.kIn hm.kp (run_fn (us := [.ref a]) (vs := [.ref a]) F hr hb hd hx I1 (.cons rfl .nil) q)

/-- what a class must have to be made -/
structure Mk (K : PySem.W.Frag) (C f : Addr) : Prop where
  makes : PySem.W.makesIn K C = true
  init : PySem.W.findIn K (.ref C) "__init__" = some (some (.ref f))
  fn : PySem.W.isFn K (.ref f) = true
  kp : PySem.W.keepIn K (.ref C) = true

theorem run_make {pins : List (Addr × Obj)} {σ : St} {H : Hp} {s : Shared} {Q : VK} {us : List Value} {vs : List V} (M : Mk X.K C f) (F : FnOk X.prog X.w X.K X.mg X.base CX k f fd ps sp) (hr : Room (k + 1) X.A) (hb : Binds X.K fd ps ds) (hd : Vals dvs ds)
    (hx : Passes CX X E) (I : Inv X pins σ H s) (r : Vals vs us)
    (h : ∀ x dx, H x = none → H dx = none → dx ≠ x → sp (.ref x :: (vs ++ dvs)) (upd (upd H dx (.own x)) x (.ins C dx [])) (fun v H2 => v = .non ∧ Q (.ref x) H2) E) :
    wpAny (model X.prog X.w) X.A (call (.ref C) us) (EP X pins σ Q) X.xe s := by
  have hq := h (s.heap.objs.size + 1) s.heap.objs.size (I.hok.fresh (Nat.le_succ _)) (I.hok.fresh (Nat.le_refl _)) (Nat.ne_of_lt (Nat.lt_succ_self _))
  have I2 := Inv.made (C := C) I
  have r2 : Vals (V.ref (s.heap.objs.size + 1) :: (vs ++ dvs)) (Value.ref (s.heap.objs.size + 1) :: (us ++ ds)) := .cons rfl (r.append hd)
  have hl : (Value.ref (s.heap.objs.size + 1) :: us ++ ds).length = ps.length := by
    have e := r2.length
    rw [F.len _ _ _ _ hq] at e
    exact e.symm
  refine wpAny_call (make_map (f := f) I.kIn M.makes M.init (beq_iff_eq.mp M.fn) (codeAny_mono (F.run _ X.stack _ _ ⟨Value.ref (s.heap.objs.size + 1) :: us, []⟩ (Value.ref (s.heap.objs.size + 1) :: (us ++ ds)) _ _ E (hr.make C us [])
    (I2.env0.make C us []) (hb _ (Value.ref (s.heap.objs.size + 1) :: us) I2.kIn hl) r2 hq) fun r s' hq' => ?_))
  cases r with
  | error e => exact hx pins σ _ _ e s' I2 hq'
  | ok fl =>
    cases fl with
    | ret u =>
      obtain ⟨v, H', I3, rv, ev, q3⟩ := I2.after hq'
      subst ev
      exact ⟨rv, ⟨V.ref (s.heap.objs.size + 1), H', I3, rfl, q3⟩⟩
    | next => exact False.elim hq'
    | brk => exact False.elim hq'
    | cont => exact False.elim hq'
theorem pe_make (M : Mk X.K C f) (F : FnOk X.prog X.w X.K X.mg X.base CX k f fd ps sp) (hr : Room (k + 1) X.A) (hg : Gl X x) (hm : X.mg x = some (.ref C)) (hb : Binds X.K fd ps ds) (hd : Vals dvs ds) (hx : Passes CX X E)
    (ha : PA X (e :: es) t) (hdb : (x == ("__debug__" : Str)) = false := by decide) (he : starEach (e :: es) X.env = (false, eval e X.env) :: starEach es X.env := by rfl) (hpl : (backTo pos (starEach es X.env)).any (·.1) = false := by rfl) :
    PE X (.Call (.Name x p) (e :: es) [] pos) (tMake C sp dvs E t) := by
  intro pins s σ H Q I h
  refine wpAny_Call_Name_kw (ld_glob I hg hm ?_ hdb)
  refine PySem.W.callWith_K (h₀ := X.base) I.ok.mod.kin M.kp (thn (ha pos pins s σ H _ I h) fun us s1 ⟨vs, H1, I1, r, q⟩ => ⟨I1.kIn, ?_⟩) he hpl
  exact run_make M F hr hb hd hx I1 r q
end

/-! ### keywords -/
/-- the values of the keywords, from the left -/
def PK (X : Cx) (kws : List Keyword) (t : TA) : Prop :=
  ∀ (pos : Pos) (pins : List (Addr × Obj)) (s : Shared) (σ : St) (H : Hp) (Q : List V → Hp → Prop), Inv X pins σ H s → t σ H Q → wpAny (model X.prog X.w) X.A (evalAll ((backToKw pos (keywordEach kws X.env)).map (·.2))) (AP X pins σ Q) X.xe s
section
variable {X : Cx} {CX : CXT} {k : Nat} {f C : Addr} {fd : FuncData} {ps ks : List Str} {sp : Sp} {E : XK} {x m : Str} {p pos apos kpos : Pos} {e o : Expr} {es : List Expr} {kws : List Keyword} {te ta : TE} {t tk : TA} {nm : Option Str}

/-- how a call with keywords binds: g puts the positional values us and the keywords' values ws (names ks) in the parameters' order, defaults among them -/
structure KBinds (K : PySem.W.Frag) (fd : FuncData) (ps ks : List Str) (g : List Value → List Value → List Value) (gV : List V → List V → List V) : Prop where
  to : ∀ (s : Shared) (us ws : List Value), K.In s.heap → (g us ws).length = ps.length → BindsTo s fd ⟨us, ks.zip ws⟩ (ps.zip (g us ws))
  rel : ∀ {vs : List V} {us : List Value} {zs : List V} {ws : List Value}, Vals vs us → Vals zs ws → Vals (gV vs zs) (g us ws)
def tCallK (sp : Sp) (gV : List V → List V → List V) (E : XK) (t tk : TA) : TE := fun σ H Q => t σ H fun vs H1 => tk σ H1 fun zs H2 => sp (gV vs zs) H2 Q E
variable {g : List Value → List Value → List Value} {gV : List V → List V → List V}
end

/-! ### a def's body keeps its promise -/
/-- names: the parameters first -/
structure FnScope (N P : List Str) (sc : Scope) : Prop where
  kind : sc.kind = .function
  co : sc.isCoroutine = false
  gen : sc.isGenerator = false
  nd : N.Nodup
  pre : N.take P.length = P
  par : ∀ x ∈ P, sc.names.lookup x = some .local ∨ sc.names.lookup x = some .cell
  nofree : ∀ y ∈ sc.names, y.2 ≠ .free

theorem bindL_out {kindOf : Str → Option NameKind} {x : Str} : ∀ {binds : List (Str × Value)} {m : Str → Option Value}, (∀ v, (x, v) ∉ binds) → bindL kindOf binds m x = m x
  | [], _, _ => rfl
  | (n, v) :: r, m, h => by
    unfold bindL
    rw [bindL_out fun w hw => h w (List.mem_cons_of_mem _ hw)]
    split
    · have : x ≠ n := by rintro rfl; exact h v List.mem_cons_self
      simp [this]
    · rfl
theorem bindC_out {kindOf : Str → Option NameKind} {x : Str} : ∀ {binds : List (Str × Value)} {m : Str → Option Value}, (∀ v, (x, v) ∉ binds) → bindC kindOf binds m x = m x
  | [], _, _ => rfl
  | (n, v) :: r, m, h => by
    unfold bindC
    rw [bindC_out fun w hw => h w (List.mem_cons_of_mem _ hw)]
    split
    · rfl
    · have : x ≠ n := by rintro rfl; exact h v List.mem_cons_self
      simp [this]
theorem bindL_get {kindOf : Str → Option NameKind} {x : Str} {v : Value} : ∀ {P : List Str} {vs : List Value} {i : Nat} {m : Str → Option Value}, P.Nodup → P[i]? = some x → vs[i]? = some v → kindOf x = some .local →
    bindL kindOf (P.zip vs) m x = some v
  | [], _, _, _, _, h, _, _ => by simp at h
  | _ :: _, [], _, _, _, _, h, _ => by simp at h
  | p :: P, w :: vs, 0, m, nd, h1, h2, hk => by
    simp at h1 h2; subst h1; subst h2
    show bindL kindOf ((p, w) :: P.zip vs) m p = _
    unfold bindL
    rw [bindL_out fun v hv => (List.nodup_cons.mp nd).1 (List.of_mem_zip hv).1, if_pos hk]
    simp
  | p :: P, w :: vs, i + 1, m, nd, h1, h2, hk => by
    show bindL kindOf ((p, w) :: P.zip vs) m x = _
    unfold bindL
    exact bindL_get (i := i) (List.nodup_cons.mp nd).2 (by simpa using h1) (by simpa using h2) hk
theorem bindC_get {kindOf : Str → Option NameKind} {x : Str} {v : Value} : ∀ {P : List Str} {vs : List Value} {i : Nat} {m : Str → Option Value}, P.Nodup → P[i]? = some x → vs[i]? = some v → kindOf x ≠ some .local →
    bindC kindOf (P.zip vs) m x = some v
  | [], _, _, _, _, h, _, _ => by simp at h
  | _ :: _, [], _, _, _, _, h, _ => by simp at h
  | p :: P, w :: vs, 0, m, nd, h1, h2, hk => by
    simp at h1 h2; subst h1; subst h2
    show bindC kindOf ((p, w) :: P.zip vs) m p = _
    unfold bindC
    rw [bindC_out fun v hv => (List.nodup_cons.mp nd).1 (List.of_mem_zip hv).1, if_neg hk]
    simp
  | p :: P, w :: vs, i + 1, m, nd, h1, h2, hk => by
    show bindC kindOf ((p, w) :: P.zip vs) m x = _
    unfold bindC
    exact bindC_get (i := i) (List.nodup_cons.mp nd).2 (by simpa using h1) (by simpa using h2) hk

/-- the names' values at the entry -/
def start (N : List Str) (vs : List V) : St := vs.map some ++ List.replicate (N.length - vs.length) none

/-- the context of a def's body, at its entry; an exception leaves the frame, then lies as CX says -/
def cxOf (CX : CXT) (P : Program) (w : World) (K : PySem.W.Frag) (mg : Str → Option Value) (base : Heap) (N : List Str) (qual : Str) (scope : Scope) (f : Addr) (cd : Value) (A : Around) (outer : List Env) (s : Shared) (H : Hp) (E : XK) : Cx where
  prog := P
  w := w
  K := K
  mg := mg
  base := base
  A := A.deeper (envOfC qual scope s.heap.objs.size f cd)
  N := N
  s₀ := s
  H₀ := H
  env := envOfC qual scope s.heap.objs.size f cd
  outer := outer
  stack := envOfC qual scope s.heap.objs.size f cd :: outer
  ex := []
  calm := true
  fn := fun _ => true
  pn := []
  xe := fun e s' => wpAny (model P w) (A.deeper (envOfC qual scope s.heap.objs.size f cd)) (leaving (envOfC qual scope s.heap.objs.size f cd) e) (fun _ s'' => CX outer H s E e s'') (fun e' s'' => CX outer H s E e' s'') s'

theorem cell_has {sc : Scope} {n : Nat} {x : Str} (h : sc.names.lookup x = some .cell) : ∃ c, (cellsFrom n sc.names []).lookup x = some c := by
  have q := PySem.W.cellsFrom_some sc.names n [] (.inl h)
  exact Option.isSome_iff_exists.mp q

theorem inv_start {CX : CXT} {P : Program} {w : World} {K : PySem.W.Frag} {mg : Str → Option Value} {base : Heap} {N ps : List Str} {qual : Str} {scope : Scope} {f : Addr} {cd : Value} {A : Around} {outer : List Env} {s s1 : Shared} {H : Hp} {E : XK} {us : List Value} {vs : List V}
    (S : FnScope N ps scope) (hd : A.handled = none) (e0 : Env0 P w K mg base A outer s H) (hl : vs.length = ps.length) (r : Vals vs us)
    (x : InCallC s s.heap.objs.size (bindL (envOfC qual scope s.heap.objs.size f cd).kindOf (ps.zip us) fun _ => none) (cellsFrom (s.heap.objs.size + 1) scope.names []) (bindC (envOfC qual scope s.heap.objs.size f cd).kindOf (ps.zip us) fun _ => none) s1) :
    Inv (cxOf CX P w K mg base N qual scope f cd A outer s H E) [] (start N vs) H s1 := by
  have hpl : ps.length ≤ N.length := by have := congrArg List.length S.pre; rw [List.length_take] at this; (first | lia | omega)
  obtain ⟨h1, tk, rfl, hk⟩ := x.done
  have noA : ∀ b : Addr, b ∉ (cxOf CX P w K mg base N qual scope f cd A outer s H E).ex := fun b z => absurd (show b ∈ ([] : List Addr) from z) (by simp)
  refine ⟨⟨e0.mod, S.kind, rfl, rfl, Nat.le_refl _, fun y z c h1 h2 => ?_, fun y hy => ?_, fun y c _ h => ?_, fun _ => hd, Around.frames_deeper e0.frames, .inr ⟨rfl, rfl⟩, fun b z => absurd z (noA b), e0.bs, e0.bsz, fun b _ _ => noA b, fun b z => absurd z (noA b), e0.funs, e0.frf⟩,
    rfl, e0.bare, Un.kept hk, ⟨_, x.toInCall.ns, fun i y v h1 h2 h3 => ?_⟩, fun y c h => ⟨_, x.cell y c h⟩, e0.hok.fresh (Nat.le_refl _), fun y c h => ?_, fun p hp => absurd (show p ∈ ([] : List (Addr × Obj)) from hp) (by simp), e0.hok.kept hk, ?_⟩
  · exact name_of_addr x.apart (PySem.mem_of_lookup h1) (PySem.mem_of_lookup h2)
  · have hy : scope.names.lookup y = some .cell ∨ scope.names.lookup y = some .free := hy
    rcases hy with hy | hy
    · exact cell_has hy
    · exact absurd rfl (S.nofree _ (PySem.mem_of_lookup hy))
  · exact Nat.le_of_lt (x.above y c (PySem.mem_of_lookup h))
  · have hi : i < vs.length := by
      unfold start at h2
      by_cases hi : i < vs.length
      · exact hi
      · rw [List.getElem?_append_right (by simpa using hi)] at h2
        rw [List.getElem?_replicate] at h2
        split at h2 <;> cases h2
    have ha : vs[i]? = some v := by
      unfold start at h2
      rw [List.getElem?_append_left (by simpa using hi), List.getElem?_map] at h2
      cases e : vs[i]? with
      | none => rw [e] at h2; cases h2
      | some a => rw [e] at h2; cases h2; rfl
    obtain ⟨u, hu, rv⟩ := r.get ha
    have hp : ps[i]? = some y := by
      rw [← S.pre, List.getElem?_take_of_lt (by (first | lia | omega))]; exact h1
    have ndP : ps.Nodup := by rw [← S.pre]; exact S.nd.sublist (List.take_sublist _ _)
    refine ⟨u, rv, ?_⟩
    rcases S.par y (List.mem_of_getElem? hp) with k | k
    · exact .inl ⟨k, bindL_get ndP hp hu k⟩
    · obtain ⟨c, e⟩ := cell_has (n := s.heap.objs.size + 1) k
      refine .inr ⟨.inl k, c, e, ?_⟩
      have q := x.cell y c e
      rw [bindC_get ndP hp hu (by show scope.names.lookup y ≠ _; rw [k]; decide)] at q
      exact q
  · exact e0.hok.fresh (Nat.le_of_lt (x.above y c (PySem.mem_of_lookup h)))
  · unfold start
    show _ = N.length
    rw [List.length_append, List.length_map, List.length_replicate]
    (first | lia | omega)

/-- THE RULE: a def (or a method) of the text, by its body. The body's reading t is chosen for each entry; it is run at the parameters' values -/
theorem fn_of {CX : CXT} {P : Program} {w : World} {K : PySem.W.Frag} {mg : Str → Option Value} {base : Heap} {k : Nat} {f : Addr} {name qual : Str} {params : Arguments} {body : List Stmt} {scope : Scope} {dV kV doc pm cdv ct oc : Value} {an od : Option Addr}
    {osl : Array (Option Value)} {N ps : List Str} {sp : Sp} (lk : K.lookup f = some ⟨oc, od, .func (PySem.W.fnOf name qual params body scope dV kV doc pm an cdv ct), osl⟩) (hcd : PySem.W.codeIn K cdv qual = true) (S : FnScope N ps scope)
    (len : ∀ vs H Q E, sp vs H Q E → vs.length = ps.length)
    (hbody : ∀ (A : Around) (outer : List Env) (s : Shared) (H : Hp) (vs : List V) (Q : VK) (E : XK), Room k (A.deeper (envOfC qual scope s.heap.objs.size f cdv)) → sp vs H Q E →
      ∃ t, PSs (cxOf CX P w K mg base N qual scope f cdv A outer s H E) body t ∧ t { nx := fun _ H' => Q .non H', rt := Q } (start N vs) H) :
    FnOk P w K mg base CX (k + 1) f (PySem.W.fnOf name qual params body scope dV kV doc pm an cdv ct) ps sp := by
  refine ⟨len, fun A outer s H args us vs Q E hr e0 hb r hsp => ?_⟩
  have hl := len _ _ _ _ hsp
  have KX : K.In s.heap := e0.mod.kin.keeps fun b o e => (e0.bs b o e).1
  have lim : s.heap.NoLimit := e0.mod.nolimit.keeps fun b o e => (e0.bs b o e).1
  have hkind : ∀ y ∈ ps.zip us, scope.names.lookup y.1 = some .local ∨ (scope.names.lookup y.1 = some .cell ∧ ((cellsFrom (s.heap.objs.size + 1) scope.names []).lookup y.1).isSome = true) := fun ⟨n, v⟩ hy => by
    rcases S.par n (List.of_mem_zip hy).1 with q | q
    · exact .inl q
    · exact .inr ⟨q, PySem.W.cellsFrom_some _ _ _ (.inl q)⟩
  refine codeAny_call_function hr.depth (KX _ _ lk) rfl S.co S.gen rfl (PySem.W.codeRec_of KX hcd) (hb _ _ _ _ ?_)
  refine wpAny_newFunctionEnv_cells S.kind hkind fun env he s1 x => ?_
  subst he
  refine ⟨lim.keeps x.toInCall.keep, codeAny_func ?_⟩
  obtain ⟨t, ht, hq⟩ := hbody A outer s H vs Q E (hr.deeper _) hsp
  have I : Inv (cxOf CX P w K mg base N qual scope f cdv A outer s H E) [] (start N vs) H s1 := inv_start S hr.hd e0 hl r x
  refine wpAny_mono (ht [] s1 (start N vs) H _ I hq) (fun fl s' hs => ?_) fun e s' hs => hs
  have fin : ∀ {σ' : St} {H' : Hp} {v : V} {u : Value}, Inv (cxOf CX P w K mg base N qual scope f cdv A outer s H E) [] σ' H' s' → RelV v u → Q v H' → CE outer P w H s Q u s' :=
    fun {σ' H' v u} J rv q => ⟨v, H', J.os, J.bare, J.base, J.hok, rv, q⟩
  cases fl with
  | ret u =>
    obtain ⟨v, σ', H', J, rv, q⟩ := hs
    exact fin J rv q
  | next =>
    obtain ⟨σ', H', J, q⟩ := hs
    exact fin (v := V.non) (u := Value.none) J rfl q
  | brk =>
    obtain ⟨_, _, _, q⟩ := hs
    exact False.elim q
  | cont =>
    obtain ⟨_, _, _, q⟩ := hs
    exact False.elim q
end L2

namespace L2
open PySem PySem.Spec PyProof.Rows
section
variable {X : Cx} {x : Str} {p pos : Pos} {e : Expr} {es : List Expr} {t : TA} {id T : String} {r : List V → Hp → VK → Prop}

def tCB (r : List V → Hp → VK → Prop) (t : TA) : TE := fun σ H Q => t σ H fun vs H1 => r vs H1 Q
/-- f(e, ..), f a built-in function -/
theorem pe_callB (hc : CallR X (.builtin id) r) (hg : Gl X x) (hm : X.mg x = none) (hv : bootBuiltins x = some (.builtin id)) (ha : PA X (e :: es) t) (hn : x ≠ "__name__" := by decide) (hdb : (x == ("__debug__" : Str)) = false := by decide)
    (he : starEach (e :: es) X.env = (false, eval e X.env) :: starEach es X.env := by rfl) (hpl : (backTo pos (starEach es X.env)).any (·.1) = false := by rfl) : PE X (.Call (.Name x p) (e :: es) [] pos) (tCB r t) := by
  intro pins s σ H Q I h
  refine wpAny_Call_Name_kw (ld_blt I hg hm hv ?_ hn hdb)
  exact PyProof.Rows.callWith_builtin1 (thn (ha pos pins s σ H _ I h) fun us s1 ⟨vs, H1, I1, r1, q1⟩ => hc pins s1 σ H1 vs us Q I1 r1 q1) he hpl
/-- T(e, ..), T a built-in type -/
theorem pe_callTy (hc : CallR X (.type T) r) (hg : Gl X x) (hm : X.mg x = none) (hv : bootBuiltins x = some (.type T)) (ha : PA X (e :: es) t) (hn : x ≠ "__name__" := by decide) (hdb : (x == ("__debug__" : Str)) = false := by decide)
    (he : starEach (e :: es) X.env = (false, eval e X.env) :: starEach es X.env := by rfl) (hpl : (backTo pos (starEach es X.env)).any (·.1) = false := by rfl) : PE X (.Call (.Name x p) (e :: es) [] pos) (tCB r t) := by
  intro pins s σ H Q I h
  refine wpAny_Call_Name_kw (ld_blt I hg hm hv ?_ hn hdb)
  exact PyProof.Rows.callWith_type1 (thn (ha pos pins s σ H _ I h) fun us s1 ⟨vs, H1, I1, r1, q1⟩ => hc pins s1 σ H1 vs us Q I1 r1 q1) he hpl
end
end L2

namespace HT
open PySem PyProof.Rows

/-- t < u of tuples of ints -/
def lexLt : List Int → List Int → Bool
  | [], [] => false
  | [], _ :: _ => true
  | _ :: _, [] => false
  | x :: xs, y :: ys => if x = y then lexLt xs ys else decide (x < y)


section
open PySem.SeqAt
open PySem.AutoSeq1 (wpAny_loadPart')
open PySem.MeetsSeq PySem.MeetsSeq2 PySem.MeetsSeq3

end

section
variable {prog : Program} {w : World} {A : Around} {E : Value → Shared → Prop} {s : Shared}



/-! ### t[a:b], not the whole -/
/-- a slice's bound as a place among n (d where it is left out) -/
def sIx (n d : Nat) : Option Int → Nat
  | none => d
  | some v => if v < 0 then (v + (n : Int)).toNat else min v.toNat n
theorem sIx_none (n d : Nat) : sIx n d none = d := rfl
theorem sIx_nat (n d k : Nat) : sIx n d (some (k : Int)) = min k n := by
  show (if (k : Int) < 0 then ((k : Int) + (n : Int)).toNat else min (k : Int).toNat n) = min k n
  rw [if_neg (by (first | lia | omega)), Int.toNat_natCast]

end
end HT

namespace L2
open PySem PySem.Spec PyProof.Rows

/-! ### the parts of a slice -/
abbrev TO := St → Hp → (Option Int → Hp → Prop) → Prop
/-- a slice's part (left out, or an int) -/
def PO (X : Cx) (e : Option Expr) (t : TO) : Prop :=
  ∀ (pins : List (Addr × Obj)) (s : Shared) (σ : St) (H : Hp) (Q : Option Int → Hp → Prop), Inv X pins σ H s → t σ H Q →
    wpAny (model X.prog X.w) X.A (evalPart e X.env) (fun u s' => ∃ o H', Inv X pins σ H' s' ∧ IsPart u o ∧ Q o H') X.xe s
def tNoPart : TO := fun _ H Q => Q none H
def tPart (t : TE) : TO := fun σ H Q => t σ H fun x H1 => ∃ i, x = .int i ∧ Q (some i) H1


section
variable {X : Cx} {e : Expr} {te : TE} {lo hi : Option Expr} {tl th : TO} {pos p2 : Pos}

theorem po_none : PO X none tNoPart := by
  intro pins s σ H Q I h
  rw [evalPart_none]
  exact wpAny_pure ⟨none, H, I, .none, h⟩
theorem po_some (h : PE X e te) : PO X (some e) (tPart te) := by
  intro pins s σ H Q I hw
  rw [evalPart_some]
  refine thn (h pins s σ H _ I hw) fun u s1 ⟨x, H1, I1, r1, q1⟩ => ?_
  obtain ⟨i, rfl, q⟩ := q1
  obtain ⟨t, rfl⟩ := r1
  exact ⟨some i, H1, I1, .int i t, q⟩

/-- what a slice of a value is, by values: the slice object stands at sl -/
def SlR (X : Cx) (r : V → Option Int → Option Int → Hp → VK → Prop) : Prop :=
  ∀ (pins : List (Addr × Obj)) (s : Shared) (σ : St) (H : Hp) (x : V) (v vl vu : Value) (lo hi : Option Int) (sl : Addr) (Q : VK), Inv X pins σ H s → RelV x v → s.heap.IsSliceOf sl vl vu .none → IsPart vl lo → IsPart vu hi → r x lo hi H Q →
    ∃ T id, typeLookup (.type T) "__getitem__" = pure (some (.builtin id)) ∧ s.TypeIs v T ∧ wpAny (model X.prog X.w) X.A (getItem v (.ref sl)) (EP X pins σ Q) X.xe s
def tSl (r : V → Option Int → Option Int → Hp → VK → Prop) (te : TE) (tl th : TO) : TE := fun σ H Q => te σ H fun x H1 => tl σ H1 fun l H2 => th σ H2 fun u H3 => r x l u H3 Q
/-- a[lo:hi], any a -/
theorem pe_slice {r : V → Option Int → Option Int → Hp → VK → Prop} (hr : SlR X r) (he : PE X e te) (hl : PO X lo tl) (hu : PO X hi th) : PE X (.Subscript e (.Slice lo hi none p2) pos) (tSl r te tl th) := by
  intro pins s σ H Q I h
  refine Subscript_ (thn (he pins s σ H _ I h) fun v s1 ⟨x, H1, I1, r1, q1⟩ => ?_)
  refine wpAny_Slice (thn (hl pins s1 σ H1 _ I1 q1) fun vl s2 ⟨l, H2, I2, pl, q2⟩ => thn (hu pins s2 σ H2 _ I2 q2) fun vu s3 ⟨u, H3, I3, pu, q3⟩ => ?_)
  rw [evalPart_none]
  refine wpAny_pure ?_
  have I4 : Inv X pins σ H3 { s3 with heap := s3.heap.push { cls := .type "slice", data := .fields #[vl, vu, .none] } } := I3.kept (t' := s3.toks) fun b ob q => Heap.get?_push_of_some _ q
  obtain ⟨T, id, hT, ht, hg⟩ := hr pins { s3 with heap := s3.heap.push { cls := .type "slice", data := .fields #[vl, vu, .none] } } σ H3 x v vl vu l u s3.heap.objs.size Q I4 r1 (Heap.IsSliceOf.new ..) pl pu q3
  show wpAny (model X.prog X.w) X.A (subscriptTail e (.Slice lo hi none p2) v (.ref s3.heap.objs.size)) (EP X pins σ Q) X.xe { s3 with heap := s3.heap.push { cls := .type "slice", data := .fields #[vl, vu, .none] } }
  exact tail_any (ops := [.ref s3.heap.objs.size, v]) ht hT hg (by with_unfolding_all rfl)

/-- the items of xs[lo:hi] -/
def cutV (xs : List V) (lo hi : Option Int) : List V := (xs.drop (HT.sIx xs.length 0 lo)).take (HT.sIx xs.length xs.length hi - HT.sIx xs.length 0 lo)
theorem cutV_length (xs : List V) (lo hi : Option Int) : (cutV xs lo hi).length ≤ xs.length := by
  unfold cutV
  rw [List.length_take, List.length_drop]
  (first | lia | omega)
/-- t[lo:hi], not the whole of it (the whole would be t itself) -/
def rSlT (K : PySem.W.Frag) : V → Option Int → Option Int → Hp → VK → Prop := fun x lo hi H Q => ∃ a xs, x = .ref a ∧ SqT K H a xs ∧
  ¬ (HT.sIx xs.length 0 lo = 0 ∧ HT.sIx xs.length xs.length hi = xs.length) ∧ ∀ p, H p = none → Q (.ref p) (upd H p (.tup (cutV xs lo hi)))

/-! ### t < u, t + u -/
def rLtT (K : PySem.W.Frag) : R2 := fun x y H Q => ∃ a b ns ms, x = .ref a ∧ y = .ref b ∧ SqT K H a (ns.map V.int) ∧ SqT K H b (ms.map V.int) ∧ Q (.bl (HT.lexLt ns ms)) H
/-- t + u, t not empty: u empty gives t itself -/
def rCatT (K : PySem.W.Frag) : R2 := fun x y H Q => ∃ a b xs ys, x = .ref a ∧ y = .ref b ∧ SqT K H a xs ∧ SqT K H b ys ∧ xs ≠ [] ∧ xs.length + ys.length ≤ sizeLine ∧
  (ys = [] → Q (.ref a) H) ∧ (ys ≠ [] → ∀ p, H p = none → Q (.ref p) (upd H p (.tup (xs ++ ys))))
end
end L2

namespace L2
open PySem PySem.Spec PyProof.Rows

/-! ### places -/
/-- the place that an index of any sign means -/
def ixN (n : Nat) (i : Int) : Option Nat := if 0 ≤ i then (if i < n then some i.toNat else none) else if -(n : Int) ≤ i then some (i + n).toNat else none
def atI {α : Type} (xs : List α) (i : Int) : Option α := (ixN xs.length i).bind fun j => xs[j]?
theorem ixN_seq {n : Nat} {i : Int} {j : Nat} (h : ixN n i = some j) : seqIndex? i n = some j ∧ j < n ∧ -(n : Int) ≤ i ∧ i < n := by
  unfold ixN at h
  by_cases h0 : 0 ≤ i
  · rw [if_pos h0] at h
    by_cases h1 : i < n
    · rw [if_pos h1] at h
      have e : i.toNat = j := Option.some.inj h
      exact ⟨by rw [seqIndex_of h0 h1, e], by (first | lia | omega), by (first | lia | omega), h1⟩
    · rw [if_neg h1] at h; cases h
  · rw [if_neg h0] at h
    by_cases h1 : -(n : Int) ≤ i
    · rw [if_pos h1] at h
      have e : (i + n).toNat = j := Option.some.inj h
      exact ⟨by rw [seqIndex_neg (by (first | lia | omega)) h1, e], by (first | lia | omega), h1, by (first | lia | omega)⟩
    · rw [if_neg h1] at h; cases h
theorem atI_get {α : Type} {xs : List α} {i : Int} {v : α} (h : atI xs i = some v) : ∃ j, seqIndex? i xs.length = some j ∧ xs[j]? = some v ∧ j < xs.length ∧ -(xs.length : Int) ≤ i ∧ i < xs.length := by
  unfold atI at h
  cases e : ixN xs.length i with
  | none => rw [e] at h; cases h
  | some j =>
    rw [e] at h
    obtain ⟨h1, h2, h3, h4⟩ := ixN_seq e
    exact ⟨j, h1, h, h2, h3, h4⟩
theorem atI_nat {α : Type} {xs : List α} {j : Nat} {v : α} (h : xs[j]? = some v) : atI xs (j : Int) = some v := by
  have hj : j < xs.length := (List.getElem?_eq_some_iff.mp h).1
  have e : ixN xs.length (j : Int) = some j := by
    unfold ixN
    rw [if_pos (by (first | lia | omega)), if_pos (by (first | lia | omega))]; simp
  unfold atI; rw [e]; exact h

/-! ### what may be subscripted -/
/-- what stands as an index of a plain subscript -/
def PlainIx (b : Expr) : Prop := ∀ o i, subscripted b false o i = operate [o, i] (getItem o i)
/-- a subscript by values -/
def IxR (X : Cx) (r : R2) : Prop :=
  ∀ (value slice : Expr) (pins : List (Addr × Obj)) (s : Shared) (σ : St) (H : Hp) (x y : V) (v u : Value) (Q : VK), Inv X pins σ H s → RelV x v → RelV y u → r x y H Q →
    subscripted slice false v u = operate [v, u] (getItem v u) → wpAny (model X.prog X.w) X.A (subscriptTail value slice v u) (EP X pins σ Q) X.xe s
/-- a call of a builtin's method by values: the receiver, the arguments -/
def MtR (X : Cx) (id : String) (r : V → List V → Hp → VK → Prop) : Prop :=
  ∀ (pins : List (Addr × Obj)) (s : Shared) (σ : St) (H : Hp) (x : V) (xs : List V) (v : Value) (us : List Value) (Q : VK), Inv X pins σ H s → RelV x v → Vals xs us → r x xs H Q →
    wpAny (model X.prog X.w) X.A (call (.builtin id) (v :: us)) (EP X pins σ Q) X.xe s
section
variable {X : Cx} {a b : Expr} {ta tb : TE} {pos : Pos}
/-- a[b] -/
theorem pe_ix {r : R2} (hr : IxR X r) (ha : PE X a ta) (hb : PE X b tb) (hs : PlainIx b) : PE X (.Subscript a b pos) (tOp r ta tb) := by
  intro pins s σ H Q I h
  exact Subscript_ (binT ha hb I h fun v u s2 x y H2 I2 rx ry q => hr a b pins s2 σ H2 x y v u Q I2 rx ry q (hs _ _))

def rIxL (K : PySem.W.Frag) : R2 := fun x y H Q => ∃ p xs i v, x = .ref p ∧ y = .int i ∧ SqL K H p xs ∧ atI xs i = some v ∧ Q v H
def rIxT (K : PySem.W.Frag) : R2 := fun x y H Q => ∃ p xs i v, x = .ref p ∧ y = .int i ∧ SqT K H p xs ∧ atI xs i = some v ∧ Q v H
def rIxS : R2 := fun x y H Q => ∃ z i c, x = .str z ∧ y = .int i ∧ z.length ≤ sizeLine ∧ atI z.cps.toList i = some c ∧ Q (.str ⟨#[c]⟩) H
theorem ix_list : IxR X (rIxL X.K) := by
  intro value slice pins s σ H x y v u Q I rx ry h hs
  obtain ⟨p, xs, i, z, rfl, rfl, hq, he, q⟩ := h
  cases rx
  obtain ⟨t, rfl⟩ := ry
  obtain ⟨its, r, pl, hz⟩ := I.list hq
  obtain ⟨j, h1, h2, h3, h4, h5⟩ := atI_get he
  obtain ⟨w, ew, rw'⟩ := r.get h2
  have hl := r.length
  have hn := line63
  have fin : EP X pins σ Q w s := ⟨z, H, I, rw', q⟩
  by_cases h0 : 0 ≤ i
  · have hj : i.toNat = j := by
      rw [seqIndex_of h0 h5] at h1
      exact Option.some.inj h1
    exact item_listR pl.isList h0 (by (first | lia | omega)) (by rw [hj]; simpa using ew) fin hs
  · have hj : (i + (its.toArray.size : Int)).toNat = j := by
      rw [seqIndex_neg (by (first | lia | omega)) h4] at h1
      rw [List.size_toArray, ← hl]
      exact Option.some.inj h1
    exact subscriptTail_builtinR (x := w) pl.isList.typeIs slot_list_getitem.lookup
      (wpAny_getItem_list_neg (Q := fun r s' => r = w ∧ EP X pins σ Q r s') pl.isList (by (first | lia | omega)) (by rw [List.size_toArray] <;> (first | lia | omega)) (by (first | lia | omega)) (by rw [hj]; simpa using ew) ⟨rfl, fin⟩) hs
theorem ix_tup : IxR X (rIxT X.K) := by
  intro value slice pins s σ H x y v u Q I rx ry h hs
  obtain ⟨p, xs, i, z, rfl, rfl, hq, he, q⟩ := h
  cases rx
  obtain ⟨t, rfl⟩ := ry
  obtain ⟨its, r, pl, hz⟩ := I.tuple hq
  obtain ⟨j, h1, h2, h3, h4, h5⟩ := atI_get he
  obtain ⟨w, ew, rw'⟩ := r.get h2
  have hl := r.length
  have hn := line63
  have fin : EP X pins σ Q w s := ⟨z, H, I, rw', q⟩
  exact subscriptTail_builtinR (x := w) pl.typeIs slot_tuple_getitem.lookup
    (getItem_tuple (j := j) (Q := fun r s' => r = w ∧ EP X pins σ Q r s') pl (by (first | lia | omega)) (by (first | lia | omega)) (by rw [List.size_toArray, ← hl]; exact h1) (by simpa using ew) ⟨rfl, fin⟩) hs
/-- list, tuple or str -/
def rIx (K : PySem.W.Frag) : R2 := fun x y H Q => rIxL K x y H Q ∨ rIxT K x y H Q ∨ rIxS x y H Q

/-! ### xs[i] = v, any sign -/
def rSetL : V → V → V → Hp → (Hp → Prop) → Prop := fun o i v H Q => ∃ p xs k j, o = .ref p ∧ i = .int k ∧ H p = some (.lst xs) ∧ ixN xs.length k = some j ∧ Q (upd H p (.lst (xs.set j v)))

/-! ### slices -/
theorem slice_bounds (lo hi : Option Int) (n : Nat) : (sliceBounds lo hi none n).1 = ((HT.sIx n 0 lo : Nat) : Int) ∧ (sliceBounds lo hi none n).2.1 = ((HT.sIx n n hi : Nat) : Int) ∧ (sliceBounds lo hi none n).2.2 = 1 := by
  refine ⟨?_, ?_, rfl⟩
  · cases lo with
    | none => simp [sliceBounds, HT.sIx]
    | some i =>
      simp only [sliceBounds, HT.sIx, Option.getD_none, show (1 : Int) > 0 by decide, if_true]
      by_cases h : i < 0
      · simp only [h, if_true] <;> (first | lia | omega)
      · simp only [h, if_false] <;> (first | lia | omega)
  · cases hi with
    | none => simp [sliceBounds, HT.sIx]
    | some i =>
      simp only [sliceBounds, HT.sIx, Option.getD_none, show (1 : Int) > 0 by decide, if_true]
      by_cases h : i < 0
      · simp only [h, if_true] <;> (first | lia | omega)
      · simp only [h, if_false] <;> (first | lia | omega)
theorem slicePick_cut (its : List Value) (lo hi : Option Int) : slicePick its.toArray lo hi none = ((its.drop (HT.sIx its.length 0 lo)).take (HT.sIx its.length its.length hi - HT.sIx its.length 0 lo)).toArray := by
  obtain ⟨h1, h2, h3⟩ := slice_bounds lo hi its.toArray.size
  unfold slicePick
  rw [h1, h2, h3]
  simp only [sliceRange_one, pick_run, List.size_toArray] <;> rfl
/-- xs[lo:hi] of a list: a new list -/
def rSlL (K : PySem.W.Frag) : V → Option Int → Option Int → Hp → VK → Prop := fun x lo hi H Q => ∃ a xs, x = .ref a ∧ SqL K H a xs ∧ ∀ p, H p = none → Q (.ref p) (upd H p (.lst (cutV xs lo hi)))
theorem sl_list : SlR X (rSlL X.K) := by
  intro pins s σ H x v vl vu lo hi sl Q I rx hs pl pu h
  obtain ⟨a, xs, rfl, hx, q⟩ := h
  cases rx
  obtain ⟨its, r, ht, hz⟩ := I.list hx
  have hlen := r.length
  refine ⟨"list", _, slot_list_getitem.lookup, ht.isList.typeIs, ?_⟩
  refine wpAny_getItem_list_slice ht.isList hs pl pu .none (by simp) ?_ (by rw [List.size_toArray] <;> (first | lia | omega))
  rw [slicePick_cut, ← hlen]
  refine ⟨.ref s.heap.objs.size, _, I.laid (t' := s.toks) (o := .lst (cutV xs lo hi)) (fun b ob q => Heap.get?_push_of_some _ q) (Nat.le_refl _) ?_, rfl, q _ (I.hok.fresh (Nat.le_refl _))⟩
  exact ⟨Nat.le_trans (cutV_length xs lo hi) hz, _, 0, (r.drop (HT.sIx xs.length 0 lo)).take (HT.sIx xs.length xs.length hi - HT.sIx xs.length 0 lo), Heap.get?_push_size _ rfl⟩

/-! ### in, not in: flat items -/
def flatV : V → Bool
  | .non => true
  | .bl _ => true
  | .int _ => true
  | .str _ => true
  | _ => false
/-- == of flat values -/
def eqV : V → V → Bool
  | .non, .non => true
  | .bl a, .bl b => a == b
  | .bl a, .int b => (if a then 1 else 0) == b
  | .int a, .bl b => a == (if b then 1 else 0)
  | .int a, .int b => a == b
  | .str a, .str b => a == b
  | _, _ => false
/-- the items' answers, read off the values (a value's own answer does not lean on its token) -/
def eqU (x : V) (u : Value) : Bool := match u with
  | .none => eqV .non x
  | .bool b => eqV (.bl b) x
  | .int i _ => eqV (.int i) x
  | .str z _ => eqV (.str z) x
  | _ => false
def inV (x : V) (xs : List V) : Bool := xs.any fun y => eqV y x
/-- x in a list or tuple of flat items -/
def rIn (K : PySem.W.Frag) (neg : Bool) : R2 := fun x y H Q => ∃ p xs, y = .ref p ∧ (SqL K H p xs ∨ SqT K H p xs) ∧ flatV x = true ∧ xs.all flatV = true ∧ Q (.bl (if neg then !inV x xs else inV x xs)) H

/-! ### len, list(x), tuple(x) of any list or tuple that is read -/
theorem call_len_seq : CallR X (.builtin "len") (fun xs H Q => ∃ p ys, xs = [.ref p] ∧ (SqL X.K H p ys ∨ SqT X.K H p ys) ∧ Q (.int ys.length) H) := by
  intro pins s σ H xs us Q I r h
  obtain ⟨p, ys, rfl, hq, q⟩ := h
  obtain ⟨u, rfl, rx⟩ := vals1 r
  cases rx
  have hn := line63
  rcases hq with hq | hq
  · obtain ⟨its, r', pl, hz⟩ := I.list hq
    have hlen := r'.length
    exact Calls.call_len_list pl.isList (by simp only [List.size_toArray] <;> (first | lia | omega)) ⟨.int ys.length, H, I.tok _, ⟨s.toks + 1, by rw [List.size_toArray, hlen]⟩, q⟩
  · obtain ⟨its, r', pl, hz⟩ := I.tuple hq
    have hlen := r'.length
    exact len_tuple pl (by simp only [List.size_toArray] <;> (first | lia | omega)) ⟨.int ys.length, H, I.tok _, ⟨s.toks + 1, by rw [List.size_toArray, hlen]⟩, q⟩
theorem call_list_of : CallR X (.type "list") (fun xs H Q => ∃ p ys, xs = [.ref p] ∧ (SqL X.K H p ys ∨ SqT X.K H p ys) ∧ ∀ l, H l = none → Q (.ref l) (upd H l (.lst ys))) := by
  intro pins s σ H xs us Q I r h
  obtain ⟨p, ys, rfl, hq, q⟩ := h
  obtain ⟨u, rfl, rx⟩ := vals1 r
  cases rx
  have fin : ∀ (its : List Value), Vals ys its → ys.length ≤ sizeLine → ∀ (h' : Heap) (c' : Nat), (∀ b o', s.heap.get? b = some o' → h'.get? b = some o') →
      h'.get? s.heap.objs.size = some { cls := .type "list", dict := none, data := .seq its.toArray c', slots := #[] } → EP X pins σ Q (.ref s.heap.objs.size) { s with heap := h' } := fun its r' hz h' c' kp e =>
    ⟨.ref s.heap.objs.size, _, I.laid (t' := s.toks) kp (Nat.le_refl _) (show ObjOk X.prog X.w _ h' _ (.lst ys) from ⟨hz, its, c', r', e⟩), rfl, q _ (I.hok.fresh (Nat.le_refl _))⟩
  rcases hq with hq | hq
  · obtain ⟨its, r', pl, hz⟩ := I.list hq
    have hlen := r'.length
    obtain ⟨o, ho, hc, n, hd⟩ := pl.isList
    exact call_list_seq p (.inl rfl) ho hc hd (fun h' c' kp e => fin its r' hz h' c' kp e) (by simp only [List.size_toArray] <;> (first | lia | omega))
  · obtain ⟨its, r', pl, hz⟩ := I.tuple hq
    have hlen := r'.length
    obtain ⟨o, ho, hc, n, hd⟩ := pl
    exact call_list_seq p (.inr rfl) ho hc hd (fun h' c' kp e => fin its r' hz h' c' kp e) (by simp only [List.size_toArray] <;> (first | lia | omega))

/-! ### the call of a builtin's method: o.m(..) -/
/-- the value is of that builtin type -/
def tyV (K : PySem.W.Frag) (T : String) (x : V) (H : Hp) : Prop := match x with
  | .str _ => T = "str"
  | .int _ => T = "int"
  | .ref p => (T = "list" ∧ ∃ xs, SqL K H p xs) ∨ (T = "tuple" ∧ ∃ o, K.lookup p = some o ∧ o.cls = .type "tuple" ∧ o.dict = none) ∨
      (T = "dict" ∧ ((∃ kvs, H p = some (.dK kvs)) ∨ ∃ kvs, H p = some (.dT kvs))) ∨ (T = "set" ∧ ∃ S n, H p = some (.set S n))
  | _ => False
theorem tyV_is {pins : List (Addr × Obj)} {σ : St} {H : Hp} {s : Shared} {T : String} {x : V} {v : Value} (I : Inv X pins σ H s) (r : RelV x v) (ty : tyV X.K T x H) :
    s.TypeIs v T ∧ ∀ a, v = .ref a → ∃ ob, s.heap.get? a = some ob ∧ ob.dict = none := by
  cases x with
  | str z =>
    obtain ⟨t, rfl⟩ := r
    cases (show T = "str" from ty)
    exact ⟨typeIs_str s z t, fun _ e => nomatch e⟩
  | int i =>
    obtain ⟨t, rfl⟩ := r
    cases (show T = "int" from ty)
    exact ⟨typeIs_int s i t, fun _ e => nomatch e⟩
  | ref p =>
    cases r
    rcases ty with ⟨rfl, xs, hq⟩ | ⟨rfl, o, hk, hc, hd⟩ | ⟨rfl, hk⟩ | ⟨rfl, S, n, hk⟩
    · obtain ⟨its, _, pl, _⟩ := I.list hq
      refine ⟨pl.isList.typeIs, fun a e => ?_⟩
      cases e
      obtain ⟨o, n, e, c, hd, _⟩ := pl
      exact ⟨o, e, hd⟩
    · refine ⟨⟨o, I.kIn p o hk, hc⟩, fun a e => ?_⟩
      cases e
      exact ⟨o, I.kIn _ o hk, hd⟩
    · have z : ∃ o, s.heap.get? p = some o ∧ o.ExactDict := by
        rcases hk with ⟨kvs, hk⟩ | ⟨kvs, hk⟩
        · obtain ⟨_, _, _, _, o, _, _, e, ex, _⟩ := I.hok p _ hk
          exact ⟨o, e, ex⟩
        · obtain ⟨_, _, _, _, o, _, _, e, ex, _⟩ := I.hok p _ hk
          exact ⟨o, e, ex⟩
      obtain ⟨o, e, ex⟩ := z
      refine ⟨⟨o, e, ex.1⟩, fun a e2 => ?_⟩
      cases e2
      exact ⟨o, e, ex.2.1⟩
    · obtain ⟨o, _, _, _, e, ex, _⟩ := I.hok p _ hk
      refine ⟨⟨o, e, ex.1⟩, fun a e2 => ?_⟩
      cases e2
      exact ⟨o, e, ex.2.1⟩
  | _ => exact False.elim ty
def tBM0 (K : PySem.W.Frag) (T : String) (r : V → List V → Hp → VK → Prop) (to : TE) : TE := fun σ H Q => to σ H fun x H1 => tyV K T x H1 ∧ r x [] H1 Q
def tBM (K : PySem.W.Frag) (T : String) (r : V → List V → Hp → VK → Prop) (to : TE) (t : TA) : TE := fun σ H Q => to σ H fun x H1 => tyV K T x H1 ∧ t σ H1 fun xs H2 => r x xs H2 Q
variable {o e : Expr} {es : List Expr} {to : TE} {t : TA} {name : Str} {apos cpos : Pos} {T id : String} {r : V → List V → Hp → VK → Prop}
theorem pe_bm (pa : PlainAttrs T) (slot : Slot T name id) (hty : typeOf (.builtin id) = pure (.type "method_descriptor")) (hm : MtR X id r) (ho : PE X o to) (ha : PA X (e :: es) t)
    (hbase : attributeBase o name X.env (eval o X.env) = eval o X.env := by rfl)
    (hfew : ((backTo cpos (starEach (e :: es) X.env)).all (fun x => !x.1) && (backToKw cpos (keywordEach [] X.env)).all (fun x => x.1.isSome)
      && decide ((e :: es).length + ([] : List Keyword).length + (if ([] : List Keyword).isEmpty then 0 else 1) < 30)) = true := by rfl)
    (hline : (apos.endLine == cpos.line) = true := by rfl) (hs : starEach (e :: es) X.env = (false, eval e X.env) :: starEach es X.env := by rfl) (hplain : (backTo cpos (starEach es X.env)).any (·.1) = false := by rfl) :
    PE X (.Call (.Attribute o name apos) (e :: es) [] cpos) (tBM X.K T r to t) := by
  intro pins s σ H Q I h
  refine wpAny_Call_method_late hbase hfew hline rfl (thn (ho pins s σ H _ I h) fun v s1 ⟨x, H1, I1, r1, ty, q1⟩ => ?_)
  obtain ⟨h1, h2⟩ := tyV_is I1 r1 ty
  refine ⟨T, id, pa, slot, hty, h1, h2, ?_⟩
  have hA := ha cpos pins s1 σ H1 _ I1 q1
  rw [hs] at hA ⊢
  refine Calls.callWith_builtin (by show (false || (backTo cpos (starEach es X.env)).any (·.1)) = false; rw [hplain] <;> rfl) (Calls.evalArgs_plain ?_)
  exact thn hA fun us s2 ⟨vs, H2, I2, r2, q2⟩ => hm pins s2 σ H2 x vs v us Q I2 r1 r2 q2
/- xs.append(e), list.index on a module's tuple .. are MtR facts of 06m -/
end
end L2

namespace L2
open PySem PySem.Spec PyProof.Rows

def MtM (X : Cx) (id : String) (r : V → List V → Hp → VK → Prop) : Prop :=
  ∀ (pins : List (Addr × Obj)) (s : Shared) (σ : St) (H : Hp) (x : V) (xs : List V) (v : Value) (us : List Value) (Q : VK), Inv X pins σ H s → RelV x v → Vals xs us → r x xs H Q →
    wpAny (model X.prog X.w) X.A (call (.builtin id) (v :: us)) (EP X pins σ Q) X.xe s

/-! ### lists of values -/
theorem Vals.one : ∀ {x : V} {us : List Value}, Vals [x] us → ∃ u, us = [u] ∧ RelV x u
  | _, _, .cons r .nil => ⟨_, rfl, r⟩

section
variable {X : Cx} {pins : List (Addr × Obj)} {σ : St} {H : Hp} {s : Shared} {l b : Addr} {xs ys zs : List V}

/-! ### the two steps: a tracked list is rewritten, a new list is laid -/
theorem Inv.lset {its its' : List Value} {n : Nat} {f : Array Value → Array Value} {t' : Nat} (I : Inv X pins σ H s) (hH : H l = some (.lst xs))
    (e : s.heap.get? l = some { cls := .type "list", data := .seq its.toArray n }) (hf : f its.toArray = its'.toArray) (hv : Vals ys its') (hz : ys.length ≤ sizeLine) :
    Inv X pins σ (upd H l (.lst ys)) { s with heap := s.heap.update l (Obj.mapSeq f), toks := t' } := by
  have q := PySem.IsL.update e f
  rw [hf] at q
  refine I.write (x := l) (e := l) (by rw [hH]; exact trivial) (.inl rfl) (fun b' u hb hu => (Heap.get?_update_other s.heap (Obj.mapSeq f) (Ne.symm hb)).trans hu) ⟨_, q⟩ ?_
  exact ⟨hz, its', _, hv, q⟩
theorem Inv.lnew {its : List Value} {t' : Nat} (I : Inv X pins σ H s) (hv : Vals ys its) (hz : ys.length ≤ sizeLine) :
    Inv X pins σ (upd H s.heap.objs.size (.lst ys)) { s with heap := s.heap.push { cls := .type "list", data := .seq its.toArray }, toks := t' } :=
  I.laid (fun _ _ q => Heap.get?_push_of_some _ q) (Nat.le_refl _) ⟨hz, its, 0, hv, Heap.get?_push_size _ rfl⟩
theorem Inv.fresh (I : Inv X pins σ H s) : H s.heap.objs.size = none := I.hok.fresh (Nat.le_refl _)
theorem Inv.lstM (I : Inv X pins σ H s) (hH : H l = some (.lst xs)) : xs.length ≤ sizeLine ∧ ∃ (its : List Value) (n : Nat), Vals xs its ∧ xs.length = its.length ∧ s.heap.get? l = some { cls := .type "list", data := .seq its.toArray n } := by
  obtain ⟨z, its, n, r, e⟩ := I.hok l _ hH
  exact ⟨z, its, n, r, r.length, e⟩

end

section
variable {X : Cx}

/-! ### methods -/
def rAppend : V → List V → Hp → VK → Prop := fun x vs H Q => ∃ l xs y, x = .ref l ∧ vs = [y] ∧ H l = some (.lst xs) ∧ xs.length < sizeLine ∧ Q .non (upd H l (.lst (xs ++ [y])))
theorem mt_append : MtM X "list.append" rAppend := by
  intro pins s σ H x vs v us Q I rx rv h
  obtain ⟨l, xs, y, rfl, rfl, hH, hz, q⟩ := h
  cases rx
  obtain ⟨u, rfl, ru⟩ := rv.one
  obtain ⟨z, its, n, r, hl, e⟩ := I.lstM hH
  refine call_meets F.slot_list_append ⟨_, e, rfl⟩ F.entry_list_append (F.args_list_append_2 _ _) (PySem.list_append l its.toArray n u (by rw [List.size_toArray]; (first | lia | omega))) ⟨e, ?_⟩
  refine ⟨.non, _, I.lset (its' := its ++ [u]) hH e (by simp) (r.append (.cons ru .nil)) ?_, rfl, q⟩
  rw [List.length_append, List.length_singleton]
  (first | lia | omega)

def rExtend : V → List V → Hp → VK → Prop := fun x vs H Q => ∃ l b xs zs, x = .ref l ∧ vs = [.ref b] ∧ H l = some (.lst xs) ∧ H b = some (.lst zs) ∧ xs.length + zs.length ≤ sizeLine ∧ Q .non (upd H l (.lst (xs ++ zs)))

def rPop : V → List V → Hp → VK → Prop := fun x vs H Q => ∃ l xs y, x = .ref l ∧ vs = [] ∧ H l = some (.lst xs) ∧ xs[xs.length - 1]? = some y ∧ Q y (upd H l (.lst xs.dropLast))

def rPopAt : V → List V → Hp → VK → Prop := fun x vs H Q => ∃ l xs i k y, x = .ref l ∧ vs = [.int i] ∧ H l = some (.lst xs) ∧ -(2 ^ 63) ≤ i ∧ i < 2 ^ 63 ∧ seqIndex? i xs.length = some k ∧ xs[k]? = some y ∧ Q y (upd H l (.lst (xs.eraseIdx k)))

def rReverse : V → List V → Hp → VK → Prop := fun x vs H Q => ∃ l xs, x = .ref l ∧ vs = [] ∧ H l = some (.lst xs) ∧ Q .non (upd H l (.lst xs.reverse))

def rClear : V → List V → Hp → VK → Prop := fun x vs H Q => ∃ l xs, x = .ref l ∧ vs = [] ∧ H l = some (.lst xs) ∧ Q .non (upd H l (.lst []))

/-! ### list + list, list += list, list * int -/
def rCat : R2 := fun x y H Q => ∃ l b xs zs, x = .ref l ∧ y = .ref b ∧ H l = some (.lst xs) ∧ H b = some (.lst zs) ∧ xs.length + zs.length ≤ sizeLine ∧ ∀ p, H p = none → Q (.ref p) (upd H p (.lst (xs ++ zs)))
theorem op_cat : OpR X (binaryOp .Add) rCat := by
  intro pins s σ H x y v u Q I rx ry h
  obtain ⟨l, b, xs, zs, rfl, rfl, hH, hB, hz, q⟩ := h
  cases rx
  cases ry
  obtain ⟨z, its, n, r, hl, e⟩ := I.lstM hH
  obtain ⟨z2, its2, n2, r2, hl2, e2⟩ := I.lstM hB
  refine PySem.P.add_list e e2 ?_ (by rw [List.size_toArray, List.size_toArray]; (first | lia | omega))
  have ea : its.toArray ++ its2.toArray = (its ++ its2).toArray := by simp
  rw [ea]
  exact ⟨.ref _, _, I.lnew (t' := s.toks) (r.append r2) (by rw [List.length_append]; (first | lia | omega)), rfl, q _ I.fresh⟩
/-- a list times an int (a negative one is nothing) -/
def rRep : R2 := fun x y H Q => ∃ l k xs, x = .ref l ∧ y = .int k ∧ H l = some (.lst xs) ∧ -(2 ^ 63) ≤ k ∧ k < 2 ^ 63 ∧ xs.length * k.toNat ≤ sizeLine ∧
  ∀ p, H p = none → Q (.ref p) (upd H p (.lst (List.replicate k.toNat xs).flatten))

/-! ### del xs[i] -/
end

/-! ### xs[a:b] = ys -/
section
variable {prog : Program} {w : World} {A : Around} {E : Value → Shared → Prop} {s : Shared}
set_option maxRecDepth 100000 in
end

section
variable {X : Cx}
end
end L2

namespace Att
open PySem PySem.W PySem.Calls PyProof.Rows

/-! ### the script -/
theorem ints_of_wellAll {P : Params} {h : Heap} : ∀ (ns : List Int) (vs : List Value), WellAll P h vs (ns.map WData.int) → IntsAre vs ns := by
  intro ns
  induction ns with
  | nil =>
    intro vs w
    rw [List.map_nil] at w
    cases w
    exact .nil
  | cons n ns ih =>
    intro vs w
    rw [List.map_cons] at w
    cases w with
    | cons a b =>
      cases a
      exact .cons _ _ (ih _ b)

theorem script_of {l : OpenLaw} {n : Nat} (hn : l.most = some n) {P : Params} {h : Heap} {args : List WData} {vals : List Value}
    (hpre : l.row.toRowW.claim.pre args = true) (hwl : WellAll P h vals args) :
    ∃ a vs ns, vals = [Value.ref a] ∧ args = [WData.list (ns.map WData.int)] ∧ h.get? a = some { cls := .type "list", data := .seq vs.toArray } ∧ IntsAre vs ns ∧ ns.length ≤ n := by
  have hsh : WShape.hasAll [] args [.list .int] = true := (pre_splitW hpre).1
  have hc : l.pre.holds [] { args := args } = true := (pre_splitW hpre).2
  obtain ⟨d, r, rfl, h1, h2⟩ := hasAllW_cons hsh
  obtain rfl := hasAllW_nil h2
  obtain ⟨xs, rfl, h3⟩ := hasW_list h1
  obtain ⟨ns, rfl⟩ := items_int h3
  have hlen : ns.length ≤ n := by
    unfold OpenLaw.pre at hc
    have h4 : (WTm.not (.lt (.lit (.int (n : Int))) (.len (.arg 0)))).holds [] { args := [.list (ns.map .int)] } = true := by
      have h4 := (holds_andW hc).1
      rw [hn] at h4
      exact h4
    have h5 := condW_of h4 (w_not (w_lt w_lit (w_len_list (w_arg rfl))))
    rw [List.length_map] at h5
    refine Nat.le_of_not_lt fun q => ?_
    have q' : (n : Int) < ((ns.length : Nat) : Int) := by (first | lia | omega)
    first
      | (rw [decide_eq_true q'] at h5; exact absurd h5 (by decide))
      | (simp at h5; (first | lia | omega))
  cases hwl with
  | cons w1 w2 =>
    cases w2
    cases w1 with
    | list ho hall => exact ⟨_, _, ns, rfl, rfl, ho, ints_of_wellAll ns _ hall, hlen⟩

theorem post_true (l : OpenLaw) (args : List WData) : l.row.toRowW.claim.post args (.bool true) args = true :=
  postW_of (r := l.row.toRowW) (X := (true == true))
    (show WShape.has [] (.bool true) .bool = true by first | rfl | decide | simp [WShape.has, WShape.arms, WShape.armsAll])
    (show (WTm.eq .res (.lit (.bool true))).value [] { args := args, res := some (.bool true), after := args } = some (.bool (true == true)) from w_eq_bool (w_res rfl) w_lit) rfl

/-! ### the attachment: holds_open's last premise (the goal 'hc' behind k_head) from a wpAny of the law's body -/

/-- the same from a codeAny of the CALL (for a layer whose function contracts speak of calls) -/
theorem attach_call {l : OpenLaw} {n : Nat} {q : Program} {loose : List Str} {XP : (Str → Option Value) → Heap → Prop} {YP : World → Heap → Prop} {d : DefRec}
    (hn : l.most = some n) (hdf : d.params.defaults = [])
    (call : ∀ (w : World) (s₀ s₁ : Shared) (mg mb : Str → Option Value) (fa : Addr) (o : Obj) (pm cd doc : Value) (a : Addr) (vs : List Value) (ns : List Int),
      Ground q loose [] XP w s₀ mg mb s₁.heap → YP w s₁.heap →
      s₁.heap.get? fa = some o → o.data = .func (docDef d.name d.params d.body d.scope pm cd doc) → s₁.heap.CodeRec cd d.name → mg d.name = some (.ref fa) →
      s₁.heap.get? a = some { cls := .type "list", data := .seq vs.toArray } → IntsAre vs ns → ns.length ≤ n → s₁.gens = #[] →
      codeAny (model l.prog w) callerA (.call (.ref fa) ⟨[.ref a], []⟩) (fun r s' => r = .ok (.ret (.bool true)) ∧ OldK s₁.heap s'.heap ∧ s'.os = s₁.os ∧ AllBare s'.gens) s₁) :
    WalkO q loose XP YP l.row.toRowW d [] (fun f vs => PySem.call f vs) := by
  intro w s₀ s₁ mg mb G Y fa o pm cd doc dV kV ho hd hcd hD hmg hg args vals as hpre hlay hrd hwl hlo
  obtain rfl : dV = .none := Dflts.none hD hdf
  obtain rfl : kV = .none := Dflts.noKw hD
  obtain ⟨a, vs, ns, rfl, rfl, hobj, hints, hlen⟩ := script_of hn hpre hwl
  refine enter_call (codeAny_mono (call w s₀ s₁ mg mb fa o pm cd doc a vs ns G Y ho (fd_plain hd) hcd hmg hobj hints hlen hg) fun r s' hq => ?_)
  obtain ⟨rfl, h2, h3, h4⟩ := hq
  exact ⟨.inl ⟨.bool true, .bool true, [], rfl, fun _ => rfl, .bool true, post_true l _, fun _ => ⟨List.Pairwise.nil, fun _ hm => (nomatch hm)⟩⟩, h2, h3, h4⟩


/-! ### rules over ANY heap (no ledger) from facts about the written part K: the library's own take a ledger (News) for what they write -/
section
variable {prog : Program} {w : World} {A : Around} {E : Value → Shared → Prop} {s : Shared} {K : Frag}





/-! the whole heap as the ledger: makes every rule that writes through a ledger a rule over any heap -/
def noObjs (h : Heap) : Heap := { h with objs := #[] }
def ledger (h : Heap) (L d : Addr) : List (Addr × Obj) := (List.range h.objs.size).filterMap fun a => if a = L ∨ a = d then none else (h.get? a).map fun o => (a, o)

end
end Att

namespace L2
open PySem PySem.Spec PyProof.Rows

theorem vals_ints : ∀ {vs : List Value} {ns : List Int}, IntsAre vs ns → Vals (ns.map V.int) vs
  | _, _, .nil => .nil
  | _, _, .cons n t h => .cons ⟨t, rfl⟩ (vals_ints h)

/-- nothing is tracked but the script, known to the object (or it is an object of the module) -/
def Only (H : Hp) : Prop := ∀ b, H b = none ∨ ∃ o xs, H b = some (.frz o (.lst xs))

/-- THE HEAD: the law's promise, at the heap behind the top. F, the promise of the law's def, may use that base is part of the heap (so K.In base, base.Ns mainGlobals mg stand in Mod) -/
theorem law_call {P : Program} {w : World} {K : PySem.W.Frag} {mg mb : Str → Option Value} {CX : CXT} {k : Nat} {fa a : Addr} {fd : FuncData} {x : Str} {sp : Sp} {s₁ : Shared} {vs : List Value} {ns : List Int}
    (KX : K.In s₁.heap) (hns : s₁.heap.Ns mainGlobals mg) (hb : s₁.heap.Ns builtinsNs mb) (hbb : ∀ x : Str, x ≠ "__name__" → mb x = bootBuiltins x) (hlim : s₁.heap.NoLimit) (hg : s₁.gens = #[])
    (ha : s₁.heap.get? a = some { cls := .type "list", data := .seq vs.toArray }) (hi : IntsAre vs ns) (hl : ns.length ≤ sizeLine) (hr : Room k callerA)
    (F : ∀ base : Heap, K.In base → base.Ns mainGlobals mg → FnOk P w K mg base CX k fa fd [x] sp) (hbind : ∀ (s : Shared) (u : Value), BindsTo s fd ⟨[u], []⟩ [(x, u)])
    (hsp : ∀ H : Hp, Only H → SqL K H a (ns.map V.int) → sp [.ref a] H (fun v _ => v = .bl true) fun _ _ _ => False)
    (hCX : ∀ H e s', CX [] H s₁ (fun _ _ _ => False) e s' → False) :
    codeAny (model P w) callerA (.call (.ref fa) ⟨[.ref a], []⟩) (fun r s' => r = .ok (.ret (.bool true)) ∧ OldK s₁.heap s'.heap ∧ s'.os = s₁.os ∧ AllBare s'.gens) s₁ := by
  have rv := vals_ints hi
  have lenV := hi.length
  -- from an abstract heap in which nothing but the script may be tracked
  have core : ∀ H : Hp, Only H → SqL K H a (ns.map V.int) → HOk P w H s₁.heap → (∀ b, H b ≠ none → b = a) → (H a ≠ none → K.lookup a = none) →
      codeAny (model P w) callerA (.call (.ref fa) ⟨[.ref a], []⟩) (fun r s' => r = .ok (.ret (.bool true)) ∧ OldK s₁.heap s'.heap ∧ s'.os = s₁.os ∧ AllBare s'.gens) s₁ := by
    intro H hO hS hok hA hK
    have base_of : ∀ {b : Addr} {o : Obj}, s₁.heap.get? b = some o → H b = none → (hidT s₁.heap H).get? b = some o := fun e n => hidT_get e n
    have noA : ∀ {b : Addr} {o : Obj} {es : Array DictEntry} {ep : Nat}, s₁.heap.get? b = some o → o.data = .dict es ep → H b = none := fun {b o es ep} e d => by
      cases q : H b with
      | none => rfl
      | some u =>
        have e' : b = a := hA b (by rw [q]; simp)
        subst e'
        rw [ha] at e; cases e
        have d' : Data.seq vs.toArray _ = Data.dict es ep := d
        cases d'
    have nsK : ∀ {b : Addr} {m : Str → Option Value}, s₁.heap.Ns b m → (hidT s₁.heap H).Ns b m := fun {b m} ⟨o, es, ep, e, d, r⟩ => ⟨o, es, ep, base_of e (noA e d), d, r⟩
    have hKb : K.In (hidT s₁.heap H) := fun b o e => base_of (KX b o e) (by
      cases q : H b with
      | none => rfl
      | some u =>
        have e' : b = a := hA b (by rw [q]; simp)
        subst e'
        rw [hK (by rw [q]; simp)] at e; cases e)
    have hM : Mod K mg (hidT s₁.heap H) := ⟨hKb, nsK hns, ⟨mb, nsK hb, hbb⟩, let ⟨mc, h1, h2⟩ := hlim; ⟨mc, nsK h1, h2⟩⟩
    have e0 : Env0 P w K mg (hidT s₁.heap H) callerA [] s₁ H := ⟨rfl, hM, fun b o e => of_hidT e, Nat.le_of_eq (hidT_size _ _), trivial, fun b hb => absurd (show b ∈ ([] : List Addr) from hb) (by simp), hok, .of_eq hg⟩
    refine codeAny_mono ((F _ hKb (nsK hns)).run callerA [] s₁ H ⟨[.ref a], []⟩ [.ref a] [.ref a] _ _ hr e0 (hbind s₁ (.ref a)) (.cons rfl .nil) (hsp H hO hS)) fun r s' h => ?_
    cases r with
    | error e => exact (hCX H e s' h).elim
    | ok fl =>
      cases fl with
      | next => exact False.elim h
      | brk => exact False.elim h
      | cont => exact False.elim h
      | ret u =>
        obtain ⟨v, H', os, bare, un, hok', r', q⟩ := h
        have q' : v = .bl true := q
        subst q'
        obtain rfl : u = Value.bool true := r'
        refine ⟨rfl, OldK.of_keep fun b o e => ?_, os, bare⟩
        cases q : H b with
        | none => exact un.keep b o e q (by intro z; exact absurd (show b ∈ ([] : List Addr) from z) (by simp)) (by simp)
        | some u =>
          rcases hO b with z | ⟨ob, xs, z⟩
          · rw [q] at z; cases z
          · have z2 := un.frzs b ob _ z
            obtain ⟨e1, _⟩ := hok b _ z
            obtain ⟨e2, _⟩ := hok' b _ z2
            rw [e] at e1; cases e1
            exact e2
  cases hk : K.lookup a with
  | some o =>
    -- the script is one of the module's own objects
    have e := KX a o hk
    rw [ha] at e
    cases e
    refine core (fun _ => none) (fun _ => .inl rfl) (.inr ⟨_, vs.toArray, _, hk, rfl, rfl, rfl, by rw [List.size_toArray, lenV]; exact hl, by simpa using rv⟩) (fun b u z => by have z' : (none : Option HO) = some u := z; cases z') (fun b z => absurd rfl z) fun z => absurd rfl z
  | none =>
    refine core (fun b => if b = a then some (.frz { cls := .type "list", data := .seq vs.toArray } (.lst (ns.map V.int))) else none) (fun b => ?_) (.inl (.inr ⟨{ cls := .type "list", data := .seq vs.toArray }, if_pos rfl⟩)) (fun b u z => ?_) (fun b z => ?_) fun _ => hk
    · by_cases hb : b = a
      · exact .inr ⟨_, _, if_pos hb⟩
      · exact .inl (if_neg hb)
    · by_cases hb : b = a
      · have z' := (if_pos hb).symm.trans z
        cases z'
        subst hb
        exact ⟨ha, by rw [List.length_map]; exact hl, vs, _, rv, ha⟩
      · have z' := (if_neg hb).symm.trans z
        cases z'
    · by_cases hb : b = a
      · exact hb
      · exact absurd (if_neg hb) z
end L2

namespace L2
open PySem PySem.Spec PyProof.Rows

abbrev KOf {K : PySem.W.Frag} {h : Heap} (_ : K.In h) : PySem.W.Frag := K

/-- the goal that k_head leaves (case hc), from the law's promise. F gives the function object fd (K's own) once, then the promise over every base -/
theorem walk_of {l : PySem.W.OpenLaw} {n k : Nat} {q : Program} {loose : List Str} {XP : (Str → Option Value) → Heap → Prop} {YP : World → Heap → Prop} {d : DefRec} {K : Params → PySem.W.Frag} {CX : World → CXT} {sp : World → Sp} {x : Str}
    (hn : l.most = some n) (hn2 : n ≤ sizeLine) (hdf : d.params.defaults = []) (hr : Room k callerA)
    (hY : ∀ (w : World) (h : Heap), YP w h → (K w.params).In h)
    (F : ∀ (w : World) (mg : Str → Option Value) (fa : Addr) (h : Heap), (K w.params).In h → h.Ns mainGlobals mg → mg d.name = some (.ref fa) →
      ∃ fd : FuncData, (∀ (s : Shared) (u : Value), BindsTo s fd ⟨[u], []⟩ [(x, u)]) ∧
        ∀ base : Heap, (K w.params).In base → base.Ns mainGlobals mg → FnOk l.prog w (K w.params) mg base (CX w) k fa fd [x] (sp w))
    (hsp : ∀ (w : World) (H : Hp) (a : Addr) (ns : List Int), ns.length ≤ n → Only H → SqL (K w.params) H a (ns.map V.int) → sp w [.ref a] H (fun v _ => v = .bl true) fun _ _ _ => False)
    (hCX : ∀ (w : World) (H : Hp) (s : Shared) (e : Value) (s' : Shared), CX w [] H s (fun _ _ _ => False) e s' → False) :
    PySem.W.WalkO q loose XP YP l.row.toRowW d [] (fun f vs => PySem.call f vs) := by
  refine Att.attach_call hn hdf fun w s₀ s₁ mg mb fa o pm cd doc a vs ns G Y ho hd hcd hmg hobj hints hlen hg => ?_
  have KX := hY w _ Y
  obtain ⟨fd, hb, hF⟩ := F w mg fa _ KX G.T.g hmg
  exact law_call KX G.T.g G.T.b G.T.builtins G.T.nolimit hg hobj hints (Nat.le_trans hlen hn2) hr hF hb (fun H hO hS => hsp w H a ns hlen hO hS) fun H e s' => hCX w H s₁ e s'
end L2

/- THE LAST THEOREM (shape; LID, My.* are yours):
   My.Adr: a structure of the addresses that your layer names (classes, functions); My.Txt K t: a structure (Prop) of the equations over K;
   My.txt_mk : {K} {implicit addresses ..} (e1 : nsIn K mainGlobals "law" = some (some (.ref f))) (e2 : K.lookup f = some ⟨oc, od, .func (fnOf "law" "law" params body scope dV kV doc pm an cdv ct), sl⟩) (e3 : codeIn K cdv "law" = true) .. : ∃ t, My.Txt K t

set_option maxRecDepth 100000 in
set_option maxHeartbeats 0 in
theorem PySem.Challenge.cw_LID_holds : PySem.Challenge.rw_LID.Holds := by
  w_on; o_law; k_head; (case hw => w_witness2)
  k_fill
  refine L2.walk_of (l := PySem.Challenge.rw_LID) (n := 63) (k := 40) (x := "script") (CX := fun w => ..) (sp := fun _ => My.sp_law) rfl (by decide) rfl ⟨rfl, by decide, by decide⟩ (fun w h Y => PySem.W.kIn_of Y) ?F ?S ?C
  case F =>
    intro w mg fa h KX G hmg
    have T : ∃ t, My.Txt (L2.KOf KX) t := by
      dsimp only [L2.KOf]                          -- K must stand as «<heap const> w.params» for k_is
      refine' My.txt_mk ?e1 ?e2 ?e3 ..
      (case e1 => PySem.W.k_is)                    -- in the order: a name -> its address -> its object -> its parts
      (case e2 => PySem.W.k_is)
      ..
    obtain ⟨t, T⟩ := T
    have e0 := hmg.symm.trans (PySem.W.mg_of KX G T.law)
    cases e0                                       -- fa is the law's own address
    exact ⟨_, fun s u => .of_eq rfl, fun base kb nb => My.law_fn T kb nb⟩     -- if «.of_eq rfl» comes too early: refine' ⟨_, ?b, fun base kb nb => My.law_fn T kb nb⟩; exact fun s u => .of_eq rfl
  case S => exact fun w H a ns hl hO hS => ..
  case C => exact ..
(the tactic k_is has no namespace: write k_is) -/

/-! SHORT WORDS over the layer: a def of the text, its body, what a loop and a test want. -/
namespace L2
open PySem PySem.Spec PyProof.Rows

/-! ### the text by places -/
/-- the j-th statement of a class's body -/
def inClass (s : Stmt) (j : Nat) : Stmt := match s with
  | .ClassDef _ _ _ body _ _ _ _ _ _ _ => body.getD j (.Pass ⟨0, 0, 0, 0⟩)
  | _ => .Pass ⟨0, 0, 0, 0⟩
def defArgs (s : Stmt) : Arguments := match s with
  | .FunctionDef _ a _ _ _ _ _ _ _ _ => a
  | _ => { posonlyargs := [], args := [], vararg := none, kwonlyargs := [], kw_defaults := [], kwarg := none, defaults := [] }
def defBody (s : Stmt) : List Stmt := match s with
  | .FunctionDef _ _ b _ _ _ _ _ _ _ => b
  | _ => []
def defScope (s : Stmt) : Scope := match s with
  | .FunctionDef _ _ _ _ _ _ sc _ _ _ => sc
  | _ => { kind := .function, names := [], isGenerator := false, isCoroutine := false }

/-! ### no exception leaves a def -/
abbrev CX0 : CXT := fun _ _ _ _ _ _ => False
abbrev E0 : XK := fun _ _ _ => False
theorem pass0 {X : Cx} : Passes CX0 X E0 := fun _ _ _ _ _ _ _ h => h.elim

/-! ### a def (or method) of the text as it stands behind the top -/
structure Fun (K : PySem.W.Frag) (x qual : Str) (st : Stmt) (f : Addr) (fd : FuncData) : Prop where
  ex : ∃ (oc : Value) (od : Option Addr) (kV doc pm : Value) (an : Option Addr) (cdv ct : Value) (osl : Array (Option Value)),
    fd = PySem.W.fnOf x qual (defArgs st) (defBody st) (defScope st) .none kV doc pm an cdv ct ∧ K.lookup f = some ⟨oc, od, .func fd, osl⟩ ∧ PySem.W.codeIn K cdv qual = true
  kp : PySem.W.keepIn K (.ref f) = true
section
variable {P : Program} {w : World} {K : PySem.W.Frag} {mg : Str → Option Value} {base : Heap}
/-- THE RULE for a def: its body as a term of rules, and the reading of that term -/
theorem Fun.ok {x qual : Str} {st : Stmt} {f : Addr} {fd : FuncData} {N ps : List Str} {k : Nat} {sp : Sp} (F : Fun K x qual st f fd) (S : FnScope N ps (defScope st)) (len : ∀ vs H Q E, sp vs H Q E → vs.length = ps.length)
    (hbody : ∀ (cdv : Value) (A : Around) (outer : List Env) (s : Shared) (H : Hp) (vs : List V) (Q : VK) (E : XK), Room k (A.deeper (envOfC qual (defScope st) s.heap.objs.size f cdv)) → sp vs H Q E →
      ∃ t, PSs (cxOf CX0 P w K mg base N qual (defScope st) f cdv A outer s H E).nox (defBody st) t ∧ t { nx := fun _ H' => Q .non H', rt := Q } (start N vs) H) : FnOk P w K mg base CX0 (k + 1) f fd ps sp := by
  obtain ⟨oc, od, kV, doc, pm, an, cdv, ct, osl, rfl, lk, hcd⟩ := F.ex
  refine fn_of lk hcd S len fun A outer s H vs Q E hr hsp => ?_
  obtain ⟨t, h, q⟩ := hbody cdv A outer s H vs Q E hr hsp
  exact ⟨t, h.nox, q⟩
/-- how its arguments bind (no defaults): h is «fun _ _ _ _ _ _ us hl => match us, hl with | [_, _], _ => rfl», one _ a parameter -/
theorem Fun.binds {x qual : Str} {st : Stmt} {f : Addr} {fd : FuncData} {ps : List Str} (F : Fun K x qual st f fd)
    (h : ∀ (kV doc pm : Value) (an : Option Addr) (cdv ct : Value) (us : List Value), us.length = ps.length → bindArgs (PySem.W.fnOf x qual (defArgs st) (defBody st) (defScope st) .none kV doc pm an cdv ct) ⟨us, []⟩ = pure (ps.zip us)) : Binds K fd ps [] := by
  obtain ⟨oc, od, kV, doc, pm, an, cdv, ct, osl, rfl, lk, hcd⟩ := F.ex
  exact .all (h kV doc pm an cdv ct)
theorem fun_mk {x qual : Str} {st : Stmt} {f : Addr} {oc : Value} {od an : Option Addr} {osl : Array (Option Value)} {kV doc pm cdv ct : Value} (l : K.lookup f = some ⟨oc, od, .func (PySem.W.fnOf x qual (defArgs st) (defBody st) (defScope st) .none kV doc pm an cdv ct), osl⟩)
    (c : PySem.W.codeIn K cdv qual = true) (k : PySem.W.keepIn K (.ref f) = true) : Fun K x qual st f (PySem.W.fnOf x qual (defArgs st) (defBody st) (defScope st) .none kV doc pm an cdv ct) := ⟨⟨oc, od, kV, doc, pm, an, cdv, ct, osl, rfl, l, c⟩, k⟩
end

/-! ### expressions in short: the name that stands in the i-th slot -/
section
variable {X : Cx}
theorem pv (i : Nat) {x : Str} {pos : Pos} (hN : X.N[i]? = some x := by rfl) (hv : Vis X.env.scope x := by first | exact Or.inl rfl | exact Or.inr (Or.inl rfl) | exact Or.inr (Or.inr rfl)) (hd : (x == ("__debug__" : Str)) = false := by decide)
    (hcd : (x == ("__classdict__" : Str)) = false := by decide) : PE X (.Name x pos) (tVar i) := pe_var hN hv hd hcd
end

/-! ### tests -/
theorem iteF {A B : Prop} (h : B) : if false = true then A else B := by
  rw [if_neg Bool.false_ne_true]
  exact h
theorem iteT {A B : Prop} (h : A) : if true = true then A else B := by
  rw [if_pos rfl]
  exact h
theorem ite2 {c A B : Prop} [Decidable c] (h1 : c → A) (h2 : ¬ c → B) : if c then A else B := by
  by_cases h : c
  · rw [if_pos h]
    exact h1 h
  · rw [if_neg h]
    exact h2 h
theorem iteNS {c A B : Prop} [Decidable c] (hc : c) (h : B) : if (!decide c) = true then A else B := by
  rw [decide_eq_true hc]
  exact iteF h

/-! ### heaps -/
/-- all that was tracked is as it was -/
def Same (H H' : Hp) : Prop := ∀ b o, H b = some o → H' b = some o
theorem Same.refl (H : Hp) : Same H H := fun _ _ h => h
theorem Same.trans {H H1 H2 : Hp} (a : Same H H1) (b : Same H1 H2) : Same H H2 := fun c o h => b c o (a c o h)
theorem Same.free {H H' : Hp} (e : Same H H') {l : Addr} (h : H' l = Option.none) : H l = Option.none := by
  cases q : H l with
  | none => rfl
  | some o =>
    rw [e l o q] at h
    cases h
theorem Same.seq {K : PySem.W.Frag} {H H' : Hp} {a : Addr} {xs : List V} (e : Same H H') (h : SqL K H a xs) : SqL K H' a xs := by
  rcases h with (h | ⟨o, h⟩) | h
  · exact .inl (.inl (e _ _ h))
  · exact .inl (.inr ⟨o, e _ _ h⟩)
  · exact .inr h

end L2

namespace Ra
/-- below 2^n in size -/
def Bt (n : Nat) (x : Int) : Prop := x.natAbs < 2 ^ n
theorem Bt.mono {m n : Nat} {x : Int} (h : Bt m x) (l : m ≤ n) : Bt n x := Nat.lt_of_lt_of_le h (Nat.pow_le_pow_right (by decide) l)
theorem Bt.neg {n : Nat} {x : Int} (h : Bt n x) : Bt n (-x) := by unfold Bt at *; rw [Int.natAbs_neg]; exact h
theorem Bt.mul {m n : Nat} {x y : Int} (h : Bt m x) (k : Bt n y) : Bt (m + n) (x * y) := by
  unfold Bt at *
  rw [Int.natAbs_mul, Nat.pow_add]
  exact Nat.mul_lt_mul'' h k
theorem Bt.of_le {n : Nat} {x y : Int} (h : Bt n x) (k : y.natAbs ≤ x.natAbs) : Bt n y := Nat.lt_of_le_of_lt k h
theorem Bt.ediv {n : Nat} {x y : Int} (h : Bt n x) : Bt n (x / y) := h.of_le (Int.natAbs_ediv_le_natAbs x y)
theorem Bt.zero {n : Nat} : Bt n 0 := Nat.pow_pos (by decide)
theorem Bt.between {n : Nat} {x : Int} (h : -(2 ^ n : Int) < x) (k : x < (2 ^ n : Int)) : Bt n x := by
  unfold Bt
  have e : ((2 ^ n : Nat) : Int) = (2 : Int) ^ n := by push_cast; rfl
  (first | lia | omega)

/-- the greatest divisor -/
def g (a b : Int) : Int := (Int.gcd a b : Nat)
theorem g_nonneg (a b : Int) : 0 ≤ g a b := Int.natCast_nonneg _
theorem g_dvd_left (a b : Int) : g a b ∣ a := Int.gcd_dvd_left a b
theorem g_dvd_right (a b : Int) : g a b ∣ b := Int.gcd_dvd_right a b
theorem g_pos {a b : Int} (h : b ≠ 0) : 0 < g a b := by
  have h1 : 0 < Int.gcd a b := Int.gcd_pos_of_ne_zero_right a h
  unfold g
  (first | lia | omega)
/-- a fraction in lowest terms -/
structure Fq (a b : Int) : Prop where
  pos : 0 < b
  one : Int.gcd a b = 1
theorem cop_mul {a b c : Int} (h : Int.gcd a b = 1) (k : Int.gcd a c = 1) : Int.gcd a (b * c) = 1 := by
  show Nat.gcd a.natAbs (b * c).natAbs = 1
  rw [Int.natAbs_mul]
  exact Nat.Coprime.mul_right h k
theorem cop_mull {a b c : Int} (h : Int.gcd a c = 1) (k : Int.gcd b c = 1) : Int.gcd (a * b) c = 1 := by
  rw [Int.gcd_comm]
  exact cop_mul (by rw [Int.gcd_comm]; exact h) (by rw [Int.gcd_comm]; exact k)
theorem cop_dvd {a b c : Int} (h : Int.gcd a b = 1) (d : c ∣ a) : Int.gcd c b = 1 := by
  have hd : c.natAbs ∣ a.natAbs := Int.natAbs_dvd_natAbs.mpr d
  exact Nat.Coprime.coprime_dvd_left hd h
theorem cop_dvdr {a b c : Int} (h : Int.gcd a b = 1) (d : c ∣ b) : Int.gcd a c = 1 := by
  rw [Int.gcd_comm]
  exact cop_dvd (by rw [Int.gcd_comm]; exact h) d
theorem div_cop {a b : Int} (h : b ≠ 0) : Int.gcd (a / g a b) (b / g a b) = 1 := by
  have hp : 0 < Int.gcd a b := Int.gcd_pos_of_ne_zero_right a h
  exact Int.gcd_ediv_gcd_ediv_gcd hp
theorem cop_add {a b k : Int} (h : Int.gcd a b = 1) : Int.gcd (a + k * b) b = 1 := by
  rw [Int.gcd_add_mul_right_left]
  exact h

theorem mul_g {a b : Int} : g a b * (a / g a b) = a := Int.mul_ediv_cancel' (g_dvd_left a b)
theorem mul_gr {a b : Int} : g a b * (b / g a b) = b := Int.mul_ediv_cancel' (g_dvd_right a b)
/-- brought to lowest terms -/
theorem low_ok {t b : Int} (hb : 0 < b) : Fq (t / g t b) (b / g t b) ∧ (t / g t b) * b = t * (b / g t b) := by
  have hg : 0 < g t b := g_pos (by (first | lia | omega))
  refine ⟨⟨?_, div_cop (by (first | lia | omega))⟩, ?_⟩
  · exact Int.ediv_pos_of_pos_of_dvd hb (Int.le_of_lt hg) (g_dvd_right t b)
  · have e1 := @mul_g t b
    have e2 := @mul_gr t b
    generalize t / g t b = x at *
    generalize b / g t b = y at *
    calc x * b = x * (g t b * y) := by rw [e2]
      _ = (g t b * x) * y := by rw [← Int.mul_assoc, Int.mul_comm x]
      _ = t * y := by rw [e1]
/-- sums -/
def plsT (a b c d : Int) : Int := a * (d / g b d) + c * (b / g b d)
def plsN (a b c d : Int) : Int := plsT a b c d / g (plsT a b c d) (g b d)
def plsD (a b c d : Int) : Int := (b / g b d) * (d / g (plsT a b c d) (g b d))
theorem pls_ok {a b c d : Int} (h : Fq a b) (k : Fq c d) : Fq (plsN a b c d) (plsD a b c d) ∧ plsN a b c d * (b * d) = (a * d + c * b) * plsD a b c d := by
  have hs : 0 < g b d := g_pos (by have := k.pos; (first | lia | omega))
  obtain ⟨s, hs'⟩ : ∃ s, s = g b d := ⟨_, rfl⟩
  obtain ⟨x, hx⟩ : ∃ x, x = b / g b d := ⟨_, rfl⟩
  obtain ⟨y, hy⟩ : ∃ y, y = d / g b d := ⟨_, rfl⟩
  obtain ⟨t, ht⟩ : ∃ t, t = a * y + c * x := ⟨_, rfl⟩
  have et : plsT a b c d = t := by rw [ht, hx, hy]; rfl
  have eb : s * x = b := by rw [hs', hx]; exact mul_g
  have ed : s * y = d := by rw [hs', hy]; exact mul_gr
  have cxy : Int.gcd x y = 1 := by rw [hx, hy]; exact div_cop (by have := k.pos; (first | lia | omega))
  have hx0 : 0 < x := by rw [hx]; exact Int.ediv_pos_of_pos_of_dvd h.pos (g_nonneg _ _) (g_dvd_left _ _)
  have hy0 : 0 < y := by rw [hy]; exact Int.ediv_pos_of_pos_of_dvd k.pos (g_nonneg _ _) (g_dvd_right _ _)
  rw [← hs'] at hs
  obtain ⟨l, hl⟩ : ∃ l, l = g t s := ⟨_, rfl⟩
  have hl0 : 0 < l := by rw [hl]; exact g_pos (by (first | lia | omega))
  obtain ⟨T, hT⟩ : ∃ T, T = t / g t s := ⟨_, rfl⟩
  obtain ⟨S, hS⟩ : ∃ S, S = s / g t s := ⟨_, rfl⟩
  have eT : l * T = t := by rw [hl, hT]; exact mul_g
  have eS : l * S = s := by rw [hl, hS]; exact mul_gr
  have cTS : Int.gcd T S = 1 := by rw [hT, hS]; exact div_cop (by (first | lia | omega))
  have hS0 : 0 < S := by rw [hS]; exact Int.ediv_pos_of_pos_of_dvd hs (g_nonneg _ _) (g_dvd_right _ _)
  have eN : plsN a b c d = T := by unfold plsN; rw [et, ← hs', hT]
  have eD : plsD a b c d = x * (S * y) := by
    unfold plsD
    have hdl : d / g t s = S * y := by rw [← hl, ← ed, ← eS, Int.mul_assoc, Int.mul_ediv_cancel_left _ (by (first | lia | omega))]
    rw [et, ← hx, ← hs', hdl]
  have cax : Int.gcd a x = 1 := cop_dvdr h.one ⟨s, by rw [← eb, Int.mul_comm]⟩
  have ccy : Int.gcd c y = 1 := cop_dvdr k.one ⟨s, by rw [← ed, Int.mul_comm]⟩
  have ctx : Int.gcd t x = 1 := by
    rw [ht]
    exact cop_add (cop_mull cax (by rw [Int.gcd_comm]; exact cxy))
  have cty : Int.gcd t y = 1 := by
    rw [ht, Int.add_comm]
    exact cop_add (cop_mull ccy cxy)
  have dT : T ∣ t := ⟨l, by rw [← eT, Int.mul_comm]⟩
  rw [eN, eD]
  refine ⟨⟨Int.mul_pos hx0 (Int.mul_pos hS0 hy0), cop_mul (cop_dvd ctx dT) (cop_mul cTS (cop_dvd cty dT))⟩, ?_⟩
  have e1 : a * d + c * b = s * t := by
    rw [← ed, ← eb, ht, Int.mul_add]
    simp [Int.mul_comm, Int.mul_left_comm, Int.mul_assoc]
  rw [e1, ← eT, ← ed, ← eb, ← eS]
  simp [Int.mul_comm, Int.mul_left_comm, Int.mul_assoc]
/-- products -/
def tmsN (a b c d : Int) : Int := (a / g a d) * (c / g c b)
def tmsD (a b c d : Int) : Int := (b / g c b) * (d / g a d)
theorem tms_ok {a b c d : Int} (h : Fq a b) (k : Fq c d) : Fq (tmsN a b c d) (tmsD a b c d) ∧ tmsN a b c d * (b * d) = (a * c) * tmsD a b c d := by
  have hb := h.pos
  have hd := k.pos
  have p1 : 0 < g a d := g_pos (by (first | lia | omega))
  have p2 : 0 < g c b := g_pos (by (first | lia | omega))
  obtain ⟨f, hf⟩ : ∃ f, f = g a d := ⟨_, rfl⟩
  obtain ⟨s, hs⟩ : ∃ s, s = g c b := ⟨_, rfl⟩
  obtain ⟨a', ha'⟩ : ∃ x, x = a / g a d := ⟨_, rfl⟩
  obtain ⟨d', hd'⟩ : ∃ x, x = d / g a d := ⟨_, rfl⟩
  obtain ⟨c', hc'⟩ : ∃ x, x = c / g c b := ⟨_, rfl⟩
  obtain ⟨b', hb'⟩ : ∃ x, x = b / g c b := ⟨_, rfl⟩
  have ea : f * a' = a := by rw [hf, ha']; exact mul_g
  have ed : f * d' = d := by rw [hf, hd']; exact mul_gr
  have ec : s * c' = c := by rw [hs, hc']; exact mul_g
  have eb : s * b' = b := by rw [hs, hb']; exact mul_gr
  have c1 : Int.gcd a' d' = 1 := by rw [ha', hd']; exact div_cop (by (first | lia | omega))
  have c2 : Int.gcd c' b' = 1 := by rw [hc', hb']; exact div_cop (by (first | lia | omega))
  have c3 : Int.gcd a' b' = 1 := cop_dvd (cop_dvdr h.one ⟨s, by rw [← eb, Int.mul_comm]⟩) ⟨f, by rw [← ea, Int.mul_comm]⟩
  have c4 : Int.gcd c' d' = 1 := cop_dvd (cop_dvdr k.one ⟨f, by rw [← ed, Int.mul_comm]⟩) ⟨s, by rw [← ec, Int.mul_comm]⟩
  have hb0 : 0 < b' := by rw [hb']; exact Int.ediv_pos_of_pos_of_dvd hb (g_nonneg _ _) (g_dvd_right _ _)
  have hd0 : 0 < d' := by rw [hd']; exact Int.ediv_pos_of_pos_of_dvd hd (g_nonneg _ _) (g_dvd_right _ _)
  have eN : tmsN a b c d = a' * c' := by unfold tmsN; rw [ha', hc']
  have eD : tmsD a b c d = b' * d' := by unfold tmsD; rw [hb', hd']
  rw [eN, eD]
  refine ⟨⟨Int.mul_pos hb0 hd0, cop_mull (cop_mul c3 c1) (cop_mul c2 c4)⟩, ?_⟩
  rw [← ea, ← ed, ← ec, ← eb]
  simp [Int.mul_comm, Int.mul_left_comm, Int.mul_assoc]
/-- the greatest divisor, step by step -/
theorem g_step {a b : Int} (ha : 0 ≤ a) (hb : 0 < b) : g b (a % b) = g a b := by
  unfold g
  rw [Int.gcd_comm a b]
  exact congrArg _ (by rw [Int.emod_def, Int.sub_eq_add_neg, ← Int.mul_neg, Int.gcd_add_mul_left_right])
theorem g_end {a : Int} (ha : 0 ≤ a) : g a 0 = a := by
  unfold g
  rw [Int.gcd_zero_right]
  (first | lia | omega)
theorem g_abs (a b : Int) : g (if a < 0 then -a else a) (if b < 0 then -b else b) = g a b := by
  unfold g
  split <;> split <;> simp
end Ra

namespace Ra
/-! ### a fraction made of two whole numbers -/
def sh (t b : Int) : Int := if b < 0 then -(g t b) else g t b
def frN (t b : Int) : Int := t.fdiv (sh t b)
def frD (t b : Int) : Int := b.fdiv (sh t b)
/-- the side of a number -/
def sgn (a : Int) : Int := if a > 0 then 1 else if a < 0 then -1 else 0
def ab (a : Int) : Int := if a < 0 then -a else a
end Ra

namespace Rq
open Ra
/-! ### fractions in lowest terms are the numbers of Rat -/
theorem den_pos (q : Rat) : (0 : Int) < (q.den : Int) := by have := q.den_pos; (first | lia | omega)
theorem den_ne (q : Rat) : ((q.den : Int) : Rat) ≠ 0 := fun h => by
  have := den_pos q
  have h2 : (q.den : Int) = 0 := Rat.intCast_eq_zero_iff.mp h
  (first | lia | omega)
theorem fq (q : Rat) : Fq q.num q.den := ⟨den_pos q, q.reduced⟩
theorem q_eq (q : Rat) : (q.num : Rat) / ((q.den : Int) : Rat) = q := by
  rw [← Rat.divInt_eq_div]
  exact Rat.num_divInt_den q
theorem of_low {N D T M : Int} (f : Fq N D) (hM : M ≠ 0) (e : N * M = T * D) {q : Rat} (hq : q = (T : Rat) / (M : Rat)) : q.num = N ∧ (q.den : Int) = D := by
  have hD := f.pos
  have hd : D.toNat ≠ 0 := by (first | lia | omega)
  have ed : ((D.toNat : Nat) : Int) = D := by (first | lia | omega)
  have hr : N.natAbs.Coprime D.toNat := by
    have h := f.one
    have e2 : D.natAbs = D.toNat := by (first | lia | omega)
    rw [← e2]
    exact h
  have key : q = (⟨N, D.toNat, hd, hr⟩ : Rat) := by
    rw [hq, ← Rat.divInt_eq_div, Rat.mk_eq_divInt, ed]
    exact (Rat.divInt_eq_divInt_iff hM (by (first | lia | omega))).mpr e.symm
  rw [key]
  exact ⟨rfl, ed⟩
theorem pls_q (p q : Rat) : plsN p.num p.den q.num q.den = (p + q).num ∧ plsD p.num p.den q.num q.den = ((p + q).den : Int) := by
  obtain ⟨f, e⟩ := pls_ok (fq p) (fq q)
  have h1 := den_pos p
  have h2 := den_pos q
  obtain ⟨a, b⟩ := of_low (q := p + q) f (Int.ne_of_gt (Int.mul_pos h1 h2)) e (by
    have e1 := q_eq p
    have e2 := q_eq q
    have n1 := den_ne p
    have n2 := den_ne q
    simp only [Rat.intCast_add, Rat.intCast_mul]
    generalize (p.num : Rat) = a at *
    generalize ((p.den : Int) : Rat) = b at *
    generalize (q.num : Rat) = c at *
    generalize ((q.den : Int) : Rat) = d at *
    subst e1 e2
    grind)
  exact ⟨a.symm, b.symm⟩
theorem tms_q (p q : Rat) : tmsN p.num p.den q.num q.den = (p * q).num ∧ tmsD p.num p.den q.num q.den = ((p * q).den : Int) := by
  obtain ⟨f, e⟩ := tms_ok (fq p) (fq q)
  have h1 := den_pos p
  have h2 := den_pos q
  obtain ⟨a, b⟩ := of_low (q := p * q) f (Int.ne_of_gt (Int.mul_pos h1 h2)) e (by
    have e1 := q_eq p
    have e2 := q_eq q
    have n1 := den_ne p
    have n2 := den_ne q
    simp only [Rat.intCast_mul]
    generalize (p.num : Rat) = a at *
    generalize ((p.den : Int) : Rat) = b at *
    generalize (q.num : Rat) = c at *
    generalize ((q.den : Int) : Rat) = d at *
    subst e1 e2
    grind)
  exact ⟨a.symm, b.symm⟩
/-- T over b, brought to lowest terms -/
theorem low_q {t b : Int} (hb : 0 < b) : t / g t b = ((t : Rat) / (b : Rat)).num ∧ b / g t b = (((t : Rat) / (b : Rat)).den : Int) := by
  obtain ⟨f, e⟩ := low_ok (t := t) hb
  obtain ⟨a, b⟩ := of_low f (by (first | lia | omega)) e rfl
  exact ⟨a.symm, b.symm⟩
/-! ### bounds -/
def Bq (n : Nat) (q : Rat) : Prop := Bt n q.num ∧ Bt n (q.den : Int)
theorem Bq.mono {m n : Nat} {q : Rat} (h : Bq m q) (l : m ≤ n) : Bq n q := ⟨h.1.mono l, h.2.mono l⟩
/-- what T over M is, is no longer than T and M -/
theorem dvd_of {T M : Int} {q : Rat} (hM : M ≠ 0) (hq : q = (T : Rat) / (M : Rat)) : q.num ∣ T ∧ (q.den : Int) ∣ M := by
  have e : q.num * M = T * q.den := by
    have e1 : (q.num : Rat) / ((q.den : Int) : Rat) = (T : Rat) / (M : Rat) := (q_eq q).trans hq
    rw [← Rat.divInt_eq_div, ← Rat.divInt_eq_div] at e1
    exact (Rat.divInt_eq_divInt_iff (by have := den_pos q; (first | lia | omega)) hM).mp e1
  have c := (fq q).one
  constructor
  · have d : q.num ∣ T * q.den := ⟨M, e.symm⟩
    have d' := Int.natAbs_dvd_natAbs.mpr d
    rw [Int.natAbs_mul] at d'
    exact Int.natAbs_dvd_natAbs.mp (Nat.Coprime.dvd_of_dvd_mul_right c d')
  · have d : (q.den : Int) ∣ q.num * M := ⟨T, by rw [e, Int.mul_comm]⟩
    have d' := Int.natAbs_dvd_natAbs.mpr d
    rw [Int.natAbs_mul] at d'
    exact Int.natAbs_dvd_natAbs.mp (Nat.Coprime.dvd_of_dvd_mul_left (Nat.Coprime.symm c) d')
theorem bq_of {n : Nat} {T M : Int} {q : Rat} (hM : M ≠ 0) (hq : q = (T : Rat) / (M : Rat)) (bT : Bt n T) (bM : Bt n M) : Bq n q := by
  obtain ⟨d1, d2⟩ := dvd_of hM hq
  refine ⟨?_, bM.of_le (Nat.le_of_dvd (by (first | lia | omega)) (Int.natAbs_dvd_natAbs.mpr d2))⟩
  by_cases h : T = 0
  · subst h
    have : q = 0 := by rw [hq]; simp [Rat.div_def]
    rw [this]
    exact Bt.zero
  · exact bT.of_le (Nat.le_of_dvd (by (first | lia | omega)) (Int.natAbs_dvd_natAbs.mpr d1))
theorem bt_add {n : Nat} {x y : Int} (h : Bt n x) (k : Bt n y) : Bt (n + 1) (x + y) := by
  unfold Bt at *
  have a := Int.natAbs_add_le x y
  rw [Nat.pow_succ]
  (first | lia | omega)
theorem Bq.add {m n : Nat} {p q : Rat} (h : Bq m p) (k : Bq n q) : Bq (m + n + 1) (p + q) := by
  obtain ⟨e1, e2⟩ := pls_q p q
  rw [Bq, ← e1, ← e2]
  refine ⟨(bt_add (h.1.mul k.2.ediv) ((k.1.mul h.2.ediv).mono (by (first | lia | omega)))).ediv, (h.2.ediv.mul k.2.ediv).mono (by (first | lia | omega))⟩
theorem Bq.mul {m n : Nat} {p q : Rat} (h : Bq m p) (k : Bq n q) : Bq (m + n) (p * q) := by
  obtain ⟨e1, e2⟩ := tms_q p q
  rw [Bq, ← e1, ← e2]
  exact ⟨h.1.ediv.mul k.1.ediv, h.2.ediv.mul k.2.ediv⟩
end Rq

namespace Po
open Ra Rq
/-! ### rows of numbers: noughts at the end left out -/
def strip : List Rat → List Rat
  | [] => []
  | q :: qs => match strip qs with
    | [] => if q = 0 then [] else [q]
    | r :: rs => q :: r :: rs
/-! ### polynomials -/
def ev : List Rat → Rat → Rat
  | [], _ => 0
  | q :: qs, x => q + x * ev qs x
def padd (ps qs : List Rat) : List Rat := strip ((List.range (max ps.length qs.length)).map fun k => ps.getD k 0 + qs.getD k 0)
def psub (ps qs : List Rat) : List Rat := strip ((List.range (max ps.length qs.length)).map fun k => ps.getD k 0 - qs.getD k 0)
def pscale (qs : List Rat) (x : Rat) : List Rat := strip (qs.map (· * x))
def pslope (qs : List Rat) : List Rat := (List.range (qs.length - 1)).map fun k => qs.getD (k + 1) 0 * (((1 : Int) + (k : Int) : Int) : Rat)
/-! sums of a row -/
def sm (f : Nat → Rat) (n : Nat) : Rat := (List.range n).foldl (fun acc i => acc + f i) 0
/-- the figure of the power k -/
def conv (ps qs : List Rat) (k : Nat) : Rat := sm (fun i => ps.getD i 0 * qs.getD (k - i) 0) (k + 1)
def pmul (ps qs : List Rat) : List Rat := strip ((List.range (ps.length + qs.length)).map (conv ps qs))
/-! ### bounds of sums -/
/-! ### a number as T over M, both bounded -/
def Rep (n : Nat) (v : Rat) (T M : Int) : Prop := M ≠ 0 ∧ v = (T : Rat) / (M : Rat) ∧ Bt n T ∧ Bt n M
def lsum (qs : List Rat) : Rat := qs.foldl (· + ·) 0
end Po

namespace Po
open Ra Rq
/-! ### walks -/
/-- the height at the far end of the gap k, and the lean over it -/
def stp (gs ws : List Rat) (t h0 l0 : Rat) : Nat → Rat × Rat
  | 0 => (h0 + gs.getD 0 0 * l0, l0)
  | k + 1 => ((stp gs ws t h0 l0 k).1 + gs.getD (k + 1) 0 * ((stp gs ws t h0 l0 k).2 - t * ws.getD k 0 * (stp gs ws t h0 l0 k).1), (stp gs ws t h0 l0 k).2 - t * ws.getD k 0 * (stp gs ws t h0 l0 k).1)
def walkQ (gs ws : List Rat) (t h0 l0 : Rat) : List (Rat × Rat) := (List.range gs.length).map (stp gs ws t h0 l0)
/-- two numbers over one bottom -/
structure R3 (n : Nat) (h l : Rat) (th tl m : Int) : Prop where
  pos : 0 < m
  eh : h = (th : Rat) / (m : Rat)
  el : l = (tl : Rat) / (m : Rat)
  bh : Bt n th
  bl : Bt n tl
  bm : Bt n m
theorem R3.mono {n n' : Nat} {h l : Rat} {th tl m : Int} (r : R3 n h l th tl m) (k : n ≤ n') : R3 n' h l th tl m := ⟨r.pos, r.eh, r.el, r.bh.mono k, r.bl.mono k, r.bm.mono k⟩
end Po

namespace Po
open Ra Rq
/-! ### long division of rows -/
def lst (xs : List Rat) : Rat := xs.getD (xs.length - 1) 0
def rless (rs qs : List Rat) (f : Rat) : List Rat := rs.take (rs.length - qs.length) ++ (List.range (qs.length - 1)).map fun k => rs.getD (rs.length - qs.length + k) 0 - f * qs.getD k 0
def dv (qs : List Rat) : Nat → List Rat → List Rat × List Rat
  | 0, rs => ([], rs)
  | s + 1, rs => if rs.length < qs.length then ([], rs) else ((dv qs s (rless rs qs (lst rs / lst qs))).1 ++ [lst rs / lst qs], (dv qs s (rless rs qs (lst rs / lst qs))).2)
/-! ### a row over one bottom -/
def Ov (n : Nat) (M : Int) (q : Rat) : Prop := ∃ T : Int, Bt n T ∧ q * (M : Rat) = (T : Rat)
end Po

namespace Po
open Ra Rq
/-! ### what a polynomial is worth -/
/-! what is 0 everywhere has no figures -/
def dif (c : Rat) : List Rat → List Rat
  | [] => []
  | q :: qs => c * q :: dif (2 * c + 1) qs
/-! ### walks over polynomials -/
def plean (l h : List Rat) (w : Rat) : List Rat := psub l (strip (0 :: pscale h w))
def pst (gs ws : List Rat) (h0 l0 : List Rat) : Nat → List Rat × List Rat
  | 0 => (padd h0 (pscale l0 (gs.getD 0 0)), l0)
  | k + 1 => (padd (pst gs ws h0 l0 k).1 (pscale (plean (pst gs ws h0 l0 k).2 (pst gs ws h0 l0 k).1 (ws.getD k 0)) (gs.getD (k + 1) 0)), plean (pst gs ws h0 l0 k).2 (pst gs ws h0 l0 k).1 (ws.getD k 0))
/-! all over one bottom -/
/-- two rows over one bottom -/
structure O2 (n : Nat) (h l : List Rat) (M : Int) : Prop where
  ne : M ≠ 0
  bm : Bt n M
  oh : ∀ q ∈ h, Ov n M q
  ol : ∀ q ∈ l, Ov n M q
end Po

namespace Po
open Ra Rq
/-! ### a cord turned, and crossed -/
end Po
namespace Po
open Ra Rq
end Po
namespace Po
open Ra Rq
/-! ### the last figures -/
end Po
namespace Po
open Ra Rq
/-! ### first, second, last figures -/
def lprod (qs : List Rat) : Rat := qs.foldl (· * ·) 1
/-- the sums of the gaps -/
def gsum (gs : List Rat) (k : Nat) : Rat := sm (fun i => gs.getD i 0) (k + 1)
theorem getD_in {qs : List Rat} {k : Nat} (h : k < qs.length) : qs.getD k 0 = qs[k] := by rw [List.getD_eq_getElem?_getD, List.getElem?_eq_getElem h]; rfl
def sg (n : Nat) : Rat := ((1 - 2 * ((n : Int) % 2) : Int) : Rat)
end Po

namespace Po
open Ra Rq
/-! ### at the sum of all pulls over the weights every bead stands on the other side of the one ahead -/
section
variable (gs ws : List Rat) (t : Rat)
/-- 1 over the gap -/
def pu (k : Nat) : Rat := 1 / gs.getD k 0
/-- the pulls at a bead over its weight -/
def dd (k : Nat) : Rat := (pu gs k + pu gs (k + 1)) / ws.getD k 0
def dsum : Nat → Rat
  | 0 => 0
  | k + 1 => dsum k + dd gs ws k
def sgk : Nat → Rat
  | 0 => 1
  | k + 1 => -sgk k
def HK (k : Nat) : Rat := sgk k * (stp gs ws t 0 1 k).1
end

section
variable {gs ws : List Rat} {t : Rat}
/-- what stands at a bead: on the right side, and far enough on the other at the next -/
structure Alt (gs ws : List Rat) (t : Rat) (k : Nat) : Prop where
  pos : 0 < HK gs ws t k
  far : ws.getD k 0 * (t - dsum gs ws (k + 1)) * HK gs ws t k ≤ HK gs ws t (k + 1) * pu gs (k + 1)
/-- at 0 nothing turns -/
theorem stp_zero (pg : ∀ q ∈ gs, 0 < q) : ∀ k, k < gs.length → (stp gs ws 0 0 1 k).2 = 1 ∧ 0 < (stp gs ws 0 0 1 k).1 := by
  intro k
  induction k with
  | zero =>
    intro h
    have g0 : 0 < gs.getD 0 0 := by
      rw [List.getD_eq_getElem?_getD, List.getElem?_eq_getElem h]
      exact pg _ (List.getElem_mem h)
    refine ⟨rfl, ?_⟩
    simp only [stp]
    grind
  | succ k ih =>
    intro h
    obtain ⟨a, b⟩ := ih (by (first | lia | omega))
    have g0 : 0 < gs.getD (k + 1) 0 := by
      rw [List.getD_eq_getElem?_getD, List.getElem?_eq_getElem h]
      exact pg _ (List.getElem_mem h)
    simp only [stp, a]
    exact ⟨by grind, by grind⟩
end
/-- the j-th of so many equal steps -/
def tj (T : Rat) (j i : Nat) : Rat := T * ((j : Int) : Rat) / (((2 ^ i : Nat) : Int) : Rat)
end Po

namespace Po
open Ra Rq
/-! ### the order of the counts -/
theorem mpos {a b : Rat} (h : 0 < a) (k : 0 < b) : 0 < a * b := Rat.mul_pos h k
theorem mnn {a b : Rat} (h : 0 ≤ a) (k : 0 ≤ b) : 0 ≤ a * b := Rat.mul_nonneg h k
/-- so many turns, and a height and a lean, both on the side of the last height -/
def Lt3 (c c' : Nat) (H L H' L' : Rat) : Prop := c < c' ∨ (c = c' ∧ L' * H < L * H')
/-- a height that is 0 comes from the side above -/
def Go (H L : Rat) : Prop := 0 ≤ H ∧ (H = 0 → L < 0)
theorem Go.bead {H L x : Rat} (h : Go H L) : Go H (L - x * H) := ⟨h.1, fun z => by have := h.2 z; rw [z]; grind⟩
theorem lt_bead {c c' : Nat} {H L H' L' x x' : Rat} (hH : 0 ≤ H) (hH' : 0 ≤ H') (h : Lt3 c c' H L H' L') (hx : x ≤ x') : Lt3 c c' H (L - x * H) H' (L' - x' * H') := by
  rcases h with h | ⟨h, k⟩
  · exact .inl h
  · refine .inr ⟨h, ?_⟩
    have := mnn (show 0 ≤ x' - x by grind) (mnn hH hH')
    grind
/-- over a gap: what comes of turns, height and lean -/
def gc (g : Rat) (c : Nat) (H M : Rat) : Nat := if H + g * M < 0 then c + 1 else c
def gh (g H M : Rat) : Rat := if H + g * M < 0 then -(H + g * M) else H + g * M
def gl (g H M : Rat) : Rat := if H + g * M < 0 then -M else M
theorem Go.neg {g H M : Rat} (hg : 0 < g) (h : Go H M) (z : H + g * M ≤ 0) : M < 0 := by
  refine Rat.not_le.mp fun q => ?_
  have h1 := mnn (Rat.le_of_lt hg) q
  have h0 := h.1
  have e : H = 0 := by grind
  have := h.2 e
  grind
theorem Go.gap {g H M : Rat} (hg : 0 < g) (h : Go H M) : Go (gh g H M) (gl g H M) := by
  unfold gh gl
  by_cases z : H + g * M < 0
  · rw [if_pos z, if_pos z]
    exact ⟨by grind, fun q => by grind⟩
  · rw [if_neg z, if_neg z]
    exact ⟨by grind, fun q => h.neg hg (by grind)⟩
theorem lt_gap {c c' : Nat} {g H M H' M' : Rat} (hg : 0 < g) (o : Go H M) (o' : Go H' M') (h : Lt3 c c' H M H' M') : Lt3 (gc g c H M) (gc g c' H' M') (gh g H M) (gl g H M) (gh g H' M') (gl g H' M') := by
  have inv : M' * (H + g * M) - M * (H' + g * M') = M' * H - M * H' := by grind
  unfold gc gh gl
  by_cases z : H + g * M < 0
  · have hM := o.neg hg (Rat.le_of_lt z)
    by_cases z' : H' + g * M' < 0
    · simp only [if_pos z, if_pos z']
      rcases h with h | ⟨h, k⟩
      · exact .inl (by (first | lia | omega))
      · refine .inr ⟨by (first | lia | omega), ?_⟩
        grind
    · simp only [if_pos z, if_neg z']
      have hP : 0 ≤ H' + g * M' := Rat.not_lt.mp z'
      rcases h with h | ⟨h, k⟩
      · by_cases e : c + 1 < c'
        · exact .inl e
        · refine .inr ⟨by (first | lia | omega), ?_⟩
          have key : 0 < M' * (H + g * M) - M * (H' + g * M') := by
            by_cases m : M' ≤ 0
            · have a1 := mnn (show 0 ≤ -M' by grind) (show 0 ≤ -(H + g * M) by grind)
              have a2 := mnn (show 0 ≤ -M by grind) hP
              by_cases m0 : M' = 0
              · have hH' : H' ≠ 0 := fun q => by have := o'.2 q; grind
                have p' : 0 < H' + g * M' := by
                  have := o'.1
                  rw [m0, Rat.mul_zero]
                  grind
                have := mpos (show 0 < -M by grind) p'
                grind
              · have := mpos (show 0 < -M' by grind) (show 0 < -(H + g * M) by grind)
                grind
            · have hm : 0 < M' := Rat.not_le.mp m
              have hH' : 0 < H' := by
                have h0 := o'.1
                by_cases q : H' = 0
                · have := o'.2 q
                  grind
                · grind
              have a1 := mnn (Rat.le_of_lt hm) o.1
              have a2 := mpos (show 0 < -M by grind) hH'
              rw [inv]
              grind
          grind
      · exfalso
        by_cases m : M' ≤ 0
        · have a1 := mnn (show 0 ≤ -M' by grind) (show 0 ≤ -(H + g * M) by grind)
          have a2 := mnn (show 0 ≤ -M by grind) hP
          have : 0 ≤ M' * (H + g * M) - M * (H' + g * M') := by grind
          rw [inv] at this
          grind
        · have a1 := mnn (show 0 ≤ M' by grind) o.1
          have a2 := mnn (show 0 ≤ -M by grind) o'.1
          grind
  · by_cases z' : H' + g * M' < 0
    · simp only [if_neg z, if_pos z']
      refine .inl ?_
      rcases h with h | ⟨h, k⟩ <;> (first | lia | omega)
    · simp only [if_neg z, if_neg z']
      rcases h with h | ⟨h, k⟩
      · exact .inl h
      · refine .inr ⟨h, ?_⟩
        grind
section
variable (gs ws : List Rat) (t : Rat)
/-- turns so far, and the side of the last height -/
def cs : Nat → Nat × Rat
  | 0 => (0, 1)
  | k + 1 => if (cs k).2 * (stp gs ws t 0 1 (k + 1)).1 < 0 then ((cs k).1 + 1, -(cs k).2) else cs k
def Hn (k : Nat) : Rat := (cs gs ws t k).2 * (stp gs ws t 0 1 k).1
def Ln (k : Nat) : Rat := (cs gs ws t k).2 * (stp gs ws t 0 1 k).2
/-- the lean behind the bead k -/
def Mn (k : Nat) : Rat := Ln gs ws t k - t * ws.getD k 0 * Hn gs ws t k
end
theorem cs_sq (gs ws : List Rat) (t : Rat) (k : Nat) : (cs gs ws t k).2 = 1 ∨ (cs gs ws t k).2 = -1 := by
  induction k with
  | zero => exact .inl rfl
  | succ k ih =>
    rw [cs]
    split
    · rcases ih with e | e <;> rw [e]
      · exact .inr rfl
      · exact .inl (by grind)
    · exact ih
theorem mn_eq (gs ws : List Rat) (t : Rat) (k : Nat) : Mn gs ws t k = (cs gs ws t k).2 * (stp gs ws t 0 1 (k + 1)).2 := by
  unfold Mn Ln Hn
  simp only [stp]
  grind
theorem step_n (gs ws : List Rat) (t : Rat) (k : Nat) : (cs gs ws t (k + 1)).1 = gc (gs.getD (k + 1) 0) (cs gs ws t k).1 (Hn gs ws t k) (Mn gs ws t k) ∧ Hn gs ws t (k + 1) = gh (gs.getD (k + 1) 0) (Hn gs ws t k) (Mn gs ws t k) ∧ Ln gs ws t (k + 1) = gl (gs.getD (k + 1) 0) (Hn gs ws t k) (Mn gs ws t k) := by
  have e : (cs gs ws t k).2 * (stp gs ws t 0 1 (k + 1)).1 = Hn gs ws t k + gs.getD (k + 1) 0 * Mn gs ws t k := by
    rw [mn_eq]
    unfold Hn
    simp only [stp]
    grind
  have e2 := mn_eq gs ws t k
  unfold gc gh gl
  unfold Hn at e
  unfold Hn Ln
  rw [cs]
  by_cases z : (cs gs ws t k).2 * (stp gs ws t 0 1 (k + 1)).1 < 0
  · have z' := z
    rw [e] at z'
    simp only [if_pos z, if_pos z']
    refine ⟨trivial, ?_, ?_⟩ <;> grind
  · have z' := z
    rw [e] at z'
    simp only [if_neg z, if_neg z']
    refine ⟨trivial, ?_, ?_⟩ <;> grind
section
variable {gs ws : List Rat} {t t' : Rat}
theorem go_n (pg : ∀ k, k < gs.length → 0 < gs.getD k 0) : ∀ k, k < gs.length → Go (Hn gs ws t k) (Ln gs ws t k) := by
  intro k
  induction k with
  | zero =>
    intro h
    have g0 := pg 0 h
    have e : Hn gs ws t 0 = gs.getD 0 0 := by simp only [Hn, cs, stp]; grind
    rw [e]
    exact ⟨Rat.le_of_lt g0, fun q => by grind⟩
  | succ k ih =>
    intro h
    obtain ⟨_, e1, e2⟩ := step_n gs ws t k
    rw [e1, e2]
    exact (Go.bead (ih (by (first | lia | omega)))).gap (pg (k + 1) h)
/-- behind each bead, of two numbers -/
theorem lt_n (pg : ∀ k, k < gs.length → 0 < gs.getD k 0) (pw : ∀ k, k < ws.length → 0 < ws.getD k 0) (hlen : gs.length = ws.length + 1) (ht : t < t') : ∀ k, k < ws.length → Lt3 (cs gs ws t k).1 (cs gs ws t' k).1 (Hn gs ws t k) (Mn gs ws t k) (Hn gs ws t' k) (Mn gs ws t' k) := by
  have tw : ∀ k, k < ws.length → t * ws.getD k 0 ≤ t' * ws.getD k 0 := fun k h => by
    have := mpos (show 0 < t' - t by grind) (pw k h)
    grind
  intro k
  induction k with
  | zero =>
    intro h
    refine .inr ⟨rfl, ?_⟩
    have g0 := pg 0 (by (first | lia | omega))
    have a := mpos (mpos (show 0 < t' - t by grind) (pw 0 h)) (mpos g0 g0)
    have e : ∀ x, Hn gs ws x 0 = gs.getD 0 0 := fun x => by simp only [Hn, cs, stp]; grind
    have e2 : ∀ x, Ln gs ws x 0 = 1 := fun x => by simp only [Ln, cs, stp]; grind
    unfold Mn
    rw [e, e, e2, e2]
    grind
  | succ k ih =>
    intro h
    obtain ⟨a1, a2, a3⟩ := step_n gs ws t k
    obtain ⟨b1, b2, b3⟩ := step_n gs ws t' k
    have g1 := go_n (ws := ws) (t := t) pg k (by (first | lia | omega))
    have g2 := go_n (ws := ws) (t := t') pg k (by (first | lia | omega))
    have l := lt_gap (pg (k + 1) (by (first | lia | omega))) (Go.bead (x := t * ws.getD k 0) g1) (Go.bead (x := t' * ws.getD k 0) g2) (ih (by (first | lia | omega)))
    have h1 := (go_n (ws := ws) (t := t) pg (k + 1) (by (first | lia | omega))).1
    have h2 := (go_n (ws := ws) (t := t') pg (k + 1) (by (first | lia | omega))).1
    have l' : Lt3 (cs gs ws t (k + 1)).1 (cs gs ws t' (k + 1)).1 (Hn gs ws t (k + 1)) (Ln gs ws t (k + 1)) (Hn gs ws t' (k + 1)) (Ln gs ws t' (k + 1)) := by
      rw [a1, a2, a3, b1, b2, b3]
      exact l
    exact lt_bead h1 h2 l' (tw (k + 1) h)
/-- held: up to the less one no more than below the greater -/
theorem held_le (pg : ∀ k, k < gs.length → 0 < gs.getD k 0) (pw : ∀ k, k < ws.length → 0 < ws.getD k 0) (hlen : gs.length = ws.length + 1) (ht : t < t') (hn : 0 < ws.length) : (cs gs ws t ws.length).1 + (if Hn gs ws t ws.length = 0 then 1 else 0) ≤ (cs gs ws t' ws.length).1 := by
  obtain ⟨n, e⟩ : ∃ n, ws.length = n + 1 := ⟨ws.length - 1, by (first | lia | omega)⟩
  have l := lt_n pg pw hlen ht n (by (first | lia | omega))
  obtain ⟨a1, a2, a3⟩ := step_n gs ws t n
  obtain ⟨b1, b2, b3⟩ := step_n gs ws t' n
  have g1 := go_n (ws := ws) (t := t) pg n (by (first | lia | omega))
  have g2 := go_n (ws := ws) (t := t') pg n (by (first | lia | omega))
  have l2 := lt_gap (pg (n + 1) (by (first | lia | omega))) (Go.bead (x := t * ws.getD n 0) g1) (Go.bead (x := t' * ws.getD n 0) g2) l
  have o1 := go_n (ws := ws) (t := t) pg (n + 1) (by (first | lia | omega))
  have o2 := go_n (ws := ws) (t := t') pg (n + 1) (by (first | lia | omega))
  have l' : Lt3 (cs gs ws t (n + 1)).1 (cs gs ws t' (n + 1)).1 (Hn gs ws t (n + 1)) (Ln gs ws t (n + 1)) (Hn gs ws t' (n + 1)) (Ln gs ws t' (n + 1)) := by
    rw [a1, a2, a3, b1, b2, b3]
    exact l2
  rw [e]
  rcases l' with h | ⟨h, k⟩
  · split <;> (first | lia | omega)
  · have hne : Hn gs ws t (n + 1) ≠ 0 := fun z => by
      have m := o1.2 z
      rw [z, Rat.mul_zero] at k
      have := mnn (show 0 ≤ -Ln gs ws t (n + 1) by grind) o2.1
      grind
    rw [if_neg hne]
    (first | lia | omega)
theorem loose_le (pg : ∀ k, k < gs.length → 0 < gs.getD k 0) (pw : ∀ k, k < ws.length → 0 < ws.getD k 0) (hlen : gs.length = ws.length + 1) (ht : t < t') {n : Nat} (hn : ws.length = n + 1) : (cs gs ws t n).1 + (if Mn gs ws t n ≤ 0 then 1 else 0) ≤ (cs gs ws t' n).1 + (if Mn gs ws t' n < 0 then 1 else 0) := by
  have l := lt_n pg pw hlen ht n (by (first | lia | omega))
  have g1 := (go_n (ws := ws) (t := t) pg n (by (first | lia | omega))).1
  have g2 := (go_n (ws := ws) (t := t') pg n (by (first | lia | omega))).1
  rcases l with h | ⟨h, k⟩
  · split <;> split <;> (first | lia | omega)
  · by_cases z : Mn gs ws t n ≤ 0
    · have z' : Mn gs ws t' n < 0 := by
        refine Rat.not_le.mp fun q => ?_
        have a1 := mnn q g1
        have a2 := mnn (show 0 ≤ -Mn gs ws t n by grind) g2
        grind
      rw [if_pos z, if_pos z']
      (first | lia | omega)
    · rw [if_neg z]
      (first | lia | omega)
end
end Po

namespace Po
open Ra Rq
/-! ### counts of cords changed and cut -/
/-- as Lt3, or alike -/
def Le3 (c c' : Nat) (H L H' L' : Rat) : Prop := c < c' ∨ (c = c' ∧ L' * H ≤ L * H')
theorem Le3.trans {a b c : Nat} {H L H' L' H'' L'' : Rat} (hH : 0 ≤ H) (g : Go H' L') (g'' : Go H'' L'') (h : Le3 a b H L H' L') (k : Le3 b c H' L' H'' L'') : Le3 a c H L H'' L'' := by
  rcases h with h | ⟨h, h'⟩
  · rcases k with k | ⟨k, _⟩ <;> exact .inl (by (first | lia | omega))
  · rcases k with k | ⟨k, k'⟩
    · exact .inl (by (first | lia | omega))
    · refine .inr ⟨by (first | lia | omega), ?_⟩
      have g0 := g.1
      have hH'' := g''.1
      by_cases z : H' = 0
      · have l0 := g.2 z
        rw [z, Rat.mul_zero] at k'
        have e1 : H'' = 0 := by
          by_cases y : H'' = 0
          · exact y
          · have := mpos (show 0 < -L' by grind) (show 0 < H'' by grind)
            grind
        have l1 := g''.2 e1
        have := mnn (show 0 ≤ -L'' by grind) hH
        rw [e1, Rat.mul_zero]
        grind
      · have p : 0 < H' := by grind
        refine Rat.not_lt.mp fun q => ?_
        have a1 := mpos p (show 0 < L'' * H - L * H'' by grind)
        have a2 := mnn hH'' (show 0 ≤ L * H' - L' * H by grind)
        have a3 := mnn hH (show 0 ≤ L' * H'' - L'' * H' by grind)
        grind
theorem le_bead {c c' : Nat} {H L H' L' x x' : Rat} (hH : 0 ≤ H) (hH' : 0 ≤ H') (h : Le3 c c' H L H' L') (hx : x ≤ x') : Le3 c c' H (L - x * H) H' (L' - x' * H') := by
  rcases h with h | ⟨h, k⟩
  · exact .inl h
  · refine .inr ⟨h, ?_⟩
    have := mnn (show 0 ≤ x' - x by grind) (mnn hH hH')
    grind
/-- two that are alike turn alike -/
theorem eq_side {g H M H' M' : Rat} (hg : 0 < g) (o : Go H M) (o' : Go H' M') (e : M' * H = M * H') (z : H + g * M < 0) : H' + g * M' < 0 := by
  have hM := o.neg hg (Rat.le_of_lt z)
  refine Rat.not_le.mp fun p => ?_
  have h0 := o.1
  have h0' := o'.1
  by_cases m : M' < 0
  · have inv : M' * (H + g * M) - M * (H' + g * M') = M' * H - M * H' := by grind
    have a1 := mpos (show 0 < -M' by grind) (show 0 < -(H + g * M) by grind)
    have a2 := mnn (show 0 ≤ -M by grind) p
    grind
  · have m' : 0 ≤ M' := Rat.not_lt.mp m
    have a1 := mnn m' h0
    have hz : H' = 0 := by
      by_cases y : H' = 0
      · exact y
      · have := mpos (show 0 < -M by grind) (show 0 < H' by grind)
        grind
    have := o'.2 hz
    grind
theorem le_gap {c c' : Nat} {g H M H' M' : Rat} (hg : 0 < g) (o : Go H M) (o' : Go H' M') (h : Le3 c c' H M H' M') : Le3 (gc g c H M) (gc g c' H' M') (gh g H M) (gl g H M) (gh g H' M') (gl g H' M') := by
  by_cases s : Lt3 c c' H M H' M'
  · rcases lt_gap hg o o' s with y | ⟨y, k⟩
    · exact .inl y
    · exact .inr ⟨y, Rat.le_of_lt k⟩
  · obtain ⟨hc, k⟩ : c = c' ∧ M' * H = M * H' := by
      rcases h with h | ⟨h, k⟩
      · exact absurd (.inl h) s
      · refine ⟨h, Rat.le_antisymm k (Rat.not_lt.mp fun q => s (.inr ⟨h, q⟩))⟩
    subst hc
    unfold gc gh gl
    by_cases z : H + g * M < 0
    · have z' := eq_side hg o o' k z
      simp only [if_pos z, if_pos z']
      exact .inr ⟨rfl, by grind⟩
    · have z' : ¬ H' + g * M' < 0 := fun q => z (eq_side hg o' o k.symm q)
      simp only [if_neg z, if_neg z']
      exact .inr ⟨rfl, by grind⟩
/-- over a longer gap -/
theorem le_longer {c : Nat} {g g' H M : Rat} (hg : 0 < g) (hgg : g ≤ g') (o : Go H M) : Le3 (gc g c H M) (gc g' c H M) (gh g H M) (gl g H M) (gh g' H M) (gl g' H M) := by
  have h0 := o.1
  unfold gc gh gl
  by_cases z : H + g * M < 0
  · have hM := o.neg hg (Rat.le_of_lt z)
    have a := mnn (show 0 ≤ g' - g by grind) (show 0 ≤ -M by grind)
    have z' : H + g' * M < 0 := by grind
    simp only [if_pos z, if_pos z']
    refine .inr ⟨rfl, ?_⟩
    have := mnn a (show 0 ≤ -M by grind)
    grind
  · simp only [if_neg z]
    by_cases z' : H + g' * M < 0
    · simp only [if_pos z']
      exact .inl (by (first | lia | omega))
    · simp only [if_neg z']
      refine .inr ⟨rfl, ?_⟩
      by_cases m : M ≤ 0
      · have a := mnn (show 0 ≤ g' - g by grind) (mnn (show 0 ≤ -M by grind) (show 0 ≤ -M by grind))
        grind
      · have a := mnn (show 0 ≤ g' - g by grind) (mnn (show 0 ≤ M by grind) (show 0 ≤ M by grind))
        grind
section
variable {gs ws gs' ws' : List Rat} {t : Rat}
/-- no gap shorter, no weight less: as many turns or more -/
theorem mono_n (ht : 0 ≤ t) (hl : gs'.length = gs.length) (pg : ∀ k, k < gs.length → 0 < gs.getD k 0) (lg : ∀ k, k < gs.length → gs.getD k 0 ≤ gs'.getD k 0) (lw : ∀ k, k + 1 < gs.length → ws.getD k 0 ≤ ws'.getD k 0) :
    ∀ k, k < gs.length → Le3 (cs gs ws t k).1 (cs gs' ws' t k).1 (Hn gs ws t k) (Ln gs ws t k) (Hn gs' ws' t k) (Ln gs' ws' t k) := by
  have pg' : ∀ k, k < gs'.length → 0 < gs'.getD k 0 := fun k h => by
    have a := pg k (by (first | lia | omega))
    have b := lg k (by (first | lia | omega))
    grind
  intro k
  induction k with
  | zero =>
    intro h
    refine .inr ⟨rfl, ?_⟩
    have e : ∀ (as bs : List Rat), Hn as bs t 0 = as.getD 0 0 := fun as bs => by simp only [Hn, cs, stp]; grind
    have e2 : ∀ (as bs : List Rat), Ln as bs t 0 = 1 := fun as bs => by simp only [Ln, cs, stp]; grind
    rw [e, e, e2, e2]
    have := lg 0 h
    grind
  | succ k ih =>
    intro h
    obtain ⟨a1, a2, a3⟩ := step_n gs ws t k
    obtain ⟨b1, b2, b3⟩ := step_n gs' ws' t k
    have g1 := go_n (ws := ws) (t := t) pg k (by (first | lia | omega))
    have g2 := go_n (ws := ws') (t := t) pg' k (by (first | lia | omega))
    have hx : t * ws.getD k 0 ≤ t * ws'.getD k 0 := by
      have := mnn ht (show 0 ≤ ws'.getD k 0 - ws.getD k 0 by have := lw k h; grind)
      grind
    have m := le_bead g1.1 g2.1 (ih (by (first | lia | omega))) hx
    have o1 := Go.bead (x := t * ws.getD k 0) g1
    have o2 := Go.bead (x := t * ws'.getD k 0) g2
    have hg := pg (k + 1) h
    have s1 := le_gap hg o1 o2 m
    have s2 := le_longer (c := (cs gs' ws' t k).1) hg (lg (k + 1) h) o2
    rw [a1, a2, a3, b1, b2, b3]
    exact Le3.trans (o1.gap hg).1 (o2.gap hg) (o2.gap (pg' (k + 1) (by (first | lia | omega)))) s1 s2
/-- a piece behind a bead, begun with height 0 and lean 1 -/
theorem cut_n {hs xs : List Rat} {n : Nat} (hg : ∀ k, k < hs.length → hs.getD k 0 = gs.getD (n + 1 + k) 0) (hw : ∀ k, k + 1 < hs.length → xs.getD k 0 = ws.getD (n + 1 + k) 0) (hn : gs.length = n + 1 + hs.length) (pg : ∀ k, k < gs.length → 0 < gs.getD k 0) :
    ∀ k, k < hs.length → Le3 ((cs gs ws t n).1 + (cs hs xs t k).1) (cs gs ws t (n + 1 + k)).1 (Hn hs xs t k) (Ln hs xs t k) (Hn gs ws t (n + 1 + k)) (Ln gs ws t (n + 1 + k)) ∧
      Le3 (cs gs ws t (n + 1 + k)).1 ((cs gs ws t n).1 + 1 + (cs hs xs t k).1) (Hn gs ws t (n + 1 + k)) (Ln gs ws t (n + 1 + k)) (Hn hs xs t k) (Ln hs xs t k) := by
  have ph : ∀ k, k < hs.length → 0 < hs.getD k 0 := fun k h => by rw [hg k h]; exact pg _ (by (first | lia | omega))
  intro k
  induction k with
  | zero =>
    intro h
    obtain ⟨a1, a2, a3⟩ := step_n gs ws t n
    have g1 := Go.bead (x := t * ws.getD n 0) (go_n (ws := ws) (t := t) pg n (by (first | lia | omega)))
    have e : Hn hs xs t 0 = gs.getD (n + 1) 0 := by simp only [Hn, cs, stp]; have := hg 0 h; rw [Nat.add_zero] at this; rw [this]; grind
    have e2 : Ln hs xs t 0 = 1 := by simp only [Ln, cs, stp]; grind
    have e3 : (cs hs xs t 0).1 = 0 := rfl
    rw [Nat.add_zero, e, e2, e3, a1, a2, a3]
    have m0 := g1.1
    change Go (Hn gs ws t n) (Mn gs ws t n) at g1
    unfold gc gh gl
    by_cases z : Hn gs ws t n + gs.getD (n + 1) 0 * Mn gs ws t n < 0
    · simp only [if_pos z]
      exact ⟨.inl (by (first | lia | omega)), .inr ⟨by (first | lia | omega), by grind⟩⟩
    · simp only [if_neg z]
      exact ⟨.inr ⟨by (first | lia | omega), by grind⟩, .inl (by (first | lia | omega))⟩
  | succ k ih =>
    intro h
    obtain ⟨i1, i2⟩ := ih (by (first | lia | omega))
    obtain ⟨a1, a2, a3⟩ := step_n gs ws t (n + 1 + k)
    obtain ⟨b1, b2, b3⟩ := step_n hs xs t k
    have g1 := go_n (ws := ws) (t := t) pg (n + 1 + k) (by (first | lia | omega))
    have g2 := go_n (ws := xs) (t := t) ph k (by (first | lia | omega))
    have x := hw k (by (first | lia | omega))
    have y := hg (k + 1) h
    have hp := ph (k + 1) h
    have o1 := Go.bead (x := t * ws.getD (n + 1 + k) 0) g1
    have o2 := Go.bead (x := t * xs.getD k 0) g2
    have m1 := le_bead (x := t * xs.getD k 0) (x' := t * ws.getD (n + 1 + k) 0) g2.1 g1.1 i1 (by rw [x]; exact Rat.le_refl)
    have m2 := le_bead (x := t * ws.getD (n + 1 + k) 0) (x' := t * xs.getD k 0) g1.1 g2.1 i2 (by rw [x]; exact Rat.le_refl)
    have s1 := le_gap hp o2 o1 m1
    have s2 := le_gap hp o1 o2 m2
    have gadd : ∀ (a c : Nat) (G A B : Rat), gc G (a + c) A B = a + gc G c A B := fun a c G A B => by unfold gc; split <;> (first | lia | omega)
    rw [gadd] at s1 s2
    have y' : hs.getD (k + 1) 0 = gs.getD (n + 1 + k + 1) 0 := y
    rw [show n + 1 + (k + 1) = n + 1 + k + 1 by (first | lia | omega), a1, a2, a3, b1, b2, b3, ← y']
    exact ⟨s1, s2⟩
end
end Po

namespace L3
open PySem PySem.Spec PyProof.Rows L2 Ra

/-! ### numbers of any size that is bounded -/
theorem log2_of {j : Int} (h : Bt 9000 j) : j.natAbs.log2 < 9000 := by
  by_cases h0 : j.natAbs = 0
  · rw [h0]; decide
  · exact (Nat.log2_lt h0).mpr h
theorem mul_of {i j : Int} {m n : Nat} (h : Bt m i) (k : Bt n j) (l : m + n ≤ 134217728) : IntMulOk i j :=
  PySem.IntMulOk.of_le (PySem.intBits_le_iff.mpr h) (PySem.intBits_le_iff.mpr k) l
section
variable {X : Cx} {a b c : Expr} {ta tb tc : TE} {pos : Pos}
/-- // by a divisor above 0 -/
theorem op_fdP : OpR X (binaryOp .FloorDiv) (rI (fun _ j => 0 < j ∧ Bt 9000 j) fun i j => .int (i / j)) := opI fun i j _ _ _ _ _ hc q => by
  have h1 : (0 : Int) < j := hc.1
  exact floordiv_int (by (first | lia | omega)) (by rw [Int.fdiv_eq_ediv_of_nonneg i (by (first | lia | omega))]; exact q) (.inl (PyProof.noPylong_of_log2 (log2_of hc.2)))
theorem op_mulB : OpR X (binaryOp .Mult) (rI IntMulOk fun i j => .int (i * j)) := opI fun _ _ _ _ _ _ _ hc q => mul_int q hc
/-- isinstance(x, T), T a built-in type -/
theorem call_isi : CallR X (.builtin "isinstance") (fun xs H Q => ∃ x T t b, xs = [x, .ty T] ∧ TyOf X.K H x t ∧ PySem.W.kitOne X.K t (.type T) = some b ∧ Q (.bl b) H) := by
  intro pins s σ H xs us Q I r h
  obtain ⟨x, T, t, b, rfl, ty, e, q⟩ := h
  obtain ⟨u, w', rfl, rx, rt⟩ := vals2 r
  cases rt
  exact isinst_ok I rx ty e fun tk => ⟨.bl b, H, I.tok _, rfl, q⟩
end
theorem kit_int_int (K : PySem.W.Frag) : PySem.W.kitOne K (.type "int") (.type "int") = some true := rfl
theorem kit_int_bool (K : PySem.W.Frag) : PySem.W.kitOne K (.type "int") (.type "bool") = some false := by with_unfolding_all rfl
theorem kit_tup_tup (K : PySem.W.Frag) : PySem.W.kitOne K (.type "tuple") (.type "tuple") = some true := rfl

/-! ### the same rules, the part K said (for a block, whose context is not known ahead) -/
section
variable {X : Cx} {K : PySem.W.Frag}
end
theorem iteD {c A B : Prop} [Decidable c] (h : c) (k : A) : if decide c = true then A else B := by
  rw [decide_eq_true h]
  exact iteT k
theorem iteND {c A B : Prop} [Decidable c] (h : ¬ c) (k : B) : if decide c = true then A else B := by
  rw [decide_eq_false h]
  exact iteF k
/-! ### a def that is called -/
structure Cal (P : Program) (w : World) (K : PySem.W.Frag) (mg : Str → Option Value) (base : Heap) (x : Str) (k : Nat) (ps : List Str) (sp : Sp) : Prop where
  ex : ∃ f fd, FnOk P w K mg base CX0 k f fd ps sp ∧ Binds K fd ps [] ∧ PySem.W.keepIn K (.ref f) = true ∧ mg x = some (.ref f)
theorem Cal.imp {P : Program} {w : World} {K : PySem.W.Frag} {mg : Str → Option Value} {base : Heap} {x : Str} {k : Nat} {ps : List Str} {sp sp' : Sp} (C : Cal P w K mg base x k ps sp) (h : ∀ {vs : List V} {H : Hp} {Q : VK} {E : XK}, sp' vs H Q E → sp vs H Q E) : Cal P w K mg base x k ps sp' := by
  obtain ⟨f, fd, F, b, kp, m⟩ := C.ex
  exact ⟨f, fd, F.imp fun _ _ _ _ z => h z, b, kp, m⟩
theorem pe_cl {X : Cx} {x : Str} {k j : Nat} {ps : List Str} {sp : Sp} {e : Expr} {es : List Expr} {t : TA} {p pos : Pos} (C : Cal X.prog X.w X.K X.mg X.base x k ps sp) (hr : Room j X.A) (ha : PA X (e :: es) t) (hkj : k ≤ j := by decide) (hg : Gl X x := by rfl)
    (hdb : (x == ("__debug__" : Str)) = false := by decide) (he : starEach (e :: es) X.env = (false, eval e X.env) :: starEach es X.env := by rfl) (hpl : (backTo pos (starEach es X.env)).any (·.1) = false := by rfl) :
    PE X (.Call (.Name x p) (e :: es) [] pos) (tCall sp [] E0 t) := by
  obtain ⟨f, fd, F, b, kp, m⟩ := C.ex
  exact pe_call F (hr.mono hkj) hg m kp b .nil pass0 ha hdb he hpl

/-! ### heaps that grow, pairs -/
theorem same_upd {H : Hp} {p : Addr} (h : H p = none) (o : HO) : Same H (upd H p o) := fun b u q => by rw [upd_ne (ne_of_none q h)]; exact q
/-- a tuple of two ints stands at p -/
def Pr (H : Hp) (p : Addr) (x y : Int) : Prop := H p = some (.tup [.int x, .int y])
theorem Pr.sq {K : PySem.W.Frag} {H : Hp} {p : Addr} {x y : Int} (h : Pr H p x y) : SqT K H p [.int x, .int y] := SqT.of h
theorem Pr.new {H : Hp} {p : Addr} {x y : Int} : Pr (upd H p (.tup [.int x, .int y])) p x y := upd_same

/-! ### the law's own draws -/
def cellA (ns : List Int) (k : Nat) : Int := ns.getD k (2 * (k : Int) + 1)
theorem cellA_in {ns : List Int} {k : Nat} (h : k < ns.length) : cellA ns k = ns[k] := by
  unfold cellA
  rw [List.getD_eq_getElem?_getD, List.getElem?_eq_getElem h]
  rfl
theorem cellA_out {ns : List Int} {k : Nat} (h : ns.length ≤ k) : cellA ns k = 2 * (k : Int) + 1 := by
  unfold cellA
  rw [List.getD_eq_getElem?_getD, List.getElem?_eq_none h]
  rfl
def mixed (c k : Int) : Int := if c % 2 = 0 ∧ 10 ^ 18 < c then c / 2 else ((c / 2) % 10 ^ 60 + k * k) * 6364136223846793013 + (k + 1) * 1442695040888963407
def signed (n : Int) : Int := if n % 2 = 0 then n / 2 else -1 - n / 2
end L3

namespace L3
open PySem PySem.Spec PyProof.Rows L2 Ra
end L3

namespace L3
open PySem PySem.Spec PyProof.Rows L2 Ra
/-! ### a list comprehension with one clause and no test -/
/-- the cells that a block takes from around it -/
def clo (sc : Scope) (env : Env) : List (Str × Addr) := ((sc.names.filter fun y => y.2 == .free).map fun y => (y.1, (env.cells.lookup y.1).getD 0)).reverse
theorem clo_in {sc : Scope} {env : Env} {y : Str} {c : Addr} (h : (clo sc env).lookup y = some c) : (y, NameKind.free) ∈ sc.names ∧ c = (env.cells.lookup y).getD 0 := by
  have m : (y, c) ∈ clo sc env := PySem.mem_of_lookup h
  unfold clo at m
  rw [List.mem_reverse, List.mem_map] at m
  obtain ⟨⟨n, k⟩, hm, e⟩ := m
  rw [List.mem_filter] at hm
  have hk : k = .free := by simpa using hm.2
  subst hk
  cases e
  exact ⟨hm.1, rfl⟩
theorem lookup_some_of_mem {α : Type} {l : List (Str × α)} {y : Str} {c : α} (h : (y, c) ∈ l) : ∃ c', l.lookup y = some c' := by
  induction l with
  | nil => cases h
  | cons p r ih =>
    obtain ⟨n, v⟩ := p
    by_cases e : y = n
    · subst e
      exact ⟨v, by simp⟩
    · have hb : (y == n) = false := by simpa using e
      rw [List.lookup_cons, hb]
      rcases List.mem_cons.mp h with z | z
      · cases z
        exact absurd rfl e
      · exact ih z
theorem clo_has {sc : Scope} {env : Env} {y : Str} (h : (y, NameKind.free) ∈ sc.names) : ∃ c, (clo sc env).lookup y = some c := by
  refine lookup_some_of_mem (c := (env.cells.lookup y).getD 0) ?_
  unfold clo
  rw [List.mem_reverse, List.mem_map]
  exact ⟨(y, .free), List.mem_filter.mpr ⟨h, by simp⟩, rfl⟩
theorem closure_aux {env : Env} : ∀ (ns : List (Str × NameKind)) (cs : List (Str × Addr)), (∀ y ∈ ns, y.2 = .free → ∃ c, env.cells.lookup y.1 = some c) →
    (forIn ns cs fun x r => (match x with | (name, kind) => if kind == .free then do let c ← cellOf env name; pure (ForInStep.yield ((name, c) :: r)) else pure (ForInStep.yield r) : Sem (ForInStep (List (Str × Addr))))) =
      pure (((ns.filter fun y => y.2 == .free).map fun y => (y.1, (env.cells.lookup y.1).getD 0)).reverse ++ cs)
  | [], cs, _ => rfl
  | (n, k) :: r, cs, h => by
    have hr : ∀ y ∈ r, y.2 = .free → ∃ c, env.cells.lookup y.1 = some c := fun y hy => h y (List.mem_cons_of_mem _ hy)
    rw [List.forIn_cons]
    by_cases hk : k = .free
    · subst hk
      obtain ⟨c, hc⟩ := h (n, .free) List.mem_cons_self rfl
      have e : cellOf env n = pure c := by unfold cellOf; rw [hc]
      have e2 : ((n, NameKind.free) :: r).filter (fun y => y.2 == .free) = (n, .free) :: r.filter fun y => y.2 == .free := by simp
      simp only [beq_self_eq_true, if_true, e, pure_bind]
      rw [closure_aux r _ hr, e2]
      simp [hc]
    · have hb : (k == NameKind.free) = false := by simpa using hk
      have e2 : ((n, k) :: r).filter (fun y => y.2 == .free) = r.filter fun y => y.2 == .free := by simp [hk]
      simp only [hb, Bool.false_eq_true, if_false, pure_bind]
      rw [closure_aux r _ hr, e2]
theorem closure_of {sc : Scope} {env : Env} (h : ∀ y ∈ sc.names, y.2 = .free → ∃ c, env.cells.lookup y.1 = some c) : closureFor sc env = pure (clo sc env) := by
  have q := closure_aux sc.names [] h
  rw [List.append_nil] at q
  unfold closureFor clo
  simp only [pure_bind, bind_pure]
  exact q
theorem relabel_lookup {sc : Scope} {env : Env} {y : Str} {k : NameKind} (h : sc.names.lookup y = some k) :
    (relabel sc env).names.lookup y = some (if (k == .free && env.scope.kind == .function && env.kindOf y == some .cell) then .cell else k) := by
  unfold relabel
  show (sc.names.map _).lookup y = _
  generalize sc.names = ns at h
  induction ns with
  | nil => cases h
  | cons p r ih =>
    obtain ⟨n, v⟩ := p
    rw [List.map_cons]
    show List.lookup y ((if (v == .free && env.scope.kind == .function && env.kindOf n == some .cell) = true then (n, NameKind.cell) else (n, v)) :: r.map _) = _
    by_cases e : y = n
    · subst e
      have ev : v = k := by simpa using h
      subst ev
      by_cases c : (v == .free && env.scope.kind == .function && env.kindOf y == some .cell) = true
      · rw [if_pos c, if_pos c]
        simp
      · rw [if_neg c, if_neg c]
        simp
    · have hb : (y == n) = false := by simpa using e
      have h' : r.lookup y = some k := by
        rw [List.lookup_cons, hb] at h
        exact h
      by_cases c : (v == .free && env.scope.kind == .function && env.kindOf n == some .cell) = true
      · rw [if_pos c]
        simp only [List.lookup_cons, hb]
        exact ih h'
      · rw [if_neg c]
        simp only [List.lookup_cons, hb]
        exact ih h'
theorem relabel_none {sc : Scope} {env : Env} {y : Str} (h : sc.names.lookup y = none) : (relabel sc env).names.lookup y = none := by
  unfold relabel
  show (sc.names.map _).lookup y = _
  generalize sc.names = ns at h
  induction ns with
  | nil => rfl
  | cons p r ih =>
    obtain ⟨n, v⟩ := p
    rw [List.map_cons]
    show List.lookup y ((if (v == .free && env.scope.kind == .function && env.kindOf n == some .cell) = true then (n, NameKind.cell) else (n, v)) :: r.map _) = _
    by_cases e : y = n
    · subst e
      simp at h
    · have hb : (y == n) = false := by simpa using e
      have h' : r.lookup y = none := by
        rw [List.lookup_cons, hb] at h
        exact h
      by_cases c : (v == .free && env.scope.kind == .function && env.kindOf n == some .cell) = true
      · rw [if_pos c]
        simp only [List.lookup_cons, hb]
        exact ih h'
      · rw [if_neg c]
        simp only [List.lookup_cons, hb]
        exact ih h'
/-- what is asked of the two scopes -/
structure CompOk (fsc csc : Scope) (x : Str) (js : List Nat) (N N' : List Str) : Prop where
  eqN : N' = x :: js.map fun j => N.getD j x
  nd : N'.Nodup
  fr : ∀ y ∈ csc.names, y.2 = .free → fsc.names.lookup y.1 = some .cell
  cell : ∀ y ∈ csc.names, y.2 ≠ .cell
  kind : csc.kind = .function
  nm : ∀ y ∈ csc.names, y.2 = .local → csc.names.lookup y.1 = some .local
  xl : csc.names.lookup x = some .local
  js : ∀ j ∈ js, j < N.length ∧ csc.names.lookup (N.getD j x) = some .free
/-- the block's context -/
def blk (X : Cx) (csc : Scope) (N' : List Str) (s₀ : Shared) (H₀ : Hp) (C : Addr) (ex : List Addr) : Cx :=
  { X with N := N', s₀ := s₀, H₀ := H₀, env := compEnvC csc (clo csc X.env) C X.env, outer := X.stack, stack := X.stack, ex := ex, fn := fun _ => false, pn := [], xe := fun _ _ => False }
/-- the reading, from the iterator on: W by the turn, a measure, what was gathered -/
def CompAt (J : It) (te : Shared → Hp → Addr → List Addr → TE) (js : List Nat) (σ : L2.St) (Q : VK) (H1 : Hp) : Prop := ∀ D, H1 D = none → ∃ W : Nat → Nat → List V → Hp → Prop, (∃ m, W 0 m [] (upd H1 D (.lst []))) ∧
  ∀ i m ys H, W i m ys H → H D = some (.lst ys) ∧ ((J.stop i H ∧ Q (.ref D) H) ∨ (J.go i H ∧ ∀ x H', J.yld i H x H' → ∀ s₀ H₀ C ex, te s₀ H₀ C ex (some x :: js.map fun j => (σ[j]?).join) H' fun y H2 =>
    H2 D = some (.lst ys) ∧ ys.length < sizeLine ∧ ∃ m', m' < m ∧ W (i + 1) m' (ys ++ [y]) (upd H2 D (.lst (ys ++ [y])))))
def tComp (wi : TI) (te : Shared → Hp → Addr → List Addr → TE) (js : List Nat) : TE := fun σ H Q => wi σ H fun J H1 => CompAt J te js σ Q H1
/-- where an address that is nobody's changes -/
theorem inv_but {X : Cx} {pins : List (Addr × Obj)} {σ : L2.St} {H : Hp} {s : Shared} {C : Addr} {h7 : Heap} (I : Inv X pins σ H s) (f : FpOk X pins H C) (sb : Heap.SameBut C s.heap h7) : Inv X pins σ H { s with heap := h7 } := by
  obtain ⟨g0, g1, g2, g3, g4, g5⟩ := f
  have hne : ∀ {b : Addr}, b ∉ [C] → b ≠ C := fun h z => h (by rw [z]; exact List.mem_cons_self)
  refine I.call' (ch := [C]) (H' := H) rfl ⟨fun b o e _ _ hx => (sb.2 b (hne hx)).trans e, fun b o e _ _ hx => ⟨o.slots, (sb.2 b (hne hx)).trans e⟩, fun _ _ _ n _ => n, fun b o e hx => ⟨o, (sb.2 b (hne hx)).trans e⟩, fun _ _ q => q, fun _ _ _ q => q, fun _ ps q => ⟨#[], by rw [Array.append_empty]; exact q⟩⟩ ?_ I.bare fun b hb => ?_
  · intro b ob e
    refine (I.hok b ob e).stay (fun c w' hcc q => (sb.2 c ?_).trans q) (fun _ q => q) fun _ _ q => q
    rintro rfl
    rcases hcc with rfl | hcc
    · rw [g0] at e; cases e
    · rw [g0] at hcc; cases hcc
  · have e : b = C := by simpa using hb
    subst e
    exact ⟨g3, g1, g4, g5⟩
theorem comp_core {X : Cx} {elt iter : Expr} {x : Str} {px pos pos' : Pos} {csc : Scope} {wi : TI} {te : Shared → Hp → Addr → List Addr → TE} (js : List Nat) {N' : List Str} {fsc : Scope} {N : List Str} (ok : CompOk fsc csc x js N N') (hi : PI X (.Name x px) iter wi)
    (he : ∀ s₀ H₀ C ex, PE (blk X csc N' s₀ H₀ C ex) elt (te s₀ H₀ C ex)) (hc : X.calm = true) (hsc : X.env.scope = fsc) (hXN : X.N = N) (hs : ∀ x, foldedSetIterable iter X.env x = pure x)
    (use : Option (Value → Sem Unit)) (R : Value → Shared → Prop) {pins : List (Addr × Obj)} {s : Shared} {σ : L2.St} {H : Hp} {Q : VK} (I : Inv X pins σ H s) (h : tComp wi te js σ H Q)
    (hfin : ∀ (D C : Addr) (s6 : Shared) (H5 : Hp) (m6 : Str → Option Value) (r : Flow), Inv X pins σ H5 s6 → FpOk X pins H5 C → s6.heap.Ns C m6 → Q (.ref D) H5 → compPost (model X.prog X.w) X.A X.xe use R (.ref D) C (.ok r) s6) :
    wpAny (model X.prog X.w) X.A (comprehension (.ListComp elt [⟨.Name x px, iter, [], 0⟩] csc pos) csc X.env pos' (newList []) false (eval iter X.env) use) R X.xe s := by
  have hkX : X.env.scope.kind = .function := I.ok.kind
  have hfree : ∀ y ∈ csc.names, y.2 = .free → ∃ c, X.env.cells.lookup y.1 = some c := fun y hy hk => I.ok.has y.1 (.inl (by show X.env.scope.names.lookup y.1 = _; rw [hsc]; exact ok.fr y hy hk))
  have hcl : ∀ y c, (clo csc X.env).lookup y = some c → X.env.cells.lookup y = some c := fun y c e => by
    obtain ⟨m, e2⟩ := clo_in e
    obtain ⟨c', e3⟩ := hfree _ m rfl
    rw [e3] at e2
    rw [e3, e2]
    rfl
  refine wpAny_comprehension_free (use := use) rfl hs (closure_of hfree) ok.kind ok.nm ?_
  refine thn (hi pins s σ H _ I h) fun v s1 h1 => thn h1 fun itv s2 h2 => ?_
  obtain ⟨it, fp, tn, J, H2, e, I2, T, st2, f2, hw⟩ := h2
  subst e
  have hD : H2 s2.heap.objs.size = none := I2.hok.fresh (Nat.le_refl _)
  obtain ⟨W, ⟨m0, w0⟩, turn⟩ := hw _ hD
  refine wpAny_newObj_type ?_ (by show 0 ≤ sizeLine; decide)
  have I3 : Inv X pins σ (upd H2 s2.heap.objs.size (.lst [])) { s2 with heap := s2.heap.push { cls := .type "list", data := .seq ([] : List Value).toArray } } := I2.lnew (t' := s2.toks) .nil (by show 0 ≤ sizeLine; decide)
  generalize hs3 : ({ s2 with heap := s2.heap.push { cls := .type "list", data := .seq ([] : List Value).toArray } } : Shared) = s3 at I3 ⊢
  have hsz : s3.heap.objs.size = s2.heap.objs.size + 1 := by rw [← hs3, Heap.size_push]
  generalize hDe : s2.heap.objs.size = D at *
  have tn3 : tn 0 s3.heap := T.keep 0 s2.heap _ st2 fun b hb o e => by rw [← hs3]; exact Heap.get?_push_of_some _ e
  have fpD : ∀ b ∈ fp, b ≠ D := fun b hb z => by
    obtain ⟨o, e, _⟩ := T.obj 0 _ st2 b hb
    rw [z, ← hDe] at e
    exact absurd (Heap.lt_size e) (Nat.lt_irrefl _)
  have f3 : ∀ b ∈ fp, upd H2 D (.lst []) b = none := fun b hb => by rw [upd_ne (fpD b hb)]; exact (f2 b hb).1
  refine wpAny_newFunctionEnv ok.cell (by intro y hy; simp at hy) (fun h4 hns hsb => ?_) ok.kind
  generalize hCe : s3.heap.objs.size = C at *
  have ltC : ∀ b o, s3.heap.get? b = some o → b < C := fun b o e => by
    rw [← hCe]
    exact Heap.lt_size e
  have keep4 : ∀ b o, s3.heap.get? b = some o → h4.get? b = some o := fun b o e => by
    rw [hsb.2 b (Nat.ne_of_lt (ltC b o e))]
    exact Heap.get?_push_of_some _ e
  have Xok : (blk X csc N' s3 (upd H2 D (.lst [])) C fp).Ok := by
    refine ⟨I3.ok.mod, ?_, I3.ok.glob, I3.ok.blt, ?_, fun y z c h1 h2 => I3.ok.inj y z c (hcl y c h1) (hcl z c h2), fun y hy => ?_, fun y c h1 _ => ?_, I3.ok.hd, I3.ok.frames, .inl rfl, fun b hb => ?_, I3.bs, ?_, fun b o e hb => ?_, fun b hb hz => ?_, I3.stack, I3.stkFree⟩
    · exact ok.kind
    · exact Nat.le_of_eq hCe
    · have hy' : (relabel csc X.env).names.lookup y = some .cell ∨ (relabel csc X.env).names.lookup y = some .free := hy
      cases hk : csc.names.lookup y with
      | none =>
        rw [relabel_none hk] at hy'
        rcases hy' with z | z <;> cases z
      | some k =>
        have hm : (y, k) ∈ csc.names := PySem.mem_of_lookup hk
        by_cases hkf : k = .free
        · subst hkf
          exact clo_has hm
        · have hb : (k == NameKind.free) = false := by simpa using hkf
          rw [relabel_lookup hk] at hy'
          simp only [hb, Bool.false_and, Bool.false_eq_true, if_false] at hy'
          rcases hy' with z | z
          · exact absurd (Option.some.inj z) (ok.cell _ hm)
          · exact absurd (Option.some.inj z) hkf
    · exact absurd (show false = true from h1) Bool.false_ne_true
    · obtain ⟨g0, g1, g2, g3, g4, g5⟩ := f2 b hb
      refine ⟨fun z => ?_, fun y c e => g4 y c (hcl y c e)⟩
      obtain ⟨o, e, _⟩ := T.obj 0 _ tn3 b hb
      have z' : b = C := z
      have l := ltC b o e
      rw [z'] at l
      exact absurd l (Nat.lt_irrefl _)
    · exact Nat.le_trans I3.ok.bsz I3.sz
    · obtain ⟨g0, g1, g2, g3, g4, g5⟩ := f2 b hb
      rcases g3 with z | z
      · exact I3.ok.noex b o e z
      · exact absurd (Nat.lt_of_lt_of_le (Heap.lt_size e) (Nat.le_trans I3.ok.bsz z)) (Nat.lt_irrefl _)
    · obtain ⟨g0, g1, g2, g3, g4, g5⟩ := f2 b hb
      rcases List.mem_cons.mp (I3.stkSub b hz) with z | z
      · exact g1 z
      · exact g2 z
  have hfreeC : H2 C = none ∧ upd H2 D (.lst []) C = none := by
    have q : upd H2 D (.lst []) C = none := I3.hok.fresh (Nat.le_of_eq hCe)
    refine ⟨?_, q⟩
    rw [upd_ne (by rw [hsz]; exact Nat.succ_ne_self D)] at q
    exact q
  have I4 : Inv (blk X csc N' s3 (upd H2 D (.lst [])) C fp) [] (none :: js.map fun j => (σ[j]?).join) (upd H2 D (.lst [])) { s3 with heap := h4, toks := s3.toks + ([] : List (Str × Value)).length } := by
    refine ⟨Xok, rfl, I3.bare, Un.kept keep4, ⟨_, hns, fun i y v h1 h2 h3 => ?_⟩, fun y c e => ?_, hfreeC.2, fun y c e => I3.freeC y c (hcl y c e), fun p hp => absurd (show p ∈ ([] : List (Addr × Obj)) from hp) (by simp), I3.hok.kept keep4, ?_⟩
    · have h1' : (x :: js.map fun j => N.getD j x)[i]? = some y := by rw [← ok.eqN]; exact h1
      cases i with
      | zero => cases h2
      | succ i =>
        rw [List.getElem?_cons_succ, List.getElem?_map] at h1' h2
        cases ej : js[i]? with
        | none => rw [ej] at h2; cases h2
        | some j =>
          rw [ej] at h1' h2
          obtain ⟨jl, jf⟩ := ok.js j (List.mem_of_getElem? ej)
          have ey : N.getD j x = y := Option.some.inj h1'
          have ev : (σ[j]?).join = some v := Option.some.inj h2
          have ev' : σ[j]? = some (some v) := by
            cases q : σ[j]? with
            | none => rw [q] at ev; cases ev
            | some o => rw [q] at ev; rw [show o = some v from ev]
          have eN : X.N[j]? = some y := by rw [hXN, ← ey, List.getD_eq_getElem?_getD, List.getElem?_eq_getElem jl]; rfl
          rw [ey] at jf
          have kX : X.env.scope.names.lookup y = some .cell := by rw [hsc]; exact ok.fr (y, .free) (PySem.mem_of_lookup jf) rfl
          obtain ⟨m3, n3, l3⟩ := I3.loc
          obtain ⟨u, ru, lk⟩ := l3 j y v eN ev' (.inr (.inl kX))
          refine ⟨u, ru, .inr ⟨?_, ?_⟩⟩
          · left
            show (relabel csc X.env).names.lookup y = some .cell
            rw [relabel_lookup jf]
            have k2 : X.env.kindOf y = some .cell := kX
            rw [hkX, k2]
            rfl
          · rcases lk with ⟨z, _⟩ | ⟨_, c, hc1, hc2⟩
            · have z' : X.env.scope.names.lookup y = some .local := z
              rw [kX] at z'
              cases z'
            · obtain ⟨c', e'⟩ := clo_has (env := X.env) (PySem.mem_of_lookup jf)
              have : c' = c := by
                have q := hcl y c' e'
                rw [hc1] at q
                exact (Option.some.inj q).symm
              subst this
              obtain ⟨oc, ho, hd⟩ := hc2
              exact ⟨c', e', oc, keep4 _ _ ho, hd⟩
    · obtain ⟨v, oc, ho, hd⟩ := I3.cell y c (hcl y c e)
      exact ⟨v, oc, keep4 _ _ ho, hd⟩
    · show (none :: js.map _).length = N'.length
      rw [ok.eqN]
      simp
  have stat : ∀ {H' : Hp}, (∀ b ∈ fp, H' b = none) → ∀ b ∈ fp, FpOk (blk X csc N' s3 (upd H2 D (.lst [])) C fp) [] H' b := fun hn b hb => by
    obtain ⟨g0, g1, g2, g3, g4, g5⟩ := f2 b hb
    exact ⟨hn b hb, (Xok.exf b hb).1, Xok.exfs b hb, .inl hb, (Xok.exf b hb).2, fun p hp => absurd (show p ∈ ([] : List (Addr × Obj)) from hp) (by simp)⟩
  have loop : ∀ s' : Shared, (∃ v0 : Option V, Inv (blk X csc N' s3 (upd H2 D (.lst [])) C fp) [] (v0 :: js.map fun j => (σ[j]?).join) (upd H2 D (.lst [])) s') → tn 0 s'.heap →
      codeAny (model X.prog X.w) X.A (.compLoop (.ListComp elt [⟨.Name x px, iter, [], 0⟩] csc pos) 0 (.ref it) (.ref D) (compEnvC csc (clo csc X.env) C X.env)) (compPost (model X.prog X.w) X.A X.xe use R (.ref D) C) s' := by
    rintro s' ⟨v0, I'⟩ t0
    refine codeAny_compLoop_list (fun m s => ∃ i ys v1 H', Inv (blk X csc N' s3 (upd H2 D (.lst [])) C fp) [] (v1 :: js.map fun j => (σ[j]?).join) H' s ∧ tn i s.heap ∧ (∀ b ∈ fp, H' b = none) ∧ W i m ys H') ?_ m0 ⟨0, [], v0, _, I', t0, f3, w0⟩
    rintro m s5 ⟨i, ys, v1, H5, I5, t5, fr5, w5⟩
    obtain ⟨hDl, tt⟩ := turn i m ys H5 w5
    rcases tt with ⟨stop, qn⟩ | ⟨go, step⟩
    · refine thn (T.done (blk X csc N' s3 (upd H2 D (.lst [])) C fp) rfl rfl rfl hc i [] s5 _ H5 _ I5 (stat fr5) t5 stop) fun r s6 ⟨hr, I6⟩ => ?_
      subst hr
      obtain ⟨m6, n6, _⟩ := I6.loc
      have I7 : Inv X pins σ H5 s6 := I3.call' (s' := s6) I6.os I6.base I6.hok I6.bare fun b hb => by
        obtain ⟨g0, g1, g2, g3, g4, g5⟩ := f2 b hb
        exact ⟨g3, g1, g4, g5⟩
      exact hfin D C s6 H5 m6 _ I7 (I3.fpOk (Nat.le_of_eq hCe) I6.free) n6 qn
    · refine thn (T.item (blk X csc N' s3 (upd H2 D (.lst [])) C fp) rfl rfl rfl hc i [] s5 _ H5 _ I5 (stat fr5) t5 go) fun r s6 ⟨u, hr, h6⟩ => ?_
      subst hr
      have key : ∀ s7 : Shared, (∃ xv H6, Inv (blk X csc N' s3 (upd H2 D (.lst [])) C fp) [] (v1 :: js.map fun j => (σ[j]?).join) H6 s7 ∧ RelV xv u ∧ J.yld i H5 xv H6 ∧ tn (i + 1) s7.heap ∧ ∀ b ∈ fp, H6 b = none) →
          wpAny (model X.prog X.w) X.A (assign (.Name x px) (compEnvC csc (clo csc X.env) C X.env) u) (fun _ s₂ => wpAny (model X.prog X.w) X.A (eval elt (compEnvC csc (clo csc X.env) C X.env)) (fun y s₃ =>
            wpAny (model X.prog X.w) X.A (call (.builtin "list.append") [.ref D, y]) (fun _ s₄ => ∃ m', m' < m ∧ ∃ i ys v1 H', Inv (blk X csc N' s3 (upd H2 D (.lst [])) C fp) [] (v1 :: js.map fun j => (σ[j]?).join) H' s₄ ∧ tn i s₄.heap ∧ (∀ b ∈ fp, H' b = none) ∧ W i m' ys H')
              (notedBy (model X.prog X.w) X.A (compEnvC csc (clo csc X.env) C X.env) fun e s' => compPost (model X.prog X.w) X.A X.xe use R (.ref D) C (.error e) s') s₃)
              (notedBy (model X.prog X.w) X.A (compEnvC csc (clo csc X.env) C X.env) fun e s' => compPost (model X.prog X.w) X.A X.xe use R (.ref D) C (.error e) s') s₂)
            (notedBy (model X.prog X.w) X.A (compEnvC csc (clo csc X.env) C X.env) fun e s' => compPost (model X.prog X.w) X.A X.xe use R (.ref D) C (.error e) s') s7 := by
        rintro s7 ⟨xv, H6, I6, rx, y6, t6, fr6⟩
        have I6' := I6.pinned (stat fr6) (T.obj _ _ t6)
        refine wpAny_assign_Name (store_ok (X := blk X csc N' s3 (upd H2 D (.lst [])) C fp) (i := 0) I6' ok.nd (by show N'[0]? = some x; rw [ok.eqN]; rfl) (.inl (by
          show (relabel csc X.env).names.lookup x = some .local
          rw [relabel_lookup ok.xl]
          rfl)) rx (fun s8 I8 => ?_) (.inr (by
          show (relabel csc X.env).names.lookup x = some .local
          rw [relabel_lookup ok.xl]
          rfl)))
        refine wpAny_mono (he s3 (upd H2 D (.lst [])) C fp _ s8 _ H6 _ I8 (step xv H6 y6 _ _ _ _)) (fun yv s9 h9 => ?_) (fun _ _ z => False.elim z)
        obtain ⟨y, H9, I9, ry, hD9, hlt, m', hm', w9⟩ := h9
        refine wpAny_mono (mt_append (X := blk X csc N' s3 (upd H2 D (.lst [])) C fp) _ s9 _ H9 (.ref D) [y] (.ref D) [yv] (fun _ H10 => H10 = upd H9 D (.lst (ys ++ [y]))) I9 rfl (.cons ry .nil) ⟨D, ys, y, rfl, rfl, hD9, hlt, rfl⟩) (fun v10 s10 h10 => ?_) (fun _ _ z => False.elim z)
        obtain ⟨v11, H10, I10, r10, e10⟩ := h10
        subst e10
        refine ⟨m', hm', i + 1, ys ++ [y], some xv, _, Inv.unpinned (pins := []) I10, T.keep _ _ _ t6 fun b hb o e => (I10.pin (b, o) (List.mem_append_right _ (List.mem_append_right _ (mem_pinsAt hb e)))).1, fun b hb => ?_, w9⟩
        obtain ⟨o, e, d⟩ := T.obj _ _ t6 b hb
        exact (I10.pin (b, o) (List.mem_append_right _ (List.mem_append_right _ (mem_pinsAt hb e)))).2.1
      have q := wpAny_bind (f := fun _ => assign (.Name x px) (compEnvC csc (clo csc X.env) C X.env) u) (thn h6 fun _ s7 p7 => key s7 p7)
      exact q
  have tn4 : tn 0 h4 := T.keep 0 _ _ tn3 fun b _ o e => keep4 b o e
  exact codeAny_compStart_list (loop _ ⟨none, I4⟩ tn4) (T.self X.A 0 _ _ _ tn4 (loop _ ⟨none, I4⟩ tn4))
theorem pe_comp {X : Cx} {elt iter : Expr} {x : Str} {px pos : Pos} {csc : Scope} {wi : TI} {te : Shared → Hp → Addr → List Addr → TE} (js : List Nat) {N' : List Str} {fsc : Scope} {N : List Str} (ok : CompOk fsc csc x js N N') (hi : PI X (.Name x px) iter wi)
    (he : ∀ s₀ H₀ C ex, PE (blk X csc N' s₀ H₀ C ex) elt (te s₀ H₀ C ex)) (hc : X.calm = true := by rfl) (hsc : X.env.scope = fsc := by rfl) (hXN : X.N = N := by rfl) (hs : ∀ x, foldedSetIterable iter X.env x = pure x := by intro _; rfl) :
    PE X (.ListComp elt [⟨.Name x px, iter, [], 0⟩] csc pos) (tComp wi te js) := by
  intro pins s σ H Q I h
  rw [eval_ListComp]
  exact comp_core js ok hi he hc hsc hXN hs none _ I h fun D C s6 H5 m6 _ I6 f6 n6 q => ⟨m6, n6, fun h7 sb => ⟨.ref D, H5, inv_but I6 f6 sb, rfl, q⟩⟩
end L3

namespace L3
open PySem PySem.Spec PyProof.Rows L2 Ra
/-! ### a list comprehension with one clause, any target, and tests -/
theorem compLoop_gen {prog : Program} {w : World} {A : Around} {R : Result → Shared → Prop} {s : Shared} {elt target iter : Expr} {ifs : List Expr} {scope : Scope} {pos : Pos} {it acc : Value} {env : Env} (I : Nat → Shared → Prop)
    (turn : ∀ n s, I n s → wpAny (model prog w) A (pyNext it) (fun r s₁ => match r with
      | none => R (.ok .next) s₁
      | some v => wpAny (model prog w) A (letOwnedTupleGo target it v) (fun _ s₁' => wpAny (model prog w) A (assign target env v) (fun _ s₂ =>
          wpAny (model prog w) A (forIn ifs true fun c r => if r = true then do let ok ← isTrue c env (eval c env); pure (ForInStep.yield ok) else pure (ForInStep.yield r)) (fun ok s₃ =>
            if ok = true then wpAny (model prog w) A (eval elt env) (fun x s₄ =>
              wpAny (model prog w) A (call (.builtin "list.append") [acc, x]) (fun _ s₅ => ∃ m, m < n ∧ I m s₅) (notedBy (model prog w) A env fun e s' => R (.error e) s') s₄) (notedBy (model prog w) A env fun e s' => R (.error e) s') s₃
            else ∃ m, m < n ∧ I m s₃) (notedBy (model prog w) A env fun e s' => R (.error e) s') s₂) (notedBy (model prog w) A env fun e s' => R (.error e) s') s₁') (notedBy (model prog w) A env fun e s' => R (.error e) s') s₁) (notedBy (model prog w) A env fun e s' => R (.error e) s') s)
    (n : Nat) (h : I n s) : codeAny (model prog w) A (.compLoop (.ListComp elt [⟨target, iter, ifs, 0⟩] scope pos) 0 it acc env) R s := by
  refine codeAny_loop rfl I (fun n s hI => ?_) n h
  show wpAny _ A ((compTurn (.ListComp elt [⟨target, iter, ifs, 0⟩] scope pos) 0 it acc env).onRaise (fun x => do noteFrame x env; theTreesLotGoes x)) _ _ s
  refine wpAny_noted ?_
  rw [compTurn_list]
  refine wpAny_bind (wpAny_standAt (wpAny_bind (wpAny_mono (turn n s hI) (fun r s₁ h₁ => ?_) fun _ _ h' => h')))
  cases r with
  | none => exact wpAny_pure h₁
  | some v =>
    refine wpAny_bind (wpAny_mono h₁ (fun _ s₁' h₁' => ?_) fun _ _ h' => h')
    refine wpAny_bind (wpAny_mono h₁' (fun _ s₂ h₂ => wpAny_bind (wpAny_mono h₂ (fun ok s₃ h₃ => ?_) fun _ _ h' => h')) fun _ _ h' => h')
    cases ok with
    | false => exact wpAny_pure ⟨rfl, h₃⟩
    | true =>
      exact wpAny_bind (wpAny_bind (wpAny_mono h₃ (fun x s₄ h₄ => wpAny_bind (wpAny_mono h₄ (fun _ s₅ h₅ => wpAny_pure (wpAny_pure ⟨rfl, h₅⟩)) fun _ _ h' => h')) fun _ _ h' => h'))
/-- the tests of a clause -/
def PTs (X : Cx) (ifs : List Expr) (t : TT) : Prop :=
  ∀ (pins : List (Addr × Obj)) (s : Shared) (σ : L2.St) (H : Hp) (Q : Bool → Hp → Prop), Inv X pins σ H s → t σ H Q →
    wpAny (model X.prog X.w) X.A (forIn ifs true fun c r => if r = true then do let ok ← isTrue c X.env (eval c X.env); pure (ForInStep.yield ok) else pure (ForInStep.yield r)) (TP X pins σ Q) X.xe s
def tNoTest : TT := fun _ H Q => Q true H
theorem pts_one {X : Cx} {c : Expr} {t : TT} (h : PT X c t) : PTs X [c] t := fun pins s σ H Q I hw => wpAny_tests_one (h pins s σ H Q I hw)
structure CompOkG (fsc csc : Scope) (xs : List Str) (js : List Nat) (N N' : List Str) : Prop where
  eqN : N' = xs ++ js.map fun j => N.getD j ""
  fr : ∀ y ∈ csc.names, y.2 = .free → fsc.names.lookup y.1 = some .cell
  cell : ∀ y ∈ csc.names, y.2 ≠ .cell
  kind : csc.kind = .function
  nm : ∀ y ∈ csc.names, y.2 = .local → csc.names.lookup y.1 = some .local
  js : ∀ j ∈ js, j < N.length ∧ csc.names.lookup (N.getD j "") = some .free
def CompAtG (J : It) (tg : TG) (tt : Shared → Hp → Addr → List Addr → TT) (te : Shared → Hp → Addr → List Addr → TE) (nx : Nat) (js : List Nat) (σ : L2.St) (Q : VK) (H1 : Hp) : Prop := ∀ D, H1 D = none → ∃ W : Nat → Nat → List V → Hp → Prop, (∃ m, W 0 m [] (upd H1 D (.lst []))) ∧
  ∀ i m ys H, W i m ys H → H D = some (.lst ys) ∧ ((J.stop i H ∧ Q (.ref D) H) ∨ (J.go i H ∧ ∀ x H', J.yld i H x H' → ∀ s₀ H₀ C ex (σ0 : L2.St), σ0.length = nx → tg x (σ0 ++ js.map fun j => (σ[j]?).join) H' fun σ1 H2 =>
    (∃ σ0' : L2.St, σ1 = σ0' ++ (js.map fun j => (σ[j]?).join) ∧ σ0'.length = nx) ∧ tt s₀ H₀ C ex σ1 H2 fun b H3 => if b = true then te s₀ H₀ C ex σ1 H3 fun y H4 =>
      H4 D = some (.lst ys) ∧ ys.length < sizeLine ∧ ∃ m', m' < m ∧ W (i + 1) m' (ys ++ [y]) (upd H4 D (.lst (ys ++ [y])))
    else H3 D = some (.lst ys) ∧ ∃ m', m' < m ∧ W (i + 1) m' ys H3))
def tCompG (wi : TI) (tg : TG) (tt : Shared → Hp → Addr → List Addr → TT) (te : Shared → Hp → Addr → List Addr → TE) (nx : Nat) (js : List Nat) : TE := fun σ H Q => wi σ H fun J H1 => CompAtG J tg tt te nx js σ Q H1
theorem compG_core {X : Cx} {elt iter target : Expr} {ifs : List Expr} {pos pos' : Pos} {csc : Scope} {wi : TI} {tg : TG} {tt : Shared → Hp → Addr → List Addr → TT} {te : Shared → Hp → Addr → List Addr → TE} (xs : List Str) (js : List Nat) {N' : List Str} {fsc : Scope} {N : List Str} (ok : CompOkG fsc csc xs js N N') (hi : PI X target iter wi) (hg : ∀ s₀ H₀ C ex, PG (blk X csc N' s₀ H₀ C ex) target tg) (ht : ∀ s₀ H₀ C ex, PTs (blk X csc N' s₀ H₀ C ex) ifs (tt s₀ H₀ C ex))
    (he : ∀ s₀ H₀ C ex, PE (blk X csc N' s₀ H₀ C ex) elt (te s₀ H₀ C ex)) (hc : X.calm = true) (hsc : X.env.scope = fsc) (hXN : X.N = N) (hs : ∀ x, foldedSetIterable iter X.env x = pure x)
    (use : Option (Value → Sem Unit)) (R : Value → Shared → Prop) {pins : List (Addr × Obj)} {s : Shared} {σ : L2.St} {H : Hp} {Q : VK} (I : Inv X pins σ H s) (h : tCompG wi tg tt te xs.length js σ H Q)
    (hfin : ∀ (D C : Addr) (s6 : Shared) (H5 : Hp) (m6 : Str → Option Value) (r : Flow), Inv X pins σ H5 s6 → FpOk X pins H5 C → s6.heap.Ns C m6 → Q (.ref D) H5 → compPost (model X.prog X.w) X.A X.xe use R (.ref D) C (.ok r) s6) :
    wpAny (model X.prog X.w) X.A (comprehension (.ListComp elt [⟨target, iter, ifs, 0⟩] csc pos) csc X.env pos' (newList []) false (eval iter X.env) use) R X.xe s := by
  have hkX : X.env.scope.kind = .function := I.ok.kind
  have hfree : ∀ y ∈ csc.names, y.2 = .free → ∃ c, X.env.cells.lookup y.1 = some c := fun y hy hk => I.ok.has y.1 (.inl (by show X.env.scope.names.lookup y.1 = _; rw [hsc]; exact ok.fr y hy hk))
  have hcl : ∀ y c, (clo csc X.env).lookup y = some c → X.env.cells.lookup y = some c := fun y c e => by
    obtain ⟨m, e2⟩ := clo_in e
    obtain ⟨c', e3⟩ := hfree _ m rfl
    rw [e3] at e2
    rw [e3, e2]
    rfl
  refine wpAny_comprehension_free (use := use) rfl hs (closure_of hfree) ok.kind ok.nm ?_
  refine thn (hi pins s σ H _ I h) fun v s1 h1 => thn h1 fun itv s2 h2 => ?_
  obtain ⟨it, fp, tn, J, H2, e, I2, T, st2, f2, hw⟩ := h2
  subst e
  have hD : H2 s2.heap.objs.size = none := I2.hok.fresh (Nat.le_refl _)
  obtain ⟨W, ⟨m0, w0⟩, turn⟩ := hw _ hD
  refine wpAny_newObj_type ?_ (by show 0 ≤ sizeLine; decide)
  have I3 : Inv X pins σ (upd H2 s2.heap.objs.size (.lst [])) { s2 with heap := s2.heap.push { cls := .type "list", data := .seq ([] : List Value).toArray } } := I2.lnew (t' := s2.toks) .nil (by show 0 ≤ sizeLine; decide)
  generalize hs3 : ({ s2 with heap := s2.heap.push { cls := .type "list", data := .seq ([] : List Value).toArray } } : Shared) = s3 at I3 ⊢
  have hsz : s3.heap.objs.size = s2.heap.objs.size + 1 := by rw [← hs3, Heap.size_push]
  generalize hDe : s2.heap.objs.size = D at *
  have tn3 : tn 0 s3.heap := T.keep 0 s2.heap _ st2 fun b hb o e => by rw [← hs3]; exact Heap.get?_push_of_some _ e
  have fpD : ∀ b ∈ fp, b ≠ D := fun b hb z => by
    obtain ⟨o, e, _⟩ := T.obj 0 _ st2 b hb
    rw [z, ← hDe] at e
    exact absurd (Heap.lt_size e) (Nat.lt_irrefl _)
  have f3 : ∀ b ∈ fp, upd H2 D (.lst []) b = none := fun b hb => by rw [upd_ne (fpD b hb)]; exact (f2 b hb).1
  refine wpAny_newFunctionEnv ok.cell (by intro y hy; simp at hy) (fun h4 hns hsb => ?_) ok.kind
  generalize hCe : s3.heap.objs.size = C at *
  have ltC : ∀ b o, s3.heap.get? b = some o → b < C := fun b o e => by
    rw [← hCe]
    exact Heap.lt_size e
  have keep4 : ∀ b o, s3.heap.get? b = some o → h4.get? b = some o := fun b o e => by
    rw [hsb.2 b (Nat.ne_of_lt (ltC b o e))]
    exact Heap.get?_push_of_some _ e
  have Xok : (blk X csc N' s3 (upd H2 D (.lst [])) C fp).Ok := by
    refine ⟨I3.ok.mod, ?_, I3.ok.glob, I3.ok.blt, ?_, fun y z c h1 h2 => I3.ok.inj y z c (hcl y c h1) (hcl z c h2), fun y hy => ?_, fun y c h1 _ => ?_, I3.ok.hd, I3.ok.frames, .inl rfl, fun b hb => ?_, I3.bs, ?_, fun b o e hb => ?_, fun b hb hz => ?_, I3.stack, I3.stkFree⟩
    · exact ok.kind
    · exact Nat.le_of_eq hCe
    · have hy' : (relabel csc X.env).names.lookup y = some .cell ∨ (relabel csc X.env).names.lookup y = some .free := hy
      cases hk : csc.names.lookup y with
      | none =>
        rw [relabel_none hk] at hy'
        rcases hy' with z | z <;> cases z
      | some k =>
        have hm : (y, k) ∈ csc.names := PySem.mem_of_lookup hk
        by_cases hkf : k = .free
        · subst hkf
          exact clo_has hm
        · have hb : (k == NameKind.free) = false := by simpa using hkf
          rw [relabel_lookup hk] at hy'
          simp only [hb, Bool.false_and, Bool.false_eq_true, if_false] at hy'
          rcases hy' with z | z
          · exact absurd (Option.some.inj z) (ok.cell _ hm)
          · exact absurd (Option.some.inj z) hkf
    · exact absurd (show false = true from h1) Bool.false_ne_true
    · obtain ⟨g0, g1, g2, g3, g4, g5⟩ := f2 b hb
      refine ⟨fun z => ?_, fun y c e => g4 y c (hcl y c e)⟩
      obtain ⟨o, e, _⟩ := T.obj 0 _ tn3 b hb
      have z' : b = C := z
      have l := ltC b o e
      rw [z'] at l
      exact absurd l (Nat.lt_irrefl _)
    · exact Nat.le_trans I3.ok.bsz I3.sz
    · obtain ⟨g0, g1, g2, g3, g4, g5⟩ := f2 b hb
      rcases g3 with z | z
      · exact I3.ok.noex b o e z
      · exact absurd (Nat.lt_of_lt_of_le (Heap.lt_size e) (Nat.le_trans I3.ok.bsz z)) (Nat.lt_irrefl _)
    · obtain ⟨g0, g1, g2, g3, g4, g5⟩ := f2 b hb
      rcases List.mem_cons.mp (I3.stkSub b hz) with z | z
      · exact g1 z
      · exact g2 z
  have hfreeC : H2 C = none ∧ upd H2 D (.lst []) C = none := by
    have q : upd H2 D (.lst []) C = none := I3.hok.fresh (Nat.le_of_eq hCe)
    refine ⟨?_, q⟩
    rw [upd_ne (by rw [hsz]; exact Nat.succ_ne_self D)] at q
    exact q
  have I4 : Inv (blk X csc N' s3 (upd H2 D (.lst [])) C fp) [] (List.replicate xs.length none ++ js.map fun j => (σ[j]?).join) (upd H2 D (.lst [])) { s3 with heap := h4, toks := s3.toks + ([] : List (Str × Value)).length } := by
    refine ⟨Xok, rfl, I3.bare, Un.kept keep4, ⟨_, hns, fun i y v h1 h2 h3 => ?_⟩, fun y c e => ?_, hfreeC.2, fun y c e => I3.freeC y c (hcl y c e), fun p hp => absurd (show p ∈ ([] : List (Addr × Obj)) from hp) (by simp), I3.hok.kept keep4, ?_⟩
    · have h1' : (xs ++ js.map fun j => N.getD j "")[i]? = some y := by rw [← ok.eqN]; exact h1
      by_cases hi : i < xs.length
      · rw [List.getElem?_append_left (by rw [List.length_replicate]; exact hi), List.getElem?_replicate] at h2
        rw [if_pos hi] at h2
        cases h2
      · rw [List.getElem?_append_right (by (first | lia | omega)), List.getElem?_map] at h1'
        rw [List.getElem?_append_right (by rw [List.length_replicate]; (first | lia | omega)), List.length_replicate, List.getElem?_map] at h2
        cases ej : js[i - xs.length]? with
        | none => rw [ej] at h2; cases h2
        | some j =>
          rw [ej] at h1' h2
          obtain ⟨jl, jf⟩ := ok.js j (List.mem_of_getElem? ej)
          have ey : N.getD j "" = y := Option.some.inj h1'
          have ev : (σ[j]?).join = some v := Option.some.inj h2
          have ev' : σ[j]? = some (some v) := by
            cases q : σ[j]? with
            | none => rw [q] at ev; cases ev
            | some o => rw [q] at ev; rw [show o = some v from ev]
          have eN : X.N[j]? = some y := by rw [hXN, ← ey, List.getD_eq_getElem?_getD, List.getElem?_eq_getElem jl]; rfl
          rw [ey] at jf
          have kX : X.env.scope.names.lookup y = some .cell := by rw [hsc]; exact ok.fr (y, .free) (PySem.mem_of_lookup jf) rfl
          obtain ⟨m3, n3, l3⟩ := I3.loc
          obtain ⟨u, ru, lk⟩ := l3 j y v eN ev' (.inr (.inl kX))
          refine ⟨u, ru, .inr ⟨?_, ?_⟩⟩
          · left
            show (relabel csc X.env).names.lookup y = some .cell
            rw [relabel_lookup jf]
            have k2 : X.env.kindOf y = some .cell := kX
            rw [hkX, k2]
            rfl
          · rcases lk with ⟨z, _⟩ | ⟨_, c, hc1, hc2⟩
            · have z' : X.env.scope.names.lookup y = some .local := z
              rw [kX] at z'
              cases z'
            · obtain ⟨c', e'⟩ := clo_has (env := X.env) (PySem.mem_of_lookup jf)
              have : c' = c := by
                have q := hcl y c' e'
                rw [hc1] at q
                exact (Option.some.inj q).symm
              subst this
              obtain ⟨oc, ho, hd⟩ := hc2
              exact ⟨c', e', oc, keep4 _ _ ho, hd⟩
    · obtain ⟨v, oc, ho, hd⟩ := I3.cell y c (hcl y c e)
      exact ⟨v, oc, keep4 _ _ ho, hd⟩
    · show (List.replicate xs.length none ++ js.map _).length = N'.length
      rw [ok.eqN]
      simp
  have stat : ∀ {H' : Hp}, (∀ b ∈ fp, H' b = none) → ∀ b ∈ fp, FpOk (blk X csc N' s3 (upd H2 D (.lst [])) C fp) [] H' b := fun hn b hb => by
    obtain ⟨g0, g1, g2, g3, g4, g5⟩ := f2 b hb
    exact ⟨hn b hb, (Xok.exf b hb).1, Xok.exfs b hb, .inl hb, (Xok.exf b hb).2, fun p hp => absurd (show p ∈ ([] : List (Addr × Obj)) from hp) (by simp)⟩
  have loop : ∀ s' : Shared, Inv (blk X csc N' s3 (upd H2 D (.lst [])) C fp) [] (List.replicate xs.length none ++ js.map fun j => (σ[j]?).join) (upd H2 D (.lst [])) s' → tn 0 s'.heap →
      codeAny (model X.prog X.w) X.A (.compLoop (.ListComp elt [⟨target, iter, ifs, 0⟩] csc pos) 0 (.ref it) (.ref D) (compEnvC csc (clo csc X.env) C X.env)) (compPost (model X.prog X.w) X.A X.xe use R (.ref D) C) s' := by
    rintro s' I' t0
    refine compLoop_gen (fun m s => ∃ i ys H', Inv (blk X csc N' s3 (upd H2 D (.lst [])) C fp) [] (List.replicate xs.length none ++ js.map fun j => (σ[j]?).join) H' s ∧ tn i s.heap ∧ (∀ b ∈ fp, H' b = none) ∧ W i m ys H') ?_ m0 ⟨0, [], _, I', t0, f3, w0⟩
    rintro m s5 ⟨i, ys, H5, I5, t5, fr5, w5⟩
    obtain ⟨hDl, tt'⟩ := turn i m ys H5 w5
    rcases tt' with ⟨stop, qn⟩ | ⟨go, step⟩
    · refine thn (T.done (blk X csc N' s3 (upd H2 D (.lst [])) C fp) rfl rfl rfl hc i [] s5 _ H5 _ I5 (stat fr5) t5 stop) fun r s6 ⟨hr, I6⟩ => ?_
      subst hr
      obtain ⟨m6, n6, _⟩ := I6.loc
      have I7 : Inv X pins σ H5 s6 := I3.call' (s' := s6) I6.os I6.base I6.hok I6.bare fun b hb => by
        obtain ⟨g0, g1, g2, g3, g4, g5⟩ := f2 b hb
        exact ⟨g3, g1, g4, g5⟩
      exact hfin D C s6 H5 m6 _ I7 (I3.fpOk (Nat.le_of_eq hCe) I6.free) n6 qn
    · refine thn (T.item (blk X csc N' s3 (upd H2 D (.lst [])) C fp) rfl rfl rfl hc i [] s5 _ H5 _ I5 (stat fr5) t5 go) fun r s6 ⟨u, hr, h6⟩ => ?_
      subst hr
      refine thn h6 fun _ s7 ⟨xv, H6, I6, rx, y6, t6, fr6⟩ => ?_
      have I6' := I6.pinned (stat fr6) (T.obj _ _ t6)
      -- what is kept of the iterator, the block's names forgotten
      have back : ∀ {H10 : Hp} {s10 : Shared} {σ1 σ0 : L2.St}, σ1 = σ0 ++ (js.map fun j => (σ[j]?).join) → σ0.length = xs.length → Inv (blk X csc N' s3 (upd H2 D (.lst [])) C fp) ([] ++ pinsAt fp s7.heap) σ1 H10 s10 →
          Inv (blk X csc N' s3 (upd H2 D (.lst [])) C fp) [] (List.replicate xs.length none ++ js.map fun j => (σ[j]?).join) H10 s10 ∧ tn (i + 1) s10.heap ∧ ∀ b ∈ fp, H10 b = none := by
        intro H10 s10 σ1 σ0 e1 e2 I10
        subst e1
        refine ⟨(Inv.unpinned (pins := []) I10).weak (by simp [e2]) fun k v hk => ?_, T.keep _ _ _ t6 fun b hb o e => (I10.pin (b, o) (List.mem_append_right _ (List.mem_append_right _ (mem_pinsAt hb e)))).1, fun b hb => ?_⟩
        · by_cases hk' : k < xs.length
          · rw [List.getElem?_append_left (by rw [List.length_replicate]; exact hk'), List.getElem?_replicate, if_pos hk'] at hk
            cases hk
          · rw [List.getElem?_append_right (by rw [List.length_replicate]; (first | lia | omega)), List.length_replicate] at hk
            rw [List.getElem?_append_right (by (first | lia | omega)), e2]
            exact hk
        · obtain ⟨o, e, d⟩ := T.obj _ _ t6 b hb
          exact (I10.pin (b, o) (List.mem_append_right _ (List.mem_append_right _ (mem_pinsAt hb e)))).2.1
      have st0 := step xv H6 y6 s3 (upd H2 D (.lst [])) C fp (List.replicate xs.length none) (List.length_replicate ..)
      refine wpAny_mono (hg s3 (upd H2 D (.lst [])) C fp _ s7 _ H6 xv u _ I6' rx st0) (fun _ s8 h8 => ?_) (fun _ _ z => False.elim z)
      obtain ⟨σ1, H8, I8, ⟨σ0, e1, e2⟩, q8⟩ := h8
      refine wpAny_mono (ht s3 (upd H2 D (.lst [])) C fp _ s8 σ1 H8 _ I8 q8) (fun ok' s9 h9 => ?_) (fun _ _ z => False.elim z)
      obtain ⟨H9, I9, q9⟩ := h9
      cases ok' with
      | false =>
        have q9' := q9
        rw [if_neg Bool.false_ne_true] at q9'
        obtain ⟨hD9, m', hm', w9⟩ := q9'
        show if false = true then _ else _
        rw [if_neg Bool.false_ne_true]
        obtain ⟨I10, t10, f10⟩ := back e1 e2 I9
        exact ⟨m', hm', i + 1, ys, H9, I10, t10, f10, w9⟩
      | true =>
        have q9' := q9
        rw [if_pos rfl] at q9'
        show if true = true then _ else _
        rw [if_pos rfl]
        refine wpAny_mono (he s3 (upd H2 D (.lst [])) C fp _ s9 σ1 H9 _ I9 q9') (fun yv s10 h10 => ?_) (fun _ _ z => False.elim z)
        obtain ⟨y, H10, I10, ry, hD10, hlt, m', hm', w10⟩ := h10
        refine wpAny_mono (mt_append (X := blk X csc N' s3 (upd H2 D (.lst [])) C fp) _ s10 _ H10 (.ref D) [y] (.ref D) [yv] (fun _ H11 => H11 = upd H10 D (.lst (ys ++ [y]))) I10 rfl (.cons ry .nil) ⟨D, ys, y, rfl, rfl, hD10, hlt, rfl⟩) (fun v11 s11 h11 => ?_) (fun _ _ z => False.elim z)
        obtain ⟨v12, H12, I12, r12, e12⟩ := h11
        subst e12
        obtain ⟨J1, J2, J3⟩ := back e1 e2 I12
        exact ⟨m', hm', i + 1, ys ++ [y], _, J1, J2, J3, w10⟩
  have tn4 : tn 0 h4 := T.keep 0 _ _ tn3 fun b _ o e => keep4 b o e
  exact codeAny_compStart_list (loop _ I4 tn4) (T.self X.A 0 _ _ _ tn4 (loop _ I4 tn4))
theorem pe_compG {X : Cx} {elt iter target : Expr} {ifs : List Expr} {pos : Pos} {csc : Scope} {wi : TI} {tg : TG} {tt : Shared → Hp → Addr → List Addr → TT} {te : Shared → Hp → Addr → List Addr → TE} (xs : List Str) (js : List Nat) {N' : List Str} {fsc : Scope} {N : List Str} (ok : CompOkG fsc csc xs js N N') (hi : PI X target iter wi) (hg : ∀ s₀ H₀ C ex, PG (blk X csc N' s₀ H₀ C ex) target tg) (ht : ∀ s₀ H₀ C ex, PTs (blk X csc N' s₀ H₀ C ex) ifs (tt s₀ H₀ C ex))
    (he : ∀ s₀ H₀ C ex, PE (blk X csc N' s₀ H₀ C ex) elt (te s₀ H₀ C ex)) (hc : X.calm = true := by rfl) (hsc : X.env.scope = fsc := by rfl) (hXN : X.N = N := by rfl) (hs : ∀ x, foldedSetIterable iter X.env x = pure x := by intro _; rfl) :
    PE X (.ListComp elt [⟨target, iter, ifs, 0⟩] csc pos) (tCompG wi tg tt te xs.length js) := by
  intro pins s σ H Q I h
  rw [eval_ListComp]
  exact compG_core xs js ok hi hg ht he hc hsc hXN hs none _ I h fun D C s6 H5 m6 _ I6 f6 n6 q => ⟨m6, n6, fun h7 sb => ⟨.ref D, H5, inv_but I6 f6 sb, rfl, q⟩⟩
theorem ps_setCompG {X : Cx} {elt iter target : Expr} {ifs : List Expr} {y : Str} {py pos spos : Pos} {i : Nat} {csc : Scope} {wi : TI} {tg : TG} {tt : Shared → Hp → Addr → List Addr → TT} {te : Shared → Hp → Addr → List Addr → TE} (hN : X.N.Nodup) (hi' : X.N[i]? = some y) (hy : Loc X.env.scope y)
    (xs : List Str) (js : List Nat) {N' : List Str} {fsc : Scope} {N : List Str} (ok : CompOkG fsc csc xs js N N') (hi : PI X target iter wi) (hg : ∀ s₀ H₀ C ex, PG (blk X csc N' s₀ H₀ C ex) target tg) (ht : ∀ s₀ H₀ C ex, PTs (blk X csc N' s₀ H₀ C ex) ifs (tt s₀ H₀ C ex))
    (he : ∀ s₀ H₀ C ex, PE (blk X csc N' s₀ H₀ C ex) elt (te s₀ H₀ C ex)) (hsw : swapsWith (.ListComp elt [⟨target, iter, ifs, 0⟩] csc pos) (some (.Name y py)) spos.line X.env = pure true := by rfl)
    (hc : X.calm = true := by rfl) (hsc : X.env.scope = fsc := by rfl) (hXN : X.N = N := by rfl) (hs : ∀ x, foldedSetIterable iter X.env x = pure x := by intro _; rfl)
    (hf : X.fn y = true ∨ X.env.scope.names.lookup y = some .local := by first | exact .inl rfl | exact .inr rfl | assumption) :
    PS X (.Assign [.Name y py] (.ListComp elt [⟨target, iter, ifs, 0⟩] csc pos) spos) (tAsg (tCompG wi tg tt te xs.length js) (gName i)) := by
  intro pins s σ H D I h
  rw [exec_Assign_Name_used _ _ _ _ hsw]
  refine wpAny_bind (wpAny_standAt (wpAny_bind ?_))
  show wpAny _ X.A (do let _ ← comprehension (.ListComp elt [⟨target, iter, ifs, 0⟩] csc pos) csc X.env _ (newList []) false (eval iter X.env) (some (assign (.Name y py) X.env))) _ _ s
  refine wpAny_bind (wpAny_mono (compG_core xs js ok hi hg ht he hc hsc hXN hs (some (assign (.Name y py) X.env)) (fun _ s' => SP X pins D .next s') I h ?_) (fun _ s' hq => wpAny_pure (wpAny_pure hq)) fun _ _ e => e)
  intro D' C s6 H5 m6 r I6 f6 n6 q
  show wpAny _ X.A (assign (.Name y py) X.env (.ref D')) _ _ _
  obtain ⟨o6, es, ep, ho, hd, hrest⟩ := id n6
  have Ip := I6.pinned (fp := [C]) (fun b hb => by
    have e : b = C := by simpa using hb
    subst e
    exact f6) (fun b hb => by
    have e : b = C := by simpa using hb
    subst e
    exact ⟨o6, ho, fun v z => by rw [hd] at z; cases z⟩)
  refine wpAny_assign_Name (store_ok (i := i) Ip hN hi' hy (v := .ref D') rfl (fun s7 I7 => ?_) hf)
  refine ⟨m6, n6.at fun o e => (I7.pin (C, o) (List.mem_append_right _ (List.mem_append_right _ (mem_pinsAt List.mem_cons_self e)))).1, fun h7 sb => ?_⟩
  exact ⟨_, H5, inv_but I7.unpinned f6 sb, q⟩
/-- a name of the block's own -/
theorem pg_blk {X : Cx} {csc : Scope} {N' : List Str} {s₀ : Shared} {H₀ : Hp} {C : Addr} {ex : List Addr} {i : Nat} {x : Str} {px : Pos} (nd : N'.Nodup) (hi : N'[i]? = some x) (hl : csc.names.lookup x = some .local) : PG (blk X csc N' s₀ H₀ C ex) (.Name x px) (gName i) :=
  pg_name (X := blk X csc N' s₀ H₀ C ex) nd hi (.inl (by
    show (relabel csc X.env).names.lookup x = some .local
    rw [relabel_lookup hl]
    rfl)) (.inr (by
    show (relabel csc X.env).names.lookup x = some .local
    rw [relabel_lookup hl]
    rfl))
/-- a pair of the block's own names -/
theorem pg_blk2 {X : Cx} {csc : Scope} {N' : List Str} {s₀ : Shared} {H₀ : Hp} {C : Addr} {ex : List Addr} {i j : Nat} {x y : Str} {px py pt : Pos} {k} (hc : X.calm = true) (nd : N'.Nodup) (hi : N'[i]? = some x) (hl : csc.names.lookup x = some .local) (hj : N'[j]? = some y) (hl2 : csc.names.lookup y = some .local) :
    PG (blk X csc N' s₀ H₀ C ex) (.Tuple [.Name x px, .Name y py] k pt) (gTup X.K 2 (gCons (gName i) (gCons (gName j) gNil))) :=
  pg_tup (X := blk X csc N' s₀ H₀ C ex) hc (pgs_cons (pg_blk nd hi hl) (pgs_cons (pg_blk nd hj hl2) pgs_nil))
end L3

namespace L3
open PySem PySem.Spec PyProof.Rows L2 Ra
/-! ### == and != of lists and tuples, however deep -/
mutual
/-- the value v is, through the heap, the plain thing d -/
inductive Dv (H : Hp) : V → PyData → Prop
  | non : Dv H .non .none
  | bl (b : Bool) : Dv H (.bl b) (.bool b)
  | int (i : Int) : Dv H (.int i) (.int i)
  | str (x : Str) (ok : (PyData.str x).canLay0 = true) : Dv H (.str x) (.str x)
  | lst {a : Addr} {xs : List V} {ds : List PyData} : H a = some (.lst xs) → DvAll H xs ds → Dv H (.ref a) (.list ds)
  | tup {a : Addr} {xs : List V} {ds : List PyData} : H a = some (.tup xs) → DvAll H xs ds → Dv H (.ref a) (.tuple ds)
inductive DvAll (H : Hp) : List V → List PyData → Prop
  | nil : DvAll H [] []
  | cons {v : V} {vs : List V} {d : PyData} {ds : List PyData} : Dv H v d → DvAll H vs ds → DvAll H (v :: vs) (d :: ds)
end
mutual
theorem Dv.keep {H H' : Hp} (s : Same H H') : ∀ {v : V} {d : PyData}, Dv H v d → Dv H' v d
  | _, _, .non => .non
  | _, _, .bl b => .bl b
  | _, _, .int i => .int i
  | _, _, .str x ok => .str x ok
  | _, _, .lst h r => .lst (s _ _ h) (DvAll.keep s r)
  | _, _, .tup h r => .tup (s _ _ h) (DvAll.keep s r)
theorem DvAll.keep {H H' : Hp} (s : Same H H') : ∀ {vs : List V} {ds : List PyData}, DvAll H vs ds → DvAll H' vs ds
  | _, _, .nil => .nil
  | _, _, .cons h r => .cons (Dv.keep s h) (DvAll.keep s r)
end
mutual
theorem Dv.can {H : Hp} : ∀ {v : V} {d : PyData}, Dv H v d → d.canLay0 = true
  | _, _, .non => rfl
  | _, _, .bl _ => rfl
  | _, _, .int _ => rfl
  | _, _, .str _ ok => ok
  | _, _, .lst _ r => by rw [PyData.canLay0]; exact DvAll.can r
  | _, _, .tup _ r => by rw [PyData.canLay0]; exact DvAll.can r
theorem DvAll.can {H : Hp} : ∀ {vs : List V} {ds : List PyData}, DvAll H vs ds → PyData.canLayAll0 ds = true
  | _, _, .nil => rfl
  | _, _, .cons h r => by rw [PyData.canLayAll0, Dv.can h, DvAll.can r]; rfl
end
section
variable {X : Cx} {pins : List (Addr × Obj)} {σ : L2.St} {H : Hp} {s : Shared}
mutual
theorem Dv.reads (I : Inv X pins σ H s) : ∀ {v : V} {d : PyData} {u : Value}, Dv H v d → RelV v u → ∃ as, Reads s.heap u d as
  | _, _, _, .non, r => by cases r; exact ⟨_, .none⟩
  | _, _, _, .bl b, r => by cases r; exact ⟨_, .bool b⟩
  | _, _, _, .int i, r => by obtain ⟨t, rfl⟩ := r; exact ⟨_, .int i t⟩
  | _, _, _, .str x _, r => by obtain ⟨t, rfl⟩ := r; exact ⟨_, .str x t⟩
  | _, _, _, .lst h q, r => by
    cases r
    obtain ⟨its, rv, p, _⟩ := I.list (SqL.of h)
    obtain ⟨o, e, hc, n, hd⟩ := p.isList
    obtain ⟨as, ra⟩ := DvAll.reads I q rv
    exact ⟨_, .list e hc hd ra⟩
  | _, _, _, .tup h q, r => by
    cases r
    obtain ⟨its, rv, p, _⟩ := I.tuple (SqT.of h)
    obtain ⟨o, e, hc, n, hd⟩ := p
    obtain ⟨as, ra⟩ := DvAll.reads I q rv
    exact ⟨_, .tuple e hc hd ra⟩
theorem DvAll.reads (I : Inv X pins σ H s) : ∀ {vs : List V} {ds : List PyData} {us : List Value}, DvAll H vs ds → Vals vs us → ∃ as, ReadsAll s.heap us ds as
  | _, _, _, .nil, .nil => ⟨_, .nil⟩
  | _, _, _, .cons h q, .cons r rs => by
    obtain ⟨as, ra⟩ := Dv.reads I h r
    obtain ⟨bs, rb⟩ := DvAll.reads I q rs
    exact ⟨_, .cons ra rb⟩
end
end
def rEqD (c : Bool → Bool) : R2 := fun x y H Q => ∃ dx dy, Dv H x dx ∧ Dv H y dy ∧ dx.depth ≤ 60 ∧ Q (.bl (c (PyData.eqv dx dy))) H
/-! ### rows of fractions -/
theorem paired_left {α β : Type} {F : α → β → Prop} : ∀ {xs : List α} {ys : List β} {x : α}, Paired F xs ys → x ∈ xs → ∃ y, y ∈ ys ∧ F x y
  | _, _, _, .nil, h => by simp at h
  | _, _, _, .cons a r, h => by
    rcases List.mem_cons.mp h with e | e
    · exact ⟨_, List.mem_cons_self, by rw [e]; exact a⟩
    · obtain ⟨y, hy, q⟩ := paired_left r e
      exact ⟨y, List.mem_cons_of_mem _ hy, q⟩
/-- the fraction q stands at p -/
def Pq (H : Hp) (p : Addr) (q : Rat) : Prop := Pr H p q.num q.den
theorem Pq.keep {H H' : Hp} {p : Addr} {q : Rat} (h : Pq H p q) (s : Same H H') : Pq H' p q := s _ _ h
theorem Pq.sq {K : PySem.W.Frag} {H : Hp} {p : Addr} {q : Rat} (h : Pq H p q) : SqT K H p [.int q.num, .int q.den] := SqT.of h
theorem Pq.of {H : Hp} {p : Addr} {x y : Int} {q : Rat} (h : Pr H p x y) (e : q.num = x ∧ (q.den : Int) = y) : Pq H p q := by
  unfold Pq
  rw [e.1, e.2]
  exact h
abbrev Pqs (H : Hp) : List Addr → List Rat → Prop := Paired (Pq H)
theorem Pqs.keep {H H' : Hp} {ps : List Addr} {qs : List Rat} (h : Pqs H ps qs) (s : Same H H') : Pqs H' ps qs := Paired.imp' (fun _ _ z => z.keep s) h
/-- a list of fractions stands at a -/
def Rw (H : Hp) (a : Addr) (qs : List Rat) : Prop := ∃ ps : List Addr, H a = some (.lst (ps.map V.ref)) ∧ Pqs H ps qs
theorem Rw.keep {H H' : Hp} {a : Addr} {qs : List Rat} (h : Rw H a qs) (s : Same H H') : Rw H' a qs := by
  obtain ⟨ps, h1, h2⟩ := h
  exact ⟨ps, s _ _ h1, h2.keep s⟩
theorem Pqs.get : ∀ {H : Hp} {ps : List Addr} {qs : List Rat} {i : Nat} {q : Rat}, Pqs H ps qs → qs[i]? = some q → ∃ p, (ps.map V.ref)[i]? = some (.ref p) ∧ Pq H p q
  | _, _, _, 0, _, .cons h _, e => by cases e; exact ⟨_, rfl, h⟩
  | _, _, _, _ + 1, _, .cons _ r, e => by
    rw [List.getElem?_cons_succ] at e
    obtain ⟨p, h1, h2⟩ := Pqs.get r e
    exact ⟨p, by rw [List.map_cons, List.getElem?_cons_succ]; exact h1, h2⟩
theorem Pqs.take : ∀ {H : Hp} {ps : List Addr} {qs : List Rat} (n : Nat), Pqs H ps qs → Pqs H (ps.take n) (qs.take n)
  | _, _, _, 0, _ => .nil
  | _, _, _, _ + 1, .nil => .nil
  | _, _, _, n + 1, .cons h r => .cons h (Pqs.take n r)
theorem Pqs.drop : ∀ {H : Hp} {ps : List Addr} {qs : List Rat} (n : Nat), Pqs H ps qs → Pqs H (ps.drop n) (qs.drop n)
  | _, _, _, 0, h => h
  | _, _, _, _ + 1, .nil => .nil
  | _, _, _, n + 1, .cons _ r => Pqs.drop n r
theorem Pqs.append : ∀ {H : Hp} {ps rs : List Addr} {qs ts : List Rat}, Pqs H ps qs → Pqs H rs ts → Pqs H (ps ++ rs) (qs ++ ts)
  | _, _, _, _, _, .nil, k => k
  | _, _, _, _, _, .cons h r, k => .cons h (Pqs.append r k)
theorem Pqs.length {H : Hp} {ps : List Addr} {qs : List Rat} (h : Pqs H ps qs) : ps.length = qs.length := Paired.length h
/-- the thing that a fraction is, a row of them, rows of rows -/
def dq (q : Rat) : PyData := .tuple [.int q.num, .int q.den]
def dr (qs : List Rat) : PyData := .list (qs.map dq)
theorem Rw.lt {H : Hp} {a : Addr} {qs : List Rat} (h : Rw H a qs) : ∃ xs, H a = some (.lst xs) ∧ xs.length = qs.length := by
  obtain ⟨ps, h1, h2⟩ := h
  exact ⟨_, h1, by rw [List.length_map, h2.length]⟩
/-- a row whose list stands in H2 as it stood, made longer by p -/
theorem Rw.app {H H2 : Hp} {D p : Addr} {qs : List Rat} {q : Rat} (h : Rw H D qs) (s : Same H H2) (kp : Pq H2 p q) :
    ∃ xs, H2 D = some (.lst xs) ∧ xs.length = qs.length ∧ Rw (upd H2 D (.lst (xs ++ [.ref p]))) D (qs ++ [q]) := by
  obtain ⟨ps, h1, h2⟩ := h.keep s
  refine ⟨_, h1, by rw [List.length_map, h2.length], ps ++ [p], by rw [upd_same]; simp, ?_⟩
  have up : ∀ p q, Pq H2 p q → Pq (upd H2 D (.lst (ps.map V.ref ++ [.ref p]))) p q := fun p q z => by
    have z' : H2 p = some (.tup [.int q.num, .int q.den]) := z
    show upd H2 D _ p = _
    rw [upd_ne (ne_of z' h1 (by intro w; cases w))]
    exact z'
  have up2 : ∀ r t, Pq H2 r t → Pq (upd H2 D (.lst (ps.map V.ref ++ [.ref p]))) r t := fun r t z => by
    have z' : H2 r = some (.tup [.int t.num, .int t.den]) := z
    show upd H2 D _ r = _
    rw [upd_ne (ne_of z' h1 (by intro w; cases w))]
    exact z'
  exact Pqs.append (Paired.imp' up2 h2) (.cons (up2 _ _ kp) .nil)
theorem kit_lst_lst (K : PySem.W.Frag) : PySem.W.kitOne K (.type "list") (.type "list") = some true := rfl
/-- rows in a list -/
def drr (rss : List (List Rat)) : PyData := .list (rss.map dr)
/-- all but what stands at S stays -/
def Sx (S : List Addr) (H H' : Hp) : Prop := ∀ b o, b ∉ S → H b = some o → H' b = some o
theorem Pq.int {H : Hp} {p : Addr} {i : Int} : Pq (upd H p (.tup [.int i, .int 1])) p (i : Rat) := Pq.of Pr.new ⟨rfl, rfl⟩
theorem Rw.copy {H : Hp} {a c : Addr} {qs : List Rat} {xs : List V} (h : Rw H a qs) (e : H a = some (.lst xs)) (n : H c = none) : Rw (upd H c (.lst xs)) c qs := by
  obtain ⟨ps, e1, e2⟩ := h
  rw [e] at e1
  have e3 : xs = ps.map V.ref := by
    have := Option.some.inj e1
    injection this
  exact ⟨ps, by rw [upd_same, e3], e2.keep (same_upd n _)⟩
theorem Rw.there {H : Hp} {a : Addr} {qs : List Rat} (h : Rw H a qs) : ∃ xs, H a = some (.lst xs) ∧ xs.length = qs.length := h.lt
theorem cut_to {α : Type} (f : α → V) (ps : List α) (k : Nat) : cutV (ps.map f) none (some (k : Int)) = (ps.take k).map f := by
  unfold cutV
  rw [HT.sIx_none, HT.sIx_nat, List.length_map, List.drop_zero, Nat.sub_zero, List.map_take]
  by_cases h : k ≤ ps.length
  · rw [Nat.min_eq_left h]
  · rw [Nat.min_eq_right (by (first | lia | omega)), List.take_of_length_le (by rw [List.length_map]; (first | lia | omega)), List.take_of_length_le (by rw [List.length_map]; (first | lia | omega))]
theorem cut_from {α : Type} (f : α → V) (ps : List α) (k : Nat) : cutV (ps.map f) (some (k : Int)) none = (ps.drop k).map f := by
  unfold cutV
  rw [HT.sIx_none, HT.sIx_nat, List.length_map, List.map_drop]
  by_cases h : k ≤ ps.length
  · rw [Nat.min_eq_left h, List.take_of_length_le (by rw [List.length_drop, List.length_map]; (first | lia | omega))]
  · rw [Nat.min_eq_right (by (first | lia | omega)), List.drop_eq_nil_of_le (by rw [List.length_map]; (first | lia | omega)), List.drop_eq_nil_of_le (by rw [List.length_map]; (first | lia | omega))]
    simp
end L3

namespace L3
open PySem PySem.Spec PyProof.Rows L2 Ra
/-! ### for .. in reversed(list) -/
def Itv (K : PySem.W.Frag) (a : Addr) (n : Nat) : It :=
  ⟨fun i H => i < n ∧ ∃ xs x, SqL K H a xs ∧ xs[n - 1 - i]? = some x, fun i H x H' => H' = H ∧ ∀ xs, SqL K H a xs → xs[n - 1 - i]? = some x, fun i _ => i = n⟩
def iRev (K : PySem.W.Frag) (ta : TA) : TI := fun σ H R => ta σ H fun vs H1 => ∃ a xs, vs = [.ref a] ∧ SqL K H1 a xs ∧ R (Itv K a xs.length) H1
/-! ### a way through a statement, cut: what holds behind it is said once -/
def tCutS (t : TS) : TS := fun D σ H => ∃ Mid : L2.St → Hp → Prop, (∀ σ' H', Mid σ' H' → D.nx σ' H') ∧ t { D with nx := Mid } σ H
theorem ps_cut {X : Cx} {st : Stmt} {t : TS} (h : PS X st t) : PS X st (tCutS t) := by
  intro pins s σ H D I hw
  obtain ⟨Mid, hm, hw⟩ := hw
  refine thn (h pins s σ H _ I hw) fun f s1 q => ?_
  cases f with
  | next =>
    obtain ⟨σ', H', I', q⟩ := q
    exact ⟨σ', H', I', hm _ _ q⟩
  | ret v => exact q
  | brk => exact q
  | cont => exact q
/-! ### rows that grow -/
theorem Pq.updL {H : Hp} {D p : Addr} {xs ys : List V} {q : Rat} (h : H D = some (.lst xs)) (k : Pq H p q) : Pq (upd H D (.lst ys)) p q := by
  unfold Pq Pr
  rw [upd_ne (ne_of k h (by intro z; cases z))]
  exact k
theorem Pqs.updL {H : Hp} {D : Addr} {xs ys : List V} {ps : List Addr} {qs : List Rat} (h : H D = some (.lst xs)) (k : Pqs H ps qs) : Pqs (upd H D (.lst ys)) ps qs := Paired.imp' (fun _ _ z => z.updL h) k
/-- what was there ahead of D stays where D changes -/
theorem same_updF {H1 H : Hp} {D : Addr} (s : Same H1 H) (hD : H1 D = none) (o : HO) : Same H1 (upd H D o) := fun b u q => by rw [upd_ne (ne_of_none q hD)]; exact s b u q
end L3

namespace L3
open PySem PySem.Spec PyProof.Rows L2 Ra Rq
end L3

namespace L3
open PySem PySem.Spec PyProof.Rows L2 Ra
/-! ### rows of pairs of fractions -/
def Tq (H : Hp) (r : Addr) (x : Rat × Rat) : Prop := ∃ p q, H r = some (.tup [.ref p, .ref q]) ∧ Pq H p x.1 ∧ Pq H q x.2
abbrev Tqs (H : Hp) : List Addr → List (Rat × Rat) → Prop := Paired (Tq H)
/-- a list of pairs of fractions stands at a -/
def Rp (H : Hp) (a : Addr) (qs : List (Rat × Rat)) : Prop := ∃ ps : List Addr, H a = some (.lst (ps.map V.ref)) ∧ Tqs H ps qs
end L3

namespace L3
open PySem PySem.Spec PyProof.Rows L2 Ra Rq
/-! ### raw fractions -/
def Pz (n : Nat) (H : Hp) (p : Addr) (v : Rat) : Prop := ∃ Tp M : Int, H p = some (.tup [.int Tp, .int M]) ∧ 0 < M ∧ Po.Rep n v Tp M
def Rz (n : Nat) (H : Hp) (a : Addr) (vs : List Rat) : Prop := ∃ ps : List Addr, H a = some (.lst (ps.map V.ref)) ∧ Paired (Pz n H) ps vs
end L3

namespace L3
open PySem PySem.Spec PyProof.Rows L2 Ra Rq
end L3

namespace L3
open PySem PySem.Spec PyProof.Rows L2 Ra
/-! ### for .. in zip(list, list) -/
/-- some records of ours have turned -/
theorem turnedN {X : Cx} {pins : List (Addr × Obj)} {σ : L2.St} {H : Hp} {s : Shared} {h' : Heap} {t' : Nat} (S : List Addr) (I : Inv X pins σ H s) (k : ∀ b o, b ∉ S → s.heap.get? b = some o → h'.get? b = some o) (hS : ∀ b ∈ S, FpOk X pins H b) : Inv X pins σ H { s with heap := h', toks := t' } := by
  have nit : ∀ b u, H b = some u → b ∉ S := fun b u e z => by rw [(hS b z).1] at e; cases e
  refine I.step (g' := s.gens) (d' := s.drawn) (ch := S) (fun b hb => ?_) (fun b o _ _ hc e _ => k b o hc e) (fun b o _ _ hc e _ => ⟨o.slots, k b o hc e⟩) (fun _ _ _ _ n => n)
    (fun b o hc e => ⟨o, k b o hc e⟩) (fun _ _ e => e) (fun _ _ _ e => e) (fun b ps e => ⟨#[], by rw [e]; simp⟩) (fun m hm => ?_) (fun b u e => ?_) I.bare
  · obtain ⟨h0, hL, _, h1, h2, h3⟩ := hS b hb
    exact ⟨h1, hL, h2, h3⟩
  · obtain ⟨o, es, ep, ho, r⟩ := hm
    exact ⟨o, es, ep, k _ o (fun z => (hS _ z).2.1 rfl) ho, r⟩
  · refine (I.hok b u e).stay (fun c v hc q => k c v ?_ q) (fun _ q => q) fun _ _ q => q
    rcases hc with z | z
    · rw [z]; exact nit b u e
    · exact nit c _ z
/-- the lists at a and b, side by side -/
def Itz (K : PySem.W.Frag) (a b : Addr) : It :=
  ⟨fun i H => ∃ xs ys x y, SqL K H a xs ∧ SqL K H b ys ∧ xs[i]? = some x ∧ ys[i]? = some y,
   fun i H v H' => ∃ T x y, v = .ref T ∧ H T = none ∧ H' = upd H T (.tup [x, y]) ∧ (∀ xs, SqL K H a xs → xs[i]? = some x) ∧ ∀ ys, SqL K H b ys → ys[i]? = some y,
   fun i H => ∃ xs ys, SqL K H a xs ∧ SqL K H b ys ∧ (xs.length ≤ i ∨ ys.length ≤ i)⟩
theorem turn_zip {P : Program} {w : World} {K : PySem.W.Frag} {es : List Expr} {k : Nat} {tp : Pos} (a b z TI TO i1 i2 : Addr) (D : ZipApart z TI TO i1 i2 a b) : Turn P w K (.Tuple es k tp) (Itz K a b) [z, TI, TO, i1, i2] z
    (fun i h => IsZip h z TI TO .none ∧ IsPair h TI (.ref i1) (.ref i2) ∧ (∃ u v, IsPair h TO u v) ∧ h.IsListIter i1 a i ∧ h.IsListIter i2 b i) where
  mem := by simp
  obj := fun i h st c hc => by
    obtain ⟨s1, s2, ⟨u, v, s3⟩, ⟨o4, e4, _, d4⟩, ⟨o5, e5, _, d5⟩⟩ := st
    simp only [List.mem_cons, List.not_mem_nil, or_false] at hc
    rcases hc with rfl | rfl | rfl | rfl | rfl
    · exact ⟨_, s1, fun v z => by
        have z' : Data.fields _ = Data.cell v := z
        cases z'⟩
    · exact ⟨_, s2, fun v z => by
        have z' : Data.seq _ _ = Data.cell v := z
        cases z'⟩
    · exact ⟨_, s3, fun v z => by
        have z' : Data.seq _ _ = Data.cell v := z
        cases z'⟩
    · exact ⟨o4, e4, fun v z => by rw [d4] at z; cases z⟩
    · exact ⟨o5, e5, fun v z => by rw [d5] at z; cases z⟩
  keep := fun i h h' st kk => by
    obtain ⟨s1, s2, ⟨u, v, s3⟩, s4, s5⟩ := st
    exact ⟨kk z (by simp) _ s1, kk TI (by simp) _ s2, ⟨u, v, kk TO (by simp) _ s3⟩, s4.at fun o e => kk i1 (by simp) o e, s5.at fun o e => kk i2 (by simp) o e⟩
  item := by
    intro X hP hw hK hc i pins s σ H E I hf st hg
    subst hP hw hK
    obtain ⟨s1, s2, ⟨u0, v0, s3⟩, s4, s5⟩ := st
    obtain ⟨xs, ys, x, y, hqx, hqy, hx, hy⟩ := hg
    obtain ⟨itx, rvx, px, _⟩ := I.list hqx
    obtain ⟨ity, rvy, py, _⟩ := I.list hqy
    obtain ⟨u, hu, ru⟩ := rvx.get hx
    obtain ⟨v, hv, rv⟩ := rvy.get hy
    have ltz : z < s.heap.objs.size := Heap.lt_size s1
    have ltT : TI < s.heap.objs.size := Heap.lt_size s2
    have ltO : TO < s.heap.objs.size := Heap.lt_size s3
    have lt1 : i1 < s.heap.objs.size := by obtain ⟨_, e, _⟩ := s4; exact Heap.lt_size e
    have lt2 : i2 < s.heap.objs.size := by obtain ⟨_, e, _⟩ := s5; exact Heap.lt_size e
    refine wpAny_pyNext_zip_item D s1 s2 s3 s4 s5 px.isList py.isList (x := u) (y := v) (by simpa using hu) (by simpa using hv) fun h1 a1 a2 a3 a4 a5 a6 hk1 => ⟨_, rfl, wpAny_letOwnedTupleGo_zip a1 fun h2 b1 sb2 => ?_⟩
    replace sb2 : Heap.SameBut z h1 h2 := sb2
    have fresh : H s.heap.objs.size = none := I.hok.fresh (Nat.le_refl _)
    have I1 : Inv X pins σ (upd H s.heap.objs.size (.tup [x, y])) { s with heap := s.heap.push { cls := .type "tuple", data := .seq ([u, v] : List Value).toArray }, toks := s.toks } :=
      I.laid (fun b o eb => Heap.get?_push_of_some _ eb) (Nat.le_refl _) (show ObjOk X.prog X.w _ _ _ (.tup _) from ⟨(by show 2 ≤ sizeLine; decide), _, .cons ru (.cons rv .nil), IsTup.new _ _⟩)
    have fo : ∀ b, b < s.heap.objs.size → FpOk X pins H b → FpOk X pins (upd H s.heap.objs.size (.tup [x, y])) b := fun b lb fb => ⟨by rw [upd_ne (Nat.ne_of_lt lb)]; exact fb.1, fb.2⟩
    have hfo : ∀ b ∈ [z, TI, TO, i1, i2], FpOk X pins (upd H s.heap.objs.size (.tup [x, y])) b := fun b hb => by
      refine fo b ?_ (hf b hb)
      simp only [List.mem_cons, List.not_mem_nil, or_false] at hb
      rcases hb with rfl | rfl | rfl | rfl | rfl <;> assumption
    have I2 := turnedN (h' := h2) (t' := s.toks) [z, TI, TO, i1, i2] I1 (fun b o nb eb => ?_) hfo
    · refine ⟨.ref s.heap.objs.size, _, I2, rfl, ⟨_, x, y, rfl, fresh, rfl, fun zs hz => by rw [I.list_inj hz hqx]; exact hx, fun zs hz => by rw [I.list_inj hz hqy]; exact hy⟩, ⟨b1, sb2.extBut _ _ D.TIz (hk1 _ _ D.TIz D.TITO D.TIi1 D.TIi2 s2), ⟨_, _, sb2.extBut _ _ D.TOz a2⟩, a3.extBut sb2.extBut D.i1z, a4.extBut sb2.extBut D.i2z⟩, fun b hb => (hfo b hb).1⟩
    · have n1 : b ≠ z := fun q => nb (by simp [q])
      have n2 : b ≠ TO := fun q => nb (by simp [q])
      have n3 : b ≠ i1 := fun q => nb (by simp [q])
      have n4 : b ≠ i2 := fun q => nb (by simp [q])
      rcases Heap.get?_push_cases eb with ⟨rfl, rfl⟩ | eb
      · exact sb2.extBut _ _ n1 a5
      · exact sb2.extBut _ _ n1 (hk1 b o n1 n2 n3 n4 eb)
  done := by
    intro X hP hw hK hc i pins s σ H E I hf st hg
    subst hP hw hK
    obtain ⟨s1, s2, ⟨u0, v0, s3⟩, s4, s5⟩ := st
    obtain ⟨xs, ys, hqx, hqy, hend⟩ := hg
    obtain ⟨itx, rvx, px, _⟩ := I.list hqx
    obtain ⟨ity, rvy, py, _⟩ := I.list hqy
    have lx := rvx.length
    have ly := rvy.length
    refine wpAny_pyNext_zip_end (I.ok.hd hc) D s1 s2 s3 s4 s5 px.isList py.isList ?_ fun h' hk => ⟨rfl, turnedN (t' := s.toks) [z, TI, TO, i1, i2] I (fun b o nb e => hk b o (fun q => nb (by simp [q])) (fun q => nb (by simp [q])) (fun q => nb (by simp [q])) (fun q => nb (by simp [q])) e) hf⟩
    rcases hend with h | h
    · exact .inl (by simp; (first | lia | omega))
    · exact .inr (by simp; (first | lia | omega))
  self := fun _ _ _ _ _ st h => wpAny_pyIter_zip st.1 h
def iZip (K : PySem.W.Frag) (ta : TA) : TI := fun σ H R => ta σ H fun vs H1 => ∃ a b, vs = [.ref a, .ref b] ∧ (∃ xs, SqL K H1 a xs) ∧ (∃ ys, SqL K H1 b ys) ∧ R (Itz K a b) H1
theorem pi_zip {X : Cx} {es : List Expr} {k : Nat} {tp : Pos} {a b : Expr} {ta : TA} {p pos : Pos} (hg : Gl X "zip") (hm : X.mg "zip" = none) (ha : PA X [a, b] ta) (hs : starEach [a, b] X.env = [(false, eval a X.env), (false, eval b X.env)] := by rfl) (hs2 : starEach [b] X.env = [(false, eval b X.env)] := by rfl) :
    PI X (.Tuple es k tp) (.Call (.Name "zip" p) [a, b] [] pos) (iZip X.K ta) := by
  intro pins s σ H R I h
  refine Call_ (ld_blt I hg hm boot_zip (PyProof.Rows.callWith_type1 (thn (ha pos pins s σ H _ I h) fun us s1 ⟨vs, H1, I1, r1, q1⟩ => ?_) (by rw [hs, hs2]) (by rw [hs2]; rfl)))
  obtain ⟨l1, l2, rfl, ⟨xs, hqx⟩, ⟨ys, hqy⟩, q⟩ := q1
  cases r1 with
  | cons r rr =>
    cases rr with
    | cons r' rr =>
      cases rr
      cases r
      cases r'
      obtain ⟨itx, rvx, px, _⟩ := I1.list hqx
      obtain ⟨ity, rvy, py, _⟩ := I1.list hqy
      have a1 : l1 < s1.heap.objs.size := by obtain ⟨_, e, _⟩ := px.isList; exact Heap.lt_size e
      have a2 : l2 < s1.heap.objs.size := by obtain ⟨_, e, _⟩ := py.isList; exact Heap.lt_size e
      refine call_zip_2 px.isList py.isList fun h' hz hTI hTO hi1 hi2 hsz hk => wpAny_pyIter_zip hz ?_
      have I2 : Inv X pins σ H1 { s1 with heap := h' } := I1.kept (t' := s1.toks) hk
      refine ⟨s1.heap.objs.size + 4, [s1.heap.objs.size + 4, s1.heap.objs.size + 2, s1.heap.objs.size + 3, s1.heap.objs.size, s1.heap.objs.size + 1], _, _, H1, rfl, I2, turn_zip l1 l2 _ _ _ _ _ (zipApart_new a1 a2), ⟨hz, hTI, ⟨_, _, hTO⟩, hi1, hi2⟩, fun b hb => ?_, q⟩
      simp only [List.mem_cons, List.not_mem_nil, or_false] at hb
      rcases hb with rfl | rfl | rfl | rfl | rfl
      · exact I1.fpOk (Nat.le_add_right _ 4) (I1.hok.fresh (Nat.le_add_right _ 4))
      · exact I1.fpOk (Nat.le_add_right _ 2) (I1.hok.fresh (Nat.le_add_right _ 2))
      · exact I1.fpOk (Nat.le_add_right _ 3) (I1.hok.fresh (Nat.le_add_right _ 3))
      · exact I1.fpOk (Nat.le_refl _) (I1.hok.fresh (Nat.le_refl _))
      · exact I1.fpOk (Nat.le_add_right _ 1) (I1.hok.fresh (Nat.le_add_right _ 1))
theorem for_zip {K : PySem.W.Frag} {a b : Addr} {xs ys : List V} {g : TG} {tb : TS} {D : Ends} {σ : L2.St} {H : Hp} (n : Nat) (hn : n = min xs.length ys.length) (Pv : Nat → L2.St → Hp → Prop) (h0 : Pv 0 σ H) (hl : ∀ i σ H, i ≤ n → Pv i σ H → SqL K H a xs ∧ SqL K H b ys)
    (hs : ∀ i x y σ H T, xs[i]? = some x → ys[i]? = some y → Pv i σ H → H T = none → g (.ref T) σ (upd H T (.tup [x, y])) fun σ2 H2 => tb { D with nx := Pv (i + 1), ct := Pv (i + 1), bk := D.nx } σ2 H2) (hd : ∀ σ H, Pv n σ H → D.nx σ H) :
    ∃ W : Nat → Nat → L2.St → Hp → Prop, (∃ m, W 0 m σ H) ∧ ∀ i m σ H, W i m σ H →
      ((Itz K a b).stop i H ∧ D.nx σ H) ∨ ((Itz K a b).go i H ∧ ∃ N : L2.St → Hp → Prop, (∀ σ' H', N σ' H' → ∃ m', m' < m ∧ W (i + 1) m' σ' H') ∧ ∀ x H', (Itz K a b).yld i H x H' → g x σ H' fun σ2 H2 => tb { D with nx := N, ct := N, bk := D.nx } σ2 H2) := by
  refine ⟨fun i m σ H => m = n - i ∧ i ≤ n ∧ Pv i σ H, ⟨n, by simp, Nat.zero_le _, h0⟩, ?_⟩
  rintro i m σ H ⟨rfl, hi, p⟩
  obtain ⟨qx, qy⟩ := hl i σ H hi p
  by_cases hlt : i < n
  · have h1 : i < xs.length := by (first | lia | omega)
    have h2 : i < ys.length := by (first | lia | omega)
    refine .inr ⟨⟨xs, ys, _, _, qx, qy, List.getElem?_eq_getElem h1, List.getElem?_eq_getElem h2⟩, Pv (i + 1), fun σ' H' p' => ⟨n - (i + 1), by (first | lia | omega), rfl, hlt, p'⟩, ?_⟩
    rintro v H' ⟨T, x, y, rfl, hT, rfl, ex, ey⟩
    exact hs i x y σ H T (ex xs qx) (ey ys qy) p hT
  · have e : i = n := by (first | lia | omega)
    subst e
    exact .inl ⟨⟨xs, ys, qx, qy, by (first | lia | omega)⟩, hd σ H p⟩
end L3

namespace L3
open PySem PySem.Spec PyProof.Rows L2 Ra Rq
/-! ### comprehensions of whole numbers, some left out -/
/-- [f(x) for x in a row], whole numbers -/
theorem comp_listZ {K : PySem.W.Frag} {a : Addr} {qs : List Rat} {te : Shared → Hp → Addr → List Addr → TE} {js : List Nat} {σ : L2.St} {H1 : Hp} {Q : VK} (hn : qs.length ≤ 100000) (ha : Rw H1 a qs) (f : Rat → Int)
    (hs : ∀ s₀ H₀ C ex p q H (R : VK), q ∈ qs → Pq H p q → Same H1 H → R (.int (f q)) H → te s₀ H₀ C ex (some (.ref p) :: js.map fun j => (σ[j]?).join) H R)
    (hd : ∀ H D, Same H1 H → H1 D = none → H D = some (.lst ((qs.map f).map V.int)) → Q (.ref D) H) : CompAt (Itl K a) te js σ Q H1 := by
  intro D hD
  obtain ⟨rs, hrs, kr⟩ := ha
  have hlr := kr.length
  refine ⟨fun i m ys H => m = qs.length - i ∧ i ≤ qs.length ∧ ys = ((qs.take i).map f).map V.int ∧ Same H1 H ∧ H D = some (.lst ys), ⟨qs.length, by simp, Nat.zero_le _, rfl, same_upd hD _, upd_same⟩, ?_⟩
  rintro i m ys H ⟨rfl, hi, rfl, sm, hDl⟩
  refine ⟨hDl, ?_⟩
  have hr := sm _ _ hrs
  by_cases hlt : i < qs.length
  · have eq : qs[i]? = some qs[i] := List.getElem?_eq_getElem hlt
    obtain ⟨p0, h0, k0⟩ := (kr.keep sm).get eq
    refine .inr ⟨⟨_, _, SqL.of hr, h0⟩, fun x H' y s₀ H₀ C ex => ?_⟩
    obtain ⟨e, y⟩ := y
    subst e
    have ex' := y _ (SqL.of hr)
    rw [h0] at ex'
    cases ex'
    refine hs s₀ H₀ C ex p0 _ H' _ (List.getElem_mem hlt) k0 sm ?_
    have hz : (100000 : Nat) < sizeLine := by decide
    refine ⟨hDl, by rw [List.length_map, List.length_map, List.length_take]; (first | lia | omega), qs.length - (i + 1), by (first | lia | omega), rfl, hlt, ?_, ?_, upd_same⟩
    · rw [List.take_succ, eq, List.map_append, List.map_append]; rfl
    · intro b o e
      rw [upd_ne (ne_of_none e hD)]
      exact sm _ _ e
  · have e : i = qs.length := by (first | lia | omega)
    subst e
    rw [List.take_length] at hDl
    exact .inl ⟨⟨_, SqL.of hr, by rw [List.length_map]; (first | lia | omega)⟩, hd H D sm hD hDl⟩
/-- [x for x in whole numbers if p(x)] -/
theorem comp_filterZ {K : PySem.W.Frag} {a : Addr} {ns : List Int} {tt : Shared → Hp → Addr → List Addr → TT} {te : Shared → Hp → Addr → List Addr → TE} {js : List Nat} {σ : L2.St} {H1 : Hp} {Q : VK} (hn : ns.length ≤ 100000) (ha : H1 a = some (.lst (ns.map V.int))) (p : Int → Bool)
    (ht : ∀ s₀ H₀ C ex n H (R : Bool → Hp → Prop), R (p n) H → tt s₀ H₀ C ex (some (.int n) :: js.map fun j => (σ[j]?).join) H R)
    (hs : ∀ s₀ H₀ C ex n H (R : VK), R (.int n) H → te s₀ H₀ C ex (some (.int n) :: js.map fun j => (σ[j]?).join) H R)
    (hd : ∀ H D, Same H1 H → H1 D = none → H D = some (.lst ((ns.filter p).map V.int)) → Q (.ref D) H) : CompAtG (Itl K a) (gName 0) tt te 1 js σ Q H1 := by
  intro D hD
  refine ⟨fun i m ys H => m = ns.length - i ∧ i ≤ ns.length ∧ ys = ((ns.take i).filter p).map V.int ∧ Same H1 H ∧ H D = some (.lst ys), ⟨ns.length, by simp, Nat.zero_le _, rfl, same_upd hD _, upd_same⟩, ?_⟩
  rintro i m ys H ⟨rfl, hi, rfl, sm, hDl⟩
  refine ⟨hDl, ?_⟩
  have hr := sm _ _ ha
  by_cases hlt : i < ns.length
  · have eq : ns[i]? = some ns[i] := List.getElem?_eq_getElem hlt
    have h0 : (ns.map V.int)[i]? = some (.int ns[i]) := by rw [List.getElem?_map, eq]; rfl
    refine .inr ⟨⟨_, _, SqL.of hr, h0⟩, fun x H' y s₀ H₀ C ex σ0 hσ => ?_⟩
    obtain ⟨e, y⟩ := y
    subst e
    have ex' := y _ (SqL.of hr)
    rw [h0] at ex'
    cases ex'
    obtain ⟨v1, rfl⟩ : ∃ v1, σ0 = [v1] := by
      match σ0, hσ with
      | [v1], _ => exact ⟨v1, rfl⟩
    refine ⟨⟨[some (.int ns[i])], rfl, rfl⟩, ?_⟩
    refine ht s₀ H₀ C ex ns[i] H' _ ?_
    have hz : (100000 : Nat) < sizeLine := by decide
    have et : (ns.take (i + 1)).filter p = (ns.take i).filter p ++ if p ns[i] then [ns[i]] else [] := by
      rw [List.take_succ, eq, List.filter_append]
      cases hp : p ns[i] <;> simp [hp]
    by_cases hp : p ns[i] = true
    · rw [if_pos hp]
      rw [if_pos hp] at et
      refine hs s₀ H₀ C ex ns[i] H' _ ⟨hDl, ?_, ns.length - (i + 1), by (first | lia | omega), rfl, hlt, ?_, ?_, upd_same⟩
      · rw [List.length_map]
        have := List.length_filter_le p (ns.take i)
        rw [List.length_take] at this
        (first | lia | omega)
      · rw [et, List.map_append]; rfl
      · intro b o e
        rw [upd_ne (ne_of_none e hD)]
        exact sm _ _ e
    · rw [if_neg hp]
      rw [if_neg hp, List.append_nil] at et
      exact ⟨hDl, ns.length - (i + 1), by (first | lia | omega), rfl, hlt, by rw [et], sm, hDl⟩
  · have e : i = ns.length := by (first | lia | omega)
    subst e
    rw [List.take_length] at hDl
    exact .inl ⟨⟨_, SqL.of hr, by rw [List.length_map]; (first | lia | omega)⟩, hd H D sm hD hDl⟩
/-- how many i < n with p i -/
def cnt (p : Nat → Bool) : Nat → Nat
  | 0 => 0
  | n + 1 => cnt p n + if p n then 1 else 0
theorem cnt_le (p : Nat → Bool) (n : Nat) : cnt p n ≤ n := by
  induction n with
  | zero => exact Nat.le_refl _
  | succ n ih => rw [cnt]; split <;> (first | lia | omega)
theorem cnt_congr {p r : Nat → Bool} {n : Nat} (h : ∀ i, i < n → p i = r i) : cnt p n = cnt r n := by
  induction n with
  | zero => rfl
  | succ n ih => rw [cnt, cnt, ih fun i hi => h i (by (first | lia | omega)), h n (by (first | lia | omega))]
/-- [x for x, y in zip(xs, ys) if x != y], how many -/
theorem comp_zipZ {K : PySem.W.Frag} {a b : Addr} {ns ms : List Int} {tt : Shared → Hp → Addr → List Addr → TT} {te : Shared → Hp → Addr → List Addr → TE} {js : List Nat} {σ : L2.St} {H1 : Hp} {Q : VK} (n : Nat) (hnm : n = min ns.length ms.length) (hn : n ≤ 100000) (ha : H1 a = some (.lst (ns.map V.int))) (hb : H1 b = some (.lst (ms.map V.int))) (p : Int → Int → Bool)
    (ht : ∀ s₀ H₀ C ex x y H (R : Bool → Hp → Prop), R (p x y) H → tt s₀ H₀ C ex (some (.int x) :: some (.int y) :: js.map fun j => (σ[j]?).join) H R)
    (hs : ∀ s₀ H₀ C ex x y H (R : VK), R (.int x) H → te s₀ H₀ C ex (some (.int x) :: some (.int y) :: js.map fun j => (σ[j]?).join) H R)
    (hd : ∀ H D xs, Same H1 H → H1 D = none → H D = some (.lst xs) → xs.length = cnt (fun i => p (ns.getD i 0) (ms.getD i 0)) n → Q (.ref D) H) : CompAtG (Itz K a b) (gTup K 2 (gCons (gName 0) (gCons (gName 1) gNil))) tt te 2 js σ Q H1 := by
  intro D hD
  refine ⟨fun i m ys H => m = n - i ∧ i ≤ n ∧ ys.length = cnt (fun i => p (ns.getD i 0) (ms.getD i 0)) i ∧ Same H1 H ∧ H D = some (.lst ys), ⟨n, by simp, Nat.zero_le _, rfl, same_upd hD _, upd_same⟩, ?_⟩
  rintro i m ys H ⟨rfl, hi, hys, sm, hDl⟩
  refine ⟨hDl, ?_⟩
  have hra := sm _ _ ha
  have hrb := sm _ _ hb
  by_cases hlt : i < n
  · have l1 : i < ns.length := by (first | lia | omega)
    have l2 : i < ms.length := by (first | lia | omega)
    have h1 : (ns.map V.int)[i]? = some (.int ns[i]) := by rw [List.getElem?_map, List.getElem?_eq_getElem l1]; rfl
    have h2 : (ms.map V.int)[i]? = some (.int ms[i]) := by rw [List.getElem?_map, List.getElem?_eq_getElem l2]; rfl
    refine .inr ⟨⟨_, _, _, _, SqL.of hra, SqL.of hrb, h1, h2⟩, ?_⟩
    rintro v H' ⟨T, x, y, rfl, hT, rfl, ex, ey⟩ s₀ H₀ C ex0 σ0 hσ
    have ex' := ex _ (SqL.of hra)
    have ey' := ey _ (SqL.of hrb)
    rw [h1] at ex'
    rw [h2] at ey'
    cases ex'
    cases ey'
    obtain ⟨v1, v2, rfl⟩ : ∃ v1 v2, σ0 = [v1, v2] := by
      match σ0, hσ with
      | [v1, v2], _ => exact ⟨v1, v2, rfl⟩
    have u := same_upd hT (.tup [.int ns[i], .int ms[i]])
    refine ⟨T, _, rfl, SqT.of upd_same, rfl, _, _, rfl, _, _, rfl, rfl, ⟨[some (.int ns[i]), some (.int ms[i])], rfl, rfl⟩, ?_⟩
    refine ht s₀ H₀ C ex0 ns[i] ms[i] _ _ ?_
    have hz : (100000 : Nat) < sizeLine := by decide
    have g1 : ns.getD i 0 = ns[i] := by rw [List.getD_eq_getElem?_getD, List.getElem?_eq_getElem l1]; rfl
    have g2 : ms.getD i 0 = ms[i] := by rw [List.getD_eq_getElem?_getD, List.getElem?_eq_getElem l2]; rfl
    have ec : cnt (fun i => p (ns.getD i 0) (ms.getD i 0)) (i + 1) = cnt (fun i => p (ns.getD i 0) (ms.getD i 0)) i + if p ns[i] ms[i] then 1 else 0 := by rw [cnt, g1, g2]
    have hDl' := u _ _ hDl
    have cl := cnt_le (fun i => p (ns.getD i 0) (ms.getD i 0)) i
    by_cases hp : p ns[i] ms[i] = true
    · rw [if_pos hp]
      rw [if_pos hp] at ec
      refine hs s₀ H₀ C ex0 ns[i] ms[i] _ _ ⟨hDl', by (first | lia | omega), n - (i + 1), by (first | lia | omega), rfl, hlt, ?_, same_updF (sm.trans u) hD _, upd_same⟩
      rw [List.length_append, hys, ec]
      rfl
    · rw [if_neg hp]
      rw [if_neg hp] at ec
      exact ⟨hDl', n - (i + 1), by (first | lia | omega), rfl, hlt, by rw [hys, ec]; rfl, sm.trans u, hDl'⟩
  · have e : i = n := by (first | lia | omega)
    subst e
    exact .inl ⟨⟨_, _, SqL.of hra, SqL.of hrb, by rw [List.length_map, List.length_map]; (first | lia | omega)⟩, hd H D ys sm hD hDl hys⟩
end L3

namespace L3
open PySem PySem.W PySem.Calls PySem.Spec PyProof.Rows L2 Ra
/-! ### the head, with the script's numbers bounded (what is handed in can be laid: 2^20 bits) -/
end L3

namespace L3
open PySem PySem.Spec PyProof.Rows L2 Ra
/-! ### a class of the program's own: methods, making, isinstance -/
structure CalM (P : Program) (w : World) (K : PySem.W.Frag) (mg : Str → Option Value) (base : Heap) (C : Addr) (m : Str) (k : Nat) (ps : List Str) (sp : Sp) : Prop where
  ex : ∃ f fd, FnOk P w K mg base CX0 k f fd ps sp ∧ Binds K fd ps [] ∧ Meth K C m f ∧ Cls K C
structure CalC (P : Program) (w : World) (K : PySem.W.Frag) (mg : Str → Option Value) (base : Heap) (x : Str) (C : Addr) (k : Nat) (ps : List Str) (sp : Sp) : Prop where
  ex : ∃ f fd, FnOk P w K mg base CX0 k f fd ps sp ∧ Binds K fd ps [] ∧ Mk K C f ∧ mg x = some (.ref C)
section
variable {X : Cx} {C : Addr} {m x : Str} {k j : Nat} {ps : List Str} {sp : Sp} {o e : Expr} {es : List Expr} {ta : TE} {t : TA} {p apos pos : Pos} {pl : Sem Bool}
theorem pe_m0 (Cm : CalM X.prog X.w X.K X.mg X.base C m k ps sp) (hr : Room j X.A) (he : PE X o ta) (hkj : k ≤ j := by decide)
    (ht : eval (.Call (.Attribute o m apos) [] [] pos) X.env = (do
      let ov ← eval o X.env
      standAt apos.atName
      let (f, first) ← holding [ov] (getMethod ov m pl)
      callWith pos f first (backTo pos (starEach [] X.env)) (backToKw pos (keywordEach [] X.env))) := by rfl) :
    PE X (.Call (.Attribute o m apos) [] [] pos) (tMeth C m sp [] E0 ta tNil) := by
  obtain ⟨f, fd, F, b, hm, cl⟩ := Cm.ex
  exact pe_meth0 he cl hm F (hr.mono hkj) b .nil pass0 ht
theorem pe_mk (Cc : CalC X.prog X.w X.K X.mg X.base x C k ps sp) (hr : Room j X.A) (ha : PA X (e :: es) t) (hkj : k + 1 ≤ j := by decide) (hg : Gl X x := by rfl)
    (hdb : (x == ("__debug__" : Str)) = false := by decide) (he : starEach (e :: es) X.env = (false, eval e X.env) :: starEach es X.env := by rfl) (hpl : (backTo pos (starEach es X.env)).any (·.1) = false := by rfl) :
    PE X (.Call (.Name x p) (e :: es) [] pos) (tMake C sp [] E0 t) := by
  obtain ⟨f, fd, F, b, M, hm⟩ := Cc.ex
  exact pe_make M F (hr.mono hkj) hg hm b .nil pass0 ha hdb he hpl
end
/-! ### a def with defaults; a call with keywords -/
structure CalD (P : Program) (w : World) (K : PySem.W.Frag) (mg : Str → Option Value) (base : Heap) (x : Str) (k : Nat) (ps : List Str) (ds : List Value) (dvs : List V) (sp : Sp) : Prop where
  ex : ∃ f fd, FnOk P w K mg base CX0 k f fd ps sp ∧ Binds K fd ps ds ∧ PySem.W.keepIn K (.ref f) = true ∧ mg x = some (.ref f)
  dv : Vals dvs ds
structure CalK (P : Program) (w : World) (K : PySem.W.Frag) (mg : Str → Option Value) (base : Heap) (x : Str) (k : Nat) (ps ks : List Str) (gV : List V → List V → List V) (sp : Sp) : Prop where
  ex : ∃ f fd g, FnOk P w K mg base CX0 k f fd ps sp ∧ KBinds K fd ps ks g gV ∧ PySem.W.keepIn K (.ref f) = true ∧ mg x = some (.ref f)
abbrev FunD (K : PySem.W.Frag) (x qual : Str) (st : Stmt) (dV : Value) (f : Addr) (fd : FuncData) : Prop := ∃ (oc : Value) (od : Option Addr) (kV doc pm : Value) (an : Option Addr) (cdv ct : Value) (osl : Array (Option Value)),
      fd = PySem.W.fnOf x qual (defArgs st) (defBody st) (defScope st) dV kV doc pm an cdv ct ∧ K.lookup f = some ⟨oc, od, .func fd, osl⟩ ∧ PySem.W.codeIn K cdv qual = true
/-! ### xs[::-1] -/
def tRevS (K : PySem.W.Frag) (te ts : TE) : TE := fun σ H Q => te σ H fun x H1 => ts σ H1 fun y H2 => ∃ a xs, x = .ref a ∧ y = .int (-1) ∧ SqL K H2 a xs ∧ ∀ p, H2 p = none → Q (.ref p) (upd H2 p (.lst xs.reverse))
end L3

namespace L3
open PySem PySem.Spec PyProof.Rows L2 Ra
/-! ### all(..), a module's whole number, a comprehension of truths -/
theorem pe_globI {X : Cx} {x : Str} {n : Int} {pos : Pos} (hg : Gl X x) (hm : ∃ t, X.mg x = some (.int n t)) (hd : (x == ("__debug__" : Str)) = false := by decide) : PE X (.Name x pos) (tC (.int n)) := by
  obtain ⟨t, hm⟩ := hm
  exact pe_glob hg hm ⟨t, rfl⟩ hd
theorem call_all {X : Cx} (hc : X.calm = true) : CallR X (.builtin "all") (fun xs H Q => ∃ p bs, xs = [.ref p] ∧ SqL X.K H p (List.map V.bl bs) ∧ Q (.bl (bs.all id)) H) := by
  intro pins s σ H xs us Q I r h
  obtain ⟨p, bs, rfl, hq, q⟩ := h
  obtain ⟨u, rfl, rx⟩ := vals1 r
  cases rx
  obtain ⟨its, rv, pl, hz⟩ := I.list hq
  have hlen := rv.length
  rw [List.length_map] at hlen
  have lt : p < s.heap.objs.size := by
    obtain ⟨o, ho, _⟩ := pl.isList
    exact Heap.lt_size ho
  refine call_all_walk (wpAny_pyIter_list pl.isList ?_)
  refine ⟨s.heap.objs.size, _, _, _, _, _, (fun i => (bs[i]?).getD true), rfl, Walks.list (A := X.A.in1) (I.ok.hd hc) _ p (Nat.ne_of_lt lt) its.toArray, ?st, ?tr, fun h' tk hk => ?_⟩
  case st => exact ⟨⟨_, Heap.get?_push_size _ rfl, rfl, rfl⟩, pl.isList.at fun o e => Heap.get?_push_of_some _ e⟩
  case tr =>
    intro i v s1 Q1 E1 hv q1
    have hv' : its[i]? = some v := by simpa using hv
    have hi : i < bs.length := by
      have := (List.getElem?_eq_some_iff.mp hv').1
      (first | lia | omega)
    have eb : bs[i]? = some bs[i] := List.getElem?_eq_getElem hi
    obtain ⟨u, hu, ru⟩ := rv.get (i := i) (x := .bl bs[i]) (by rw [List.getElem?_map, eb]; rfl)
    rw [hv'] at hu
    cases hu
    cases ru
    have q2 : Q1 ((bs[i]?).getD true) s1 := q1
    rw [eb] at q2
    exact wpAny_truthy_bool q2
  · have e : (List.range its.toArray.size).all (fun i => (bs[i]?).getD true) = bs.all id := by
      rw [List.size_toArray, ← hlen, Bool.eq_iff_iff, List.all_eq_true, List.all_eq_true]
      constructor
      · intro hh b hb
        obtain ⟨i, hi, rfl⟩ := List.getElem_of_mem hb
        have := hh i (List.mem_range.mpr hi)
        rw [List.getElem?_eq_getElem hi] at this
        exact this
      · intro hh i hi
        have hi' := List.mem_range.mp hi
        rw [List.getElem?_eq_getElem hi']
        exact hh _ (List.getElem_mem hi')
    rw [e]
    refine ⟨.bl (bs.all id), H, ?_, rfl, q⟩
    exact I.kept (h' := h') (t' := tk) fun b o eb => hk b o (by
      simp
      exact Nat.ne_of_lt (Heap.lt_size eb)) (Heap.get?_push_of_some _ eb)
theorem comp_listB {K : PySem.W.Frag} {a : Addr} {xs : List V} {te : Shared → Hp → Addr → List Addr → TE} {js : List Nat} {σ : L2.St} {H1 : Hp} {Q : VK} (hn : xs.length ≤ 100000) (ha : H1 a = some (.lst xs)) (f : V → Bool)
    (hs : ∀ s₀ H₀ C ex x H (R : VK), x ∈ xs → Same H1 H → (∀ H2, Same H H2 → R (.bl (f x)) H2) → te s₀ H₀ C ex (some x :: js.map fun j => (σ[j]?).join) H R)
    (hd : ∀ H D, Same H1 H → H1 D = none → H D = some (.lst ((xs.map f).map V.bl)) → Q (.ref D) H) : CompAt (Itl K a) te js σ Q H1 := by
  intro D hD
  refine ⟨fun i m ys H => m = xs.length - i ∧ i ≤ xs.length ∧ ys = ((xs.take i).map f).map V.bl ∧ Same H1 H ∧ H D = some (.lst ys), ⟨xs.length, by simp, Nat.zero_le _, rfl, same_upd hD _, upd_same⟩, ?_⟩
  rintro i m ys H ⟨rfl, hi, rfl, sm, hDl⟩
  refine ⟨hDl, ?_⟩
  have hr := sm _ _ ha
  by_cases hlt : i < xs.length
  · have eq : xs[i]? = some xs[i] := List.getElem?_eq_getElem hlt
    refine .inr ⟨⟨_, _, SqL.of hr, eq⟩, fun x H' y s₀ H₀ C ex => ?_⟩
    obtain ⟨e, y⟩ := y
    subst e
    have ex' := y _ (SqL.of hr)
    rw [eq] at ex'
    cases ex'
    refine hs s₀ H₀ C ex _ H' _ (List.getElem_mem hlt) sm fun H2 s2 => ?_
    have h2 := s2 _ _ hDl
    have hz : (100000 : Nat) < sizeLine := by decide
    refine ⟨h2, by rw [List.length_map, List.length_map, List.length_take]; (first | lia | omega), xs.length - (i + 1), by (first | lia | omega), rfl, hlt, ?_, ?_, upd_same⟩
    · rw [List.take_succ, eq, List.map_append, List.map_append]; rfl
    · intro b o e
      rw [upd_ne (ne_of_none e hD)]
      exact s2 _ _ (sm _ _ e)
  · have e : i = xs.length := by (first | lia | omega)
    subst e
    rw [List.take_length] at hDl
    exact .inl ⟨⟨_, SqL.of hr, Nat.le_refl _⟩, hd H D sm hD hDl⟩
/-! ### a written row of many things: sealed, so that nothing is unfolded while it is put together -/
structure PEw (X : Cx) (e : Expr) (te : TE) : Prop where
  h : PE X e te
structure PAw (X : Cx) (es : List Expr) (t : TA) : Prop where
  h : PA X es t
section
variable {X : Cx} {es xs : List Expr} {e e2 : Expr} {p p2 : Pos} {te te2 : TE} {t : TA} {k : Nat}
theorem w_int {i : Int} : PEw X (.Constant (.int i) k p) (tC (.int i)) := ⟨pe_int⟩
theorem w_pow (h : PEw X e te) (h2 : PEw X e2 te2) : PEw X (.BinOp e .Pow e2 p) (tOp (rI CPow fun i j => .int (i ^ j.toNat)) te te2) := ⟨pe_op op_pow h.h h2.h⟩
theorem w_lst (h : PAw X es t) : PEw X (.List es p) (tLst t) := ⟨pe_lst h.h⟩
theorem aw_nil : PAw X [] tNil := ⟨pa_nil⟩
theorem aw_con {c} (ha : PEw X (.Constant c k p) te) (hr : PAw X es t) : PAw X (.Constant c k p :: es) (tCons te t) := ⟨pa_cons ha.h hr.h rfl⟩
theorem aw_bin {o} (ha : PEw X (.BinOp e o e2 p) te) (hr : PAw X es t) : PAw X (.BinOp e o e2 p :: es) (tCons te t) := ⟨pa_cons ha.h hr.h rfl⟩
end
structure PSw (X : Cx) (st : Stmt) (t : TS) : Prop where
  h : PS X st t
structure PSsw (X : Cx) (ss : List Stmt) (t : TS) : Prop where
  h : PSs X ss t
section
variable {X : Cx} {a b e : Expr} {pos pos' : Pos} {ta tb te : TE} {st : Stmt} {ss : List Stmt} {t u : TS}
end
end L3


/-! ## xs[::2], xs[1::2] -/
namespace L3
open PySem PySem.Spec L2 Ra PyProof.Rows
/-- each second one, from the first on -/
def ev2 {α : Type} : List α → List α
  | [] => []
  | [x] => [x]
  | x :: _ :: l => x :: ev2 l
theorem ev2_map {α β : Type} (f : α → β) : ∀ l : List α, (ev2 l).map f = ev2 (l.map f)
  | [] => rfl
  | [_] => rfl
  | x :: y :: l => congrArg (f x :: ·) (ev2_map f l)
theorem ev2_mem {α : Type} {z : α} : ∀ {l : List α}, z ∈ ev2 l → z ∈ l
  | [], h => h
  | [_], h => h
  | x :: y :: l, h => by
    rcases List.mem_cons.mp h with e | e
    · rw [e]; exact List.mem_cons_self
    · exact List.mem_cons_of_mem _ (List.mem_cons_of_mem _ (ev2_mem e))
theorem ev2_length {α : Type} : ∀ l : List α, (ev2 l).length = (l.length + 1) / 2
  | [] => by simp [ev2]
  | [_] => by simp [ev2]
  | x :: y :: l => by
    show (ev2 l).length + 1 = (l.length + 1 + 1 + 1) / 2
    rw [ev2_length l]
    (first | lia | omega)
theorem ev2_pick {α : Type} : ∀ l : List α, (List.range ((l.length + 1) / 2)).filterMap (fun k => l[2 * k]?) = ev2 l
  | [] => by simp [ev2]
  | [_] => by simp [ev2, List.range_succ]
  | x :: y :: l => by
    rw [show ((x :: y :: l).length + 1) / 2 = (l.length + 1) / 2 + 1 by simp only [List.length_cons]; (first | lia | omega), List.range_succ_eq_map, List.filterMap_cons]
    show x :: List.filterMap (fun k => (x :: y :: l)[2 * k]?) (List.map Nat.succ (List.range ((l.length + 1) / 2))) = x :: ev2 l
    rw [List.filterMap_map]
    refine congrArg (x :: ·) ?_
    rw [← ev2_pick l]
    rfl
theorem fm_congr2 {α β : Type} {f h : α → Option β} : ∀ {l : List α}, (∀ x ∈ l, f x = h x) → l.filterMap f = l.filterMap h
  | [], _ => rfl
  | x :: l, e => by
    rw [List.filterMap_cons, List.filterMap_cons, e x List.mem_cons_self, fm_congr2 fun y hy => e y (List.mem_cons_of_mem _ hy)]
def Begun (lo : Option Int) (n : Nat) : Prop := (lo = none ∧ n = 0) ∨ lo = some (n : Int)
theorem pick_two (its : List Value) {lo : Option Int} {n : Nat} (h : Begun lo n) : slicePick its.toArray lo none (some 2) = (ev2 (its.drop n)).toArray := by
  unfold slicePick
  congr 1
  obtain ⟨m, hm⟩ : ∃ m, m = min n its.length := ⟨_, rfl⟩
  have eb : sliceBounds lo none (some 2) its.toArray.size = ((m : Int), (its.length : Int), 2) := by
    rw [List.size_toArray]
    rcases h with ⟨rfl, rfl⟩ | rfl
    · rw [hm, Nat.zero_min]; rfl
    · simp only [sliceBounds, Option.getD_some, show (2 : Int) > 0 by decide, if_true]
      refine Prod.ext ?_ rfl
      show max 0 (min (if (n : Int) < 0 then (n : Int) + (its.length : Int) else (n : Int)) (its.length : Int)) = (m : Int)
      rw [if_neg (by (first | lia | omega))]
      (first | lia | omega)
  rw [eb]
  have er : sliceRange (m : Int) (its.length : Int) 2 = (List.range (((its.drop n).length + 1) / 2)).map fun k => m + 2 * k := by
    unfold sliceRange
    have hc : (if (2 : Int) > 0 then (if (m : Int) < (its.length : Int) then ((its.length : Int) - (m : Int) + 2 - 1) / 2 else 0) else (if (m : Int) > (its.length : Int) then ((m : Int) - (its.length : Int) - 2 - 1) / (-2) else 0)).toNat = ((its.drop n).length + 1) / 2 := by
      rw [if_pos (by decide), List.length_drop]
      by_cases h : (m : Int) < (its.length : Int)
      · rw [if_pos h]; (first | lia | omega)
      · rw [if_neg h]; (first | lia | omega)
    show (List.range (if (2 : Int) > 0 then _ else _ : Int).toNat).map _ = _
    rw [hc]
    exact List.map_congr_left fun k _ => by (first | lia | omega)
  show List.filterMap _ (sliceRange (m : Int) (its.length : Int) 2) = ev2 (its.drop n)
  rw [er, List.filterMap_map, ← ev2_pick]
  refine fm_congr2 fun k hk => ?_
  have hk' := List.mem_range.mp hk
  rw [List.length_drop] at hk'
  show its.toArray[m + 2 * k]? = (its.drop n)[2 * k]?
  rw [List.getElem?_toArray, List.getElem?_drop, show m = n by (first | lia | omega)]
theorem vals_ev2 : ∀ {xs : List V} {us : List Value}, Vals xs us → Vals (ev2 xs) (ev2 us)
  | _, _, .nil => .nil
  | _, _, .cons a .nil => .cons a .nil
  | _, _, .cons a (.cons _ r) => .cons a (vals_ev2 r)
def tStep2 (K : PySem.W.Frag) (te : TE) (tl : TO) (ts : TE) : TE := fun σ H Q => te σ H fun x H1 => tl σ H1 fun l H2 => ts σ H2 fun y H3 => ∃ a xs n, x = .ref a ∧ y = .int 2 ∧ Begun l n ∧ SqL K H3 a xs ∧ ∀ p, H3 p = none → Q (.ref p) (upd H3 p (.lst (ev2 (xs.drop n))))
theorem pe_step2 {X : Cx} {e st : Expr} {lo : Option Expr} {te ts : TE} {tl : TO} {p2 pos : Pos} (he : PE X e te) (hl : PO X lo tl) (hs : PE X st ts) : PE X (.Subscript e (.Slice lo none (some st) p2) pos) (tStep2 X.K te tl ts) := by
  intro pins s σ H Q I h
  refine Subscript_ (thn (he pins s σ H _ I h) fun v s1 ⟨x, H1, I1, r1, q1⟩ => ?_)
  refine wpAny_Slice (thn (hl pins s1 σ H1 _ I1 q1) fun vl s2 ⟨l, H2, I2, pl, q2⟩ => ?_)
  rw [evalPart_none, evalPart_some]
  refine wpAny_pure (thn (hs pins s2 σ H2 _ I2 q2) fun w s3 ⟨y, H3, I3, r3, q3⟩ => ?_)
  obtain ⟨a, xs, n, rfl, rfl, hb, hx, q⟩ := q3
  cases r1
  obtain ⟨t, rfl⟩ := r3
  have I4 : Inv X pins σ H3 { s3 with heap := s3.heap.push { cls := .type "slice", data := .fields #[vl, .none, .int 2 t] } } := I3.kept (t' := s3.toks) fun b ob q => Heap.get?_push_of_some _ q
  obtain ⟨its, rv, ht, hz⟩ := I4.list hx
  have hlen := rv.length
  show wpAny (model X.prog X.w) X.A (subscriptTail e (.Slice lo none (some st) p2) (.ref a) (.ref s3.heap.objs.size)) (EP X pins σ Q) X.xe { s3 with heap := s3.heap.push { cls := .type "slice", data := .fields #[vl, .none, .int 2 t] } }
  refine tail_any (ops := [.ref a, .ref s3.heap.objs.size]) ht.isList.typeIs slot_list_getitem.lookup ?_ (by with_unfolding_all rfl)
  refine wpAny_getItem_list_slice ht.isList (Heap.IsSliceOf.new ..) pl .none (.int 2 t) (by simp) ?_ (by rw [List.size_toArray] <;> (first | lia | omega))
  rw [pick_two its hb]
  refine ⟨.ref _, _, I4.laid (t' := s3.toks) (o := .lst (ev2 (xs.drop n))) (fun b ob q => Heap.get?_push_of_some _ q) (Nat.le_refl _) ?_, rfl, q _ (I4.hok.fresh (Nat.le_refl _))⟩
  refine ⟨?_, _, 0, vals_ev2 (rv.drop n), Heap.get?_push_size _ rfl⟩
  rw [ev2_length, List.length_drop]
  (first | lia | omega)
end L3

namespace My
open PySem L2 L3 Ra Rq PyProof.Rows
/-! ### the steps of a reading -/
theorem la1 {us : List Value} (h : us.length = 1) : ∃ a, us = [a] := match us, h with | [a], _ => ⟨a, rfl⟩
theorem la2 {us : List Value} (h : us.length = 2) : ∃ a b, us = [a, b] := match us, h with | [a, b], _ => ⟨a, b, rfl⟩
theorem la3 {us : List Value} (h : us.length = 3) : ∃ a b c, us = [a, b, c] := match us, h with | [a, b, c], _ => ⟨a, b, c, rfl⟩
theorem bt2 {n : Nat} {x : Int} (h : x.natAbs < 2 ^ n) : Bt n x := h
local macro_rules | `(tactic| walk_at "s") => `(tactic| first
  | refine ⟨_, rfl, ?_⟩
  | refine ⟨_, _, rfl, rfl, ?_⟩
  | refine ⟨_, _, rfl, ?_⟩
  | refine ⟨rfl, ?_⟩
  | refine ⟨_, _, _, _, rfl, rfl, Pr.sq (by assumption), rfl, ?_⟩
  | refine ⟨_, _, _, _, rfl, TyOf.int _, kit_int_int _, ?_⟩
  | refine ⟨_, _, _, _, rfl, TyOf.int _, kit_int_bool _, ?_⟩
  | refine ⟨_, _, _, _, rfl, TyOf.tup (by assumption), kit_tup_tup _, ?_⟩
  | refine ⟨_, _, rfl, .inr (Pr.sq (by assumption)), ?_⟩
  | refine iteF ?_
  | refine iteT ?_
  | refine ⟨(by show (0 : Int) < _; decide), ?_⟩
  | refine ⟨⟨(by decide), bt2 (by decide +kernel)⟩, ?_⟩
  | refine ⟨(⟨(by decide), (by decide), (by decide)⟩ : CPow _ _), ?_⟩)
local macro_rules | `(tactic| walk_at "r") => `(tactic| repeat walk_at "s")

structure Txt (mg : Str → Option Value) : Prop where
  z_abs : mg "abs" = none
  z_len : mg "len" = none
  z_isinstance : mg "isinstance" = none
  z_int : mg "int" = none
  z_bool : mg "bool" = none
  z_tuple : mg "tuple" = none
  z_range : mg "range" = none
  z_list : mg "list" = none
  z_max : mg "max" = none
  z_all : mg "all" = none
  z_zip : mg "zip" = none
  c_MOST_BEADS : ∃ t, mg "MOST_BEADS" = some (.int 12 t)

structure OwnCord (K : PySem.W.Frag) (mg : Str → Option Value) (C : Addr) : Prop where
  m : mg "Cord" = some (.ref C)
  cl : Cls K C
  c1 : PySem.W.findIn K (.ref C) "__class__" = some (some (.builtin "object.__class__"))
  c2 : PySem.W.specialIn K (.builtin "object.__class__") "__get__" = some (some (.builtin "getset_descriptor.__get__"))
  c3 : PySem.W.takesIn K (.builtin "object.__class__") = some true
  c4 : PySem.W.mroIn K C (.type "object") = some true
  self : PySem.W.kitOne K (.ref C) (.ref C) = some true
  n_kept_gaps : NoAttr K C "kept_gaps"
  n_kept_weights : NoAttr K C "kept_weights"
def top (i : Nat) : Stmt := PySem.Challenge.pw_tautcord_k74_whole_no_worth_rises.main.body.getD i (.Pass ⟨0, 0, 0, 0⟩)
abbrev s_wall : Stmt := top 0
abbrev s_NoCord_init : Stmt := inClass (top 3) 0
abbrev s_is_whole : Stmt := top 6
abbrev s_divisor : Stmt := top 7
abbrev s_is_fraction : Stmt := top 9
abbrev s_plus : Stmt := top 10
abbrev s_times : Stmt := top 11
abbrev s_side : Stmt := top 12
abbrev s_is_row_above : Stmt := top 15
abbrev s_Cord_init : Stmt := inClass (top 16) 0
abbrev s_Cord_gaps : Stmt := inClass (top 16) 1
abbrev s_Cord_weights : Stmt := inClass (top 16) 2
abbrev s_Cord_beads : Stmt := inClass (top 16) 3
abbrev s_Cord_length : Stmt := inClass (top 16) 4
abbrev s_Cord_turned : Stmt := inClass (top 16) 5
abbrev s_heavier : Stmt := top 18
abbrev s_longer : Stmt := top 19
abbrev s_cut : Stmt := top 20
abbrev s_check_bead : Stmt := top 21
abbrev s_with_more : Stmt := top 22
abbrev s_signs : Stmt := top 24
abbrev s_turns : Stmt := top 25
abbrev s_worths_below : Stmt := top 26
abbrev s_row_at : Stmt := top 27
abbrev s_law_cell_at : Stmt := top 29
abbrev s_law_mixed : Stmt := top 30
abbrev s_law_signed : Stmt := top 31
abbrev s_law_part : Stmt := top 32
abbrev s_law_low : Stmt := top 33
abbrev s_law_cord_by : Stmt := top 34
abbrev s_law_counts : Stmt := top 35
abbrev s_law_grown : Stmt := top 36
abbrev s_law : Stmt := top 37
/-! ### what the defs promise -/
def sp_div : Sp := fun vs H Q _ => ∃ a b, vs = [.int a, .int b] ∧ Q (.int (g a b)) H
def sp_cell (K : PySem.W.Frag) : Sp := fun vs H Q _ => ∃ (a : Addr) (ns : List Int) (k : Nat), vs = [.ref a, .int k] ∧ SqL K H a (ns.map V.int) ∧ Q (.int (cellA ns k)) H
def sp_mixed : Sp := fun vs H Q _ => ∃ c k, vs = [.int c, .int k] ∧ (0 ≤ k ∧ k ≤ 1000) ∧ Q (.int (mixed c k)) H
def sp_signed : Sp := fun vs H Q _ => ∃ n, vs = [.int n] ∧ ∀ H', Same H H' → Q (.int (signed n)) H'
def sp_low : Sp := fun vs H Q _ => ∃ t b, vs = [.int t, .int b] ∧ 0 < b ∧ Bt 8000 b ∧ ∀ r H', Same H H' → Pr H' r (t / g t b) (b / g t b) → Q (.ref r) H'
def sp_ratio : Sp := fun vs H Q _ => ∃ n, vs = [.int n] ∧ 0 ≤ n ∧ ∀ r x y H', Same H H' → Fq x y → Bt 101 x → Bt 101 y → Pr H' r x y → Q (.ref r) H'
def sp_whole : Sp := fun vs H Q _ => ∃ i, vs = [.int i] ∧ Q (.bl true) H
def sp_is : Sp := fun vs H Q _ => ∃ r x y t b, vs = [.ref r, .int t, .int b] ∧ Pr H r x y ∧ Fq x y ∧ x * b = t * y ∧ IntMulOk x b ∧ IntMulOk t y ∧ Q (.bl true) H
def sp_plus : Sp := fun vs H Q _ => ∃ p q a b c d, vs = [.ref p, .ref q] ∧ Pr H p a b ∧ Pr H q c d ∧ 0 < b ∧ 0 < d ∧ Bt 8000 a ∧ Bt 8000 b ∧ Bt 8000 c ∧ Bt 8000 d ∧ ∀ r H', Same H H' → Pr H' r (plsN a b c d) (plsD a b c d) → Q (.ref r) H'
def sp_minus : Sp := fun vs H Q _ => ∃ p q a b c d, vs = [.ref p, .ref q] ∧ Pr H p a b ∧ Pr H q c d ∧ 0 < b ∧ 0 < d ∧ Bt 8000 a ∧ Bt 8000 b ∧ Bt 8000 c ∧ Bt 8000 d ∧ ∀ r H', Same H H' → Pr H' r (plsN a b (-c) d) (plsD a b (-c) d) → Q (.ref r) H'
def sp_times : Sp := fun vs H Q _ => ∃ p q a b c d, vs = [.ref p, .ref q] ∧ Pr H p a b ∧ Pr H q c d ∧ 0 < b ∧ 0 < d ∧ Bt 8000 a ∧ Bt 8000 b ∧ Bt 8000 c ∧ Bt 8000 d ∧ ∀ r H', Same H H' → Pr H' r (tmsN a b c d) (tmsD a b c d) → Q (.ref r) H'
def sp_law (K : PySem.W.Frag) : Sp := fun vs H Q _ => ∃ (a : Addr) (ns : List Int), vs = [.ref a] ∧ SqL K H a (ns.map V.int) ∧ ns.length ≤ 63 ∧ ∀ H', Q (.bl true) H'
theorem g_bt {n : Nat} {t b : Int} (h : 0 < b) (k : Bt n b) : Bt n (g t b) := by
  refine k.of_le ?_
  have h1 : g t b ≤ b := Int.le_of_dvd h (g_dvd_right t b)
  have h2 := g_nonneg t b
  (first | lia | omega)
section
variable {P : Program} {w : World} {K : PySem.W.Frag} {mg : Str → Option Value} {base : Heap} {f : Addr} {fd : FuncData}
theorem sc_divisor : FnScope ["one", "other", "first", "second", "rest"] ["one", "other"] (defScope s_divisor) := ⟨rfl, rfl, rfl, by decide +kernel, rfl, by decide +kernel, by decide +kernel⟩
theorem ok_divisor (F : Fun K "divisor" "divisor" s_divisor f fd) (T : Txt mg) : FnOk P w K mg base CX0 1 f fd ["one", "other"] sp_div := by
  refine F.ok sc_divisor (fun vs H Q E h => ?_) (fun cdv A outer s H vs Q E hr h => ?_)
  · obtain ⟨a, b, rfl, _⟩ := h
    rfl
  obtain ⟨a, b, rfl, q⟩ := h
  refine ⟨_, (pss_cons (ps_set (i := 2) sc_divisor.nd rfl (Or.inl rfl) (pe_callB call_abs rfl T.z_abs boot_abs (pa_cons (pv 0) pa_nil)))
      (pss_cons (ps_set (i := 3) sc_divisor.nd rfl (Or.inl rfl) (pe_callB call_abs rfl T.z_abs boot_abs (pa_cons (pv 1) pa_nil)))
      (pss_cons (ps_while PassesOwn.never (pt_cmpR op_gt (pv 3) pe_int (nomark _))
        (pss_cons (ps_set (i := 4) sc_divisor.nd rfl (Or.inl rfl) (pe_op op_mod (pv 2) (pv 3)))
        (pss_cons (ps_set (i := 2) sc_divisor.nd rfl (Or.inl rfl) (pv 3))
        (pss_one (ps_set (i := 3) sc_divisor.nd rfl (Or.inl rfl) (pv 4))))))
      (pss_one (ps_ret (pv 2)))))), ?_⟩
  refine ⟨_, rfl, _, rfl, _, rfl, _, rfl, ?_⟩
  refine ⟨fun m σ H' => ∃ x y r, σ = [some (.int a), some (.int b), some (.int x), some (.int y), r] ∧ H = H' ∧ 0 ≤ x ∧ 0 ≤ y ∧ g x y = g a b ∧ m = y.toNat, ⟨_, _, _, _, rfl, rfl, ?_, ?_, g_abs a b, rfl⟩, ?_⟩
  · split <;> (first | lia | omega)
  · split <;> (first | lia | omega)
  rintro m σ _ ⟨x, y, r, rfl, rfl, hx, hy, e, rfl⟩
  refine ⟨_, rfl, _, _, rfl, rfl, _, rfl, ?_⟩
  refine ite2 (fun c => ⟨fun σ' H' => ∃ m', m' < y.toNat ∧ ∃ x y r, σ' = [some (.int a), some (.int b), some (.int x), some (.int y), r] ∧ H = H' ∧ 0 ≤ x ∧ 0 ≤ y ∧ g x y = g a b ∧ m' = y.toNat, fun _ _ h => h, ?_⟩) (fun c => ?_)
  · have c' : (0 : Int) < y := of_decide_eq_true c
    refine ⟨_, rfl, _, rfl, _, _, rfl, rfl, c', _, rfl, _, rfl, ?_⟩
    have h1 := Int.emod_nonneg x (show y ≠ 0 by (first | lia | omega))
    have h2 := Int.emod_lt_of_pos x c'
    exact ⟨_, by (first | lia | omega), y, x % y, _, rfl, rfl, hy, h1, by rw [g_step hx c', e], rfl⟩
  · have c' : ¬ (0 : Int) < y := of_decide_eq_false (Bool.eq_false_iff.mpr c)
    have y0 : y = 0 := by (first | lia | omega)
    refine ⟨_, rfl, ?_⟩
    rw [← e, y0, g_end hx] at q
    exact q
theorem sc_law_cell_at : FnScope ["_law_script", "_law_k"] ["_law_script", "_law_k"] (defScope s_law_cell_at) := ⟨rfl, rfl, rfl, by decide +kernel, rfl, by decide +kernel, by decide +kernel⟩
theorem ok_law_cell_at (F : Fun K "_law_cell_at" "_law_cell_at" s_law_cell_at f fd) (T : Txt mg) : FnOk P w K mg base CX0 1 f fd ["_law_script", "_law_k"] (sp_cell K) := by
  refine F.ok sc_law_cell_at (fun vs H Q E h => ?_) (fun cdv A outer s H vs Q E hr h => ?_)
  · obtain ⟨a, ns, k, rfl, _⟩ := h
    rfl
  obtain ⟨a, ns, k, rfl, hS, q⟩ := h
  refine ⟨_, (pss_cons (ps_if (pt_cmpR op_lt (pv 1) (pe_callB call_len_seq rfl T.z_len PySem.boot_len (pa_cons (pv 0) pa_nil)) (nomark _))
        (pss_one (ps_ret (pe_ix ix_list (pv 0) (pv 1) (fun _ _ => rfl))))
        pss_nil)
      (pss_one (ps_ret (pe_op op_add (pe_op op_mulB pe_int (pv 1)) pe_int)))), ?_⟩
  have hl : (ns.map V.int).length = ns.length := List.length_map _
  refine ⟨_, rfl, _, rfl, a, _, rfl, .inl hS, _, _, rfl, rfl, _, rfl, ?_⟩
  refine ite2 (fun c => ?_) (fun c => ?_)
  · have c' : (k : Int) < (((ns.map V.int).length : Nat) : Int) := of_decide_eq_true c
    rw [hl] at c'
    have hk : k < ns.length := by (first | lia | omega)
    refine ⟨_, rfl, _, rfl, a, _, _, _, rfl, rfl, hS, atI_nat (v := .int (cellA ns k)) ?_, q⟩
    rw [List.getElem?_map, List.getElem?_eq_getElem hk, cellA_in hk]
    rfl
  · have c' : ¬ (k : Int) < (((ns.map V.int).length : Nat) : Int) := of_decide_eq_false (Bool.eq_false_iff.mpr c)
    rw [hl] at c'
    refine ⟨_, rfl, _, _, rfl, rfl, CMul.ok (.inl ⟨by decide, by decide⟩), _, _, rfl, rfl, ?_⟩
    rw [cellA_out (by (first | lia | omega))] at q
    exact q
theorem sc_law_mixed : FnScope ["_law_cell", "_law_k"] ["_law_cell", "_law_k"] (defScope s_law_mixed) := ⟨rfl, rfl, rfl, by decide +kernel, rfl, by decide +kernel, by decide +kernel⟩
theorem ok_law_mixed (F : Fun K "_law_mixed" "_law_mixed" s_law_mixed f fd) (T : Txt mg) : FnOk P w K mg base CX0 1 f fd ["_law_cell", "_law_k"] sp_mixed := by
  refine F.ok sc_law_mixed (fun vs H Q E h => ?_) (fun cdv A outer s H vs Q E hr h => ?_)
  · obtain ⟨c, k, rfl, _⟩ := h
    rfl
  obtain ⟨c, k, rfl, ⟨hk0, hk1⟩, q⟩ := h
  have bk : Bt 64 k := Bt.between (by (first | lia | omega)) (by (first | lia | omega))
  have rest : ¬ (c % 2 = 0 ∧ 10 ^ 18 < c) → Q (.int (((c / 2) % 10 ^ 60 + k * k) * 6364136223846793013 + (k + 1) * 1442695040888963407)) H := fun h => by
    unfold mixed at q
    rw [if_neg h] at q
    exact q
  have one : (c % 2 = 0 ∧ 10 ^ 18 < c) → Q (.int (c / 2)) H := fun h => by
    unfold mixed at q
    rw [if_pos h] at q
    exact q
  have ok1 : ∀ x : Int, IntMulOk x 6364136223846793013 := fun x => CMul.ok (.inr ⟨by decide, by decide⟩)
  have ok2 : ∀ x : Int, IntMulOk x 1442695040888963407 := fun x => CMul.ok (.inr ⟨by decide, by decide⟩)
  have ok3 : IntMulOk k k := mul_of bk bk (by decide)
  refine ⟨_, (pss_cons (ps_if (PW.pt (pw_and (pt_cmpR op_eq (pe_op op_mod (pv 0) pe_int) pe_int (nomark _)) (pw_and1 (pt_cmpR op_gt (pv 0) (pe_op op_pow pe_int pe_int) (nomark _)))))
        (pss_one (ps_ret (pe_op op_fdP (pv 0) pe_int)))
        pss_nil)
      (pss_one (ps_ret (pe_op op_add (pe_op op_mulB (pe_op op_add (pe_op op_mod (pe_op op_fdP (pv 0) pe_int) (pe_op op_pow pe_int pe_int)) (pe_op op_mulB (pv 1) (pv 1))) pe_int) (pe_op op_mulB (pe_op op_add (pv 1) pe_int) pe_int))))), ?_⟩
  refine ⟨_, rfl, _, _, rfl, rfl, (by show (0 : Int) < 2; decide), rfl, _, rfl, ?_⟩
  refine ite2 (fun c1 => ?_) (fun c1 => ?_)
  · have d1 : c % 2 = 0 := V.int.inj (of_decide_eq_true c1)
    refine ⟨_, rfl, _, _, rfl, rfl, ⟨by decide, by decide, by decide⟩, _, _, rfl, rfl, _, rfl, ?_⟩
    refine ite2 (fun c2 => ?_) (fun c2 => ?_)
    · have d2 : (10 : Int) ^ 18 < c := of_decide_eq_true c2
      exact ⟨_, rfl, _, _, rfl, rfl, ⟨by decide, bt2 (by decide +kernel)⟩, one ⟨d1, d2⟩⟩
    · have d2 : ¬ (10 : Int) ^ 18 < c := of_decide_eq_false (Bool.eq_false_iff.mpr c2)
      refine ⟨_, rfl, _, _, rfl, rfl, ⟨by decide, bt2 (by decide +kernel)⟩, _, _, rfl, rfl, ⟨by decide, by decide, by decide⟩, _, _, rfl, rfl, (by show (0 : Int) < 10 ^ 60; decide), _, rfl, _, rfl, _, _, rfl, rfl, ok3, _, _, rfl, rfl, _, _, rfl, rfl, ok1 _, _, rfl, _, _, rfl, rfl, _, _, rfl, rfl, ok2 _, _, _, rfl, rfl, ?_⟩
      exact rest fun h => d2 h.2
  · have d1 : ¬ c % 2 = 0 := fun z => of_decide_eq_false (Bool.eq_false_iff.mpr c1) (congrArg V.int z)
    refine iteF ?_
    refine ⟨_, rfl, _, _, rfl, rfl, ⟨by decide, bt2 (by decide +kernel)⟩, _, _, rfl, rfl, ⟨by decide, by decide, by decide⟩, _, _, rfl, rfl, (by show (0 : Int) < 10 ^ 60; decide), _, rfl, _, rfl, _, _, rfl, rfl, ok3, _, _, rfl, rfl, _, _, rfl, rfl, ok1 _, _, rfl, _, _, rfl, rfl, _, _, rfl, rfl, ok2 _, _, _, rfl, rfl, ?_⟩
    exact rest fun h => d1 h.1
theorem sc_law_signed : FnScope ["_law_number"] ["_law_number"] (defScope s_law_signed) := ⟨rfl, rfl, rfl, by decide +kernel, rfl, by decide +kernel, by decide +kernel⟩
theorem ok_law_signed (F : Fun K "_law_signed" "_law_signed" s_law_signed f fd) (T : Txt mg) : FnOk P w K mg base CX0 1 f fd ["_law_number"] sp_signed := by
  refine F.ok sc_law_signed (fun vs H Q E h => ?_) (fun cdv A outer s H vs Q E hr h => ?_)
  · obtain ⟨n, rfl, _⟩ := h
    rfl
  obtain ⟨n, rfl, q⟩ := h
  refine ⟨_, (pss_one (ps_ret (pe_ix ix_list (pe_lst (pa_cons (pe_op op_fdP (pv 0) pe_int) (pa_cons (pe_op op_sub (pe_un un_neg pe_int) (pe_op op_fdP (pv 0) pe_int)) pa_nil))) (pe_op op_mod (pv 0) pe_int) (fun _ _ => rfl)))), ?_⟩
  refine ⟨_, rfl, _, _, rfl, rfl, ⟨by decide, bt2 (by decide +kernel)⟩, _, rfl, _, rfl, _, _, rfl, rfl, ⟨by decide, bt2 (by decide +kernel)⟩, _, _, rfl, rfl, (by show 2 ≤ sizeLine; decide), fun p hp => ?_⟩
  have hv : atI [V.int (n / 2), V.int (-1 - n / 2)] (n % 2) = some (.int (signed n)) := by
    have h : n % 2 = 0 ∨ n % 2 = 1 := by (first | lia | omega)
    unfold signed
    rcases h with h | h
    · rw [h, if_pos rfl]
      rfl
    · rw [h, if_neg (by decide)]
      rfl
  exact ⟨_, rfl, _, _, rfl, rfl, (by show (0 : Int) < 2; decide), p, _, _, _, rfl, rfl, SqL.of upd_same, hv, q _ (same_upd hp _)⟩
theorem sc_law_part : FnScope ["_law_one", "_law_other"] ["_law_one", "_law_other"] (defScope s_law_part) := ⟨rfl, rfl, rfl, by decide +kernel, rfl, by decide +kernel, by decide +kernel⟩
theorem ok_law_part (F : Fun K "_law_part" "_law_part" s_law_part f fd) (T : Txt mg) : FnOk P w K mg base CX0 1 f fd ["_law_one", "_law_other"] sp_div := by
  refine F.ok sc_law_part (fun vs H Q E h => ?_) (fun cdv A outer s H vs Q E hr h => ?_)
  · obtain ⟨a, b, rfl, _⟩ := h
    rfl
  obtain ⟨a, b, rfl, q⟩ := h
  refine ⟨_, (pss_cons (ps_set (i := 0) sc_law_part.nd rfl (Or.inl rfl) (pe_callB call_abs rfl T.z_abs boot_abs (pa_cons (pv 0) pa_nil)))
      (pss_cons (ps_set (i := 1) sc_law_part.nd rfl (Or.inl rfl) (pe_callB call_abs rfl T.z_abs boot_abs (pa_cons (pv 1) pa_nil)))
      (pss_cons (ps_while PassesOwn.never (pt_cmpR op_gt (pv 1) pe_int (nomark _))
        (pss_one (ps_par (i := 0) (j := 1) rfl sc_law_part.nd rfl rfl (by decide) rfl rfl (pa_cons (pv 1) (pa_cons (pe_op op_mod (pv 0) (pv 1)) pa_nil)) (by with_unfolding_all rfl))))
      (pss_one (ps_ret (pv 0)))))), ?_⟩
  refine ⟨_, rfl, _, rfl, _, rfl, _, rfl, ?_⟩
  refine ⟨fun m σ H' => ∃ x y, σ = [some (.int x), some (.int y)] ∧ H = H' ∧ 0 ≤ x ∧ 0 ≤ y ∧ g x y = g a b ∧ m = y.toNat, ⟨_, _, _, rfl, rfl, ?_, ?_, g_abs a b, rfl⟩, ?_⟩
  · split <;> (first | lia | omega)
  · split <;> (first | lia | omega)
  rintro m σ _ ⟨x, y, rfl, rfl, hx, hy, e, rfl⟩
  refine ⟨_, rfl, _, _, rfl, rfl, _, rfl, ?_⟩
  refine ite2 (fun c => ⟨fun σ' H' => ∃ m', m' < y.toNat ∧ ∃ x y, σ' = [some (.int x), some (.int y)] ∧ H = H' ∧ 0 ≤ x ∧ 0 ≤ y ∧ g x y = g a b ∧ m' = y.toNat, fun _ _ h => h, ?_⟩) (fun c => ?_)
  · have c' : (0 : Int) < y := of_decide_eq_true c
    refine ⟨_, rfl, _, rfl, _, rfl, _, _, rfl, rfl, c', _, _, rfl, ?_⟩
    have h1 := Int.emod_nonneg x (show y ≠ 0 by (first | lia | omega))
    have h2 := Int.emod_lt_of_pos x c'
    exact ⟨_, by (first | lia | omega), y, x % y, rfl, rfl, hy, h1, by rw [g_step hx c', e], rfl⟩
  · have c' : ¬ (0 : Int) < y := of_decide_eq_false (Bool.eq_false_iff.mpr c)
    have y0 : y = 0 := by (first | lia | omega)
    refine ⟨_, rfl, ?_⟩
    rw [← e, y0, g_end hx] at q
    exact q
theorem sc_law_low : FnScope ["_law_top", "_law_bottom", "_law_part_here"] ["_law_top", "_law_bottom"] (defScope s_law_low) := ⟨rfl, rfl, rfl, by decide +kernel, rfl, by decide +kernel, by decide +kernel⟩
theorem ok_law_low (F : Fun K "_law_low" "_law_low" s_law_low f fd) (T : Txt mg) (C_law_part : Cal P w K mg base "_law_part" 1 ["_law_one", "_law_other"] sp_div) : FnOk P w K mg base CX0 2 f fd ["_law_top", "_law_bottom"] sp_low := by
  refine F.ok sc_law_low (fun vs H Q E h => ?_) (fun cdv A outer s H vs Q E hr h => ?_)
  · obtain ⟨t, b, rfl, _⟩ := h
    rfl
  obtain ⟨t, b, rfl, hb, bb, q⟩ := h
  have c1 : 0 < g t b ∧ Bt 9000 (g t b) := ⟨g_pos (by (first | lia | omega)), (g_bt hb bb).mono (by decide)⟩
  refine ⟨_, (pss_cons (ps_set (i := 2) sc_law_low.nd rfl (Or.inl rfl) (pe_cl C_law_part hr (pa_cons (pv 0) (pa_cons (pv 1) pa_nil))))
      (pss_one (ps_ret (pe_tup (pa_cons (pe_op op_fdP (pv 0) (pv 2)) (pa_cons (pe_op op_fdP (pv 1) (pv 2)) pa_nil)))))), ?_⟩
  refine ⟨_, rfl, _, rfl, _, _, rfl, ?_⟩
  exact ⟨_, rfl, _, rfl, _, _, rfl, rfl, c1, _, rfl, _, rfl, _, _, rfl, rfl, c1, (by show 2 ≤ sizeLine; decide), fun p hp => q p _ (same_upd hp _) Pr.new⟩
theorem sc_plus : FnScope ["one", "other", "shared", "top", "left"] ["one", "other"] (defScope s_plus) := ⟨rfl, rfl, rfl, by decide +kernel, rfl, by decide +kernel, by decide +kernel⟩
theorem ok_plus (F : Fun K "plus" "plus" s_plus f fd) (T : Txt mg) (C_divisor : Cal P w K mg base "divisor" 1 ["one", "other"] sp_div) : FnOk P w K mg base CX0 2 f fd ["one", "other"] sp_plus := by
  refine F.ok sc_plus (fun vs H Q E h => ?_) (fun cdv A outer s H vs Q E hr h => ?_)
  · obtain ⟨p, q, a, b, c, d, rfl, _⟩ := h
    rfl
  obtain ⟨p, q, a, b, c, d, rfl, hp, hq, hb, hd, ba, bb, bc, bd, k⟩ := h
  have c1 : 0 < g b d ∧ Bt 9000 (g b d) := ⟨g_pos (by (first | lia | omega)), (g_bt hd bd).mono (by decide)⟩
  have c2 : 0 < g (plsT a b c d) (g b d) ∧ Bt 9000 (g (plsT a b c d) (g b d)) := ⟨g_pos (by (first | lia | omega)), g_bt c1.1 c1.2⟩
  have m1 : IntMulOk a (d / g b d) := mul_of ba bd.ediv (by decide)
  have m2 : IntMulOk c (b / g b d) := mul_of bc bb.ediv (by decide)
  have m3 : IntMulOk (b / g b d) (d / g (plsT a b c d) (g b d)) := mul_of bb.ediv bd.ediv (by decide)
  refine ⟨_, (pss_cons (ps_set (i := 2) sc_plus.nd rfl (Or.inl rfl) (pe_cl C_divisor hr (pa_cons (pe_ix ix_tup (pv 0) pe_int (fun _ _ => rfl)) (pa_cons (pe_ix ix_tup (pv 1) pe_int (fun _ _ => rfl)) pa_nil))))
      (pss_cons (ps_set (i := 3) sc_plus.nd rfl (Or.inl rfl) (pe_op op_add (pe_op op_mulB (pe_ix ix_tup (pv 0) pe_int (fun _ _ => rfl)) (pe_op op_fdP (pe_ix ix_tup (pv 1) pe_int (fun _ _ => rfl)) (pv 2))) (pe_op op_mulB (pe_ix ix_tup (pv 1) pe_int (fun _ _ => rfl)) (pe_op op_fdP (pe_ix ix_tup (pv 0) pe_int (fun _ _ => rfl)) (pv 2)))))
      (pss_cons (ps_set (i := 4) sc_plus.nd rfl (Or.inl rfl) (pe_cl C_divisor hr (pa_cons (pv 3) (pa_cons (pv 2) pa_nil))))
      (pss_one (ps_ret (pe_tup (pa_cons (pe_op op_fdP (pv 3) (pv 4)) (pa_cons (pe_op op_mulB (pe_op op_fdP (pe_ix ix_tup (pv 0) pe_int (fun _ _ => rfl)) (pv 2)) (pe_op op_fdP (pe_ix ix_tup (pv 1) pe_int (fun _ _ => rfl)) (pv 4))) pa_nil)))))))), ?_⟩
  refine ⟨_, rfl, _, _, _, _, rfl, rfl, hp.sq, rfl, _, rfl, _, _, _, _, rfl, rfl, hq.sq, rfl, _, _, rfl, ?_⟩
  refine ⟨_, rfl, _, _, _, _, rfl, rfl, hp.sq, rfl, _, rfl, _, _, _, _, rfl, rfl, hq.sq, rfl, _, rfl, _, _, rfl, rfl, c1, _, _, rfl, rfl, m1, _, rfl, _, _, _, _, rfl, rfl, hq.sq, rfl, _, rfl, _, _, _, _, rfl, rfl, hp.sq, rfl, _, rfl, _, _, rfl, rfl, c1, _, _, rfl, rfl, m2, _, _, rfl, rfl, ?_⟩
  refine ⟨_, rfl, _, rfl, _, _, rfl, ?_⟩
  exact ⟨_, rfl, _, rfl, _, _, rfl, rfl, c2, _, rfl, _, _, _, _, rfl, rfl, hp.sq, rfl, _, rfl, _, _, rfl, rfl, c1, _, rfl, _, _, _, _, rfl, rfl, hq.sq, rfl, _, rfl, _, _, rfl, rfl, c2, _, _, rfl, rfl, m3, (by show 2 ≤ sizeLine; decide), fun r h => k r _ (same_upd h _) Pr.new⟩
theorem sc_times : FnScope ["one", "other", "first", "second"] ["one", "other"] (defScope s_times) := ⟨rfl, rfl, rfl, by decide +kernel, rfl, by decide +kernel, by decide +kernel⟩
theorem ok_times (F : Fun K "times" "times" s_times f fd) (T : Txt mg) (C_divisor : Cal P w K mg base "divisor" 1 ["one", "other"] sp_div) : FnOk P w K mg base CX0 2 f fd ["one", "other"] sp_times := by
  refine F.ok sc_times (fun vs H Q E h => ?_) (fun cdv A outer s H vs Q E hr h => ?_)
  · obtain ⟨p, q, a, b, c, d, rfl, _⟩ := h
    rfl
  obtain ⟨p, q, a, b, c, d, rfl, hp, hq, hb, hd, ba, bb, bc, bd, k⟩ := h
  have c1 : 0 < g a d ∧ Bt 9000 (g a d) := ⟨g_pos (by (first | lia | omega)), (g_bt hd bd).mono (by decide)⟩
  have c2 : 0 < g c b ∧ Bt 9000 (g c b) := ⟨g_pos (by (first | lia | omega)), (g_bt hb bb).mono (by decide)⟩
  have m1 : IntMulOk (a / g a d) (c / g c b) := mul_of ba.ediv bc.ediv (by decide)
  have m2 : IntMulOk (b / g c b) (d / g a d) := mul_of bb.ediv bd.ediv (by decide)
  refine ⟨_, (pss_cons (ps_set (i := 2) sc_times.nd rfl (Or.inl rfl) (pe_cl C_divisor hr (pa_cons (pe_ix ix_tup (pv 0) pe_int (fun _ _ => rfl)) (pa_cons (pe_ix ix_tup (pv 1) pe_int (fun _ _ => rfl)) pa_nil))))
      (pss_cons (ps_set (i := 3) sc_times.nd rfl (Or.inl rfl) (pe_cl C_divisor hr (pa_cons (pe_ix ix_tup (pv 1) pe_int (fun _ _ => rfl)) (pa_cons (pe_ix ix_tup (pv 0) pe_int (fun _ _ => rfl)) pa_nil))))
      (pss_one (ps_ret (pe_tup (pa_cons (pe_op op_mulB (pe_op op_fdP (pe_ix ix_tup (pv 0) pe_int (fun _ _ => rfl)) (pv 2)) (pe_op op_fdP (pe_ix ix_tup (pv 1) pe_int (fun _ _ => rfl)) (pv 3))) (pa_cons (pe_op op_mulB (pe_op op_fdP (pe_ix ix_tup (pv 0) pe_int (fun _ _ => rfl)) (pv 3)) (pe_op op_fdP (pe_ix ix_tup (pv 1) pe_int (fun _ _ => rfl)) (pv 2))) pa_nil))))))), ?_⟩
  refine ⟨_, rfl, _, _, _, _, rfl, rfl, hp.sq, rfl, _, rfl, _, _, _, _, rfl, rfl, hq.sq, rfl, _, _, rfl, ?_⟩
  refine ⟨_, rfl, _, _, _, _, rfl, rfl, hq.sq, rfl, _, rfl, _, _, _, _, rfl, rfl, hp.sq, rfl, _, _, rfl, ?_⟩
  exact ⟨_, rfl, _, _, _, _, rfl, rfl, hp.sq, rfl, _, rfl, _, _, rfl, rfl, c1, _, rfl, _, _, _, _, rfl, rfl, hq.sq, rfl, _, rfl, _, _, rfl, rfl, c2, _, _, rfl, rfl, m1, _, rfl, _, _, _, _, rfl, rfl, hp.sq, rfl, _, rfl, _, _, rfl, rfl, c2, _, rfl, _, _, _, _, rfl, rfl, hq.sq, rfl, _, rfl, _, _, rfl, rfl, c1, _, _, rfl, rfl, m2, (by show 2 ≤ sizeLine; decide), fun r h => k r _ (same_upd h _) Pr.new⟩

/-! ### fraction, over, is_under, side: which may raise -/
def sp_whole2 : Sp := fun vs H Q _ => ∃ i, vs = [.int i] ∧ Q (.bl true) H
def sp_fraction (c : Addr) : Sp := fun vs H Q E => ∃ t b, vs = [.int t, .int b] ∧ (b = 0 → E (.ref c) none H) ∧ (b ≠ 0 → Bt 8000 b ∧ ∀ r H', Same H H' → Pr H' r (frN t b) (frD t b) → Q (.ref r) H')
def sp_over (cN : Addr) : Sp := fun vs H Q E => ∃ p q a b c d, vs = [.ref p, .ref q] ∧ Pr H p a b ∧ Pr H q c d ∧ (c = 0 → E (.ref cN) none H) ∧
  (c ≠ 0 → 0 < b ∧ 0 < d ∧ Bt 8000 a ∧ Bt 8000 b ∧ Bt 8000 c ∧ Bt 8000 d ∧ ∀ r H', Same H H' → Pr H' r (tmsN a b (frN d c) (frD d c)) (tmsD a b (frN d c) (frD d c)) → Q (.ref r) H')
def sp_under : Sp := fun vs H Q _ => ∃ p q a b c d, vs = [.ref p, .ref q] ∧ Pr H p a b ∧ Pr H q c d ∧ IntMulOk a d ∧ IntMulOk c b ∧ Q (.bl (decide (a * d < c * b))) H
def sp_side : Sp := fun vs H Q _ => ∃ p a b, vs = [.ref p] ∧ Pr H p a b ∧ Q (.int (sgn a)) H
def sp_side2 : Sp := fun vs H Q _ => ∃ p a b, vs = [.ref p] ∧ Pr H p a b ∧ Bt 9000 a ∧ Q (.int (sgn a)) H
theorem sc_is_whole : FnScope ["thing"] ["thing"] (defScope s_is_whole) := ⟨rfl, rfl, rfl, by decide +kernel, rfl, by decide +kernel, by decide +kernel⟩
theorem ok_is_whole (F : Fun K "is_whole" "is_whole" s_is_whole f fd) (T : Txt mg) : FnOk P w K mg base CX0 1 f fd ["thing"] sp_whole := by
  refine F.ok sc_is_whole (fun vs H Q E h => ?_) (fun cdv A outer s H vs Q E hr h => ?_)
  · obtain ⟨i, rfl, _⟩ := h
    rfl
  obtain ⟨i, rfl, q⟩ := h
  refine ⟨_, (pss_one (ps_ret (pe_and (pe_callB call_isi rfl T.z_isinstance boot_isinstance (pa_cons (pv 0) (pa_cons (pe_bltn (v := .ty "int") rfl T.z_int boot_int rfl) pa_nil))) (pe_one (pe_not (pe_callB call_isi rfl T.z_isinstance boot_isinstance (pa_cons (pv 0) (pa_cons (pe_bltn (v := .ty "bool") rfl T.z_bool boot_bool rfl) pa_nil)))))))), ?_⟩
  refine ⟨_, rfl, _, _, _, _, rfl, TyOf.int _, kit_int_int _, _, rfl, iteT ?_⟩
  exact ⟨_, rfl, _, _, _, _, rfl, TyOf.int _, kit_int_bool _, _, rfl, q⟩
theorem sc_side : FnScope ["one"] ["one"] (defScope s_side) := ⟨rfl, rfl, rfl, by decide +kernel, rfl, by decide +kernel, by decide +kernel⟩
theorem ok_side (F : Fun K "side" "side" s_side f fd) (T : Txt mg) : FnOk P w K mg base CX0 1 f fd ["one"] sp_side := by
  refine F.ok sc_side (fun vs H Q E h => ?_) (fun cdv A outer s H vs Q E hr h => ?_)
  · obtain ⟨p, a, b, rfl, _⟩ := h
    rfl
  obtain ⟨p, a, b, rfl, hp, q⟩ := h
  unfold sgn at q
  refine ⟨_, (pss_cons (ps_if (pt_cmpR op_gt (pe_ix ix_tup (pv 0) pe_int (fun _ _ => rfl)) pe_int (nomark _))
        (pss_one (ps_ret pe_int))
        pss_nil)
      (pss_cons (ps_if (pt_cmpR op_lt (pe_ix ix_tup (pv 0) pe_int (fun _ _ => rfl)) pe_int (nomark _))
        (pss_one (ps_ret (pe_un un_neg pe_int)))
        pss_nil)
      (pss_one (ps_ret pe_int)))), ?_⟩
  refine ⟨_, rfl, _, _, _, _, rfl, rfl, hp.sq, rfl, _, _, rfl, rfl, _, rfl, ?_⟩
  refine ite2 (fun c => ?_) (fun c => ?_)
  · have z : a > 0 := of_decide_eq_true c
    rw [if_pos z] at q
    exact q
  · have z : ¬ a > 0 := of_decide_eq_false (Bool.eq_false_iff.mpr c)
    rw [if_neg z] at q
    refine ⟨_, rfl, _, _, _, _, rfl, rfl, hp.sq, rfl, _, _, rfl, rfl, _, rfl, ?_⟩
    refine ite2 (fun c2 => ?_) (fun c2 => ?_)
    · have z2 : a < 0 := of_decide_eq_true c2
      rw [if_pos z2] at q
      exact ⟨_, rfl, q⟩
    · have z2 : ¬ a < 0 := of_decide_eq_false (Bool.eq_false_iff.mpr c2)
      rw [if_neg z2] at q
      exact q

/-! ### the same over the numbers of Rat -/
def sp_bin (n : Nat) (op : Rat → Rat → Rat) : Sp := fun vs H Q _ => ∃ p q a b, vs = [.ref p, .ref q] ∧ Pq H p a ∧ Pq H q b ∧ Bq n a ∧ Bq n b ∧ ∀ r H', Same H H' → Pq H' r (op a b) → Q (.ref r) H'
def sp_lowQ : Sp := fun vs H Q _ => ∃ t b, vs = [.int t, .int b] ∧ 0 < b ∧ Bt 8000 b ∧ ∀ r H', Same H H' → Pq H' r ((t : Rat) / (b : Rat)) → Q (.ref r) H'
def sp_ratioQ : Sp := fun vs H Q _ => ∃ n, vs = [.int n] ∧ 0 ≤ n ∧ ∀ r q H', Same H H' → Bq 101 q → Pq H' r q → Q (.ref r) H'
def sp_isQ : Sp := fun vs H Q _ => ∃ r q t b, vs = [.ref r, .int t, .int b] ∧ Pq H r q ∧ b ≠ 0 ∧ q = (t : Rat) / (b : Rat) ∧ IntMulOk q.num b ∧ IntMulOk t q.den ∧ Q (.bl true) H
def sp_atQ : Sp := fun vs H Q _ => ∃ (a : Addr) (qs : List Rat) (k : Nat), vs = [.ref a, .int k] ∧ Rw H a qs ∧ ∀ p H', Same H H' → Pq H' p (qs.getD k 0) → Q (.ref p) H'
def sp_stripQ : Sp := fun vs H Q _ => ∃ a qs, vs = [.ref a] ∧ Rw H a qs ∧ qs.length ≤ 1000 ∧ ∀ r H', Same H H' → H r = none → Rw H' r (Po.strip qs) → Q (.ref r) H'
def sp_row_by : Sp := fun vs H Q _ => ∃ c k w, vs = [.int c, .int k, .int w] ∧ (0 ≤ k ∧ k ≤ 900) ∧ (w = 2 ∨ w = 3) ∧ ∀ r qs H', Same H H' → H r = none → Rw H' r qs → qs.length ≤ 13 → (∀ q ∈ qs, Bq 101 q) → (w = 2 → ∀ q ∈ qs, Bq 6 q) → Q (.ref r) H'
def sp_sameQ : Sp := fun vs H Q _ => ∃ a b qs, vs = [.ref a, .ref b] ∧ Rw H a qs ∧ Rw H b qs ∧ qs.length ≤ 1000 ∧ Q (.bl true) H
abbrev Rws (H : Hp) : List Addr → List (List Rat) → Prop := Paired (Rw H)
def ApartAt (a h k : Addr) (H : Hp) (R : Hp → Prop) : Prop := ∃ qs as bs rss, Rw H a qs ∧ qs.length ≤ 1000 ∧ H h = some (.lst (as.map V.ref)) ∧ Rws H as rss ∧ H k = some (.lst (bs.map V.ref)) ∧ Rws H bs rss ∧
  a ∉ as ∧ a ∉ bs ∧ a ≠ h ∧ a ≠ k ∧ h ∉ as ∧ as.length ≤ 2 ∧ (∀ rs ∈ rss, rs.length ≤ 1000) ∧ ∀ H', Sx (a :: as) H H' → R H'
def sp_apart : Sp := fun vs H Q _ => ∃ a h k, vs = [.ref a, .ref h, .ref k] ∧ ApartAt a h k H fun H' => Q (.bl true) H'
theorem bin_plus {vs : List V} {H : Hp} {Q : VK} {E : XK} (h : sp_bin 8000 (· + ·) vs H Q E) : sp_plus vs H Q E := by
  obtain ⟨p, q, a, b, rfl, hp, hq, ba, bb, k⟩ := h
  exact ⟨p, q, _, _, _, _, rfl, hp, hq, den_pos a, den_pos b, ba.1, ba.2, bb.1, bb.2, fun r H' s hr => k r H' s (Pq.of hr ⟨(pls_q a b).1.symm, (pls_q a b).2.symm⟩)⟩
theorem bin_times {vs : List V} {H : Hp} {Q : VK} {E : XK} (h : sp_bin 8000 (· * ·) vs H Q E) : sp_times vs H Q E := by
  obtain ⟨p, q, a, b, rfl, hp, hq, ba, bb, k⟩ := h
  exact ⟨p, q, _, _, _, _, rfl, hp, hq, den_pos a, den_pos b, ba.1, ba.2, bb.1, bb.2, fun r H' s hr => k r H' s (Pq.of hr ⟨(tms_q a b).1.symm, (tms_q a b).2.symm⟩)⟩
theorem lowQ {vs : List V} {H : Hp} {Q : VK} {E : XK} (h : sp_lowQ vs H Q E) : sp_low vs H Q E := by
  obtain ⟨t, b, rfl, hb, bb, k⟩ := h
  exact ⟨t, b, rfl, hb, bb, fun r H' s hr => k r H' s (Pq.of hr ⟨(low_q hb).1.symm, (low_q hb).2.symm⟩)⟩
theorem ok_timesQ (F : Fun K "times" "times" s_times f fd) (T : Txt mg) (C_divisor : Cal P w K mg base "divisor" 1 ["one", "other"] sp_div) : FnOk P w K mg base CX0 2 f fd ["one", "other"] (sp_bin 8000 (· * ·)) := (ok_times F T C_divisor).imp fun _ _ _ _ => bin_times
theorem ok_law_lowQ (F : Fun K "_law_low" "_law_low" s_law_low f fd) (T : Txt mg) (C_law_part : Cal P w K mg base "_law_part" 1 ["_law_one", "_law_other"] sp_div) : FnOk P w K mg base CX0 2 f fd ["_law_top", "_law_bottom"] sp_lowQ := (ok_law_low F T C_law_part).imp fun _ _ _ _ => lowQ

/-! ### what the defs of polys promise -/
def sp_pbin (op : List Rat → List Rat → List Rat) : Sp := fun vs H Q _ => ∃ a b ps qs, vs = [.ref a, .ref b] ∧ Rw H a ps ∧ Rw H b qs ∧ ps.length ≤ 30 ∧ qs.length ≤ 30 ∧ (∀ q ∈ ps, Bq 1500 q) ∧ (∀ q ∈ qs, Bq 1500 q) ∧ ∀ r H', Same H H' → H r = none → Rw H' r (op ps qs) → Q (.ref r) H'
def sp_scaled : Sp := fun vs H Q _ => ∃ a p qs x, vs = [.ref a, .ref p] ∧ Rw H a qs ∧ Pq H p x ∧ qs.length ≤ 30 ∧ (∀ q ∈ qs, Bq 1500 q) ∧ Bq 1500 x ∧ ∀ r H', Same H H' → H r = none → Rw H' r (Po.pscale qs x) → Q (.ref r) H'
def sp_slope : Sp := fun vs H Q _ => ∃ a qs, vs = [.ref a] ∧ Rw H a qs ∧ qs.length ≤ 30 ∧ (∀ q ∈ qs, Bq 1500 q) ∧ ∀ r H', Same H H' → H r = none → Rw H' r (Po.pslope qs) → Q (.ref r) H'
/-! ### the law's sums -/
def sp_sum : Sp := fun vs H Q _ => ∃ a b ps qs sg, vs = [.ref a, .ref b, .int sg] ∧ Rw H a ps ∧ Rw H b qs ∧ (sg = 1 ∨ sg = -1) ∧ ps.length ≤ 30 ∧ qs.length ≤ 30 ∧ (∀ q ∈ ps, Bq 1500 q) ∧ (∀ q ∈ qs, Bq 1500 q) ∧
  ∀ r H', Same H H' → H r = none → Rw H' r (if sg = 1 then Po.padd ps qs else Po.psub ps qs) → Q (.ref r) H'
def sp_product : Sp := fun vs H Q _ => ∃ a b ps qs, vs = [.ref a, .ref b] ∧ Rw H a ps ∧ Rw H b qs ∧ ps.length ≤ 13 ∧ qs.length ≤ 13 ∧ (∀ q ∈ ps, Bq 101 q) ∧ (∀ q ∈ qs, Bq 101 q) ∧ ∀ r H', Same H H' → H r = none → Rw H' r (Po.pmul ps qs) → Q (.ref r) H'
def GoodAt (a d h k : Addr) (H : Hp) (R : Hp → Prop) : Prop := ∃ qs as bs rss, Rw H a qs ∧ Rw H d qs ∧ qs.length ≤ 1000 ∧ H h = some (.lst (as.map V.ref)) ∧ Rws H as rss ∧ H k = some (.lst (bs.map V.ref)) ∧ Rws H bs rss ∧
  a ∉ as ∧ a ∉ bs ∧ a ≠ h ∧ a ≠ k ∧ h ∉ as ∧ as.length ≤ 2 ∧ (∀ rs ∈ rss, rs.length ≤ 1000) ∧ ∀ H', Sx (a :: as) H H' → R H'
def sp_good : Sp := fun vs H Q _ => ∃ a d h k, vs = [.ref a, .ref d, .ref h, .ref k] ∧ GoodAt a d h k H fun H' => Q (.bl true) H'
/-- two rows stand, and the list that keeps them -/
structure Two (H : Hp) (kp o1 o2 : Addr) (ps qs : List Rat) : Prop where
  one : Rw H o1 ps
  other : Rw H o2 qs
  kept : H kp = some (.lst [.ref o1, .ref o2])
def sp_handed : Sp := fun vs H Q _ => ∃ a b ps qs tw, vs = [.ref a, .ref b, .bl tw] ∧ Rw H a ps ∧ Rw H b qs ∧ (tw = true → ps = qs) ∧ ps.length ≤ 30 ∧ qs.length ≤ 30 ∧
  ∀ r x y H', Same H H' → H r = none → H x = none → H y = none → H' r = some (.lst [.ref x, .ref y]) → Rw H' x ps → Rw H' y qs → r ≠ x → r ≠ y → Q (.ref r) H'

/-! ### the code of polys -/
theorem sgn_iff {a : Int} : sgn a = 0 ↔ a = 0 := by
  unfold sgn
  split
  · (first | lia | omega)
  · split <;> (first | lia | omega)

/-! ### the law's cords: by cells that are 0 behind the script's end -/
def cell0 (ns : List Int) (k : Nat) : Int := ns.getD k 0
def sp_cell0 (K : PySem.W.Frag) : Sp := fun vs H Q _ => ∃ (a : Addr) (ns : List Int) (k : Nat), vs = [.ref a, .int k] ∧ SqL K H a (ns.map V.int) ∧ Q (.int (cell0 ns k)) H
def sp_gcd : Sp := fun vs H Q _ => ∃ a b, vs = [.int a, .int b] ∧ 0 ≤ b ∧ Q (.int (g a b)) H
def sp_numbers : Sp := fun vs H Q _ => ∃ (c : Int) (m : Nat), vs = [.int c, .int m] ∧ m ≤ 100 ∧ ∀ (r : Addr) (ns : List Int) (H' : Hp), Same H H' → H r = none → H' r = some (.lst (ns.map V.int)) → ns.length = m → (∀ n ∈ ns, 0 ≤ n ∧ n < 100000) → Q (.ref r) H'
/-- the fraction that a number stands for -/
def abv (v : Int) : Rat := ((1 + v % 12 : Int) : Rat) / ((1 + v / 12 % 12 : Int) : Rat)
theorem div_pos {t b : Int} (ht : 0 < t) (hb : 0 < b) : 0 < (t : Rat) / (b : Rat) := by
  rw [Rat.div_def]
  exact Rat.mul_pos (Rat.intCast_pos.mpr ht) (Rat.inv_pos.mpr (Rat.intCast_pos.mpr hb))
def sp_above : Sp := fun vs H Q _ => ∃ v, vs = [.int v] ∧ ∀ r H', Same H H' → Pq H' r (abv v) → Q (.ref r) H'
/-- a cord's two rows: gaps one more than weights, all above 0, and short enough -/
structure Drawn (mo : Nat) (gs ws : List Rat) : Prop where
  len : gs.length = ws.length + 1
  most : ws.length ≤ mo
  pos : (∀ q ∈ gs, 0 < q) ∧ ∀ q ∈ ws, 0 < q
  size : ((∀ q ∈ gs, Bq 4 q) ∧ ∀ q ∈ ws, Bq 4 q) ∨ (ws.length ≤ 1 + mo / 11 ∧ (∀ q ∈ gs, Bq 101 q) ∧ ∀ q ∈ ws, Bq 101 q)
def sp_cord_by (K : PySem.W.Frag) : Sp := fun vs H Q _ => ∃ (a : Addr) (ns : List Int) (most : Nat), vs = [.ref a, .int most] ∧ SqL K H a (ns.map V.int) ∧ (∀ n ∈ ns, Bt 1048576 n) ∧ (4 ≤ most ∧ most ≤ 12) ∧
  ∀ r ga wa gs ws H', Same H H' → H' r = some (.tup [.ref ga, .ref wa]) → H ga = none → H wa = none → ga ≠ wa → Rw H' ga gs → Rw H' wa ws → Drawn most gs ws → Q (.ref r) H'
def sp_lawB (K : PySem.W.Frag) : Sp := fun vs H Q _ => ∃ (a : Addr) (ns : List Int), vs = [.ref a] ∧ SqL K H a (ns.map V.int) ∧ ns.length ≤ 63 ∧ (∀ n ∈ ns, Bt 1048576 n) ∧ ∀ H', Q (.bl true) H'

/-! ### a cord -/
/-- a cord stands at c, its own two lists at ga and wa -/
def Co (C : Addr) (H : Hp) (c ga wa : Addr) (gs ws : List Rat) : Prop := (∃ dx, H c = some (.ins C dx [("kept_gaps", .ref ga), ("kept_weights", .ref wa)])) ∧ Rw H ga gs ∧ Rw H wa ws
theorem Co.keep {C : Addr} {H H' : Hp} {c ga wa : Addr} {gs ws : List Rat} (h : Co C H c ga wa gs ws) (s : Same H H') : Co C H' c ga wa gs ws := by
  obtain ⟨⟨dx, e⟩, r1, r2⟩ := h
  exact ⟨⟨dx, s _ _ e⟩, r1.keep s, r2.keep s⟩
/-- what may be handed in -/
structure Fine (gs ws : List Rat) : Prop where
  len : gs.length = ws.length + 1
  most : ws.length ≤ 12
  pos : (∀ q ∈ gs, 0 < q) ∧ ∀ q ∈ ws, 0 < q
  bq : (∀ q ∈ gs, Bq 101 q) ∧ ∀ q ∈ ws, Bq 101 q
def sp_init (C : Addr) : Sp := fun vs H Q _ => ∃ x a b gs ws dx, vs = [.ref x, .ref a, .ref b] ∧ H x = some (.ins C dx []) ∧ Rw H a gs ∧ Rw H b ws ∧ Fine gs ws ∧
  ∀ ga wa H', (∀ b o, b ≠ x → H b = some o → H' b = some o) → H ga = none → H wa = none → Co C H' x ga wa gs ws → Q .non H'
/-- what a cord is made of, of any size -/
structure Fine0 (gs ws : List Rat) : Prop where
  len : gs.length = ws.length + 1
  most : ws.length ≤ 12
  pos : (∀ q ∈ gs, 0 < q) ∧ ∀ q ∈ ws, 0 < q
theorem Fine.fine0 {gs ws : List Rat} (h : Fine gs ws) : Fine0 gs ws := ⟨h.len, h.most, h.pos⟩
def sp_init0 (C : Addr) : Sp := fun vs H Q _ => ∃ x a b gs ws dx, vs = [.ref x, .ref a, .ref b] ∧ H x = some (.ins C dx []) ∧ Rw H a gs ∧ Rw H b ws ∧ Fine0 gs ws ∧
  ∀ ga wa H', (∀ b o, b ≠ x → H b = some o → H' b = some o) → H ga = none → H wa = none → Co C H' x ga wa gs ws → Q .non H'
def sp_gaps (C : Addr) : Sp := fun vs H Q _ => ∃ c ga wa gs ws, vs = [.ref c] ∧ Co C H c ga wa gs ws ∧ ∀ r H', Same H H' → H r = none → Rw H' r gs → Q (.ref r) H'
def sp_weights (C : Addr) : Sp := fun vs H Q _ => ∃ c ga wa gs ws, vs = [.ref c] ∧ Co C H c ga wa gs ws ∧ ∀ r H', Same H H' → H r = none → Rw H' r ws → Q (.ref r) H'
def sp_beads (C : Addr) : Sp := fun vs H Q _ => ∃ c ga wa gs ws, vs = [.ref c] ∧ Co C H c ga wa gs ws ∧ Q (.int ws.length) H
def sp_length (C : Addr) : Sp := fun vs H Q _ => ∃ c ga wa gs ws, vs = [.ref c] ∧ Co C H c ga wa gs ws ∧ gs.length ≤ 13 ∧ (∀ q ∈ gs, Bq 101 q) ∧ ∀ r H', Same H H' → Pq H' r (Po.lsum gs) → Q (.ref r) H'
def sp_turned (C : Addr) : Sp := fun vs H Q _ => ∃ c ga wa gs ws, vs = [.ref c] ∧ Co C H c ga wa gs ws ∧ Fine gs ws ∧ ∀ c' ga' wa' H', Same H H' → H c' = none → H ga' = none → H wa' = none → Co C H' c' ga' wa' gs.reverse ws.reverse → Q (.ref c') H'
def sp_frac : Sp := fun vs H Q _ => ∃ p q, vs = [.ref p] ∧ Pq H p q ∧ Q (.bl true) H
def sp_row_above : Sp := fun vs H Q _ => ∃ a qs, vs = [.ref a] ∧ Rw H a qs ∧ (∀ q ∈ qs, 0 < q) ∧ qs.length ≤ 1000 ∧ ∀ H', Same H H' → Q (.bl true) H'
/-! the law's own -/
def sp_whole1 : Sp := fun vs H Q _ => ∃ i, vs = [.int i] ∧ Q (.bl true) H
def sp_same1 : Sp := fun vs H Q _ => ∃ p p' q, vs = [.ref p, .ref p'] ∧ Pq H p q ∧ Pq H p' q ∧ Q (.bl true) H
def sp_same_list : Sp := fun vs H Q _ => ∃ a b qs, vs = [.ref a, .ref b] ∧ Rw H a qs ∧ Rw H b qs ∧ qs.length ≤ 1000 ∧ Q (.bl true) H
def sp_len : Sp := fun vs H Q _ => ∃ a gs, vs = [.ref a] ∧ Rw H a gs ∧ gs.length ≤ 13 ∧ (∀ q ∈ gs, Bq 101 q) ∧ ∀ r H', Same H H' → Pq H' r (Po.lsum gs) → Q (.ref r) H'
def sp_told (C : Addr) : Sp := fun vs H Q _ => ∃ c ga wa g w gs ws, vs = [.ref c, .ref g, .ref w] ∧ Co C H c ga wa gs ws ∧ Rw H g gs ∧ Rw H w ws ∧ Fine gs ws ∧ ∀ H', Same H H' → Q (.bl true) H'
variable {o_Cord : Addr}
theorem sc_Cord_gaps : FnScope ["self"] ["self"] (defScope s_Cord_gaps) := ⟨rfl, rfl, rfl, by decide +kernel, rfl, by decide +kernel, by decide +kernel⟩
theorem ok_Cord_gaps (F : Fun K "gaps" "Cord.gaps" s_Cord_gaps f fd) (T : Txt mg) (O : OwnCord K mg o_Cord) : FnOk P w K mg base CX0 1 f fd ["self"] (sp_gaps o_Cord) := by
  refine F.ok sc_Cord_gaps (fun vs H Q E h => ?_) (fun cdv A outer s H vs Q E hr h => ?_)
  · obtain ⟨c, ga, wa, gs, ws, rfl, _⟩ := h
    rfl
  obtain ⟨c, ga, wa, gs, ws, rfl, ⟨⟨dx, e⟩, r1, r2⟩, q⟩ := h
  obtain ⟨xs, hx, _⟩ := r1.there
  refine ⟨_, (pss_one (ps_ret (pe_callTy call_list_of rfl T.z_list boot_list (pa_cons (pe_fld (pv 0) rfl) pa_nil)))), ?_⟩
  exact ⟨_, rfl, c, _, dx, _, _, rfl, e, O.cl, O.n_kept_gaps, rfl, ga, _, rfl, .inl (SqL.of hx), fun r hr' => q r _ (same_upd hr' _) hr' (r1.copy hx hr')⟩
theorem sc_Cord_weights : FnScope ["self"] ["self"] (defScope s_Cord_weights) := ⟨rfl, rfl, rfl, by decide +kernel, rfl, by decide +kernel, by decide +kernel⟩
theorem ok_Cord_weights (F : Fun K "weights" "Cord.weights" s_Cord_weights f fd) (T : Txt mg) (O : OwnCord K mg o_Cord) : FnOk P w K mg base CX0 1 f fd ["self"] (sp_weights o_Cord) := by
  refine F.ok sc_Cord_weights (fun vs H Q E h => ?_) (fun cdv A outer s H vs Q E hr h => ?_)
  · obtain ⟨c, ga, wa, gs, ws, rfl, _⟩ := h
    rfl
  obtain ⟨c, ga, wa, gs, ws, rfl, ⟨⟨dx, e⟩, r1, r2⟩, q⟩ := h
  obtain ⟨xs, hx, _⟩ := r2.there
  refine ⟨_, (pss_one (ps_ret (pe_callTy call_list_of rfl T.z_list boot_list (pa_cons (pe_fld (pv 0) rfl) pa_nil)))), ?_⟩
  exact ⟨_, rfl, c, _, dx, _, _, rfl, e, O.cl, O.n_kept_weights, rfl, wa, _, rfl, .inl (SqL.of hx), fun r hr' => q r _ (same_upd hr' _) hr' (r2.copy hx hr')⟩
theorem sc_Cord_beads : FnScope ["self"] ["self"] (defScope s_Cord_beads) := ⟨rfl, rfl, rfl, by decide +kernel, rfl, by decide +kernel, by decide +kernel⟩
theorem ok_Cord_beads (F : Fun K "beads" "Cord.beads" s_Cord_beads f fd) (T : Txt mg) (O : OwnCord K mg o_Cord) : FnOk P w K mg base CX0 1 f fd ["self"] (sp_beads o_Cord) := by
  refine F.ok sc_Cord_beads (fun vs H Q E h => ?_) (fun cdv A outer s H vs Q E hr h => ?_)
  · obtain ⟨c, ga, wa, gs, ws, rfl, _⟩ := h
    rfl
  obtain ⟨c, ga, wa, gs, ws, rfl, ⟨⟨dx, e⟩, r1, r2⟩, q⟩ := h
  obtain ⟨xs, hx, hl⟩ := r2.there
  refine ⟨_, (pss_one (ps_ret (pe_callB call_len_seq rfl T.z_len PySem.boot_len (pa_cons (pe_fld (pv 0) rfl) pa_nil)))), ?_⟩
  rw [← hl] at q
  exact ⟨_, rfl, c, _, dx, _, _, rfl, e, O.cl, O.n_kept_weights, rfl, wa, _, rfl, .inl (SqL.of hx), q⟩
theorem sc_is_fraction : FnScope ["thing"] ["thing"] (defScope s_is_fraction) := ⟨rfl, rfl, rfl, by decide +kernel, rfl, by decide +kernel, by decide +kernel⟩
theorem ok_is_fraction (F : Fun K "is_fraction" "is_fraction" s_is_fraction f fd) (T : Txt mg) (C_is_whole : Cal P w K mg base "is_whole" 1 ["thing"] sp_whole) (C_divisor : Cal P w K mg base "divisor" 1 ["one", "other"] sp_div) : FnOk P w K mg base CX0 2 f fd ["thing"] sp_frac := by
  refine F.ok sc_is_fraction (fun vs H Q E h => ?_) (fun cdv A outer s H vs Q E hr h => ?_)
  · obtain ⟨p, q, rfl, _⟩ := h
    rfl
  obtain ⟨p, q0, rfl, kp, q⟩ := h
  have hp := den_pos q0
  have hg : g q0.num q0.den = 1 := by
    unfold g
    rw [(fq q0).one]
    rfl
  refine ⟨_, (pss_cons (ps_if (PW.pt (pw_or (pt_not (pt_val (pe_callB call_isi rfl T.z_isinstance boot_isinstance (pa_cons (pv 0) (pa_cons (pe_bltn (v := .ty "tuple") rfl T.z_tuple boot_tuple rfl) pa_nil))))) (pw_or1 (pt_cmpR op_ne (pe_callB call_len_seq rfl T.z_len PySem.boot_len (pa_cons (pv 0) pa_nil)) pe_int (nomark _)))))
        (pss_one (ps_ret pe_bl))
        pss_nil)
      (pss_cons (ps_if (PW.pt (pw_or (pt_not (pt_val (pe_cl C_is_whole hr (pa_cons (pe_ix ix_tup (pv 0) pe_int (fun _ _ => rfl)) pa_nil)))) (pw_or1 (pt_not (pt_val (pe_cl C_is_whole hr (pa_cons (pe_ix ix_tup (pv 0) pe_int (fun _ _ => rfl)) pa_nil)))))))
        (pss_one (ps_ret pe_bl))
        pss_nil)
      (pss_one (ps_ret (pe_and (pe_cmpR op_ge (pe_ix ix_tup (pv 0) pe_int (fun _ _ => rfl)) pe_int (nomark _)) (pe_one (pe_cmpR op_eq (pe_cl C_divisor hr (pa_cons (pe_ix ix_tup (pv 0) pe_int (fun _ _ => rfl)) (pa_cons (pe_ix ix_tup (pv 0) pe_int (fun _ _ => rfl)) pa_nil))) pe_int (nomark _)))))))), ?_⟩
  refine ⟨_, rfl, _, _, _, _, rfl, TyOf.tup kp, kit_tup_tup _, _, rfl, iteF ?_⟩
  refine ⟨_, rfl, _, _, rfl, .inr kp.sq, rfl, _, rfl, iteNS rfl ?_⟩
  refine ⟨_, rfl, _, _, _, _, rfl, rfl, kp.sq, rfl, _, rfl, _, rfl, iteF ?_⟩
  refine ⟨_, rfl, _, _, _, _, rfl, rfl, kp.sq, rfl, _, rfl, _, rfl, iteF ?_⟩
  refine ⟨_, rfl, _, _, _, _, rfl, rfl, kp.sq, rfl, _, _, rfl, rfl, _, rfl, iteD (by (first | lia | omega)) ?_⟩
  refine ⟨_, rfl, _, _, _, _, rfl, rfl, kp.sq, rfl, _, rfl, _, _, _, _, rfl, rfl, kp.sq, rfl, _, _, rfl, rfl, ?_⟩
  rw [hg]
  exact q
theorem sc_is_row_above : FnScope ["thing"] ["thing"] (defScope s_is_row_above) := ⟨rfl, rfl, rfl, by decide +kernel, rfl, by decide +kernel, by decide +kernel⟩
theorem ok_is_row_above (F : Fun K "is_row_above" "is_row_above" s_is_row_above f fd) (T : Txt mg) (C_is_fraction : Cal P w K mg base "is_fraction" 2 ["thing"] sp_frac) (C_side : Cal P w K mg base "side" 1 ["one"] sp_side) : FnOk P w K mg base CX0 3 f fd ["thing"] sp_row_above := by
  refine F.ok sc_is_row_above (fun vs H Q E h => ?_) (fun cdv A outer s H vs Q E hr h => ?_)
  · obtain ⟨a, qs, rfl, _⟩ := h
    rfl
  obtain ⟨a, qs, rfl, ra, hpos, hlen, q⟩ := h
  obtain ⟨ps, hx, kp⟩ := id ra
  have hl := kp.length
  refine ⟨_, (pss_cons (ps_if (pt_not (pt_val (pe_callB call_isi rfl T.z_isinstance boot_isinstance (pa_cons (pv 0) (pa_cons (pe_bltn (v := .ty "list") rfl T.z_list boot_list rfl) pa_nil)))))
        (pss_one (ps_ret pe_bl))
        pss_nil)
      (pss_one (ps_ret (pe_callB (call_all rfl) rfl T.z_all boot_all (pa_cons (pe_comp (N' := ["part"]) (fsc := defScope s_is_row_above) (N := ["thing"]) [] ⟨rfl, by decide +kernel, by decide +kernel, by decide +kernel, rfl, by decide +kernel, rfl, by decide +kernel⟩ (pi_list (pv 0)) (fun _ _ _ _ => (pe_and (pe_cl C_is_fraction hr (pa_cons (pv 0) pa_nil)) (pe_one (pe_cmpR op_eq (pe_cl C_side hr (pa_cons (pv 0) pa_nil)) pe_int (nomark _)))))) pa_nil))))), ?_⟩
  refine ⟨_, rfl, _, _, _, _, rfl, TyOf.lst hx, kit_lst_lst _, _, rfl, iteF ?_⟩
  refine ⟨_, rfl, a, rfl, ⟨_, SqL.of hx⟩, comp_listB (xs := ps.map V.ref) (by rw [List.length_map]; (first | lia | omega)) hx (fun _ => true) ?_ fun H1 D s1 nD eD => ?_⟩
  · intro _ _ _ _ x H1 R hxm s1 fin
    obtain ⟨p1, hp1, rfl⟩ := List.mem_map.mp hxm
    obtain ⟨q1, hq1, k1⟩ := paired_left kp hp1
    have hn : 0 < q1.num := by
      have := hpos _ hq1
      have h0 : 0 ≤ q1.num := Rat.num_nonneg.mpr (Rat.le_of_lt this)
      have h1 : q1.num ≠ 0 := fun z => Rat.ne_of_gt this (Rat.num_eq_zero.mp z)
      (first | lia | omega)
    have k2 := k1.keep s1
    refine ⟨_, rfl, p1, _, rfl, k2, _, rfl, iteT ?_⟩
    refine ⟨_, rfl, p1, _, _, rfl, k2, rfl, ?_⟩
    have es : sgn q1.num = 1 := by unfold sgn; rw [if_pos hn]
    rw [es]
    exact fin H1 (Same.refl _)
  · refine ⟨D, _, rfl, SqL.of eD, ?_⟩
    have e : ((ps.map V.ref).map fun _ => true).all id = true := by simp
    rw [e]
    exact q H1 s1
theorem sc_Cord_init : FnScope ["self", "gaps", "weights"] ["self", "gaps", "weights"] (defScope s_Cord_init) := ⟨rfl, rfl, rfl, by decide +kernel, rfl, by decide +kernel, by decide +kernel⟩
theorem ok_Cord_init0 (F : Fun K "__init__" "Cord.__init__" s_Cord_init f fd) (T : Txt mg) (O : OwnCord K mg o_Cord) (C_is_row_above : Cal P w K mg base "is_row_above" 3 ["thing"] sp_row_above) : FnOk P w K mg base CX0 4 f fd ["self", "gaps", "weights"] (sp_init0 o_Cord) := by
  refine F.ok sc_Cord_init (fun vs H Q E h => ?_) (fun cdv A outer s H vs Q E hr h => ?_)
  · obtain ⟨x, a, b, gs, ws, dx, rfl, _⟩ := h
    rfl
  obtain ⟨x, a, b, gs, ws, dx, rfl, ex0, ra0, rb0, fine, q0⟩ := h
  have hlen := fine.len
  have hmost := fine.most
  refine ⟨_, (pss_cons (ps_if (PW.pt (pw_or (pt_not (pt_val (pe_cl C_is_row_above hr (pa_cons (pv 1) pa_nil)))) (pw_or1 (pt_not (pt_val (pe_cl C_is_row_above hr (pa_cons (pv 2) pa_nil)))))))
        (pss_one ps_never)
        pss_nil)
      (pss_cons (ps_if (PW.pt (pw_or (pt_cmpR op_ne (pe_callB call_len_seq rfl T.z_len PySem.boot_len (pa_cons (pv 1) pa_nil)) (pe_op op_add (pe_callB call_len_seq rfl T.z_len PySem.boot_len (pa_cons (pv 2) pa_nil)) pe_int) (nomark _)) (pw_or1 (pt_cmpR op_gt (pe_callB call_len_seq rfl T.z_len PySem.boot_len (pa_cons (pv 2) pa_nil)) (pe_globI rfl T.c_MOST_BEADS) (nomark _)))))
        (pss_one ps_never)
        pss_nil)
      (pss_cons (ps_fld (pv 0) (pe_callTy call_list_of rfl T.z_list boot_list (pa_cons (pv 1) pa_nil)) rfl)
      (pss_one (ps_fld (pv 0) (pe_callTy call_list_of rfl T.z_list boot_list (pa_cons (pv 2) pa_nil)) rfl))))), ?_⟩
  refine ⟨_, rfl, a, gs, rfl, ra0, fine.pos.1, by (first | lia | omega), fun H1 t1 => ⟨_, rfl, iteF ?_⟩⟩
  refine ⟨_, rfl, b, ws, rfl, rb0.keep t1, fine.pos.2, by (first | lia | omega), fun H2 t2 => ⟨_, rfl, iteF ?_⟩⟩
  have t12 := t1.trans t2
  have ex := t12 _ _ ex0
  have ra := ra0.keep t12
  have rb := rb0.keep t12
  have q : ∀ ga wa H', (∀ b o, b ≠ x → H2 b = some o → H' b = some o) → H2 ga = none → H2 wa = none → Co o_Cord H' x ga wa gs ws → Q .non H' := fun ga wa H' k n1 n2 co => q0 ga wa H' (fun b o n e => k b o n (t12 _ _ e)) (t12.free n1) (t12.free n2) co
  clear q0 ex0 ra0 rb0 t1
  clear t12
  clear t2
  clear H1
  generalize H2 = H at *
  obtain ⟨xa, ea, la⟩ := ra.there
  obtain ⟨xb, eb, lb⟩ := rb.there
  refine ⟨_, rfl, _, _, rfl, .inl (SqL.of ea), _, rfl, _, _, rfl, .inl (SqL.of eb), _, _, rfl, rfl, rfl, _, rfl, iteNS (by rw [la, lb]; exact congrArg V.int (by (first | lia | omega))) ?_⟩
  refine ⟨_, rfl, _, _, rfl, .inl (SqL.of eb), _, _, rfl, rfl, _, rfl, iteND (by (first | lia | omega)) ?_⟩
  refine ⟨_, rfl, a, _, rfl, .inl (SqL.of ea), fun ga hga => ?_⟩
  have s1 := same_upd hga (.lst xa)
  have r1 := ra.copy ea hga
  refine ⟨_, rfl, x, _, dx, _, rfl, s1 _ _ ex, O.cl, O.n_kept_gaps, by decide, ?_⟩
  have nxa : x ≠ ga := ne_of_none ex hga
  have nb : b ≠ x := ne_of eb ex (by intro z; cases z)
  obtain ⟨H2, e2⟩ : ∃ H2, H2 = upd (upd H ga (.lst xa)) x (.ins o_Cord dx (putF "kept_gaps" (.ref ga) [])) := ⟨_, rfl⟩
  rw [← e2]
  have k2 : ∀ c o, c ≠ x → (upd H ga (.lst xa)) c = some o → H2 c = some o := fun c o n e => by rw [e2, upd_ne n]; exact e
  have rows : ∀ {c : Addr} {qs : List Rat}, Rw (upd H ga (.lst xa)) c qs → Rw H2 c qs := fun {c qs} r => by
    obtain ⟨ps, h1, h2⟩ := r
    exact ⟨ps, k2 _ _ (ne_of h1 (s1 _ _ ex) (by intro z; cases z)) h1, Paired.imp' (fun p t z => by
      have z' : (upd H ga (.lst xa)) p = some (.tup [.int t.num, .int t.den]) := z
      exact k2 _ _ (ne_of z' (s1 _ _ ex) (by intro w; cases w)) z') h2⟩
  have rb2 := rows (rb.keep s1)
  have rg2 := rows r1
  have ex2 : H2 x = some (.ins o_Cord dx [("kept_gaps", .ref ga)]) := by rw [e2, upd_same]; rfl
  obtain ⟨xb2, eb2, lb2⟩ := rb2.there
  refine ⟨_, rfl, b, _, rfl, .inl (SqL.of eb2), fun wa hwa => ?_⟩
  have s3 := same_upd hwa (.lst xb2)
  have r3 := rb2.copy eb2 hwa
  refine ⟨_, rfl, x, _, dx, _, rfl, s3 _ _ ex2, O.cl, O.n_kept_weights, (by show 1 < 1000; decide), ?_⟩
  obtain ⟨H4, e4⟩ : ∃ H4, H4 = upd (upd H2 wa (.lst xb2)) x (.ins o_Cord dx (putF "kept_weights" (.ref wa) [("kept_gaps", .ref ga)])) := ⟨_, rfl⟩
  have k4 : ∀ c o, c ≠ x → (upd H2 wa (.lst xb2)) c = some o → H4 c = some o := fun c o n e => by rw [e4, upd_ne n]; exact e
  have rows4 : ∀ {c : Addr} {qs : List Rat}, Rw (upd H2 wa (.lst xb2)) c qs → Rw H4 c qs := fun {c qs} r => by
    obtain ⟨ps, h1, h2⟩ := r
    exact ⟨ps, k4 _ _ (ne_of h1 (s3 _ _ ex2) (by intro z; cases z)) h1, Paired.imp' (fun p t z => by
      have z' : (upd H2 wa (.lst xb2)) p = some (.tup [.int t.num, .int t.den]) := z
      exact k4 _ _ (ne_of z' (s3 _ _ ex2) (by intro w; cases w)) z') h2⟩
  have fin := q ga wa H4 (fun c o n e => k4 c o n (s3 _ _ (k2 c o n (s1 _ _ e)))) hga ?_ ⟨⟨dx, ?_⟩, rows4 (rg2.keep s3), rows4 r3⟩
  · rw [e4] at fin
    exact fin
  · cases hw : H wa with
    | none => rfl
    | some o =>
      by_cases n : wa = x
      · rw [n, ex2] at hwa; cases hwa
      · rw [k2 wa o n (s1 _ _ hw)] at hwa; cases hwa
  · rw [e4, upd_same]; rfl

/-! ### stage 5's draws: a cord by the digits of one cell -/
structure Drn (wd mo : Nat) (gs ws : List Rat) : Prop where
  len : gs.length = ws.length + 1
  most : ws.length ≤ mo
  pos : (∀ q ∈ gs, 0 < q) ∧ ∀ q ∈ ws, 0 < q
  size : ((∀ q ∈ gs, Bq 4 q) ∧ ∀ q ∈ ws, Bq 4 q) ∨ (ws.length ≤ wd ∧ (∀ q ∈ gs, Bq 101 q) ∧ ∀ q ∈ ws, Bq 101 q)
theorem Drn.bq {wd mo : Nat} {gs ws : List Rat} (d : Drn wd mo gs ws) : (∀ q ∈ gs, Bq 101 q) ∧ ∀ q ∈ ws, Bq 101 q := by
  rcases d.size with ⟨a, b⟩ | ⟨_, a, b⟩
  · exact ⟨fun q h => (a q h).mono (by decide), fun q h => (b q h).mono (by decide)⟩
  · exact ⟨fun q h => (a q h).mono (by decide), fun q h => (b q h).mono (by decide)⟩
theorem Drn.fine {wd mo : Nat} {gs ws : List Rat} (d : Drn wd mo gs ws) (h : mo ≤ 12) : Fine gs ws := ⟨d.len, Nat.le_trans d.most h, d.pos, d.bq⟩
theorem Pqs.ev2 : ∀ {H : Hp} {ps : List Addr} {qs : List Rat}, Pqs H ps qs → Pqs H (L3.ev2 ps) (L3.ev2 qs)
  | _, _, _, .nil => .nil
  | _, _, _, .cons a .nil => .cons a .nil
  | _, _, _, .cons a (.cons _ r) => .cons a (Pqs.ev2 r)
def sp_cby : Sp := fun vs H Q _ => ∃ (c : Int) (k mo : Nat), vs = [.int c, .int k, .int mo] ∧ k ≤ 100 ∧ mo ≤ 12 ∧
  ∀ r ga wa gs ws H', Same H H' → H' r = some (.tup [.ref ga, .ref wa]) → H ga = none → H wa = none → ga ≠ wa → Rw H' ga gs → Rw H' wa ws → Drn 2 mo gs ws → Q (.ref r) H'
theorem sc_law_cord_by : FnScope ["_law_cell", "_law_k", "_law_most", "_law_rest", "_law_many", "_law_wide", "_law_row", "_law_turn"] ["_law_cell", "_law_k", "_law_most"] (defScope s_law_cord_by) := ⟨rfl, rfl, rfl, by decide +kernel, rfl, by decide +kernel, by decide +kernel⟩
set_option maxHeartbeats 4000000 in
theorem ok_law_cord_by (F : Fun K "_law_cord_by" "_law_cord_by" s_law_cord_by f fd) (T : Txt mg) (C_law_mixed : Cal P w K mg base "_law_mixed" 1 ["_law_cell", "_law_k"] sp_mixed) (C_law_low : Cal P w K mg base "_law_low" 2 ["_law_top", "_law_bottom"] sp_lowQ) : FnOk P w K mg base CX0 3 f fd ["_law_cell", "_law_k", "_law_most"] sp_cby := by
  refine F.ok sc_law_cord_by (fun vs H Q E h => ?_) (fun cdv A outer s H vs Q E hr h => ?_)
  · obtain ⟨c, k, mo, rfl, _⟩ := h
    rfl
  obtain ⟨c, k, mo, rfl, hk1, hmo, q⟩ := h
  have hz : (1000 : Nat) < sizeLine := by decide
  refine ⟨_, (pss_cons (ps_set (i := 3) sc_law_cord_by.nd rfl (Or.inl rfl) (pe_cl C_law_mixed hr (pa_cons (pv 0) (pa_cons (pv 1) pa_nil))))
      (pss_cons (ps_set (i := 4) sc_law_cord_by.nd rfl (Or.inl rfl) (pe_op op_mod (pv 3) (pe_op op_add (pv 2) pe_int)))
      (pss_cons (ps_set (i := 5) sc_law_cord_by.nd rfl (Or.inl rfl) (pe_cmpR op_eq (pe_op op_mod (pe_op op_fdP (pv 3) pe_int) pe_int) pe_int (nomark _)))
      (pss_cons (ps_cut (ps_if (pt_val (pv 5))
        (pss_one (ps_set (i := 4) sc_law_cord_by.nd rfl (Or.inl rfl) (pe_op op_mod (pv 4) pe_int)))
        pss_nil))
      (pss_cons (ps_set (i := 3) sc_law_cord_by.nd rfl (Or.inl rfl) (pe_op op_fdP (pv 3) pe_int))
      (pss_cons (ps_set (i := 6) sc_law_cord_by.nd rfl (Or.inl rfl) (pe_lst pa_nil))
      (pss_cons (ps_for PassesOwn.never rfl (pi_range1 rfl T.z_range (pa_cons (pe_op op_add (pe_op op_mulB pe_int (pv 4)) pe_int) pa_nil)) (pg_name (i := 7) sc_law_cord_by.nd rfl (Or.inl rfl))
        (pss_cons (ps_cut (ps_if (PW.pt (pw_or (pt_cmpR op_eq (pe_op op_mod (pv 0) pe_int) pe_int (nomark _)) (pw_or1 (pt_cmpR op_le (pv 0) (pe_op op_pow pe_int pe_int) (nomark _)))))
          (pss_one (ps_set (i := 3) sc_law_cord_by.nd rfl (Or.inl rfl) (pe_op op_fdP (pe_cl C_law_mixed hr (pa_cons (pv 0) (pa_cons (pe_op op_add (pe_op op_add (pv 1) pe_int) (pv 7)) pa_nil))) pe_int)))
          pss_nil))
        (pss_one (ps_if (pt_val (pv 5))
          (pss_cons (ps_expr (pe_bm PySem.F.plainAttrs_list PySem.F.slot_list_append PySem.F.type_list_append mt_append (pv 6) (pa_cons (pe_cl C_law_low hr (pa_cons (pe_op op_add pe_int (pe_op op_mod (pv 3) (pe_op op_sub (pe_op op_pow pe_int pe_int) pe_int))) (pa_cons (pe_op op_add pe_int (pe_op op_mod (pe_op op_fdP (pv 3) (pe_op op_pow pe_int pe_int)) (pe_op op_sub (pe_op op_pow pe_int pe_int) pe_int))) pa_nil))) pa_nil)))
          (pss_one (ps_set (i := 3) sc_law_cord_by.nd rfl (Or.inl rfl) (pe_op op_fdP (pv 3) (pe_op op_pow pe_int pe_int)))))
          (pss_cons (ps_expr (pe_bm PySem.F.plainAttrs_list PySem.F.slot_list_append PySem.F.type_list_append mt_append (pv 6) (pa_cons (pe_cl C_law_low hr (pa_cons (pe_op op_add pe_int (pe_op op_mod (pv 3) pe_int)) (pa_cons (pe_op op_add pe_int (pe_op op_mod (pe_op op_fdP (pv 3) pe_int) pe_int)) pa_nil))) pa_nil)))
          (pss_one (ps_set (i := 3) sc_law_cord_by.nd rfl (Or.inl rfl) (pe_op op_fdP (pv 3) pe_int))))))))
      (pss_one (ps_ret (pe_tup (pa_cons (pe_step2 (pv 6) po_none pe_int) (pa_cons (pe_step2 (pv 6) (po_some pe_int) pe_int) pa_nil)))))))))))), ?_⟩
  refine ⟨_, rfl, _, rfl, c, k, rfl, ⟨by (first | lia | omega), by (first | lia | omega)⟩, ?_⟩
  generalize mixed c (k : Int) = r0
  refine ⟨_, rfl, _, rfl, _, _, rfl, rfl, _, _, rfl, rfl, (by show (0 : Int) < (mo : Int) + 1; (first | lia | omega)), ?_⟩
  have h5 := Int.emod_nonneg r0 (show (mo : Int) + 1 ≠ 0 by (first | lia | omega))
  have h5' := Int.emod_lt_of_pos r0 (show (0 : Int) < (mo : Int) + 1 by (first | lia | omega))
  refine ⟨_, rfl, _, _, rfl, rfl, ⟨by decide, bt2 (by decide +kernel)⟩, _, _, rfl, rfl, (by show (0 : Int) < 6; decide), rfl, ?_⟩
  generalize decide (V.int (r0 / 13 % 6) = V.int 1) = wd
  refine ⟨fun σ' H' => ∃ m : Nat, m ≤ mo ∧ (wd = true → m ≤ 2) ∧ σ' = [some (.int c), some (.int k), some (.int mo), some (.int r0), some (.int m), some (.bl wd), none, none] ∧ H = H', ?tl, ?hd⟩
  case hd =>
    refine ⟨_, rfl, _, rfl, ite2 (fun _ => ?_) (fun z => ?_)⟩
    · have h6 := Int.emod_nonneg (r0 % ((mo : Int) + 1)) (show (3 : Int) ≠ 0 by decide)
      have h6' := Int.emod_lt_of_pos (r0 % ((mo : Int) + 1)) (show (0 : Int) < 3 by decide)
      have h7 : r0 % ((mo : Int) + 1) % 3 ≤ r0 % ((mo : Int) + 1) := by (first | lia | omega)
      refine ⟨_, rfl, _, _, rfl, rfl, (by show (0 : Int) < 3; decide), (r0 % ((mo : Int) + 1) % 3).toNat, by (first | lia | omega), fun _ => by (first | lia | omega), ?_, rfl⟩
      have e : (((r0 % ((mo : Int) + 1) % 3).toNat : Nat) : Int) = r0 % ((mo : Int) + 1) % 3 := by (first | lia | omega)
      rw [e]
      rfl
    · refine ⟨(r0 % ((mo : Int) + 1)).toNat, by (first | lia | omega), fun z' => absurd z' z, ?_, rfl⟩
      have e : (((r0 % ((mo : Int) + 1)).toNat : Nat) : Int) = r0 % ((mo : Int) + 1) := by (first | lia | omega)
      rw [e]
      rfl
  rintro _ _ ⟨m, hm, hm3, rfl, rfl⟩
  refine ⟨_, rfl, _, _, rfl, rfl, ⟨by decide, bt2 (by decide +kernel)⟩, ?_⟩
  generalize r0 / 78 = r1
  refine ⟨(by show 0 ≤ sizeLine; decide), fun D hD => ?_⟩
  refine ⟨_, rfl, _, _, rfl, rfl, CMul.ok (.inl ⟨by decide, by decide⟩), _, _, rfl, rfl, _, rfl, by (first | lia | omega), by (first | lia | omega), ?_⟩
  rw [show (2 * (m : Int) + 1).toNat = 2 * m + 1 by (first | lia | omega)]
  refine for_range (n := 2 * m + 1) (fun i σ H' => (∃ (r : Int) (v : Option V), σ = [some (.int c), some (.int k), some (.int mo), some (.int r), some (.int m), some (.bl wd), some (.ref D), v]) ∧ Same H H' ∧ ∃ qs, Rw H' D qs ∧ qs.length = i ∧ (∀ q ∈ qs, 0 < q) ∧ ∀ q ∈ qs, Bq (if wd then 101 else 4) q)
    ⟨⟨_, _, rfl⟩, same_upd hD _, [], ⟨[], upd_same, .nil⟩, rfl, fun q hq => absurd hq (by simp), fun q hq => absurd hq (by simp)⟩ ?_ ?_
  · rintro i σ H1 hi ⟨⟨r, v, rfl⟩, sm, qs, rw1, l1, p1, b1⟩
    refine ⟨fun σ' H' => ∃ r' : Int, σ' = [some (.int c), some (.int k), some (.int mo), some (.int r'), some (.int m), some (.bl wd), some (.ref D), some (.int (0 + (i : Int)))] ∧ H1 = H', ?tl2, ?hd2⟩
    case hd2 =>
      refine ⟨_, rfl, _, _, rfl, rfl, (by show (0 : Int) < 2; decide), rfl, _, rfl, ite2 (fun _ => ?_) (fun _ => ?_)⟩
      · exact ⟨_, rfl, _, rfl, _, _, rfl, rfl, _, rfl, _, _, rfl, rfl, c, k + 3 + i, by simp, ⟨by (first | lia | omega), by (first | lia | omega)⟩, _, _, rfl, rfl, ⟨by decide, bt2 (by decide +kernel)⟩, _, rfl, rfl⟩
      · refine ⟨_, rfl, _, _, rfl, rfl, ⟨by decide, by decide, by decide⟩, _, _, rfl, rfl, _, rfl, ite2 (fun _ => ?_) (fun _ => ⟨_, rfl, rfl⟩)⟩
        exact ⟨_, rfl, _, rfl, _, _, rfl, rfl, _, rfl, _, _, rfl, rfl, c, k + 3 + i, by simp, ⟨by (first | lia | omega), by (first | lia | omega)⟩, _, _, rfl, rfl, ⟨by decide, bt2 (by decide +kernel)⟩, _, rfl, rfl⟩
    rintro _ _ ⟨r', rfl, rfl⟩
    obtain ⟨x4, e4, _⟩ := rw1.there
    refine ⟨_, rfl, _, rfl, ite2 (fun z => ?_) (fun z => ?_)⟩
    · have h1 := Int.emod_nonneg r' (show (10 ^ 30 - 1 : Int) ≠ 0 by decide)
      have h2 := Int.emod_lt_of_pos r' (show (0 : Int) < 10 ^ 30 - 1 by decide)
      have h3 := Int.emod_nonneg (r' / 10 ^ 30) (show (10 ^ 30 - 1 : Int) ≠ 0 by decide)
      have h4 := Int.emod_lt_of_pos (r' / 10 ^ 30) (show (0 : Int) < 10 ^ 30 - 1 by decide)
      have ht : 0 < 1 + r' % (10 ^ 30 - 1) := by (first | lia | omega)
      have hb : 0 < 1 + r' / 10 ^ 30 % (10 ^ 30 - 1) := by (first | lia | omega)
      have bt : Bt 101 (1 + r' % (10 ^ 30 - 1)) := Bt.between (by (first | lia | omega)) (by (first | lia | omega))
      have bb : Bt 101 (1 + r' / 10 ^ 30 % (10 ^ 30 - 1)) := Bt.between (by (first | lia | omega)) (by (first | lia | omega))
      refine ⟨_, rfl, .inl ⟨rfl, _, SqL.of e4⟩, _, rfl, _, _, rfl, rfl, ⟨by decide, by decide, by decide⟩, _, _, rfl, rfl, _, _, rfl, rfl, (by show (0 : Int) < 10 ^ 30 - 1; decide), _, _, rfl, rfl, _, rfl, _, _, rfl, rfl, ⟨by decide, by decide, by decide⟩, _, _, rfl, rfl, ⟨by decide, bt2 (by decide +kernel)⟩, _, _, rfl, rfl, ⟨by decide, by decide, by decide⟩, _, _, rfl, rfl, _, _, rfl, rfl, (by show (0 : Int) < 10 ^ 30 - 1; decide), _, _, rfl, rfl, _, _, rfl, hb, bb.mono (by decide), fun p H5 s5 k5 => ?_⟩
      obtain ⟨xs5, hxs, hxl, rw5⟩ := rw1.app s5 k5
      have hlz : xs5.length < sizeLine := by (first | lia | omega)
      refine ⟨D, xs5, _, rfl, rfl, hxs, hlz, _, rfl, _, _, rfl, rfl, ⟨by decide, by decide, by decide⟩, _, _, rfl, rfl, ⟨by decide, bt2 (by decide +kernel)⟩, ⟨_, _, rfl⟩, same_updF (sm.trans s5) hD _, _, rw5, by simp [l1], fun q hq => ?_, fun q hq => ?_⟩
      · rcases List.mem_append.mp hq with z | z
        · exact p1 q z
        · rw [List.mem_singleton.mp z]; exact div_pos ht hb
      · rcases List.mem_append.mp hq with y | y
        · exact b1 q y
        · rw [List.mem_singleton.mp y, if_pos z]; exact bq_of (Int.ne_of_gt hb) rfl bt bb
    · have h1 := Int.emod_nonneg r' (show (12 : Int) ≠ 0 by decide)
      have h2 := Int.emod_lt_of_pos r' (show (0 : Int) < 12 by decide)
      have h3 := Int.emod_nonneg (r' / 12) (show (12 : Int) ≠ 0 by decide)
      have h4 := Int.emod_lt_of_pos (r' / 12) (show (0 : Int) < 12 by decide)
      have ht : 0 < 1 + r' % 12 := by (first | lia | omega)
      have hb : 0 < 1 + r' / 12 % 12 := by (first | lia | omega)
      have bt : Bt 4 (1 + r' % 12) := Bt.between (by (first | lia | omega)) (by (first | lia | omega))
      have bb : Bt 4 (1 + r' / 12 % 12) := Bt.between (by (first | lia | omega)) (by (first | lia | omega))
      refine ⟨_, rfl, .inl ⟨rfl, _, SqL.of e4⟩, _, rfl, _, _, rfl, rfl, (by show (0 : Int) < 12; decide), _, _, rfl, rfl, _, rfl, _, _, rfl, rfl, ⟨by decide, bt2 (by decide +kernel)⟩, _, _, rfl, rfl, (by show (0 : Int) < 12; decide), _, _, rfl, rfl, _, _, rfl, hb, bb.mono (by decide), fun p H5 s5 k5 => ?_⟩
      obtain ⟨xs5, hxs, hxl, rw5⟩ := rw1.app s5 k5
      have hlz : xs5.length < sizeLine := by (first | lia | omega)
      refine ⟨D, xs5, _, rfl, rfl, hxs, hlz, _, rfl, _, _, rfl, rfl, ⟨by decide, bt2 (by decide +kernel)⟩, ⟨_, _, rfl⟩, same_updF (sm.trans s5) hD _, _, rw5, by simp [l1], fun q hq => ?_, fun q hq => ?_⟩
      · rcases List.mem_append.mp hq with z | z
        · exact p1 q z
        · rw [List.mem_singleton.mp z]; exact div_pos ht hb
      · rcases List.mem_append.mp hq with y | y
        · exact b1 q y
        · rw [List.mem_singleton.mp y, if_neg z]; exact bq_of (Int.ne_of_gt hb) rfl bt bb
  · rintro σ H1 ⟨⟨r, v, rfl⟩, sm, qs, ⟨ps, ep, kp⟩, lq, pq, bq⟩
    have lp := kp.length
    refine ⟨_, rfl, D, _, 0, rfl, rfl, .inl ⟨rfl, rfl⟩, SqL.of ep, fun ga hga => ?_⟩
    have t1 := same_upd hga (.lst (L3.ev2 ((ps.map V.ref).drop 0)))
    refine ⟨_, rfl, _, rfl, D, _, 1, rfl, rfl, .inr rfl, SqL.of (t1 _ _ ep), fun wa hwa => ⟨(by show 2 ≤ sizeLine; decide), fun r hr' => ?_⟩⟩
    have t2 := same_upd hwa (.lst (L3.ev2 ((ps.map V.ref).drop 1)))
    have t3 := same_upd hr' (.tup [.ref ga, .ref wa])
    have t := t1.trans (t2.trans t3)
    refine q r ga wa (L3.ev2 (qs.drop 0)) (L3.ev2 (qs.drop 1)) _ (sm.trans t) upd_same (sm.free hga) (sm.free (t1.free hwa)) (ne_of_none upd_same hwa) ⟨L3.ev2 (ps.drop 0), ?_, Pqs.keep (Pqs.ev2 (Pqs.drop 0 kp)) t⟩ ⟨L3.ev2 (ps.drop 1), ?_, Pqs.keep (Pqs.ev2 (Pqs.drop 1 kp)) t⟩ ⟨?_, ?_, ⟨fun q hq => pq q (List.mem_of_mem_drop (L3.ev2_mem hq)), fun q hq => pq q (List.mem_of_mem_drop (L3.ev2_mem hq))⟩, ?_⟩
    · rw [(t2.trans t3) _ _ upd_same, L3.ev2_map, List.map_drop]
    · rw [t3 _ _ upd_same, L3.ev2_map, List.map_drop]
    · rw [L3.ev2_length, L3.ev2_length, List.length_drop, List.length_drop]; (first | lia | omega)
    · rw [L3.ev2_length, List.length_drop]; (first | lia | omega)
    · cases wd with
      | false => exact .inl ⟨fun q hq => bq q (List.mem_of_mem_drop (L3.ev2_mem hq)), fun q hq => bq q (List.mem_of_mem_drop (L3.ev2_mem hq))⟩
      | true => exact .inr ⟨by rw [L3.ev2_length, List.length_drop]; have := hm3 rfl; (first | lia | omega), fun q hq => bq q (List.mem_of_mem_drop (L3.ev2_mem hq)), fun q hq => bq q (List.mem_of_mem_drop (L3.ev2_mem hq))⟩

/-! ### cords changed -/
theorem Rw.cto {H : Hp} {p : Addr} {ps : List Addr} {qs : List Rat} (kp : Pqs H ps qs) (hp : H p = none) (k : Nat) : Rw (upd H p (.lst (cutV (ps.map V.ref) none (some (k : Int))))) p (qs.take k) :=
  ⟨ps.take k, by rw [upd_same, cut_to], (kp.take k).keep (same_upd hp _)⟩
theorem Rw.cfr {H : Hp} {p : Addr} {ps : List Addr} {qs : List Rat} (kp : Pqs H ps qs) (hp : H p = none) (k : Nat) : Rw (upd H p (.lst (cutV (ps.map V.ref) (some (k : Int)) none))) p (qs.drop k) :=
  ⟨ps.drop k, by rw [upd_same, cut_from], (kp.drop k).keep (same_upd hp _)⟩
theorem Rw.cat {H : Hp} {p : Addr} {ps rs : List Addr} {qs ts : List Rat} (kp : Pqs H ps qs) (kr : Pqs H rs ts) (hp : H p = none) : Rw (upd H p (.lst (ps.map V.ref ++ rs.map V.ref))) p (qs ++ ts) :=
  ⟨ps ++ rs, by rw [upd_same, List.map_append], (kp.append kr).keep (same_upd hp _)⟩
/-- a new cord -/
theorem new_cord {C : Addr} {H : Hp} {a b : Addr} {gs ws : List Rat} {R : Hp → Prop} {E : XK} {x dx : Addr} (nx : H x = none) (ndx : H dx = none) (ra : Rw H a gs) (rb : Rw H b ws) (fine : Fine0 gs ws)
    (q : ∀ ga wa H', Same H H' → H ga = none → H wa = none → Co C H' x ga wa gs ws → R H') :
    sp_init0 C (.ref x :: ([.ref a, .ref b] ++ [])) (upd (upd H dx (.own x)) x (.ins C dx [])) (fun v H' => v = .non ∧ R H') E := by
  have s3 : Same H (upd (upd H dx (.own x)) x (.ins C dx [])) := fun b o e => by
    rw [upd_ne (ne_of_none e nx), upd_ne (ne_of_none e ndx)]
    exact e
  exact ⟨x, a, b, gs, ws, dx, rfl, upd_same, ra.keep s3, rb.keep s3, fine, fun ga' wa' H' kp n1 n2 co => ⟨rfl, q ga' wa' H' (fun b o z => kp b o (ne_of_none z nx) (s3 _ _ z)) (s3.free n1) (s3.free n2) co⟩⟩
def jng (gs hs : List Rat) : List Rat := gs.take (gs.length - 1) ++ [gs.getD (gs.length - 1) 0 + hs.getD 0 0] ++ hs.drop 1
theorem getD_mem {gs : List Rat} {i : Nat} (h : i < gs.length) : gs.getD i 0 ∈ gs := by rw [Po.getD_in h]; exact List.getElem_mem h
def sp_joined (C : Addr) : Sp := fun vs H Q _ => ∃ c ga wa gs ws d ha xa hs xs, vs = [.ref c, .ref d] ∧ Co C H c ga wa gs ws ∧ Co C H d ha xa hs xs ∧ Fine gs ws ∧ Fine hs xs ∧ ws.length + xs.length ≤ 12 ∧
  ∀ r g w H', Same H H' → H r = none → H g = none → H w = none → Co C H' r g w (jng gs hs) (ws ++ xs) → Q (.ref r) H'
def sp_chb (C : Addr) : Sp := fun vs H Q _ => ∃ c ga wa gs ws, ∃ (n : Nat), vs = [.ref c, .int n] ∧ Co C H c ga wa gs ws ∧ 1 ≤ n ∧ n ≤ ws.length ∧ Q .non H
def sp_cut (C : Addr) : Sp := fun vs H Q _ => ∃ c ga wa gs ws, ∃ (n : Nat), vs = [.ref c, .int n] ∧ Co C H c ga wa gs ws ∧ Fine0 gs ws ∧ 1 ≤ n ∧ n ≤ ws.length ∧
  ∀ r c1 g1 w1 c2 g2 w2 H', Same H H' → H' r = some (.tup [.ref c1, .ref c2]) → Co C H' c1 g1 w1 (gs.take n) (ws.take (n - 1)) → Co C H' c2 g2 w2 (gs.drop n) (ws.drop n) → Q (.ref r) H'
theorem sc_check_bead : FnScope ["cord", "bead"] ["cord", "bead"] (defScope s_check_bead) := ⟨rfl, rfl, rfl, by decide +kernel, rfl, by decide +kernel, by decide +kernel⟩
theorem ok_check_bead (F : Fun K "check_bead" "check_bead" s_check_bead f fd) (T : Txt mg) (C_Cord_beads : CalM P w K mg base o_Cord "beads" 1 ["self"] (sp_beads o_Cord)) : FnOk P w K mg base CX0 2 f fd ["cord", "bead"] (sp_chb o_Cord) := by
  refine F.ok sc_check_bead (fun vs H Q E h => ?_) (fun cdv A outer s H vs Q E hr h => ?_)
  · obtain ⟨c, ga, wa, gs, ws, n, rfl, _⟩ := h
    rfl
  obtain ⟨c, ga, wa, gs, ws, n, rfl, co, h1, h2, q⟩ := h
  obtain ⟨dx, ec⟩ := co.1
  refine ⟨_, (pss_one (ps_if (PW.pt (pw_or (pt_cmpR op_lt (pv 1) pe_int (nomark _)) (pw_or1 (pt_cmpR op_gt (pv 1) (pe_m0 C_Cord_beads hr (pv 0)) (nomark _)))))
        (pss_one ps_never)
        pss_nil)), ?_⟩
  refine ⟨_, rfl, _, _, rfl, rfl, _, rfl, iteND (by (first | lia | omega)) ?_⟩
  exact ⟨_, rfl, _, rfl, c, dx, _, rfl, ec, rfl, c, ga, wa, gs, ws, rfl, co, _, _, rfl, rfl, _, rfl, iteND (by (first | lia | omega)) q⟩
theorem sc_cut : FnScope ["cord", "bead", "gaps", "weights"] ["cord", "bead"] (defScope s_cut) := ⟨rfl, rfl, rfl, by decide +kernel, rfl, by decide +kernel, by decide +kernel⟩
theorem ok_cut (F : Fun K "cut" "cut" s_cut f fd) (T : Txt mg) (C_check_bead : Cal P w K mg base "check_bead" 2 ["cord", "bead"] (sp_chb o_Cord)) (C_Cord_gaps : CalM P w K mg base o_Cord "gaps" 1 ["self"] (sp_gaps o_Cord)) (C_Cord_weights : CalM P w K mg base o_Cord "weights" 1 ["self"] (sp_weights o_Cord))
    (C_Cord_init : CalC P w K mg base "Cord" o_Cord 4 ["self", "gaps", "weights"] (sp_init0 o_Cord)) : FnOk P w K mg base CX0 6 f fd ["cord", "bead"] (sp_cut o_Cord) := by
  refine F.ok sc_cut (fun vs H Q E h => ?_) (fun cdv A outer s H vs Q E hr h => ?_)
  · obtain ⟨c, ga, wa, gs, ws, n, rfl, _⟩ := h
    rfl
  obtain ⟨c, ga, wa, gs, ws, n, rfl, co, fine, h1, h2, q⟩ := h
  have hlen := fine.len
  have hmost := fine.most
  refine ⟨_, (pss_cons (ps_expr (pe_cl C_check_bead hr (pa_cons (pv 0) (pa_cons (pv 1) pa_nil))))
      (pss_cons (ps_set (i := 2) sc_cut.nd rfl (Or.inl rfl) (pe_m0 C_Cord_gaps hr (pv 0)))
      (pss_cons (ps_set (i := 3) sc_cut.nd rfl (Or.inl rfl) (pe_m0 C_Cord_weights hr (pv 0)))
      (pss_one (ps_ret (pe_tup (pa_cons (pe_mk C_Cord_init hr (pa_cons (pe_slice sl_list (pv 2) po_none (po_some (pv 1))) (pa_cons (pe_slice sl_list (pv 3) po_none (po_some (pe_op op_sub (pv 1) pe_int))) pa_nil))) (pa_cons (pe_mk C_Cord_init hr (pa_cons (pe_slice sl_list (pv 2) (po_some (pv 1)) po_none) (pa_cons (pe_slice sl_list (pv 3) (po_some (pv 1)) po_none) pa_nil))) pa_nil)))))))), ?_⟩
  refine ⟨_, rfl, _, rfl, c, ga, wa, gs, ws, n, rfl, co, h1, h2, ?_⟩
  obtain ⟨dx, ec⟩ := co.1
  refine ⟨_, rfl, c, dx, _, rfl, ec, rfl, c, ga, wa, gs, ws, rfl, co, fun g1 H1 s1 n1 r1 => ?_⟩
  refine ⟨_, rfl, c, dx, _, rfl, s1 _ _ ec, rfl, c, ga, wa, gs, ws, rfl, co.keep s1, fun w1 H2 s2 n2 ⟨pw, ew, kw⟩ => ?_⟩
  obtain ⟨pg, eg, kg⟩ := r1.keep s2
  have s12 := s1.trans s2
  refine ⟨_, rfl, _, rfl, _, rfl, g1, _, rfl, SqL.of eg, fun m1 hm1 => ?_⟩
  have u1 := same_upd hm1 (.lst (cutV (pg.map V.ref) none (some (n : Int))))
  have t1 : Rw (upd H2 m1 (.lst (cutV (pg.map V.ref) none (some (n : Int))))) m1 (gs.take n) := Rw.cto kg hm1 n
  have ewA := u1 _ _ ew
  have egA := u1 _ _ eg
  have kwA := kw.keep u1
  have kgA := kg.keep u1
  have sA := s12.trans u1
  clear ew eg kw kg u1 s12 s1 s2
  generalize upd H2 m1 (.lst (cutV (pg.map V.ref) none (some (n : Int)))) = HA at *
  refine ⟨_, rfl, _, rfl, _, _, rfl, rfl, _, rfl, w1, _, rfl, SqL.of ewA, fun m2 hm2 => ?_⟩
  have en : (n : Int) - 1 = ((n - 1 : Nat) : Int) := by (first | lia | omega)
  have u2 := same_upd hm2 (.lst (cutV (pw.map V.ref) none (some ((n : Int) - 1))))
  have t2 : Rw (upd HA m2 (.lst (cutV (pw.map V.ref) none (some ((n : Int) - 1))))) m2 (ws.take (n - 1)) := by
    rw [en]
    exact Rw.cto kwA hm2 (n - 1)
  have t1A := t1.keep u2
  have ewB := u2 _ _ ewA
  have egB := u2 _ _ egA
  have kwB := kwA.keep u2
  have kgB := kgA.keep u2
  have sB := sA.trans u2
  clear ewA egA kwA kgA sA u2 t1
  generalize upd HA m2 (.lst (cutV (pw.map V.ref) none (some ((n : Int) - 1)))) = HB at *
  intro c1 dx2 nx ndx _
  have fi1 : Fine0 (gs.take n) (ws.take (n - 1)) := ⟨by rw [List.length_take, List.length_take]; (first | lia | omega), by rw [List.length_take]; (first | lia | omega), fun q h => fine.pos.1 q (List.mem_of_mem_take h), fun q h => fine.pos.2 q (List.mem_of_mem_take h)⟩
  have fi2 : Fine0 (gs.drop n) (ws.drop n) := ⟨by rw [List.length_drop, List.length_drop]; (first | lia | omega), by rw [List.length_drop]; (first | lia | omega), fun q h => fine.pos.1 q (List.mem_of_mem_drop h), fun q h => fine.pos.2 q (List.mem_of_mem_drop h)⟩
  refine new_cord nx ndx t1A t2 fi1 fun ga1 wa1 HC sC _ _ co1 => ?_
  have egC := sC _ _ egB
  have ewC := sC _ _ ewB
  have kgC := kgB.keep sC
  have kwC := kwB.keep sC
  have sD := sB.trans sC
  clear egB ewB kgB kwB sB sC t1A t2
  refine ⟨_, rfl, _, rfl, _, rfl, g1, _, rfl, SqL.of egC, fun m3 hm3 => ?_⟩
  have u3 := same_upd hm3 (.lst (cutV (pg.map V.ref) (some (n : Int)) none))
  have t3 : Rw (upd HC m3 (.lst (cutV (pg.map V.ref) (some (n : Int)) none))) m3 (gs.drop n) := Rw.cfr kgC hm3 n
  have ewD := u3 _ _ ewC
  have kwD := kwC.keep u3
  have coD := co1.keep u3
  have sE := sD.trans u3
  clear egC ewC kgC kwC sD u3
  generalize upd HC m3 (.lst (cutV (pg.map V.ref) (some (n : Int)) none)) = HD at *
  refine ⟨_, rfl, _, rfl, _, rfl, w1, _, rfl, SqL.of ewD, fun m4 hm4 => ?_⟩
  have u4 := same_upd hm4 (.lst (cutV (pw.map V.ref) (some (n : Int)) none))
  have t4 : Rw (upd HD m4 (.lst (cutV (pw.map V.ref) (some (n : Int)) none))) m4 (ws.drop n) := Rw.cfr kwD hm4 n
  have t3A := t3.keep u4
  have coE := coD.keep u4
  have sF := sE.trans u4
  clear ewD kwD coD sE u4 t3
  generalize upd HD m4 (.lst (cutV (pw.map V.ref) (some (n : Int)) none)) = HE at *
  intro c2 dx2' nx' ndx' _
  refine new_cord nx' ndx' t3A t4 fi2 fun ga2 wa2 HF sG _ _ co2 => ⟨(by show 2 ≤ sizeLine; decide), fun r hr' => ?_⟩
  have u5 := same_upd hr' (.tup [.ref c1, .ref c2])
  exact q r c1 ga1 wa1 c2 ga2 wa2 _ (sF.trans (sG.trans u5)) upd_same (coE.keep (sG.trans u5)) (co2.keep u5)

/-! ### heavier, longer -/
def mor (qs : List Rat) (k : Nat) (x : Rat) : List Rat := qs.take k ++ [qs.getD k 0 + x] ++ qs.drop (k + 1)
theorem mor_length {qs : List Rat} {k : Nat} (x : Rat) (h : k < qs.length) : (mor qs k x).length = qs.length := by
  unfold mor
  simp only [List.length_append, List.length_take, List.length_drop, List.length_cons, List.length_nil]
  (first | lia | omega)
theorem mor_mem {P : Rat → Prop} {qs : List Rat} {k : Nat} {x : Rat} (hq : ∀ q ∈ qs, P q) (hm : P (qs.getD k 0 + x)) : ∀ q ∈ mor qs k x, P q := fun q h => by
  unfold mor at h
  rcases List.mem_append.mp h with h | h
  · rcases List.mem_append.mp h with h | h
    · exact hq q (List.mem_of_mem_take h)
    · rw [List.mem_singleton.mp h]; exact hm
  · exact hq q (List.mem_of_mem_drop h)
theorem getD_le_mor {qs : List Rat} {k : Nat} {x : Rat} (hx : 0 ≤ x) (h : k < qs.length) (i : Nat) : qs.getD i 0 ≤ (mor qs k x).getD i 0 := by
  unfold mor
  have l1 : (qs.take k).length = k := by rw [List.length_take]; (first | lia | omega)
  rcases Nat.lt_trichotomy i k with z | z | z
  · rw [List.append_assoc, List.getD_eq_getElem?_getD, List.getD_eq_getElem?_getD, List.getElem?_append_left (by (first | lia | omega)), List.getElem?_take, if_pos z]
    exact Rat.le_refl
  · subst z
    have e : (qs.take i ++ [qs.getD i 0 + x] ++ qs.drop (i + 1)).getD i 0 = qs.getD i 0 + x := by
      rw [List.append_assoc, List.getD_eq_getElem?_getD, List.getElem?_append_right (by (first | lia | omega)), l1, Nat.sub_self]
      rfl
    rw [e]
    grind
  · have l2 : (qs.take k ++ [qs.getD k 0 + x]).length = k + 1 := by rw [List.length_append, l1]; rfl
    rw [List.getD_eq_getElem?_getD, List.getD_eq_getElem?_getD, List.getElem?_append_right (by (first | lia | omega)), l2, List.getElem?_drop, show k + 1 + (i - (k + 1)) = i by (first | lia | omega)]
    exact Rat.le_refl
def sp_wm : Sp := fun vs H Q _ => ∃ (a p : Addr) (k : Nat) (qs : List Rat) (x : Rat), vs = [.ref a, .int k, .ref p] ∧ Rw H a qs ∧ Pq H p x ∧ k < qs.length ∧ qs.length ≤ 100 ∧ 0 < x ∧ Bq 8000 x ∧ (∀ q ∈ qs, Bq 8000 q) ∧ ∀ r H', Same H H' → H r = none → Rw H' r (mor qs k x) → Q (.ref r) H'
def sp_heavier (C : Addr) : Sp := fun vs H Q _ => ∃ (c ga wa p : Addr) (gs ws : List Rat) (n : Nat) (x : Rat), vs = [.ref c, .int n, .ref p] ∧ Co C H c ga wa gs ws ∧ Pq H p x ∧ Fine gs ws ∧ 1 ≤ n ∧ n ≤ ws.length ∧ 0 < x ∧ Bq 101 x ∧
  ∀ r g w H', Same H H' → H r = none → H g = none → H w = none → Co C H' r g w gs (mor ws (n - 1) x) → Q (.ref r) H'
def sp_longer (C : Addr) : Sp := fun vs H Q _ => ∃ (c ga wa p : Addr) (gs ws : List Rat) (n : Nat) (x : Rat), vs = [.ref c, .int n, .ref p] ∧ Co C H c ga wa gs ws ∧ Pq H p x ∧ Fine gs ws ∧ n ≤ ws.length ∧ 0 < x ∧ Bq 101 x ∧
  ∀ r g w H', Same H H' → H r = none → H g = none → H w = none → Co C H' r g w (mor gs n x) ws → Q (.ref r) H'
theorem Fine.heavy {gs ws : List Rat} {n : Nat} {x : Rat} (f : Fine gs ws) (hn : n < ws.length) (hx : 0 < x) : Fine0 gs (mor ws n x) := by
  refine ⟨by rw [mor_length x hn]; exact f.len, by rw [mor_length x hn]; exact f.most, f.pos.1, mor_mem f.pos.2 ?_⟩
  have := f.pos.2 _ (getD_mem hn)
  grind
theorem Fine.long {gs ws : List Rat} {n : Nat} {x : Rat} (f : Fine gs ws) (hn : n < gs.length) (hx : 0 < x) : Fine0 (mor gs n x) ws := by
  refine ⟨by rw [mor_length x hn]; exact f.len, f.most, mor_mem f.pos.1 ?_, f.pos.2⟩
  have := f.pos.1 _ (getD_mem hn)
  grind
theorem sc_with_more : FnScope ["row", "place", "more"] ["row", "place", "more"] (defScope s_with_more) := ⟨rfl, rfl, rfl, by decide +kernel, rfl, by decide +kernel, by decide +kernel⟩
theorem ok_with_more (F : Fun K "with_more" "with_more" s_with_more f fd) (T : Txt mg) (C_is_fraction : Cal P w K mg base "is_fraction" 2 ["thing"] sp_frac) (C_side : Cal P w K mg base "side" 1 ["one"] sp_side) (C_plus : Cal P w K mg base "plus" 2 ["one", "other"] (sp_bin 8000 (· + ·))) : FnOk P w K mg base CX0 3 f fd ["row", "place", "more"] sp_wm := by
  refine F.ok sc_with_more (fun vs H Q E h => ?_) (fun cdv A outer s H vs Q E hr h => ?_)
  · obtain ⟨a, p, k, qs, x, rfl, _⟩ := h
    rfl
  obtain ⟨a, pm, k, qs, x, rfl, ⟨ps, ea, ka⟩, km, hk, hl, hx, bx, bq, q⟩ := h
  have lp := ka.length
  have hz : (1000 : Nat) < sizeLine := by decide
  refine ⟨_, (pss_cons (ps_if (PW.pt (pw_or (pt_not (pt_val (pe_cl C_is_fraction hr (pa_cons (pv 2) pa_nil)))) (pw_or1 (pt_cmpR op_ne (pe_cl C_side hr (pa_cons (pv 2) pa_nil)) pe_int (nomark _)))))
        (pss_one ps_never)
        pss_nil)
      (pss_one (ps_ret (pe_op op_cat (pe_op op_cat (pe_slice sl_list (pv 0) po_none (po_some (pv 1))) (pe_lst (pa_cons (pe_cl C_plus hr (pa_cons (pe_ix ix_list (pv 0) (pv 1) (fun _ _ => rfl)) (pa_cons (pv 2) pa_nil))) pa_nil))) (pe_slice sl_list (pv 0) (po_some (pe_op op_add (pv 1) pe_int)) po_none))))), ?_⟩
  refine ⟨_, rfl, pm, x, rfl, km, _, rfl, iteF ?_⟩
  have sg : sgn x.num = 1 := by
    have h0 : 0 < x.num := by
      have h0 : 0 ≤ x.num := Rat.num_nonneg.mpr (Rat.le_of_lt hx)
      have h1 : x.num ≠ 0 := fun z => by
        rw [Rat.num_eq_zero.mp z] at hx
        exact absurd hx (by decide)
      (first | lia | omega)
    unfold sgn
    rw [if_pos h0]
  refine ⟨_, rfl, pm, _, _, rfl, km, rfl, _, rfl, iteNS (congrArg V.int sg) ?_⟩
  refine ⟨_, rfl, _, rfl, _, rfl, a, _, rfl, SqL.of ea, fun m1 hm1 => ?_⟩
  have u1 := same_upd hm1 (.lst (cutV (ps.map V.ref) none (some (k : Int))))
  have t1 : Rw (upd H m1 (.lst (cutV (ps.map V.ref) none (some (k : Int))))) m1 (qs.take k) := Rw.cto ka hm1 k
  have ea1 := u1 _ _ ea
  have ka1 := ka.keep u1
  have km1 := km.keep u1
  clear hm1
  generalize upd H m1 (.lst (cutV (ps.map V.ref) none (some (k : Int)))) = H1 at *
  obtain ⟨y, ey, ky⟩ := ka1.get (List.getElem?_eq_getElem hk)
  refine ⟨_, rfl, _, rfl, a, _, _, _, rfl, rfl, SqL.of ea1, atI_nat ey, _, rfl, y, pm, _, _, rfl, ky, km1, bq _ (List.getElem_mem hk), bx, fun z H2 s2 kz => ⟨(by show 1 ≤ sizeLine; decide), fun m2 hm2 => ?_⟩⟩
  obtain ⟨q1, f1, j1⟩ := t1.keep s2
  have lq1 := j1.length
  rw [List.length_take] at lq1
  have v1 := same_upd hm2 (.lst [.ref z])
  have hz' : (fun x1 x2 : Rat => x1 + x2) qs[k] x = qs.getD k 0 + x := by rw [Po.getD_in hk]
  rw [hz'] at kz
  refine ⟨m1, m2, _, _, rfl, rfl, v1 _ _ f1, upd_same, by simp only [List.length_map, List.length_cons, List.length_nil]; (first | lia | omega), fun m3 hm3 => ?_⟩
  have v2 := same_upd hm3 (.lst (q1.map V.ref ++ [.ref z]))
  have t3 : Rw (upd (upd H2 m2 (.lst [.ref z])) m3 (.lst (q1.map V.ref ++ [.ref z]))) m3 (qs.take k ++ [qs.getD k 0 + x]) := Rw.cat (rs := [z]) (j1.keep v1) (.cons (kz.keep v1) .nil) hm3
  have s3 := s2.trans (v1.trans v2)
  have ea3 := s3 _ _ ea1
  have ka3 := ka1.keep s3
  have s03 := u1.trans s3
  clear v1 v2 hm2 hm3 s3 s2 u1
  generalize upd (upd H2 m2 (.lst [.ref z])) m3 (.lst (q1.map V.ref ++ [.ref z])) = H3 at *
  refine ⟨_, rfl, _, rfl, _, _, rfl, rfl, _, rfl, a, _, rfl, SqL.of ea3, fun m4 hm4 => ?_⟩
  have u4 := same_upd hm4 (.lst (cutV (ps.map V.ref) (some ((k : Int) + 1)) none))
  have t4 : Rw (upd H3 m4 (.lst (cutV (ps.map V.ref) (some ((k : Int) + 1)) none))) m4 (qs.drop (k + 1)) := Rw.cfr ka3 hm4 (k + 1)
  have t3' := t3.keep u4
  have s04 := s03.trans u4
  clear u4 hm4 t3
  generalize upd H3 m4 (.lst (cutV (ps.map V.ref) (some ((k : Int) + 1)) none)) = H4 at *
  obtain ⟨q3, f3, j3⟩ := t3'
  obtain ⟨q4, f4, j4⟩ := t4
  have lq3 := j3.length
  have lq4 := j4.length
  rw [List.length_append, List.length_take, List.length_singleton] at lq3
  rw [List.length_drop] at lq4
  refine ⟨m3, m4, _, _, rfl, rfl, f3, f4, by rw [List.length_map, List.length_map]; (first | lia | omega), fun m5 hm5 => ?_⟩
  exact q m5 _ (s04.trans (same_upd hm5 _)) (s04.free hm5) (Rw.cat j3 j4 hm5)
theorem sc_heavier : FnScope ["cord", "bead", "more"] ["cord", "bead", "more"] (defScope s_heavier) := ⟨rfl, rfl, rfl, by decide +kernel, rfl, by decide +kernel, by decide +kernel⟩
theorem ok_heavier (F : Fun K "heavier" "heavier" s_heavier f fd) (T : Txt mg) (C_check_bead : Cal P w K mg base "check_bead" 2 ["cord", "bead"] (sp_chb o_Cord)) (C_with_more : Cal P w K mg base "with_more" 3 ["row", "place", "more"] sp_wm) (C_Cord_gaps : CalM P w K mg base o_Cord "gaps" 1 ["self"] (sp_gaps o_Cord)) (C_Cord_weights : CalM P w K mg base o_Cord "weights" 1 ["self"] (sp_weights o_Cord))
    (C_Cord_init : CalC P w K mg base "Cord" o_Cord 4 ["self", "gaps", "weights"] (sp_init0 o_Cord)) : FnOk P w K mg base CX0 6 f fd ["cord", "bead", "more"] (sp_heavier o_Cord) := by
  refine F.ok sc_heavier (fun vs H Q E h => ?_) (fun cdv A outer s H vs Q E hr h => ?_)
  · obtain ⟨c, ga, wa, p, gs, ws, n, x, rfl, _⟩ := h
    rfl
  obtain ⟨c, ga, wa, p, gs, ws, n, x, rfl, co, kx, fine, h1, h2, hx, bx, q⟩ := h
  have hmost := fine.most
  refine ⟨_, (pss_cons (ps_expr (pe_cl C_check_bead hr (pa_cons (pv 0) (pa_cons (pv 1) pa_nil))))
      (pss_one (ps_ret (pe_mk C_Cord_init hr (pa_cons (pe_m0 C_Cord_gaps hr (pv 0)) (pa_cons (pe_cl C_with_more hr (pa_cons (pe_m0 C_Cord_weights hr (pv 0)) (pa_cons (pe_op op_sub (pv 1) pe_int) (pa_cons (pv 2) pa_nil)))) pa_nil)))))), ?_⟩
  refine ⟨_, rfl, _, rfl, c, ga, wa, gs, ws, n, rfl, co, h1, h2, ?_⟩
  obtain ⟨dx, ec⟩ := co.1
  refine ⟨_, rfl, c, dx, _, rfl, ec, rfl, c, ga, wa, gs, ws, rfl, co, fun g1 H1 s1 n1 r1 => ?_⟩
  refine ⟨_, rfl, c, dx, _, rfl, s1 _ _ ec, rfl, c, ga, wa, gs, ws, rfl, co.keep s1, fun w1 H2 s2 n2 r2 => ?_⟩
  have s12 := s1.trans s2
  have hn : n - 1 < ws.length := by (first | lia | omega)
  refine ⟨_, rfl, _, _, rfl, rfl, _, rfl, w1, p, n - 1, ws, x, ?_, r2, kx.keep s12, hn, by (first | lia | omega), hx, bx.mono (by decide), fun q h => (fine.bq.2 q h).mono (by decide), fun w2 H3 s3 n3 r3 => ?_⟩
  · rw [show ((n - 1 : Nat) : Int) = (n : Int) - 1 by (first | lia | omega)]
    rfl
  have s13 := s12.trans s3
  intro x' dx2 nx ndx _
  exact new_cord nx ndx (r1.keep (s2.trans s3)) r3 (fine.heavy hn hx) fun g w H' s' ng nw co' => q x' g w H' (s13.trans s') (s13.free nx) (s13.free ng) (s13.free nw) co'
theorem sc_longer : FnScope ["cord", "gap", "more"] ["cord", "gap", "more"] (defScope s_longer) := ⟨rfl, rfl, rfl, by decide +kernel, rfl, by decide +kernel, by decide +kernel⟩
theorem ok_longer (F : Fun K "longer" "longer" s_longer f fd) (T : Txt mg) (C_with_more : Cal P w K mg base "with_more" 3 ["row", "place", "more"] sp_wm) (C_Cord_gaps : CalM P w K mg base o_Cord "gaps" 1 ["self"] (sp_gaps o_Cord)) (C_Cord_weights : CalM P w K mg base o_Cord "weights" 1 ["self"] (sp_weights o_Cord)) (C_Cord_beads : CalM P w K mg base o_Cord "beads" 1 ["self"] (sp_beads o_Cord))
    (C_Cord_init : CalC P w K mg base "Cord" o_Cord 4 ["self", "gaps", "weights"] (sp_init0 o_Cord)) : FnOk P w K mg base CX0 6 f fd ["cord", "gap", "more"] (sp_longer o_Cord) := by
  refine F.ok sc_longer (fun vs H Q E h => ?_) (fun cdv A outer s H vs Q E hr h => ?_)
  · obtain ⟨c, ga, wa, p, gs, ws, n, x, rfl, _⟩ := h
    rfl
  obtain ⟨c, ga, wa, p, gs, ws, n, x, rfl, co, kx, fine, h2, hx, bx, q⟩ := h
  have hmost := fine.most
  have hlen := fine.len
  obtain ⟨dx, ec⟩ := co.1
  refine ⟨_, (pss_cons (ps_if (PW.pt (pw_or (pt_cmpR op_lt (pv 1) pe_int (nomark _)) (pw_or1 (pt_cmpR op_gt (pv 1) (pe_m0 C_Cord_beads hr (pv 0)) (nomark _)))))
        (pss_one ps_never)
        pss_nil)
      (pss_one (ps_ret (pe_mk C_Cord_init hr (pa_cons (pe_cl C_with_more hr (pa_cons (pe_m0 C_Cord_gaps hr (pv 0)) (pa_cons (pv 1) (pa_cons (pv 2) pa_nil)))) (pa_cons (pe_m0 C_Cord_weights hr (pv 0)) pa_nil)))))), ?_⟩
  refine ⟨_, rfl, _, _, rfl, rfl, _, rfl, iteND (by (first | lia | omega)) ?_⟩
  refine ⟨_, rfl, _, rfl, c, dx, _, rfl, ec, rfl, c, ga, wa, gs, ws, rfl, co, _, _, rfl, rfl, _, rfl, iteND (by (first | lia | omega)) ?_⟩
  refine ⟨_, rfl, c, dx, _, rfl, ec, rfl, c, ga, wa, gs, ws, rfl, co, fun g1 H1 s1 n1 r1 => ?_⟩
  have hn : n < gs.length := by (first | lia | omega)
  refine ⟨_, rfl, _, rfl, g1, p, n, gs, x, rfl, r1, kx.keep s1, hn, by (first | lia | omega), hx, bx.mono (by decide), fun q h => (fine.bq.1 q h).mono (by decide), fun g2 H2 s2 n2 r2 => ?_⟩
  have s12 := s1.trans s2
  refine ⟨_, rfl, c, dx, _, rfl, s12 _ _ ec, rfl, c, ga, wa, gs, ws, rfl, co.keep s12, fun w1 H3 s3 n3 r3 => ?_⟩
  have s13 := s12.trans s3
  intro x' dx2 nx ndx _
  exact new_cord nx ndx (r2.keep s3) r3 (fine.long hn hx) fun g w H' s' ng nw co' => q x' g w H' (s13.trans s') (s13.free nx) (s13.free ng) (s13.free nw) co'

/-! ### signs and turns -/
def sgs (qs : List Rat) : List Int := qs.map fun q => sgn q.num
def kept (qs : List Rat) : List Int := (sgs qs).filter fun n => !decide (V.int n = V.int 0)
def turnsQ (qs : List Rat) : Nat := cnt (fun i => !decide (V.int ((kept qs).getD i 0) = V.int (((kept qs).drop 1).getD i 0))) ((kept qs).length - 1)
def sp_signs : Sp := fun vs H Q _ => ∃ a qs, vs = [.ref a] ∧ Rw H a qs ∧ qs.length ≤ 1000 ∧ ∀ r H', Same H H' → H r = none → H' r = some (.lst ((sgs qs).map V.int)) → Q (.ref r) H'
def sp_turns : Sp := fun vs H Q _ => ∃ a qs, vs = [.ref a] ∧ Rw H a qs ∧ qs.length ≤ 1000 ∧ ∀ H', Same H H' → Q (.int (turnsQ qs)) H'
theorem sc_signs : FnScope ["row"] ["row"] (defScope s_signs) := ⟨rfl, rfl, rfl, by decide +kernel, rfl, by decide +kernel, by decide +kernel⟩
theorem ok_signs (F : Fun K "signs" "signs" s_signs f fd) (T : Txt mg) (C_side : Cal P w K mg base "side" 1 ["one"] sp_side) : FnOk P w K mg base CX0 2 f fd ["row"] sp_signs := by
  refine F.ok sc_signs (fun vs H Q E h => ?_) (fun cdv A outer s H vs Q E hr h => ?_)
  · obtain ⟨a, qs, rfl, _⟩ := h
    rfl
  obtain ⟨a, qs, rfl, ra, hl, q⟩ := h
  obtain ⟨xa, ea, la⟩ := ra.there
  refine ⟨_, (pss_one (ps_ret (pe_comp (N' := ["number"]) (fsc := defScope s_signs) (N := ["row"]) [] ⟨rfl, by decide +kernel, by decide +kernel, by decide +kernel, rfl, by decide +kernel, rfl, by decide +kernel⟩ (pi_list (pv 0)) (fun _ _ _ _ => (pe_cl C_side hr (pa_cons (pv 0) pa_nil)))))), ?_⟩
  refine ⟨_, rfl, a, rfl, ⟨_, SqL.of ea⟩, comp_listZ (by (first | lia | omega)) ra (fun q => sgn q.num) ?_ fun H1 D s1 nD eD => q D H1 s1 nD eD⟩
  intro _ _ _ _ p x H1 R hx kp s1 fin
  exact ⟨_, rfl, p, _, _, rfl, kp, fin⟩
theorem sc_turns : FnScope ["row", "sides"] ["row"] (defScope s_turns) := ⟨rfl, rfl, rfl, by decide +kernel, rfl, by decide +kernel, by decide +kernel⟩
theorem ok_turns (F : Fun K "turns" "turns" s_turns f fd) (T : Txt mg) (C_signs : Cal P w K mg base "signs" 2 ["row"] sp_signs) : FnOk P w K mg base CX0 3 f fd ["row"] sp_turns := by
  refine F.ok sc_turns (fun vs H Q E h => ?_) (fun cdv A outer s H vs Q E hr h => ?_)
  · obtain ⟨a, qs, rfl, _⟩ := h
    rfl
  obtain ⟨a, qs, rfl, ra, hl, q⟩ := h
  refine ⟨_, (pss_cons (ps_setCompG (i := 1) sc_turns.nd rfl (Or.inl rfl) (N' := ["sign"]) (fsc := defScope s_turns) (N := ["row", "sides"]) ["sign"] [] ⟨rfl, by decide +kernel, by decide +kernel, rfl, by decide +kernel, by decide +kernel⟩ (pi_list (pe_cl C_signs hr (pa_cons (pv 0) pa_nil))) (fun _ _ _ _ => (pg_blk (N' := ["sign"]) (i := 0) (by decide +kernel) rfl rfl)) (fun _ _ _ _ => (pts_one (pt_cmpR op_ne (pv 0) pe_int (nomark _)))) (fun _ _ _ _ => (pv 0)))
      (pss_one (ps_ret (pe_callB call_len_seq rfl T.z_len PySem.boot_len (pa_cons (pe_compG (N' := ["sign", "behind"]) (fsc := defScope s_turns) (N := ["row", "sides"]) ["sign", "behind"] [] ⟨rfl, by decide +kernel, by decide +kernel, rfl, by decide +kernel, by decide +kernel⟩ (pi_zip rfl T.z_zip (pa_cons (pv 1) (pa_cons (pe_slice sl_list (pv 1) (po_some pe_int) po_none) pa_nil))) (fun _ _ _ _ => (pg_blk2 (N' := ["sign", "behind"]) (i := 0) (j := 1) rfl (by decide +kernel) rfl rfl rfl rfl)) (fun _ _ _ _ => (pts_one (pt_cmpR op_ne (pv 0) (pv 1) (nomark _)))) (fun _ _ _ _ => (pv 0))) pa_nil))))), ?_⟩
  have lk : (kept qs).length ≤ 1000 := Nat.le_trans (List.length_filter_le _ _) (by unfold sgs; rw [List.length_map]; exact hl)
  refine ⟨_, rfl, a, qs, rfl, ra, hl, fun r1 H1 s1 n1 e1 => ?_⟩
  refine ⟨r1, rfl, ⟨_, SqL.of e1⟩, comp_filterZ (ns := sgs qs) (by unfold sgs; rw [List.length_map]; (first | lia | omega)) e1 (fun n => !decide (V.int n = V.int 0)) ?_ ?_ fun H2 D s2 nD eD => ?_⟩
  · intro _ _ _ _ n H2 R fin
    exact ⟨_, rfl, rfl, _, rfl, fin⟩
  · intro _ _ _ _ n H2 R fin
    exact ⟨_, rfl, fin⟩
  have eD' : H2 D = some (.lst ((kept qs).map V.int)) := eD
  refine ⟨_, rfl, _, rfl, _, rfl, D, _, rfl, SqL.of eD', fun l hl' => ?_⟩
  have u := same_upd hl' (.lst (cutV ((kept qs).map V.int) (some 1) none))
  have ec : cutV ((kept qs).map V.int) (some 1) none = ((kept qs).drop 1).map V.int := cut_from V.int (kept qs) 1
  have el : (upd H2 l (.lst (cutV ((kept qs).map V.int) (some 1) none))) l = some (.lst (((kept qs).drop 1).map V.int)) := by rw [upd_same, ec]
  refine ⟨D, l, rfl, ⟨_, SqL.of (u _ _ eD')⟩, ⟨_, SqL.of upd_same⟩, comp_zipZ (ns := kept qs) (ms := (kept qs).drop 1) ((kept qs).length - 1) (by rw [List.length_drop]; (first | lia | omega)) (by (first | lia | omega)) (u _ _ eD') el (fun x y => !decide (V.int x = V.int y)) ?_ ?_ fun H3 D3 xs s3 nD3 eD3 hx => ?_⟩
  · intro _ _ _ _ x y H3 R fin
    exact ⟨_, rfl, _, rfl, rfl, _, rfl, fin⟩
  · intro _ _ _ _ x y H3 R fin
    exact ⟨_, rfl, fin⟩
  refine ⟨D3, _, rfl, .inl (SqL.of eD3), ?_⟩
  have hx' : xs.length = turnsQ qs := hx
  rw [hx']
  exact q H3 (s1.trans (s2.trans (u.trans s3)))

/-! ### turns of a row, number by number -/
def turnsK (ks : List Int) : Nat := L3.cnt (fun i => !decide (V.int (ks.getD i 0) = V.int ((ks.drop 1).getD i 0))) (ks.length - 1)
theorem turnsQ_K (qs : List Rat) : turnsQ qs = turnsK (kept qs) := rfl
theorem getD_l {xs ys : List Int} {k : Nat} (h : k < xs.length) : (xs ++ ys).getD k 0 = xs.getD k 0 := by
  rw [List.getD_eq_getElem?_getD, List.getD_eq_getElem?_getD, List.getElem?_append_left h]
theorem turnsK_snoc (ks : List Int) (z a : Int) : turnsK (ks ++ [z] ++ [a]) = turnsK (ks ++ [z]) + if z = a then 0 else 1 := by
  unfold turnsK
  have l1 : (ks ++ [z] ++ [a]).length - 1 = ks.length + 1 := by simp
  have l2 : (ks ++ [z]).length - 1 = ks.length := by simp
  rw [l1, l2, L3.cnt]
  have ed : (ks ++ [z] ++ [a]).drop 1 = (ks ++ [z]).drop 1 ++ [a] := by
    rw [List.drop_append_of_le_length (by simp)]
  congr 1
  · refine cnt_congr fun i hi => ?_
    have a1 : (ks ++ [z] ++ [a]).getD i 0 = (ks ++ [z]).getD i 0 := getD_l (by simp; (first | lia | omega))
    have a2 : ((ks ++ [z]).drop 1 ++ [a]).getD i 0 = ((ks ++ [z]).drop 1).getD i 0 := getD_l (by simp; (first | lia | omega))
    rw [ed, a1, a2]
  · have g1 : (ks ++ [z] ++ [a]).getD ks.length 0 = z := by
      rw [getD_l (by simp), List.getD_eq_getElem?_getD, List.getElem?_append_right (Nat.le_refl _), Nat.sub_self]
      rfl
    have g2 : ((ks ++ [z] ++ [a]).drop 1).getD ks.length 0 = a := by
      have hl : ((ks ++ [z]).drop 1).length = ks.length := by simp
      rw [ed, List.getD_eq_getElem?_getD, List.getElem?_append_right (by rw [hl]; exact Nat.le_refl _), hl, Nat.sub_self]
      rfl
    rw [g1, g2]
    by_cases h : z = a <;> simp [h]
theorem sgn_of_pos {x : Rat} (h : 0 < x) : sgn x.num = 1 := by
  have h0 : 0 ≤ x.num := Rat.num_nonneg.mpr (Rat.le_of_lt h)
  have h1 : x.num ≠ 0 := fun z => Rat.ne_of_gt h (Rat.num_eq_zero.mp z)
  unfold sgn
  rw [if_pos (by (first | lia | omega))]
theorem sgn_of_neg {x : Rat} (h : x < 0) : sgn x.num = -1 := by
  have h1 := sgn_of_pos (show 0 < -x by grind)
  rw [Rat.neg_num] at h1
  unfold sgn at h1 ⊢
  split at h1
  · rw [if_neg (by (first | lia | omega)), if_pos (by (first | lia | omega))]
  · split at h1 <;> (first | lia | omega)
theorem sgn_of_ne {x : Rat} (h : x ≠ 0) : sgn x.num ≠ 0 := fun z => h (Rat.num_eq_zero.mp (sgn_iff.mp z))
theorem lt_or_gt {x : Rat} (h : x ≠ 0) : 0 < x ∨ x < 0 := by
  rcases (Rat.le_total : 0 ≤ x ∨ x ≤ 0) with z | z
  · exact .inl (by grind)
  · exact .inr (by grind)
theorem kept_app0 (xs : List Rat) {y : Rat} (h : y = 0) : kept (xs ++ [y]) = kept xs := by
  unfold kept sgs
  rw [List.map_append, List.filter_append]
  have : sgn y.num = 0 := by rw [h]; rfl
  simp [this]
theorem kept_app (xs : List Rat) {y : Rat} (h : y ≠ 0) : kept (xs ++ [y]) = kept xs ++ [sgn y.num] := by
  unfold kept sgs
  rw [List.map_append, List.filter_append]
  have := sgn_of_ne h
  simp [this]

/-! ### no worth rises -/
structure FineC (gs ws : List Rat) : Prop where
  len : gs.length = ws.length + 1
  most : ws.length ≤ 12
  pos : (∀ q ∈ gs, 0 < q) ∧ ∀ q ∈ ws, 0 < q
  bq : (∀ q ∈ gs, Bq 203 q) ∧ ∀ q ∈ ws, Bq 203 q
theorem Fine.fineC {gs ws : List Rat} (f : Fine gs ws) : FineC gs ws := ⟨f.len, f.most, f.pos, fun q h => (f.bq.1 q h).mono (by decide), fun q h => (f.bq.2 q h).mono (by decide)⟩
theorem Fine.heavyC {gs ws : List Rat} {n : Nat} {x : Rat} (f : Fine gs ws) (hn : n < ws.length) (hx : 0 < x) (bx : Bq 101 x) : FineC gs (mor ws n x) := by
  have h := f.heavy hn hx
  exact ⟨h.len, h.most, h.pos, fun q h => (f.bq.1 q h).mono (by decide), mor_mem (fun q h => (f.bq.2 q h).mono (by decide)) (((f.bq.2 _ (getD_mem hn)).add bx).mono (by decide))⟩
theorem Fine.longC {gs ws : List Rat} {n : Nat} {x : Rat} (f : Fine gs ws) (hn : n < gs.length) (hx : 0 < x) (bx : Bq 101 x) : FineC (mor gs n x) ws := by
  have h := f.long hn hx
  exact ⟨h.len, h.most, h.pos, mor_mem (fun q h => (f.bq.1 q h).mono (by decide)) (((f.bq.1 _ (getD_mem hn)).add bx).mono (by decide)), fun q h => (f.bq.2 q h).mono (by decide)⟩

/-! ### how many worths lie below a number: the row in whole numbers -/
def rq (gs ws : List Rat) (lo : Bool) (t : Rat) (k : Nat) : Rat := if lo = true ∧ k = ws.length then (Po.stp gs ws t 0 1 k).2 else (Po.stp gs ws t 0 1 k).1
def rowQ (gs ws : List Rat) (lo : Bool) (t : Rat) : List Rat := (List.range (ws.length + 1)).map (rq gs ws lo t)
def sp_row_at (C : Addr) : Sp := fun vs H Q _ => ∃ (c ga wa tp : Addr) (gs ws : List Rat) (lo : Bool) (t : Rat), vs = [.ref c, .str (if lo then "loose" else "held"), .ref tp] ∧ Co C H c ga wa gs ws ∧ Pq H tp t ∧ FineC gs ws ∧ Bq 112 t ∧ ∀ r rs H', Same H H' → H r = none → Rw H' r rs → rs.length = ws.length + 1 → sgs rs = sgs (rowQ gs ws lo t) → Q (.ref r) H'
def sp_below (C : Addr) : Sp := fun vs H Q _ => ∃ (c ga wa tp : Addr) (gs ws : List Rat) (lo : Bool) (t : Rat), vs = [.ref c, .str (if lo then "loose" else "held"), .ref tp] ∧ Co C H c ga wa gs ws ∧ Pq H tp t ∧ FineC gs ws ∧ Bq 112 t ∧ ∀ H', Same H H' → Q (.int (turnsQ (rowQ gs ws lo t))) H'
def sp_up_to (C : Addr) : Sp := fun vs H Q _ => ∃ (c ga wa tp : Addr) (gs ws : List Rat) (lo : Bool) (t : Rat), vs = [.ref c, .str (if lo then "loose" else "held"), .ref tp] ∧ Co C H c ga wa gs ws ∧ Pq H tp t ∧ FineC gs ws ∧ Bq 112 t ∧ ∀ H', Same H H' → Q (.int ((turnsQ (rowQ gs ws lo t) : Int) + if rq gs ws lo t ws.length = 0 then 1 else 0)) H'
theorem rowQ_app (gs ws : List Rat) (lo : Bool) (t : Rat) : rowQ gs ws lo t = (List.range ws.length).map (fun k => (Po.stp gs ws t 0 1 k).1) ++ [rq gs ws lo t ws.length] := by
  unfold rowQ
  rw [List.range_succ, List.map_append]
  congr 1
  refine List.map_congr_left fun k hk => ?_
  rw [List.mem_range] at hk
  unfold rq
  rw [if_neg (by (first | lia | omega))]
theorem turns_sgs {a b : List Rat} (h : sgs a = sgs b) : turnsQ a = turnsQ b := by
  unfold turnsQ kept
  rw [h]
theorem sgs_app (a b : List Rat) : sgs (a ++ b) = sgs a ++ sgs b := List.map_append
theorem sgn_over {x : Rat} {T M : Int} (hM : 0 < M) (e : x = (T : Rat) / (M : Rat)) : sgn x.num = sgn ((T : Rat)).num := by
  have e1 : x.num * M = T * x.den := by
    have e1 : (x.num : Rat) / ((x.den : Int) : Rat) = (T : Rat) / (M : Rat) := (q_eq x).trans e
    rw [← Rat.divInt_eq_div, ← Rat.divInt_eq_div] at e1
    exact (Rat.divInt_eq_divInt_iff (by have := den_pos x; (first | lia | omega)) (by (first | lia | omega))).mp e1
  have hd := den_pos x
  show sgn x.num = sgn T
  have pos : ∀ {a b c d : Int}, 0 < b → 0 < d → a * b = c * d → 0 < a → 0 < c := fun {a b c d} hb hd e ha => by
    have h1 := Int.mul_pos ha hb
    rw [e] at h1
    rcases Int.lt_trichotomy c 0 with z | z | z
    · have := Int.mul_pos (show 0 < -c by (first | lia | omega)) hd
      rw [Int.neg_mul] at this
      (first | lia | omega)
    · rw [z, Int.zero_mul] at h1
      (first | lia | omega)
    · exact z
  have en : (-x.num) * M = (-T) * x.den := by rw [Int.neg_mul, Int.neg_mul, e1]
  unfold sgn
  by_cases h1 : x.num > 0
  · rw [if_pos h1, if_pos (pos hM hd e1 h1)]
  · have t1 : ¬ T > 0 := fun z => h1 (pos hd hM e1.symm z)
    rw [if_neg h1, if_neg t1]
    by_cases h2 : x.num < 0
    · have t2 : T < 0 := by
        have := pos hM hd en (by (first | lia | omega))
        (first | lia | omega)
      rw [if_pos h2, if_pos t2]
    · have t2 : ¬ T < 0 := fun z => h2 (by
        have := pos hd hM en.symm (by (first | lia | omega))
        (first | lia | omega))
      rw [if_neg h2, if_neg t2]
/-- over a bead and the gap behind it, in whole numbers -/
theorem r3_row {n b c : Nat} {h l p g : Rat} {th tl m : Int} (r : Po.R3 n h l th tl m) (bp : Bq b p) (bg : Bq c g) :
    Po.R3 (n + b + c + 2) (h + g * (l - p * h)) (l - p * h) (g.den * p.den * th + g.num * (p.den * tl - p.num * th)) (g.den * (p.den * tl - p.num * th)) (m * p.den * g.den) := by
  have d1 := den_pos p
  have d2 := den_pos g
  have hm := r.pos
  have e1 := q_eq p
  have e2 := q_eq g
  have n1 := den_ne p
  have n2 := den_ne g
  have n3 : (m : Rat) ≠ 0 := fun z => by have := Rat.intCast_eq_zero_iff.mp z; (first | lia | omega)
  have eh := r.eh
  have el := r.el
  have bl : Bt (n + b + 1) (p.den * tl - p.num * th) := by
    rw [Int.sub_eq_add_neg]
    exact bt_add ((bp.2.mul r.bl).mono (by (first | lia | omega))) ((bp.1.mul r.bh).mono (by (first | lia | omega))).neg
  refine ⟨Int.mul_pos (Int.mul_pos hm d1) d2, ?_, ?_, (bt_add (n := n + b + c + 1) (((bg.2.mul bp.2).mul r.bh).mono (by (first | lia | omega))) ((bg.1.mul bl).mono (by (first | lia | omega)))).mono (by (first | lia | omega)), (bg.2.mul bl).mono (by (first | lia | omega)), ((r.bm.mul bp.2).mul bg.2).mono (by (first | lia | omega))⟩
  · simp only [Rat.intCast_mul, Rat.intCast_add, Rat.intCast_sub]
    generalize (p.num : Rat) = a at *
    generalize ((p.den : Int) : Rat) = b' at *
    generalize (g.num : Rat) = c' at *
    generalize ((g.den : Int) : Rat) = d at *
    generalize (th : Rat) = T' at *
    generalize (tl : Rat) = L' at *
    generalize (m : Rat) = M' at *
    subst eh el e1 e2
    grind
  · simp only [Rat.intCast_mul, Rat.intCast_sub]
    generalize (p.num : Rat) = a at *
    generalize ((p.den : Int) : Rat) = b' at *
    generalize ((g.den : Int) : Rat) = d at *
    generalize (th : Rat) = T' at *
    generalize (tl : Rat) = L' at *
    generalize (m : Rat) = M' at *
    subst eh el e1
    grind
theorem sc_row_at : FnScope ["cord", "end", "t", "gaps", "height", "lean", "row", "weight", "gap", "pull"] ["cord", "end", "t"] (defScope s_row_at) := ⟨rfl, rfl, rfl, by decide +kernel, rfl, by decide +kernel, by decide +kernel⟩
set_option maxHeartbeats 4000000 in
theorem ok_row_at (F : Fun K "row_at" "row_at" s_row_at f fd) (T : Txt mg) (C_times : Cal P w K mg base "times" 2 ["one", "other"] (sp_bin 8000 (· * ·))) (C_Cord_gaps : CalM P w K mg base o_Cord "gaps" 1 ["self"] (sp_gaps o_Cord)) (C_Cord_weights : CalM P w K mg base o_Cord "weights" 1 ["self"] (sp_weights o_Cord)) : FnOk P w K mg base CX0 5 f fd ["cord", "end", "t"] (sp_row_at o_Cord) := by
  refine F.ok sc_row_at (fun vs H Q E h => ?_) (fun cdv A outer s H vs Q E hr h => ?_)
  · obtain ⟨c, ga, wa, tp, gs, ws, lo, t, rfl, _⟩ := h
    rfl
  obtain ⟨c, ga, wa, tp, gs, ws, lo, t, rfl, co, kt, fine, bt, q⟩ := h
  have hlen := fine.len
  have hmost := fine.most
  have hz : (1000 : Nat) < sizeLine := by decide
  refine ⟨_, (pss_cons (ps_set (i := 3) sc_row_at.nd rfl (Or.inl rfl) (pe_m0 C_Cord_gaps hr (pv 0)))
      (pss_cons (ps_set (i := 4) sc_row_at.nd rfl (Or.inl rfl) (pe_ix ix_tup (pe_ix ix_list (pv 3) pe_int (fun _ _ => rfl)) pe_int (fun _ _ => rfl)))
      (pss_cons (ps_set (i := 5) sc_row_at.nd rfl (Or.inl rfl) (pe_ix ix_tup (pe_ix ix_list (pv 3) pe_int (fun _ _ => rfl)) pe_int (fun _ _ => rfl)))
      (pss_cons (ps_set (i := 6) sc_row_at.nd rfl (Or.inl rfl) (pe_lst pa_nil))
      (pss_cons (ps_for PassesOwn.never rfl (pi_zip rfl T.z_zip (pa_cons (pe_m0 C_Cord_weights hr (pv 0)) (pa_cons (pe_slice sl_list (pv 3) (po_some pe_int) po_none) pa_nil))) (pg_tup rfl (pgs_cons (pg_name (i := 7) sc_row_at.nd rfl (Or.inl rfl)) (pgs_cons (pg_name (i := 8) sc_row_at.nd rfl (Or.inl rfl)) pgs_nil)))
        (pss_cons (ps_expr (pe_bm PySem.F.plainAttrs_list PySem.F.slot_list_append PySem.F.type_list_append mt_append (pv 6) (pa_cons (pe_tup (pa_cons (pv 4) (pa_cons pe_int pa_nil))) pa_nil)))
        (pss_cons (ps_set (i := 9) sc_row_at.nd rfl (Or.inl rfl) (pe_cl C_times hr (pa_cons (pv 2) (pa_cons (pv 7) pa_nil))))
        (pss_cons (ps_set (i := 5) sc_row_at.nd rfl (Or.inl rfl) (pe_op op_sub (pe_op op_mulB (pe_ix ix_tup (pv 9) pe_int (fun _ _ => rfl)) (pv 5)) (pe_op op_mulB (pe_ix ix_tup (pv 9) pe_int (fun _ _ => rfl)) (pv 4))))
        (pss_cons (ps_set (i := 4) sc_row_at.nd rfl (Or.inl rfl) (pe_op op_add (pe_op op_mulB (pe_op op_mulB (pe_ix ix_tup (pv 8) pe_int (fun _ _ => rfl)) (pe_ix ix_tup (pv 9) pe_int (fun _ _ => rfl))) (pv 4)) (pe_op op_mulB (pe_ix ix_tup (pv 8) pe_int (fun _ _ => rfl)) (pv 5))))
        (pss_one (ps_set (i := 5) sc_row_at.nd rfl (Or.inl rfl) (pe_op op_mulB (pe_ix ix_tup (pv 8) pe_int (fun _ _ => rfl)) (pv 5)))))))))
      (pss_cons (ps_expr (pe_bm PySem.F.plainAttrs_list PySem.F.slot_list_append PySem.F.type_list_append mt_append (pv 6) (pa_cons (pe_tup (pa_cons (pe_ifExp (pt_cmpR op_eq (pv 1) pe_str (nomark _)) (pv 4) (pv 5)) (pa_cons pe_int pa_nil))) pa_nil)))
      (pss_one (ps_ret (pv 6))))))))), ?_⟩
  obtain ⟨dx, e⟩ := co.1
  refine ⟨_, rfl, c, dx, _, rfl, e, rfl, c, ga, wa, gs, ws, rfl, co, fun rg H1 s1 n1 ⟨pg, eg, kg⟩ => ?_⟩
  have lg := kg.length
  have hg0 : 0 < gs.length := by (first | lia | omega)
  obtain ⟨p0, e0, k0⟩ := kg.get (List.getElem?_eq_getElem hg0)
  have gg0 : gs.getD 0 0 = gs[0] := by rw [List.getD_eq_getElem?_getD, List.getElem?_eq_getElem hg0]; rfl
  refine ⟨_, rfl, rg, _, _, _, rfl, rfl, SqL.of eg, atI_nat (j := 0) e0, _, _, _, _, rfl, rfl, k0.sq, rfl, ?_⟩
  refine ⟨_, rfl, rg, _, _, _, rfl, rfl, SqL.of eg, atI_nat (j := 0) e0, _, _, _, _, rfl, rfl, k0.sq, rfl, ?_⟩
  refine ⟨(by show 0 ≤ sizeLine; decide), fun D hD => ?_⟩
  have u2 := same_upd hD (.lst [])
  have co2 := co.keep (s1.trans u2)
  obtain ⟨dx2, e2⟩ := co2.1
  refine ⟨_, rfl, c, dx2, _, rfl, e2, rfl, c, ga, wa, gs, ws, rfl, co2, fun rw' H4 s4 n4 ⟨pw, ew, kw⟩ => ?_⟩
  have lw := kw.length
  have eg4 := (u2.trans s4) _ _ eg
  refine ⟨_, rfl, _, rfl, rg, _, rfl, SqL.of eg4, fun l hl => ?_⟩
  have s5 := same_upd hl (.lst (cutV (pg.map V.ref) (some 1) none))
  have ec : cutV (pg.map V.ref) (some 1) none = (pg.drop 1).map V.ref := cut_from V.ref pg 1
  have el5 : (upd H4 l (.lst (cutV (pg.map V.ref) (some 1) none))) l = some (.lst ((pg.drop 1).map V.ref)) := by rw [upd_same, ec]
  have ew5 := s5 _ _ ew
  have kw5 := kw.keep s5
  have kg5 := kg.keep (u2.trans (s4.trans s5))
  have eD5 : (upd H4 l (.lst (cutV (pg.map V.ref) (some 1) none))) D = some (.lst []) := (s4.trans s5) _ _ upd_same
  have kt5 := kt.keep (s1.trans (u2.trans (s4.trans s5)))
  have nwD : rw' ≠ D := fun z => by
    rw [z, upd_same] at n4
    cases n4
  have nlD : l ≠ D := (ne_of_none (s4 _ _ upd_same) hl).symm
  have s15 : Same H1 (upd H4 l (.lst (cutV (pg.map V.ref) (some 1) none))) := u2.trans (s4.trans s5)
  generalize upd H4 l (.lst (cutV (pg.map V.ref) (some 1) none)) = H5 at *
  refine ⟨rw', l, rfl, ⟨_, SqL.of ew5⟩, ⟨_, SqL.of el5⟩, ?_⟩
  have bg0 := fine.bq.1 _ (List.getElem_mem hg0)
  have r0 : Po.R3 (204 + 520 * 0) (Po.stp gs ws t 0 1 0).1 (Po.stp gs ws t 0 1 0).2 gs[0].num gs[0].den gs[0].den := by
    refine ⟨den_pos _, ?_, ?_, bg0.1.mono (by decide), bg0.2.mono (by decide), bg0.2.mono (by decide)⟩
    · show 0 + gs.getD 0 0 * 1 = _
      rw [gg0, q_eq, Rat.zero_add, Rat.mul_one]
    · show (1 : Rat) = _
      have := den_ne gs[0]
      grind
  refine for_zip (xs := pw.map V.ref) (ys := (pg.drop 1).map V.ref) ws.length (by rw [List.length_map, List.length_map, List.length_drop]; (first | lia | omega)) (fun i σ H' => ∃ (th tl m : Int) (v u x : Option V), σ = [some (.ref c), some (.str (if lo then "loose" else "held")), some (.ref tp), some (.ref rg), some (.int th), some (.int tl), some (.ref D), v, u, x] ∧
      Po.R3 (204 + 520 * i) (Po.stp gs ws t 0 1 i).1 (Po.stp gs ws t 0 1 i).2 th tl m ∧ Same H1 H' ∧ H' rw' = some (.lst (pw.map V.ref)) ∧ H' l = some (.lst ((pg.drop 1).map V.ref)) ∧ Pqs H' pw ws ∧ Pqs H' pg gs ∧ Pq H' tp t ∧
      ∃ rs, Rw H' D rs ∧ rs.length = i ∧ sgs rs = sgs ((List.range i).map fun k => (Po.stp gs ws t 0 1 k).1))
    ⟨_, _, _, _, _, _, rfl, r0, s15, ew5, el5, kw5, kg5, kt5, [], ⟨[], eD5, .nil⟩, rfl, rfl⟩ ?_ ?_ ?_
  · rintro i σ H6 _ ⟨_, _, _, _, _, _, rfl, _, _, a1, a2, _⟩
    exact ⟨SqL.of a1, SqL.of a2⟩
  · rintro i xw xg σ H6 T0 hxw hxg ⟨th, tl, m, v, u, x, rfl, r3, sm0, ew0, el0, kw0, kg0, kt0, rs, rr0, lr, es⟩ hT
    have hi : i < ws.length := by
      have h := (List.getElem?_eq_some_iff.mp hxw).1
      rw [List.length_map] at h
      (first | lia | omega)
    have hi1 : i + 1 < gs.length := by (first | lia | omega)
    obtain ⟨p1, e1, k10⟩ := kw0.get (List.getElem?_eq_getElem hi)
    obtain rfl : xw = .ref p1 := Option.some.inj (hxw.symm.trans e1)
    obtain ⟨p2, e2, k20⟩ := kg0.get (List.getElem?_eq_getElem hi1)
    obtain rfl : xg = .ref p2 := by
      rw [List.getElem?_map, List.getElem?_drop, Nat.add_comm 1 i, ← List.getElem?_map] at hxg
      exact Option.some.inj (hxg.symm.trans e2)
    refine ⟨T0, _, rfl, SqT.of upd_same, rfl, _, _, rfl, _, _, rfl, rfl, ?_⟩
    have u0 := same_upd hT (.tup [.ref p1, .ref p2])
    have rr := rr0.keep u0
    have ewa := u0 _ _ ew0
    have ela := u0 _ _ el0
    have kwa := kw0.keep u0
    have kga := kg0.keep u0
    have kta := kt0.keep u0
    have sma := sm0.trans u0
    have k1a := k10.keep u0
    have k2a := k20.keep u0
    clear rr0 ew0 el0 kw0 kg0 kt0 sm0 k10 k20
    generalize upd H6 T0 (.tup [.ref p1, .ref p2]) = H7 at *
    have bwi := fine.bq.2 _ (List.getElem_mem hi)
    have bgi := fine.bq.1 _ (List.getElem_mem hi1)
    have gw : ws.getD i 0 = ws[i] := by rw [List.getD_eq_getElem?_getD, List.getElem?_eq_getElem hi]; rfl
    have gg : gs.getD (i + 1) 0 = gs[i + 1] := by rw [List.getD_eq_getElem?_getD, List.getElem?_eq_getElem hi1]; rfl
    obtain ⟨x4, e4, _⟩ := rr.there
    refine ⟨_, rfl, .inl ⟨rfl, _, SqL.of e4⟩, _, rfl, (by show 2 ≤ sizeLine; decide), fun pz hpz => ?_⟩
    have u8 := same_upd hpz (.tup [.int th, .int 1])
    have kz : Pq (upd H7 pz (.tup [.int th, .int 1])) pz (th : Rat) := Pq.int
    obtain ⟨xs8, hxs, hxl, rw8⟩ := rr.app u8 kz
    refine ⟨D, xs8, _, rfl, rfl, hxs, by (first | lia | omega), ?_⟩
    have hDH : H1 D = none := hD
    have sm9 : Same H1 (upd (upd H7 pz (.tup [.int th, .int 1])) D (.lst (xs8 ++ [.ref pz]))) := same_updF (sma.trans u8) hDH _
    have ew9 : (upd (upd H7 pz (.tup [.int th, .int 1])) D (.lst (xs8 ++ [.ref pz]))) rw' = some (.lst (pw.map V.ref)) := by rw [upd_ne nwD]; exact u8 _ _ ewa
    have el9 : (upd (upd H7 pz (.tup [.int th, .int 1])) D (.lst (xs8 ++ [.ref pz]))) l = some (.lst ((pg.drop 1).map V.ref)) := by rw [upd_ne nlD]; exact u8 _ _ ela
    have kw9 := (kwa.keep u8).updL (ys := xs8 ++ [.ref pz]) hxs
    have kg9 := (kga.keep u8).updL (ys := xs8 ++ [.ref pz]) hxs
    have kt9 := (kta.keep u8).updL (ys := xs8 ++ [.ref pz]) hxs
    have k19 := (k1a.keep u8).updL (ys := xs8 ++ [.ref pz]) hxs
    have k29 := (k2a.keep u8).updL (ys := xs8 ++ [.ref pz]) hxs
    generalize upd (upd H7 pz (.tup [.int th, .int 1])) D (.lst (xs8 ++ [.ref pz])) = H9 at *
    refine ⟨_, rfl, _, rfl, tp, p1, _, _, rfl, kt9, k19, bt.mono (by decide), bwi.mono (by decide), fun pp H10 s10 kp => ?_⟩
    have k210 := k29.keep s10
    have bp : Bq 315 (t * ws[i]) := bt.mul bwi
    replace kp : Pq H10 pp (t * ws[i]) := kp
    have r4 := r3_row r3 bp bgi
    obtain ⟨hm, ehh, ell, b1, b2, b3⟩ := id r3
    have bl : Bt (204 + 520 * i + 315 + 1) ((t * ws[i]).den * tl - (t * ws[i]).num * th) := by
      rw [Int.sub_eq_add_neg]
      exact bt_add ((bp.2.mul b2).mono (by (first | lia | omega))) ((bp.1.mul b1).mono (by (first | lia | omega))).neg
    refine ⟨_, rfl, _, _, _, _, rfl, rfl, kp.sq, rfl, _, rfl, _, _, rfl, rfl, mul_of bp.2 b2 (by (first | lia | omega)), _, rfl, _, _, _, _, rfl, rfl, kp.sq, rfl, _, rfl, _, _, rfl, rfl, mul_of bp.1 b1 (by (first | lia | omega)), _, _, rfl, rfl, ?_⟩
    refine ⟨_, rfl, _, _, _, _, rfl, rfl, k210.sq, rfl, _, rfl, _, _, _, _, rfl, rfl, kp.sq, rfl, _, _, rfl, rfl, mul_of bgi.2 bp.2 (by (first | lia | omega)), _, rfl, _, _, rfl, rfl, mul_of (bgi.2.mul bp.2) b1 (by (first | lia | omega)), _, rfl, _, _, _, _, rfl, rfl, k210.sq, rfl, _, rfl, _, _, rfl, rfl, mul_of bgi.1 bl (by (first | lia | omega)), _, _, rfl, rfl, ?_⟩
    refine ⟨_, rfl, _, _, _, _, rfl, rfl, k210.sq, rfl, _, rfl, _, _, rfl, rfl, mul_of bgi.2 bl (by (first | lia | omega)), ?_⟩
    have es1 : (Po.stp gs ws t 0 1 (i + 1)).1 = (Po.stp gs ws t 0 1 i).1 + gs[i + 1] * ((Po.stp gs ws t 0 1 i).2 - t * ws[i] * (Po.stp gs ws t 0 1 i).1) := by rw [← gw, ← gg]; rfl
    have es2 : (Po.stp gs ws t 0 1 (i + 1)).2 = (Po.stp gs ws t 0 1 i).2 - t * ws[i] * (Po.stp gs ws t 0 1 i).1 := by rw [← gw]; rfl
    rw [← es1, ← es2] at r4
    refine ⟨_, _, _, _, _, _, rfl, r4.mono (by (first | lia | omega)), sm9.trans s10, s10 _ _ ew9, s10 _ _ el9, kw9.keep s10, kg9.keep s10, kt9.keep s10, _, rw8.keep s10, by simp [lr], ?_⟩
    rw [List.range_succ, List.map_append, sgs_app, sgs_app, es]
    show _ ++ [sgn ((th : Rat)).num] = _ ++ [sgn (Po.stp gs ws t 0 1 i).1.num]
    rw [sgn_over hm ehh]
  · rintro σ H6 ⟨th, tl, m, v, u, x, rfl, r3, sm, ew6, el6, kw6, kg6, kt6, rs, rr, lr, es⟩
    obtain ⟨x4, e4, _⟩ := rr.there
    obtain ⟨hm, ehh, ell, _⟩ := id r3
    have fin : ∀ (z : Int), sgn ((z : Rat)).num = sgn (rq gs ws lo t ws.length).num → ∀ pz, H6 pz = none → ∀ xs, (upd H6 pz (.tup [.int z, .int 1])) D = some (.lst xs) → Rw (upd (upd H6 pz (.tup [.int z, .int 1])) D (.lst (xs ++ [.ref pz]))) D (rs ++ [(z : Rat)]) → Q (.ref D) (upd (upd H6 pz (.tup [.int z, .int 1])) D (.lst (xs ++ [.ref pz]))) := fun z ez pz hpz xs hxs rwz => by
      refine q D _ _ (s1.trans (same_updF (sm.trans (same_upd hpz _)) hD _)) (s1.free hD) rwz (by simp [lr]) ?_
      rw [rowQ_app, sgs_app, sgs_app, es]
      show _ ++ [sgn ((z : Rat)).num] = _ ++ [sgn (rq gs ws lo t ws.length).num]
      rw [ez]
    refine ⟨_, rfl, .inl ⟨rfl, _, SqL.of e4⟩, _, rfl, rfl, _, rfl, ?_⟩
    cases lo with
    | false =>
      refine iteD rfl ⟨_, rfl, (by show 2 ≤ sizeLine; decide), fun pz hpz => ?_⟩
      have u8 := same_upd hpz (.tup [.int th, .int 1])
      obtain ⟨xs8, hxs, hxl, rw8⟩ := rr.app u8 (Pq.int (i := th))
      exact ⟨D, xs8, _, rfl, rfl, hxs, by (first | lia | omega), _, rfl, fin th (by unfold rq; simp; exact (sgn_over hm ehh).symm) pz hpz xs8 hxs rw8⟩
    | true =>
      refine iteND (by decide) ⟨_, rfl, (by show 2 ≤ sizeLine; decide), fun pz hpz => ?_⟩
      have u8 := same_upd hpz (.tup [.int tl, .int 1])
      obtain ⟨xs8, hxs, hxl, rw8⟩ := rr.app u8 (Pq.int (i := tl))
      exact ⟨D, xs8, _, rfl, rfl, hxs, by (first | lia | omega), _, rfl, fin tl (by unfold rq; simp; exact (sgn_over hm ell).symm) pz hpz xs8 hxs rw8⟩
theorem sc_worths_below : FnScope ["cord", "end", "t"] ["cord", "end", "t"] (defScope s_worths_below) := ⟨rfl, rfl, rfl, by decide +kernel, rfl, by decide +kernel, by decide +kernel⟩
theorem ok_worths_below (F : Fun K "worths_below" "worths_below" s_worths_below f fd) (T : Txt mg) (C_turns : Cal P w K mg base "turns" 3 ["row"] sp_turns) (C_row_at : Cal P w K mg base "row_at" 5 ["cord", "end", "t"] (sp_row_at o_Cord)) : FnOk P w K mg base CX0 6 f fd ["cord", "end", "t"] (sp_below o_Cord) := by
  refine F.ok sc_worths_below (fun vs H Q E h => ?_) (fun cdv A outer s H vs Q E hr h => ?_)
  · obtain ⟨c, ga, wa, tp, gs, ws, lo, t, rfl, _⟩ := h
    rfl
  obtain ⟨c, ga, wa, tp, gs, ws, lo, t, rfl, co, kt, fine, bt, q⟩ := h
  have hmost := fine.most
  refine ⟨_, (pss_one (ps_ret (pe_cl C_turns hr (pa_cons (pe_cl C_row_at hr (pa_cons (pv 0) (pa_cons (pv 1) (pa_cons (pv 2) pa_nil)))) pa_nil)))), ?_⟩
  refine ⟨_, rfl, _, rfl, _, rfl, c, ga, wa, tp, gs, ws, lo, t, rfl, co, kt, fine, bt, fun r rs H1 s1 n1 r1 l1 e1 => ⟨r, _, rfl, r1, by (first | lia | omega), fun H2 s2 => ?_⟩⟩
  rw [turns_sgs e1]
  exact q H2 (s1.trans s2)

/-! ### spans -/
def al : Nat → Int
  | 0 => 1
  | k + 1 => -al k
theorem tn_pos {f : Nat → Rat} (k : Nat) (h : ∀ j, j ≤ k → 0 < f j) : ∃ ks, kept ((List.range (k + 1)).map f) = ks ++ [1] ∧ turnsQ ((List.range (k + 1)).map f) = 0 := by
  induction k with
  | zero =>
    have p := h 0 (by (first | lia | omega))
    have e : kept ((List.range 1).map f) = [] ++ [1] := by
      rw [← sgn_of_pos p]
      exact kept_app [] (Rat.ne_of_gt p)
    refine ⟨[], e, ?_⟩
    rw [turnsQ_K, e]
    rfl
  | succ k ih =>
    obtain ⟨ks, e1, e2⟩ := ih fun j hj => h j (by (first | lia | omega))
    have p := h (k + 1) (by (first | lia | omega))
    have e : kept ((List.range (k + 1 + 1)).map f) = ks ++ [1] ++ [1] := by
      rw [List.range_succ, List.map_append, List.map_singleton, kept_app _ (Rat.ne_of_gt p), e1, sgn_of_pos p]
    refine ⟨_, e, ?_⟩
    rw [turnsQ_K, e, turnsK_snoc, ← e1, ← turnsQ_K, e2, if_pos rfl]
/-- how many worths lie up to t -/
def cU (gs ws : List Rat) (lo : Bool) (t : Rat) : Int := (turnsQ (rowQ gs ws lo t) : Int) + if rq gs ws lo t ws.length = 0 then 1 else 0
theorem cu_zero {gs ws : List Rat} (lo : Bool) (hlen : gs.length = ws.length + 1) (pg : ∀ q ∈ gs, 0 < q) : cU gs ws lo 0 = 0 := by
  have p : ∀ j, j ≤ ws.length → 0 < rq gs ws lo 0 j := fun j hj => by
    obtain ⟨a, b⟩ := Po.stp_zero (ws := ws) pg j (by (first | lia | omega))
    unfold rq
    split
    · rw [a]; decide
    · exact b
  obtain ⟨_, _, e⟩ := tn_pos ws.length p
  unfold cU rowQ
  rw [e, if_neg (Rat.ne_of_gt (p _ (Nat.le_refl _)))]
  rfl

/-! ### the counts, by turns and sides step by step -/
theorem kept_cs {gs ws : List Rat} {t : Rat} (g0 : 0 < gs.getD 0 0) (k : Nat) : ∃ ks z, kept ((List.range (k + 1)).map fun j => (Po.stp gs ws t 0 1 j).1) = ks ++ [z] ∧ ((z : Int) : Rat) = (Po.cs gs ws t k).2 ∧ turnsQ ((List.range (k + 1)).map fun j => (Po.stp gs ws t 0 1 j).1) = (Po.cs gs ws t k).1 := by
  induction k with
  | zero =>
    have p : 0 < (Po.stp gs ws t 0 1 0).1 := by
      simp only [Po.stp]
      grind
    have e : kept ((List.range 1).map fun j => (Po.stp gs ws t 0 1 j).1) = [] ++ [1] := by
      rw [← sgn_of_pos p]
      exact kept_app [] (Rat.ne_of_gt p)
    refine ⟨[], 1, e, rfl, ?_⟩
    rw [turnsQ_K, e]
    rfl
  | succ k ih =>
    obtain ⟨ks, z, e1, e2, e3⟩ := ih
    rw [List.range_succ, List.map_append, List.map_singleton]
    have sq := Po.cs_sq gs ws t k
    rw [Po.cs]
    by_cases h0 : (Po.stp gs ws t 0 1 (k + 1)).1 = 0
    · rw [if_neg (by rw [h0, Rat.mul_zero]; exact Rat.lt_irrefl)]
      refine ⟨ks, z, by rw [kept_app0 _ h0, e1], e2, ?_⟩
      rw [turnsQ_K, kept_app0 _ h0, ← turnsQ_K, e3]
    · rw [turnsQ_K, kept_app _ h0, e1, turnsK_snoc, ← e1, ← turnsQ_K, e3]
      have zp : (Po.cs gs ws t k).2 = 1 → z = 1 := fun q => by
        rw [q] at e2
        exact Rat.intCast_inj.mp e2
      have zn : (Po.cs gs ws t k).2 = -1 → z = -1 := fun q => by
        rw [q] at e2
        exact Rat.intCast_inj.mp (e2.trans rfl)
      rcases lt_or_gt h0 with p | p <;> rcases sq with s | s
      · rw [if_neg (by rw [s]; grind), zp s, sgn_of_pos p, if_pos rfl, s]
        exact ⟨_, 1, rfl, rfl, rfl⟩
      · rw [if_pos (by rw [s]; grind), zn s, sgn_of_pos p, if_neg (by decide), s]
        exact ⟨_, 1, rfl, by grind, rfl⟩
      · rw [if_pos (by rw [s]; grind), zp s, sgn_of_neg p, if_neg (by decide), s]
        exact ⟨_, -1, rfl, rfl, rfl⟩
      · rw [if_neg (by rw [s]; grind), zn s, sgn_of_neg p, if_pos rfl, s]
        exact ⟨_, -1, rfl, rfl, rfl⟩
section
variable {gs ws : List Rat} {t : Rat}
theorem getD_pos {xs : List Rat} (h : ∀ q ∈ xs, 0 < q) : ∀ k, k < xs.length → 0 < xs.getD k 0 := fun k hk => by
  rw [List.getD_eq_getElem?_getD, List.getElem?_eq_getElem hk]
  exact h _ (List.getElem_mem hk)
theorem sq_zero {x y : Rat} (h : x = 1 ∨ x = -1) : x * y = 0 ↔ y = 0 := by
  rcases h with h | h <;> rw [h] <;> constructor <;> intro z <;> grind
theorem turns_held (hlen : gs.length = ws.length + 1) (pg : ∀ q ∈ gs, 0 < q) : turnsQ (rowQ gs ws false t) = (Po.cs gs ws t ws.length).1 ∧ (rq gs ws false t ws.length = 0 ↔ Po.Hn gs ws t ws.length = 0) := by
  obtain ⟨_, _, _, _, e⟩ := kept_cs (ws := ws) (t := t) (getD_pos pg 0 (by (first | lia | omega))) ws.length
  have er : rowQ gs ws false t = (List.range (ws.length + 1)).map fun j => (Po.stp gs ws t 0 1 j).1 := by
    unfold rowQ rq
    simp
  refine ⟨by rw [er, e], ?_⟩
  unfold rq Po.Hn
  simp only [Bool.false_eq_true, false_and, if_false]
  exact (sq_zero (Po.cs_sq gs ws t ws.length)).symm
theorem turns_loose (hlen : gs.length = ws.length + 1) (pg : ∀ q ∈ gs, 0 < q) {m : Nat} (hm : ws.length = m + 1) : turnsQ (rowQ gs ws true t) = (Po.cs gs ws t m).1 + (if Po.Mn gs ws t m < 0 then 1 else 0) ∧ (rq gs ws true t ws.length = 0 ↔ Po.Mn gs ws t m = 0) := by
  obtain ⟨ks, z, e1, e2, e3⟩ := kept_cs (ws := ws) (t := t) (getD_pos pg 0 (by (first | lia | omega))) m
  have el : rq gs ws true t ws.length = (Po.stp gs ws t 0 1 (m + 1)).2 := by
    unfold rq
    rw [if_pos ⟨rfl, rfl⟩, hm]
  have em := Po.mn_eq gs ws t m
  have sq := Po.cs_sq gs ws t m
  refine ⟨?_, by rw [el, em]; exact (sq_zero sq).symm⟩
  rw [rowQ_app, el, em, hm]
  by_cases h0 : (Po.stp gs ws t 0 1 (m + 1)).2 = 0
  · rw [h0, Rat.mul_zero, if_neg Rat.lt_irrefl, turnsQ_K, kept_app0 _ rfl, ← turnsQ_K, e3]
    rfl
  · rw [turnsQ_K, kept_app _ h0, e1, turnsK_snoc, ← e1, ← turnsQ_K, e3]
    have zp : (Po.cs gs ws t m).2 = 1 → z = 1 := fun q => by
      rw [q] at e2
      exact Rat.intCast_inj.mp e2
    have zn : (Po.cs gs ws t m).2 = -1 → z = -1 := fun q => by
      rw [q] at e2
      exact Rat.intCast_inj.mp (e2.trans rfl)
    rcases lt_or_gt h0 with p | p <;> rcases sq with s | s
    · rw [if_neg (c := _ < (0 : Rat)) (by rw [s]; grind), zp s, sgn_of_pos p, if_pos rfl]
    · rw [if_pos (c := _ < (0 : Rat)) (by rw [s]; grind), zn s, sgn_of_pos p, if_neg (by decide)]
    · rw [if_pos (c := _ < (0 : Rat)) (by rw [s]; grind), zp s, sgn_of_neg p, if_neg (by decide)]
    · rw [if_neg (c := _ < (0 : Rat)) (by rw [s]; grind), zn s, sgn_of_neg p, if_pos rfl]
/-- of two numbers the greater has below it what the less one has up to it -/
theorem cu_lt {lo : Bool} {t' : Rat} (hlen : gs.length = ws.length + 1) (pg : ∀ q ∈ gs, 0 < q) (pw : ∀ q ∈ ws, 0 < q) (hn : 0 < ws.length) (h : t < t') : cU gs ws lo t ≤ (turnsQ (rowQ gs ws lo t') : Int) := by
  obtain ⟨m, hm⟩ : ∃ m, ws.length = m + 1 := ⟨ws.length - 1, by (first | lia | omega)⟩
  unfold cU
  cases lo with
  | false =>
    obtain ⟨a1, a2⟩ := turns_held (t := t) hlen pg
    obtain ⟨b1, b2⟩ := turns_held (t := t') hlen pg
    have l := Po.held_le (getD_pos pg) (getD_pos pw) hlen h hn
    rw [a1, b1]
    by_cases z : rq gs ws false t ws.length = 0
    · rw [if_pos z]
      rw [if_pos (a2.mp z)] at l
      (first | lia | omega)
    · rw [if_neg z]
      rw [if_neg (fun q => z (a2.mpr q))] at l
      (first | lia | omega)
  | true =>
    obtain ⟨a1, a2⟩ := turns_loose (t := t) hlen pg hm
    obtain ⟨b1, b2⟩ := turns_loose (t := t') hlen pg hm
    have l := Po.loose_le (getD_pos pg) (getD_pos pw) hlen h hm
    rw [a1, b1]
    by_cases z : rq gs ws true t ws.length = 0
    · have z' := a2.mp z
      rw [if_pos z, if_neg (by rw [z']; exact Rat.lt_irrefl)]
      rw [if_pos (by rw [z']; exact Rat.le_refl)] at l
      (first | lia | omega)
    · rw [if_neg z]
      by_cases y : Po.Mn gs ws t m < 0
      · rw [if_pos y]
        rw [if_pos (Rat.le_of_lt y)] at l
        (first | lia | omega)
      · rw [if_neg y]
        (first | lia | omega)
end

theorem getD_takeC {xs : List Rat} {i n : Nat} (h : i < n) : (xs.take n).getD i 0 = xs.getD i 0 := by
  rw [List.getD_eq_getElem?_getD, List.getElem?_take, if_pos h, ← List.getD_eq_getElem?_getD]
theorem getD_dropC {xs : List Rat} {i n : Nat} : (xs.drop n).getD i 0 = xs.getD (n + i) 0 := by
  rw [List.getD_eq_getElem?_getD, List.getElem?_drop, ← List.getD_eq_getElem?_getD]
theorem stp_congrC {gs gs' ws ws' : List Rat} {t h l : Rat} : ∀ {k : Nat}, (∀ i, i ≤ k → gs.getD i 0 = gs'.getD i 0) → (∀ i, i < k → ws.getD i 0 = ws'.getD i 0) → Po.stp gs ws t h l k = Po.stp gs' ws' t h l k
  | 0, hg, _ => by simp only [Po.stp]; rw [hg 0 (Nat.le_refl _)]
  | k + 1, hg, hw => by
    have ih := stp_congrC (k := k) (t := t) (h := h) (l := l) (fun i hi => hg i (by (first | lia | omega))) fun i hi => hw i (by (first | lia | omega))
    simp only [Po.stp]
    rw [ih, hg (k + 1) (Nat.le_refl _), hw k (by (first | lia | omega))]
theorem cs_congr {gs gs' ws ws' : List Rat} {t : Rat} : ∀ {k : Nat}, (∀ i, i ≤ k → gs.getD i 0 = gs'.getD i 0) → (∀ i, i < k → ws.getD i 0 = ws'.getD i 0) → Po.cs gs ws t k = Po.cs gs' ws' t k
  | 0, _, _ => rfl
  | k + 1, hg, hw => by
    have ih := cs_congr (k := k) (t := t) (fun i hi => hg i (by (first | lia | omega))) fun i hi => hw i (by (first | lia | omega))
    rw [Po.cs, Po.cs, ih, stp_congrC hg hw]
/-! the counts of cords changed and cut -/
theorem cs_le (gs ws : List Rat) (t : Rat) : ∀ k : Nat, (Po.cs gs ws t k).1 ≤ k
  | 0 => Nat.le_refl _
  | k + 1 => by
    have := cs_le gs ws t k
    rw [Po.cs]
    split
    · show (Po.cs gs ws t k).1 + 1 ≤ _; (first | lia | omega)
    · (first | lia | omega)
theorem turns_one (lo : Bool) {gs ws : List Rat} {t : Rat} (hlen : gs.length = ws.length + 1) (pg : ∀ q ∈ gs, 0 < q) (h0 : ws.length = 0) : turnsQ (rowQ gs ws lo t) = 0 := by
  have e : rowQ gs ws lo t = [] ++ [rq gs ws lo t 0] := by
    unfold rowQ
    rw [h0]
    rfl
  rw [e, turnsQ_K]
  by_cases z : rq gs ws lo t 0 = 0
  · rw [kept_app0 _ z]; rfl
  · rw [kept_app _ z]; rfl
theorem turns_le (lo : Bool) {gs ws : List Rat} {t : Rat} (hlen : gs.length = ws.length + 1) (pg : ∀ q ∈ gs, 0 < q) : turnsQ (rowQ gs ws lo t) ≤ ws.length := by
  by_cases h0 : ws.length = 0
  · rw [turns_one lo hlen pg h0]; (first | lia | omega)
  · obtain ⟨m, hm⟩ : ∃ m, ws.length = m + 1 := ⟨ws.length - 1, by (first | lia | omega)⟩
    cases lo with
    | false => rw [(turns_held (t := t) hlen pg).1]; exact cs_le _ _ _ _
    | true =>
      rw [(turns_loose (t := t) hlen pg hm).1]
      have := cs_le gs ws t m
      split <;> (first | lia | omega)
theorem turns_neg (lo : Bool) {gs ws : List Rat} {t : Rat} (hlen : gs.length = ws.length + 1) (pg : ∀ q ∈ gs, 0 < q) (pw : ∀ q ∈ ws, 0 < q) (ht : t < 0) : turnsQ (rowQ gs ws lo t) = 0 := by
  by_cases h0 : ws.length = 0
  · exact turns_one lo hlen pg h0
  · have l := cu_lt (lo := lo) hlen pg pw (by (first | lia | omega)) ht
    have z := cu_zero (ws := ws) lo hlen pg
    have a : (turnsQ (rowQ gs ws lo 0) : Int) ≤ cU gs ws lo 0 := by unfold cU; split <;> (first | lia | omega)
    have b : (turnsQ (rowQ gs ws lo t) : Int) ≤ cU gs ws lo t := by unfold cU; split <;> (first | lia | omega)
    (first | lia | omega)
/-- no gap shorter, no weight less -/
theorem turns_mono (lo : Bool) {gs ws gs' ws' : List Rat} {t : Rat} (hlen : gs.length = ws.length + 1) (hlen' : gs'.length = ws'.length + 1) (hl : gs'.length = gs.length) (pg : ∀ q ∈ gs, 0 < q) (pw : ∀ q ∈ ws, 0 < q) (pg' : ∀ q ∈ gs', 0 < q) (lg : ∀ k, gs.getD k 0 ≤ gs'.getD k 0) (lw : ∀ k, ws.getD k 0 ≤ ws'.getD k 0) :
    turnsQ (rowQ gs ws lo t) ≤ turnsQ (rowQ gs' ws' lo t) := by
  by_cases ht : t < 0
  · rw [turns_neg lo hlen pg pw ht]; (first | lia | omega)
  · have m := Po.mono_n (gs := gs) (ws := ws) (gs' := gs') (ws' := ws') (Rat.not_lt.mp ht) hl (getD_pos pg) (fun k _ => lg k) (fun k _ => lw k)
    by_cases h0 : ws.length = 0
    · rw [turns_one lo hlen pg h0]; (first | lia | omega)
    · obtain ⟨n, hn⟩ : ∃ n, ws.length = n + 1 := ⟨ws.length - 1, by (first | lia | omega)⟩
      have hn' : ws'.length = n + 1 := by (first | lia | omega)
      cases lo with
      | false =>
        rw [(turns_held (t := t) hlen pg).1, (turns_held (t := t) hlen' pg').1, show ws'.length = ws.length by (first | lia | omega)]
        rcases m ws.length (by (first | lia | omega)) with h | ⟨h, _⟩ <;> (first | lia | omega)
      | true =>
        rw [(turns_loose (t := t) hlen pg hn).1, (turns_loose (t := t) hlen' pg' hn').1]
        have g1 := Po.go_n (ws := ws) (t := t) (getD_pos pg) n (by (first | lia | omega))
        have g2 := Po.go_n (ws := ws') (t := t) (getD_pos pg') n (by (first | lia | omega))
        have hx : t * ws.getD n 0 ≤ t * ws'.getD n 0 := by
          have := Po.mnn (Rat.not_lt.mp ht) (show 0 ≤ ws'.getD n 0 - ws.getD n 0 by have := lw n; grind)
          grind
        have o2 := Po.Go.bead (x := t * ws'.getD n 0) g2
        have b := Po.le_bead g1.1 g2.1 (m n (by (first | lia | omega))) hx
        change Po.Le3 _ _ (Po.Hn gs ws t n) (Po.Mn gs ws t n) (Po.Hn gs' ws' t n) (Po.Mn gs' ws' t n) at b
        change Po.Go (Po.Hn gs' ws' t n) (Po.Mn gs' ws' t n) at o2
        rcases b with h | ⟨h, k⟩
        · split <;> split <;> (first | lia | omega)
        · by_cases z : Po.Mn gs ws t n < 0
          · have z' : Po.Mn gs' ws' t n < 0 := by
              refine Rat.not_le.mp fun p => ?_
              have a1 := Po.mnn p g1.1
              have hz : Po.Hn gs' ws' t n = 0 := by
                by_cases y : Po.Hn gs' ws' t n = 0
                · exact y
                · have := Po.mpos (show 0 < -Po.Mn gs ws t n by grind) (show 0 < Po.Hn gs' ws' t n by have := g2.1; grind)
                  grind
              have := o2.2 hz
              grind
            rw [if_pos z, if_pos z']
            (first | lia | omega)
          · rw [if_neg z]
            (first | lia | omega)
/-- a cord cut at its n-th bead -/
theorem turns_cut {gs ws : List Rat} {t : Rat} {n : Nat} (hlen : gs.length = ws.length + 1) (pg : ∀ q ∈ gs, 0 < q) (h1 : 1 ≤ n) (h2 : n ≤ ws.length) :
    turnsQ (rowQ (gs.take n) (ws.take (n - 1)) false t) + turnsQ (rowQ (gs.drop n) (ws.drop n) false t) ≤ turnsQ (rowQ gs ws false t) ∧ turnsQ (rowQ gs ws false t) ≤ turnsQ (rowQ (gs.take n) (ws.take (n - 1)) false t) + turnsQ (rowQ (gs.drop n) (ws.drop n) false t) + 1 := by
  obtain ⟨m, rfl⟩ : ∃ m, n = m + 1 := ⟨n - 1, by (first | lia | omega)⟩
  rw [Nat.add_sub_cancel]
  have l1 : (gs.take (m + 1)).length = m + 1 := by rw [List.length_take]; (first | lia | omega)
  have l2 : (ws.take m).length = m := by rw [List.length_take]; (first | lia | omega)
  have l3 : (gs.drop (m + 1)).length = gs.length - (m + 1) := List.length_drop
  have l4 : (ws.drop (m + 1)).length = ws.length - (m + 1) := List.length_drop
  rw [(turns_held (t := t) hlen pg).1, (turns_held (gs := gs.take (m + 1)) (ws := ws.take m) (t := t) (by (first | lia | omega)) fun q h => pg q (List.mem_of_mem_take h)).1, (turns_held (gs := gs.drop (m + 1)) (ws := ws.drop (m + 1)) (t := t) (by (first | lia | omega)) fun q h => pg q (List.mem_of_mem_drop h)).1]
  have c := Po.cut_n (gs := gs) (ws := ws) (hs := gs.drop (m + 1)) (xs := ws.drop (m + 1)) (n := m) (t := t) (fun k _ => getD_dropC) (fun k _ => getD_dropC) (by (first | lia | omega)) (getD_pos pg) (ws.length - (m + 1)) (by (first | lia | omega))
  have e : (Po.cs (gs.take (m + 1)) (ws.take m) t m).1 = (Po.cs gs ws t m).1 := by
    rw [cs_congr (fun i hi => getD_takeC (by (first | lia | omega))) (fun i hi => getD_takeC (by (first | lia | omega)))]
  rw [l2, l4, e]
  rw [show m + 1 + (ws.length - (m + 1)) = ws.length by (first | lia | omega)] at c
  obtain ⟨c1, c2⟩ := c
  constructor
  · rcases c1 with h | ⟨h, _⟩ <;> (first | lia | omega)
  · rcases c2 with h | ⟨h, _⟩ <;> (first | lia | omega)

/-! ### the law's counts -/
def cntV (gs ws : List Rat) (t : Rat) : List V := [.int (turnsQ (rowQ gs ws false t)), .int (turnsQ (rowQ gs ws true t))]
def sp_counts (C : Addr) : Sp := fun vs H Q _ => ∃ (c ga wa p : Addr) (gs ws : List Rat) (t : Rat), vs = [.ref c, .ref p] ∧ Co C H c ga wa gs ws ∧ Pq H p t ∧ FineC gs ws ∧ Bq 112 t ∧ ∀ r H', Same H H' → H r = none → H' r = some (.lst (cntV gs ws t)) → Q (.ref r) H'
def sp_grown (C : Addr) : Sp := fun vs H Q _ => ∃ (c ga wa d ha xa p : Addr) (gs ws hs xs : List Rat) (t : Rat), vs = [.ref c, .ref d, .ref p] ∧ Co C H c ga wa gs ws ∧ Co C H d ha xa hs xs ∧ Pq H p t ∧ FineC gs ws ∧ FineC hs xs ∧ Bq 112 t ∧ (∀ lo, turnsQ (rowQ gs ws lo t) ≤ turnsQ (rowQ hs xs lo t)) ∧ ∀ H', Same H H' → Q (.bl true) H'
theorem sc_law_counts : FnScope ["_law_cord", "_law_number", "_law_told", "_law_end", "_law_count"] ["_law_cord", "_law_number"] (defScope s_law_counts) := ⟨rfl, rfl, rfl, by decide +kernel, rfl, by decide +kernel, by decide +kernel⟩
set_option maxHeartbeats 1000000 in
theorem ok_law_counts (F : Fun K "_law_counts" "_law_counts" s_law_counts f fd) (T : Txt mg) (C_worths_below : Cal P w K mg base "worths_below" 6 ["cord", "end", "t"] (sp_below o_Cord)) (C_Cord_beads : CalM P w K mg base o_Cord "beads" 1 ["self"] (sp_beads o_Cord)) : FnOk P w K mg base CX0 7 f fd ["_law_cord", "_law_number"] (sp_counts o_Cord) := by
  refine F.ok sc_law_counts (fun vs H Q E h => ?_) (fun cdv A outer s H vs Q E hr h => ?_)
  · obtain ⟨c, ga, wa, p, gs, ws, t, rfl, _⟩ := h
    rfl
  obtain ⟨c, ga, wa, p, gs, ws, t, rfl, co, kt, fine, bt, q⟩ := h
  have hlen := fine.len
  have hsz : (1000 : Nat) < sizeLine := by decide
  refine ⟨_, (pss_cons (ps_set (i := 2) sc_law_counts.nd rfl (Or.inl rfl) (pe_lst pa_nil))
      (pss_cons (ps_for PassesOwn.never rfl (pi_tup (pe_tup (pa_cons pe_str (pa_cons pe_str pa_nil)))) (pg_name (i := 3) sc_law_counts.nd rfl (Or.inl rfl))
        (pss_cons (ps_set (i := 4) sc_law_counts.nd rfl (Or.inl rfl) (pe_cl C_worths_below hr (pa_cons (pv 0) (pa_cons (pv 3) (pa_cons (pv 1) pa_nil)))))
        (pss_cons (ps_if (PW.pt (pw_or (pt_not (pt_val (pe_callB call_isi rfl T.z_isinstance boot_isinstance (pa_cons (pv 4) (pa_cons (pe_bltn (v := .ty "int") rfl T.z_int boot_int rfl) pa_nil))))) (pw_or (pt_val (pe_callB call_isi rfl T.z_isinstance boot_isinstance (pa_cons (pv 4) (pa_cons (pe_bltn (v := .ty "bool") rfl T.z_bool boot_bool rfl) pa_nil)))) (pw_or1 (pt_not (pt_chain op_le op_le pe_int (pv 4) (pe_m0 C_Cord_beads hr (pv 0))))))))
          (pss_one (ps_ret pe_non))
          pss_nil)
        (pss_one (ps_expr (pe_bm PySem.F.plainAttrs_list PySem.F.slot_list_append PySem.F.type_list_append mt_append (pv 2) (pa_cons (pv 4) pa_nil)))))))
      (pss_one (ps_ret (pv 2))))), ?_⟩
  refine ⟨(by show 0 ≤ sizeLine; decide), fun D hD => ?_⟩
  have u0 := same_upd hD (.lst [])
  have eD : (upd H D (.lst [])) D = some (.lst []) := upd_same
  refine ⟨(by show 2 ≤ sizeLine; decide), fun pe hpe => ?_⟩
  have u1 := same_upd hpe (.tup [V.str "held", V.str "loose"])
  have epe : (upd (upd H D (.lst [])) pe (.tup [V.str "held", V.str "loose"])) pe = some (.tup [V.str "held", V.str "loose"]) := upd_same
  have eD1 := u1 _ _ eD
  have s1 := u0.trans u1
  have neD : pe ≠ D := ne_of epe eD1 (by intro z; cases z)
  clear u0 u1 hpe eD
  generalize upd (upd H D (.lst [])) pe (.tup [V.str "held", V.str "loose"]) = H1 at *
  refine ⟨pe, rfl, ⟨_, SqT.of epe⟩, ?_⟩
  refine for_tup (xs := [V.str "held", V.str "loose"]) (fun i σ H' => Same H H' ∧ H' pe = some (.tup [V.str "held", V.str "loose"]) ∧ H' D = some (.lst ((cntV gs ws t).take i)) ∧ ∃ v u, σ = [some (.ref c), some (.ref p), some (.ref D), v, u]) ⟨s1, epe, eD1, _, _, rfl⟩ ?_ ?_ ?_
  · rintro i σ H2 _ ⟨_, e, _⟩
    exact SqT.of e
  · rintro i x σ H2 hx ⟨sm, e, eD2, v, u, rfl⟩
    obtain ⟨lo, rfl, hi⟩ : ∃ lo : Bool, x = .str (if lo then "loose" else "held") ∧ (cntV gs ws t).take (i + 1) = (cntV gs ws t).take i ++ [.int (turnsQ (rowQ gs ws lo t))] := by
      match i, hx with
      | 0, hx => exact ⟨false, (Option.some.inj hx).symm, rfl⟩
      | 1, hx => exact ⟨true, (Option.some.inj hx).symm, rfl⟩
    have tl := turns_le lo (t := t) hlen fine.pos.1
    obtain ⟨dx, ec⟩ := co.1
    refine ⟨_, rfl, _, rfl, _, rfl, c, ga, wa, p, gs, ws, lo, t, rfl, co.keep sm, kt.keep sm, fine, bt, fun H3 s3 => ?_⟩
    have sm3 := sm.trans s3
    refine ⟨_, rfl, _, _, _, _, rfl, TyOf.int _, kit_int_int _, _, rfl, iteF ?_⟩
    refine ⟨_, rfl, _, _, _, _, rfl, TyOf.int _, kit_int_bool _, _, rfl, iteF ?_⟩
    refine ⟨_, rfl, _, _, rfl, rfl, _, rfl, iteD (by (first | lia | omega)) ?_⟩
    refine ⟨_, rfl, c, dx, _, rfl, sm3 _ _ ec, rfl, c, ga, wa, gs, ws, rfl, co.keep sm3, _, _, rfl, rfl, _, rfl, ?_⟩
    rw [decide_eq_true (show ((turnsQ (rowQ gs ws lo t) : Nat) : Int) ≤ ((ws.length : Nat) : Int) by (first | lia | omega))]
    refine iteF ?_
    have eD3 := s3 _ _ eD2
    refine ⟨_, rfl, .inl ⟨rfl, _, SqL.of eD3⟩, _, rfl, D, _, _, rfl, rfl, eD3, ?_, same_updF sm3 hD _, ?_, ?_, _, _, rfl⟩
    · have : ((cntV gs ws t).take i).length ≤ 2 := by rw [List.length_take]; exact Nat.min_le_right _ _
      (first | lia | omega)
    · rw [upd_ne neD]; exact s3 _ _ e
    · rw [upd_same, hi]
  · rintro σ H2 ⟨sm, e, eD2, v, u, rfl⟩
    exact ⟨_, rfl, q D H2 sm hD eD2⟩
theorem sc_law_grown : FnScope ["_law_cord", "_law_changed", "_law_number", "_law_before", "_law_after"] ["_law_cord", "_law_changed", "_law_number"] (defScope s_law_grown) := ⟨rfl, rfl, rfl, by decide +kernel, rfl, by decide +kernel, by decide +kernel⟩
theorem ok_law_grown (F : Fun K "_law_grown" "_law_grown" s_law_grown f fd) (T : Txt mg) (C_law_counts : Cal P w K mg base "_law_counts" 7 ["_law_cord", "_law_number"] (sp_counts o_Cord)) : FnOk P w K mg base CX0 8 f fd ["_law_cord", "_law_changed", "_law_number"] (sp_grown o_Cord) := by
  refine F.ok sc_law_grown (fun vs H Q E h => ?_) (fun cdv A outer s H vs Q E hr h => ?_)
  · obtain ⟨c, ga, wa, d, ha, xa, p, gs, ws, hs, xs, t, rfl, _⟩ := h
    rfl
  obtain ⟨c, ga, wa, d, ha, xa, p, gs, ws, hs, xs, t, rfl, co, cd, kt, f1, f2, bt, le, q⟩ := h
  refine ⟨_, (pss_cons (ps_set (i := 3) sc_law_grown.nd rfl (Or.inl rfl) (pe_cl C_law_counts hr (pa_cons (pv 0) (pa_cons (pv 2) pa_nil))))
      (pss_cons (ps_set (i := 4) sc_law_grown.nd rfl (Or.inl rfl) (pe_cl C_law_counts hr (pa_cons (pv 1) (pa_cons (pv 2) pa_nil))))
      (pss_cons (ps_if (PW.pt (pw_or (pt_cmpR op_isN (pv 3) pe_non (nomark _)) (pw_or1 (pt_cmpR op_isN (pv 4) pe_non (nomark _)))))
        (pss_one (ps_ret pe_bl))
        pss_nil)
      (pss_one (ps_ret (pe_and (pe_cmpR op_le (pe_ix ix_list (pv 3) pe_int (fun _ _ => rfl)) (pe_ix ix_list (pv 4) pe_int (fun _ _ => rfl)) (nomark _)) (pe_one (pe_cmpR op_le (pe_ix ix_list (pv 3) pe_int (fun _ _ => rfl)) (pe_ix ix_list (pv 4) pe_int (fun _ _ => rfl)) (nomark _))))))))), ?_⟩
  refine ⟨_, rfl, _, rfl, c, ga, wa, p, gs, ws, t, rfl, co, kt, f1, bt, fun r1 H1 s1 n1 e1 => ?_⟩
  refine ⟨_, rfl, _, rfl, d, ha, xa, p, hs, xs, t, rfl, cd.keep s1, kt.keep s1, f2, bt, fun r2 H2 s2 n2 e2 => ?_⟩
  have e1' := s2 _ _ e1
  have a := le false
  have b := le true
  refine ⟨_, rfl, rfl, _, rfl, iteND (by intro z; cases z) ⟨_, rfl, rfl, _, rfl, iteND (by intro z; cases z) ?_⟩⟩
  refine ⟨_, rfl, r1, _, _, _, rfl, rfl, SqL.of e1', rfl, _, rfl, r2, _, _, _, rfl, rfl, SqL.of e2, rfl, _, _, rfl, rfl, _, rfl, iteD (by (first | lia | omega)) ?_⟩
  refine ⟨_, rfl, r1, _, _, _, rfl, rfl, SqL.of e1', rfl, _, rfl, r2, _, _, _, rfl, rfl, SqL.of e2, rfl, _, _, rfl, rfl, ?_⟩
  have fin := q H2 (s1.trans s2)
  rw [← decide_eq_true (show ((turnsQ (rowQ gs ws true t) : Nat) : Int) ≤ ((turnsQ (rowQ hs xs true t) : Nat) : Int) by (first | lia | omega))] at fin
  exact fin
theorem sc_law : FnScope ["_law_script", "_law_gaps", "_law_weights", "_law_rest", "_law_more", "_law_number", "_law_cord", "_law_bead", "_law_ahead", "_law_behind", "_law_pieces"] ["_law_script"] (defScope s_law) := ⟨rfl, rfl, rfl, by decide +kernel, rfl, by decide +kernel, by decide +kernel⟩
set_option maxHeartbeats 8000000 in
theorem ok_law (F : Fun K "law" "law" s_law f fd) (T : Txt mg) (C_law_cell_at : Cal P w K mg base "_law_cell_at" 1 ["_law_script", "_law_k"] (sp_cell K)) (C_law_mixed : Cal P w K mg base "_law_mixed" 1 ["_law_cell", "_law_k"] sp_mixed) (C_law_signed : Cal P w K mg base "_law_signed" 1 ["_law_number"] sp_signed) (C_law_low : Cal P w K mg base "_law_low" 2 ["_law_top", "_law_bottom"] sp_lowQ) (C_law_cord_by : Cal P w K mg base "_law_cord_by" 3 ["_law_cell", "_law_k", "_law_most"] sp_cby)
    (C_law_grown : Cal P w K mg base "_law_grown" 8 ["_law_cord", "_law_changed", "_law_number"] (sp_grown o_Cord)) (C_worths_below : Cal P w K mg base "worths_below" 6 ["cord", "end", "t"] (sp_below o_Cord)) (C_longer : Cal P w K mg base "longer" 6 ["cord", "gap", "more"] (sp_longer o_Cord)) (C_heavier : Cal P w K mg base "heavier" 6 ["cord", "bead", "more"] (sp_heavier o_Cord)) (C_cut : Cal P w K mg base "cut" 6 ["cord", "bead"] (sp_cut o_Cord))
    (C_Cord_init : CalC P w K mg base "Cord" o_Cord 4 ["self", "gaps", "weights"] (sp_init0 o_Cord)) : FnOk P w K mg base CX0 9 f fd ["_law_script"] (sp_law K) := by
  refine F.ok sc_law (fun vs H Q E h => ?_) (fun cdv A outer s H vs Q E hr h => ?_)
  · obtain ⟨a, ns, rfl, _⟩ := h
    rfl
  obtain ⟨a, ns, rfl, hS, h63, q⟩ := h
  refine ⟨_, (pss_cons (ps_asg (pe_cl C_law_cord_by hr (pa_cons (pe_cl C_law_cell_at hr (pa_cons (pv 0) (pa_cons pe_int pa_nil))) (pa_cons pe_int (pa_cons pe_int pa_nil)))) (pg_tup rfl (pgs_cons (pg_name (i := 1) sc_law.nd rfl (Or.inl rfl)) (pgs_cons (pg_name (i := 2) sc_law.nd rfl (Or.inl rfl)) pgs_nil))))
      (pss_cons (ps_set (i := 3) sc_law.nd rfl (Or.inl rfl) (pe_cl C_law_mixed hr (pa_cons (pe_cl C_law_cell_at hr (pa_cons (pv 0) (pa_cons pe_int pa_nil))) (pa_cons pe_int pa_nil))))
      (pss_cons (ps_set (i := 4) sc_law.nd rfl (Or.inl rfl) (pe_cl C_law_low hr (pa_cons (pe_op op_add pe_int (pe_op op_mod (pe_op op_fdP (pv 3) pe_int) (pe_ix ix_list (pe_lst (pa_cons pe_int (pa_cons (pe_op op_sub (pe_op op_pow pe_int pe_int) pe_int) pa_nil))) (pe_op op_mod (pv 3) pe_int) (fun _ _ => rfl)))) (pa_cons (pe_op op_add pe_int (pe_op op_mod (pe_op op_fdP (pv 3) (pe_op op_pow pe_int pe_int)) pe_int)) pa_nil))))
      (pss_cons (ps_set (i := 3) sc_law.nd rfl (Or.inl rfl) (pe_cl C_law_mixed hr (pa_cons (pe_cl C_law_cell_at hr (pa_cons (pv 0) (pa_cons pe_int pa_nil))) (pa_cons pe_int pa_nil))))
      (pss_cons (ps_set (i := 5) sc_law.nd rfl (Or.inl rfl) (pe_cl C_law_low hr (pa_cons (pe_op op_mulB (pe_cl C_law_signed hr (pa_cons (pe_op op_mod (pe_op op_fdP (pv 3) pe_int) pe_int) pa_nil)) (pe_ix ix_list (PEw.h (w_lst (aw_con w_int (aw_con w_int (aw_con w_int (aw_con w_int (aw_bin (w_pow w_int w_int) aw_nil))))))) (pe_op op_mod (pv 3) pe_int) (fun _ _ => rfl))) (pa_cons (pe_op op_add pe_int (pe_op op_mod (pe_op op_fdP (pv 3) pe_int) pe_int)) pa_nil))))
      (pss_cons (ps_set (i := 3) sc_law.nd rfl (Or.inl rfl) (pe_cl C_law_mixed hr (pa_cons (pe_cl C_law_cell_at hr (pa_cons (pv 0) (pa_cons pe_int pa_nil))) (pa_cons pe_int pa_nil))))
      (pss_cons (ps_set (i := 6) sc_law.nd rfl (Or.inl rfl) (pe_mk C_Cord_init hr (pa_cons (pe_callTy call_list_of rfl T.z_list boot_list (pa_cons (pv 1) pa_nil)) (pa_cons (pe_callTy call_list_of rfl T.z_list boot_list (pa_cons (pv 2) pa_nil)) pa_nil))))
      (pss_cons (ps_if (pt_not (pt_val (pe_cl C_law_grown hr (pa_cons (pv 6) (pa_cons (pe_cl C_longer hr (pa_cons (pv 6) (pa_cons (pe_op op_mod (pv 3) (pe_callB call_len_seq rfl T.z_len PySem.boot_len (pa_cons (pv 1) pa_nil))) (pa_cons (pv 4) pa_nil)))) (pa_cons (pv 5) pa_nil))))))
        (pss_one (ps_ret pe_bl))
        pss_nil)
      (pss_cons (ps_if (pt_cmpR op_eq (pe_callB call_len_seq rfl T.z_len PySem.boot_len (pa_cons (pv 2) pa_nil)) pe_int (nomark _))
        (pss_one (ps_ret pe_bl))
        pss_nil)
      (pss_cons (ps_set (i := 7) sc_law.nd rfl (Or.inl rfl) (pe_op op_add pe_int (pe_op op_mod (pe_op op_fdP (pv 3) pe_int) (pe_callB call_len_seq rfl T.z_len PySem.boot_len (pa_cons (pv 2) pa_nil)))))
      (pss_cons (ps_if (pt_not (pt_val (pe_cl C_law_grown hr (pa_cons (pv 6) (pa_cons (pe_cl C_heavier hr (pa_cons (pv 6) (pa_cons (pv 7) (pa_cons (pv 4) pa_nil)))) (pa_cons (pv 5) pa_nil))))))
        (pss_one (ps_ret pe_bl))
        pss_nil)
      (pss_cons (ps_asg (pe_cl C_cut hr (pa_cons (pv 6) (pa_cons (pv 7) pa_nil))) (pg_tup rfl (pgs_cons (pg_name (i := 8) sc_law.nd rfl (Or.inl rfl)) (pgs_cons (pg_name (i := 9) sc_law.nd rfl (Or.inl rfl)) pgs_nil))))
      (pss_cons (ps_set (i := 10) sc_law.nd rfl (Or.inl rfl) (pe_op op_add (pe_cl C_worths_below hr (pa_cons (pv 8) (pa_cons pe_str (pa_cons (pv 5) pa_nil)))) (pe_cl C_worths_below hr (pa_cons (pv 9) (pa_cons pe_str (pa_cons (pv 5) pa_nil))))))
      (pss_one (ps_ret (pe_chain op_le op_le (pv 10) (pe_cl C_worths_below hr (pa_cons (pv 6) (pa_cons pe_str (pa_cons (pv 5) pa_nil)))) (pe_op op_add (pv 10) pe_int))))))))))))))))), ?_⟩
  refine ⟨_, rfl, a, ns, 0, rfl, hS, _, 0, 5, rfl, by decide, by decide, fun r1 ga wa gs ws H1 s1 er1 nga nwa ne1 rg rw1 d => ⟨r1, _, rfl, SqT.of er1, rfl, _, _, rfl, _, _, rfl, rfl, ?_⟩⟩
  have hS := s1.seq hS
  clear s1 er1 nga nwa ne1
  refine ⟨_, rfl, a, ns, 1, rfl, hS, _, 1, rfl, ⟨by decide, by decide⟩, ?_⟩
  obtain ⟨r0, e0⟩ : ∃ r, r = mixed (cellA ns 1) 1 := ⟨_, rfl⟩
  rw [← e0]
  clear e0
  obtain ⟨v, hv, v0, v1⟩ : ∃ v : Int, atI [V.int 12, V.int (10 ^ 30 - 1)] (r0 % 2) = some (.int v) ∧ 0 < v ∧ v ≤ 10 ^ 30 - 1 := by
    have h : r0 % 2 = 0 ∨ r0 % 2 = 1 := by (first | lia | omega)
    rcases h with h | h
    · rw [h]; exact ⟨12, rfl, by decide, by decide⟩
    · rw [h]; exact ⟨10 ^ 30 - 1, rfl, by decide, by decide⟩
  have h1 := Int.emod_nonneg (r0 / 2) (show v ≠ 0 by (first | lia | omega))
  have h2 := Int.emod_lt_of_pos (r0 / 2) v0
  have h3 := Int.emod_nonneg (r0 / 10 ^ 31) (show (12 : Int) ≠ 0 by decide)
  have h4 := Int.emod_lt_of_pos (r0 / 10 ^ 31) (show (0 : Int) < 12 by decide)
  have ht : 0 < 1 + r0 / 2 % v := by (first | lia | omega)
  have hb : 0 < 1 + r0 / 10 ^ 31 % 12 := by (first | lia | omega)
  have bt : Bt 101 (1 + r0 / 2 % v) := Bt.between (by (first | lia | omega)) (by (first | lia | omega))
  have bb : Bt 101 (1 + r0 / 10 ^ 31 % 12) := Bt.between (by (first | lia | omega)) (by (first | lia | omega))
  refine ⟨_, rfl, _, _, rfl, rfl, ⟨by decide, bt2 (by decide +kernel)⟩, _, _, rfl, rfl, ⟨by decide, by decide, by decide⟩, _, _, rfl, rfl, (by show 2 ≤ sizeLine; decide), fun p1 hp1 => ⟨_, rfl, _, _, rfl, rfl, (by show (0 : Int) < 2; decide), p1, _, _, _, rfl, rfl, SqL.of upd_same, hv, _, _, rfl, rfl, v0, _, _, rfl, rfl, _, rfl, _, _, rfl, rfl, ⟨by decide, by decide, by decide⟩, _, _, rfl, rfl, ⟨by decide, bt2 (by decide +kernel)⟩, _, _, rfl, rfl, (by show (0 : Int) < 12; decide), _, _, rfl, rfl, _, _, rfl, hb, bb.mono (by decide), fun pm H2 s2 km => ?_⟩⟩
  have s2 := (same_upd hp1 _).trans s2
  have bm : Bq 101 (((1 + r0 / 2 % v : Int) : Rat) / ((1 + r0 / 10 ^ 31 % 12 : Int) : Rat)) := bq_of (Int.ne_of_gt hb) rfl bt bb
  have m0 : 0 < ((1 + r0 / 2 % v : Int) : Rat) / ((1 + r0 / 10 ^ 31 % 12 : Int) : Rat) := div_pos ht hb
  replace km : Pq H2 pm (((1 + r0 / 2 % v : Int) : Rat) / ((1 + r0 / 10 ^ 31 % 12 : Int) : Rat)) := km
  generalize ((1 + r0 / 2 % v : Int) : Rat) / ((1 + r0 / 10 ^ 31 % 12 : Int) : Rat) = x at *
  have hS := s2.seq hS
  have rg := rg.keep s2
  have rw1 := rw1.keep s2
  clear s2 h1 h2 h3 h4 ht hb bt bb hv v0 v1 hp1
  refine ⟨_, rfl, a, ns, 2, rfl, hS, _, 2, rfl, ⟨by decide, by decide⟩, ?_⟩
  obtain ⟨r2, e0⟩ : ∃ r, r = mixed (cellA ns 2) 2 := ⟨_, rfl⟩
  rw [← e0]
  clear e0
  obtain ⟨v2, hv, b2⟩ : ∃ v : Int, atI [V.int 1, V.int 1, V.int 7, V.int 1000, V.int (10 ^ 30)] (r2 % 5) = some (.int v) ∧ Bt 100 v := by
    have h : r2 % 5 = 0 ∨ r2 % 5 = 1 ∨ r2 % 5 = 2 ∨ r2 % 5 = 3 ∨ r2 % 5 = 4 := by (first | lia | omega)
    rcases h with h | h | h | h | h
    · rw [h]; exact ⟨1, rfl, bt2 (by decide +kernel)⟩
    · rw [h]; exact ⟨1, rfl, bt2 (by decide +kernel)⟩
    · rw [h]; exact ⟨7, rfl, bt2 (by decide +kernel)⟩
    · rw [h]; exact ⟨1000, rfl, bt2 (by decide +kernel)⟩
    · rw [h]; exact ⟨10 ^ 30, rfl, bt2 (by decide +kernel)⟩
  have h1 := Int.emod_nonneg (r2 / 5) (show (82 : Int) ≠ 0 by decide)
  have h2 := Int.emod_lt_of_pos (r2 / 5) (show (0 : Int) < 82 by decide)
  have h3 := Int.emod_nonneg (r2 / 410) (show (12 : Int) ≠ 0 by decide)
  have h4 := Int.emod_lt_of_pos (r2 / 410) (show (0 : Int) < 12 by decide)
  have hb : 0 < 1 + r2 / 410 % 12 := by (first | lia | omega)
  have bb : Bt 112 (1 + r2 / 410 % 12) := Bt.between (by (first | lia | omega)) (by (first | lia | omega))
  have bs : Bt 7 (signed (r2 / 5 % 82)) := by
    unfold signed
    split
    · exact Bt.between (by (first | lia | omega)) (by (first | lia | omega))
    · exact Bt.between (by (first | lia | omega)) (by (first | lia | omega))
  refine ⟨_, rfl, _, _, rfl, rfl, ⟨by decide, bt2 (by decide +kernel)⟩, _, _, rfl, rfl, (by show (0 : Int) < 82; decide), _, rfl, fun H3 s3 => ?_⟩
  refine ⟨_, _, rfl, rfl, ⟨by decide, by decide, by decide⟩, (by show 5 ≤ sizeLine; decide), fun p2 hp2 => ⟨_, rfl, _, _, rfl, rfl, (by show (0 : Int) < 5; decide), p2, _, _, _, rfl, rfl, SqL.of upd_same, hv, _, _, rfl, rfl, mul_of bs b2 (by decide), _, rfl, _, _, rfl, rfl, ⟨by decide, bt2 (by decide +kernel)⟩, _, _, rfl, rfl, (by show (0 : Int) < 12; decide), _, _, rfl, rfl, _, _, rfl, hb, bb.mono (by decide), fun pn H4 s4 kn => ?_⟩⟩
  have s4 := s3.trans ((same_upd hp2 _).trans s4)
  have bn : Bq 112 (((signed (r2 / 5 % 82) * v2 : Int) : Rat) / ((1 + r2 / 410 % 12 : Int) : Rat)) := bq_of (Int.ne_of_gt hb) rfl ((bs.mul b2).mono (by decide)) bb
  generalize ((signed (r2 / 5 % 82) * v2 : Int) : Rat) / ((1 + r2 / 410 % 12 : Int) : Rat) = t at *
  have hS := s4.seq hS
  have rg := rg.keep s4
  have rw1 := rw1.keep s4
  have km := km.keep s4
  clear s3 s4 h1 h2 h3 h4 hb bb bs b2 hv hp2
  refine ⟨_, rfl, a, ns, 3, rfl, hS, _, 3, rfl, ⟨by decide, by decide⟩, ?_⟩
  obtain ⟨r3, e0⟩ : ∃ r, r = mixed (cellA ns 3) 3 := ⟨_, rfl⟩
  rw [← e0]
  clear e0
  have f1 := d.fine (by decide)
  obtain ⟨xg, eg, lxg⟩ := rg.there
  obtain ⟨xw, ew, lxw⟩ := rw1.there
  refine ⟨_, rfl, ga, _, rfl, .inl (SqL.of eg), fun m1 hm1 => ?_⟩
  have u1 := same_upd hm1 (.lst xg)
  refine ⟨_, rfl, wa, _, rfl, .inl (SqL.of (u1 _ _ ew)), fun m2 hm2 => ?_⟩
  have u2 := same_upd hm2 (.lst xw)
  have u12 := u1.trans u2
  have t1 := (rg.copy eg hm1).keep u2
  have t2 := (rw1.keep u1).copy (u1 _ _ ew) hm2
  have eg := u12 _ _ eg
  have ew := u12 _ _ ew
  have km := km.keep u12
  have kn := kn.keep u12
  clear u1 u2 u12
  generalize upd (upd H4 m1 (.lst xg)) m2 (.lst xw) = H5 at *
  intro c dx1 nx1 ndx1 _
  refine new_cord nx1 ndx1 t1 t2 f1.fine0 fun ca cb H6 s6 _ _ co => ?_
  have eg := s6 _ _ eg
  have ew := s6 _ _ ew
  have km := km.keep s6
  have kn := kn.keep s6
  clear s6 t1 t2 nx1 ndx1 hm1 hm2
  have hlen := f1.len
  have g0 : (0 : Int) < ((xg.length : Nat) : Int) := by (first | lia | omega)
  have h1 := Int.emod_nonneg r3 (Int.ne_of_gt g0)
  have h2 := Int.emod_lt_of_pos r3 g0
  obtain ⟨j, hj⟩ : ∃ j : Nat, (j : Int) = r3 % ((xg.length : Nat) : Int) := ⟨(r3 % ((xg.length : Nat) : Int)).toNat, by (first | lia | omega)⟩
  have hj1 : j < gs.length := by (first | lia | omega)
  refine ⟨_, rfl, _, rfl, _, rfl, _, rfl, ga, _, rfl, .inl (SqL.of eg), _, _, rfl, rfl, g0, _, rfl, c, ca, cb, pm, gs, ws, j, x, ?_, co, km, f1, by (first | lia | omega), m0, bm, fun cl gl' wl H7 s7 _ _ _ col => ?_⟩
  · rw [hj]
    rfl
  have x0 := Rat.le_of_lt m0
  have fl := f1.longC hj1 m0 bm
  refine ⟨_, rfl, c, ca, cb, cl, gl', wl, pn, gs, ws, _, ws, t, rfl, co.keep s7, col, kn.keep s7, f1.fineC, fl, bn, fun lo => turns_mono lo hlen fl.len (mor_length x hj1) f1.pos.1 f1.pos.2 fl.pos.1 (getD_le_mor x0 hj1) (fun k => Rat.le_refl), fun H8 s8 => ⟨_, rfl, iteF ?_⟩⟩
  have s78 := s7.trans s8
  have ew := s78 _ _ ew
  have km := km.keep s78
  have kn := kn.keep s78
  have co := co.keep s78
  clear s7 s8 s78 col eg fl h1 h2 hj hj1 g0
  refine ⟨_, rfl, wa, _, rfl, .inl (SqL.of ew), rfl, _, rfl, ite2 (fun _ => q H8) (fun z => ?_)⟩
  have z' : ¬ ((xw.length : Nat) : Int) = 0 := fun y => of_decide_eq_false (Bool.eq_false_iff.mpr z) (congrArg V.int y)
  have w0 : (0 : Int) < ((xw.length : Nat) : Int) := by (first | lia | omega)
  have h1 := Int.emod_nonneg (r3 / 13) (Int.ne_of_gt w0)
  have h2 := Int.emod_lt_of_pos (r3 / 13) w0
  obtain ⟨n, hn⟩ : ∃ n : Nat, (n : Int) = 1 + r3 / 13 % ((xw.length : Nat) : Int) := ⟨(1 + r3 / 13 % ((xw.length : Nat) : Int)).toNat, by (first | lia | omega)⟩
  have hn1 : 1 ≤ n := by (first | lia | omega)
  have hn2 : n ≤ ws.length := by (first | lia | omega)
  have hn3 : n - 1 < ws.length := by (first | lia | omega)
  refine ⟨_, rfl, _, _, rfl, rfl, ⟨by decide, bt2 (by decide +kernel)⟩, _, rfl, wa, _, rfl, .inl (SqL.of ew), _, _, rfl, rfl, w0, _, _, rfl, rfl, ?_⟩
  rw [show (fun i j : Int => V.int (i + j)) 1 (r3 / 13 % ((xw.length : Nat) : Int)) = V.int (n : Int) from congrArg V.int hn.symm]
  refine ⟨_, rfl, _, rfl, _, rfl, _, rfl, c, ca, cb, pm, gs, ws, n, x, rfl, co, km, f1, hn1, hn2, m0, bm, fun ch gh' wh H9 s9 _ _ _ coh => ?_⟩
  have fh := f1.heavyC hn3 m0 bm
  refine ⟨_, rfl, c, ca, cb, ch, gh', wh, pn, gs, ws, gs, _, t, rfl, co.keep s9, coh, kn.keep s9, f1.fineC, fh, bn, fun lo => turns_mono lo hlen fh.len rfl f1.pos.1 f1.pos.2 fh.pos.1 (fun k => Rat.le_refl) (getD_le_mor x0 hn3), fun HA sA => ⟨_, rfl, iteF ?_⟩⟩
  have s9A := s9.trans sA
  have kn := kn.keep s9A
  have co := co.keep s9A
  clear s9 sA s9A coh fh
  refine ⟨_, rfl, _, rfl, c, ca, cb, gs, ws, n, rfl, co, f1.fine0, hn1, hn2, fun rp c1 g1 w1 c2 g2 w2 HB sB erp co1 co2 => ⟨rp, _, rfl, SqT.of erp, rfl, _, _, rfl, _, _, rfl, rfl, ?_⟩⟩
  have kn := kn.keep sB
  have co := co.keep sB
  have hm := f1.most
  have k1 : FineC (gs.take n) (ws.take (n - 1)) := ⟨by rw [List.length_take, List.length_take]; (first | lia | omega), by rw [List.length_take]; (first | lia | omega), ⟨fun q h => f1.pos.1 q (List.mem_of_mem_take h), fun q h => f1.pos.2 q (List.mem_of_mem_take h)⟩, fun q h => (f1.bq.1 q (List.mem_of_mem_take h)).mono (by decide), fun q h => (f1.bq.2 q (List.mem_of_mem_take h)).mono (by decide)⟩
  have k2 : FineC (gs.drop n) (ws.drop n) := ⟨by rw [List.length_drop, List.length_drop]; (first | lia | omega), by rw [List.length_drop]; (first | lia | omega), ⟨fun q h => f1.pos.1 q (List.mem_of_mem_drop h), fun q h => f1.pos.2 q (List.mem_of_mem_drop h)⟩, fun q h => (f1.bq.1 q (List.mem_of_mem_drop h)).mono (by decide), fun q h => (f1.bq.2 q (List.mem_of_mem_drop h)).mono (by decide)⟩
  obtain ⟨q1, q2⟩ := turns_cut (t := t) hlen f1.pos.1 hn1 hn2
  refine ⟨_, rfl, _, rfl, c1, g1, w1, pn, _, _, false, t, rfl, co1, kn, k1, bn, fun HC sC => ?_⟩
  refine ⟨_, rfl, _, rfl, c2, g2, w2, pn, _, _, false, t, rfl, co2.keep sC, kn.keep sC, k2, bn, fun HD sD => ⟨_, _, rfl, rfl, ?_⟩⟩
  have sCD := sC.trans sD
  refine ⟨_, rfl, _, rfl, _, rfl, c, ca, cb, pn, gs, ws, false, t, rfl, co.keep sCD, kn.keep sCD, f1.fineC, bn, fun HE sE => ⟨_, _, rfl, rfl, _, rfl, iteD (by (first | lia | omega)) ⟨_, rfl, _, _, rfl, rfl, _, _, rfl, rfl, ?_⟩⟩⟩
  have fin := q HE
  rw [← decide_eq_true (show ((turnsQ (rowQ gs ws false t) : Nat) : Int) ≤ ((turnsQ (rowQ (gs.take n) (ws.take (n - 1)) false t) : Nat) : Int) + ((turnsQ (rowQ (gs.drop n) (ws.drop n) false t) : Nat) : Int) + 1 by (first | lia | omega))] at fin
  exact fin

end
set_option maxHeartbeats 4000000 in
theorem all_mk {l : PySem.W.OpenLaw} {w : World} {K : PySem.W.Frag} {h : Heap} {mg : Str → Option Value} {fa f1 f2 f3 f4 f5 f6 f7 f8 f9 f10 f11 f12 f13 f14 f15 f16 f17 f18 f19 f20 f21 f22 f23 f24 f25 f26 f27 f28 f29 o_Cord : Addr} (X : K.In h) (G : h.Ns mainGlobals mg) (hfa : mg "law" = some (.ref fa))
    {od1 an1 od2 an2 od3 an3 od4 an4 od5 an5 od6 an6 od7 an7 od8 an8 od9 an9 od10 an10 od11 an11 od12 an12 od13 an13 od14 an14 od15 an15 od16 an16 od17 an17 od18 an18 od19 an19 od20 an20 od21 an21 od22 an22 od23 an23 od24 an24 od25 an25 od26 an26 od27 an27 od28 an28 od29 an29 : Option Addr} {sl1 sl2 sl3 sl4 sl5 sl6 sl7 sl8 sl9 sl10 sl11 sl12 sl13 sl14 sl15 sl16 sl17 sl18 sl19 sl20 sl21 sl22 sl23 sl24 sl25 sl26 sl27 sl28 sl29 : Array (Option Value)} {oc1 kV1 dc1 pm1 cd1 ct1 oc2 kV2 dc2 pm2 cd2 ct2 oc3 kV3 dc3 pm3 cd3 ct3 oc4 kV4 dc4 pm4 cd4 ct4 oc5 kV5 dc5 pm5 cd5 ct5 oc6 kV6 dc6 pm6 cd6 ct6 oc7 kV7 dc7 pm7 cd7 ct7 oc8 kV8 dc8 pm8 cd8 ct8 oc9 kV9 dc9 pm9 cd9 ct9 oc10 kV10 dc10 pm10 cd10 ct10 oc11 kV11 dc11 pm11 cd11 ct11 oc12 kV12 dc12 pm12 cd12 ct12 oc13 kV13 dc13 pm13 cd13 ct13 oc14 kV14 dc14 pm14 cd14 ct14 oc15 kV15 dc15 pm15 cd15 ct15 oc16 kV16 dc16 pm16 cd16 ct16 oc17 kV17 dc17 pm17 cd17 ct17 oc18 kV18 dc18 pm18 cd18 ct18 oc19 kV19 dc19 pm19 cd19 ct19 oc20 kV20 dc20 pm20 cd20 ct20 oc21 kV21 dc21 pm21 cd21 ct21 oc22 kV22 dc22 pm22 cd22 ct22 oc23 kV23 dc23 pm23 cd23 ct23 oc24 kV24 dc24 pm24 cd24 ct24 oc25 kV25 dc25 pm25 cd25 ct25 oc26 kV26 dc26 pm26 cd26 ct26 oc27 kV27 dc27 pm27 cd27 ct27 oc28 kV28 dc28 pm28 cd28 ct28 oc29 kV29 dc29 pm29 cd29 ct29 : Value}
    (a1 : PySem.W.nsIn K mainGlobals "divisor" = some (some (.ref f1))) (l1 : K.lookup f1 = some ⟨oc1, od1, .func (PySem.W.fnOf "divisor" "divisor" (defArgs s_divisor) (defBody s_divisor) (defScope s_divisor) .none kV1 dc1 pm1 an1 cd1 ct1), sl1⟩) (c1 : PySem.W.codeIn K cd1 "divisor" = true) (k1 : PySem.W.keepIn K (.ref f1) = true)
    (a2 : PySem.W.nsIn K mainGlobals "is_whole" = some (some (.ref f2))) (l2 : K.lookup f2 = some ⟨oc2, od2, .func (PySem.W.fnOf "is_whole" "is_whole" (defArgs s_is_whole) (defBody s_is_whole) (defScope s_is_whole) .none kV2 dc2 pm2 an2 cd2 ct2), sl2⟩) (c2 : PySem.W.codeIn K cd2 "is_whole" = true) (k2 : PySem.W.keepIn K (.ref f2) = true)
    (a3 : PySem.W.nsIn K mainGlobals "is_fraction" = some (some (.ref f3))) (l3 : K.lookup f3 = some ⟨oc3, od3, .func (PySem.W.fnOf "is_fraction" "is_fraction" (defArgs s_is_fraction) (defBody s_is_fraction) (defScope s_is_fraction) .none kV3 dc3 pm3 an3 cd3 ct3), sl3⟩) (c3 : PySem.W.codeIn K cd3 "is_fraction" = true) (k3 : PySem.W.keepIn K (.ref f3) = true)
    (a4 : PySem.W.nsIn K mainGlobals "plus" = some (some (.ref f4))) (l4 : K.lookup f4 = some ⟨oc4, od4, .func (PySem.W.fnOf "plus" "plus" (defArgs s_plus) (defBody s_plus) (defScope s_plus) .none kV4 dc4 pm4 an4 cd4 ct4), sl4⟩) (c4 : PySem.W.codeIn K cd4 "plus" = true) (k4 : PySem.W.keepIn K (.ref f4) = true)
    (a5 : PySem.W.nsIn K mainGlobals "times" = some (some (.ref f5))) (l5 : K.lookup f5 = some ⟨oc5, od5, .func (PySem.W.fnOf "times" "times" (defArgs s_times) (defBody s_times) (defScope s_times) .none kV5 dc5 pm5 an5 cd5 ct5), sl5⟩) (c5 : PySem.W.codeIn K cd5 "times" = true) (k5 : PySem.W.keepIn K (.ref f5) = true)
    (a6 : PySem.W.nsIn K mainGlobals "side" = some (some (.ref f6))) (l6 : K.lookup f6 = some ⟨oc6, od6, .func (PySem.W.fnOf "side" "side" (defArgs s_side) (defBody s_side) (defScope s_side) .none kV6 dc6 pm6 an6 cd6 ct6), sl6⟩) (c6 : PySem.W.codeIn K cd6 "side" = true) (k6 : PySem.W.keepIn K (.ref f6) = true)
    (a7 : PySem.W.nsIn K mainGlobals "is_row_above" = some (some (.ref f7))) (l7 : K.lookup f7 = some ⟨oc7, od7, .func (PySem.W.fnOf "is_row_above" "is_row_above" (defArgs s_is_row_above) (defBody s_is_row_above) (defScope s_is_row_above) .none kV7 dc7 pm7 an7 cd7 ct7), sl7⟩) (c7 : PySem.W.codeIn K cd7 "is_row_above" = true) (k7 : PySem.W.keepIn K (.ref f7) = true)
    (a8 : PySem.W.findIn K (.ref o_Cord) "__init__" = some (some (.ref f8))) (i8 : PySem.W.isFn K (.ref f8) = true) (l8 : K.lookup f8 = some ⟨oc8, od8, .func (PySem.W.fnOf "__init__" "Cord.__init__" (defArgs s_Cord_init) (defBody s_Cord_init) (defScope s_Cord_init) .none kV8 dc8 pm8 an8 cd8 ct8), sl8⟩) (c8 : PySem.W.codeIn K cd8 "Cord.__init__" = true) (k8 : PySem.W.keepIn K (.ref f8) = true)
    (a9 : PySem.W.findIn K (.ref o_Cord) "gaps" = some (some (.ref f9))) (i9 : PySem.W.isFn K (.ref f9) = true) (l9 : K.lookup f9 = some ⟨oc9, od9, .func (PySem.W.fnOf "gaps" "Cord.gaps" (defArgs s_Cord_gaps) (defBody s_Cord_gaps) (defScope s_Cord_gaps) .none kV9 dc9 pm9 an9 cd9 ct9), sl9⟩) (c9 : PySem.W.codeIn K cd9 "Cord.gaps" = true) (k9 : PySem.W.keepIn K (.ref f9) = true)
    (a10 : PySem.W.findIn K (.ref o_Cord) "weights" = some (some (.ref f10))) (i10 : PySem.W.isFn K (.ref f10) = true) (l10 : K.lookup f10 = some ⟨oc10, od10, .func (PySem.W.fnOf "weights" "Cord.weights" (defArgs s_Cord_weights) (defBody s_Cord_weights) (defScope s_Cord_weights) .none kV10 dc10 pm10 an10 cd10 ct10), sl10⟩) (c10 : PySem.W.codeIn K cd10 "Cord.weights" = true) (k10 : PySem.W.keepIn K (.ref f10) = true)
    (a11 : PySem.W.findIn K (.ref o_Cord) "beads" = some (some (.ref f11))) (i11 : PySem.W.isFn K (.ref f11) = true) (l11 : K.lookup f11 = some ⟨oc11, od11, .func (PySem.W.fnOf "beads" "Cord.beads" (defArgs s_Cord_beads) (defBody s_Cord_beads) (defScope s_Cord_beads) .none kV11 dc11 pm11 an11 cd11 ct11), sl11⟩) (c11 : PySem.W.codeIn K cd11 "Cord.beads" = true) (k11 : PySem.W.keepIn K (.ref f11) = true)
    (a12 : PySem.W.nsIn K mainGlobals "check_bead" = some (some (.ref f12))) (l12 : K.lookup f12 = some ⟨oc12, od12, .func (PySem.W.fnOf "check_bead" "check_bead" (defArgs s_check_bead) (defBody s_check_bead) (defScope s_check_bead) .none kV12 dc12 pm12 an12 cd12 ct12), sl12⟩) (c12 : PySem.W.codeIn K cd12 "check_bead" = true) (k12 : PySem.W.keepIn K (.ref f12) = true)
    (a13 : PySem.W.nsIn K mainGlobals "with_more" = some (some (.ref f13))) (l13 : K.lookup f13 = some ⟨oc13, od13, .func (PySem.W.fnOf "with_more" "with_more" (defArgs s_with_more) (defBody s_with_more) (defScope s_with_more) .none kV13 dc13 pm13 an13 cd13 ct13), sl13⟩) (c13 : PySem.W.codeIn K cd13 "with_more" = true) (k13 : PySem.W.keepIn K (.ref f13) = true)
    (a14 : PySem.W.nsIn K mainGlobals "heavier" = some (some (.ref f14))) (l14 : K.lookup f14 = some ⟨oc14, od14, .func (PySem.W.fnOf "heavier" "heavier" (defArgs s_heavier) (defBody s_heavier) (defScope s_heavier) .none kV14 dc14 pm14 an14 cd14 ct14), sl14⟩) (c14 : PySem.W.codeIn K cd14 "heavier" = true) (k14 : PySem.W.keepIn K (.ref f14) = true)
    (a15 : PySem.W.nsIn K mainGlobals "longer" = some (some (.ref f15))) (l15 : K.lookup f15 = some ⟨oc15, od15, .func (PySem.W.fnOf "longer" "longer" (defArgs s_longer) (defBody s_longer) (defScope s_longer) .none kV15 dc15 pm15 an15 cd15 ct15), sl15⟩) (c15 : PySem.W.codeIn K cd15 "longer" = true) (k15 : PySem.W.keepIn K (.ref f15) = true)
    (a16 : PySem.W.nsIn K mainGlobals "cut" = some (some (.ref f16))) (l16 : K.lookup f16 = some ⟨oc16, od16, .func (PySem.W.fnOf "cut" "cut" (defArgs s_cut) (defBody s_cut) (defScope s_cut) .none kV16 dc16 pm16 an16 cd16 ct16), sl16⟩) (c16 : PySem.W.codeIn K cd16 "cut" = true) (k16 : PySem.W.keepIn K (.ref f16) = true)
    (a17 : PySem.W.nsIn K mainGlobals "signs" = some (some (.ref f17))) (l17 : K.lookup f17 = some ⟨oc17, od17, .func (PySem.W.fnOf "signs" "signs" (defArgs s_signs) (defBody s_signs) (defScope s_signs) .none kV17 dc17 pm17 an17 cd17 ct17), sl17⟩) (c17 : PySem.W.codeIn K cd17 "signs" = true) (k17 : PySem.W.keepIn K (.ref f17) = true)
    (a18 : PySem.W.nsIn K mainGlobals "turns" = some (some (.ref f18))) (l18 : K.lookup f18 = some ⟨oc18, od18, .func (PySem.W.fnOf "turns" "turns" (defArgs s_turns) (defBody s_turns) (defScope s_turns) .none kV18 dc18 pm18 an18 cd18 ct18), sl18⟩) (c18 : PySem.W.codeIn K cd18 "turns" = true) (k18 : PySem.W.keepIn K (.ref f18) = true)
    (a19 : PySem.W.nsIn K mainGlobals "row_at" = some (some (.ref f19))) (l19 : K.lookup f19 = some ⟨oc19, od19, .func (PySem.W.fnOf "row_at" "row_at" (defArgs s_row_at) (defBody s_row_at) (defScope s_row_at) .none kV19 dc19 pm19 an19 cd19 ct19), sl19⟩) (c19 : PySem.W.codeIn K cd19 "row_at" = true) (k19 : PySem.W.keepIn K (.ref f19) = true)
    (a20 : PySem.W.nsIn K mainGlobals "worths_below" = some (some (.ref f20))) (l20 : K.lookup f20 = some ⟨oc20, od20, .func (PySem.W.fnOf "worths_below" "worths_below" (defArgs s_worths_below) (defBody s_worths_below) (defScope s_worths_below) .none kV20 dc20 pm20 an20 cd20 ct20), sl20⟩) (c20 : PySem.W.codeIn K cd20 "worths_below" = true) (k20 : PySem.W.keepIn K (.ref f20) = true)
    (a21 : PySem.W.nsIn K mainGlobals "_law_cell_at" = some (some (.ref f21))) (l21 : K.lookup f21 = some ⟨oc21, od21, .func (PySem.W.fnOf "_law_cell_at" "_law_cell_at" (defArgs s_law_cell_at) (defBody s_law_cell_at) (defScope s_law_cell_at) .none kV21 dc21 pm21 an21 cd21 ct21), sl21⟩) (c21 : PySem.W.codeIn K cd21 "_law_cell_at" = true) (k21 : PySem.W.keepIn K (.ref f21) = true)
    (a22 : PySem.W.nsIn K mainGlobals "_law_mixed" = some (some (.ref f22))) (l22 : K.lookup f22 = some ⟨oc22, od22, .func (PySem.W.fnOf "_law_mixed" "_law_mixed" (defArgs s_law_mixed) (defBody s_law_mixed) (defScope s_law_mixed) .none kV22 dc22 pm22 an22 cd22 ct22), sl22⟩) (c22 : PySem.W.codeIn K cd22 "_law_mixed" = true) (k22 : PySem.W.keepIn K (.ref f22) = true)
    (a23 : PySem.W.nsIn K mainGlobals "_law_signed" = some (some (.ref f23))) (l23 : K.lookup f23 = some ⟨oc23, od23, .func (PySem.W.fnOf "_law_signed" "_law_signed" (defArgs s_law_signed) (defBody s_law_signed) (defScope s_law_signed) .none kV23 dc23 pm23 an23 cd23 ct23), sl23⟩) (c23 : PySem.W.codeIn K cd23 "_law_signed" = true) (k23 : PySem.W.keepIn K (.ref f23) = true)
    (a24 : PySem.W.nsIn K mainGlobals "_law_part" = some (some (.ref f24))) (l24 : K.lookup f24 = some ⟨oc24, od24, .func (PySem.W.fnOf "_law_part" "_law_part" (defArgs s_law_part) (defBody s_law_part) (defScope s_law_part) .none kV24 dc24 pm24 an24 cd24 ct24), sl24⟩) (c24 : PySem.W.codeIn K cd24 "_law_part" = true) (k24 : PySem.W.keepIn K (.ref f24) = true)
    (a25 : PySem.W.nsIn K mainGlobals "_law_low" = some (some (.ref f25))) (l25 : K.lookup f25 = some ⟨oc25, od25, .func (PySem.W.fnOf "_law_low" "_law_low" (defArgs s_law_low) (defBody s_law_low) (defScope s_law_low) .none kV25 dc25 pm25 an25 cd25 ct25), sl25⟩) (c25 : PySem.W.codeIn K cd25 "_law_low" = true) (k25 : PySem.W.keepIn K (.ref f25) = true)
    (a26 : PySem.W.nsIn K mainGlobals "_law_cord_by" = some (some (.ref f26))) (l26 : K.lookup f26 = some ⟨oc26, od26, .func (PySem.W.fnOf "_law_cord_by" "_law_cord_by" (defArgs s_law_cord_by) (defBody s_law_cord_by) (defScope s_law_cord_by) .none kV26 dc26 pm26 an26 cd26 ct26), sl26⟩) (c26 : PySem.W.codeIn K cd26 "_law_cord_by" = true) (k26 : PySem.W.keepIn K (.ref f26) = true)
    (a27 : PySem.W.nsIn K mainGlobals "_law_counts" = some (some (.ref f27))) (l27 : K.lookup f27 = some ⟨oc27, od27, .func (PySem.W.fnOf "_law_counts" "_law_counts" (defArgs s_law_counts) (defBody s_law_counts) (defScope s_law_counts) .none kV27 dc27 pm27 an27 cd27 ct27), sl27⟩) (c27 : PySem.W.codeIn K cd27 "_law_counts" = true) (k27 : PySem.W.keepIn K (.ref f27) = true)
    (a28 : PySem.W.nsIn K mainGlobals "_law_grown" = some (some (.ref f28))) (l28 : K.lookup f28 = some ⟨oc28, od28, .func (PySem.W.fnOf "_law_grown" "_law_grown" (defArgs s_law_grown) (defBody s_law_grown) (defScope s_law_grown) .none kV28 dc28 pm28 an28 cd28 ct28), sl28⟩) (c28 : PySem.W.codeIn K cd28 "_law_grown" = true) (k28 : PySem.W.keepIn K (.ref f28) = true)
    (a29 : PySem.W.nsIn K mainGlobals "law" = some (some (.ref f29))) (l29 : K.lookup f29 = some ⟨oc29, od29, .func (PySem.W.fnOf "law" "law" (defArgs s_law) (defBody s_law) (defScope s_law) .none kV29 dc29 pm29 an29 cd29 ct29), sl29⟩) (c29 : PySem.W.codeIn K cd29 "law" = true) (k29 : PySem.W.keepIn K (.ref f29) = true)
    (om_Cord : PySem.W.nsIn K mainGlobals "Cord" = some (some (.ref o_Cord))) (pg_Cord : PySem.W.plainGet K o_Cord Str.empty = true) (hd_Cord : PySem.W.hasDictIn K o_Cord = true) (po_Cord : PySem.W.plainOver K o_Cord = true) (sa_Cord : PySem.W.findIn K (.ref o_Cord) "__setattr__" = some (some (.builtin "object.__setattr__"))) (mk_Cord : PySem.W.makesIn K o_Cord = true) (kc_Cord : PySem.W.keepIn K (.ref o_Cord) = true)
    (d1_Cord : PySem.W.findIn K (.ref o_Cord) "__class__" = some (some (.builtin "object.__class__"))) (d2_Cord : PySem.W.specialIn K (.builtin "object.__class__") "__get__" = some (some (.builtin "getset_descriptor.__get__"))) (d3_Cord : PySem.W.takesIn K (.builtin "object.__class__") = some true) (d4_Cord : PySem.W.mroIn K o_Cord (.type "object") = some true) (ks_Cord : PySem.W.kitOne K (.ref o_Cord) (.ref o_Cord) = some true)
    (nf_Cord_kept_gaps : PySem.W.findIn K (.ref o_Cord) "kept_gaps" = some none)
    (nf_Cord_kept_weights : PySem.W.findIn K (.ref o_Cord) "kept_weights" = some none)
    (z_abs : PySem.W.nsIn K mainGlobals "abs" = some none) (z_len : PySem.W.nsIn K mainGlobals "len" = some none) (z_isinstance : PySem.W.nsIn K mainGlobals "isinstance" = some none) (z_int : PySem.W.nsIn K mainGlobals "int" = some none) (z_bool : PySem.W.nsIn K mainGlobals "bool" = some none) (z_tuple : PySem.W.nsIn K mainGlobals "tuple" = some none) (z_range : PySem.W.nsIn K mainGlobals "range" = some none) (z_list : PySem.W.nsIn K mainGlobals "list" = some none) (z_max : PySem.W.nsIn K mainGlobals "max" = some none) (z_all : PySem.W.nsIn K mainGlobals "all" = some none) (z_zip : PySem.W.nsIn K mainGlobals "zip" = some none) {qt_MOST_BEADS : Tok} (q_MOST_BEADS : PySem.W.nsIn K mainGlobals "MOST_BEADS" = some (some (.int 12 qt_MOST_BEADS))) :
    ∃ fd : FuncData, (∀ (s : Shared) (v : Value), BindsTo s fd ⟨[v], []⟩ [("_law_script", v)]) ∧ ∀ base : Heap, K.In base → base.Ns mainGlobals mg → FnOk l.prog w K mg base CX0 9 fa fd ["_law_script"] (sp_law K) := by
  have e := hfa.symm.trans (PySem.W.mg_of X G a29)
  cases e
  have T : Txt mg := ⟨PySem.W.mg_none_of X G z_abs, PySem.W.mg_none_of X G z_len, PySem.W.mg_none_of X G z_isinstance, PySem.W.mg_none_of X G z_int, PySem.W.mg_none_of X G z_bool, PySem.W.mg_none_of X G z_tuple, PySem.W.mg_none_of X G z_range, PySem.W.mg_none_of X G z_list, PySem.W.mg_none_of X G z_max, PySem.W.mg_none_of X G z_all, PySem.W.mg_none_of X G z_zip, ⟨_, PySem.W.mg_of X G q_MOST_BEADS⟩⟩
  have O : OwnCord K mg o_Cord := ⟨PySem.W.mg_of X G om_Cord, ⟨pg_Cord, hd_Cord, po_Cord, sa_Cord⟩, d1_Cord, d2_Cord, d3_Cord, d4_Cord, ks_Cord, nf_Cord_kept_gaps, nf_Cord_kept_weights⟩
  have F1 := fun_mk (st := s_divisor) l1 c1 k1
  have b1 := F1.binds (ps := ["one", "other"]) fun _ _ _ _ _ _ us hl => by
    obtain ⟨u0, u1, rfl⟩ := la2 hl
    rfl
  have F2 := fun_mk (st := s_is_whole) l2 c2 k2
  have b2 := F2.binds (ps := ["thing"]) fun _ _ _ _ _ _ us hl => by
    obtain ⟨u0, rfl⟩ := la1 hl
    rfl
  have F3 := fun_mk (st := s_is_fraction) l3 c3 k3
  have b3 := F3.binds (ps := ["thing"]) fun _ _ _ _ _ _ us hl => by
    obtain ⟨u0, rfl⟩ := la1 hl
    rfl
  have F4 := fun_mk (st := s_plus) l4 c4 k4
  have b4 := F4.binds (ps := ["one", "other"]) fun _ _ _ _ _ _ us hl => by
    obtain ⟨u0, u1, rfl⟩ := la2 hl
    rfl
  have F5 := fun_mk (st := s_times) l5 c5 k5
  have b5 := F5.binds (ps := ["one", "other"]) fun _ _ _ _ _ _ us hl => by
    obtain ⟨u0, u1, rfl⟩ := la2 hl
    rfl
  have F6 := fun_mk (st := s_side) l6 c6 k6
  have b6 := F6.binds (ps := ["one"]) fun _ _ _ _ _ _ us hl => by
    obtain ⟨u0, rfl⟩ := la1 hl
    rfl
  have F7 := fun_mk (st := s_is_row_above) l7 c7 k7
  have b7 := F7.binds (ps := ["thing"]) fun _ _ _ _ _ _ us hl => by
    obtain ⟨u0, rfl⟩ := la1 hl
    rfl
  have F8 := fun_mk (st := s_Cord_init) l8 c8 k8
  have b8 := F8.binds (ps := ["self", "gaps", "weights"]) fun _ _ _ _ _ _ us hl => by
    obtain ⟨u0, u1, u2, rfl⟩ := la3 hl
    rfl
  have F9 := fun_mk (st := s_Cord_gaps) l9 c9 k9
  have b9 := F9.binds (ps := ["self"]) fun _ _ _ _ _ _ us hl => by
    obtain ⟨u0, rfl⟩ := la1 hl
    rfl
  have F10 := fun_mk (st := s_Cord_weights) l10 c10 k10
  have b10 := F10.binds (ps := ["self"]) fun _ _ _ _ _ _ us hl => by
    obtain ⟨u0, rfl⟩ := la1 hl
    rfl
  have F11 := fun_mk (st := s_Cord_beads) l11 c11 k11
  have b11 := F11.binds (ps := ["self"]) fun _ _ _ _ _ _ us hl => by
    obtain ⟨u0, rfl⟩ := la1 hl
    rfl
  have F12 := fun_mk (st := s_check_bead) l12 c12 k12
  have b12 := F12.binds (ps := ["cord", "bead"]) fun _ _ _ _ _ _ us hl => by
    obtain ⟨u0, u1, rfl⟩ := la2 hl
    rfl
  have F13 := fun_mk (st := s_with_more) l13 c13 k13
  have b13 := F13.binds (ps := ["row", "place", "more"]) fun _ _ _ _ _ _ us hl => by
    obtain ⟨u0, u1, u2, rfl⟩ := la3 hl
    rfl
  have F14 := fun_mk (st := s_heavier) l14 c14 k14
  have b14 := F14.binds (ps := ["cord", "bead", "more"]) fun _ _ _ _ _ _ us hl => by
    obtain ⟨u0, u1, u2, rfl⟩ := la3 hl
    rfl
  have F15 := fun_mk (st := s_longer) l15 c15 k15
  have b15 := F15.binds (ps := ["cord", "gap", "more"]) fun _ _ _ _ _ _ us hl => by
    obtain ⟨u0, u1, u2, rfl⟩ := la3 hl
    rfl
  have F16 := fun_mk (st := s_cut) l16 c16 k16
  have b16 := F16.binds (ps := ["cord", "bead"]) fun _ _ _ _ _ _ us hl => by
    obtain ⟨u0, u1, rfl⟩ := la2 hl
    rfl
  have F17 := fun_mk (st := s_signs) l17 c17 k17
  have b17 := F17.binds (ps := ["row"]) fun _ _ _ _ _ _ us hl => by
    obtain ⟨u0, rfl⟩ := la1 hl
    rfl
  have F18 := fun_mk (st := s_turns) l18 c18 k18
  have b18 := F18.binds (ps := ["row"]) fun _ _ _ _ _ _ us hl => by
    obtain ⟨u0, rfl⟩ := la1 hl
    rfl
  have F19 := fun_mk (st := s_row_at) l19 c19 k19
  have b19 := F19.binds (ps := ["cord", "end", "t"]) fun _ _ _ _ _ _ us hl => by
    obtain ⟨u0, u1, u2, rfl⟩ := la3 hl
    rfl
  have F20 := fun_mk (st := s_worths_below) l20 c20 k20
  have b20 := F20.binds (ps := ["cord", "end", "t"]) fun _ _ _ _ _ _ us hl => by
    obtain ⟨u0, u1, u2, rfl⟩ := la3 hl
    rfl
  have F21 := fun_mk (st := s_law_cell_at) l21 c21 k21
  have b21 := F21.binds (ps := ["_law_script", "_law_k"]) fun _ _ _ _ _ _ us hl => by
    obtain ⟨u0, u1, rfl⟩ := la2 hl
    rfl
  have F22 := fun_mk (st := s_law_mixed) l22 c22 k22
  have b22 := F22.binds (ps := ["_law_cell", "_law_k"]) fun _ _ _ _ _ _ us hl => by
    obtain ⟨u0, u1, rfl⟩ := la2 hl
    rfl
  have F23 := fun_mk (st := s_law_signed) l23 c23 k23
  have b23 := F23.binds (ps := ["_law_number"]) fun _ _ _ _ _ _ us hl => by
    obtain ⟨u0, rfl⟩ := la1 hl
    rfl
  have F24 := fun_mk (st := s_law_part) l24 c24 k24
  have b24 := F24.binds (ps := ["_law_one", "_law_other"]) fun _ _ _ _ _ _ us hl => by
    obtain ⟨u0, u1, rfl⟩ := la2 hl
    rfl
  have F25 := fun_mk (st := s_law_low) l25 c25 k25
  have b25 := F25.binds (ps := ["_law_top", "_law_bottom"]) fun _ _ _ _ _ _ us hl => by
    obtain ⟨u0, u1, rfl⟩ := la2 hl
    rfl
  have F26 := fun_mk (st := s_law_cord_by) l26 c26 k26
  have b26 := F26.binds (ps := ["_law_cell", "_law_k", "_law_most"]) fun _ _ _ _ _ _ us hl => by
    obtain ⟨u0, u1, u2, rfl⟩ := la3 hl
    rfl
  have F27 := fun_mk (st := s_law_counts) l27 c27 k27
  have b27 := F27.binds (ps := ["_law_cord", "_law_number"]) fun _ _ _ _ _ _ us hl => by
    obtain ⟨u0, u1, rfl⟩ := la2 hl
    rfl
  have F28 := fun_mk (st := s_law_grown) l28 c28 k28
  have b28 := F28.binds (ps := ["_law_cord", "_law_changed", "_law_number"]) fun _ _ _ _ _ _ us hl => by
    obtain ⟨u0, u1, u2, rfl⟩ := la3 hl
    rfl
  have F29 := fun_mk (st := s_law) l29 c29 k29
  refine ⟨PySem.W.fnOf "law" "law" (defArgs s_law) (defBody s_law) (defScope s_law) .none kV29 dc29 pm29 an29 cd29 ct29, fun s v => .of_eq rfl, fun base _ _ => ?_⟩
  have C_divisor : Cal l.prog w K mg base "divisor" 1 ["one", "other"] (sp_div) := ⟨_, _, ok_divisor F1 T, b1, k1, PySem.W.mg_of X G a1⟩
  have C_is_whole : Cal l.prog w K mg base "is_whole" 1 ["thing"] (sp_whole) := ⟨_, _, ok_is_whole F2 T, b2, k2, PySem.W.mg_of X G a2⟩
  have C_is_fraction : Cal l.prog w K mg base "is_fraction" 2 ["thing"] (sp_frac) := ⟨_, _, ok_is_fraction F3 T C_is_whole C_divisor, b3, k3, PySem.W.mg_of X G a3⟩
  have C_plus : Cal l.prog w K mg base "plus" 2 ["one", "other"] (sp_plus) := ⟨_, _, ok_plus F4 T C_divisor, b4, k4, PySem.W.mg_of X G a4⟩
  have C_times : Cal l.prog w K mg base "times" 2 ["one", "other"] (sp_bin 8000 (· * ·)) := ⟨_, _, ok_timesQ F5 T C_divisor, b5, k5, PySem.W.mg_of X G a5⟩
  have C_side : Cal l.prog w K mg base "side" 1 ["one"] (sp_side) := ⟨_, _, ok_side F6 T, b6, k6, PySem.W.mg_of X G a6⟩
  have C_is_row_above : Cal l.prog w K mg base "is_row_above" 3 ["thing"] (sp_row_above) := ⟨_, _, ok_is_row_above F7 T C_is_fraction C_side, b7, k7, PySem.W.mg_of X G a7⟩
  have C_Cord_init : CalC l.prog w K mg base "Cord" o_Cord 4 ["self", "gaps", "weights"] (sp_init0 o_Cord) := ⟨_, _, ok_Cord_init0 F8 T O C_is_row_above, b8, ⟨mk_Cord, a8, i8, kc_Cord⟩, O.m⟩
  have C_Cord_gaps : CalM l.prog w K mg base o_Cord "gaps" 1 ["self"] (sp_gaps o_Cord) := ⟨_, _, ok_Cord_gaps F9 T O, b9, ⟨a9, i9, k9⟩, O.cl⟩
  have C_Cord_weights : CalM l.prog w K mg base o_Cord "weights" 1 ["self"] (sp_weights o_Cord) := ⟨_, _, ok_Cord_weights F10 T O, b10, ⟨a10, i10, k10⟩, O.cl⟩
  have C_Cord_beads : CalM l.prog w K mg base o_Cord "beads" 1 ["self"] (sp_beads o_Cord) := ⟨_, _, ok_Cord_beads F11 T O, b11, ⟨a11, i11, k11⟩, O.cl⟩
  have C_check_bead : Cal l.prog w K mg base "check_bead" 2 ["cord", "bead"] (sp_chb o_Cord) := ⟨_, _, ok_check_bead F12 T C_Cord_beads, b12, k12, PySem.W.mg_of X G a12⟩
  have C_with_more : Cal l.prog w K mg base "with_more" 3 ["row", "place", "more"] (sp_wm) := ⟨_, _, ok_with_more F13 T C_is_fraction C_side (C_plus.imp bin_plus), b13, k13, PySem.W.mg_of X G a13⟩
  have C_heavier : Cal l.prog w K mg base "heavier" 6 ["cord", "bead", "more"] (sp_heavier o_Cord) := ⟨_, _, ok_heavier F14 T C_check_bead C_with_more C_Cord_gaps C_Cord_weights C_Cord_init, b14, k14, PySem.W.mg_of X G a14⟩
  have C_longer : Cal l.prog w K mg base "longer" 6 ["cord", "gap", "more"] (sp_longer o_Cord) := ⟨_, _, ok_longer F15 T C_with_more C_Cord_gaps C_Cord_weights C_Cord_beads C_Cord_init, b15, k15, PySem.W.mg_of X G a15⟩
  have C_cut : Cal l.prog w K mg base "cut" 6 ["cord", "bead"] (sp_cut o_Cord) := ⟨_, _, ok_cut F16 T C_check_bead C_Cord_gaps C_Cord_weights C_Cord_init, b16, k16, PySem.W.mg_of X G a16⟩
  have C_signs : Cal l.prog w K mg base "signs" 2 ["row"] (sp_signs) := ⟨_, _, ok_signs F17 T C_side, b17, k17, PySem.W.mg_of X G a17⟩
  have C_turns : Cal l.prog w K mg base "turns" 3 ["row"] (sp_turns) := ⟨_, _, ok_turns F18 T C_signs, b18, k18, PySem.W.mg_of X G a18⟩
  have C_row_at : Cal l.prog w K mg base "row_at" 5 ["cord", "end", "t"] (sp_row_at o_Cord) := ⟨_, _, ok_row_at F19 T C_times C_Cord_gaps C_Cord_weights, b19, k19, PySem.W.mg_of X G a19⟩
  have C_worths_below : Cal l.prog w K mg base "worths_below" 6 ["cord", "end", "t"] (sp_below o_Cord) := ⟨_, _, ok_worths_below F20 T C_turns C_row_at, b20, k20, PySem.W.mg_of X G a20⟩
  have C_law_cell_at : Cal l.prog w K mg base "_law_cell_at" 1 ["_law_script", "_law_k"] (sp_cell K) := ⟨_, _, ok_law_cell_at F21 T, b21, k21, PySem.W.mg_of X G a21⟩
  have C_law_mixed : Cal l.prog w K mg base "_law_mixed" 1 ["_law_cell", "_law_k"] (sp_mixed) := ⟨_, _, ok_law_mixed F22 T, b22, k22, PySem.W.mg_of X G a22⟩
  have C_law_signed : Cal l.prog w K mg base "_law_signed" 1 ["_law_number"] (sp_signed) := ⟨_, _, ok_law_signed F23 T, b23, k23, PySem.W.mg_of X G a23⟩
  have C_law_part : Cal l.prog w K mg base "_law_part" 1 ["_law_one", "_law_other"] (sp_div) := ⟨_, _, ok_law_part F24 T, b24, k24, PySem.W.mg_of X G a24⟩
  have C_law_low : Cal l.prog w K mg base "_law_low" 2 ["_law_top", "_law_bottom"] (sp_lowQ) := ⟨_, _, ok_law_lowQ F25 T C_law_part, b25, k25, PySem.W.mg_of X G a25⟩
  have C_law_cord_by : Cal l.prog w K mg base "_law_cord_by" 3 ["_law_cell", "_law_k", "_law_most"] (sp_cby) := ⟨_, _, ok_law_cord_by F26 T C_law_mixed C_law_low, b26, k26, PySem.W.mg_of X G a26⟩
  have C_law_counts : Cal l.prog w K mg base "_law_counts" 7 ["_law_cord", "_law_number"] (sp_counts o_Cord) := ⟨_, _, ok_law_counts F27 T C_worths_below C_Cord_beads, b27, k27, PySem.W.mg_of X G a27⟩
  have C_law_grown : Cal l.prog w K mg base "_law_grown" 8 ["_law_cord", "_law_changed", "_law_number"] (sp_grown o_Cord) := ⟨_, _, ok_law_grown F28 T C_law_counts, b28, k28, PySem.W.mg_of X G a28⟩
  exact ok_law F29 T C_law_cell_at C_law_mixed C_law_signed C_law_low C_law_cord_by C_law_grown C_worths_below C_longer C_heavier C_cut C_Cord_init
theorem walk {l : PySem.W.OpenLaw} {q : Program} {loose : List Str} {XP : (Str → Option Value) → Heap → Prop} {YP : World → Heap → Prop} {d : DefRec} {K : Params → PySem.W.Frag} (hn : l.most = some 63) (hdf : d.params.defaults = [])
    (hY : ∀ (w : World) (h : Heap), YP w h → (K w.params).In h)
    (F : ∀ (w : World) (mg : Str → Option Value) (fa : Addr) (h : Heap), (K w.params).In h → h.Ns mainGlobals mg → mg d.name = some (.ref fa) →
      ∃ fd : FuncData, (∀ (s : Shared) (u : Value), BindsTo s fd ⟨[u], []⟩ [("_law_script", u)]) ∧ ∀ base : Heap, (K w.params).In base → base.Ns mainGlobals mg → FnOk l.prog w (K w.params) mg base CX0 9 fa fd ["_law_script"] (sp_law (K w.params))) :
    PySem.W.WalkO q loose XP YP l.row.toRowW d [] (fun f vs => PySem.call f vs) :=
  L2.walk_of (n := 63) (k := 9) (x := "_law_script") (CX := fun _ => CX0) (sp := fun w => sp_law (K w.params)) hn (by decide) hdf ⟨rfl, by decide, by decide⟩ hY F (fun _ _ a ns hl _ hS => ⟨a, ns, rfl, hS, hl, fun _ => rfl⟩) fun _ _ _ _ _ z => z
end My
open PySem PySem.W PyProof.Rows
set_option maxRecDepth 100000 in
set_option maxHeartbeats 0 in
theorem PySem.Challenge.cw_tautcord_k74_whole_no_worth_rises_holds : PySem.Challenge.rw_tautcord_k74_whole_no_worth_rises.Holds := by
  w_on; o_law; k_head; (case hw => w_witness2)
  k_fill
  refine My.walk (l := PySem.Challenge.rw_tautcord_k74_whole_no_worth_rises) rfl rfl (fun w h Y => PySem.W.kIn_of Y) ?F
  case F =>
    intro w mg fa h KX G hmg
    refine' My.all_mk KX G hmg ?a1 ?l1 ?c1 ?k1 ?a2 ?l2 ?c2 ?k2 ?a3 ?l3 ?c3 ?k3 ?a4 ?l4 ?c4 ?k4 ?a5 ?l5 ?c5 ?k5 ?a6 ?l6 ?c6 ?k6 ?a7 ?l7 ?c7 ?k7 ?a8 ?i8 ?l8 ?c8 ?k8 ?a9 ?i9 ?l9 ?c9 ?k9 ?a10 ?i10 ?l10 ?c10 ?k10 ?a11 ?i11 ?l11 ?c11 ?k11 ?a12 ?l12 ?c12 ?k12 ?a13 ?l13 ?c13 ?k13 ?a14 ?l14 ?c14 ?k14 ?a15 ?l15 ?c15 ?k15 ?a16 ?l16 ?c16 ?k16 ?a17 ?l17 ?c17 ?k17 ?a18 ?l18 ?c18 ?k18 ?a19 ?l19 ?c19 ?k19 ?a20 ?l20 ?c20 ?k20 ?a21 ?l21 ?c21 ?k21 ?a22 ?l22 ?c22 ?k22 ?a23 ?l23 ?c23 ?k23 ?a24 ?l24 ?c24 ?k24 ?a25 ?l25 ?c25 ?k25 ?a26 ?l26 ?c26 ?k26 ?a27 ?l27 ?c27 ?k27 ?a28 ?l28 ?c28 ?k28 ?a29 ?l29 ?c29 ?k29 ?om_Cord ?pg_Cord ?hd_Cord ?po_Cord ?sa_Cord ?mk_Cord ?kc_Cord ?d1_Cord ?d2_Cord ?d3_Cord ?d4_Cord ?ks_Cord ?nf_Cord_kept_gaps ?nf_Cord_kept_weights ?z_abs ?z_len ?z_isinstance ?z_int ?z_bool ?z_tuple ?z_range ?z_list ?z_max ?z_all ?z_zip ?q_MOST_BEADS
    (case om_Cord => k_is); (case a1 => k_is); (case l1 => k_is); (case c1 => k_is)
    (case k1 => k_is); (case a2 => k_is); (case l2 => k_is); (case c2 => k_is)
    (case k2 => k_is); (case a3 => k_is); (case l3 => k_is); (case c3 => k_is)
    (case k3 => k_is); (case a4 => k_is); (case l4 => k_is); (case c4 => k_is)
    (case k4 => k_is); (case a5 => k_is); (case l5 => k_is); (case c5 => k_is)
    (case k5 => k_is); (case a6 => k_is); (case l6 => k_is); (case c6 => k_is)
    (case k6 => k_is); (case a7 => k_is); (case l7 => k_is); (case c7 => k_is)
    (case k7 => k_is); (case a8 => k_is); (case i8 => k_is); (case l8 => k_is)
    (case c8 => k_is); (case k8 => k_is); (case a9 => k_is); (case i9 => k_is)
    (case l9 => k_is); (case c9 => k_is); (case k9 => k_is); (case a10 => k_is)
    (case i10 => k_is); (case l10 => k_is); (case c10 => k_is); (case k10 => k_is)
    (case a11 => k_is); (case i11 => k_is); (case l11 => k_is); (case c11 => k_is)
    (case k11 => k_is); (case a12 => k_is); (case l12 => k_is); (case c12 => k_is)
    (case k12 => k_is); (case a13 => k_is); (case l13 => k_is); (case c13 => k_is)
    (case k13 => k_is); (case a14 => k_is); (case l14 => k_is); (case c14 => k_is)
    (case k14 => k_is); (case a15 => k_is); (case l15 => k_is); (case c15 => k_is)
    (case k15 => k_is); (case a16 => k_is); (case l16 => k_is); (case c16 => k_is)
    (case k16 => k_is); (case a17 => k_is); (case l17 => k_is); (case c17 => k_is)
    (case k17 => k_is); (case a18 => k_is); (case l18 => k_is); (case c18 => k_is)
    (case k18 => k_is); (case a19 => k_is); (case l19 => k_is); (case c19 => k_is)
    (case k19 => k_is); (case a20 => k_is); (case l20 => k_is); (case c20 => k_is)
    (case k20 => k_is); (case a21 => k_is); (case l21 => k_is); (case c21 => k_is)
    (case k21 => k_is); (case a22 => k_is); (case l22 => k_is); (case c22 => k_is)
    (case k22 => k_is); (case a23 => k_is); (case l23 => k_is); (case c23 => k_is)
    (case k23 => k_is); (case a24 => k_is); (case l24 => k_is); (case c24 => k_is)
    (case k24 => k_is); (case a25 => k_is); (case l25 => k_is); (case c25 => k_is)
    (case k25 => k_is); (case a26 => k_is); (case l26 => k_is); (case c26 => k_is)
    (case k26 => k_is); (case a27 => k_is); (case l27 => k_is); (case c27 => k_is)
    (case k27 => k_is); (case a28 => k_is); (case l28 => k_is); (case c28 => k_is)
    (case k28 => k_is); (case a29 => k_is); (case l29 => k_is); (case c29 => k_is)
    (case k29 => k_is); (case pg_Cord => k_is); (case hd_Cord => k_is); (case po_Cord => k_is)
    (case sa_Cord => k_is); (case mk_Cord => k_is); (case kc_Cord => k_is); (case d1_Cord => k_is)
    (case d2_Cord => k_is); (case d3_Cord => k_is); (case d4_Cord => k_is); (case ks_Cord => kit_is)
    (case nf_Cord_kept_gaps => k_is); (case nf_Cord_kept_weights => k_is); (case z_abs => k_is); (case z_len => k_is)
    (case z_isinstance => k_is); (case z_int => k_is); (case z_bool => k_is); (case z_tuple => k_is)
    (case z_range => k_is); (case z_list => k_is); (case z_max => k_is); (case z_all => k_is)
    (case z_zip => k_is); (case q_MOST_BEADS => k_is)
