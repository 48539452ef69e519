import PyProof.Rows.All
import Wide.All
import OpenK.AllK
import Wide.FinOn
import Lean
import PyProof.EqAt
import PyProof.EqKinds
import PyProof.TupleCall
import PySem.Challenge.RW_tautcord_k56_no_worths
set_option Elab.async false
set_option linter.all false
set_option maxRecDepth 100000
namespace L2
open PySem PySem.Spec PyProof.Rows
noncomputable abbrev Key:=Sum Int Str
noncomputable def keyIs : Key→Value→Bool
  | .inl k,v => Value.isInt k v
  | .inr x,v => Value.isStrOf x v
noncomputable def keyH (w : World) : Key→Int
  | .inl k => hashInt k
  | .inr x => hashStr w x
theorem keyIs_shape : ∀ {k : Key} {v : Value},keyIs k v = true→(∃ i t,k = Sum.inl i ∧ v = Value.int i t) ∨ (∃ x t,k = Sum.inr x ∧ v = Value.str x t)
  | .inl i,v,h => by
    obtain ⟨t,e⟩:=Value.isInt_shape (k:=i) (v:=v) h
    exact .inl ⟨i,t,rfl,e⟩
  | .inr x,v,h => by
    obtain ⟨t,e⟩:=Value.isStrOf_shape (x:=x) (v:=v) h
    exact .inr ⟨x,t,rfl,e⟩
theorem key_ll (a b : Int) : decide ((Sum.inl a : Key) = Sum.inl b) = (a == b):=by
  by_cases e : a = b
  · subst e; simp
  · have h : ¬ (Sum.inl a : Key) = Sum.inl b:=fun q => e (Sum.inl.inj q)
    rw [decide_eq_false h]
    exact (beq_eq_false_iff_ne.mpr e).symm
theorem key_rr (a b : Str) : decide ((Sum.inr a : Key) = Sum.inr b) = decide (a = b):=by
  by_cases e : a = b
  · subst e; simp
  · have h : ¬ (Sum.inr a : Key) = Sum.inr b:=fun q => e (Sum.inr.inj q)
    rw [decide_eq_false h,decide_eq_false e]
theorem key_lr (a : Int) (b : Str) : decide ((Sum.inl a : Key) = Sum.inr b) = false:=decide_eq_false (fun q => nomatch q)
theorem key_rl (a : Str) (b : Int) : decide ((Sum.inr a : Key) = Sum.inl b) = false:=decide_eq_false (fun q => nomatch q)
noncomputable def mixKind (prog : Program) (w : World) : PySem.KeyKind prog w Key where
  is:=keyIs
  hash:=keyH w
  inj:=fun v a b ha hb => by
    rcases keyIs_shape ha with ⟨i,t,rfl,rfl⟩ | ⟨x,t,rfl,rfl⟩
    · rcases keyIs_shape hb with ⟨j,u,rfl,e⟩ | ⟨y,u,rfl,e⟩
      · injection e with e1 _; rw [e1]
      · exact nomatch e
    · rcases keyIs_shape hb with ⟨j,u,rfl,e⟩ | ⟨y,u,rfl,e⟩
      · exact nomatch e
      · injection e with e1 _; rw [e1]
  byValue:=fun k v h => by
    rcases keyIs_shape h with ⟨i,t,rfl,rfl⟩ | ⟨x,t,rfl,rfl⟩ <;> rfl
  pyHash:=fun hv h => by
    rcases keyIs_shape hv with ⟨i,t,rfl,rfl⟩ | ⟨x,t,rfl,rfl⟩
    · exact wpAny_pyHash_int h
    · exact wpAny_pyHash_str h
  eqBool:=fun hu hv h => by
    rcases keyIs_shape hu with ⟨i,t,rfl,rfl⟩ | ⟨x,t,rfl,rfl⟩
    · rcases keyIs_shape hv with ⟨j,u,rfl,rfl⟩ | ⟨y,u,rfl,rfl⟩
      · rw [key_ll] at h; exact wpAny_eqBool_int h
      · rw [key_lr] at h; exact SeqAt.EqAt.int_str i t y u _ _ _ _ h
    · rcases keyIs_shape hv with ⟨j,u,rfl,rfl⟩ | ⟨y,u,rfl,rfl⟩
      · rw [key_rl] at h; exact SeqAt.EqAt.str_int x t j u _ _ _ _ h
      · rw [key_rr] at h; exact wpAny_eqBool_str h
  «strs»:=fun k x t v h => by
    rcases keyIs_shape h with ⟨i,u,rfl,e⟩ | ⟨y,u,rfl,e⟩
    · exact nomatch e
    · injection e with e1 _
      subst e1
      cases v <;> rfl
end L2
namespace L2
open PySem PySem.Spec PyProof.Rows
inductive V where
  | non | bl (b : Bool) | int (i : Int) | str (x : Str) | byt (b : Array UInt8) | flt (b : UInt64) | ref (a : Addr) | ty (n : String)
  deriving DecidableEq
noncomputable def RelV : V→Value→Prop
  | .non,u => u = Value.none
  | .bl b,u => u = Value.bool b
  | .int i,u => ∃ t,u = Value.int i t
  | .str x,u => ∃ t,u = Value.str x t
  | .byt b,u => ∃ t,u = Value.bytes b t
  | .flt b,u => ∃ t,u = Value.float b t
  | .ref a,u => u = Value.ref a
  | .ty n,u => u = Value.type n
noncomputable abbrev Vals : List V→List Value→Prop:=Paired RelV
theorem Vals.length {xs : List V} {us : List Value} (r : Vals xs us) : xs.length = us.length:=Paired.length r
theorem Vals.get : ∀ {xs : List V} {us : List Value} {i : Nat} {x : V},Vals xs us→xs[i]? = some x→∃ u,us[i]? = some u ∧ RelV x u
  | _,_,_,_,.nil,e => by simp at e
  | _,_,0,_,.cons r _,e => by simp at e; subst e; exact ⟨_,rfl,r⟩
  | _,_,i + 1,x,.cons _ t,e => by
    obtain ⟨u,h1,h2⟩:=Vals.get (i:=i) (x:=x) t (by simpa using e)
    exact ⟨u,by simpa using h1,h2⟩
theorem Vals.set {x : V} {u : Value} (r : RelV x u) : ∀ {xs : List V} {us : List Value} (i : Nat),Vals xs us→Vals (xs.set i x) (us.set i u)
  | _,_,_,.nil => .nil
  | _,_,0,.cons _ t => .cons r t
  | _,_,i + 1,.cons q t => .cons q (Vals.set r i t)
theorem Vals.append : ∀ {xs ys : List V} {us ws : List Value},Vals xs us→Vals ys ws→Vals (xs ++ ys) (us ++ ws)
  | _,_,_,_,.nil,s => s
  | _,_,_,_,.cons r t,s => .cons r (Vals.append t s)
theorem Vals.take : ∀ {xs : List V} {us : List Value} (n : Nat),Vals xs us→Vals (xs.take n) (us.take n)
  | _,_,0,_ => .nil
  | _,_,_ + 1,.nil => .nil
  | _,_,n + 1,.cons r t => .cons r (Vals.take n t)
theorem Vals.drop : ∀ {xs : List V} {us : List Value} (n : Nat),Vals xs us→Vals (xs.drop n) (us.drop n)
  | _,_,0,r => r
  | _,_,_ + 1,.nil => .nil
  | _,_,n + 1,.cons _ t => Vals.drop n t
noncomputable def RelO : Option V→Option Value→Prop
  | some v,some u => RelV v u
  | none,none => True
  | _,_ => False
noncomputable def KV {κ : Type} : List (κ × V)→List (κ × Value)→Prop:=Paired fun (p : κ × V) (q : κ × Value) => p.1 = q.1 ∧ RelV p.2 q.2
noncomputable def kV : Key→V
  | .inl i => .int i
  | .inr x => .str x
inductive HO where
  | lst (xs : List V)
  | tup (xs : List V)
  | dK (kvs : List (Key × V)) | dT (kvs : List (List Key × V))
  | set (S : Int→Bool) (n : Nat)
  | ins (C dx : Addr) (fs : List (Str × V))
  | own (x : Addr)
  | xd (fs : List (Str × V))
  | met (f x : Addr)
  | rng (lo hi : Int)
  | frz (o : Obj) (u : HO)
  | tbl (ps : Array Value)
  | ext (φ : Heap→Prop)
noncomputable abbrev Hp:=Addr→Option HO
noncomputable def upd (H : Hp) (a : Addr) (o : HO) : Hp:=fun b => if b = a then some o else H b
theorem upd_same {H : Hp} {a : Addr} {o : HO} : upd H a o a = some o:=by unfold upd; rw [if_pos rfl]
theorem upd_ne {H : Hp} {a b : Addr} {o : HO} (h : b ≠ a) : upd H a o b = H b:=by unfold upd; rw [if_neg h]
theorem ne_of {H : Hp} {a b : Addr} {o u : HO} (h : H a = some o) (h' : H b = some u) (d : o ≠ u) : a ≠ b:=by
  intro e; subst e; rw [h] at h'; exact d (Option.some.inj h')
theorem ne_of_none {H : Hp} {a b : Addr} {o : HO} (h : H a = some o) (h' : H b = none) : a ≠ b:=by
  intro e; subst e; rw [h] at h'; cases h'
section
variable (P : Program) (w : World)
noncomputable def ObjOk (H : Hp) (h : Heap) (a : Addr) : HO→Prop
  | .lst xs => xs.length ≤ sizeLine ∧ ∃ (its : List Value) (n : Nat),Vals xs its ∧ h.get? a = some { cls:=.type "list",data:=.seq its.toArray n }
  | .tup xs => xs.length ≤ sizeLine ∧ ∃ its : List Value,Vals xs its ∧ IsTup h a its.toArray
  | .dK kvs => kvs.length ≤ sizeLine ∧ (a == sysModules) = false ∧ ∃ vs,KV kvs vs ∧ h.DictOf (mixKind P w) a vs
  | .dT kvs => kvs.length ≤ sizeLine ∧ (a == sysModules) = false ∧ ∃ xs : List (List Key × Addr × Value),
      Paired (fun (p : List Key × V) (q : List Key × Addr × Value) => p.1 = q.1 ∧ H q.2.1 = some (.tup (p.1.map kV)) ∧ RelV p.2 q.2.2) kvs xs ∧
      ∃ o es ep,h.get? a = some o ∧ o.ExactDict ∧ o.data = .dict es ep ∧ es.toList = xs.map (entryOfKey (tupleKind (mixKind P w))) ∧ (xs.map (·.1)).Nodup
  | .set S n => h.SetOf (intKind P w) a S n
  | .ins C dx fs => H dx = some (.own a) ∧ fs.length ≤ 1000 ∧ dx ≠ a ∧ h.get? a = some (PySem.W.instObj C dx) ∧
      ∃ mA,h.Ns1 dx mA ∧ (∀ f,RelO (fs.lookup f) (mA f)) ∧ PySem.Within mA (fs.map (·.1))
  | .own _ => ∃ o,h.get? a = some o
  | .xd fs => ∃ mA,h.Ns1 a mA ∧ ∀ f,RelO (fs.lookup f) (mA f)
  | .rng lo hi => ∃ t u v,h.get? a = some { cls:=.type "range",data:=.fields #[.int lo t,.int hi u,.int 1 v] }
  | .frz o u => h.get? a = some o ∧ ObjOk H h a u
  | .tbl ps => h.get? a = some { cls:=.none,data:=.fields ps }
  | .met f x => h.get? a = some (PySem.W.methodObj (.ref f) (.ref x))
  | .ext φ => φ h ∧ (∃ o,h.get? a = some o) ∧ ∀ h1 h2 : Heap,φ h1→(∀ o,h1.get? a = some o→h2.get? a = some o)→φ h2
noncomputable def HOk (H : Hp) (h : Heap) : Prop:=∀ a o,H a = some o→ObjOk P w H h a o
end
section
variable {P : Program} {w : World} {H H' : Hp} {h h' : Heap} {a : Addr} {o : HO}
theorem ObjOk.lt (x : ObjOk P w H h a o) : a < h.objs.size:=by
  cases o with
  | lst xs => obtain ⟨_,_,_,_,e⟩:=x; exact Heap.lt_size e
  | tup xs => obtain ⟨_,_,_,p⟩:=x; exact p.lt
  | dK kvs => obtain ⟨_,_,_,_,o,_,_,e,_⟩:=x; exact Heap.lt_size e
  | dT kvs => obtain ⟨_,_,_,_,o,_,_,e,_⟩:=x; exact Heap.lt_size e
  | set S n => obtain ⟨o,_,_,_,e,_⟩:=x; exact Heap.lt_size e
  | ins C dx fs => obtain ⟨_,_,_,e,_⟩:=x; exact Heap.lt_size e
  | own y => obtain ⟨_,e⟩:=x; exact Heap.lt_size e
  | xd fs => obtain ⟨_,⟨_,_,_,e,_⟩,_⟩:=x; exact Heap.lt_size e
  | rng lo hi => obtain ⟨_,_,_,e⟩:=x; exact Heap.lt_size e
  | frz ob u => obtain ⟨e,_⟩:=x; exact Heap.lt_size e
  | tbl ps => exact Heap.lt_size (show h.get? a = some _ from x)
  | met f y => exact Heap.lt_size (show h.get? a = some _ from x)
  | ext φ => obtain ⟨_,⟨_,e⟩,_⟩:=x; exact Heap.lt_size e
theorem Paired.mapP {α β : Type} {F G : α→β→Prop} : ∀ {l₁ : List α} {l₂ : List β},Paired F l₁ l₂→(∀ a b,F a b→G a b)→Paired G l₁ l₂
  | _,_,.nil,_ => .nil
  | _,_,.cons r t,f => .cons (f _ _ r) (Paired.mapP t f)
theorem Paired.imp' {α β : Type} {F G : α→β→Prop} (f : ∀ a b,F a b→G a b) {l₁ : List α} {l₂ : List β} (r : Paired F l₁ l₂) : Paired G l₁ l₂:=Paired.mapP r f
theorem ObjOk.stay (x : ObjOk P w H h a o) (k : ∀ b u,(b = a ∨ H b = some (.own a))→h.get? b = some u→h'.get? b = some u)
    (ho : ∀ b,H b = some (.own a)→H' b = some (.own a)) (ht : ∀ b xs,H b = some (.tup xs)→H' b = some (.tup xs)) : ObjOk P w H' h' a o:=by
  induction o with
  | lst xs => obtain ⟨z,its,n,r,e⟩:=x; exact ⟨z,its,n,r,k _ _ (.inl rfl) e⟩
  | tup xs => obtain ⟨z,its,r,ob,e,c⟩:=x; exact ⟨z,its,r,ob,k _ _ (.inl rfl) e,c⟩
  | dK kvs => obtain ⟨z,y,vs,r,ob,es,ep,e,c⟩:=x; exact ⟨z,y,vs,r,ob,es,ep,k _ _ (.inl rfl) e,c⟩
  | dT kvs =>
    obtain ⟨z,y,xs,r,ob,es,ep,e,c⟩:=x
    exact ⟨z,y,xs,Paired.mapP r fun p q z => ⟨z.1,ht _ _ z.2.1,z.2.2⟩,ob,es,ep,k _ _ (.inl rfl) e,c⟩
  | set S n => obtain ⟨ob,es,ep,t,e,c⟩:=x; exact ⟨ob,es,ep,t,k _ _ (.inl rfl) e,c⟩
  | ins C dx fs =>
    obtain ⟨d,z,ne,e,mA,⟨od,es,ep,e2,c⟩,r⟩:=x
    exact ⟨ho _ d,z,ne,k _ _ (.inl rfl) e,mA,⟨od,es,ep,k _ _ (.inr d) e2,c⟩,r⟩
  | own y => obtain ⟨ob,e⟩:=x; exact ⟨ob,k _ _ (.inl rfl) e⟩
  | xd fs => obtain ⟨mA,⟨od,es,ep,e,c⟩,r⟩:=x; exact ⟨mA,⟨od,es,ep,k _ _ (.inl rfl) e,c⟩,r⟩
  | rng lo hi => obtain ⟨t,u,v,e⟩:=x; exact ⟨t,u,v,k _ _ (.inl rfl) e⟩
  | frz ob u ih => obtain ⟨e,q⟩:=x; exact ⟨k _ _ (.inl rfl) e,ih q⟩
  | tbl ps =>
    have e : h.get? a = some { cls:=.none,data:=.fields ps }:=x
    show h'.get? a = some { cls:=.none,data:=.fields ps }
    exact k a _ (.inl rfl) e
  | met f y =>
    have e : h.get? a = some (PySem.W.methodObj (.ref f) (.ref y)):=x
    show h'.get? a = some (PySem.W.methodObj (.ref f) (.ref y))
    exact k a _ (.inl rfl) e
  | ext φ => obtain ⟨p,⟨o,e⟩,st⟩:=x; exact ⟨st _ _ p fun o q => k _ _ (.inl rfl) q,⟨o,k _ _ (.inl rfl) e⟩,st⟩
theorem HOk.lt (x : HOk P w H h) (e : H a = some o) : a < h.objs.size:=(x a o e).lt
theorem HOk.fresh (x : HOk P w H h) (e : h.objs.size ≤ a) : H a = none:=by
  cases q : H a with
  | none => rfl
  | some u => exact absurd (Nat.lt_of_lt_of_le (x.lt q) e) (Nat.lt_irrefl _)
theorem HOk.kept (x : HOk P w H h) (k : ∀ b u,h.get? b = some u→h'.get? b = some u) : HOk P w H h':=fun a o e =>
  (x a o e).stay (fun b u _ q => k b u q) (fun _ q => q) fun _ _ q => q
theorem HOk.laid (x : HOk P w H h) (k : ∀ b u,h.get? b = some u→h'.get? b = some u) (hp : h.objs.size ≤ a) (new : ObjOk P w (upd H a o) h' a o) : HOk P w (upd H a o) h':=fun b u e => by
  have hn:=x.fresh hp
  by_cases hb : b = a
  · subst hb; rw [upd_same] at e; cases e; exact new
  · rw [upd_ne hb] at e
    exact (x b u e).stay (fun c v _ q => k c v q) (fun c q => by rw [upd_ne (ne_of_none q hn)]; exact q) fun c xs q => by rw [upd_ne (ne_of_none q hn)]; exact q
end
noncomputable def Rd (H : Hp) (a : Addr) (u : HO) : Prop:=H a = some u ∨ ∃ o,H a = some (.frz o u)
theorem Rd.ok {P : Program} {w : World} {H : Hp} {h : Heap} {a : Addr} {u : HO} (r : Rd H a u) (x : HOk P w H h) : ObjOk P w H h a u:=by
  rcases r with r | ⟨o,r⟩
  · exact x a u r
  · obtain ⟨_,q⟩:=x a _ r
    exact q
noncomputable def Mut : Option HO→Prop
  | some (.lst _) => True
  | some (.dK _) => True
  | some (.dT _) => True
  | some (.set _ _) => True
  | some (.ins _ _ _) => True
  | some (.ext _) => True
  | _ => False
section
variable {P : Program} {w : World} {H : Hp} {h h' : Heap} {x e : Addr} {o' : HO}
theorem HOk.write (ok : HOk P w H h) (mu : Mut (H x)) (he : e = x ∨ H e = some (.own x)) (k : ∀ b u,b ≠ e→h.get? b = some u→h'.get? b = some u) (heo : ∃ u,h'.get? e = some u)
    (new : ObjOk P w (upd H x o') h' x o') : HOk P w (upd H x o') h':=fun b u q => by
  have nown : ∀ c y,H c = some (.own y)→c ≠ x:=fun c y r z => by subst z; rw [r] at mu; exact mu
  have ntup : ∀ c xs,H c = some (.tup xs)→c ≠ x:=fun c xs r z => by subst z; rw [r] at mu; exact mu
  by_cases hb : b = x
  · subst hb; rw [upd_same] at q; cases q; exact new
  · rw [upd_ne hb] at q
    by_cases hbe : b = e
    · have q' : H b = some (.own x):=by
        rcases he with z | z
        · exact absurd (hbe.trans z) hb
        · rw [hbe]; exact z
      rw [q] at q'; cases q'
      obtain ⟨v,hv⟩:=heo
      exact ⟨v,by rw [hbe]; exact hv⟩
    · refine (ok b u q).stay (fun c v hc r => k c v ?_ r) (fun c r => by rw [upd_ne (nown c b r)]; exact r) fun c xs r => by rw [upd_ne (ntup c xs r)]; exact r
      rcases hc with rfl | hc
      · exact hbe
      · rintro rfl
        rcases he with z | z
        · exact nown c b hc z
        · rw [hc] at z; cases z; exact hb rfl
end
structure Un (fs ex : List Addr) (H H' : Hp) (h h' : Heap) : Prop where
  keep : ∀ b o,h.get? b = some o→H b = none→b ∉ fs→b ∉ ex→h'.get? b = some o
  slot : ∀ b o,h.get? b = some o→H b = none→b ∈ fs→b ∉ ex→∃ sl,h'.get? b = some { o with slots:=sl }
  free : ∀ b o,h.get? b = some o→H b = none→b ∉ ex→H' b = none
  there : ∀ b o,h.get? b = some o→b ∉ ex→∃ o',h'.get? b = some o'
  tups : ∀ b xs,H b = some (.tup xs)→H' b = some (.tup xs)
  frzs : ∀ b o u,H b = some (.frz o u)→H' b = some (.frz o u)
  tbls : ∀ b ps,H b = some (.tbl ps)→∃ more,H' b = some (.tbl (ps ++ more))
section
variable {fs fs' ex ex' : List Addr} {H H1 H2 : Hp} {h h1 h2 h' : Heap} {a x e : Addr} {o : HO}
theorem Un.any (u : Un fs ex H H1 h h1) {b : Addr} {ob : Obj} (q : h.get? b = some ob) (n : H b = none) (hx : b ∉ ex) : ∃ sl,h1.get? b = some { ob with slots:=sl }:=by
  by_cases hb : b ∈ fs
  · exact u.slot b ob q n hb hx
  · exact ⟨ob.slots,u.keep b ob q n hb hx⟩
theorem Un.kept (k : ∀ b u,h.get? b = some u→h'.get? b = some u) : Un fs ex H H h h' :=
  ⟨fun b ob q _ _ _ => k b ob q,fun b ob q _ _ _ => ⟨ob.slots,k b ob q⟩,fun _ _ _ n _ => n,fun b ob q _ => ⟨ob,k b ob q⟩,fun _ _ q => q,fun _ _ _ q => q,fun _ ps q => ⟨#[],by rw [q]; simp⟩⟩
theorem Un.refl : Un fs ex H H h h:=Un.kept fun _ _ q => q
theorem Un.laid (k : ∀ b u,h.get? b = some u→h'.get? b = some u) (hp : h.objs.size ≤ a) (hn : H a = none) : Un fs ex H (upd H a o) h h' where
  keep:=fun b u q _ _ _ => k b u q
  slot:=fun b u q _ _ _ => ⟨u.slots,k b u q⟩
  free:=fun b u q n _ => by rw [upd_ne (Nat.ne_of_lt (Nat.lt_of_lt_of_le (Heap.lt_size q) hp))]; exact n
  there:=fun b u q _ => ⟨u,k b u q⟩
  tups:=fun b xs q => by rw [upd_ne (ne_of_none q hn)]; exact q
  frzs:=fun b u xs q => by rw [upd_ne (ne_of_none q hn)]; exact q
  tbls:=fun b ps q => ⟨#[],by rw [upd_ne (ne_of_none q hn),q]; simp⟩
theorem Un.write (mu : Mut (H x)) (he : e = x ∨ H e = some (.own x)) (k : ∀ b u,b ≠ e→h.get? b = some u→h'.get? b = some u) (heo : ∃ u,h'.get? e = some u) : Un fs ex H (upd H x o) h h':=by
  have hx : ∀ b,H b = none→b ≠ x:=fun b n z => by subst z; rw [n] at mu; exact mu
  have hb : ∀ b,H b = none→b ≠ e:=fun b n z => by
    subst z
    rcases he with r | r
    · exact hx b n r
    · rw [n] at r; cases r
  have hm : ∀ b u,H b = some u→¬ Mut (some u)→b ≠ x:=fun b u q nm z => by subst z; rw [q] at mu; exact nm mu
  refine ⟨fun b u q n _ _ => k b u (hb b n) q,fun b u q n _ _ => ⟨u.slots,k b u (hb b n) q⟩,fun b u q n _ => by rw [upd_ne (hx b n)]; exact n,fun b u q _ => ?_,
    fun b xs q => by rw [upd_ne (hm b _ q fun z => z)]; exact q,fun b u xs q => by rw [upd_ne (hm b _ q fun z => z)]; exact q,fun b ps q => ⟨#[],by rw [upd_ne (hm b _ q fun z => z),q]; simp⟩⟩
  by_cases hbe : b = e
  · subst hbe; exact heo
  · exact ⟨u,k b u hbe q⟩
theorem Un.mono (u : Un fs ex H H1 h h1) (hs : ∀ b ∈ fs,b ∈ fs') (hx : ∀ b ∈ ex,b ∈ ex') : Un fs' ex' H H1 h h1 :=
  ⟨fun b ob q n hb he => u.keep b ob q n (fun z => hb (hs b z)) fun z => he (hx b z),fun _ _ q n _ he => u.any q n fun z => he (hx _ z),fun b ob q n he => u.free b ob q n fun z => he (hx b z),fun b ob q he => u.there b ob q fun z => he (hx b z),u.tups,u.frzs,u.tbls⟩
end
noncomputable def trk (h : Heap) (H : Hp) : List Addr:=(List.range h.objs.size).filter fun a => (H a).isSome
noncomputable def hidT (h : Heap) (H : Hp) : Heap:=PySem.W.hideAll h (trk h H)
theorem hidT_size (h : Heap) (H : Hp) : (hidT h H).objs.size = h.objs.size:=PySem.W.hideAll_size _ _
theorem hidT_get {h : Heap} {H : Hp} {b : Addr} {o : Obj} (e : h.get? b = some o) (n : H b = none) : (hidT h H).get? b = some o :=
  PySem.W.hideAll_get _ e fun hm => by
    have q : (H b).isSome = true:=(List.mem_filter.mp hm).2
    rw [n] at q; simp at q
theorem of_hidT {h : Heap} {H : Hp} {b : Addr} {o : Obj} (e : (hidT h H).get? b = some o) : h.get? b = some o ∧ H b = none:=by
  have e' : h.get? b = some o:=PySem.W.of_hideAll (trk h H) e
  refine ⟨e',?_⟩
  cases q : H b with
  | none => rfl
  | some x =>
    have hm : b ∈ trk h H:=List.mem_filter.mpr ⟨List.mem_range.mpr (Heap.lt_size e'),by simp [q]⟩
    have z : (hidT h H).get? b = none:=PySem.W.hideAll_none (trk h H) hm
    rw [z] at e; cases e
noncomputable def allNews (g h : Heap) (L : Addr) : List (Addr × Obj):=(List.range h.objs.size).filterMap fun a => if a = L ∨ (g.get? a).isSome = true then none else (h.get? a).map fun o => (a,o)
noncomputable def rest (g h : Heap) (L d : Addr) : List (Addr × Obj):=(allNews g h L).filter fun p => decide (p.1 ≠ d)
end L2
namespace L2
open PySem PySem.Spec PyProof.Rows
structure Mod (K : PySem.W.Frag) (mg : Str→Option Value) (base : Heap) : Prop where
  kin : K.In base
  glob : base.Ns mainGlobals mg
  blt : ∃ mb,base.Ns builtinsNs mb ∧ ∀ x : Str,x ≠ "__name__"→mb x = bootBuiltins x
  nolimit : base.NoLimit
structure Cx where
  prog : Program
  w : World
  K : PySem.W.Frag
  mg : Str→Option Value
  base : Heap
  A : Around
  N : List Str
  s₀ : Shared
  H₀ : Hp
  env : Env
  outer : List Env
  stack : List Env
  ex : List Addr
  fn : Str→Bool
  calm : Bool
  pn : List (Addr × Obj)
  xe : Value→Shared→Prop
noncomputable def frs (l : List Env) : List Addr:=l.filterMap (·.frame)
noncomputable abbrev Cx.fs (X : Cx) : List Addr:=frs X.outer
noncomputable def Vis (sc : Scope) (x : Str) : Prop:=sc.names.lookup x = some .local ∨ sc.names.lookup x = some .cell ∨ sc.names.lookup x = some .free
noncomputable def Loc (sc : Scope) (x : Str) : Prop:=sc.names.lookup x = some .local ∨ sc.names.lookup x = some .cell
noncomputable def Look (env : Env) (h : Heap) (m : Str→Option Value) (x : Str) (u : Value) : Prop :=
  (env.kindOf x = some .local ∧ m x = some u) ∨ ((env.kindOf x = some .cell ∨ env.kindOf x = some .free) ∧ ∃ c,env.cells.lookup x = some c ∧ h.IsCell c (some u))
structure Cx.Ok (X : Cx) : Prop where
  mod : Mod X.K X.mg X.base
  kind : X.env.scope.kind = .function
  glob : X.env.globals = mainGlobals
  blt : X.env.builtins = builtinsNs
  above : X.s₀.heap.objs.size ≤ X.env.locals
  inj : ∀ x y c,X.env.cells.lookup x = some c→X.env.cells.lookup y = some c→x = y
  has : ∀ x,(X.env.kindOf x = some .cell ∨ X.env.kindOf x = some .free)→∃ c,X.env.cells.lookup x = some c
  cab : ∀ x c,X.fn x = true→X.env.cells.lookup x = some c→X.s₀.heap.objs.size ≤ c
  hd : X.calm = true→X.A.handled = none
  frames : X.A.frames = some X.stack
  stk : X.stack = X.outer ∨ (X.stack = X.env :: X.outer ∧ X.env.frame = some X.env.locals)
  exf : ∀ b ∈ X.ex,b ≠ X.env.locals ∧ ∀ x c,X.env.cells.lookup x = some c→c ≠ b
  bs : ∀ b o,X.base.get? b = some o→X.s₀.heap.get? b = some o ∧ X.H₀ b = none
  bsz : X.base.objs.size ≤ X.s₀.heap.objs.size
  noex : ∀ b o,X.base.get? b = some o→b ∉ X.ex
  exfs : ∀ b ∈ X.ex,b ∉ X.fs
  funs : X.s₀.heap.FunFrames X.base X.outer
  frf : ∀ b ∈ X.fs,X.H₀ b = none
structure Inv (X : Cx) (pins : List (Addr × Obj)) (σ : List (Option V)) (H : Hp) (s : Shared) : Prop where
  ok : X.Ok
  os : s.os = X.s₀.os
  bare : AllBare s.gens
  base : Un X.fs X.ex X.H₀ H X.s₀.heap s.heap
  loc : ∃ m,s.heap.Ns X.env.locals m ∧ ∀ (i : Nat) (x : Str) (v : V),X.N[i]? = some x→σ[i]? = some (some v)→Vis X.env.scope x→∃ u,RelV v u ∧ Look X.env s.heap m x u
  cell : ∀ x c,X.env.cells.lookup x = some c→∃ v,s.heap.IsCell c v
  free : H X.env.locals = none
  freeC : ∀ x c,X.env.cells.lookup x = some c→H c = none
  pin : ∀ p ∈ X.pn ++ pins,s.heap.get? p.1 = some p.2 ∧ H p.1 = none ∧ p.1 ≠ X.env.locals ∧ p.1 ∉ X.fs ∧ ∀ v,p.2.data ≠ .cell v
  hok : HOk X.prog X.w H s.heap
  len : σ.length = X.N.length
section
variable {X : Cx} {pins : List (Addr × Obj)} {σ : List (Option V)} {H H' : Hp} {s : Shared} {h' : Heap}
theorem Cx.Ok.nofr (ok : X.Ok) {b : Addr} {o : Obj} (e : X.base.get? b = some o) : b ∉ X.fs:=fun hb => by
  have:=(ok.funs.mem hb).1
  rw [e] at this; cases this
theorem Inv.bs (I : Inv X pins σ H s) : ∀ b o,X.base.get? b = some o→s.heap.get? b = some o ∧ H b = none:=fun b o e =>
  ⟨I.base.keep b o (I.ok.bs b o e).1 (I.ok.bs b o e).2 (I.ok.nofr e) (I.ok.noex b o e),I.base.free b o (I.ok.bs b o e).1 (I.ok.bs b o e).2 (I.ok.noex b o e)⟩
theorem Inv.bk (I : Inv X pins σ H s) : ∀ b o,X.base.get? b = some o→s.heap.get? b = some o:=fun b o e => (I.bs b o e).1
theorem Inv.mod (I : Inv X pins σ H s) : Mod X.K X.mg X.base:=I.ok.mod
theorem Inv.kIn (I : Inv X pins σ H s) : X.K.In s.heap:=I.ok.mod.kin.keeps I.bk
theorem Inv.lt (I : Inv X pins σ H s) : X.env.locals < s.heap.objs.size:=let ⟨_,hn,_⟩:=I.loc; hn.lt
theorem Inv.sz (I : Inv X pins σ H s) : X.s₀.heap.objs.size ≤ s.heap.objs.size:=Nat.le_trans I.ok.above (Nat.le_of_lt I.lt)
theorem Inv.nofs (I : Inv X pins σ H s) {a : Addr} (h : s.heap.objs.size ≤ a) : a ∉ X.fs:=fun hb => by
  obtain ⟨_,o,ho,_⟩:=I.ok.funs.mem hb
  exact absurd (Nat.lt_of_lt_of_le (Heap.lt_size ho) (Nat.le_trans I.sz h)) (Nat.lt_irrefl _)
theorem Inv.cne (I : Inv X pins σ H s) : ∀ x c,X.env.cells.lookup x = some c→c ≠ X.env.locals:=fun x c e z => by
  obtain ⟨v,o,ho,hd⟩:=I.cell x c e
  obtain ⟨m,⟨o',es,ep,ho',hd',_⟩,_⟩:=I.loc
  rw [z,ho'] at ho; cases ho; rw [hd'] at hd; cases hd
theorem Inv.funs (I : Inv X pins σ H s) : s.heap.FunFrames X.base X.outer:=by
  have all : ∀ (l : List Env),(∀ b ∈ frs l,b ∈ X.fs)→X.s₀.heap.FunFrames X.base l→s.heap.FunFrames X.base l:=by
    intro l
    induction l with
    | nil => intro _ _; trivial
    | cons env r ih =>
      intro hs hl
      obtain ⟨hk,⟨L,o,hf,hn,ho,hd⟩,hr⟩:=hl
      have hL : L ∈ X.fs:=hs L (by unfold frs; rw [List.filterMap_cons,hf]; exact List.mem_cons_self)
      obtain ⟨sl,e⟩:=I.base.slot L o ho (I.ok.frf L hL) hL fun z => I.ok.exfs L z hL
      exact ⟨hk,⟨L,_,hf,hn,e,hd⟩,ih (fun b hb => hs b (by unfold frs; rw [List.filterMap_cons,hf]; exact List.mem_cons_of_mem _ hb)) hr⟩
  exact all X.outer (fun _ hb => hb) I.ok.funs
theorem Inv.stack (I : Inv X pins σ H s) : s.heap.FunFrames X.base X.stack:=by
  rcases I.ok.stk with e | ⟨e,hf⟩
  · rw [e]; exact I.funs
  · rw [e]
    obtain ⟨m,hn,_⟩:=I.loc
    refine .cons (by rw [I.ok.kind]; decide) hf hn ?_ I.funs
    exact Heap.get?_none_of_le (Nat.le_trans I.ok.bsz I.ok.above)
theorem Inv.stkSub (I : Inv X pins σ H s) : ∀ b ∈ frs X.stack,b ∈ X.env.locals :: X.fs:=fun b hb => by
  rcases I.ok.stk with e | ⟨e,hf⟩
  · rw [e] at hb; exact List.mem_cons_of_mem _ hb
  · rw [e] at hb
    unfold frs at hb
    rw [List.filterMap_cons,hf] at hb
    exact hb
theorem Inv.stkFree (I : Inv X pins σ H s) : ∀ b ∈ frs X.stack,H b = none:=fun b hb => by
  rcases List.mem_cons.mp (I.stkSub b hb) with e | hb
  · rw [e]; exact I.free
  · obtain ⟨_,o,ho,_⟩:=I.ok.funs.mem hb
    exact I.base.free b o ho (I.ok.frf b hb) fun z => I.ok.exfs b z hb
theorem Inv.step {g' : Array GenState} {t' : Nat} {d' : Drawn} {ch : List Addr} (I : Inv X pins σ H s)
    (hch : ∀ b ∈ ch,(b ∈ X.ex ∨ X.s₀.heap.objs.size ≤ b) ∧ b ≠ X.env.locals ∧ (∀ x c,X.env.cells.lookup x = some c→c ≠ b) ∧ ∀ p ∈ X.pn ++ pins,p.1 ≠ b)
    (keep : ∀ b o,b ≠ X.env.locals→b ∉ X.fs→b ∉ ch→s.heap.get? b = some o→H b = none→h'.get? b = some o)
    (slot : ∀ b o,b ≠ X.env.locals→b ∈ X.fs→b ∉ ch→s.heap.get? b = some o→H b = none→∃ sl,h'.get? b = some { o with slots:=sl }) (free : ∀ b o,b ∉ ch→s.heap.get? b = some o→H b = none→H' b = none)
    (there : ∀ b o,b ∉ ch→s.heap.get? b = some o→∃ o',h'.get? b = some o')
    (tups : ∀ b xs,H b = some (.tup xs)→H' b = some (.tup xs)) (frzs : ∀ b o u,H b = some (.frz o u)→H' b = some (.frz o u)) (tbls : ∀ b ps,H b = some (.tbl ps)→∃ more,H' b = some (.tbl (ps ++ more)))
    (ns : ∀ m,s.heap.Ns X.env.locals m→h'.Ns X.env.locals m) (hok : HOk X.prog X.w H' h') (hg : AllBare g') :
    Inv X pins σ H' { s with heap:=h',gens:=g',drawn:=d',toks:=t' }:=by
  have neL : ∀ b o,X.s₀.heap.get? b = some o→b ≠ X.env.locals:=fun b o e => Nat.ne_of_lt (Nat.lt_of_lt_of_le (Heap.lt_size e) I.ok.above)
  have neC : ∀ b o,X.s₀.heap.get? b = some o→b ∉ X.ex→b ∉ ch:=fun b o e hx hb => by
    rcases (hch b hb).1 with z | z
    · exact hx z
    · exact absurd (Nat.lt_of_lt_of_le (Heap.lt_size e) z) (Nat.lt_irrefl _)
  have cellK : ∀ x c,X.env.cells.lookup x = some c→∀ v,s.heap.IsCell c v→h'.IsCell c v:=fun x c e v ⟨o,ho,hd⟩ => by
    have nch : c ∉ ch:=fun z => (hch c z).2.2.1 x c e rfl
    by_cases hc : c ∈ X.fs
    · obtain ⟨sl,q⟩:=slot c o (I.cne x c e) hc nch ho (I.freeC x c e)
      exact ⟨_,q,hd⟩
    · exact ⟨o,keep c o (I.cne x c e) hc nch ho (I.freeC x c e),hd⟩
  refine ⟨I.ok,I.os,hg,⟨fun b o e n hb hx => ?_,fun b o e n hb hx => ?_,fun b o e n hx => ?_,fun b o e hx => ?_,fun b xs e => tups b xs (I.base.tups b xs e),fun b o xs e => frzs b o xs (I.base.frzs b o xs e),fun b ps e => ?_⟩,?_,fun x c e => ?_,?_,fun x c e => ?_,fun p hp => ?_,hok,I.len⟩
  · exact keep b o (neL b o e) hb (neC b o e hx) (I.base.keep b o e n hb hx) (I.base.free b o e n hx)
  · obtain ⟨sl,e1⟩:=I.base.slot b o e n hb hx
    obtain ⟨sl',e2⟩:=slot b _ (neL b o e) hb (neC b o e hx) e1 (I.base.free b o e n hx)
    exact ⟨sl',e2⟩
  · obtain ⟨o',e1⟩:=I.base.there b o e hx
    exact free b o' (neC b o e hx) e1 (I.base.free b o e n hx)
  · obtain ⟨o',e1⟩:=I.base.there b o e hx
    exact there b o' (neC b o e hx) e1
  · obtain ⟨m1,e1⟩:=I.base.tbls b ps e
    obtain ⟨m2,e2⟩:=tbls b _ e1
    exact ⟨m1 ++ m2,by rw [e2,Array.append_assoc]⟩
  · obtain ⟨m,hn,hl⟩:=I.loc
    refine ⟨m,ns m hn,fun i x v e1 e2 e3 => ?_⟩
    obtain ⟨u,r,l⟩:=hl i x v e1 e2 e3
    refine ⟨u,r,?_⟩
    rcases l with l | ⟨k,c,e,z⟩
    · exact .inl l
    · exact .inr ⟨k,c,e,cellK x c e _ z⟩
  · obtain ⟨v,z⟩:=I.cell x c e
    exact ⟨v,cellK x c e v z⟩
  · obtain ⟨m,⟨o,_,_,ho,_⟩,_⟩:=I.loc
    exact free _ o (fun z => (hch _ z).2.1 rfl) ho I.free
  · obtain ⟨v,o,ho,hd⟩:=I.cell x c e
    exact free c o (fun z => (hch c z).2.2.1 x c e rfl) ho (I.freeC x c e)
  · obtain ⟨e,n,ne,nf,d⟩:=I.pin p hp
    have nch : p.1 ∉ ch:=fun z => (hch p.1 z).2.2.2 p hp rfl
    exact ⟨keep p.1 p.2 ne nf nch e n,free p.1 p.2 nch e n,ne,nf,d⟩
theorem Inv.un {t' : Nat} (I : Inv X pins σ H s) (u : Un X.fs [] H H' s.heap h') (hok : HOk X.prog X.w H' h') : Inv X pins σ H' { s with heap:=h',toks:=t' }:=by
  obtain ⟨m,⟨o,es,ep,ho,r⟩,_⟩:=id I.loc
  obtain ⟨sl,hL⟩:=u.any ho I.free (by simp)
  exact I.step (g':=s.gens) (d':=s.drawn) (ch:=[]) (fun _ z => nomatch z) (fun b o _ hb _ e n => u.keep b o e n hb (by simp)) (fun b o _ hb _ e n => u.slot b o e n hb (by simp)) (fun b o _ e n => u.free b o e n (by simp)) (fun b o _ e => u.there b o e (by simp)) u.tups u.frzs u.tbls (fun m' hm => by
    obtain ⟨o',es',ep',ho',r'⟩:=hm
    rw [ho] at ho'; cases ho'
    exact ⟨_,es',ep',hL,r'⟩) hok I.bare
theorem Inv.call {g' : Array GenState} {t' : Nat} {d' : Drawn} {ch : List Addr} (I : Inv X pins σ H s) (u : Un (frs X.stack) ch H H' s.heap h') (hok : HOk X.prog X.w H' h') (hg : AllBare g')
    (hch : ∀ b ∈ ch,(b ∈ X.ex ∨ X.s₀.heap.objs.size ≤ b) ∧ b ≠ X.env.locals ∧ (∀ x c,X.env.cells.lookup x = some c→c ≠ b) ∧ ∀ p ∈ X.pn ++ pins,p.1 ≠ b) :
    Inv X pins σ H' { s with heap:=h',gens:=g',drawn:=d',toks:=t' }:=by
  obtain ⟨m,⟨o,es,ep,ho,r⟩,_⟩:=id I.loc
  obtain ⟨sl,hL⟩:=u.any ho I.free fun z => (hch _ z).2.1 rfl
  exact I.step (ch:=ch) hch (fun b o hL hb hc e n => u.keep b o e n (fun z => (List.mem_cons.mp (I.stkSub b z)).elim hL hb) hc) (fun b o _ _ hc e n => u.any e n hc) (fun b o hc e n => u.free b o e n hc) (fun b o hc e => u.there b o e hc) u.tups u.frzs u.tbls (fun m' hm => by
    obtain ⟨o',es',ep',ho',r'⟩:=hm
    rw [ho] at ho'; cases ho'
    exact ⟨_,es',ep',hL,r'⟩) hok hg
theorem Inv.turned {t' : Nat} {it : Addr} (I : Inv X pins σ H s) (k : ∀ b o,b ≠ it→s.heap.get? b = some o→h'.get? b = some o) (hn : H it = none) (hL : it ≠ X.env.locals)
    (h1 : it ∈ X.ex ∨ X.s₀.heap.objs.size ≤ it) (h2 : ∀ x c,X.env.cells.lookup x = some c→c ≠ it) (h3 : ∀ p ∈ X.pn ++ pins,p.1 ≠ it) : Inv X pins σ H { s with heap:=h',toks:=t' }:=by
  have nit : ∀ b u,H b = some u→b ≠ it:=fun b u e z => by rw [z,hn] at e; cases e
  refine I.step (g':=s.gens) (d':=s.drawn) (ch:=[it]) (fun b hb => ?_) (fun b o _ _ hc e _ => k b o (fun z => hc (by simp [z])) e) (fun b o _ _ hc e _ => ⟨o.slots,k b o (fun z => hc (by simp [z])) e⟩) (fun _ _ _ _ n => n)
    (fun b o hc e => ⟨o,k b o (fun z => hc (by simp [z])) e⟩) (fun _ _ e => e) (fun _ _ _ e => e) (fun b ps e => ⟨#[],by rw [e]; simp⟩) (fun m hm => ?_) (fun b u e => ?_) I.bare
  · have e : b = it:=by simpa using hb
    subst e
    exact ⟨h1,hL,h2,h3⟩
  · obtain ⟨o,es,ep,ho,r⟩:=hm
    exact ⟨o,es,ep,k _ o (Ne.symm hL) ho,r⟩
  · refine (I.hok b u e).stay (fun c v hc q => k c v ?_ q) (fun _ q => q) fun _ _ q => q
    rcases hc with z | z
    · rw [z]; exact nit b u e
    · exact nit c _ z
theorem Inv.tok (I : Inv X pins σ H s) (t : Nat) : Inv X pins σ H { s with toks:=t }:=I.un (h':=s.heap) (t':=t) Un.refl I.hok
theorem Inv.kept {t' : Nat} (I : Inv X pins σ H s) (k : ∀ b u,s.heap.get? b = some u→h'.get? b = some u) : Inv X pins σ H { s with heap:=h',toks:=t' }:=I.un (Un.kept k) (I.hok.kept k)
theorem Inv.laid {a : Addr} {o : HO} {t' : Nat} (I : Inv X pins σ H s) (k : ∀ b u,s.heap.get? b = some u→h'.get? b = some u) (hp : s.heap.objs.size ≤ a) (new : ObjOk X.prog X.w (upd H a o) h' a o) :
    Inv X pins σ (upd H a o) { s with heap:=h',toks:=t' }:=I.un (Un.laid k hp (I.hok.fresh hp)) (I.hok.laid k hp new)
theorem Inv.write {x e : Addr} {o : HO} {t' : Nat} (I : Inv X pins σ H s) (mu : Mut (H x)) (he : e = x ∨ H e = some (.own x)) (k : ∀ b u,b ≠ e→s.heap.get? b = some u→h'.get? b = some u) (heo : ∃ u,h'.get? e = some u)
    (new : ObjOk X.prog X.w (upd H x o) h' x o) : Inv X pins σ (upd H x o) { s with heap:=h',toks:=t' }:=I.un (Un.write mu he k heo) (I.hok.write mu he k heo new)
theorem Inv.weak {σ' : List (Option V)} (I : Inv X pins σ H s) (hl : σ'.length = σ.length) (w : ∀ (i : Nat) v,σ'[i]? = some (some v)→σ[i]? = some (some v)) : Inv X pins σ' H s :=
  ⟨I.ok,I.os,I.bare,I.base,let ⟨m,hn,hl'⟩:=I.loc; ⟨m,hn,fun i x v e1 e2 e3 => hl' i x v e1 (w i v e2) e3⟩,I.cell,I.free,I.freeC,I.pin,I.hok,hl.trans I.len⟩
theorem Inv.pins_of {pins' : List (Addr × Obj)} (I : Inv X pins σ H s) (h : ∀ p ∈ pins',s.heap.get? p.1 = some p.2 ∧ H p.1 = none ∧ p.1 ≠ X.env.locals ∧ p.1 ∉ X.fs ∧ ∀ v,p.2.data ≠ .cell v) : Inv X pins' σ H s :=
  ⟨I.ok,I.os,I.bare,I.base,I.loc,I.cell,I.free,I.freeC,fun p hp => (List.mem_append.mp hp).elim (fun z => I.pin p (List.mem_append_left _ z)) (h p),I.hok,I.len⟩
theorem nodup_ix {N : List Str} (hN : N.Nodup) {i j : Nat} {x : Str} (a : N[i]? = some x) (b : N[j]? = some x) : i = j:=by
  obtain ⟨h1,e1⟩:=List.getElem?_eq_some_iff.mp a
  obtain ⟨h2,e2⟩:=List.getElem?_eq_some_iff.mp b
  exact (List.getElem_inj hN).mp (e1.trans e2.symm)
theorem store_ok2 {M : Model} {A : Around} {E : Value→Shared→Prop} {i : Nat} {x : Str} {v : V} {u : Value} {Q : Unit→Shared→Prop} (I : Inv X pins σ H s) (hN : X.N.Nodup) (hi : X.N[i]? = some x) (hx : Loc X.env.scope x) (r : RelV v u)
    (h : ∀ s',Inv X pins (σ.set i (some v)) H s'→(∃ a,Heap.SameBut a s.heap s'.heap ∧ (a = X.env.locals ∨ X.env.cells.lookup x = some a))→Q () s') (hf : X.fn x = true ∨ X.env.scope.names.lookup x = some .local:=by first | exact .inl rfl | exact .inr rfl | assumption) : wpAny M A (storeName X.env x u) Q E s:=by
  obtain ⟨m,hn,hl⟩:=id I.loc
  have hcls : (X.env.scope.kind == .class || (X.env.scope.kind == .module && X.env.locals != X.env.globals)) = false:=by rw [I.ok.kind]; rfl
  have hiσ : i < σ.length:=by rw [I.len]; exact (List.getElem?_eq_some_iff.mp hi).1
  have cne:=I.cne
  have tracked : ∀ {a : Addr} {h' : Heap},(∃ o,s.heap.get? a = some o ∧ H a = none)→Heap.SameBut a s.heap h'→HOk X.prog X.w H h':=fun {a h'} ha hs b ob e => by
    obtain ⟨_,_,hfree⟩:=ha
    refine (I.hok b ob e).stay (fun c w' hc q => (hs.2 c ?_).trans q) (fun _ q => q) fun _ _ q => q
    rintro rfl
    rcases hc with rfl | hc
    · rw [hfree] at e; cases e
    · rw [hfree] at hc; cases hc
  rcases hx with hk | hk
  · refine wpAny_storeName_local hk hn (fun h' hn' hs => ?_) hcls
    obtain ⟨oL,_,_,hoL,_⟩:=id hn
    refine h _ ⟨I.ok,I.os,I.bare,⟨fun b o e n hb hx => ?_,fun b o e n hb hx => ?_,I.base.free,fun b o e hx => ?_,I.base.tups,I.base.frzs,I.base.tbls⟩,⟨_,hn',fun j y v' e1 e2 e3 => ?_⟩,fun y c e => ?_,I.free,I.freeC,fun p hp => ?_,tracked ⟨oL,hoL,I.free⟩ hs,by simpa using I.len⟩ ⟨_,hs,.inl rfl⟩
    · exact (hs.2 b (Nat.ne_of_lt (Nat.lt_of_lt_of_le (Heap.lt_size e) I.ok.above))).trans (I.base.keep b o e n hb hx)
    · obtain ⟨sl,e1⟩:=I.base.slot b o e n hb hx
      exact ⟨sl,(hs.2 b (Nat.ne_of_lt (Nat.lt_of_lt_of_le (Heap.lt_size e) I.ok.above))).trans e1⟩
    · obtain ⟨o',e1⟩:=I.base.there b o e hx
      exact ⟨o',(hs.2 b (Nat.ne_of_lt (Nat.lt_of_lt_of_le (Heap.lt_size e) I.ok.above))).trans e1⟩
    · by_cases hj : j = i
      · subst hj
        rw [hi] at e1; cases e1
        rw [List.getElem?_set_self hiσ] at e2
        cases e2
        exact ⟨u,r,.inl ⟨hk,by simp⟩⟩
      · rw [List.getElem?_set_ne (Ne.symm hj)] at e2
        obtain ⟨u',r',q⟩:=hl j y v' e1 e2 e3
        refine ⟨u',r',?_⟩
        rcases q with ⟨k,e⟩ | ⟨k,c,e,z⟩
        · refine .inl ⟨k,?_⟩
          have : y ≠ x:=fun e => hj (nodup_ix hN e1 (e ▸ hi))
          simp [this,e]
        · exact .inr ⟨k,c,e,z.sameBut hs (cne y c e)⟩
    · obtain ⟨w',z⟩:=I.cell y c e
      exact ⟨w',z.sameBut hs (cne y c e)⟩
    · obtain ⟨e,n,ne,nf,d⟩:=I.pin p hp
      exact ⟨(hs.2 p.1 ne).trans e,n,ne,nf,d⟩
  · have hfn : X.fn x = true:=by
      rcases hf with z | z
      · exact z
      · rw [z] at hk; cases hk
    obtain ⟨c,hc⟩:=I.ok.has x (.inl hk)
    obtain ⟨w',z⟩:=I.cell x c hc
    refine wpAny_storeName_cell I.ok.kind hk hc z (fun h' hc' hs => ?_)
    obtain ⟨oc,hoc,hocd⟩:=id z
    refine h { s with heap:=h' } ⟨I.ok,I.os,I.bare,⟨fun b o e n hb hx => ?_,fun b o e n hb hx => ?_,I.base.free,fun b o e hx => ?_,I.base.tups,I.base.frzs,I.base.tbls⟩,⟨m,hn.sameBut hs (Ne.symm (cne x c hc)),fun j y v' e1 e2 e3 => ?_⟩,fun y c' e => ?_,I.free,I.freeC,fun p hp => ?_,tracked ⟨oc,hoc,I.freeC x c hc⟩ hs,by simpa using I.len⟩ ⟨c,hs,.inr hc⟩
    · exact (hs.2 b (Nat.ne_of_lt (Nat.lt_of_lt_of_le (Heap.lt_size e) (I.ok.cab x c hfn hc)))).trans (I.base.keep b o e n hb hx)
    · obtain ⟨sl,e1⟩:=I.base.slot b o e n hb hx
      exact ⟨sl,(hs.2 b (Nat.ne_of_lt (Nat.lt_of_lt_of_le (Heap.lt_size e) (I.ok.cab x c hfn hc)))).trans e1⟩
    · obtain ⟨o',e1⟩:=I.base.there b o e hx
      exact ⟨o',(hs.2 b (Nat.ne_of_lt (Nat.lt_of_lt_of_le (Heap.lt_size e) (I.ok.cab x c hfn hc)))).trans e1⟩
    · by_cases hj : j = i
      · subst hj
        rw [hi] at e1; cases e1
        rw [List.getElem?_set_self hiσ] at e2
        cases e2
        exact ⟨u,r,.inr ⟨.inl hk,c,hc,hc'⟩⟩
      · rw [List.getElem?_set_ne (Ne.symm hj)] at e2
        obtain ⟨u',r',q⟩:=hl j y v' e1 e2 e3
        refine ⟨u',r',?_⟩
        rcases q with q | ⟨k,c',e,z'⟩
        · exact .inl q
        · refine .inr ⟨k,c',e,z'.sameBut hs ?_⟩
          rintro rfl
          exact hj (nodup_ix hN e1 (I.ok.inj _ _ _ e hc ▸ hi))
    · by_cases hcc : c' = c
      · subst hcc; exact ⟨_,hc'⟩
      · obtain ⟨w2,z2⟩:=I.cell y c' e
        exact ⟨w2,z2.sameBut hs hcc⟩
    · obtain ⟨e,n,ne,nf,d⟩:=I.pin p hp
      refine ⟨(hs.2 p.1 ?_).trans e,n,ne,nf,d⟩
      intro q
      rw [q,hoc] at e
      have q' : oc = p.2:=Option.some.inj e
      exact d w' (by rw [← q']; exact hocd)
theorem store_ok {M : Model} {A : Around} {E : Value→Shared→Prop} {i : Nat} {x : Str} {v : V} {u : Value} {Q : Unit→Shared→Prop} (I : Inv X pins σ H s) (hN : X.N.Nodup) (hi : X.N[i]? = some x) (hx : Loc X.env.scope x) (r : RelV v u)
    (h : ∀ s',Inv X pins (σ.set i (some v)) H s'→Q () s') (hf : X.fn x = true ∨ X.env.scope.names.lookup x = some .local:=by first | exact .inl rfl | exact .inr rfl | assumption) : wpAny M A (storeName X.env x u) Q E s :=
  store_ok2 I hN hi hx r (fun s' I' _ => h s' I') hf
theorem Inv.call' {s' : Shared} {ch : List Addr} (I : Inv X pins σ H s) (ho : s'.os = s.os) (u : Un (frs X.stack) ch H H' s.heap s'.heap) (hok : HOk X.prog X.w H' s'.heap) (hg : AllBare s'.gens)
    (hch : ∀ b ∈ ch,(b ∈ X.ex ∨ X.s₀.heap.objs.size ≤ b) ∧ b ≠ X.env.locals ∧ (∀ x c,X.env.cells.lookup x = some c→c ≠ b) ∧ ∀ p ∈ X.pn ++ pins,p.1 ≠ b) : Inv X pins σ H' s':=by
  obtain ⟨h',g',d',t',o'⟩:=s'
  have e : o' = s.os:=ho
  subst e
  exact I.call (g':=g') (t':=t') (d':=d') u hok hg hch
end
noncomputable abbrev XK:=Value→Option Addr→Hp→Prop
noncomputable abbrev St:=List (Option V)
noncomputable abbrev VK:=V→Hp→Prop
noncomputable abbrev TE:=St→Hp→VK→Prop
noncomputable abbrev TT:=St→Hp→(Bool→Hp→Prop)→Prop
noncomputable abbrev TA:=St→Hp→(List V→Hp→Prop)→Prop
structure Ends where
  nx : St→Hp→Prop
  rt : VK
  bk : St→Hp→Prop:=fun _ _ => False
  ct : St→Hp→Prop:=fun _ _ => False
noncomputable abbrev TS:=Ends→St→Hp→Prop
noncomputable def EP (X : Cx) (pins : List (Addr × Obj)) (σ : St) (Q : VK) (u : Value) (s' : Shared) : Prop:=∃ v H',Inv X pins σ H' s' ∧ RelV v u ∧ Q v H'
noncomputable def TP (X : Cx) (pins : List (Addr × Obj)) (σ : St) (Q : Bool→Hp→Prop) (b : Bool) (s' : Shared) : Prop:=∃ H',Inv X pins σ H' s' ∧ Q b H'
noncomputable def AP (X : Cx) (pins : List (Addr × Obj)) (σ : St) (Q : List V→Hp→Prop) (us : List Value) (s' : Shared) : Prop:=∃ vs H',Inv X pins σ H' s' ∧ Vals vs us ∧ Q vs H'
noncomputable def SP (X : Cx) (pins : List (Addr × Obj)) (D : Ends) (f : Flow) (s' : Shared) : Prop :=
  match f with
  | .next => ∃ σ' H',Inv X pins σ' H' s' ∧ D.nx σ' H'
  | .brk => ∃ σ' H',Inv X pins σ' H' s' ∧ D.bk σ' H'
  | .cont => ∃ σ' H',Inv X pins σ' H' s' ∧ D.ct σ' H'
  | .ret u => ∃ v σ' H',Inv X pins σ' H' s' ∧ RelV v u ∧ D.rt v H'
noncomputable def PE (X : Cx) (e : Expr) (t : TE) : Prop :=
  ∀ (pins : List (Addr × Obj)) (s : Shared) (σ : St) (H : Hp) (Q : VK),Inv X pins σ H s→t σ H Q→wpAny (model X.prog X.w) X.A (eval e X.env) (EP X pins σ Q) X.xe s
noncomputable def PT (X : Cx) (e : Expr) (t : TT) : Prop :=
  ∀ (pins : List (Addr × Obj)) (s : Shared) (σ : St) (H : Hp) (Q : Bool→Hp→Prop),Inv X pins σ H s→t σ H Q→wpAny (model X.prog X.w) X.A (isTrue e X.env (eval e X.env)) (TP X pins σ Q) X.xe s
noncomputable def PW (X : Cx) (e : Expr) (t : TT) : Prop :=
  ∀ (whole : Sem Value) (pins : List (Addr × Obj)) (s : Shared) (σ : St) (H : Hp) (Q : Bool→Hp→Prop),Inv X pins σ H s→t σ H Q→wpAny (model X.prog X.w) X.A (isTrue e X.env whole) (TP X pins σ Q) X.xe s
theorem PW.pt {X : Cx} {e : Expr} {t : TT} (h : PW X e t) : PT X e t:=h _
noncomputable def PA (X : Cx) (es : List Expr) (t : TA) : Prop :=
  ∀ (pos : Pos) (pins : List (Addr × Obj)) (s : Shared) (σ : St) (H : Hp) (Q : List V→Hp→Prop),Inv X pins σ H s→t σ H Q→wpAny (model X.prog X.w) X.A (spliced (backTo pos (starEach es X.env))) (AP X pins σ Q) X.xe s
noncomputable def PS (X : Cx) (st : Stmt) (t : TS) : Prop :=
  ∀ (pins : List (Addr × Obj)) (s : Shared) (σ : St) (H : Hp) (D : Ends),Inv X pins σ H s→t D σ H→wpAny (model X.prog X.w) X.A (exec st X.env) (SP X pins D) X.xe s
noncomputable def PSs (X : Cx) (st : List Stmt) (t : TS) : Prop :=
  ∀ (pins : List (Addr × Obj)) (s : Shared) (σ : St) (H : Hp) (D : Ends),Inv X pins σ H s→t D σ H→wpAny (model X.prog X.w) X.A (execs st X.env) (SP X pins D) X.xe s
theorem thn {α : Type} {t : Sem α} {Q Q' : α→Shared→Prop} {M : Model} {A : Around} {E : Value→Shared→Prop} {s : Shared} (h : wpAny M A t Q E s) (hQ : ∀ a s,Q a s→Q' a s) : wpAny M A t Q' E s:=wpAny_mono h hQ fun _ _ x => x
end L2
namespace L2
open PySem PySem.Spec PyProof.Rows
section
variable {X : Cx}
noncomputable def tVar (i : Nat) : TE:=fun σ H Q => ∃ v,σ[i]? = some (some v) ∧ Q v H
noncomputable def tC (v : V) : TE:=fun _ H Q => Q v H
theorem pe_var {i : Nat} {x : Str} {pos : Pos} (hN : X.N[i]? = some x) (hv : Vis X.env.scope x) (hd : (x == ("__debug__" : Str)) = false:=by decide) (hcd : (x == ("__classdict__" : Str)) = false:=by decide) : PE X (.Name x pos) (tVar i):=by
  intro pins s σ H Q I h
  obtain ⟨v,e,h⟩:=h
  obtain ⟨m,hn,hl⟩:=I.loc
  obtain ⟨u,r,l⟩:=hl i x v hN e hv
  have fin : EP X pins σ Q u s:=⟨v,H,I,r,h⟩
  rcases l with ⟨hk,hm⟩ | ⟨hk,c,hc,hcell⟩
  · exact wpAny_Name (wpAny_loadName_local I.ok.kind hk hn hm fin) hd
  · rcases hk with hk | hk
    · exact wpAny_Name (wpAny_loadName_cell I.ok.kind hk hc hcell fin) hd
    · exact wpAny_Name (wpAny_loadName_free I.ok.kind hk hc hcell fin hcd) hd
theorem pe_int {i j pos} : PE X (.Constant (.int i) j pos) (tC (.int i)):=fun _ _ _ H _ I h => wpAny_Constant_int ⟨.int i,H,I.tok _,⟨_,rfl⟩,h⟩
theorem pe_bl {b j pos} : PE X (.Constant (.bool b) j pos) (tC (.bl b)):=fun _ _ _ H _ I h => Constant_bool ⟨.bl b,H,I,rfl,h⟩
theorem pe_non {j pos} : PE X (.Constant .none j pos) (tC .non):=fun _ _ _ H _ I h => Constant_none ⟨.non,H,I,rfl,h⟩
theorem pe_str {x j pos} : PE X (.Constant (.str x) j pos) (tC (.str x)):=fun _ _ _ H _ I h => Calls.Constant_str ⟨.str x,H,I.tok _,⟨_,rfl⟩,h⟩
noncomputable def Gl (X : Cx) (x : Str) : Prop:=X.env.kindOf x = some .globalImplicit
theorem ld_glob {E : Value→Shared→Prop} {pins : List (Addr × Obj)} {s : Shared} {σ : St} {H : Hp} {x : Str} {u : Value} {pos : Pos} {Q : Value→Shared→Prop} (I : Inv X pins σ H s) (hg : Gl X x) (hm : X.mg x = some u) (h : Q u s)
    (hd : (x == ("__debug__" : Str)) = false:=by decide) : wpAny (model X.prog X.w) X.A (eval (.Name x pos) X.env) Q E s :=
  Calls.Name_function_global I.ok.kind hg (Calls.loadGlobal_global (by rw [I.ok.glob]; exact I.mod.glob.keeps I.bk) hm h) hd
theorem ld_blt {E : Value→Shared→Prop} {pins : List (Addr × Obj)} {s : Shared} {σ : St} {H : Hp} {x : Str} {u : Value} {pos : Pos} {Q : Value→Shared→Prop} (I : Inv X pins σ H s) (hg : Gl X x) (hm : X.mg x = none) (hv : bootBuiltins x = some u) (h : Q u s)
    (hn : x ≠ "__name__":=by decide) (hd : (x == ("__debug__" : Str)) = false:=by decide) : wpAny (model X.prog X.w) X.A (eval (.Name x pos) X.env) Q E s:=by
  obtain ⟨mb,h1,h2⟩:=I.mod.blt
  exact Calls.Name_function_global I.ok.kind hg (Calls.loadGlobal_builtin (by rw [I.ok.glob]; exact I.mod.glob.keeps I.bk) hm (by rw [I.ok.blt]; exact h1.keeps I.bk) ((h2 x hn).trans hv) h) hd
theorem pe_glob {x : Str} {v : V} {u : Value} {pos : Pos} (hg : Gl X x) (hm : X.mg x = some u) (r : RelV v u) (hd : (x == ("__debug__" : Str)) = false:=by decide) : PE X (.Name x pos) (tC v) :=
  fun _ _ _ H _ I h => ld_glob I hg hm ⟨v,H,I,r,h⟩ hd
theorem pe_bltn {x : Str} {v : V} {u : Value} {pos : Pos} (hg : Gl X x) (hm : X.mg x = none) (hv : bootBuiltins x = some u) (r : RelV v u) (hn : x ≠ "__name__":=by decide) (hd : (x == ("__debug__" : Str)) = false:=by decide) : PE X (.Name x pos) (tC v) :=
  fun _ _ _ H _ I h => ld_blt I hg hm hv ⟨v,H,I,r,h⟩ hn hd
noncomputable def t2I (ta tb : TE) (k : Int→Int→Hp→Prop) : St→Hp→Prop:=fun σ H => ta σ H fun x H1 => tb σ H1 fun y H2 => ∃ i j,x = .int i ∧ y = .int j ∧ k i j H2
noncomputable def tAdd (ta tb : TE) : TE:=fun σ H Q => t2I ta tb (fun i j H2 => Q (.int (i + j)) H2) σ H
noncomputable def tSub (ta tb : TE) : TE:=fun σ H Q => t2I ta tb (fun i j H2 => Q (.int (i - j)) H2) σ H
noncomputable def tMul (ta tb : TE) : TE:=fun σ H Q => t2I ta tb (fun i j H2 => (-(2 ^ 64) < i ∧ i < 2 ^ 64) ∧ Q (.int (i * j)) H2) σ H
variable {a b : Expr} {ta tb : TE} {pos : Pos}
noncomputable def PC (X : Cx) (op : CmpOp) (a b : Expr) (t : TE) : Prop :=
  ∀ (pins : List (Addr × Obj)) (s : Shared) (σ : St) (H : Hp) (Q : VK),Inv X pins σ H s→t σ H Q →
    wpAny (model X.prog X.w) X.A (eval a X.env) (fun v s₁ => wpAny (model X.prog X.w) X.A (eval b X.env) (fun u s₂ => wpAny (model X.prog X.w) X.A (compareOp op v u) (EP X pins σ Q) X.xe s₂) X.xe s₁) X.xe s
noncomputable def tCmp (p : Int→Int→Bool) (ta tb : TE) : TE:=fun σ H Q => t2I ta tb (fun i j H2 => Q (.bl (p i j)) H2) σ H
noncomputable abbrev tLt : TE→TE→TE:=tCmp fun i j => decide (i < j)
noncomputable abbrev tLe : TE→TE→TE:=tCmp fun i j => decide (i ≤ j)
noncomputable abbrev tGt : TE→TE→TE:=tCmp fun i j => decide (j < i)
noncomputable abbrev tGe : TE→TE→TE:=tCmp fun i j => decide (j ≤ i)
noncomputable abbrev tEqI : TE→TE→TE:=tCmp fun i j => decide (i = j)
noncomputable abbrev tNeI : TE→TE→TE:=tCmp fun i j => !decide (i = j)
noncomputable def tIsN (ta : TE) : TE:=fun σ H Q => ta σ H fun x H1 => Q (.bl (decide (x = .non))) H1
noncomputable def tNotN (ta : TE) : TE:=fun σ H Q => ta σ H fun x H1 => Q (.bl (!decide (x = .non))) H1
noncomputable def tB (t : TE) : TT:=fun σ H Q => t σ H fun x H1 => ∃ c,x = .bl c ∧ Q c H1
theorem pt_val {e : Expr} {t : TE} (h : PE X e t) (he : ∀ whole,isTrue e X.env whole = (do let v ← whole; standAt e.pos; holding [v] (truthy v)):=by intro _; rfl) : PT X e (tB t):=by
  intro pins s σ H Q I hw
  refine isTrue_plain (thn (h pins s σ H _ I hw) fun v s1 ⟨x,H1,I1,r1,q1⟩ => ?_) (he _)
  obtain ⟨d,rfl,q⟩:=q1
  cases r1
  exact wpAny_truthy_bool ⟨H1,I1,q⟩
variable {tA tB' : TT} {rest : List Expr}
noncomputable def tAnd (t u : TT) : TT:=fun σ H Q => t σ H fun c H1 => if c = true then u σ H1 Q else Q false H1
noncomputable def tOr (t u : TT) : TT:=fun σ H Q => t σ H fun c H1 => if c = true then Q true H1 else u σ H1 Q
noncomputable def tNot (t : TT) : TT:=fun σ H Q => t σ H fun c H1 => Q (!c) H1
theorem pw_and1 (ha : PT X a tA) : PW X (.BoolOp .And [a] pos) tA:=by
  intro wh pins s σ H Q I h
  refine isTrue_and (thn (ha pins s σ H Q I h) fun c s1 e => ?_)
  cases c with
  | true => exact isTrue_and_nil e
  | false => exact e
theorem pw_or1 (ha : PT X a tA) : PW X (.BoolOp .Or [a] pos) tA:=by
  intro wh pins s σ H Q I h
  refine isTrue_or (thn (ha pins s σ H Q I h) fun c s1 e => ?_)
  cases c with
  | false => exact isTrue_or_nil e
  | true => exact e
theorem pw_and (ha : PT X a tA) (hb : PW X (.BoolOp .And (b :: rest) pos) tB') : PW X (.BoolOp .And (a :: b :: rest) pos) (tAnd tA tB'):=by
  intro wh pins s σ H Q I h
  refine isTrue_and (thn (ha pins s σ H _ I h) fun c s1 ⟨H1,I1,q1⟩ => ?_)
  cases c with
  | true => exact hb wh pins s1 σ H1 Q I1 q1
  | false => exact ⟨H1,I1,q1⟩
theorem pw_or (ha : PT X a tA) (hb : PW X (.BoolOp .Or (b :: rest) pos) tB') : PW X (.BoolOp .Or (a :: b :: rest) pos) (tOr tA tB'):=by
  intro wh pins s σ H Q I h
  refine isTrue_or (thn (ha pins s σ H _ I h) fun c s1 ⟨H1,I1,q1⟩ => ?_)
  cases c with
  | true => exact ⟨H1,I1,q1⟩
  | false => exact hb wh pins s1 σ H1 Q I1 q1
theorem pt_not (ha : PT X a tA) : PT X (.UnaryOp .Not a pos) (tNot tA):=by
  intro pins s σ H Q I h
  exact isTrue_not (ha pins s σ H (fun c H1 => Q (!c) H1) I h)
noncomputable def tAndV (ta tb : TE) : TE:=fun σ H Q => ta σ H fun x H1 => ∃ c,x = .bl c ∧ if c = true then tb σ H1 Q else Q (.bl false) H1
noncomputable def tOrV (ta tb : TE) : TE:=fun σ H Q => ta σ H fun x H1 => ∃ c,x = .bl c ∧ if c = true then Q (.bl true) H1 else tb σ H1 Q
noncomputable def tNotV (ta : TE) : TE:=fun σ H Q => ta σ H fun x H1 => ∃ c,x = .bl c ∧ Q (.bl (!c)) H1
theorem pe_one {op} {t : TE} (h : PE X a t) : PE X (.BoolOp op [a] pos) t:=fun pins s σ H Q I hw => BoolOp_one (h pins s σ H Q I hw)
theorem pe_and (ha : PE X a ta) (hb : PE X (.BoolOp .And (b :: rest) pos) tb) : PE X (.BoolOp .And (a :: b :: rest) pos) (tAndV ta tb):=by
  intro pins s σ H Q I h
  refine BoolOp_and (thn (ha pins s σ H _ I h) fun v s1 ⟨x,H1,I1,r1,q1⟩ => ?_)
  obtain ⟨c,rfl,q1⟩:=q1
  cases r1
  refine wpAny_truthy_bool ?_
  cases c with
  | true => exact hb pins s1 σ H1 Q I1 q1
  | false => exact ⟨.bl false,H1,I1,rfl,q1⟩
theorem pe_not (ha : PE X a ta) : PE X (.UnaryOp .Not a pos) (tNotV ta):=by
  intro pins s σ H Q I h
  refine UnaryOp_ (thn (ha pins s σ H _ I h) fun v s1 ⟨x,H1,I1,r1,q1⟩ => ?_)
  obtain ⟨c,rfl,q1⟩:=q1
  cases r1
  exact not_of (wpAny_truthy_bool ⟨.bl (!c),H1,I1,rfl,q1⟩)
noncomputable def tIf (t : TT) (ta tb : TE) : TE:=fun σ H Q => t σ H fun c H1 => if c = true then ta σ H1 Q else tb σ H1 Q
end
end L2
namespace L2
open PySem PySem.Spec PyProof.Rows
noncomputable def SqL (K : PySem.W.Frag) (H : Hp) (a : Addr) (xs : List V) : Prop :=
  Rd H a (.lst xs) ∨
    ∃ (o : Obj) (its : Array Value) (n : Nat),K.lookup a = some o ∧ o.cls = .type "list" ∧ o.dict = none ∧ o.data = .seq its n ∧ its.size ≤ sizeLine ∧ Vals xs its.toList
noncomputable def SqT (K : PySem.W.Frag) (H : Hp) (a : Addr) (xs : List V) : Prop :=
  Rd H a (.tup xs) ∨
    ∃ (o : Obj) (its : Array Value) (n : Nat),K.lookup a = some o ∧ o.cls = .type "tuple" ∧ o.data = .seq its n ∧ its.size ≤ sizeLine ∧ Vals xs its.toList
noncomputable def absV : Value→Option V
  | .none => some .non
  | .bool b => some (.bl b)
  | .int i _ => some (.int i)
  | .str x _ => some (.str x)
  | .bytes b _ => some (.byt b)
  | .float b _ => some (.flt b)
  | .ref a => some (.ref a)
  | .type n => some (.ty n)
  | _ => none
theorem RelV.abs {x : V} {u : Value} (r : RelV x u) : absV u = some x:=by
  cases x with
  | non => cases r; rfl
  | bl _ => cases r; rfl
  | int _ => obtain ⟨t,rfl⟩:=r; rfl
  | str _ => obtain ⟨t,rfl⟩:=r; rfl
  | byt _ => obtain ⟨t,rfl⟩:=r; rfl
  | flt _ => obtain ⟨t,rfl⟩:=r; rfl
  | ref _ => cases r; rfl
  | ty _ => cases r; rfl
theorem RelV.inj {x y : V} {u : Value} (r : RelV x u) (q : RelV y u) : x = y:=Option.some.inj (r.abs.symm.trans q.abs)
theorem Vals.inj : ∀ {xs ys : List V} {us : List Value},Vals xs us→Vals ys us→xs = ys
  | _,_,_,.nil,.nil => rfl
  | _,_,_,.cons r t,.cons r' t' => by rw [r.inj r',Vals.inj t t']
section
variable {X : Cx} {pins : List (Addr × Obj)} {σ : St} {H : Hp} {s : Shared} {a : Addr} {xs ys : List V}
theorem SqL.of {K : PySem.W.Frag} (h : H a = some (.lst xs)) : SqL K H a xs:=.inl (.inl h)
theorem SqT.of {K : PySem.W.Frag} (h : H a = some (.tup xs)) : SqT K H a xs:=.inl (.inl h)
theorem Inv.list (I : Inv X pins σ H s) (h : SqL X.K H a xs) : ∃ its : List Value,Vals xs its ∧ PlainL s.heap a its.toArray ∧ xs.length ≤ sizeLine:=by
  rcases h with h | ⟨o,its,n,hk,hc,hd,hs,hz,r⟩
  · obtain ⟨z,its,n,r,e⟩:=h.ok I.hok
    exact ⟨its,r,⟨_,n,e,rfl,rfl,rfl⟩,z⟩
  · refine ⟨its.toList,r,⟨o,n,I.kIn a o hk,hc,hd,by simpa using hs⟩,?_⟩
    have e:=r.length
    simp only [Array.length_toList] at e
    (first | lia | omega)
theorem Inv.tuple (I : Inv X pins σ H s) (h : SqT X.K H a xs) : ∃ its : List Value,Vals xs its ∧ IsTup s.heap a its.toArray ∧ xs.length ≤ sizeLine:=by
  rcases h with h | ⟨o,its,n,hk,hc,hs,hz,r⟩
  · obtain ⟨z,its,r,p⟩:=h.ok I.hok
    exact ⟨its,r,p,z⟩
  · refine ⟨its.toList,r,⟨o,I.kIn a o hk,hc,n,by simpa using hs⟩,?_⟩
    have e:=r.length
    simp only [Array.length_toList] at e
    (first | lia | omega)
theorem Inv.list_inj (I : Inv X pins σ H s) (h : SqL X.K H a xs) (h' : SqL X.K H a ys) : xs = ys:=by
  obtain ⟨its,r,⟨o,n,e,_,_,d⟩,_⟩:=I.list h
  obtain ⟨its',r',⟨o',n',e',_,_,d'⟩,_⟩:=I.list h'
  rw [e] at e'; cases e'
  rw [d] at d'
  injection d' with d1 _
  have : its = its':=by simpa using congrArg Array.toList d1
  subst this
  exact r.inj r'
end
noncomputable abbrev Cx.wish (X : Cx) (E : Value→Shared→Prop) : Cx:={ X with xe:=E }
noncomputable abbrev Cx.nox (X : Cx) : Cx:=X.wish fun _ _ => False
theorem Cx.Ok.wish {X : Cx} (ok : X.Ok) (E : Value→Shared→Prop) : (X.wish E).Ok :=
  ⟨ok.mod,ok.kind,ok.glob,ok.blt,ok.above,ok.inj,ok.has,ok.cab,ok.hd,ok.frames,ok.stk,ok.exf,ok.bs,ok.bsz,ok.noex,ok.exfs,ok.funs,ok.frf⟩
theorem Cx.Ok.unwish {X : Cx} {E : Value→Shared→Prop} (ok : (X.wish E).Ok) : X.Ok :=
  ⟨ok.mod,ok.kind,ok.glob,ok.blt,ok.above,ok.inj,ok.has,ok.cab,ok.hd,ok.frames,ok.stk,ok.exf,ok.bs,ok.bsz,ok.noex,ok.exfs,ok.funs,ok.frf⟩
section
variable {X : Cx} {pins : List (Addr × Obj)} {σ : St} {H : Hp} {s : Shared} {E : Value→Shared→Prop}
theorem Inv.wish (I : Inv X pins σ H s) (E : Value→Shared→Prop) : Inv (X.wish E) pins σ H s:=⟨I.ok.wish E,I.os,I.bare,I.base,I.loc,I.cell,I.free,I.freeC,I.pin,I.hok,I.len⟩
theorem Inv.unwish (I : Inv (X.wish E) pins σ H s) : Inv X pins σ H s:=⟨I.ok.unwish,I.os,I.bare,I.base,I.loc,I.cell,I.free,I.freeC,I.pin,I.hok,I.len⟩
theorem SP.unwish {D : Ends} {f : Flow} {s' : Shared} (h : SP (X.wish E) pins D f s') : SP X pins D f s':=by
  cases f with
  | next => obtain ⟨σ',H',I,q⟩:=h; exact ⟨σ',H',I.unwish,q⟩
  | brk => obtain ⟨σ',H',I,q⟩:=h; exact ⟨σ',H',I.unwish,q⟩
  | cont => obtain ⟨σ',H',I,q⟩:=h; exact ⟨σ',H',I.unwish,q⟩
  | ret u => obtain ⟨v,σ',H',I,r,q⟩:=h; exact ⟨v,σ',H',I.unwish,r,q⟩
theorem PSs.nox {st : List Stmt} {t : TS} (h : PSs X.nox st t) : PSs X st t:=fun pins s σ H D I hw =>
  wpAny_mono (h pins s σ H D (I.wish _) hw) (fun _ _ q => q.unwish) fun _ _ z => False.elim z
end
section
variable {X : Cx} {st : Stmt} {rest : List Stmt} {t u : TS} {e : Expr} {te : TE} {pos : Pos}
noncomputable def tNext : TS:=fun D σ H => D.nx σ H
noncomputable def tSeq (t u : TS) : TS:=fun D σ H => t { D with nx:=u D } σ H
theorem pss_nil : PSs X [] tNext:=fun _ _ σ H _ I h => wpAny_execs_nil ⟨σ,H,I,h⟩
theorem pss_cons (h1 : PS X st t) (h2 : PSs X rest u) : PSs X (st :: rest) (tSeq t u):=by
  intro pins s σ H D I h
  refine wpAny_execs_cons (thn (h1 pins s σ H { D with nx:=u D } I h) fun f s1 q => ?_)
  cases f with
  | next =>
    obtain ⟨σ',H',I',q⟩:=q
    exact h2 pins s1 σ' H' D I' q
  | ret v => exact q
  | brk => exact q
  | cont => exact q
theorem pss_one (h1 : PS X st t) : PSs X [st] t:=by
  intro pins s σ H D I h
  refine wpAny_execs_cons (thn (h1 pins s σ H D I h) fun f s1 q => ?_)
  cases f with
  | next => exact wpAny_execs_nil q
  | ret v => exact q
  | brk => exact q
  | cont => exact q
noncomputable def tBreak : TS:=fun D σ H => D.bk σ H
noncomputable def tCont : TS:=fun D σ H => D.ct σ H
theorem Inv.quiet {pins : List (Addr × Obj)} {σ : St} {H : Hp} {s : Shared} (I : Inv X pins σ H s) : interactive X.env = false:=by simp [interactive,I.ok.kind]
noncomputable def tDrop (te : TE) : TS:=fun D σ H => te σ H fun _ H1 => D.nx σ H1
theorem ps_expr (he : PE X e te) (hs : swapsWith e none pos.line X.env = pure false:=by rfl) : PS X (.Expr e pos) (tDrop te):=by
  intro pins s σ H D I h
  exact wpAny_Expr_any (thn (he pins s σ H _ I h) fun v s1 ⟨x,H1,I1,r1,q1⟩ => ⟨σ,H1,I1,q1⟩) I.quiet hs
noncomputable def tRet (te : TE) : TS:=fun D σ H => te σ H D.rt
theorem ps_ret (he : PE X e te) : PS X (.Return (some e) pos) (tRet te):=by
  intro pins s σ H D I h
  exact wpAny_Return_some (thn (he pins s σ H _ I h) fun v s1 ⟨x,H1,I1,r1,q1⟩ => ⟨x,σ,H1,I1,r1,q1⟩)
noncomputable def tRetN : TS:=fun D _ H => D.rt .non H
noncomputable def tIfS (c : TT) (t u : TS) : TS:=fun D σ H => c σ H fun b H1 => if b = true then t D σ H1 else u D σ H1
theorem ps_if {c : Expr} {a b : List Stmt} {tc : TT} (hc : PT X c tc) (ha : PSs X a t) (hb : PSs X b u) : PS X (.If c a b pos) (tIfS tc t u):=by
  intro pins s σ H D I h
  refine wpAny_If (thn (hc pins s σ H _ I h) fun d s1 ⟨H1,I1,q1⟩ => ?_)
  cases d with
  | true => exact ha pins s1 σ H1 D I1 q1
  | false => exact hb pins s1 σ H1 D I1 q1
noncomputable def tNever : TS:=fun _ _ _ => False
theorem ps_never : PS X st tNever:=fun _ _ _ _ _ _ h => h.elim
end
noncomputable abbrev TG:=V→St→Hp→(St→Hp→Prop)→Prop
noncomputable abbrev TGs:=List V→St→Hp→(St→Hp→Prop)→Prop
noncomputable def PG (X : Cx) (target : Expr) (t : TG) : Prop :=
  ∀ (pins : List (Addr × Obj)) (s : Shared) (σ : St) (H : Hp) (v : V) (u : Value) (Q : St→Hp→Prop),Inv X pins σ H s→RelV v u→t v σ H Q →
    wpAny (model X.prog X.w) X.A (assign target X.env u) (fun _ s' => ∃ σ' H',Inv X pins σ' H' s' ∧ Q σ' H') X.xe s
noncomputable def PGs (X : Cx) (ts : List Expr) (t : TGs) : Prop :=
  ∀ (pins : List (Addr × Obj)) (s : Shared) (σ : St) (H : Hp) (vs : List V) (us : List Value) (Q : St→Hp→Prop),Inv X pins σ H s→Vals vs us→t vs σ H Q →
    wpAny (model X.prog X.w) X.A (assignInOrder ((assignEach ts X.env).map (·.2)) us) (fun _ s' => ∃ σ' H',Inv X pins σ' H' s' ∧ Q σ' H') X.xe s
noncomputable abbrev TSet:=V→V→V→Hp→(Hp→Prop)→Prop
noncomputable def PSet (X : Cx) (t : TSet) : Prop :=
  ∀ (pins : List (Addr × Obj)) (s : Shared) (σ : St) (H : Hp) (o i v : V) (ov iv u : Value) (Q : Hp→Prop),Inv X pins σ H s→RelV o ov→RelV i iv→RelV v u→t o i v H Q →
    wpAny (model X.prog X.w) X.A (setItem ov iv u) (fun _ s' => ∃ H',Inv X pins σ H' s' ∧ Q H') X.xe s
noncomputable abbrev TIp:=V→V→Hp→VK→Prop
noncomputable def PIp (X : Cx) (op : Operator) (t : TIp) : Prop :=
  ∀ (pins : List (Addr × Obj)) (s : Shared) (σ : St) (H : Hp) (x y : V) (v u : Value) (Q : VK),Inv X pins σ H s→RelV x v→RelV y u→t x y H Q →
    wpAny (model X.prog X.w) X.A (inplaceOp op v u) (EP X pins σ Q) X.xe s
section
variable {X : Cx} {pos : Pos}
noncomputable def gName (i : Nat) : TG:=fun v σ H Q => Q (σ.set i (some v)) H
theorem pg_name {i : Nat} {x : Str} (hN : X.N.Nodup) (hi : X.N[i]? = some x) (hx : Loc X.env.scope x) (hf : X.fn x = true ∨ X.env.scope.names.lookup x = some .local:=by first | exact .inl rfl | exact .inr rfl | assumption) : PG X (.Name x pos) (gName i):=by
  intro pins s σ H v u Q I r h
  exact wpAny_assign_Name (store_ok I hN hi hx r (fun s' I' => ⟨_,H,I',h⟩) hf)
noncomputable def gNil : TGs:=fun vs σ H Q => vs = [] ∧ Q σ H
noncomputable def gCons (t : TG) (u : TGs) : TGs:=fun vs σ H Q => ∃ v r,vs = v :: r ∧ t v σ H fun σ' H' => u r σ' H' Q
theorem pgs_nil : PGs X [] gNil:=by
  intro pins s σ H vs us Q I r h
  obtain ⟨e,h⟩:=h
  subst e
  cases r
  exact assignInOrder_nil ⟨σ,H,I,h⟩
theorem pgs_cons {e : Expr} {es : List Expr} {t : TG} {u : TGs} (h1 : PG X e t) (h2 : PGs X es u)
    (hs : (assignEach (e :: es) X.env).map (·.2) = assign e X.env :: (assignEach es X.env).map (·.2):=by rfl) : PGs X (e :: es) (gCons t u):=by
  intro pins s σ H vs us Q I r h
  obtain ⟨v,vr,e1,h⟩:=h
  subst e1
  cases r with
  | cons r rr =>
    rw [hs]
    refine assignInOrder_cons (thn (h1 pins s σ H _ _ _ I r h) fun _ s1 ⟨σ1,H1,I1,q1⟩ => ?_)
    exact h2 pins s1 σ1 H1 _ _ Q I1 rr q1
noncomputable def gTup (K : PySem.W.Frag) (n : Nat) (t : TGs) : TG:=fun v σ H Q => ∃ a xs,v = .ref a ∧ SqT K H a xs ∧ xs.length = n ∧ t xs σ H Q
theorem pg_tup {es : List Expr} {k : Nat} {t : TGs} {n : Nat} (hc : X.calm = true) (h : PGs X es t)
    (hn : (assignEach es X.env).length = n:=by rfl) (hst : (assignEach es X.env).findIdx? (·.1) = none:=by rfl) : PG X (.Tuple es k pos) (gTup X.K n t):=by
  intro pins s σ H v u Q I r hw
  obtain ⟨a,xs,e1,hq,hl,hw⟩:=hw
  subst e1
  cases r
  obtain ⟨its,rv,ht,hz⟩:=I.tuple hq
  refine assign_Tuple_tuple (I.ok.hd hc) ht (by simp [hn,← hl,rv.length]) hst fun h' hx => ?_
  have I1 : Inv X pins σ H { s with heap:=h' }:=I.kept (t':=s.toks) fun b o e => hx b o (Nat.ne_of_lt (Heap.lt_size e)) e
  exact h pins _ σ H xs _ Q I1 (by simpa using rv) hw
noncomputable def gSub (to ti : TE) (t : TSet) : TG:=fun v σ H Q => to σ H fun o H1 => ti σ H1 fun i H2 => t o i v H2 fun H3 => Q σ H3
theorem pg_sub {o i : Expr} {to ti : TE} {t : TSet} (ho : PE X o to) (hi : PE X i ti) (hs : PSet X t)
    (ha : ∀ v,assign (.Subscript o i pos) X.env v = (do
      let ov ← holding [v] (eval o X.env)
      let iv ← holding [v,ov] (eval i X.env)
      standAt pos
      holding [v,ov,iv] (setItem ov iv v)
      release [v,ov,iv] []):=by intro _; rfl) : PG X (.Subscript o i pos) (gSub to ti t):=by
  intro pins s σ H v u Q I r h
  rw [ha]
  refine wpAny_bind (wpAny_holding (thn (ho pins s σ H _ I h) fun ov s1 ⟨x,H1,I1,r1,q1⟩ => ?_))
  refine wpAny_bind (wpAny_holding (thn (hi pins s1 σ H1 _ I1 q1) fun iv s2 ⟨y,H2,I2,r2,q2⟩ => ?_))
  refine wpAny_bind (wpAny_standAt (wpAny_bind (wpAny_holding (thn (hs pins s2 σ H2 x y v ov iv u _ I2 r1 r2 r q2) fun _ s3 ⟨H3,I3,q3⟩ => ?_))))
  exact wpAny_release ⟨σ,H3,I3,q3⟩
noncomputable def tAsg (te : TE) (g : TG) : TS:=fun D σ H => te σ H fun x H1 => g x σ H1 D.nx
theorem ps_asg {tg e : Expr} {te : TE} {g : TG} (he : PE X e te) (hg : PG X tg g) (hs : swapsWithSole [tg] e pos.line X.env = pure false:=by rfl) (hw : swappedStores [tg] e X.env = pure none:=by rfl)
    (h1 : (assignEach [tg] X.env).map (·.2) = [assign tg X.env]:=by rfl) : PS X (.Assign [tg] e pos) (tAsg te g):=by
  intro pins s σ H D I h
  refine wpAny_Assign_stores (thn (he pins s σ H _ I h) fun v s1 ⟨x,H1,I1,r1,q1⟩ => ?_) hs hw
  rw [h1]
  exact thn (hg pins s1 σ H1 x v _ I1 r1 q1) fun _ s2 q => q
theorem ps_set {i : Nat} {x : Str} {e : Expr} {te : TE} {pos' : Pos} (hN : X.N.Nodup) (hi : X.N[i]? = some x) (hx : Loc X.env.scope x) (he : PE X e te) (hs : swapsWith e (some (.Name x pos')) pos.line X.env = pure false:=by rfl) (hf : X.fn x = true ∨ X.env.scope.names.lookup x = some .local:=by first | exact .inl rfl | exact .inr rfl | assumption) :
    PS X (.Assign [.Name x pos'] e pos) (tAsg te (gName i)):=by
  intro pins s σ H D I h
  refine wpAny_Assign_Name (thn (he pins s σ H _ I h) fun v s1 ⟨y,H1,I1,r1,q1⟩ => ?_) hs
  exact store_ok I1 hN hi hx r1 (fun s2 I2 => ⟨_,H1,I2,q1⟩) hf
noncomputable def tPar (i j : Nat) (ta : TA) : TS:=fun D σ H => ta σ H fun vs H1 => ∃ v w,vs = [v,w] ∧ D.nx ((σ.set i (some v)).set j (some w)) H1
noncomputable def tAug (i : Nat) (te : TE) (ti : TIp) : TS:=fun D σ H => ∃ x,σ[i]? = some (some x) ∧ te σ H fun y H1 => ti x y H1 fun z H2 => D.nx (σ.set i (some z)) H2
theorem ps_aug {i : Nat} {x : Str} {e : Expr} {te : TE} {op : Operator} {ti : TIp} {pos' : Pos} (hN : X.N.Nodup) (hi : X.N[i]? = some x) (hx : Loc X.env.scope x) (he : PE X e te) (ho : PIp X op ti) (hf : X.fn x = true ∨ X.env.scope.names.lookup x = some .local:=by first | exact .inl rfl | exact .inr rfl | assumption) :
    PS X (.AugAssign (.Name x pos') op e pos) (tAug i te ti):=by
  intro pins s σ H D I h
  obtain ⟨v,e1,h⟩:=h
  obtain ⟨m,hn,hl⟩:=I.loc
  have vis : Vis X.env.scope x:=by rcases hx with k | k; exact .inl k; exact .inr (.inl k)
  obtain ⟨u,r,l⟩:=hl i x v hi e1 vis
  refine wpAny_AugAssign_Name ?_
  have go : wpAny (model X.prog X.w) X.A (eval e X.env) (fun w s₂ => wpAny (model X.prog X.w) X.A (inplaceOp op u w) (fun r s₃ => wpAny (model X.prog X.w) X.A (storeName X.env x r) (fun _ => SP X pins D .next) X.xe s₃) X.xe s₂) X.xe s:=by
    refine thn (he pins s σ H _ I h) fun w s1 ⟨y,H1,I1,r1,q1⟩ => ?_
    refine thn (ho pins s1 σ H1 v y u w _ I1 r r1 q1) fun z s2 ⟨zv,H2,I2,r2,q2⟩ => ?_
    exact store_ok I2 hN hi hx r2 (fun s3 I3 => ⟨_,H2,I3,q2⟩) hf
  rcases l with ⟨hk,hm⟩ | ⟨hk,c,hc,hcell⟩
  · exact wpAny_loadName_local I.ok.kind hk hn hm go
  · rcases hk with hk | hk
    · exact wpAny_loadName_cell I.ok.kind hk hc hcell go
    · rcases hx with k | k
      · have : X.env.scope.names.lookup x = some .free:=hk
        rw [k] at this; cases this
      · have : X.env.scope.names.lookup x = some .free:=hk
        rw [k] at this; cases this
noncomputable def tAugS (to ti te : TE) (tget : V→V→Hp→VK→Prop) (tip : TIp) (tset : TSet) : TS:=fun D σ H => to σ H fun o H1 => ti σ H1 fun i H2 => tget o i H2 fun x H3 => te σ H3 fun y H4 => tip x y H4 fun z H5 => tset o i z H5 fun H6 => D.nx σ H6
noncomputable def PGet (X : Cx) (t : V→V→Hp→VK→Prop) : Prop :=
  ∀ (pins : List (Addr × Obj)) (s : Shared) (σ : St) (H : Hp) (o i : V) (ov iv : Value) (Q : VK),Inv X pins σ H s→RelV o ov→RelV i iv→t o i H Q →
    wpAny (model X.prog X.w) X.A (getItem ov iv) (EP X pins σ Q) X.xe s
noncomputable def ipI (f : Int→Int→Int) : TIp:=fun x y H Q => ∃ i j,x = .int i ∧ y = .int j ∧ Q (.int (f i j)) H
theorem ip_sub : PIp X .Sub (ipI fun i j => i - j):=by
  intro pins s σ H x y v u Q I r1 r2 h
  obtain ⟨i,j,e1,e2,q⟩:=h
  subst e1; subst e2
  obtain ⟨t,rfl⟩:=r1
  obtain ⟨t',rfl⟩:=r2
  exact isub_int ⟨.int _,H,I.tok _,⟨_,rfl⟩,q⟩
end
section
variable {X : Cx} {pos : Pos}
noncomputable def tWhile (c : TT) (tb : TS) : TS:=fun D σ H => ∃ W : Nat→St→Hp→Prop,(∃ m,W m σ H) ∧ ∀ m σ H,W m σ H →
  c σ H fun b H1 => if b = true then ∃ N : St→Hp→Prop,(∀ σ' H',N σ' H'→∃ m',m' < m ∧ W m' σ' H') ∧ tb { D with nx:=N,ct:=N,bk:=D.nx } σ H1 else D.nx σ H1
theorem ps_while {c : Expr} {body : List Stmt} {tc : TT} {tb : TS} (hp : PassesOwn (model X.prog X.w) X.A X.env X.xe) (hc : PT X c tc) (hb : PSs X body tb) : PS X (.While c body [] pos) (tWhile tc tb):=by
  intro pins s σ H D I h
  obtain ⟨W,⟨m0,w0⟩,turn⟩:=h
  refine wpAny_While (codeAny_whileLoop (fun n s' => ∃ σ' H',Inv X pins σ' H' s' ∧ W n σ' H') ?_ m0 ⟨σ,H,I,w0⟩)
  rintro n s1 ⟨σ1,H1,I1,w1⟩
  refine wpAny_passesOwn hp (thn (hc pins s1 σ1 H1 _ I1 (turn n σ1 H1 w1)) fun b s2 ⟨H2,I2,q2⟩ => ?_)
  cases b with
  | true =>
    obtain ⟨N,hN,q2⟩:=q2
    rw [if_pos rfl]
    refine wpAny_passesOwn hp (thn (hb pins s2 σ1 H2 _ I2 q2) fun f s3 q3 => ?_)
    cases f with
    | next =>
      obtain ⟨σ3,H3,I3,n3⟩:=q3
      obtain ⟨m',hm,w3⟩:=hN σ3 H3 n3
      exact ⟨m',hm,σ3,H3,I3,w3⟩
    | cont =>
      obtain ⟨σ3,H3,I3,n3⟩:=q3
      obtain ⟨m',hm,w3⟩:=hN σ3 H3 n3
      exact ⟨m',hm,σ3,H3,I3,w3⟩
    | brk => exact q3
    | ret v => exact q3
  | false =>
    rw [if_neg Bool.false_ne_true]
    exact wpAny_execs_nil ⟨σ1,H2,I2,q2⟩
end
structure It where
  go : Nat→Hp→Prop
  yld : Nat→Hp→V→Hp→Prop
  stop : Nat→Hp→Prop
noncomputable def FpOk (X : Cx) (pins : List (Addr × Obj)) (H : Hp) (b : Addr) : Prop :=
  H b = none ∧ b ≠ X.env.locals ∧ b ∉ X.fs ∧ (b ∈ X.ex ∨ X.s₀.heap.objs.size ≤ b) ∧ (∀ x c,X.env.cells.lookup x = some c→c ≠ b) ∧ ∀ p ∈ X.pn ++ pins,p.1 ≠ b
theorem Inv.fpOk {X : Cx} {pins : List (Addr × Obj)} {σ : St} {H H' : Hp} {s : Shared} {b : Addr} (I : Inv X pins σ H s) (hb : s.heap.objs.size ≤ b) (hn : H' b = none) : FpOk X pins H' b:=by
  refine ⟨hn,Nat.ne_of_gt (Nat.lt_of_lt_of_le I.lt hb),I.nofs hb,.inr (Nat.le_trans I.sz hb),fun x c e z => ?_,fun p hp z => ?_⟩
  · obtain ⟨v,q⟩:=I.cell x c e
    exact absurd (Nat.lt_of_lt_of_le q.lt (by rw [z]; exact hb)) (Nat.lt_irrefl _)
  · exact absurd (Nat.lt_of_lt_of_le (Heap.lt_size (I.pin p hp).1) (by rw [z]; exact hb)) (Nat.lt_irrefl _)
structure Turn (P : Program) (w : World) (K : PySem.W.Frag) (tg : Expr) (J : It) (fp : List Addr) (it : Addr) (tn : Nat→Heap→Prop) : Prop where
  mem : it ∈ fp
  obj : ∀ i h,tn i h→∀ b ∈ fp,∃ o,h.get? b = some o ∧ ∀ v,o.data ≠ .cell v
  keep : ∀ i h h',tn i h→(∀ b ∈ fp,∀ o,h.get? b = some o→h'.get? b = some o)→tn i h'
  item : ∀ (X : Cx),X.prog = P→X.w = w→X.K = K→X.calm = true→∀ (i : Nat) (pins : List (Addr × Obj)) (s : Shared) (σ : St) (H : Hp) (E : Value→Shared→Prop),Inv X pins σ H s→(∀ b ∈ fp,FpOk X pins H b)→tn i s.heap→J.go i H →
    wpAny (model P w) X.A (pyNext (.ref it)) (fun r s1 => ∃ u,r = some u ∧
      wpAny (model P w) X.A (letOwnedTupleGo tg (.ref it) u) (fun _ s2 => ∃ x H',Inv X pins σ H' s2 ∧ RelV x u ∧ J.yld i H x H' ∧ tn (i + 1) s2.heap ∧ ∀ b ∈ fp,H' b = none) E s1) E s
  done : ∀ (X : Cx),X.prog = P→X.w = w→X.K = K→X.calm = true→∀ (i : Nat) (pins : List (Addr × Obj)) (s : Shared) (σ : St) (H : Hp) (E : Value→Shared→Prop),Inv X pins σ H s→(∀ b ∈ fp,FpOk X pins H b)→tn i s.heap→J.stop i H →
    wpAny (model P w) X.A (pyNext (.ref it)) (fun r s1 => r = none ∧ Inv X pins σ H s1) E s
  self : ∀ (A : Around) (i : Nat) (s : Shared) (Q : Value→Shared→Prop) (E : Value→Shared→Prop),tn i s.heap→Q (.ref it) s→wpAny (model P w) A (pyIter (.ref it)) Q E s
noncomputable abbrev TI:=St→Hp→(It→Hp→Prop)→Prop
noncomputable def PIE (X : Cx) (pins : List (Addr × Obj)) (σ : St) (tg : Expr) (R : It→Hp→Prop) (itv : Value) (s2 : Shared) : Prop :=
  ∃ (it : Addr) (fp : List Addr) (tn : Nat→Heap→Prop) (J : It) (H' : Hp),itv = .ref it ∧ Inv X pins σ H' s2 ∧ Turn X.prog X.w X.K tg J fp it tn ∧ tn 0 s2.heap ∧ (∀ b ∈ fp,FpOk X pins H' b) ∧ R J H'
noncomputable def PI (X : Cx) (tg iter : Expr) (wi : TI) : Prop :=
  ∀ (pins : List (Addr × Obj)) (s : Shared) (σ : St) (H : Hp) (R : It→Hp→Prop),Inv X pins σ H s→wi σ H R →
    wpAny (model X.prog X.w) X.A (eval iter X.env) (fun v s1 => wpAny (model X.prog X.w) X.A (pyIter v) (PIE X pins σ tg R) X.xe s1) X.xe s
theorem go_of {M : Model} {A : Around} {E : Value→Shared→Prop} {s : Shared} {tg : Expr} {it : Addr} {u : Value} {o : Obj} {n : String} {vs : Array Value} {Q : Unit→Shared→Prop} (ho : s.heap.get? it = some o) (hc : o.cls = .type n) (hd : o.data = .fields vs)
    (hn : ["enumerate","zip","dict_itemiterator","dict_reverseitemiterator","odict_iterator","itertools.zip_longest","itertools.pairwise"].contains n = false) (hQ : Q () s) : wpAny M A (letOwnedTupleGo tg (.ref it) u) Q E s:=by
  unfold letOwnedTupleGo
  cases tg <;> first
    | exact wpAny_pure hQ
    | (cases u <;> first
        | exact wpAny_pure hQ
        | (refine wpAny_bind (wpAny_load ho ?_)
           rw [hc,hd]
           show wpAny M A (if (["enumerate","zip","dict_itemiterator","dict_reverseitemiterator","odict_iterator","itertools.zip_longest","itertools.pairwise"].contains n && vs[0]? == some (rawInt _)) = true then _ else _) Q E s
           rw [if_neg (by intro h; rw [hn,Bool.false_and] at h; cases h)]
           exact wpAny_pure hQ))
noncomputable def Itl (K : PySem.W.Frag) (a : Addr) : It :=
  ⟨fun i H => ∃ xs x,SqL K H a xs ∧ xs[i]? = some x,fun i H x H' => H' = H ∧ ∀ xs,SqL K H a xs→xs[i]? = some x,fun i H => ∃ xs,SqL K H a xs ∧ xs.length ≤ i⟩
noncomputable def Itt (K : PySem.W.Frag) (a : Addr) : It :=
  ⟨fun i H => ∃ xs x,SqT K H a xs ∧ xs[i]? = some x,fun i H x H' => H' = H ∧ ∀ xs,SqT K H a xs→xs[i]? = some x,fun i H => ∃ xs,SqT K H a xs ∧ xs.length ≤ i⟩
noncomputable def Itr (lo : Int) (n : Nat) : It:=⟨fun i _ => i < n,fun i H x H' => H' = H ∧ x = .int (lo + i),fun i _ => n ≤ i⟩
theorem turn_list {P : Program} {w : World} {K : PySem.W.Frag} {tg : Expr} (a it : Addr) : Turn P w K tg (Itl K a) [it] it (fun i h => h.IsListIter it a i) where
  mem:=by simp
  obj:=fun i h st b hb => by
    have e : b = it:=by simpa using hb
    subst e
    obtain ⟨o,e,c,d⟩:=st
    exact ⟨o,e,fun v z => by rw [d] at z; cases z⟩
  keep:=fun i h h' st k => st.at fun o e => k it (by simp) o e
  item:=by
    intro X hP hw hK hc i pins s σ H E I hf st hg
    subst hP hw hK
    obtain ⟨xs,x,hq,hx⟩:=hg
    obtain ⟨its,rv,p,hz⟩:=I.list hq
    obtain ⟨u,hu,ru⟩:=rv.get hx
    obtain ⟨f0,f1,f2,f3,f4,f5⟩:=hf it (by simp)
    refine wpAny_pyNext_list_item st p.isList (x:=u) (by simpa using hu) fun h' st' sb => ?_
    have I1 : Inv X pins σ H { s with heap:=h' }:=I.turned (t':=s.toks) (fun b o hb e => (sb.2 b hb).trans e) f0 f1 f3 f4 f5
    obtain ⟨o,e,c,d⟩:=id st'
    exact ⟨u,rfl,go_of (s:={ s with heap:=h' }) e c d (by decide) ⟨x,H,I1,ru,⟨rfl,fun ys hy => by rw [I.list_inj hy hq]; exact hx⟩,st',fun b hb => (hf b hb).1⟩⟩
  done:=by
    intro X hP hw hK hc i pins s σ H E I hf st hg
    subst hP hw hK
    obtain ⟨xs,hq,hx⟩:=hg
    obtain ⟨its,rv,p,hz⟩:=I.list hq
    obtain ⟨f0,f1,f2,f3,f4,f5⟩:=hf it (by simp)
    have hl:=rv.length
    exact wpAny_pyNext_list_end (I.ok.hd hc) st p.isList (by simp; (first | lia | omega)) fun h' eb => ⟨rfl,I.turned (t':=s.toks) (fun b o hb e => eb b o hb e) f0 f1 f3 f4 f5⟩
  self:=fun _ _ _ _ _ st h => wpAny_pyIter_listiter st h
theorem turn_range {P : Program} {w : World} {K : PySem.W.Frag} {tg : Expr} (it : Addr) (lo : Int) (n : Nat) : Turn P w K tg (Itr lo n) [it] it (fun i h => IsRangeIter h it (lo + (i : Nat) * 1) ((n : Int) - (i : Nat)) 1) where
  mem:=by simp
  obj:=fun i h st b hb => by
    have e : b = it:=by simpa using hb
    subst e
    exact ⟨_,st,fun v z => by
      have z' : Data.fields _ = Data.cell v:=z
      cases z'⟩
  keep:=fun i h h' st k => k it (by simp) _ st
  item:=by
    intro X hP hw hK hc i pins s σ H E I hf st hg
    subst hP hw hK
    obtain ⟨f0,f1,f2,f3,f4,f5⟩:=hf it (by simp)
    have W:=Walks.range (prog:=X.prog) (w:=X.w) (I.ok.hd hc) it lo 1 n
    refine W.item i s _ _ hg st fun v h' tk hv st' kk => ?_
    obtain ⟨t,rfl⟩:=hv
    have I1 : Inv X pins σ H { s with heap:=h',toks:=tk }:=I.turned (fun b o hb e => kk b o (by simpa using hb) e) f0 f1 f3 f4 f5
    refine ⟨_,rfl,go_of (s:={ s with heap:=h',toks:=tk }) (n:="range_iterator") st' rfl rfl (by decide) ⟨.int (lo + i),H,I1,⟨t,?_⟩,⟨rfl,rfl⟩,st',fun b hb => (hf b hb).1⟩⟩
    rw [Int.mul_one]
  done:=by
    intro X hP hw hK hc i pins s σ H E I hf st hg
    subst hP hw hK
    obtain ⟨f0,f1,f2,f3,f4,f5⟩:=hf it (by simp)
    exact wpAny_pyNext_range_end (I.ok.hd hc) st (by have : n ≤ i:=hg; (first | lia | omega)) fun h' eb => ⟨rfl,I.turned (t':=s.toks) (fun b o hb e => eb b o hb e) f0 f1 f3 f4 f5⟩
  self:=fun _ _ _ _ _ st h => wpAny_pyIter_rangeiter st h
end L2
namespace L2
open PySem PySem.Spec PyProof.Rows
section
variable {X : Cx} {tg : Expr}
noncomputable def iList (K : PySem.W.Frag) (tl : TE) : TI:=fun σ H R => tl σ H fun x H1 => ∃ a,x = .ref a ∧ (∃ xs,SqL K H1 a xs) ∧ R (Itl K a) H1
noncomputable def iTup (K : PySem.W.Frag) (tl : TE) : TI:=fun σ H R => tl σ H fun x H1 => ∃ a,x = .ref a ∧ (∃ xs,SqT K H1 a xs) ∧ R (Itt K a) H1
theorem pi_list {l : Expr} {tl : TE} (hl : PE X l tl) : PI X tg l (iList X.K tl):=by
  intro pins s σ H R I h
  refine thn (hl pins s σ H _ I h) fun v s1 ⟨x,H1,I1,r1,q1⟩ => ?_
  obtain ⟨a,e,⟨xs,hq⟩,q⟩:=q1
  subst e
  cases r1
  obtain ⟨its,rv,p,hz⟩:=I1.list hq
  refine wpAny_pyIter_list p.isList ?_
  refine ⟨s1.heap.objs.size,[s1.heap.objs.size],_,_,H1,rfl,I1.kept (t':=s1.toks) fun b o e => Heap.get?_push_of_some _ e,turn_list a _,⟨_,Heap.get?_push_size _ rfl,rfl,rfl⟩,fun b hb => ?_,q⟩
  have e : b = s1.heap.objs.size:=by simpa using hb
  subst e
  exact I1.fpOk (Nat.le_refl _) (I1.hok.fresh (Nat.le_refl _))
theorem range_it {pins : List (Addr × Obj)} {σ : St} {H : Hp} {s : Shared} {R : It→Hp→Prop} {E : Value→Shared→Prop} {lo hi : Int} {t u v : Tok} {tk : Nat} (I : Inv X pins σ H s) (h1 : -(2 ^ 62) ≤ lo) (h2 : lo < 2 ^ 62) (h3 : -(2 ^ 62) ≤ hi) (h4 : hi < 2 ^ 62)
    (q : R (Itr lo (hi - lo).toNat) H) : wpAny (model X.prog X.w) X.A (pyIter (.ref s.heap.objs.size)) (PIE X pins σ tg R) E { s with heap:=s.heap.push { cls:=.type "range",data:=.fields #[.int lo t,.int hi u,.int 1 v] },toks:=tk }:=by
  refine wpAny_pyIter_range (IsRange.new ..) (small_one h1 h2 h3 h4) ?_
  have I1 : Inv X pins σ H { s with heap:=s.heap.push { cls:=.type "range",data:=.fields #[.int lo t,.int hi u,.int 1 v] },toks:=tk }:=I.kept fun b o e => Heap.get?_push_of_some _ e
  refine ⟨(s.heap.push { cls:=.type "range",data:=.fields #[.int lo t,.int hi u,.int 1 v] }).objs.size,[(s.heap.push { cls:=.type "range",data:=.fields #[.int lo t,.int hi u,.int 1 v] }).objs.size],_,_,H,rfl,
    I1.kept (t':=tk) fun b o e => Heap.get?_push_of_some _ e,turn_range _ lo (hi - lo).toNat,?_,fun b hb => ?_,q⟩
  · have e1 : lo + ((0 : Nat) : Int) * 1 = lo:=by simp
    have e2 : (((hi - lo).toNat : Nat) : Int) - ((0 : Nat) : Int) = Builtin.Range.rangeSize lo hi 1:=by rw [rangeSize_one]; split <;> (first | lia | omega)
    show IsRangeIter _ _ (lo + ((0 : Nat) : Int) * 1) ((((hi - lo).toNat : Nat) : Int) - ((0 : Nat) : Int)) 1
    rw [e1,e2]
    exact Heap.get?_push_size _ rfl
  · have e : b = (s.heap.push { cls:=.type "range",data:=.fields #[.int lo t,.int hi u,.int 1 v] }).objs.size:=by simpa using hb
    subst e
    exact I1.fpOk (Nat.le_refl _) (I1.hok.fresh (Nat.le_refl _))
noncomputable def iRng1 (ta : TA) : TI:=fun σ H R => ta σ H fun vs H1 => ∃ j : Int,vs = [.int j] ∧ -(2 ^ 62) ≤ j ∧ j < 2 ^ 62 ∧ R (Itr 0 j.toNat) H1
noncomputable def iRng2 (ta : TA) : TI:=fun σ H R => ta σ H fun vs H1 => ∃ i j : Int,vs = [.int i,.int j] ∧ (-(2 ^ 62) ≤ i ∧ i < 2 ^ 62 ∧ -(2 ^ 62) ≤ j ∧ j < 2 ^ 62) ∧ R (Itr i (j - i).toNat) H1
theorem pi_range1 {a : Expr} {ta : TA} {p pos : Pos} (hg : Gl X "range") (hm : X.mg "range" = none) (ha : PA X [a] ta) (hs : starEach [a] X.env = [(false,eval a X.env)]:=by rfl) : PI X tg (.Call (.Name "range" p) [a] [] pos) (iRng1 ta):=by
  intro pins s σ H R I h
  refine Call_ (ld_blt I hg hm boot_range (PyProof.Rows.callWith_type1 (thn (ha pos pins s σ H _ I h) fun us s1 ⟨vs,H1,I1,r1,q1⟩ => ?_) hs rfl))
  obtain ⟨j,e,q1,q2,q⟩:=q1
  subst e
  cases r1 with
  | cons r rr =>
    cases rr
    obtain ⟨t,rfl⟩:=r
    exact call_range_1 (range_it I1 (by (first | lia | omega)) (by (first | lia | omega)) q1 q2 (by simpa using q))
noncomputable def tFor (wi : TI) (g : TG) (tb : TS) : TS:=fun D σ H => wi σ H fun J H1 => ∃ W : Nat→Nat→St→Hp→Prop,(∃ m,W 0 m σ H1) ∧ ∀ i m σ H,W i m σ H →
  (J.stop i H ∧ D.nx σ H) ∨ (J.go i H ∧ ∃ N : St→Hp→Prop,(∀ σ' H',N σ' H'→∃ m',m' < m ∧ W (i + 1) m' σ' H') ∧ ∀ x H',J.yld i H x H'→g x σ H' fun σ2 H2 => tb { D with nx:=N,ct:=N,bk:=D.nx } σ2 H2)
noncomputable def pinsAt (fp : List Addr) (h : Heap) : List (Addr × Obj):=fp.filterMap fun b => (h.get? b).map fun o => (b,o)
theorem mem_pinsAt {fp : List Addr} {h : Heap} {b : Addr} {o : Obj} (hb : b ∈ fp) (e : h.get? b = some o) : (b,o) ∈ pinsAt fp h:=List.mem_filterMap.mpr ⟨b,hb,by rw [e]; rfl⟩
theorem of_pinsAt {fp : List Addr} {h : Heap} {p : Addr × Obj} (hp : p ∈ pinsAt fp h) : p.1 ∈ fp ∧ h.get? p.1 = some p.2:=by
  obtain ⟨b,hb,e⟩:=List.mem_filterMap.mp hp
  cases q : h.get? b with
  | none => rw [q] at e; cases e
  | some o =>
    rw [q] at e
    have e' : (b,o) = p:=Option.some.inj e
    subst e'
    exact ⟨hb,q⟩
theorem Inv.pinned {pins : List (Addr × Obj)} {σ : St} {H : Hp} {s : Shared} {fp : List Addr} (I : Inv X pins σ H s) (hf : ∀ b ∈ fp,FpOk X pins H b) (ho : ∀ b ∈ fp,∃ o,s.heap.get? b = some o ∧ ∀ v,o.data ≠ .cell v) : Inv X (pins ++ pinsAt fp s.heap) σ H s :=
  I.pins_of fun p hp => (List.mem_append.mp hp).elim (fun z => I.pin p (List.mem_append_right _ z)) fun z => by
    obtain ⟨hb,e⟩:=of_pinsAt z
    obtain ⟨f0,f1,f2,_⟩:=hf p.1 hb
    obtain ⟨o,e',d⟩:=ho p.1 hb
    rw [e] at e'; cases e'
    exact ⟨e,f0,f1,f2,d⟩
theorem Inv.unpinned {pins pl : List (Addr × Obj)} {σ : St} {H : Hp} {s : Shared} (I : Inv X (pins ++ pl) σ H s) : Inv X pins σ H s:=I.pins_of fun p hp => I.pin p (List.mem_append_right _ (List.mem_append_left _ hp))
theorem ps_for {iter : Expr} {body : List Stmt} {wi : TI} {g : TG} {tb : TS} {pos : Pos} (hp : PassesOwn (model X.prog X.w) X.A X.env X.xe) (hc : X.calm = true) (hi : PI X tg iter wi) (hg : PG X tg g) (hb : PSs X body tb)
    (hs : ∀ x,foldedSetIterable iter X.env x = pure x:=by intro _; rfl) : PS X (.For tg iter body [] pos) (tFor wi g tb):=by
  intro pins s σ H D I h
  refine wpAny_For (thn (hi pins s σ H _ I h) fun v s1 h1 => thn h1 fun itv s2 h2 => ?_) hs
  obtain ⟨it,fp,tn,J,H2,e,I2,T,st2,f2,W,⟨m0,w0⟩,turn⟩:=h2
  subst e
  have stat : ∀ {H' : Hp},(∀ b ∈ fp,H' b = none)→∀ b ∈ fp,FpOk X pins H' b:=fun hn b hb => ⟨hn b hb,(f2 b hb).2⟩
  refine codeAny_forLoop_any (fun n s' => ∃ i σ' H',Inv X pins σ' H' s' ∧ tn i s'.heap ∧ (∀ b ∈ fp,H' b = none) ∧ W i n σ' H') ?_ m0 ⟨0,σ,H2,I2,st2,fun b hb => (f2 b hb).1,w0⟩
  rintro n s3 ⟨i,σ3,H3,I3,st3,fr3,w3⟩
  rcases turn i n σ3 H3 w3 with ⟨stop,qn⟩ | ⟨go,N,hN,step⟩
  · refine wpAny_passesOwn hp (thn (T.done X rfl rfl rfl hc i pins s3 σ3 H3 X.xe I3 (stat fr3) st3 stop) fun r s4 ⟨hr,I4⟩ => ?_)
    subst hr
    exact wpAny_execs_nil ⟨σ3,H3,I4,qn⟩
  · refine wpAny_passesOwn hp (thn (T.item X rfl rfl rfl hc i pins s3 σ3 H3 X.xe I3 (stat fr3) st3 go) fun r s4 ⟨u,hr,h4⟩ => ?_)
    subst hr
    refine wpAny_passesOwn hp (thn h4 fun _ s5 ⟨x,H5,I5,r5,y5,st5,fr5⟩ => ?_)
    have I5':=I5.pinned (stat fr5) (T.obj _ _ st5)
    refine wpAny_passesOwn hp (thn (hg _ s5 σ3 H5 x u _ I5' r5 (step x H5 y5)) fun _ s6 ⟨σ6,H6,I6,q6⟩ => ?_)
    refine wpAny_passesOwn hp (thn (hb _ s6 σ6 H6 _ I6 q6) fun f s7 q7 => ?_)
    have again : ∀ {σ7 : St} {H7 : Hp},Inv X (pins ++ pinsAt fp s5.heap) σ7 H7 s7→N σ7 H7→∃ m,m < n ∧ ∃ i σ' H',Inv X pins σ' H' s7 ∧ tn i s7.heap ∧ (∀ b ∈ fp,H' b = none) ∧ W i m σ' H':=fun {σ7 H7} I7 n7 => by
      obtain ⟨m',hm,w7⟩:=hN σ7 H7 n7
      refine ⟨m',hm,i + 1,σ7,H7,I7.unpinned,T.keep _ _ _ st5 fun b hb o e => (I7.pin (b,o) (List.mem_append_right _ (List.mem_append_right _ (mem_pinsAt hb e)))).1,fun b hb => ?_,w7⟩
      obtain ⟨o,e,d⟩:=T.obj _ _ st5 b hb
      exact (I7.pin (b,o) (List.mem_append_right _ (List.mem_append_right _ (mem_pinsAt hb e)))).2.1
    cases f with
    | next => obtain ⟨σ7,H7,I7,n7⟩:=q7; exact again I7 n7
    | cont => obtain ⟨σ7,H7,I7,n7⟩:=q7; exact again I7 n7
    | brk => obtain ⟨σ7,H7,I7,q7⟩:=q7; exact ⟨σ7,H7,I7.unpinned,q7⟩
    | ret v => obtain ⟨x7,σ7,H7,I7,r7,q7⟩:=q7; exact ⟨x7,σ7,H7,I7.unpinned,r7,q7⟩
end
theorem for_list {K : PySem.W.Frag} {a : Addr} {xs : List V} {g : TG} {tb : TS} {D : Ends} {σ : St} {H : Hp} (Pv : Nat→St→Hp→Prop) (h0 : Pv 0 σ H) (hl : ∀ i σ H,i ≤ xs.length→Pv i σ H→SqL K H a xs)
    (hs : ∀ i x σ H,xs[i]? = some x→Pv i σ H→g x σ H fun σ2 H2 => tb { D with nx:=Pv (i + 1),ct:=Pv (i + 1),bk:=D.nx } σ2 H2) (hd : ∀ σ H,Pv xs.length σ H→D.nx σ H) :
    ∃ W : Nat→Nat→St→Hp→Prop,(∃ m,W 0 m σ H) ∧ ∀ i m σ H,W i m σ H →
      ((Itl K a).stop i H ∧ D.nx σ H) ∨ ((Itl K a).go i H ∧ ∃ N : St→Hp→Prop,(∀ σ' H',N σ' H'→∃ m',m' < m ∧ W (i + 1) m' σ' H') ∧ ∀ x H',(Itl K a).yld i H x H'→g x σ H' fun σ2 H2 => tb { D with nx:=N,ct:=N,bk:=D.nx } σ2 H2):=by
  refine ⟨fun i m σ H => m = xs.length - i ∧ i ≤ xs.length ∧ Pv i σ H,⟨xs.length,by simp,Nat.zero_le _,h0⟩,?_⟩
  rintro i m σ H ⟨rfl,hi,p⟩
  have q:=hl i σ H hi p
  by_cases hlt : i < xs.length
  · refine .inr ⟨⟨xs,xs[i],q,by simp [hlt]⟩,Pv (i + 1),fun σ' H' p' => ⟨xs.length - (i + 1),by (first | lia | omega),rfl,hlt,p'⟩,fun x H' y => ?_⟩
    obtain ⟨e,y⟩:=y
    subst e
    exact hs i x σ _ (y xs q) p
  · have e : i = xs.length:=by (first | lia | omega)
    subst e
    exact .inl ⟨⟨xs,q,Nat.le_refl _⟩,hd σ H p⟩
theorem for_range {lo : Int} {n : Nat} {g : TG} {tb : TS} {D : Ends} {σ : St} {H : Hp} (Pv : Nat→St→Hp→Prop) (h0 : Pv 0 σ H)
    (hs : ∀ i σ H,i < n→Pv i σ H→g (.int (lo + i)) σ H fun σ2 H2 => tb { D with nx:=Pv (i + 1),ct:=Pv (i + 1),bk:=D.nx } σ2 H2) (hd : ∀ σ H,Pv n σ H→D.nx σ H) :
    ∃ W : Nat→Nat→St→Hp→Prop,(∃ m,W 0 m σ H) ∧ ∀ i m σ H,W i m σ H →
      ((Itr lo n).stop i H ∧ D.nx σ H) ∨ ((Itr lo n).go i H ∧ ∃ N : St→Hp→Prop,(∀ σ' H',N σ' H'→∃ m',m' < m ∧ W (i + 1) m' σ' H') ∧ ∀ x H',(Itr lo n).yld i H x H'→g x σ H' fun σ2 H2 => tb { D with nx:=N,ct:=N,bk:=D.nx } σ2 H2):=by
  refine ⟨fun i m σ H => m = n - i ∧ i ≤ n ∧ Pv i σ H,⟨n,by simp,Nat.zero_le _,h0⟩,?_⟩
  rintro i m σ H ⟨rfl,hi,p⟩
  by_cases hlt : i < n
  · refine .inr ⟨hlt,Pv (i + 1),fun σ' H' p' => ⟨n - (i + 1),by (first | lia | omega),rfl,hlt,p'⟩,fun x H' y => ?_⟩
    obtain ⟨e,y⟩:=y
    subst e y
    exact hs i σ _ hlt p
  · have e : i = n:=by (first | lia | omega)
    subst e
    exact .inl ⟨Nat.le_refl _,hd σ H p⟩
end L2
namespace L2
open PySem PySem.Spec PyProof.Rows
noncomputable abbrev R2:=V→V→Hp→VK→Prop
noncomputable def OpR (X : Cx) (f : Value→Value→Sem Value) (r : R2) : Prop :=
  ∀ (pins : List (Addr × Obj)) (s : Shared) (σ : St) (H : Hp) (x y : V) (v u : Value) (Q : VK),Inv X pins σ H s→RelV x v→RelV y u→r x y H Q →
    wpAny (model X.prog X.w) X.A (f v u) (EP X pins σ Q) X.xe s
noncomputable def UnR (X : Cx) (f : Value→Sem Value) (r : V→Hp→VK→Prop) : Prop :=
  ∀ (pins : List (Addr × Obj)) (s : Shared) (σ : St) (H : Hp) (x : V) (v : Value) (Q : VK),Inv X pins σ H s→RelV x v→r x H Q →
    wpAny (model X.prog X.w) X.A (f v) (EP X pins σ Q) X.xe s
noncomputable def CallR (X : Cx) (f : Value) (r : List V→Hp→VK→Prop) : Prop :=
  ∀ (pins : List (Addr × Obj)) (s : Shared) (σ : St) (H : Hp) (xs : List V) (us : List Value) (Q : VK),Inv X pins σ H s→Vals xs us→r xs H Q →
    wpAny (model X.prog X.w) X.A (call f us) (EP X pins σ Q) X.xe s
noncomputable def TruR (X : Cx) (r : V→Hp→(Bool→Hp→Prop)→Prop) : Prop :=
  ∀ (pins : List (Addr × Obj)) (s : Shared) (σ : St) (H : Hp) (x : V) (v : Value) (Q : Bool→Hp→Prop),Inv X pins σ H s→RelV x v→r x H Q →
    wpAny (model X.prog X.w) X.A (truthy v) (TP X pins σ Q) X.xe s
noncomputable def tOp (r : R2) (ta tb : TE) : TE:=fun σ H Q => ta σ H fun x H1 => tb σ H1 fun y H2 => r x y H2 Q
noncomputable def tUn (r : V→Hp→VK→Prop) (ta : TE) : TE:=fun σ H Q => ta σ H fun x H1 => r x H1 Q
noncomputable def rI (C : Int→Int→Prop) (g : Int→Int→V) : R2:=fun x y H Q => ∃ i j,x = .int i ∧ y = .int j ∧ C i j ∧ Q (g i j) H
noncomputable def rI0 (g : Int→Int→V) : R2:=fun x y H Q => ∃ i j,x = .int i ∧ y = .int j ∧ Q (g i j) H
noncomputable def rU (g : Int→V) : V→Hp→VK→Prop:=fun x H Q => ∃ i,x = .int i ∧ Q (g i) H
section
variable {X : Cx} {a b c : Expr} {ta tb tc : TE} {pos : Pos}
theorem binT (ha : PE X a ta) (hb : PE X b tb) {pins : List (Addr × Obj)} {s : Shared} {σ : St} {H : Hp} {R : V→V→Hp→Prop} (I : Inv X pins σ H s)
    (h : ta σ H fun x H1 => tb σ H1 fun y H2 => R x y H2) {Q : Value→Shared→Prop} {f : Value→Value→Sem Value}
    (hf : ∀ v u s2 x y H2,Inv X pins σ H2 s2→RelV x v→RelV y u→R x y H2→wpAny (model X.prog X.w) X.A (f v u) Q X.xe s2) :
    wpAny (model X.prog X.w) X.A (eval a X.env) (fun v s₁ => wpAny (model X.prog X.w) X.A (eval b X.env) (fun u s₂ => wpAny (model X.prog X.w) X.A (f v u) Q X.xe s₂) X.xe s₁) X.xe s:=by
  refine thn (ha pins s σ H _ I h) fun v s1 ⟨x,H1,I1,r1,q1⟩ => ?_
  refine thn (hb pins s1 σ H1 _ I1 q1) fun u s2 ⟨y,H2,I2,r2,q2⟩ => ?_
  exact hf v u s2 x y H2 I2 r1 r2 q2
theorem pe_op {op : Operator} {r : R2} (ho : OpR X (binaryOp op) r) (ha : PE X a ta) (hb : PE X b tb) : PE X (.BinOp a op b pos) (tOp r ta tb):=by
  intro pins s σ H Q I h
  exact wpAny_BinOp (binT ha hb I h fun v u s2 x y H2 I2 rx ry q => ho pins s2 σ H2 x y v u Q I2 rx ry q)
theorem pe_un {op : UnaryOp} {r : V→Hp→VK→Prop} (ho : UnR X (unaryOp op) r) (ha : PE X a ta) : PE X (.UnaryOp op a pos) (tUn r ta):=by
  intro pins s σ H Q I h
  exact UnaryOp_ (thn (ha pins s σ H _ I h) fun v s1 ⟨x,H1,I1,r1,q1⟩ => ho pins s1 σ H1 x v Q I1 r1 q1)
theorem opI {f : Value→Value→Sem Value} {C : Int→Int→Prop} {g : Int→Int→Int}
    (rule : ∀ (i j : Int) (t u : Tok) (s : Shared) (Q : Value→Shared→Prop) (E : Value→Shared→Prop),C i j→Q (.int (g i j) s.toks) { s with toks:=s.toks + 1 }→wpAny (model X.prog X.w) X.A (f (.int i t) (.int j u)) Q E s) :
    OpR X f (rI C fun i j => .int (g i j)):=by
  intro pins s σ H x y v u Q I rx ry h
  obtain ⟨i,j,rfl,rfl,hc,q⟩:=h
  obtain ⟨t,rfl⟩:=rx
  obtain ⟨t',rfl⟩:=ry
  exact rule i j t t' s _ _ hc ⟨.int (g i j),H,I.tok _,⟨_,rfl⟩,q⟩
theorem opI0 {f : Value→Value→Sem Value} {g : Int→Int→Int}
    (rule : ∀ (i j : Int) (t u : Tok) (s : Shared) (Q : Value→Shared→Prop) (E : Value→Shared→Prop),Q (.int (g i j) s.toks) { s with toks:=s.toks + 1 }→wpAny (model X.prog X.w) X.A (f (.int i t) (.int j u)) Q E s) :
    OpR X f (rI0 fun i j => .int (g i j)):=by
  intro pins s σ H x y v u Q I rx ry h
  obtain ⟨i,j,rfl,rfl,q⟩:=h
  obtain ⟨t,rfl⟩:=rx
  obtain ⟨t',rfl⟩:=ry
  exact rule i j t t' s _ _ ⟨.int (g i j),H,I.tok _,⟨_,rfl⟩,q⟩
theorem opB0 {f : Value→Value→Sem Value} {g : Int→Int→Bool}
    (rule : ∀ (i j : Int) (t u : Tok) (s : Shared) (Q : Value→Shared→Prop) (E : Value→Shared→Prop),Q (.bool (g i j)) s→wpAny (model X.prog X.w) X.A (f (.int i t) (.int j u)) Q E s) :
    OpR X f (rI0 fun i j => .bl (g i j)):=by
  intro pins s σ H x y v u Q I rx ry h
  obtain ⟨i,j,rfl,rfl,q⟩:=h
  obtain ⟨t,rfl⟩:=rx
  obtain ⟨t',rfl⟩:=ry
  exact rule i j t t' s _ _ ⟨.bl (g i j),H,I,rfl,q⟩
noncomputable def CDiv (i j : Int) : Prop:=0 < j ∧ j < 1073741824
noncomputable def CDivN (i j : Int) : Prop:=j ≠ 0 ∧ j.natAbs < 1073741824
noncomputable def CPow (i j : Int) : Prop:=0 ≤ j ∧ j ≤ 1000000 ∧ i.natAbs < 2 ^ 64
noncomputable def CMul (i j : Int) : Prop:=(-(2 ^ 64) < i ∧ i < 2 ^ 64) ∨ (-(2 ^ 64) < j ∧ j < 2 ^ 64)
theorem CMul.ok {i j : Int} (h : CMul i j) : IntMulOk i j:=by
  rcases h with ⟨h1,h2⟩ | ⟨h1,h2⟩
  · exact .of_left (intBits_le_64 h1 h2)
  · exact .of_right (intBits_le_64 h1 h2)
theorem op_add : OpR X (binaryOp .Add) (rI0 fun i j => .int (i + j)):=opI0 fun _ _ _ _ _ _ _ q => add_int q
theorem op_sub : OpR X (binaryOp .Sub) (rI0 fun i j => .int (i - j)):=opI0 fun _ _ _ _ _ _ _ q => sub_int q
theorem op_mod : OpR X (binaryOp .Mod) (rI (fun _ j => 0 < j) fun i j => .int (i % j)):=opI fun i j _ _ _ _ _ hc q => by
  have h1 : (0 : Int) < j:=hc
  exact mod_int' (by (first | lia | omega)) (by rw [Int.fmod_eq_emod_of_nonneg i (by (first | lia | omega))]; exact q)
theorem unI {f : Value→Sem Value} {g : Int→Int}
    (rule : ∀ (i : Int) (t : Tok) (s : Shared) (Q : Value→Shared→Prop) (E : Value→Shared→Prop),Q (.int (g i) s.toks) { s with toks:=s.toks + 1 }→wpAny (model X.prog X.w) X.A (f (.int i t)) Q E s) :
    UnR X f (rU fun i => .int (g i)):=by
  intro pins s σ H x v Q I rx h
  obtain ⟨i,rfl,q⟩:=h
  obtain ⟨t,rfl⟩:=rx
  exact rule i t s _ _ ⟨.int (g i),H,I.tok _,⟨_,rfl⟩,q⟩
theorem un_neg : UnR X (unaryOp .USub) (rU fun i => .int (-i)):=unI fun _ _ _ _ _ q => neg_int q
end
noncomputable def scal : V→V→Bool
  | .non,.non => true | .non,.int _ => true | .int _,.non => true | .non,.bl _ => true | .bl _,.non => true | .non,.str _ => true | .str _,.non => true
  | .int _,.int _ => true | .bl _,.bl _ => true | .str _,.str _ => true | .byt _,.byt _ => true
  | .int _,.str _ => true | .str _,.int _ => true | .bl _,.str _ => true | .str _,.bl _ => true
  | _,_ => false
noncomputable def rEq : R2:=fun x y H Q => scal x y = true ∧ Q (.bl (decide (x = y))) H
noncomputable def rNe : R2:=fun x y H Q => scal x y = true ∧ Q (.bl (!decide (x = y))) H
theorem dec_int {i j : Int} : decide (V.int i = V.int j) = (i == j):=by
  rw [Bool.eq_iff_iff]
  simp
theorem dec_bl {i j : Bool} : decide (V.bl i = V.bl j) = (i == j):=by
  rw [Bool.eq_iff_iff]
  simp
theorem dec_str {i j : Str} : decide (V.str i = V.str j) = (i == j):=by
  rw [Bool.eq_iff_iff]
  simp
theorem dec_byt {i j : Array UInt8} : decide (V.byt i = V.byt j) = (i.toList == j.toList):=by
  rw [Bool.eq_iff_iff]
  cases i
  cases j
  simp
section
variable {X : Cx} {a b c : Expr} {ta tb tc : TE} {pos : Pos}
theorem fin_bl {pins : List (Addr × Obj)} {σ : St} {H : Hp} {s : Shared} {Q : VK} {k k' : Bool} (I : Inv X pins σ H s) (q : Q (.bl k) H) (e : k = k') : EP X pins σ Q (.bool k') s:=by
  subst e
  exact ⟨.bl k,H,I,rfl,q⟩
theorem op_eq : OpR X (compareOp .Eq) rEq:=by
  intro pins s σ H x y v u Q I rx ry h
  obtain ⟨hs,q⟩:=h
  cases x with
  | non =>
    cases rx
    cases y with
    | non => cases ry; exact PySem.EqNone.eq_none_none (fin_bl I q (by simp))
    | bl j => cases ry; exact PySem.EqNone.eq_none_bool (fin_bl I q (by simp))
    | int j => obtain ⟨t',rfl⟩:=ry; exact PySem.EqNone.eq_none_int (fin_bl I q (by simp))
    | str j => obtain ⟨t',rfl⟩:=ry; exact PySem.EqNone.eq_none_str (fin_bl I q (by simp))
    | _ => exact absurd (show false = true from hs) Bool.false_ne_true
  | bl i =>
    cases rx
    cases y with
    | non => cases ry; exact PySem.EqNone.eq_bool_none (fin_bl I q (by simp))
    | bl j => cases ry; exact eq_bool (fin_bl I q dec_bl)
    | str j => obtain ⟨t',rfl⟩:=ry; exact PySem.EqMixed.eq_bool_str (fin_bl I q (by simp))
    | _ => exact absurd (show false = true from hs) Bool.false_ne_true
  | int i =>
    obtain ⟨t,rfl⟩:=rx
    cases y with
    | non => cases ry; exact PySem.EqNone.eq_int_none (fin_bl I q (by simp))
    | int j => obtain ⟨t',rfl⟩:=ry; exact eq_int (fin_bl I q dec_int)
    | str j => obtain ⟨t',rfl⟩:=ry; exact PySem.EqMixed.eq_int_str (fin_bl I q (by simp))
    | _ => exact absurd (show false = true from hs) Bool.false_ne_true
  | str i =>
    obtain ⟨t,rfl⟩:=rx
    cases y with
    | non => cases ry; exact PySem.EqNone.eq_str_none (fin_bl I q (by simp))
    | bl j => cases ry; exact PySem.EqMixed.eq_str_bool (fin_bl I q (by simp))
    | int j => obtain ⟨t',rfl⟩:=ry; exact PySem.EqMixed.eq_str_int (fin_bl I q (by simp))
    | str j => obtain ⟨t',rfl⟩:=ry; exact eq_str (fin_bl I q dec_str)
    | _ => exact absurd (show false = true from hs) Bool.false_ne_true
  | byt i =>
    obtain ⟨t,rfl⟩:=rx
    cases y with
    | byt j => obtain ⟨t',rfl⟩:=ry; exact PySem.W.eq_bytes (fin_bl I q dec_byt)
    | _ => exact absurd (show false = true from hs) Bool.false_ne_true
  | _ => cases y <;> exact absurd (show false = true from hs) Bool.false_ne_true
theorem op_ne : OpR X (compareOp .NotEq) rNe:=by
  intro pins s σ H x y v u Q I rx ry h
  obtain ⟨hs,q⟩:=h
  cases x with
  | non =>
    cases rx
    cases y with
    | non => cases ry; exact PySem.EqNone.ne_none_none (fin_bl I q (by simp))
    | bl j => cases ry; exact PySem.EqNone.ne_none_bool (fin_bl I q (by simp))
    | int j => obtain ⟨t',rfl⟩:=ry; exact PySem.EqNone.ne_none_int (fin_bl I q (by simp))
    | str j => obtain ⟨t',rfl⟩:=ry; exact PySem.EqNone.ne_none_str (fin_bl I q (by simp))
    | _ => exact absurd (show false = true from hs) Bool.false_ne_true
  | bl i =>
    cases rx
    cases y with
    | non => cases ry; exact PySem.EqNone.ne_bool_none (fin_bl I q (by simp))
    | bl j => cases ry; exact ne_bool (fin_bl I q (congrArg not dec_bl))
    | str j => obtain ⟨t',rfl⟩:=ry; exact PySem.EqMixed.ne_bool_str (fin_bl I q (by simp))
    | _ => exact absurd (show false = true from hs) Bool.false_ne_true
  | int i =>
    obtain ⟨t,rfl⟩:=rx
    cases y with
    | non => cases ry; exact PySem.EqNone.ne_int_none (fin_bl I q (by simp))
    | int j => obtain ⟨t',rfl⟩:=ry; exact ne_int (fin_bl I q (congrArg not dec_int))
    | str j => obtain ⟨t',rfl⟩:=ry; exact PySem.EqMixed.ne_int_str (fin_bl I q (by simp))
    | _ => exact absurd (show false = true from hs) Bool.false_ne_true
  | str i =>
    obtain ⟨t,rfl⟩:=rx
    cases y with
    | non => cases ry; exact PySem.EqNone.ne_str_none (fin_bl I q (by simp))
    | bl j => cases ry; exact PySem.EqMixed.ne_str_bool (fin_bl I q (by simp))
    | int j => obtain ⟨t',rfl⟩:=ry; exact PySem.EqMixed.ne_str_int (fin_bl I q (by simp))
    | str j => obtain ⟨t',rfl⟩:=ry; exact ne_str (fin_bl I q (congrArg not dec_str))
    | _ => exact absurd (show false = true from hs) Bool.false_ne_true
  | byt i =>
    obtain ⟨t,rfl⟩:=rx
    cases y with
    | byt j => obtain ⟨t',rfl⟩:=ry; exact PySem.W.ne_bytes (fin_bl I q (congrArg not dec_byt))
    | _ => exact absurd (show false = true from hs) Bool.false_ne_true
  | _ => cases y <;> exact absurd (show false = true from hs) Bool.false_ne_true
theorem op_lt : OpR X (compareOp .Lt) (rI0 fun i j => .bl (decide (i < j))):=opB0 fun _ _ _ _ _ _ _ q => lt_int q
theorem op_gt : OpR X (compareOp .Gt) (rI0 fun i j => .bl (decide (j < i))):=opB0 fun _ _ _ _ _ _ _ q => gt_int q
theorem op_ge : OpR X (compareOp .GtE) (rI0 fun i j => .bl (decide (j ≤ i))):=opB0 fun _ _ _ _ _ _ _ q => ge_int q
theorem op_isN : OpR X (compareOp .Is) (fun x y H Q => y = .non ∧ Q (.bl (decide (x = .non))) H):=by
  intro pins s σ H x y v u Q I rx ry h
  obtain ⟨rfl,q⟩:=h
  cases ry
  refine is_none_gen (fin_bl I q ?_)
  cases x <;> first
    | (cases rx; rfl)
    | (obtain ⟨t,rfl⟩:=rx; rfl)
theorem op_notN : OpR X (compareOp .IsNot) (fun x y H Q => y = .non ∧ Q (.bl (!decide (x = .non))) H):=by
  intro pins s σ H x y v u Q I rx ry h
  obtain ⟨rfl,q⟩:=h
  cases ry
  refine isnot_none_gen (fin_bl I q ?_)
  cases x <;> first
    | (cases rx; rfl)
    | (obtain ⟨t,rfl⟩:=rx; rfl)
noncomputable def isObj : HO→Bool
  | .lst _ => true
  | .ins _ _ _ => true
  | _ => false
theorem nomark (b : Expr) {op : CmpOp} (h : op ≠ .In:=by decide) (h2 : op ≠ .NotIn:=by decide) : behindInMarks op b = false:=by
  have e1 : (op == CmpOp.In) = false:=by cases op <;> first | rfl | exact absurd rfl h
  have e2 : (op == CmpOp.NotIn) = false:=by cases op <;> first | rfl | exact absurd rfl h2
  cases b <;> simp [behindInMarks,e1,e2]
theorem pe_cmpR {op : CmpOp} {r : R2} (ho : OpR X (compareOp op) r) (ha : PE X a ta) (hb : PE X b tb) (hm : behindInMarks op b = false) : PE X (.Compare a [op] [b] pos) (tOp r ta tb):=by
  intro pins s σ H Q I h
  exact wpAny_Compare1 (binT ha hb I h fun v u s2 x y H2 I2 rx ry q => ho pins s2 σ H2 x y v u Q I2 rx ry q) hm
noncomputable def tTest (t : TE) : TT:=fun σ H Q => t σ H fun x H' => ∃ k,x = .bl k ∧ Q k H'
theorem pt_cmpR {op : CmpOp} {r : R2} (ho : OpR X (compareOp op) r) (ha : PE X a ta) (hb : PE X b tb) (hm : behindInMarks op b = false) : PT X (.Compare a [op] [b] pos) (tTest (tOp r ta tb)):=by
  intro pins s σ H Q I h
  refine wpAny_isTrue_Compare1 (thn (ha pins s σ H _ I h) fun v s1 ⟨x,H1,I1,r1,q1⟩ => thn (hb pins s1 σ H1 _ I1 q1) fun u s2 ⟨y,H2,I2,r2,q2⟩ =>
    thn (ho pins s2 σ H2 x y v u _ I2 r1 r2 q2) fun c s3 ⟨z,H3,I3,r3,k,e,q3⟩ => ?_) hm
  subst e
  cases r3
  exact wpAny_truthy_bool ⟨H3,I3,q3⟩
noncomputable def tChain (r r' : R2) (ta tb tc : TE) : TE:=fun σ H Q => ta σ H fun x H1 => tb σ H1 fun y H2 => r x y H2 fun z H3 => ∃ k,z = .bl k ∧
  (if k = true then tc σ H3 fun w' H4 => r' y w' H4 Q else Q (.bl false) H3)
noncomputable def TruV (K : PySem.W.Frag) (x : V) (H : Hp) (k : Bool) : Prop :=
  match x with
  | .non => k = false
  | .bl b => k = b
  | .int i => k = (i != 0)
  | .str y => y.length ≤ sizeLine ∧ k = ((y.length : Int) != 0)
  | .byt y => y.size ≤ sizeLine ∧ k = ((y.size : Int) != 0)
  | .ref p => (∃ xs,SqL K H p xs ∧ k = !xs.isEmpty) ∨ (∃ xs,SqT K H p xs ∧ k = !xs.isEmpty) ∨ ∃ kvs,H p = some (.dK kvs) ∧ k = !kvs.isEmpty
  | _ => False
theorem line63 : (sizeLine : Nat) < 2 ^ 63:=by rw [sizeLine_eq]; decide
noncomputable def PlainIxT (b : Expr) : Prop:=∀ o i,subscripted b false o i = operate [o,i] (getItem o i)
theorem vals1 {x : V} {us : List Value} (r : Vals [x] us) : ∃ u,us = [u] ∧ RelV x u:=by
  cases r with
  | cons r1 r2 => cases r2; exact ⟨_,rfl,r1⟩
theorem vals2 {x y : V} {us : List Value} (r : Vals [x,y] us) : ∃ u w',us = [u,w'] ∧ RelV x u ∧ RelV y w':=by
  cases r with
  | cons r1 r2 =>
    cases r2 with
    | cons r3 r4 => cases r4; exact ⟨_,_,rfl,r1,r3⟩
theorem call_abs : CallR X (.builtin "abs") (fun xs H Q => ∃ i,xs = [.int i] ∧ Q (.int (if i < 0 then -i else i)) H):=by
  intro pins s σ H xs us Q I r h
  obtain ⟨i,rfl,q⟩:=h
  obtain ⟨u,rfl,t,rfl⟩:=vals1 r
  exact call_abs_int fun u tk => ⟨.int (if i < 0 then -i else i),H,I.tok _,⟨_,rfl⟩,q⟩
theorem call_max2 (hc : X.calm = true) : CallR X (.builtin "max") (fun xs H Q => ∃ i j,xs = [.int i,.int j] ∧ Q (.int (if j > i then j else i)) H):=by
  intro pins s σ H xs us Q I r h
  obtain ⟨i,j,rfl,q⟩:=h
  obtain ⟨u,w',rfl,⟨t,rfl⟩,⟨t',rfl⟩⟩:=vals2 r
  refine max_two_ints (I.ok.hd hc) fun h' tk k => ⟨_,H,I.kept k,?_,q⟩
  by_cases hj : j > i
  · rw [if_pos hj,if_pos hj]; exact ⟨_,rfl⟩
  · rw [if_neg hj,if_neg hj]; exact ⟨_,rfl⟩
noncomputable def LenV (K : PySem.W.Frag) (x : V) (H : Hp) (n : Nat) : Prop :=
  match x with
  | .str y => y.length ≤ sizeLine ∧ n = y.length
  | .byt y => y.size ≤ sizeLine ∧ n = y.size
  | .ref p => (∃ xs,SqL K H p xs ∧ n = xs.length) ∨ ∃ xs,SqT K H p xs ∧ n = xs.length
  | _ => False
end
end L2
namespace L2
open PySem PySem.Spec PyProof.Rows
structure ObjM (h : Heap) (x dx C : Addr) (mA : Str→Option Value) : Prop where
  obj : h.get? x = some (PySem.W.instObj C dx)
  ns : h.Ns1 dx mA
  ne : dx ≠ x
theorem lookIn_ns {h : Heap} {dx : Addr} {mA : Str→Option Value} (n : h.Ns1 dx mA) : ∃ od,h.get? dx = some od ∧ ∀ name,PySem.W.lookIn name od = some (mA name):=by
  obtain ⟨o,es,ep,ho,hd,hk,_,hm⟩:=n
  refine ⟨o,ho,fun name => ?_⟩
  have e:=hm name
  unfold nsFind findBy at e
  rw [← Array.find?_toList] at e
  unfold PySem.W.lookIn
  rw [hd]
  dsimp only
  split
  · rename_i y q
    rw [q] at e
    exact congrArg some e
  · rename_i q
    rw [q] at e
    have a : es.toList.any (·.refKey) = false:=by
      rw [List.any_eq_false]
      intro y hy
      obtain ⟨z,t,hkey⟩:=hk y (Array.mem_toList_iff.mp hy)
      simp [DictEntry.refKey,hkey]
    have a' : ¬ es.toList.any (·.refKey) = true:=by rw [a]; exact Bool.false_ne_true
    rw [if_neg a']
    exact congrArg some e
theorem ObjM.look {h : Heap} {x dx C : Addr} {mA : Str→Option Value} (I : ObjM h x dx C mA) : ∃ od,PySem.W.InstAt h x (PySem.W.instObj C dx) C (some od) ∧ ∀ name,PySem.W.lookIn name od = some (mA name) :=
  let ⟨od,ho,hl⟩:=lookIn_ns I.ns
  ⟨od,⟨I.obj,rfl,rfl,ho⟩,hl⟩
section
variable {prog : Program} {w : World} {A : Around} {E : Value→Shared→Prop} {s : Shared} {K : PySem.W.Frag} {x dx C f : Addr} {mA : Str→Option Value} {name : Str} {v : Value}
theorem get_map {expr : Bool} {Q : Value→Shared→Prop} (X : K.In s.heap) (I : ObjM s.heap x dx C mA) (hg : PySem.W.plainGet K C name = true) (hh : PySem.W.hasDictIn K C = true)
    (ha : PySem.W.findIn K (.ref C) name = some none) (hv : mA name = some v) (hv' : PySem.W.handedIn v = true) (h : Q v { s with toks:=s.toks + 1 }) :
    wpAny (model prog w) A (getAttr (.ref x) name expr) Q E s:=by
  obtain ⟨od,J,hl⟩:=I.look
  exact PySem.W.get_value X J (PySem.W.plainGet_of hg).1 (PySem.W.findObj_own hh ha rfl (by rw [hl,hv])) hv' h
theorem get_meth {pl : Sem Bool} {Q : Value × List Value→Shared→Prop} (X : K.In s.heap) (I : ObjM s.heap x dx C mA) (hg : PySem.W.plainGet K C name = true)
    (hf : PySem.W.findIn K (.ref C) name = some (some (.ref f))) (ht : PySem.W.isFn K (.ref f) = true) (hv : mA name = none) (h : Q (.ref f,[.ref x]) s) :
    wpAny (model prog w) A (getMethod (.ref x) name pl) Q E s:=by
  obtain ⟨od,J,hl⟩:=I.look
  exact PySem.W.method_fn X J (PySem.W.plainGet_of hg).1 (PySem.W.plainGet_of hg).2 hf (beq_iff_eq.mp ht) (by show (PySem.W.lookIn name od).map (·.isSome) = some false; rw [hl,hv]; rfl) h
theorem set_map {ns : List Str} {Q : Unit→Shared→Prop} (X : K.In s.heap) (I : ObjM s.heap x dx C mA)
    (hs : PySem.W.findIn K (.ref C) "__setattr__" = some (some (.builtin "object.__setattr__"))) (hp : PySem.W.plainOver K C = true) (ht : PySem.W.takerIn K C name = some none) (hh : PySem.W.hasDictIn K C = true)
    (hw : PySem.Within mA ns) (hsz : ns.length ≤ sizeLine)
    (h : ∀ h',ObjM h' x dx C (fun y => if y = name then some v else mA y)→Heap.SameBut dx s.heap h'→Q () { s with heap:=h',toks:=s.toks + 2 }) :
    wpAny (model prog w) A (setAttr (.ref x) name v) Q E s:=by
  obtain ⟨od,J,hl⟩:=I.look
  refine PySem.W.set_plain X J hs (PySem.W.osa_open (s:={ s with toks:=s.toks + 1 }) (r:=none) X J hp ht fun b => ?_)
  obtain ⟨cd,hc,hd'⟩:=PySem.W.any_some hh
  have hx : s.heap.get? x = some ⟨.ref C,some dx,.plain,#[]⟩:=I.obj
  refine wpAny_bind (wpAny_pure (wpAny_bind (wpAny_bind (wpAny_loadPart hx (wpAny_bind (PySem.W.Looks.here (s:={ s with toks:=s.toks + 1 }) (PySem.W.looks_clsIn X hc) ?_))))))
  rw [hd']
  refine wpAny_pure (a:=some dx) (wpAny_bind (wpAny_pure (wpAny_bind ?_)))
  refine wpAny_nsSet1 (s:={ s with toks:=s.toks + 1 }) I.ns fun h' hn2 hs2 => ?_
  obtain ⟨oD,esD,epD,hoD,hdD,hcD⟩:=hn2.count (PySem.Within.cons name v hw)
  refine wpAny_bind (wpAny_lookBehind hoD (by rw [hdD]; exact pastItsLine_dict (Nat.le_trans hcD (by rw [List.length_cons]; (first | lia | omega)))) ?_)
  exact wpAny_pure (h _ ⟨(hs2.2 _ (Ne.symm I.ne)).trans I.obj,hn2,I.ne⟩ hs2)
theorem make_map {R : Result→Shared→Prop} {vs : List Value} {kw : List (Str × Value)} (X : K.In s.heap) (hm : PySem.W.makesIn K C = true)
    (hi : PySem.W.findIn K (.ref C) "__init__" = some (some (.ref f))) (hf : PySem.W.typeIn K (.ref f) = some (.type "function"))
    (h : codeAny (model prog w) (A.under (.builtin "type.__call__" ⟨.ref C :: vs,kw⟩)) (.call (.ref f) ⟨.ref (s.heap.objs.size + 1) :: vs,kw⟩) (PySem.W.InitBack (s.heap.objs.size + 1) R)
      { s with heap:=(s.heap.push PySem.W.emptyDict).push (PySem.W.instObj C s.heap.objs.size) }) :
    codeAny (model prog w) A (.call (.ref C) ⟨vs,kw⟩) R s:=by
  obtain ⟨hh,g,d,t,os⟩:=s
  exact PySem.W.make_core (PySem.W.makes_of X hm) (PySem.W.looks_findIn X hi) (fun self => PySem.W.bind_fn X self hf) (.inl rfl) h
end
noncomputable def putF (f : Str) (v : V) : List (Str × V)→List (Str × V)
  | [] => [(f,v)]
  | (g,x) :: r => if g = f then (g,v) :: r else (g,x) :: putF f v r
theorem lookup_putF (f g : Str) (v : V) : ∀ fs : List (Str × V),(putF f v fs).lookup g = if g = f then some v else fs.lookup g
  | [] => by
    show List.lookup g [(f,v)] = _
    by_cases h : g = f
    · have hb : (g == f) = true:=beq_iff_eq.mpr h
      simp only [List.lookup,hb,if_pos h]
    · have hb : (g == f) = false:=beq_eq_false_iff_ne.mpr h
      simp only [List.lookup,hb,if_neg h]
  | (k,x) :: r => by
    have ih:=lookup_putF f g v r
    rw [show putF f v ((k,x) :: r) = (if k = f then (k,v) :: r else (k,x) :: putF f v r) from rfl]
    by_cases hk : k = f
    · rw [if_pos hk]
      by_cases h : g = k
      · have hb : (g == k) = true:=beq_iff_eq.mpr h
        simp only [List.lookup,hb,if_pos (h.trans hk)]
      · have hb : (g == k) = false:=beq_eq_false_iff_ne.mpr h
        simp only [List.lookup,hb,if_neg (fun e : g = f => h (e.trans hk.symm))]
    · rw [if_neg hk]
      by_cases h : g = k
      · have hb : (g == k) = true:=beq_iff_eq.mpr h
        simp only [List.lookup,hb,if_neg (fun e : g = f => hk (h.symm.trans e))]
      · have hb : (g == k) = false:=beq_eq_false_iff_ne.mpr h
        simp only [List.lookup,hb]
        exact ih
theorem keys_putF (f : Str) (v : V) : ∀ fs : List (Str × V),f ∈ (putF f v fs).map (·.1) ∧ ∀ g,g ∈ fs.map (·.1)→g ∈ (putF f v fs).map (·.1)
  | [] => ⟨by simp [putF],fun g h => by simp at h⟩
  | (k,x) :: r => by
    obtain ⟨i1,i2⟩:=keys_putF f v r
    rw [show putF f v ((k,x) :: r) = (if k = f then (k,v) :: r else (k,x) :: putF f v r) from rfl]
    by_cases hk : k = f
    · rw [if_pos hk]
      subst hk
      exact ⟨by simp,fun g h => by simpa using h⟩
    · rw [if_neg hk]
      refine ⟨?_,fun g h => ?_⟩
      · rw [List.map_cons]
        exact List.mem_cons_of_mem _ i1
      · rw [List.map_cons] at h ⊢
        rcases List.mem_cons.mp h with e | e
        · exact List.mem_cons.mpr (.inl e)
        · exact List.mem_cons_of_mem _ (i2 g e)
theorem length_putF (f : Str) (v : V) : ∀ fs : List (Str × V),(putF f v fs).length ≤ fs.length + 1
  | [] => by simp [putF]
  | (k,x) :: r => by
    have ih:=length_putF f v r
    rw [show putF f v ((k,x) :: r) = (if k = f then (k,v) :: r else (k,x) :: putF f v r) from rfl]
    by_cases hk : k = f
    · rw [if_pos hk,List.length_cons,List.length_cons]; (first | lia | omega)
    · rw [if_neg hk,List.length_cons,List.length_cons]; (first | lia | omega)
theorem RelO.some_of {v : V} {o : Option Value} (r : RelO (some v) o) : ∃ u,o = some u ∧ RelV v u:=by
  cases o with
  | none => exact (show False from r).elim
  | some u => exact ⟨u,rfl,r⟩
theorem RelO.none_of {o : Option Value} (r : RelO none o) : o = none:=by
  cases o with
  | none => rfl
  | some u => exact (show False from r).elim
theorem handed_of {v : V} {u : Value} (r : RelV v u) : PySem.W.handedIn u = true:=by
  cases v with
  | non => cases (show u = Value.none from r); rfl
  | bl b => cases (show u = Value.bool b from r); rfl
  | int i => obtain ⟨t,e⟩:=(show ∃ t,u = Value.int i t from r); cases e; rfl
  | str x => obtain ⟨t,e⟩:=(show ∃ t,u = Value.str x t from r); cases e; rfl
  | byt b => obtain ⟨t,e⟩:=(show ∃ t,u = Value.bytes b t from r); cases e; rfl
  | flt b => obtain ⟨t,e⟩:=(show ∃ t,u = Value.float b t from r); cases e; rfl
  | ref a => cases (show u = Value.ref a from r); rfl
  | ty n => cases (show u = Value.type n from r); rfl
section
variable {P : Program} {w : World} {H H' : Hp} {h h' : Heap} {a C dx : Addr} {fs fs' : List (Str × V)}
theorem ins_get (hok : HOk P w H h) (e : H a = some (.ins C dx fs)) : ∃ mA,ObjM h a dx C mA ∧ (∀ f,RelO (fs.lookup f) (mA f)) ∧ PySem.Within mA (fs.map (·.1)) ∧ fs.length ≤ 1000 ∧ H dx = some (.own a):=by
  obtain ⟨d,z,ne,ob,mA,n,r,q⟩:=(show ObjOk P w H h a (.ins C dx fs) from hok a _ e)
  exact ⟨mA,⟨ob,n,ne⟩,r,q,z,d⟩
end
structure Cls (K : PySem.W.Frag) (C : Addr) : Prop where
  pg : PySem.W.plainGet K C Str.empty = true
  hd : PySem.W.hasDictIn K C = true
  po : PySem.W.plainOver K C = true
  sa : PySem.W.findIn K (.ref C) "__setattr__" = some (some (.builtin "object.__setattr__"))
theorem Cls.get {K : PySem.W.Frag} {C : Addr} (c : Cls K C) (f : Str) : PySem.W.plainGet K C f = true:=c.pg
noncomputable def NoAttr (K : PySem.W.Frag) (C : Addr) (f : Str) : Prop:=PySem.W.findIn K (.ref C) f = some none
theorem NoAttr.taker {K : PySem.W.Frag} {C : Addr} {f : Str} (n : NoAttr K C f) : PySem.W.takerIn K C f = some none:=by
  unfold PySem.W.takerIn
  rw [show PySem.W.findIn K (.ref C) f = some none from n]
  rfl
structure Con (K : PySem.W.Frag) (C : Addr) (f : Str) (v : V) (u : Value) : Prop where
  at_ : PySem.W.findIn K (.ref C) f = some (some u)
  rel : RelV v u
  get : PySem.W.specialIn K u "__get__" = some none
  cp : PySem.W.copiedNames.contains f = false
structure Meth (K : PySem.W.Frag) (C : Addr) (m : Str) (f : Addr) : Prop where
  at_ : PySem.W.findIn K (.ref C) m = some (some (.ref f))
  fn : PySem.W.isFn K (.ref f) = true
  kp : PySem.W.keepIn K (.ref f) = true
section
variable {X : Cx} {pins : List (Addr × Obj)} {σ : St} {H : Hp} {s : Shared} {a C dx : Addr} {fs : List (Str × V)} {f : Str} {v : V} {A : Around} {E : Value→Shared→Prop}
theorem getattr_ok {b : Bool} {Q : Value→Shared→Prop} (I : Inv X pins σ H s) (e : H a = some (.ins C dx fs)) (c : Cls X.K C) (n : NoAttr X.K C f) (l : fs.lookup f = some v)
    (h : ∀ u s',Inv X pins σ H s'→RelV v u→Q u s') : wpAny (model X.prog X.w) A (getAttr (.ref a) f b) Q E s:=by
  obtain ⟨mA,O,r,_,_,_⟩:=ins_get I.hok e
  obtain ⟨u,hu,ru⟩:=RelO.some_of (v:=v) (o:=mA f) (by rw [← l]; exact r f)
  exact get_map I.kIn O (c.get f) c.hd n hu (handed_of ru) (h u _ (I.tok _) ru)
theorem getmeth_ok {m : Str} {g : Addr} {pl : Sem Bool} {Q : Value × List Value→Shared→Prop} (I : Inv X pins σ H s) (e : H a = some (.ins C dx fs)) (c : Cls X.K C) (k : Meth X.K C m g) (l : fs.lookup m = none)
    (h : Q (.ref g,[.ref a]) s) : wpAny (model X.prog X.w) A (getMethod (.ref a) m pl) Q E s:=by
  obtain ⟨mA,O,r,_,_,_⟩:=ins_get I.hok e
  have hn : mA m = none:=RelO.none_of (by rw [← l]; exact r m)
  exact get_meth I.kIn O (c.get m) k.at_ k.fn hn h
theorem setattr_ok {y : V} {u : Value} {Q : Unit→Shared→Prop} (I : Inv X pins σ H s) (e : H a = some (.ins C dx fs)) (c : Cls X.K C) (n : NoAttr X.K C f) (hl : fs.length < 1000) (ry : RelV y u)
    (h : ∀ s',Inv X pins σ (upd H a (.ins C dx (putF f y fs))) s'→Q () s') : wpAny (model X.prog X.w) A (setAttr (.ref a) f u) Q E s:=by
  obtain ⟨mA,O,r,wi,_,ho⟩:=ins_get I.hok e
  have hz : (fs.map (·.1)).length ≤ sizeLine:=by rw [List.length_map,sizeLine_eq]; (first | lia | omega)
  refine set_map I.kIn O c.sa c.po n.taker c.hd wi hz fun h' O' sb => h _ ?_
  have hd : ∃ o,h'.get? dx = some o:=let ⟨o,_,_,e',_⟩:=O'.ns; ⟨o,e'⟩
  refine I.write (x:=a) (e:=dx) (by rw [e]; exact True.intro) (.inr ho) (fun b q hb z => (sb.2 b hb).trans z) hd ?_
  refine ⟨by rw [upd_ne O.ne]; exact ho,?_,O.ne,O'.obj,_,O'.ns,fun g => ?_,fun g hg => ?_⟩
  · have:=length_putF f y fs; (first | lia | omega)
  · show RelO ((putF f y fs).lookup g) (if g = f then some u else mA g)
    rw [lookup_putF]
    by_cases q : g = f
    · rw [if_pos q,if_pos q]; exact ry
    · rw [if_neg q,if_neg q]; exact r g
  · by_cases q : g = f
    · rw [q]; exact (keys_putF f y fs).1
    · refine (keys_putF f y fs).2 g (wi g fun z => hg ?_)
      show (if g = f then some u else mA g) = none
      rw [if_neg q]; exact z
theorem Inv.made (I : Inv X pins σ H s) : Inv X pins σ (upd (upd H s.heap.objs.size (.own (s.heap.objs.size + 1))) (s.heap.objs.size + 1) (.ins C s.heap.objs.size []))
    { s with heap:=(s.heap.push PySem.W.emptyDict).push (PySem.W.instObj C s.heap.objs.size) }:=by
  have e1 : (s.heap.push PySem.W.emptyDict).get? s.heap.objs.size = some PySem.W.emptyDict:=Heap.get?_push_size s.heap rfl
  have e2 : ((s.heap.push PySem.W.emptyDict).push (PySem.W.instObj C s.heap.objs.size)).get? (s.heap.objs.size + 1) = some (PySem.W.instObj C s.heap.objs.size):=by
    have:=Heap.get?_push_size (s.heap.push PySem.W.emptyDict) (o:=PySem.W.instObj C s.heap.objs.size) rfl
    rwa [Heap.size_push] at this
  have e3 : (s.heap.push PySem.W.emptyDict).Ns s.heap.objs.size (fun _ => none):=⟨PySem.W.emptyDict,#[],_,e1,rfl,(fun e he => absurd he (by simp)),fun _ => rfl⟩
  have I1:=I.laid (a:=s.heap.objs.size) (o:=.own (s.heap.objs.size + 1)) (h':=s.heap.push PySem.W.emptyDict) (t':=s.toks) (fun b u q => Heap.get?_push_of_some _ q) (Nat.le_refl _) ⟨_,e1⟩
  refine I1.laid (a:=s.heap.objs.size + 1) (o:=.ins C s.heap.objs.size []) (t':=s.toks) (fun b u q => Heap.get?_push_of_some _ q) (Nat.le_of_eq (Heap.size_push _ _)) ?_
  have ne : s.heap.objs.size ≠ s.heap.objs.size + 1:=Nat.ne_of_lt (Nat.lt_succ_self _)
  refine ⟨by rw [upd_ne ne,upd_same],Nat.zero_le _,ne,e2,fun _ => none,(Heap.Ns1.of_empty e3).at fun o q => Heap.get?_push_of_some _ q,fun _ => True.intro,fun y hy => absurd rfl hy⟩
theorem attr_of {prog : Program} {w : World} {env : Env} {e : Expr} {f : Str} {pos : Pos} {s : Shared} {Q : Value→Shared→Prop} (hb : attributeBase e f env (eval e env) = eval e env)
    (h : wpAny (model prog w) A (eval e env) (fun o s₁ => wpAny (model prog w) A (getAttr o f true) Q E s₁) E s) : wpAny (model prog w) A (eval (.Attribute e f pos) env) Q E s :=
  Attribute_any_ h (by rw [arm_eval_Attribute,hb])
end
noncomputable def tFld (K : PySem.W.Frag) (ta : TE) (f : Str) : TE:=fun σ H Q => ta σ H fun x H1 => ∃ a C dx fs v,x = .ref a ∧ H1 a = some (.ins C dx fs) ∧ Cls K C ∧ NoAttr K C f ∧ fs.lookup f = some v ∧ Q v H1
noncomputable def tCon (K : PySem.W.Frag) (ta : TE) (f : Str) : TE:=fun σ H Q => ta σ H fun x H1 => ∃ a C dx fs v u,x = .ref a ∧ H1 a = some (.ins C dx fs) ∧ Cls K C ∧ Con K C f v u ∧ fs.lookup f = none ∧ Q v H1
noncomputable def sFld (K : PySem.W.Frag) (ta tv : TE) (f : Str) : TS:=fun D σ H => tv σ H fun y H1 => ta σ H1 fun x H2 => ∃ a C dx fs,x = .ref a ∧ H2 a = some (.ins C dx fs) ∧ Cls K C ∧ NoAttr K C f ∧ fs.length < 1000 ∧
  D.nx σ (upd H2 a (.ins C dx (putF f y fs)))
noncomputable def InOp (X : Cx) (op : Operator) (rd : V→V→Hp→VK→Prop) : Prop :=
  ∀ (pins : List (Addr × Obj)) (s : Shared) (σ : St) (H : Hp) (x y : V) (u v : Value) (Q : VK),Inv X pins σ H s→RelV x u→RelV y v→rd x y H Q→wpAny (model X.prog X.w) X.A (inplaceOp op u v) (EP X pins σ Q) X.xe s
noncomputable def sFldAug (K : PySem.W.Frag) (ta tv : TE) (rd : V→V→Hp→VK→Prop) (f : Str) : TS:=fun D σ H => ta σ H fun x H1 => ∃ a C dx fs v,x = .ref a ∧ H1 a = some (.ins C dx fs) ∧ Cls K C ∧ NoAttr K C f ∧ fs.lookup f = some v ∧
  tv σ H1 fun y H2 => rd v y H2 fun z H3 => ∃ dx' fs',H3 a = some (.ins C dx' fs') ∧ fs'.length < 1000 ∧ D.nx σ (upd H3 a (.ins C dx' (putF f z fs')))
section
variable {X : Cx} {o e value : Expr} {f : Str} {pos pos' tpos : Pos} {ta tv : TE}
theorem pe_fld (he : PE X e ta) (hb : attributeBase e f X.env (eval e X.env) = eval e X.env) : PE X (.Attribute e f pos) (tFld X.K ta f):=by
  intro pins s σ H Q I h
  refine attr_of hb (thn (he pins s σ H _ I h) fun u s1 ⟨x,H1,I1,rx,a,C,dx,fs,v,ex,ea,c,n,l,q⟩ => ?_)
  subst ex
  obtain rfl : u = Value.ref a:=rx
  exact getattr_ok I1 ea c n l fun u' s2 I2 ru => ⟨v,H1,I2,ru,q⟩
theorem ps_fld (ha : PE X o ta) (hv : PE X value tv) (hs : swapsWith value (some (.Attribute o f pos')) pos.line X.env = pure false) : PS X (.Assign [.Attribute o f pos'] value pos) (sFld X.K ta tv f):=by
  intro pins s σ H D I h
  refine plainObj_wpAny_Assign_Attribute (thn (hv pins s σ H _ I h) fun u s1 ⟨y,H1,I1,ry,q⟩ => thn (ha pins s1 σ H1 _ I1 q) fun ov s2 ⟨x,H2,I2,rx,a,C,dx,fs,ex,ea,c,n,l,q2⟩ => ?_) hs
  subst ex
  obtain rfl : ov = Value.ref a:=rx
  exact setattr_ok I2 ea c n l ry fun s3 I3 => ⟨σ,_,I3,q2⟩
noncomputable def rAdd : V→V→Hp→VK→Prop:=fun x y H Q => ∃ i j,x = .int i ∧ y = .int j ∧ Q (.int (i + j)) H
noncomputable def rSub : V→V→Hp→VK→Prop:=fun x y H Q => ∃ i j,x = .int i ∧ y = .int j ∧ Q (.int (i - j)) H
end
section
variable {X : Cx} {pins : List (Addr × Obj)} {σ : St} {H : Hp} {s : Shared} {A : Around} {E : Value→Shared→Prop} {Q : Value→Shared→Prop} {c : Value} {b : Bool}
inductive TyOf (K : PySem.W.Frag) (H : Hp) : V→Value→Prop where
  | non : TyOf K H .non (.type "NoneType")
  | bl (x : Bool) : TyOf K H (.bl x) (.type "bool")
  | int (i : Int) : TyOf K H (.int i) (.type "int")
  | str (x : Str) : TyOf K H (.str x) (.type "str")
  | flt (x : UInt64) : TyOf K H (.flt x) (.type "float")
  | lst {a : Addr} {xs : List V} (e : H a = some (.lst xs)) : TyOf K H (.ref a) (.type "list")
  | frz {a : Addr} {o : Obj} {xs : List V} (e : H a = some (.frz o (.lst xs))) : TyOf K H (.ref a) (.type "list")
  | tup {a : Addr} {xs : List V} (e : H a = some (.tup xs)) : TyOf K H (.ref a) (.type "tuple")
  | dK {a : Addr} {kvs : List (Key × V)} (e : H a = some (.dK kvs)) : TyOf K H (.ref a) (.type "dict")
  | dT {a : Addr} {kvs : List (List Key × V)} (e : H a = some (.dT kvs)) : TyOf K H (.ref a) (.type "dict")
  | ins {a C dx : Addr} {fs : List (Str × V)} (e : H a = some (.ins C dx fs)) (cl : Cls K C) (ha : PySem.W.findIn K (.ref C) "__class__" = some (some (.builtin "object.__class__")))
      (hn : PySem.W.specialIn K (.builtin "object.__class__") "__get__" = some (some (.builtin "getset_descriptor.__get__"))) (htk : PySem.W.takesIn K (.builtin "object.__class__") = some true)
      (hm : PySem.W.mroIn K C (.type "object") = some true) : TyOf K H (.ref a) (.ref C)
theorem isinst_ok {x : V} {u t : Value} (I : Inv X pins σ H s) (rx : RelV x u) (ty : TyOf X.K H x t) (e : PySem.W.kitOne X.K t c = some b) (h : ∀ tk,Q (.bool b) { s with toks:=tk }) :
    wpAny (model X.prog X.w) A (call (.builtin "isinstance") [u,c]) Q E s:=by
  cases ty with
  | non => cases (show u = Value.none from rx); exact PySem.W.kia_one PySem.W.kitx_none I.kIn True.intro e (fun z => nomatch z) h
  | bl y => cases (show u = Value.bool y from rx); exact PySem.W.kia_one PySem.W.kitx_bool I.kIn True.intro e (fun z => nomatch z) h
  | int i => obtain ⟨t,q⟩:=(show ∃ t,u = Value.int i t from rx); cases q; exact PySem.W.kia_one PySem.W.kitx_int I.kIn True.intro e (fun z => nomatch z) h
  | str y => obtain ⟨t,q⟩:=(show ∃ t,u = Value.str y t from rx); cases q; exact PySem.W.kia_one PySem.W.kitx_str I.kIn True.intro e (fun z => nomatch z) h
  | flt y => obtain ⟨t,q⟩:=(show ∃ t,u = Value.float y t from rx); cases q; exact PySem.W.kia_one PySem.W.kitx_float I.kIn True.intro e (fun z => nomatch z) h
  | @lst a xs ea =>
    cases (show u = Value.ref a from rx)
    obtain ⟨_,_,n,_,h1⟩:=(show ObjOk X.prog X.w H s.heap a (.lst xs) from I.hok a _ ea)
    exact PySem.W.kia_one PySem.W.kitx_list I.kIn ⟨_,h1,rfl⟩ e (fun z => nomatch z) h
  | @frz a ob xs ea =>
    cases (show u = Value.ref a from rx)
    obtain ⟨_,_,_,n,_,h1⟩:=(show ObjOk X.prog X.w H s.heap a (.frz ob (.lst xs)) from I.hok a _ ea)
    exact PySem.W.kia_one PySem.W.kitx_list I.kIn ⟨_,h1,rfl⟩ e (fun z => nomatch z) h
  | @tup a xs ea =>
    cases (show u = Value.ref a from rx)
    obtain ⟨_,_,_,p⟩:=(show ObjOk X.prog X.w H s.heap a (.tup xs) from I.hok a _ ea)
    obtain ⟨o,h1,h2,_⟩:=p
    exact PySem.W.kia_one PySem.W.kitx_tuple I.kIn ⟨o,h1,h2⟩ e (fun z => nomatch z) h
  | @dK a kvs ea =>
    cases (show u = Value.ref a from rx)
    obtain ⟨_,_,vs,_,p⟩:=(show ObjOk X.prog X.w H s.heap a (.dK kvs) from I.hok a _ ea)
    obtain ⟨o,es,ep,h1,h2,_⟩:=p
    exact PySem.W.kia_one PySem.W.kitx_dict I.kIn ⟨o,h1,h2.1⟩ e (fun z => nomatch z) h
  | @dT a kvs ea =>
    cases (show u = Value.ref a from rx)
    obtain ⟨_,_,xs,_,o,es,ep,h1,h2,_⟩:=(show ObjOk X.prog X.w H s.heap a (.dT kvs) from I.hok a _ ea)
    exact PySem.W.kia_one PySem.W.kitx_dict I.kIn ⟨o,h1,h2.1⟩ e (fun z => nomatch z) h
  | @ins a C dx fs ea cl ha hn htk hm =>
    cases (show u = Value.ref a from rx)
    obtain ⟨mA,O,_⟩:=ins_get I.hok ea
    obtain ⟨od,J,_⟩:=O.look
    exact PySem.W.kia_one (PySem.W.kitx_own (cl.get _) cl.hd ha hn htk hm) I.kIn J e (fun z => nomatch z) h
end
end L2
namespace L2
open PySem PySem.Spec PyProof.Rows
structure Room (k : Nat) (A : Around) : Prop where
  hd : A.handled = none
  dp : A.depth + 3 * k + 5 < recursionLimit
  un : A.units + 16 * k + 200 < cLine
theorem Room.mono {j k : Nat} {A : Around} (r : Room k A) (h : j ≤ k) : Room j A:=⟨r.hd,by have:=r.dp; (first | lia | omega),by have:=r.un; (first | lia | omega)⟩
theorem Room.deeper {k : Nat} {A : Around} (r : Room (k + 1) A) (env : Env) : Room k (A.deeper env) :=
  ⟨r.hd,by have:=r.dp; show A.depth + 1 + 3 * k + 5 < _; (first | lia | omega),by have:=r.un; show A.units + 3 + 16 * k + 200 < _; (first | lia | omega)⟩
theorem make_depth {A : Around} {C : Addr} {us : List Value} {kw : List (Str × Value)} : (A.under (.builtin "type.__call__" ⟨.ref C :: us,kw⟩)).depth = A.depth + 1:=by
  first | rfl | simp [Around.under,Code.weight,Code.isCreation,Code.isGuard,Code.isCaller,Code.frames,Code.isFrame,guardIds]
theorem make_units {A : Around} {C : Addr} {us : List Value} {kw : List (Str × Value)} : (A.under (.builtin "type.__call__" ⟨.ref C :: us,kw⟩)).units = A.units + 1:=by
  first | rfl | simp [Around.under,Code.cUnits,Code.frames,Code.isFrame]
theorem Room.make {k : Nat} {A : Around} (r : Room (k + 1) A) (C : Addr) (us : List Value) (kw : List (Str × Value)) : Room k (A.under (.builtin "type.__call__" ⟨.ref C :: us,kw⟩)) :=
  ⟨r.hd,by have:=r.dp; rw [make_depth]; (first | lia | omega),by have:=r.un; rw [make_units]; (first | lia | omega)⟩
theorem Room.depth {k : Nat} {A : Around} (r : Room k A) : A.depth < recursionLimit:=by have:=r.dp; (first | lia | omega)
theorem Room.units {k : Nat} {A : Around} (r : Room k A) : A.units + 64 < cLine:=by have:=r.un; (first | lia | omega)
noncomputable def tNil : TA:=fun _ H Q => Q [] H
noncomputable def tCons (ta : TE) (tr : TA) : TA:=fun σ H Q => ta σ H fun x H1 => tr σ H1 fun xs H2 => Q (x :: xs) H2
section
variable {X : Cx} {e : Expr} {es : List Expr} {te : TE} {t : TA} {pos : Pos}
theorem pa_nil : PA X [] tNil:=fun _ _ _ _ H Q I h => Calls.spliced_nil ⟨[],H,I,.nil,h⟩
theorem pa_cons (ha : PE X e te) (hr : PA X es t) (hs : starEach (e :: es) X.env = (false,eval e X.env) :: starEach es X.env:=by rfl) : PA X (e :: es) (tCons te t):=by
  intro pos pins s σ H Q I h
  rw [hs]
  show wpAny _ _ (spliced ((false,eval e X.env) :: backTo pos (starEach es X.env))) _ _ s
  refine Calls.spliced_cons (thn (ha pins s σ H _ I h) fun u s1 ⟨x,H1,I1,r1,q1⟩ => ?_)
  exact thn (hr pos pins s1 σ H1 _ I1 q1) fun us s2 ⟨xs,H2,I2,r2,q2⟩ => ⟨x :: xs,H2,I2,.cons r1 r2,q2⟩
noncomputable def tTup (t : TA) : TE:=fun σ H Q => t σ H fun xs H1 => xs.length ≤ sizeLine ∧ ∀ p,H1 p = none→Q (.ref p) (upd H1 p (.tup xs))
noncomputable def tLst (t : TA) : TE:=fun σ H Q => t σ H fun xs H1 => xs.length ≤ sizeLine ∧ ∀ p,H1 p = none→Q (.ref p) (upd H1 p (.lst xs))
theorem pe_tup {x1} (h : PA X es t) : PE X (.Tuple es x1 pos) (tTup t):=by
  intro pins s σ H Q I hq
  refine wpAny_Tuple_spliced (thn (h pos pins s σ H _ I hq) fun us s1 ⟨xs,H1,I1,r,z,q⟩ => ⟨by rw [← r.length]; exact z,?_⟩)
  have hf : H1 s1.heap.objs.size = none:=I1.hok.fresh (Nat.le_refl _)
  refine ⟨.ref s1.heap.objs.size,upd H1 s1.heap.objs.size (.tup xs),I1.laid (t':=s1.toks) (fun b u e => Heap.get?_push_of_some _ e) (Nat.le_refl _) ?_,rfl,q _ hf⟩
  exact ⟨z,us,r,⟨_,Heap.get?_push_size _ rfl,rfl,_,rfl⟩⟩
theorem pe_lst (h : PA X es t) : PE X (.List es pos) (tLst t):=by
  intro pins s σ H Q I hq
  refine wpAny_List_spliced (thn (h pos pins s σ H _ I hq) fun us s1 ⟨xs,H1,I1,r,z,q⟩ => ⟨by rw [← r.length]; exact z,?_⟩)
  have hf : H1 s1.heap.objs.size = none:=I1.hok.fresh (Nat.le_refl _)
  refine ⟨.ref s1.heap.objs.size,upd H1 s1.heap.objs.size (.lst xs),I1.laid (t':=s1.toks) (fun b u e => Heap.get?_push_of_some _ e) (Nat.le_refl _) ?_,rfl,q _ hf⟩
  exact ⟨z,us,0,r,Heap.get?_push_size _ rfl⟩
end
noncomputable abbrev Sp:=List V→Hp→VK→XK→Prop
noncomputable abbrev CXT:=List Env→Hp→Shared→XK→Value→Shared→Prop
structure Env0 (P : Program) (w : World) (K : PySem.W.Frag) (mg : Str→Option Value) (base : Heap) (A : Around) (outer : List Env) (s : Shared) (H : Hp) : Prop where
  frames : A.frames = some outer
  mod : Mod K mg base
  bs : ∀ b o,base.get? b = some o→s.heap.get? b = some o ∧ H b = none
  bsz : base.objs.size ≤ s.heap.objs.size
  funs : s.heap.FunFrames base outer
  frf : ∀ b ∈ frs outer,H b = none
  hok : HOk P w H s.heap
  bare : AllBare s.gens
noncomputable def CE (outer : List Env) (P : Program) (w : World) (H : Hp) (s : Shared) (Q : VK) (u : Value) (s' : Shared) : Prop :=
  ∃ v H',s'.os = s.os ∧ AllBare s'.gens ∧ Un (frs outer) [] H H' s.heap s'.heap ∧ HOk P w H' s'.heap ∧ RelV v u ∧ Q v H'
noncomputable def CR (CX : CXT) (outer : List Env) (P : Program) (w : World) (H : Hp) (s : Shared) (Q : VK) (E : XK) (r : Result) (s' : Shared) : Prop :=
  match r with
  | .ok (.ret u) => CE outer P w H s Q u s'
  | .ok _ => False
  | .error e => CX outer H s E e s'
structure FnOk (P : Program) (w : World) (K : PySem.W.Frag) (mg : Str→Option Value) (base : Heap) (CX : CXT) (k : Nat) (f : Addr) (fd : FuncData) (ps : List Str) (sp : Sp) : Prop where
  len : ∀ vs H Q E,sp vs H Q E→vs.length = ps.length
  run : ∀ (A : Around) (outer : List Env) (s : Shared) (H : Hp) (args : Args) (us : List Value) (vs : List V) (Q : VK) (E : XK),Room k A→Env0 P w K mg base A outer s H→BindsTo s fd args (ps.zip us)→Vals vs us→sp vs H Q E →
    codeAny (model P w) A (.call (.ref f) args) (CR CX outer P w H s Q E) s
theorem FnOk.imp {P : Program} {w : World} {K : PySem.W.Frag} {mg : Str→Option Value} {base : Heap} {CX : CXT} {k : Nat} {f : Addr} {fd : FuncData} {ps : List Str} {sp sp' : Sp} (F : FnOk P w K mg base CX k f fd ps sp)
    (h : ∀ vs H Q E,sp' vs H Q E→sp vs H Q E) : FnOk P w K mg base CX k f fd ps sp' :=
  ⟨fun vs H Q E q => F.len vs H Q E (h _ _ _ _ q),fun A outer s H args us vs Q E hr he hb hv hs => F.run A outer s H args us vs Q E hr he hb hv (h _ _ _ _ hs)⟩
theorem Env0.make {P : Program} {w : World} {K : PySem.W.Frag} {mg : Str→Option Value} {base : Heap} {A : Around} {outer : List Env} {s : Shared} {H : Hp} (e : Env0 P w K mg base A outer s H) (C : Addr) (us : List Value) (kw : List (Str × Value)) :
    Env0 P w K mg base (A.under (.builtin "type.__call__" ⟨.ref C :: us,kw⟩)) outer s H:=⟨by first | exact e.frames | (simpa [Around.under,Code.envs,Code.isFrame,pushEnvs] using e.frames),e.mod,e.bs,e.bsz,e.funs,e.frf,e.hok,e.bare⟩
section
variable {X : Cx} {pins : List (Addr × Obj)} {σ : St} {H : Hp} {s s' : Shared}
theorem Inv.env0 (I : Inv X pins σ H s) : Env0 X.prog X.w X.K X.mg X.base X.A X.stack s H :=
  ⟨I.ok.frames,I.ok.mod,I.bs,Nat.le_trans I.ok.bsz I.sz,I.stack,I.stkFree,I.hok,I.bare⟩
theorem Inv.after {Q : VK} {u : Value} (I : Inv X pins σ H s) (h : CE X.stack X.prog X.w H s Q u s') : EP X pins σ Q u s':=by
  obtain ⟨v,H',os,bare,un,hok,r,q⟩:=h
  obtain ⟨hh,g,d,t,os'⟩:=s'
  obtain rfl : os' = s.os:=os
  exact ⟨v,H',I.call (h':=hh) (g':=g) (d':=d) (t':=t) (ch:=[]) un hok bare (fun b z => absurd z (by simp)),r,q⟩
end
noncomputable def tCall (sp : Sp) (dvs : List V) (E : XK) (t : TA) : TE:=fun σ H Q => t σ H fun vs H1 => sp (vs ++ dvs) H1 Q E
noncomputable def tMeth (C : Addr) (m : Str) (sp : Sp) (dvs : List V) (E : XK) (ta : TE) (t : TA) : TE:=fun σ H Q => ta σ H fun x H1 => ∃ a dx fs,x = .ref a ∧ H1 a = some (.ins C dx fs) ∧ fs.lookup m = none ∧
  t σ H1 fun vs H2 => sp (x :: (vs ++ dvs)) H2 Q E
noncomputable def tMake (C : Addr) (sp : Sp) (dvs : List V) (E : XK) (t : TA) : TE:=fun σ H Q => t σ H fun vs H1 => ∀ x dx,H1 x = none→H1 dx = none→dx ≠ x →
  sp (.ref x :: (vs ++ dvs)) (upd (upd H1 dx (.own x)) x (.ins C dx [])) (fun v H2 => v = .non ∧ Q (.ref x) H2) E
noncomputable def Binds (K : PySem.W.Frag) (fd : FuncData) (ps : List Str) (ds : List Value) : Prop :=
  ∀ (s : Shared) (us : List Value),K.In s.heap→(us ++ ds).length = ps.length→BindsTo s fd ⟨us,[]⟩ (ps.zip (us ++ ds))
theorem Binds.all {K : PySem.W.Frag} {fd : FuncData} {ps : List Str} (h : ∀ us : List Value,us.length = ps.length→bindArgs fd ⟨us,[]⟩ = pure (ps.zip us)) : Binds K fd ps []:=fun s us _ hl => by
  rw [List.append_nil] at hl ⊢
  exact .of_eq (h us hl)
noncomputable def Passes (CX : CXT) (X : Cx) (E : XK) : Prop:=∀ (pins : List (Addr × Obj)) (σ : St) (H : Hp) (s : Shared) (e : Value) (s' : Shared),Inv X pins σ H s→CX X.stack H s E e s'→X.xe e s'
section
variable {X : Cx} {CX : CXT} {k : Nat} {f C : Addr} {fd : FuncData} {ps : List Str} {sp : Sp} {dvs : List V} {ds : List Value} {E : XK} {x m : Str} {p pos apos : Pos} {e o : Expr} {es : List Expr} {ta : TE} {t : TA}
theorem run_fn {pins : List (Addr × Obj)} {σ : St} {H : Hp} {s : Shared} {Q : VK} {us : List Value} {vs : List V} (F : FnOk X.prog X.w X.K X.mg X.base CX k f fd ps sp) (hr : Room k X.A) (hb : Binds X.K fd ps ds) (hd : Vals dvs ds) (hx : Passes CX X E)
    (I : Inv X pins σ H s) (r : Vals vs us) (h : sp (vs ++ dvs) H Q E) : wpAny (model X.prog X.w) X.A (call (.ref f) us) (EP X pins σ Q) X.xe s:=by
  have r2 : Vals (vs ++ dvs) (us ++ ds):=r.append hd
  have hl : (us ++ ds).length = ps.length:=by rw [← r2.length]; exact F.len _ _ _ _ h
  refine wpAny_call (codeAny_mono (F.run X.A X.stack s H ⟨us,[]⟩ (us ++ ds) (vs ++ dvs) Q E hr I.env0 (hb s us I.kIn hl) r2 h) fun r s' hq => ?_)
  cases r with
  | error e => exact hx pins σ H s e s' I hq
  | ok fl =>
    cases fl with
    | ret u => exact I.after hq
    | next => exact False.elim hq
    | brk => exact False.elim hq
    | cont => exact False.elim hq
theorem pe_call (F : FnOk X.prog X.w X.K X.mg X.base CX k f fd ps sp) (hr : Room k X.A) (hg : Gl X x) (hm : X.mg x = some (.ref f)) (hk : PySem.W.keepIn X.K (.ref f) = true) (hb : Binds X.K fd ps ds) (hd : Vals dvs ds) (hx : Passes CX X E)
    (ha : PA X (e :: es) t) (hdb : (x == ("__debug__" : Str)) = false:=by decide) (he : starEach (e :: es) X.env = (false,eval e X.env) :: starEach es X.env:=by rfl) (hpl : (backTo pos (starEach es X.env)).any (·.1) = false:=by rfl) :
    PE X (.Call (.Name x p) (e :: es) [] pos) (tCall sp dvs E t):=by
  intro pins s σ H Q I h
  refine wpAny_Call_Name_kw (ld_glob I hg hm ?_ hdb)
  refine PySem.W.callWith_K (h₀:=X.base) I.ok.mod.kin hk (thn (ha pos pins s σ H _ I h) fun us s1 ⟨vs,H1,I1,r,q⟩ => ⟨I1.kIn,?_⟩) he hpl
  exact run_fn F hr hb hd hx I1 r q
theorem pe_meth0 {pl : Sem Bool} (he : PE X o ta) (c : Cls X.K C) (hm : Meth X.K C m f) (F : FnOk X.prog X.w X.K X.mg X.base CX k f fd ps sp) (hr : Room k X.A) (hb : Binds X.K fd ps ds) (hd : Vals dvs ds) (hx : Passes CX X E)
    (ht : eval (.Call (.Attribute o m apos) [] [] pos) X.env = (do
      let ov ← eval o X.env
      standAt apos.atName
      let (f,first) ← holding [ov] (getMethod ov m pl)
      callWith pos f first (backTo pos (starEach [] X.env)) (backToKw pos (keywordEach [] X.env))):=by rfl) :
    PE X (.Call (.Attribute o m apos) [] [] pos) (tMeth C m sp dvs E ta tNil):=by
  intro pins s σ H Q I h
  refine PySem.W.methodCall_KW (pl:=pl) (thn (he pins s σ H _ I h) fun u s1 ⟨x,H1,I1,rx,a,dx,fs,ex,ea,l,q⟩ => ?_) ht
  subst ex
  obtain rfl : u = Value.ref a:=rx
  refine getmeth_ok I1 ea c hm l ?_
  exact PySem.W.callWith_K0 (first:=[.ref a]) I1.kIn hm.kp (run_fn (us:=[.ref a]) (vs:=[.ref a]) F hr hb hd hx I1 (.cons rfl .nil) q)
structure Mk (K : PySem.W.Frag) (C f : Addr) : Prop where
  makes : PySem.W.makesIn K C = true
  init : PySem.W.findIn K (.ref C) "__init__" = some (some (.ref f))
  fn : PySem.W.isFn K (.ref f) = true
  kp : PySem.W.keepIn K (.ref C) = true
theorem run_make {pins : List (Addr × Obj)} {σ : St} {H : Hp} {s : Shared} {Q : VK} {us : List Value} {vs : List V} (M : Mk X.K C f) (F : FnOk X.prog X.w X.K X.mg X.base CX k f fd ps sp) (hr : Room (k + 1) X.A) (hb : Binds X.K fd ps ds) (hd : Vals dvs ds)
    (hx : Passes CX X E) (I : Inv X pins σ H s) (r : Vals vs us)
    (h : ∀ x dx,H x = none→H dx = none→dx ≠ x→sp (.ref x :: (vs ++ dvs)) (upd (upd H dx (.own x)) x (.ins C dx [])) (fun v H2 => v = .non ∧ Q (.ref x) H2) E) :
    wpAny (model X.prog X.w) X.A (call (.ref C) us) (EP X pins σ Q) X.xe s:=by
  have hq:=h (s.heap.objs.size + 1) s.heap.objs.size (I.hok.fresh (Nat.le_succ _)) (I.hok.fresh (Nat.le_refl _)) (Nat.ne_of_lt (Nat.lt_succ_self _))
  have I2:=Inv.made (C:=C) I
  have r2 : Vals (V.ref (s.heap.objs.size + 1) :: (vs ++ dvs)) (Value.ref (s.heap.objs.size + 1) :: (us ++ ds)):=.cons rfl (r.append hd)
  have hl : (Value.ref (s.heap.objs.size + 1) :: us ++ ds).length = ps.length:=by
    have e:=r2.length
    rw [F.len _ _ _ _ hq] at e
    exact e.symm
  refine wpAny_call (make_map (f:=f) I.kIn M.makes M.init (beq_iff_eq.mp M.fn) (codeAny_mono (F.run _ X.stack _ _ ⟨Value.ref (s.heap.objs.size + 1) :: us,[]⟩ (Value.ref (s.heap.objs.size + 1) :: (us ++ ds)) _ _ E (hr.make C us [])
    (I2.env0.make C us []) (hb _ (Value.ref (s.heap.objs.size + 1) :: us) I2.kIn hl) r2 hq) fun r s' hq' => ?_))
  cases r with
  | error e => exact hx pins σ _ _ e s' I2 hq'
  | ok fl =>
    cases fl with
    | ret u =>
      obtain ⟨v,H',I3,rv,ev,q3⟩:=I2.after hq'
      subst ev
      exact ⟨rv,⟨V.ref (s.heap.objs.size + 1),H',I3,rfl,q3⟩⟩
    | next => exact False.elim hq'
    | brk => exact False.elim hq'
    | cont => exact False.elim hq'
theorem pe_make (M : Mk X.K C f) (F : FnOk X.prog X.w X.K X.mg X.base CX k f fd ps sp) (hr : Room (k + 1) X.A) (hg : Gl X x) (hm : X.mg x = some (.ref C)) (hb : Binds X.K fd ps ds) (hd : Vals dvs ds) (hx : Passes CX X E)
    (ha : PA X (e :: es) t) (hdb : (x == ("__debug__" : Str)) = false:=by decide) (he : starEach (e :: es) X.env = (false,eval e X.env) :: starEach es X.env:=by rfl) (hpl : (backTo pos (starEach es X.env)).any (·.1) = false:=by rfl) :
    PE X (.Call (.Name x p) (e :: es) [] pos) (tMake C sp dvs E t):=by
  intro pins s σ H Q I h
  refine wpAny_Call_Name_kw (ld_glob I hg hm ?_ hdb)
  refine PySem.W.callWith_K (h₀:=X.base) I.ok.mod.kin M.kp (thn (ha pos pins s σ H _ I h) fun us s1 ⟨vs,H1,I1,r,q⟩ => ⟨I1.kIn,?_⟩) he hpl
  exact run_make M F hr hb hd hx I1 r q
end
noncomputable def PK (X : Cx) (kws : List Keyword) (t : TA) : Prop :=
  ∀ (pos : Pos) (pins : List (Addr × Obj)) (s : Shared) (σ : St) (H : Hp) (Q : List V→Hp→Prop),Inv X pins σ H s→t σ H Q→wpAny (model X.prog X.w) X.A (evalAll ((backToKw pos (keywordEach kws X.env)).map (·.2))) (AP X pins σ Q) X.xe s
section
variable {X : Cx} {CX : CXT} {k : Nat} {f C : Addr} {fd : FuncData} {ps ks : List Str} {sp : Sp} {E : XK} {x m : Str} {p pos apos kpos : Pos} {e o : Expr} {es : List Expr} {kws : List Keyword} {te ta : TE} {t tk : TA} {nm : Option Str}
structure KBinds (K : PySem.W.Frag) (fd : FuncData) (ps ks : List Str) (g : List Value→List Value→List Value) (gV : List V→List V→List V) : Prop where
  to : ∀ (s : Shared) (us ws : List Value),K.In s.heap→(g us ws).length = ps.length→BindsTo s fd ⟨us,ks.zip ws⟩ (ps.zip (g us ws))
  rel : ∀ {vs : List V} {us : List Value} {zs : List V} {ws : List Value},Vals vs us→Vals zs ws→Vals (gV vs zs) (g us ws)
noncomputable def tCallK (sp : Sp) (gV : List V→List V→List V) (E : XK) (t tk : TA) : TE:=fun σ H Q => t σ H fun vs H1 => tk σ H1 fun zs H2 => sp (gV vs zs) H2 Q E
variable {g : List Value→List Value→List Value} {gV : List V→List V→List V}
end
structure FnScope (N P : List Str) (sc : Scope) : Prop where
  kind : sc.kind = .function
  co : sc.isCoroutine = false
  gen : sc.isGenerator = false
  nd : N.Nodup
  pre : N.take P.length = P
  par : ∀ x ∈ P,sc.names.lookup x = some .local ∨ sc.names.lookup x = some .cell
  nofree : ∀ y ∈ sc.names,y.2 ≠ .free
theorem bindL_out {kindOf : Str→Option NameKind} {x : Str} : ∀ {binds : List (Str × Value)} {m : Str→Option Value},(∀ v,(x,v) ∉ binds)→bindL kindOf binds m x = m x
  | [],_,_ => rfl
  | (n,v) :: r,m,h => by
    unfold bindL
    rw [bindL_out fun w hw => h w (List.mem_cons_of_mem _ hw)]
    split
    · have : x ≠ n:=by rintro rfl; exact h v List.mem_cons_self
      simp [this]
    · rfl
theorem bindC_out {kindOf : Str→Option NameKind} {x : Str} : ∀ {binds : List (Str × Value)} {m : Str→Option Value},(∀ v,(x,v) ∉ binds)→bindC kindOf binds m x = m x
  | [],_,_ => rfl
  | (n,v) :: r,m,h => by
    unfold bindC
    rw [bindC_out fun w hw => h w (List.mem_cons_of_mem _ hw)]
    split
    · rfl
    · have : x ≠ n:=by rintro rfl; exact h v List.mem_cons_self
      simp [this]
theorem bindL_get {kindOf : Str→Option NameKind} {x : Str} {v : Value} : ∀ {P : List Str} {vs : List Value} {i : Nat} {m : Str→Option Value},P.Nodup→P[i]? = some x→vs[i]? = some v→kindOf x = some .local →
    bindL kindOf (P.zip vs) m x = some v
  | [],_,_,_,_,h,_,_ => by simp at h
  | _ :: _,[],_,_,_,_,h,_ => by simp at h
  | p :: P,w :: vs,0,m,nd,h1,h2,hk => by
    simp at h1 h2; subst h1; subst h2
    show bindL kindOf ((p,w) :: P.zip vs) m p = _
    unfold bindL
    rw [bindL_out fun v hv => (List.nodup_cons.mp nd).1 (List.of_mem_zip hv).1,if_pos hk]
    simp
  | p :: P,w :: vs,i + 1,m,nd,h1,h2,hk => by
    show bindL kindOf ((p,w) :: P.zip vs) m x = _
    unfold bindL
    exact bindL_get (i:=i) (List.nodup_cons.mp nd).2 (by simpa using h1) (by simpa using h2) hk
theorem bindC_get {kindOf : Str→Option NameKind} {x : Str} {v : Value} : ∀ {P : List Str} {vs : List Value} {i : Nat} {m : Str→Option Value},P.Nodup→P[i]? = some x→vs[i]? = some v→kindOf x ≠ some .local →
    bindC kindOf (P.zip vs) m x = some v
  | [],_,_,_,_,h,_,_ => by simp at h
  | _ :: _,[],_,_,_,_,h,_ => by simp at h
  | p :: P,w :: vs,0,m,nd,h1,h2,hk => by
    simp at h1 h2; subst h1; subst h2
    show bindC kindOf ((p,w) :: P.zip vs) m p = _
    unfold bindC
    rw [bindC_out fun v hv => (List.nodup_cons.mp nd).1 (List.of_mem_zip hv).1,if_neg hk]
    simp
  | p :: P,w :: vs,i + 1,m,nd,h1,h2,hk => by
    show bindC kindOf ((p,w) :: P.zip vs) m x = _
    unfold bindC
    exact bindC_get (i:=i) (List.nodup_cons.mp nd).2 (by simpa using h1) (by simpa using h2) hk
noncomputable def start (N : List Str) (vs : List V) : St:=vs.map some ++ List.replicate (N.length - vs.length) none
noncomputable def cxOf (CX : CXT) (P : Program) (w : World) (K : PySem.W.Frag) (mg : Str→Option Value) (base : Heap) (N : List Str) (qual : Str) (scope : Scope) (f : Addr) (cd : Value) (A : Around) (outer : List Env) (s : Shared) (H : Hp) (E : XK) : Cx where
  prog:=P
  w:=w
  K:=K
  mg:=mg
  base:=base
  A:=A.deeper (envOfC qual scope s.heap.objs.size f cd)
  N:=N
  s₀:=s
  H₀:=H
  env:=envOfC qual scope s.heap.objs.size f cd
  outer:=outer
  stack:=envOfC qual scope s.heap.objs.size f cd :: outer
  ex:=[]
  calm:=true
  fn:=fun _ => true
  pn:=[]
  xe:=fun e s' => wpAny (model P w) (A.deeper (envOfC qual scope s.heap.objs.size f cd)) (leaving (envOfC qual scope s.heap.objs.size f cd) e) (fun _ s'' => CX outer H s E e s'') (fun e' s'' => CX outer H s E e' s'') s'
theorem cell_has {sc : Scope} {n : Nat} {x : Str} (h : sc.names.lookup x = some .cell) : ∃ c,(cellsFrom n sc.names []).lookup x = some c:=by
  have q:=PySem.W.cellsFrom_some sc.names n [] (.inl h)
  exact Option.isSome_iff_exists.mp q
theorem inv_start {CX : CXT} {P : Program} {w : World} {K : PySem.W.Frag} {mg : Str→Option Value} {base : Heap} {N ps : List Str} {qual : Str} {scope : Scope} {f : Addr} {cd : Value} {A : Around} {outer : List Env} {s s1 : Shared} {H : Hp} {E : XK} {us : List Value} {vs : List V}
    (S : FnScope N ps scope) (hd : A.handled = none) (e0 : Env0 P w K mg base A outer s H) (hl : vs.length = ps.length) (r : Vals vs us)
    (x : InCallC s s.heap.objs.size (bindL (envOfC qual scope s.heap.objs.size f cd).kindOf (ps.zip us) fun _ => none) (cellsFrom (s.heap.objs.size + 1) scope.names []) (bindC (envOfC qual scope s.heap.objs.size f cd).kindOf (ps.zip us) fun _ => none) s1) :
    Inv (cxOf CX P w K mg base N qual scope f cd A outer s H E) [] (start N vs) H s1:=by
  have hpl : ps.length ≤ N.length:=by have:=congrArg List.length S.pre; rw [List.length_take] at this; (first | lia | omega)
  obtain ⟨h1,tk,rfl,hk⟩:=x.done
  have noA : ∀ b : Addr,b ∉ (cxOf CX P w K mg base N qual scope f cd A outer s H E).ex:=fun b z => absurd (show b ∈ ([] : List Addr) from z) (by simp)
  refine ⟨⟨e0.mod,S.kind,rfl,rfl,Nat.le_refl _,fun y z c h1 h2 => ?_,fun y hy => ?_,fun y c _ h => ?_,fun _ => hd,Around.frames_deeper e0.frames,.inr ⟨rfl,rfl⟩,fun b z => absurd z (noA b),e0.bs,e0.bsz,fun b _ _ => noA b,fun b z => absurd z (noA b),e0.funs,e0.frf⟩,
    rfl,e0.bare,Un.kept hk,⟨_,x.toInCall.ns,fun i y v h1 h2 h3 => ?_⟩,fun y c h => ⟨_,x.cell y c h⟩,e0.hok.fresh (Nat.le_refl _),fun y c h => ?_,fun p hp => absurd (show p ∈ ([] : List (Addr × Obj)) from hp) (by simp),e0.hok.kept hk,?_⟩
  · exact name_of_addr x.apart (PySem.mem_of_lookup h1) (PySem.mem_of_lookup h2)
  · have hy : scope.names.lookup y = some .cell ∨ scope.names.lookup y = some .free:=hy
    rcases hy with hy | hy
    · exact cell_has hy
    · exact absurd rfl (S.nofree _ (PySem.mem_of_lookup hy))
  · exact Nat.le_of_lt (x.above y c (PySem.mem_of_lookup h))
  · have hi : i < vs.length:=by
      unfold start at h2
      by_cases hi : i < vs.length
      · exact hi
      · rw [List.getElem?_append_right (by simpa using hi)] at h2
        rw [List.getElem?_replicate] at h2
        split at h2 <;> cases h2
    have ha : vs[i]? = some v:=by
      unfold start at h2
      rw [List.getElem?_append_left (by simpa using hi),List.getElem?_map] at h2
      cases e : vs[i]? with
      | none => rw [e] at h2; cases h2
      | some a => rw [e] at h2; cases h2; rfl
    obtain ⟨u,hu,rv⟩:=r.get ha
    have hp : ps[i]? = some y:=by
      rw [← S.pre,List.getElem?_take_of_lt (by (first | lia | omega))]; exact h1
    have ndP : ps.Nodup:=by rw [← S.pre]; exact S.nd.sublist (List.take_sublist _ _)
    refine ⟨u,rv,?_⟩
    rcases S.par y (List.mem_of_getElem? hp) with k | k
    · exact .inl ⟨k,bindL_get ndP hp hu k⟩
    · obtain ⟨c,e⟩:=cell_has (n:=s.heap.objs.size + 1) k
      refine .inr ⟨.inl k,c,e,?_⟩
      have q:=x.cell y c e
      rw [bindC_get ndP hp hu (by show scope.names.lookup y ≠ _; rw [k]; decide)] at q
      exact q
  · exact e0.hok.fresh (Nat.le_of_lt (x.above y c (PySem.mem_of_lookup h)))
  · unfold start
    show _ = N.length
    rw [List.length_append,List.length_map,List.length_replicate]
    (first | lia | omega)
theorem fn_of {CX : CXT} {P : Program} {w : World} {K : PySem.W.Frag} {mg : Str→Option Value} {base : Heap} {k : Nat} {f : Addr} {name qual : Str} {params : Arguments} {body : List Stmt} {scope : Scope} {dV kV doc pm cdv ct oc : Value} {an od : Option Addr}
    {osl : Array (Option Value)} {N ps : List Str} {sp : Sp} (lk : K.lookup f = some ⟨oc,od,.func (PySem.W.fnOf name qual params body scope dV kV doc pm an cdv ct),osl⟩) (hcd : PySem.W.codeIn K cdv qual = true) (S : FnScope N ps scope)
    (len : ∀ vs H Q E,sp vs H Q E→vs.length = ps.length)
    (hbody : ∀ (A : Around) (outer : List Env) (s : Shared) (H : Hp) (vs : List V) (Q : VK) (E : XK),Room k (A.deeper (envOfC qual scope s.heap.objs.size f cdv))→sp vs H Q E →
      ∃ t,PSs (cxOf CX P w K mg base N qual scope f cdv A outer s H E) body t ∧ t { nx:=fun _ H' => Q .non H',rt:=Q } (start N vs) H) :
    FnOk P w K mg base CX (k + 1) f (PySem.W.fnOf name qual params body scope dV kV doc pm an cdv ct) ps sp:=by
  refine ⟨len,fun A outer s H args us vs Q E hr e0 hb r hsp => ?_⟩
  have hl:=len _ _ _ _ hsp
  have KX : K.In s.heap:=e0.mod.kin.keeps fun b o e => (e0.bs b o e).1
  have lim : s.heap.NoLimit:=e0.mod.nolimit.keeps fun b o e => (e0.bs b o e).1
  have hkind : ∀ y ∈ ps.zip us,scope.names.lookup y.1 = some .local ∨ (scope.names.lookup y.1 = some .cell ∧ ((cellsFrom (s.heap.objs.size + 1) scope.names []).lookup y.1).isSome = true):=fun ⟨n,v⟩ hy => by
    rcases S.par n (List.of_mem_zip hy).1 with q | q
    · exact .inl q
    · exact .inr ⟨q,PySem.W.cellsFrom_some _ _ _ (.inl q)⟩
  refine codeAny_call_function hr.depth (KX _ _ lk) rfl S.co S.gen rfl (PySem.W.codeRec_of KX hcd) (hb _ _ _ _ ?_)
  refine wpAny_newFunctionEnv_cells S.kind hkind fun env he s1 x => ?_
  subst he
  refine ⟨lim.keeps x.toInCall.keep,codeAny_func ?_⟩
  obtain ⟨t,ht,hq⟩:=hbody A outer s H vs Q E (hr.deeper _) hsp
  have I : Inv (cxOf CX P w K mg base N qual scope f cdv A outer s H E) [] (start N vs) H s1:=inv_start S hr.hd e0 hl r x
  refine wpAny_mono (ht [] s1 (start N vs) H _ I hq) (fun fl s' hs => ?_) fun e s' hs => hs
  have fin : ∀ {σ' : St} {H' : Hp} {v : V} {u : Value},Inv (cxOf CX P w K mg base N qual scope f cdv A outer s H E) [] σ' H' s'→RelV v u→Q v H'→CE outer P w H s Q u s' :=
    fun {σ' H' v u} J rv q => ⟨v,H',J.os,J.bare,J.base,J.hok,rv,q⟩
  cases fl with
  | ret u =>
    obtain ⟨v,σ',H',J,rv,q⟩:=hs
    exact fin J rv q
  | next =>
    obtain ⟨σ',H',J,q⟩:=hs
    exact fin (v:=V.non) (u:=Value.none) J rfl q
  | brk =>
    obtain ⟨_,_,_,q⟩:=hs
    exact False.elim q
  | cont =>
    obtain ⟨_,_,_,q⟩:=hs
    exact False.elim q
end L2
namespace L2
open PySem PySem.Spec PyProof.Rows
section
variable {X : Cx} {x : Str} {p pos : Pos} {e : Expr} {es : List Expr} {t : TA} {id T : String} {r : List V→Hp→VK→Prop}
noncomputable def tCB (r : List V→Hp→VK→Prop) (t : TA) : TE:=fun σ H Q => t σ H fun vs H1 => r vs H1 Q
theorem pe_callB (hc : CallR X (.builtin id) r) (hg : Gl X x) (hm : X.mg x = none) (hv : bootBuiltins x = some (.builtin id)) (ha : PA X (e :: es) t) (hn : x ≠ "__name__":=by decide) (hdb : (x == ("__debug__" : Str)) = false:=by decide)
    (he : starEach (e :: es) X.env = (false,eval e X.env) :: starEach es X.env:=by rfl) (hpl : (backTo pos (starEach es X.env)).any (·.1) = false:=by rfl) : PE X (.Call (.Name x p) (e :: es) [] pos) (tCB r t):=by
  intro pins s σ H Q I h
  refine wpAny_Call_Name_kw (ld_blt I hg hm hv ?_ hn hdb)
  exact PyProof.Rows.callWith_builtin1 (thn (ha pos pins s σ H _ I h) fun us s1 ⟨vs,H1,I1,r1,q1⟩ => hc pins s1 σ H1 vs us Q I1 r1 q1) he hpl
theorem pe_callTy (hc : CallR X (.type T) r) (hg : Gl X x) (hm : X.mg x = none) (hv : bootBuiltins x = some (.type T)) (ha : PA X (e :: es) t) (hn : x ≠ "__name__":=by decide) (hdb : (x == ("__debug__" : Str)) = false:=by decide)
    (he : starEach (e :: es) X.env = (false,eval e X.env) :: starEach es X.env:=by rfl) (hpl : (backTo pos (starEach es X.env)).any (·.1) = false:=by rfl) : PE X (.Call (.Name x p) (e :: es) [] pos) (tCB r t):=by
  intro pins s σ H Q I h
  refine wpAny_Call_Name_kw (ld_blt I hg hm hv ?_ hn hdb)
  exact PyProof.Rows.callWith_type1 (thn (ha pos pins s σ H _ I h) fun us s1 ⟨vs,H1,I1,r1,q1⟩ => hc pins s1 σ H1 vs us Q I1 r1 q1) he hpl
end
end L2
namespace HT
open PySem PyProof.Rows
noncomputable def lexLt : List Int→List Int→Bool
  | [],[] => false
  | [],_ :: _ => true
  | _ :: _,[] => false
  | x :: xs,y :: ys => if x = y then lexLt xs ys else decide (x < y)
section
open PySem.SeqAt
open PySem.AutoSeq1 (wpAny_loadPart')
open PySem.MeetsSeq PySem.MeetsSeq2 PySem.MeetsSeq3
end
section
variable {prog : Program} {w : World} {A : Around} {E : Value→Shared→Prop} {s : Shared}
noncomputable def sIx (n d : Nat) : Option Int→Nat
  | none => d
  | some v => if v < 0 then (v + (n : Int)).toNat else min v.toNat n
theorem sIx_none (n d : Nat) : sIx n d none = d:=rfl
theorem sIx_nat (n d k : Nat) : sIx n d (some (k : Int)) = min k n:=by
  show (if (k : Int) < 0 then ((k : Int) + (n : Int)).toNat else min (k : Int).toNat n) = min k n
  rw [if_neg (by (first | lia | omega)),Int.toNat_natCast]
end
end HT
namespace L2
open PySem PySem.Spec PyProof.Rows
noncomputable abbrev TO:=St→Hp→(Option Int→Hp→Prop)→Prop
noncomputable def PO (X : Cx) (e : Option Expr) (t : TO) : Prop :=
  ∀ (pins : List (Addr × Obj)) (s : Shared) (σ : St) (H : Hp) (Q : Option Int→Hp→Prop),Inv X pins σ H s→t σ H Q →
    wpAny (model X.prog X.w) X.A (evalPart e X.env) (fun u s' => ∃ o H',Inv X pins σ H' s' ∧ IsPart u o ∧ Q o H') X.xe s
noncomputable def tNoPart : TO:=fun _ H Q => Q none H
noncomputable def tPart (t : TE) : TO:=fun σ H Q => t σ H fun x H1 => ∃ i,x = .int i ∧ Q (some i) H1
section
variable {X : Cx} {e : Expr} {te : TE} {lo hi : Option Expr} {tl th : TO} {pos p2 : Pos}
theorem po_none : PO X none tNoPart:=by
  intro pins s σ H Q I h
  rw [evalPart_none]
  exact wpAny_pure ⟨none,H,I,.none,h⟩
theorem po_some (h : PE X e te) : PO X (some e) (tPart te):=by
  intro pins s σ H Q I hw
  rw [evalPart_some]
  refine thn (h pins s σ H _ I hw) fun u s1 ⟨x,H1,I1,r1,q1⟩ => ?_
  obtain ⟨i,rfl,q⟩:=q1
  obtain ⟨t,rfl⟩:=r1
  exact ⟨some i,H1,I1,.int i t,q⟩
noncomputable def SlR (X : Cx) (r : V→Option Int→Option Int→Hp→VK→Prop) : Prop :=
  ∀ (pins : List (Addr × Obj)) (s : Shared) (σ : St) (H : Hp) (x : V) (v vl vu : Value) (lo hi : Option Int) (sl : Addr) (Q : VK),Inv X pins σ H s→RelV x v→s.heap.IsSliceOf sl vl vu .none→IsPart vl lo→IsPart vu hi→r x lo hi H Q →
    ∃ T id,typeLookup (.type T) "__getitem__" = pure (some (.builtin id)) ∧ s.TypeIs v T ∧ wpAny (model X.prog X.w) X.A (getItem v (.ref sl)) (EP X pins σ Q) X.xe s
noncomputable def tSl (r : V→Option Int→Option Int→Hp→VK→Prop) (te : TE) (tl th : TO) : TE:=fun σ H Q => te σ H fun x H1 => tl σ H1 fun l H2 => th σ H2 fun u H3 => r x l u H3 Q
theorem pe_slice {r : V→Option Int→Option Int→Hp→VK→Prop} (hr : SlR X r) (he : PE X e te) (hl : PO X lo tl) (hu : PO X hi th) : PE X (.Subscript e (.Slice lo hi none p2) pos) (tSl r te tl th):=by
  intro pins s σ H Q I h
  refine Subscript_ (thn (he pins s σ H _ I h) fun v s1 ⟨x,H1,I1,r1,q1⟩ => ?_)
  refine wpAny_Slice (thn (hl pins s1 σ H1 _ I1 q1) fun vl s2 ⟨l,H2,I2,pl,q2⟩ => thn (hu pins s2 σ H2 _ I2 q2) fun vu s3 ⟨u,H3,I3,pu,q3⟩ => ?_)
  rw [evalPart_none]
  refine wpAny_pure ?_
  have I4 : Inv X pins σ H3 { s3 with heap:=s3.heap.push { cls:=.type "slice",data:=.fields #[vl,vu,.none] } }:=I3.kept (t':=s3.toks) fun b ob q => Heap.get?_push_of_some _ q
  obtain ⟨T,id,hT,ht,hg⟩:=hr pins { s3 with heap:=s3.heap.push { cls:=.type "slice",data:=.fields #[vl,vu,.none] } } σ H3 x v vl vu l u s3.heap.objs.size Q I4 r1 (Heap.IsSliceOf.new ..) pl pu q3
  show wpAny (model X.prog X.w) X.A (subscriptTail e (.Slice lo hi none p2) v (.ref s3.heap.objs.size)) (EP X pins σ Q) X.xe { s3 with heap:=s3.heap.push { cls:=.type "slice",data:=.fields #[vl,vu,.none] } }
  exact tail_any (ops:=[.ref s3.heap.objs.size,v]) ht hT hg (by with_unfolding_all rfl)
noncomputable def cutV (xs : List V) (lo hi : Option Int) : List V:=(xs.drop (HT.sIx xs.length 0 lo)).take (HT.sIx xs.length xs.length hi - HT.sIx xs.length 0 lo)
theorem cutV_length (xs : List V) (lo hi : Option Int) : (cutV xs lo hi).length ≤ xs.length:=by
  unfold cutV
  rw [List.length_take,List.length_drop]
  (first | lia | omega)
noncomputable def rSlT (K : PySem.W.Frag) : V→Option Int→Option Int→Hp→VK→Prop:=fun x lo hi H Q => ∃ a xs,x = .ref a ∧ SqT K H a xs ∧
  ¬ (HT.sIx xs.length 0 lo = 0 ∧ HT.sIx xs.length xs.length hi = xs.length) ∧ ∀ p,H p = none→Q (.ref p) (upd H p (.tup (cutV xs lo hi)))
noncomputable def rLtT (K : PySem.W.Frag) : R2:=fun x y H Q => ∃ a b ns ms,x = .ref a ∧ y = .ref b ∧ SqT K H a (ns.map V.int) ∧ SqT K H b (ms.map V.int) ∧ Q (.bl (HT.lexLt ns ms)) H
noncomputable def rCatT (K : PySem.W.Frag) : R2:=fun x y H Q => ∃ a b xs ys,x = .ref a ∧ y = .ref b ∧ SqT K H a xs ∧ SqT K H b ys ∧ xs ≠ [] ∧ xs.length + ys.length ≤ sizeLine ∧
  (ys = []→Q (.ref a) H) ∧ (ys ≠ []→∀ p,H p = none→Q (.ref p) (upd H p (.tup (xs ++ ys))))
end
end L2
namespace L2
open PySem PySem.Spec PyProof.Rows
noncomputable def ixN (n : Nat) (i : Int) : Option Nat:=if 0 ≤ i then (if i < n then some i.toNat else none) else if -(n : Int) ≤ i then some (i + n).toNat else none
noncomputable def atI {α : Type} (xs : List α) (i : Int) : Option α:=(ixN xs.length i).bind fun j => xs[j]?
theorem ixN_seq {n : Nat} {i : Int} {j : Nat} (h : ixN n i = some j) : seqIndex? i n = some j ∧ j < n ∧ -(n : Int) ≤ i ∧ i < n:=by
  unfold ixN at h
  by_cases h0 : 0 ≤ i
  · rw [if_pos h0] at h
    by_cases h1 : i < n
    · rw [if_pos h1] at h
      have e : i.toNat = j:=Option.some.inj h
      exact ⟨by rw [seqIndex_of h0 h1,e],by (first | lia | omega),by (first | lia | omega),h1⟩
    · rw [if_neg h1] at h; cases h
  · rw [if_neg h0] at h
    by_cases h1 : -(n : Int) ≤ i
    · rw [if_pos h1] at h
      have e : (i + n).toNat = j:=Option.some.inj h
      exact ⟨by rw [seqIndex_neg (by (first | lia | omega)) h1,e],by (first | lia | omega),h1,by (first | lia | omega)⟩
    · rw [if_neg h1] at h; cases h
theorem atI_get {α : Type} {xs : List α} {i : Int} {v : α} (h : atI xs i = some v) : ∃ j,seqIndex? i xs.length = some j ∧ xs[j]? = some v ∧ j < xs.length ∧ -(xs.length : Int) ≤ i ∧ i < xs.length:=by
  unfold atI at h
  cases e : ixN xs.length i with
  | none => rw [e] at h; cases h
  | some j =>
    rw [e] at h
    obtain ⟨h1,h2,h3,h4⟩:=ixN_seq e
    exact ⟨j,h1,h,h2,h3,h4⟩
theorem atI_nat {α : Type} {xs : List α} {j : Nat} {v : α} (h : xs[j]? = some v) : atI xs (j : Int) = some v:=by
  have hj : j < xs.length:=(List.getElem?_eq_some_iff.mp h).1
  have e : ixN xs.length (j : Int) = some j:=by
    unfold ixN
    rw [if_pos (by (first | lia | omega)),if_pos (by (first | lia | omega))]; simp
  unfold atI; rw [e]; exact h
theorem atI_last {α : Type} (xs : List α) (v : α) : atI (xs ++ [v]) (-1) = some v:=by
  have hl : (xs ++ [v]).length = xs.length + 1:=by simp
  have e : ixN (xs ++ [v]).length (-1) = some xs.length:=by
    unfold ixN
    rw [hl,if_neg (by decide),if_pos (by (first | lia | omega))]
    congr 1
    (first | lia | omega)
  unfold atI
  rw [e]
  show (xs ++ [v])[xs.length]? = some v
  simp
noncomputable def PlainIx (b : Expr) : Prop:=∀ o i,subscripted b false o i = operate [o,i] (getItem o i)
noncomputable def IxR (X : Cx) (r : R2) : Prop :=
  ∀ (value slice : Expr) (pins : List (Addr × Obj)) (s : Shared) (σ : St) (H : Hp) (x y : V) (v u : Value) (Q : VK),Inv X pins σ H s→RelV x v→RelV y u→r x y H Q →
    subscripted slice false v u = operate [v,u] (getItem v u)→wpAny (model X.prog X.w) X.A (subscriptTail value slice v u) (EP X pins σ Q) X.xe s
noncomputable def MtR (X : Cx) (id : String) (r : V→List V→Hp→VK→Prop) : Prop :=
  ∀ (pins : List (Addr × Obj)) (s : Shared) (σ : St) (H : Hp) (x : V) (xs : List V) (v : Value) (us : List Value) (Q : VK),Inv X pins σ H s→RelV x v→Vals xs us→r x xs H Q →
    wpAny (model X.prog X.w) X.A (call (.builtin id) (v :: us)) (EP X pins σ Q) X.xe s
section
variable {X : Cx} {a b : Expr} {ta tb : TE} {pos : Pos}
theorem pe_ix {r : R2} (hr : IxR X r) (ha : PE X a ta) (hb : PE X b tb) (hs : PlainIx b) : PE X (.Subscript a b pos) (tOp r ta tb):=by
  intro pins s σ H Q I h
  exact Subscript_ (binT ha hb I h fun v u s2 x y H2 I2 rx ry q => hr a b pins s2 σ H2 x y v u Q I2 rx ry q (hs _ _))
noncomputable def rIxL (K : PySem.W.Frag) : R2:=fun x y H Q => ∃ p xs i v,x = .ref p ∧ y = .int i ∧ SqL K H p xs ∧ atI xs i = some v ∧ Q v H
noncomputable def rIxT (K : PySem.W.Frag) : R2:=fun x y H Q => ∃ p xs i v,x = .ref p ∧ y = .int i ∧ SqT K H p xs ∧ atI xs i = some v ∧ Q v H
noncomputable def rIxS : R2:=fun x y H Q => ∃ z i c,x = .str z ∧ y = .int i ∧ z.length ≤ sizeLine ∧ atI z.cps.toList i = some c ∧ Q (.str ⟨#[c]⟩) H
theorem ix_list : IxR X (rIxL X.K):=by
  intro value slice pins s σ H x y v u Q I rx ry h hs
  obtain ⟨p,xs,i,z,rfl,rfl,hq,he,q⟩:=h
  cases rx
  obtain ⟨t,rfl⟩:=ry
  obtain ⟨its,r,pl,hz⟩:=I.list hq
  obtain ⟨j,h1,h2,h3,h4,h5⟩:=atI_get he
  obtain ⟨w,ew,rw'⟩:=r.get h2
  have hl:=r.length
  have hn:=line63
  have fin : EP X pins σ Q w s:=⟨z,H,I,rw',q⟩
  by_cases h0 : 0 ≤ i
  · have hj : i.toNat = j:=by
      rw [seqIndex_of h0 h5] at h1
      exact Option.some.inj h1
    exact item_listR pl.isList h0 (by (first | lia | omega)) (by rw [hj]; simpa using ew) fin hs
  · have hj : (i + (its.toArray.size : Int)).toNat = j:=by
      rw [seqIndex_neg (by (first | lia | omega)) h4] at h1
      rw [List.size_toArray,← hl]
      exact Option.some.inj h1
    exact subscriptTail_builtinR (x:=w) pl.isList.typeIs slot_list_getitem.lookup
      (wpAny_getItem_list_neg (Q:=fun r s' => r = w ∧ EP X pins σ Q r s') pl.isList (by (first | lia | omega)) (by rw [List.size_toArray] <;> (first | lia | omega)) (by (first | lia | omega)) (by rw [hj]; simpa using ew) ⟨rfl,fin⟩) hs
theorem ix_tup : IxR X (rIxT X.K):=by
  intro value slice pins s σ H x y v u Q I rx ry h hs
  obtain ⟨p,xs,i,z,rfl,rfl,hq,he,q⟩:=h
  cases rx
  obtain ⟨t,rfl⟩:=ry
  obtain ⟨its,r,pl,hz⟩:=I.tuple hq
  obtain ⟨j,h1,h2,h3,h4,h5⟩:=atI_get he
  obtain ⟨w,ew,rw'⟩:=r.get h2
  have hl:=r.length
  have hn:=line63
  have fin : EP X pins σ Q w s:=⟨z,H,I,rw',q⟩
  exact subscriptTail_builtinR (x:=w) pl.typeIs slot_tuple_getitem.lookup
    (getItem_tuple (j:=j) (Q:=fun r s' => r = w ∧ EP X pins σ Q r s') pl (by (first | lia | omega)) (by (first | lia | omega)) (by rw [List.size_toArray,← hl]; exact h1) (by simpa using ew) ⟨rfl,fin⟩) hs
noncomputable def rIx (K : PySem.W.Frag) : R2:=fun x y H Q => rIxL K x y H Q ∨ rIxT K x y H Q ∨ rIxS x y H Q
theorem mapSeq_set (its : List Value) (n j : Nat) (u : Value) : Obj.mapSeq (·.setIfInBounds j u) { cls:=.type "list",data:=.seq its.toArray n } = { cls:=.type "list",data:=.seq (its.set j u).toArray n }:=by
  simp [Obj.mapSeq]
theorem Inv.lst {pins : List (Addr × Obj)} {σ : St} {H : Hp} {s : Shared} {p : Addr} {xs : List V} (I : Inv X pins σ H s) (h : H p = some (.lst xs)) :
    ∃ (its : List Value) (n : Nat),Vals xs its ∧ s.heap.get? p = some { cls:=.type "list",data:=.seq its.toArray n } ∧ xs.length ≤ sizeLine:=by
  obtain ⟨z,its,n,r,e⟩:=I.hok p _ h
  exact ⟨its,n,r,e,z⟩
theorem Inv.lstUpd {pins : List (Addr × Obj)} {σ : St} {H : Hp} {s : Shared} {p : Addr} {xs ys : List V} {its its' : List Value} {n n' : Nat} {f : Obj→Obj} (I : Inv X pins σ H s) (h : H p = some (.lst xs))
    (ho : s.heap.get? p = some { cls:=.type "list",data:=.seq its.toArray n }) (hf : f { cls:=.type "list",data:=.seq its.toArray n } = { cls:=.type "list",data:=.seq its'.toArray n' }) (r : Vals ys its') (hz : ys.length ≤ sizeLine) (t : Nat) :
    Inv X pins σ (upd H p (.lst ys)) { s with heap:=s.heap.update p f,toks:=t }:=by
  have e : (s.heap.update p f).get? p = some { cls:=.type "list",data:=.seq its'.toArray n' }:=by
    rw [Heap.get?_update_self f ho (by rw [hf] <;> rfl),hf]
  refine I.write (x:=p) (e:=p) (by rw [h]; trivial) (.inl rfl) (fun b u hb q => (Heap.get?_update_other _ _ (Ne.symm hb)).trans q) ⟨_,e⟩ ?_
  exact ⟨hz,its',n',r,e⟩
noncomputable def rSetL : V→V→V→Hp→(Hp→Prop)→Prop:=fun o i v H Q => ∃ p xs k j,o = .ref p ∧ i = .int k ∧ H p = some (.lst xs) ∧ ixN xs.length k = some j ∧ Q (upd H p (.lst (xs.set j v)))
theorem set_list : PSet X rSetL:=by
  intro pins s σ H o i v ov iv u Q I ro ri rv h
  obtain ⟨p,xs,k,j,rfl,rfl,hp,hj,q⟩:=h
  cases ro
  obtain ⟨t,rfl⟩:=ri
  obtain ⟨its,n,r,ho,hz⟩:=I.lst hp
  obtain ⟨h1,h2,h3,h4⟩:=ixN_seq hj
  have hl:=r.length
  have hn:=line63
  have I' : Inv X pins σ (upd H p (.lst (xs.set j v))) { s with heap:=s.heap.update p (Obj.mapSeq (·.setIfInBounds j u)) } :=
    I.lstUpd hp ho (mapSeq_set its n j u) (r.set rv j) (by rw [List.length_set]; exact hz) s.toks
  by_cases h0 : 0 ≤ k
  · have hk : k.toNat = j:=by
      rw [seqIndex_of h0 h4] at h1
      exact Option.some.inj h1
    exact PySem.W.ki_setAt ho h0 (by (first | lia | omega)) (by rw [List.size_toArray,← hl]; exact h4) (by rw [hk]; exact ⟨_,I',q⟩)
  · have hk : (k + (its.toArray.size : Int)).toNat = j:=by
      rw [seqIndex_neg (by (first | lia | omega)) h3] at h1
      rw [List.size_toArray,← hl]
      exact Option.some.inj h1
    exact PySem.W.ki_setBack ho (by (first | lia | omega)) (by rw [List.size_toArray,← hl]; exact h3) (by (first | lia | omega)) (by rw [hk]; exact ⟨_,I',q⟩)
theorem slice_bounds (lo hi : Option Int) (n : Nat) : (sliceBounds lo hi none n).1 = ((HT.sIx n 0 lo : Nat) : Int) ∧ (sliceBounds lo hi none n).2.1 = ((HT.sIx n n hi : Nat) : Int) ∧ (sliceBounds lo hi none n).2.2 = 1:=by
  refine ⟨?_,?_,rfl⟩
  · cases lo with
    | none => simp [sliceBounds,HT.sIx]
    | some i =>
      simp only [sliceBounds,HT.sIx,Option.getD_none,show (1 : Int) > 0 by decide,if_true]
      by_cases h : i < 0
      · simp only [h,if_true] <;> (first | lia | omega)
      · simp only [h,if_false] <;> (first | lia | omega)
  · cases hi with
    | none => simp [sliceBounds,HT.sIx]
    | some i =>
      simp only [sliceBounds,HT.sIx,Option.getD_none,show (1 : Int) > 0 by decide,if_true]
      by_cases h : i < 0
      · simp only [h,if_true] <;> (first | lia | omega)
      · simp only [h,if_false] <;> (first | lia | omega)
theorem slicePick_cut (its : List Value) (lo hi : Option Int) : slicePick its.toArray lo hi none = ((its.drop (HT.sIx its.length 0 lo)).take (HT.sIx its.length its.length hi - HT.sIx its.length 0 lo)).toArray:=by
  obtain ⟨h1,h2,h3⟩:=slice_bounds lo hi its.toArray.size
  unfold slicePick
  rw [h1,h2,h3]
  simp only [sliceRange_one,pick_run,List.size_toArray] <;> rfl
noncomputable def rSlL (K : PySem.W.Frag) : V→Option Int→Option Int→Hp→VK→Prop:=fun x lo hi H Q => ∃ a xs,x = .ref a ∧ SqL K H a xs ∧ ∀ p,H p = none→Q (.ref p) (upd H p (.lst (cutV xs lo hi)))
theorem sl_list : SlR X (rSlL X.K):=by
  intro pins s σ H x v vl vu lo hi sl Q I rx hs pl pu h
  obtain ⟨a,xs,rfl,hx,q⟩:=h
  cases rx
  obtain ⟨its,r,ht,hz⟩:=I.list hx
  have hlen:=r.length
  refine ⟨"list",_,slot_list_getitem.lookup,ht.isList.typeIs,?_⟩
  refine wpAny_getItem_list_slice ht.isList hs pl pu .none (by simp) ?_ (by rw [List.size_toArray] <;> (first | lia | omega))
  rw [slicePick_cut,← hlen]
  refine ⟨.ref s.heap.objs.size,_,I.laid (t':=s.toks) (o:=.lst (cutV xs lo hi)) (fun b ob q => Heap.get?_push_of_some _ q) (Nat.le_refl _) ?_,rfl,q _ (I.hok.fresh (Nat.le_refl _))⟩
  exact ⟨Nat.le_trans (cutV_length xs lo hi) hz,_,0,(r.drop (HT.sIx xs.length 0 lo)).take (HT.sIx xs.length xs.length hi - HT.sIx xs.length 0 lo),Heap.get?_push_size _ rfl⟩
noncomputable def flatV : V→Bool
  | .non => true
  | .bl _ => true
  | .int _ => true
  | .str _ => true
  | _ => false
noncomputable def eqV : V→V→Bool
  | .non,.non => true
  | .bl a,.bl b => a == b
  | .bl a,.int b => (if a then 1 else 0) == b
  | .int a,.bl b => a == (if b then 1 else 0)
  | .int a,.int b => a == b
  | .str a,.str b => a == b
  | _,_ => false
noncomputable def eqU (x : V) (u : Value) : Bool:=match u with
  | .none => eqV .non x
  | .bool b => eqV (.bl b) x
  | .int i _ => eqV (.int i) x
  | .str z _ => eqV (.str z) x
  | _ => false
noncomputable def inV (x : V) (xs : List V) : Bool:=xs.any fun y => eqV y x
noncomputable def rIn (K : PySem.W.Frag) (neg : Bool) : R2:=fun x y H Q => ∃ p xs,y = .ref p ∧ (SqL K H p xs ∨ SqT K H p xs) ∧ flatV x = true ∧ xs.all flatV = true ∧ Q (.bl (if neg then !inV x xs else inV x xs)) H
theorem call_len_seq : CallR X (.builtin "len") (fun xs H Q => ∃ p ys,xs = [.ref p] ∧ (SqL X.K H p ys ∨ SqT X.K H p ys) ∧ Q (.int ys.length) H):=by
  intro pins s σ H xs us Q I r h
  obtain ⟨p,ys,rfl,hq,q⟩:=h
  obtain ⟨u,rfl,rx⟩:=vals1 r
  cases rx
  have hn:=line63
  rcases hq with hq | hq
  · obtain ⟨its,r',pl,hz⟩:=I.list hq
    have hlen:=r'.length
    exact Calls.call_len_list pl.isList (by simp only [List.size_toArray] <;> (first | lia | omega)) ⟨.int ys.length,H,I.tok _,⟨s.toks + 1,by rw [List.size_toArray,hlen]⟩,q⟩
  · obtain ⟨its,r',pl,hz⟩:=I.tuple hq
    have hlen:=r'.length
    exact len_tuple pl (by simp only [List.size_toArray] <;> (first | lia | omega)) ⟨.int ys.length,H,I.tok _,⟨s.toks + 1,by rw [List.size_toArray,hlen]⟩,q⟩
theorem call_list_of : CallR X (.type "list") (fun xs H Q => ∃ p ys,xs = [.ref p] ∧ (SqL X.K H p ys ∨ SqT X.K H p ys) ∧ ∀ l,H l = none→Q (.ref l) (upd H l (.lst ys))):=by
  intro pins s σ H xs us Q I r h
  obtain ⟨p,ys,rfl,hq,q⟩:=h
  obtain ⟨u,rfl,rx⟩:=vals1 r
  cases rx
  have fin : ∀ (its : List Value),Vals ys its→ys.length ≤ sizeLine→∀ (h' : Heap) (c' : Nat),(∀ b o',s.heap.get? b = some o'→h'.get? b = some o') →
      h'.get? s.heap.objs.size = some { cls:=.type "list",dict:=none,data:=.seq its.toArray c',slots:=#[] }→EP X pins σ Q (.ref s.heap.objs.size) { s with heap:=h' }:=fun its r' hz h' c' kp e =>
    ⟨.ref s.heap.objs.size,_,I.laid (t':=s.toks) kp (Nat.le_refl _) (show ObjOk X.prog X.w _ h' _ (.lst ys) from ⟨hz,its,c',r',e⟩),rfl,q _ (I.hok.fresh (Nat.le_refl _))⟩
  rcases hq with hq | hq
  · obtain ⟨its,r',pl,hz⟩:=I.list hq
    have hlen:=r'.length
    obtain ⟨o,ho,hc,n,hd⟩:=pl.isList
    exact call_list_seq p (.inl rfl) ho hc hd (fun h' c' kp e => fin its r' hz h' c' kp e) (by simp only [List.size_toArray] <;> (first | lia | omega))
  · obtain ⟨its,r',pl,hz⟩:=I.tuple hq
    have hlen:=r'.length
    obtain ⟨o,ho,hc,n,hd⟩:=pl
    exact call_list_seq p (.inr rfl) ho hc hd (fun h' c' kp e => fin its r' hz h' c' kp e) (by simp only [List.size_toArray] <;> (first | lia | omega))
noncomputable def tyV (K : PySem.W.Frag) (T : String) (x : V) (H : Hp) : Prop:=match x with
  | .str _ => T = "str"
  | .int _ => T = "int"
  | .ref p => (T = "list" ∧ ∃ xs,SqL K H p xs) ∨ (T = "tuple" ∧ ∃ o,K.lookup p = some o ∧ o.cls = .type "tuple" ∧ o.dict = none) ∨
      (T = "dict" ∧ ((∃ kvs,H p = some (.dK kvs)) ∨ ∃ kvs,H p = some (.dT kvs))) ∨ (T = "set" ∧ ∃ S n,H p = some (.set S n))
  | _ => False
theorem tyV_is {pins : List (Addr × Obj)} {σ : St} {H : Hp} {s : Shared} {T : String} {x : V} {v : Value} (I : Inv X pins σ H s) (r : RelV x v) (ty : tyV X.K T x H) :
    s.TypeIs v T ∧ ∀ a,v = .ref a→∃ ob,s.heap.get? a = some ob ∧ ob.dict = none:=by
  cases x with
  | str z =>
    obtain ⟨t,rfl⟩:=r
    cases (show T = "str" from ty)
    exact ⟨typeIs_str s z t,fun _ e => nomatch e⟩
  | int i =>
    obtain ⟨t,rfl⟩:=r
    cases (show T = "int" from ty)
    exact ⟨typeIs_int s i t,fun _ e => nomatch e⟩
  | ref p =>
    cases r
    rcases ty with ⟨rfl,xs,hq⟩ | ⟨rfl,o,hk,hc,hd⟩ | ⟨rfl,hk⟩ | ⟨rfl,S,n,hk⟩
    · obtain ⟨its,_,pl,_⟩:=I.list hq
      refine ⟨pl.isList.typeIs,fun a e => ?_⟩
      cases e
      obtain ⟨o,n,e,c,hd,_⟩:=pl
      exact ⟨o,e,hd⟩
    · refine ⟨⟨o,I.kIn p o hk,hc⟩,fun a e => ?_⟩
      cases e
      exact ⟨o,I.kIn _ o hk,hd⟩
    · have z : ∃ o,s.heap.get? p = some o ∧ o.ExactDict:=by
        rcases hk with ⟨kvs,hk⟩ | ⟨kvs,hk⟩
        · obtain ⟨_,_,_,_,o,_,_,e,ex,_⟩:=I.hok p _ hk
          exact ⟨o,e,ex⟩
        · obtain ⟨_,_,_,_,o,_,_,e,ex,_⟩:=I.hok p _ hk
          exact ⟨o,e,ex⟩
      obtain ⟨o,e,ex⟩:=z
      refine ⟨⟨o,e,ex.1⟩,fun a e2 => ?_⟩
      cases e2
      exact ⟨o,e,ex.2.1⟩
    · obtain ⟨o,_,_,_,e,ex,_⟩:=I.hok p _ hk
      refine ⟨⟨o,e,ex.1⟩,fun a e2 => ?_⟩
      cases e2
      exact ⟨o,e,ex.2.1⟩
  | _ => exact False.elim ty
noncomputable def tBM0 (K : PySem.W.Frag) (T : String) (r : V→List V→Hp→VK→Prop) (to : TE) : TE:=fun σ H Q => to σ H fun x H1 => tyV K T x H1 ∧ r x [] H1 Q
noncomputable def tBM (K : PySem.W.Frag) (T : String) (r : V→List V→Hp→VK→Prop) (to : TE) (t : TA) : TE:=fun σ H Q => to σ H fun x H1 => tyV K T x H1 ∧ t σ H1 fun xs H2 => r x xs H2 Q
variable {o e : Expr} {es : List Expr} {to : TE} {t : TA} {name : Str} {apos cpos : Pos} {T id : String} {r : V→List V→Hp→VK→Prop}
theorem pe_bm0 (pa : PlainAttrs T) (slot : Slot T name id) (hty : typeOf (.builtin id) = pure (.type "method_descriptor")) (hm : MtR X id r) (ho : PE X o to)
    (hbase : attributeBase o name X.env (eval o X.env) = eval o X.env:=by rfl) (hline : (apos.endLine == cpos.line) = true:=by rfl) : PE X (.Call (.Attribute o name apos) [] [] cpos) (tBM0 X.K T r to):=by
  intro pins s σ H Q I h
  refine wpAny_Call_method0_late hbase hline (thn (ho pins s σ H _ I h) fun v s1 ⟨x,H1,I1,r1,ty,q1⟩ => ?_)
  obtain ⟨h1,h2⟩:=tyV_is I1 r1 ty
  exact ⟨T,id,pa,slot,hty,h1,h2,Calls.callWith_builtin rfl (PySem.evalArgs_none (hm pins s1 σ H1 x [] v [] Q I1 r1 .nil q1))⟩
theorem pe_bm (pa : PlainAttrs T) (slot : Slot T name id) (hty : typeOf (.builtin id) = pure (.type "method_descriptor")) (hm : MtR X id r) (ho : PE X o to) (ha : PA X (e :: es) t)
    (hbase : attributeBase o name X.env (eval o X.env) = eval o X.env:=by rfl)
    (hfew : ((backTo cpos (starEach (e :: es) X.env)).all (fun x => !x.1) && (backToKw cpos (keywordEach [] X.env)).all (fun x => x.1.isSome)
      && decide ((e :: es).length + ([] : List Keyword).length + (if ([] : List Keyword).isEmpty then 0 else 1) < 30)) = true:=by rfl)
    (hline : (apos.endLine == cpos.line) = true:=by rfl) (hs : starEach (e :: es) X.env = (false,eval e X.env) :: starEach es X.env:=by rfl) (hplain : (backTo cpos (starEach es X.env)).any (·.1) = false:=by rfl) :
    PE X (.Call (.Attribute o name apos) (e :: es) [] cpos) (tBM X.K T r to t):=by
  intro pins s σ H Q I h
  refine wpAny_Call_method_late hbase hfew hline rfl (thn (ho pins s σ H _ I h) fun v s1 ⟨x,H1,I1,r1,ty,q1⟩ => ?_)
  obtain ⟨h1,h2⟩:=tyV_is I1 r1 ty
  refine ⟨T,id,pa,slot,hty,h1,h2,?_⟩
  have hA:=ha cpos pins s1 σ H1 _ I1 q1
  rw [hs] at hA ⊢
  refine Calls.callWith_builtin (by show (false || (backTo cpos (starEach es X.env)).any (·.1)) = false; rw [hplain] <;> rfl) (Calls.evalArgs_plain ?_)
  exact thn hA fun us s2 ⟨vs,H2,I2,r2,q2⟩ => hm pins s2 σ H2 x vs v us Q I2 r1 r2 q2
/- xs.append(e),list.index on a module's tuple .. are MtR facts of 06m -/
end
end L2
namespace L2
open PySem PySem.Spec PyProof.Rows
noncomputable def MtM (X : Cx) (id : String) (r : V→List V→Hp→VK→Prop) : Prop :=
  ∀ (pins : List (Addr × Obj)) (s : Shared) (σ : St) (H : Hp) (x : V) (xs : List V) (v : Value) (us : List Value) (Q : VK),Inv X pins σ H s→RelV x v→Vals xs us→r x xs H Q →
    wpAny (model X.prog X.w) X.A (call (.builtin id) (v :: us)) (EP X pins σ Q) X.xe s
theorem Vals.one : ∀ {x : V} {us : List Value},Vals [x] us→∃ u,us = [u] ∧ RelV x u
  | _,_,.cons r .nil => ⟨_,rfl,r⟩
theorem Vals.zero : ∀ {us : List Value},Vals [] us→us = []
  | _,.nil => rfl
theorem Vals.dropLast {xs : List V} {us : List Value} (h : Vals xs us) : Vals xs.dropLast us.dropLast:=by
  induction h with
  | nil => exact .nil
  | cons r t ih =>
    cases t with
    | nil => exact .nil
    | cons q t' => exact .cons r ih
theorem Vals.reverse {xs : List V} {us : List Value} (h : Vals xs us) : Vals xs.reverse us.reverse:=by
  induction h with
  | nil => exact .nil
  | cons r t ih => rw [List.reverse_cons,List.reverse_cons]; exact Vals.append ih (.cons r .nil)
theorem Vals.rep {xs : List V} {us : List Value} (h : Vals xs us) : ∀ k : Nat,Vals (List.replicate k xs).flatten (List.replicate k us).flatten
  | 0 => .nil
  | k + 1 => by
    rw [List.replicate_succ,List.replicate_succ,List.flatten_cons,List.flatten_cons]
    exact Vals.append h (Vals.rep h k)
theorem erase_last {α : Type} (l : List α) : l.eraseIdx (l.length - 1) = l.dropLast:=by
  induction l with
  | nil => rfl
  | cons a r ih =>
    cases r with
    | nil => rfl
    | cons b r =>
      have e : (a :: b :: r).length - 1 = ((b :: r).length - 1) + 1:=by
        have h1 : (a :: b :: r).length = r.length + 2:=rfl
        have h2 : (b :: r).length = r.length + 1:=rfl
        (first | lia | omega)
      rw [e,List.eraseIdx_cons_succ,ih]
      all_goals rfl
theorem foldl_rep (its : List Value) : ∀ (k : Nat) (acc : List Value),
    List.foldl (fun x1 x2 => x1 ++ x2) acc.toArray (List.replicate k its.toArray) = (acc ++ (List.replicate k its).flatten).toArray
  | 0,acc => by simp
  | k + 1,acc => by
    have e : acc.toArray ++ its.toArray = (acc ++ its).toArray:=by simp
    have e2 : (acc ++ its) ++ (List.replicate k its).flatten = acc ++ (List.replicate (k + 1) its).flatten:=by
      rw [List.replicate_succ,List.flatten_cons,List.append_assoc]
    rw [← e2,← foldl_rep its k (acc ++ its),← e,List.replicate_succ,List.foldl_cons]
section
variable {X : Cx} {pins : List (Addr × Obj)} {σ : St} {H : Hp} {s : Shared} {l b : Addr} {xs ys zs : List V}
theorem Inv.lset {its its' : List Value} {n : Nat} {f : Array Value→Array Value} {t' : Nat} (I : Inv X pins σ H s) (hH : H l = some (.lst xs))
    (e : s.heap.get? l = some { cls:=.type "list",data:=.seq its.toArray n }) (hf : f its.toArray = its'.toArray) (hv : Vals ys its') (hz : ys.length ≤ sizeLine) :
    Inv X pins σ (upd H l (.lst ys)) { s with heap:=s.heap.update l (Obj.mapSeq f),toks:=t' }:=by
  have q:=PySem.IsL.update e f
  rw [hf] at q
  refine I.write (x:=l) (e:=l) (by rw [hH]; exact trivial) (.inl rfl) (fun b' u hb hu => (Heap.get?_update_other s.heap (Obj.mapSeq f) (Ne.symm hb)).trans hu) ⟨_,q⟩ ?_
  exact ⟨hz,its',_,hv,q⟩
theorem Inv.lnew {its : List Value} {t' : Nat} (I : Inv X pins σ H s) (hv : Vals ys its) (hz : ys.length ≤ sizeLine) :
    Inv X pins σ (upd H s.heap.objs.size (.lst ys)) { s with heap:=s.heap.push { cls:=.type "list",data:=.seq its.toArray },toks:=t' } :=
  I.laid (fun _ _ q => Heap.get?_push_of_some _ q) (Nat.le_refl _) ⟨hz,its,0,hv,Heap.get?_push_size _ rfl⟩
theorem Inv.fresh (I : Inv X pins σ H s) : H s.heap.objs.size = none:=I.hok.fresh (Nat.le_refl _)
theorem Inv.lstM (I : Inv X pins σ H s) (hH : H l = some (.lst xs)) : xs.length ≤ sizeLine ∧ ∃ (its : List Value) (n : Nat),Vals xs its ∧ xs.length = its.length ∧ s.heap.get? l = some { cls:=.type "list",data:=.seq its.toArray n }:=by
  obtain ⟨z,its,n,r,e⟩:=I.hok l _ hH
  exact ⟨z,its,n,r,r.length,e⟩
theorem notLongL {n : Nat} (h : n ≤ sizeLine) : Builtin.List.listTooLong n = false:=by
  unfold Builtin.List.listTooLong
  exact decide_eq_false (by (first | lia | omega))
end
section
variable {X : Cx}
noncomputable def rAppend : V→List V→Hp→VK→Prop:=fun x vs H Q => ∃ l xs y,x = .ref l ∧ vs = [y] ∧ H l = some (.lst xs) ∧ xs.length < sizeLine ∧ Q .non (upd H l (.lst (xs ++ [y])))
theorem mt_append : MtM X "list.append" rAppend:=by
  intro pins s σ H x vs v us Q I rx rv h
  obtain ⟨l,xs,y,rfl,rfl,hH,hz,q⟩:=h
  cases rx
  obtain ⟨u,rfl,ru⟩:=rv.one
  obtain ⟨z,its,n,r,hl,e⟩:=I.lstM hH
  refine call_meets F.slot_list_append ⟨_,e,rfl⟩ F.entry_list_append (F.args_list_append_2 _ _) (PySem.list_append l its.toArray n u (by rw [List.size_toArray]; (first | lia | omega))) ⟨e,?_⟩
  refine ⟨.non,_,I.lset (its':=its ++ [u]) hH e (by simp) (r.append (.cons ru .nil)) ?_,rfl,q⟩
  rw [List.length_append,List.length_singleton]
  (first | lia | omega)
noncomputable def rExtend : V→List V→Hp→VK→Prop:=fun x vs H Q => ∃ l b xs zs,x = .ref l ∧ vs = [.ref b] ∧ H l = some (.lst xs) ∧ H b = some (.lst zs) ∧ xs.length + zs.length ≤ sizeLine ∧ Q .non (upd H l (.lst (xs ++ zs)))
noncomputable def rPop : V→List V→Hp→VK→Prop:=fun x vs H Q => ∃ l xs y,x = .ref l ∧ vs = [] ∧ H l = some (.lst xs) ∧ xs[xs.length - 1]? = some y ∧ Q y (upd H l (.lst xs.dropLast))
theorem mt_pop : MtM X "list.pop" rPop:=by
  intro pins s σ H x vs v us Q I rx rv h
  obtain ⟨l,xs,y,rfl,rfl,hH,hy,q⟩:=h
  cases rx
  have hus:=rv.zero
  subst hus
  obtain ⟨z,its,n,r,hl,e⟩:=I.lstM hH
  obtain ⟨u,hu,ru⟩:=r.get hy
  have hy' : its.toArray[its.toArray.size - 1]? = some u:=by
    show its.toArray[its.length - 1]? = some u
    rw [← Array.getElem?_toList,← hl]
    exact hu
  refine call_meets F.slot_list_pop ⟨_,e,rfl⟩ F.entry_list_pop (F.args_list_pop_1 _) (MeetsSeq.list_pop_last l its.toArray n u hy' (by rw [List.size_toArray]; (first | lia | omega))) ⟨e,?_⟩
  refine ⟨y,_,I.lset (its':=its.dropLast) hH e ?_ r.dropLast ?_,ru,q⟩
  · show its.toArray.eraseIdxIfInBounds (its.toArray.size - 1) = its.dropLast.toArray
    rw [List.size_toArray,List.eraseIdxIfInBounds_toArray,erase_last]
  · rw [List.length_dropLast]
    (first | lia | omega)
noncomputable def rPopAt : V→List V→Hp→VK→Prop:=fun x vs H Q => ∃ l xs i k y,x = .ref l ∧ vs = [.int i] ∧ H l = some (.lst xs) ∧ -(2 ^ 63) ≤ i ∧ i < 2 ^ 63 ∧ seqIndex? i xs.length = some k ∧ xs[k]? = some y ∧ Q y (upd H l (.lst (xs.eraseIdx k)))
noncomputable def rReverse : V→List V→Hp→VK→Prop:=fun x vs H Q => ∃ l xs,x = .ref l ∧ vs = [] ∧ H l = some (.lst xs) ∧ Q .non (upd H l (.lst xs.reverse))
noncomputable def rClear : V→List V→Hp→VK→Prop:=fun x vs H Q => ∃ l xs,x = .ref l ∧ vs = [] ∧ H l = some (.lst xs) ∧ Q .non (upd H l (.lst []))
noncomputable def rCat : R2:=fun x y H Q => ∃ l b xs zs,x = .ref l ∧ y = .ref b ∧ H l = some (.lst xs) ∧ H b = some (.lst zs) ∧ xs.length + zs.length ≤ sizeLine ∧ ∀ p,H p = none→Q (.ref p) (upd H p (.lst (xs ++ zs)))
theorem op_cat : OpR X (binaryOp .Add) rCat:=by
  intro pins s σ H x y v u Q I rx ry h
  obtain ⟨l,b,xs,zs,rfl,rfl,hH,hB,hz,q⟩:=h
  cases rx
  cases ry
  obtain ⟨z,its,n,r,hl,e⟩:=I.lstM hH
  obtain ⟨z2,its2,n2,r2,hl2,e2⟩:=I.lstM hB
  refine PySem.P.add_list e e2 ?_ (by rw [List.size_toArray,List.size_toArray]; (first | lia | omega))
  have ea : its.toArray ++ its2.toArray = (its ++ its2).toArray:=by simp
  rw [ea]
  exact ⟨.ref _,_,I.lnew (t':=s.toks) (r.append r2) (by rw [List.length_append]; (first | lia | omega)),rfl,q _ I.fresh⟩
noncomputable def rRep : R2:=fun x y H Q => ∃ l k xs,x = .ref l ∧ y = .int k ∧ H l = some (.lst xs) ∧ -(2 ^ 63) ≤ k ∧ k < 2 ^ 63 ∧ xs.length * k.toNat ≤ sizeLine ∧
  ∀ p,H p = none→Q (.ref p) (upd H p (.lst (List.replicate k.toNat xs).flatten))
theorem len_rep {α : Type} (xs : List α) (k : Nat) : (List.replicate k xs).flatten.length = k * xs.length:=by
  induction k with
  | zero => simp
  | succ k ih => rw [List.replicate_succ,List.flatten_cons,List.length_append,ih,Nat.succ_mul,Nat.add_comm]
theorem op_rep : OpR X (binaryOp .Mult) rRep:=by
  intro pins s σ H x y v u Q I rx ry h
  obtain ⟨l,k,xs,rfl,rfl,hH,h1,h2,hz,q⟩:=h
  cases rx
  obtain ⟨t,rfl⟩:=ry
  obtain ⟨z,its,n,r,hl,e⟩:=I.lstM hH
  have hlen : its.toArray.size * k.toNat ≤ sizeLine:=by rw [List.size_toArray,← hl]; exact hz
  have hcap : ¬ its.toArray.size * k.toNat > (2 ^ 63 - 1) / 8:=by
    have : (sizeLine : Nat) ≤ (2 ^ 63 - 1) / 8:=by decide
    (first | lia | omega)
  have hfit : ¬ (!Builtin.List.listFitsIndex k) = true:=by
    rw [fitsIndex_both h1 h2]
    exact Bool.false_ne_true
  have hlong : ¬ Builtin.List.listTooLong (its.toArray.size * k.toNat) = true:=by
    rw [notLongL hlen]
    exact Bool.false_ne_true
  have hnew : List.foldl (fun x1 x2 => x1 ++ x2) #[] (List.replicate (if its.toArray.isEmpty = true then 0 else k.toNat) its.toArray) = (List.replicate k.toNat its).flatten.toArray:=by
    have f0 : ∀ m : Nat,List.foldl (fun x1 x2 => x1 ++ x2) #[] (List.replicate m its.toArray) = (List.replicate m its).flatten.toArray:=fun m => by
      have:=foldl_rep its m []
      rw [List.nil_append] at this
      exact this
    rw [f0]
    cases its with
    | nil => simp
    | cons a r' => rw [if_neg (by simp)]
  refine wpAny_binaryOp_repeat_ref (T:="list") (U:="int") (by decide) ⟨_,e,rfl⟩ (fun s' => typeIs_int s' k t) noFill_list_mul F.fills_int_mul F.slot_int_rmul repeat_list F.slot_int_index.lookup
    (call_meets F.slot_int_rmul (typeIs_int s k t) F.entry_int_rmul (F.args_int_rmul_2 _ _) (int___rmul___int_list k t l its.toArray n)
      ⟨e,rfl,⟨_,e,rfl⟩,call_meets F.slot_list_mul ⟨_,e,rfl⟩ F.entry_list_mul (F.args_list_mul_2 _ _) (AutoListH.list___mul___list_int_3 l its.toArray n k t hfit hcap hlong) ⟨e,?_⟩⟩)
  rw [hnew]
  exact ⟨.ref _,_,I.lnew (t':=s.toks) (r.rep k.toNat) (by rw [len_rep,Nat.mul_comm]; exact hz),rfl,q _ I.fresh⟩
end
section
variable {prog : Program} {w : World} {A : Around} {E : Value→Shared→Prop} {s : Shared}
set_option maxRecDepth 100000 in
end
section
variable {X : Cx}
end
end L2
namespace Att
open PySem PySem.W PySem.Calls PyProof.Rows
theorem ints_of_wellAll {P : Params} {h : Heap} : ∀ (ns : List Int) (vs : List Value),WellAll P h vs (ns.map WData.int)→IntsAre vs ns:=by
  intro ns
  induction ns with
  | nil =>
    intro vs w
    rw [List.map_nil] at w
    cases w
    exact .nil
  | cons n ns ih =>
    intro vs w
    rw [List.map_cons] at w
    cases w with
    | cons a b =>
      cases a
      exact .cons _ _ (ih _ b)
theorem script_of {l : OpenLaw} {n : Nat} (hn : l.most = some n) {P : Params} {h : Heap} {args : List WData} {vals : List Value}
    (hpre : l.row.toRowW.claim.pre args = true) (hwl : WellAll P h vals args) :
    ∃ a vs ns,vals = [Value.ref a] ∧ args = [WData.list (ns.map WData.int)] ∧ h.get? a = some { cls:=.type "list",data:=.seq vs.toArray } ∧ IntsAre vs ns ∧ ns.length ≤ n:=by
  have hsh : WShape.hasAll [] args [.list .int] = true:=(pre_splitW hpre).1
  have hc : l.pre.holds [] { args:=args } = true:=(pre_splitW hpre).2
  obtain ⟨d,r,rfl,h1,h2⟩:=hasAllW_cons hsh
  obtain rfl:=hasAllW_nil h2
  obtain ⟨xs,rfl,h3⟩:=hasW_list h1
  obtain ⟨ns,rfl⟩:=items_int h3
  have hlen : ns.length ≤ n:=by
    unfold OpenLaw.pre at hc
    have h4 : (WTm.not (.lt (.lit (.int (n : Int))) (.len (.arg 0)))).holds [] { args:=[.list (ns.map .int)] } = true:=by
      have h4:=(holds_andW hc).1
      rw [hn] at h4
      exact h4
    have h5:=condW_of h4 (w_not (w_lt w_lit (w_len_list (w_arg rfl))))
    rw [List.length_map] at h5
    refine Nat.le_of_not_lt fun q => ?_
    have q' : (n : Int) < ((ns.length : Nat) : Int):=by (first | lia | omega)
    first
      | (rw [decide_eq_true q'] at h5; exact absurd h5 (by decide))
      | (simp at h5; (first | lia | omega))
  cases hwl with
  | cons w1 w2 =>
    cases w2
    cases w1 with
    | list ho hall => exact ⟨_,_,ns,rfl,rfl,ho,ints_of_wellAll ns _ hall,hlen⟩
theorem post_true (l : OpenLaw) (args : List WData) : l.row.toRowW.claim.post args (.bool true) args = true :=
  postW_of (r:=l.row.toRowW) (X:=(true == true))
    (show WShape.has [] (.bool true) .bool = true by first | rfl | decide | simp [WShape.has,WShape.arms,WShape.armsAll])
    (show (WTm.eq .res (.lit (.bool true))).value [] { args:=args,res:=some (.bool true),after:=args } = some (.bool (true == true)) from w_eq_bool (w_res rfl) w_lit) rfl
theorem attach_call {l : OpenLaw} {n : Nat} {q : Program} {loose : List Str} {XP : (Str→Option Value)→Heap→Prop} {YP : World→Heap→Prop} {d : DefRec}
    (hn : l.most = some n) (hdf : d.params.defaults = [])
    (call : ∀ (w : World) (s₀ s₁ : Shared) (mg mb : Str→Option Value) (fa : Addr) (o : Obj) (pm cd doc : Value) (a : Addr) (vs : List Value) (ns : List Int),
      Ground q loose [] XP w s₀ mg mb s₁.heap→YP w s₁.heap →
      s₁.heap.get? fa = some o→o.data = .func (docDef d.name d.params d.body d.scope pm cd doc)→s₁.heap.CodeRec cd d.name→mg d.name = some (.ref fa) →
      s₁.heap.get? a = some { cls:=.type "list",data:=.seq vs.toArray }→IntsAre vs ns→ns.length ≤ n→s₁.gens = #[] →
      codeAny (model l.prog w) callerA (.call (.ref fa) ⟨[.ref a],[]⟩) (fun r s' => r = .ok (.ret (.bool true)) ∧ OldK s₁.heap s'.heap ∧ s'.os = s₁.os ∧ AllBare s'.gens) s₁) :
    WalkO q loose XP YP l.row.toRowW d [] (fun f vs => PySem.call f vs):=by
  intro w s₀ s₁ mg mb G Y fa o pm cd doc dV kV ho hd hcd hD hmg hg args vals as hpre hlay hrd hwl hlo
  obtain rfl : dV = .none:=Dflts.none hD hdf
  obtain rfl : kV = .none:=Dflts.noKw hD
  obtain ⟨a,vs,ns,rfl,rfl,hobj,hints,hlen⟩:=script_of hn hpre hwl
  refine enter_call (codeAny_mono (call w s₀ s₁ mg mb fa o pm cd doc a vs ns G Y ho (fd_plain hd) hcd hmg hobj hints hlen hg) fun r s' hq => ?_)
  obtain ⟨rfl,h2,h3,h4⟩:=hq
  exact ⟨.inl ⟨.bool true,.bool true,[],rfl,fun _ => rfl,.bool true,post_true l _,fun _ => ⟨List.Pairwise.nil,fun _ hm => (nomatch hm)⟩⟩,h2,h3,h4⟩
section
variable {prog : Program} {w : World} {A : Around} {E : Value→Shared→Prop} {s : Shared} {K : Frag}
noncomputable def noObjs (h : Heap) : Heap:={ h with objs:=#[] }
noncomputable def ledger (h : Heap) (L d : Addr) : List (Addr × Obj):=(List.range h.objs.size).filterMap fun a => if a = L ∨ a = d then none else (h.get? a).map fun o => (a,o)
end
end Att
namespace L2
open PySem PySem.Spec PyProof.Rows
theorem vals_ints : ∀ {vs : List Value} {ns : List Int},IntsAre vs ns→Vals (ns.map V.int) vs
  | _,_,.nil => .nil
  | _,_,.cons n t h => .cons ⟨t,rfl⟩ (vals_ints h)
noncomputable def Only (H : Hp) : Prop:=∀ b,H b = none ∨ ∃ o xs,H b = some (.frz o (.lst xs))
theorem law_call {P : Program} {w : World} {K : PySem.W.Frag} {mg mb : Str→Option Value} {CX : CXT} {k : Nat} {fa a : Addr} {fd : FuncData} {x : Str} {sp : Sp} {s₁ : Shared} {vs : List Value} {ns : List Int}
    (KX : K.In s₁.heap) (hns : s₁.heap.Ns mainGlobals mg) (hb : s₁.heap.Ns builtinsNs mb) (hbb : ∀ x : Str,x ≠ "__name__"→mb x = bootBuiltins x) (hlim : s₁.heap.NoLimit) (hg : s₁.gens = #[])
    (ha : s₁.heap.get? a = some { cls:=.type "list",data:=.seq vs.toArray }) (hi : IntsAre vs ns) (hl : ns.length ≤ sizeLine) (hr : Room k callerA)
    (F : ∀ base : Heap,K.In base→base.Ns mainGlobals mg→FnOk P w K mg base CX k fa fd [x] sp) (hbind : ∀ (s : Shared) (u : Value),BindsTo s fd ⟨[u],[]⟩ [(x,u)])
    (hsp : ∀ H : Hp,Only H→SqL K H a (ns.map V.int)→sp [.ref a] H (fun v _ => v = .bl true) fun _ _ _ => False)
    (hCX : ∀ H e s',CX [] H s₁ (fun _ _ _ => False) e s'→False) :
    codeAny (model P w) callerA (.call (.ref fa) ⟨[.ref a],[]⟩) (fun r s' => r = .ok (.ret (.bool true)) ∧ OldK s₁.heap s'.heap ∧ s'.os = s₁.os ∧ AllBare s'.gens) s₁:=by
  have rv:=vals_ints hi
  have lenV:=hi.length
  have core : ∀ H : Hp,Only H→SqL K H a (ns.map V.int)→HOk P w H s₁.heap→(∀ b,H b ≠ none→b = a)→(H a ≠ none→K.lookup a = none) →
      codeAny (model P w) callerA (.call (.ref fa) ⟨[.ref a],[]⟩) (fun r s' => r = .ok (.ret (.bool true)) ∧ OldK s₁.heap s'.heap ∧ s'.os = s₁.os ∧ AllBare s'.gens) s₁:=by
    intro H hO hS hok hA hK
    have base_of : ∀ {b : Addr} {o : Obj},s₁.heap.get? b = some o→H b = none→(hidT s₁.heap H).get? b = some o:=fun e n => hidT_get e n
    have noA : ∀ {b : Addr} {o : Obj} {es : Array DictEntry} {ep : Nat},s₁.heap.get? b = some o→o.data = .dict es ep→H b = none:=fun {b o es ep} e d => by
      cases q : H b with
      | none => rfl
      | some u =>
        have e' : b = a:=hA b (by rw [q]; simp)
        subst e'
        rw [ha] at e; cases e
        have d' : Data.seq vs.toArray _ = Data.dict es ep:=d
        cases d'
    have nsK : ∀ {b : Addr} {m : Str→Option Value},s₁.heap.Ns b m→(hidT s₁.heap H).Ns b m:=fun {b m} ⟨o,es,ep,e,d,r⟩ => ⟨o,es,ep,base_of e (noA e d),d,r⟩
    have hKb : K.In (hidT s₁.heap H):=fun b o e => base_of (KX b o e) (by
      cases q : H b with
      | none => rfl
      | some u =>
        have e' : b = a:=hA b (by rw [q]; simp)
        subst e'
        rw [hK (by rw [q]; simp)] at e; cases e)
    have hM : Mod K mg (hidT s₁.heap H):=⟨hKb,nsK hns,⟨mb,nsK hb,hbb⟩,let ⟨mc,h1,h2⟩:=hlim; ⟨mc,nsK h1,h2⟩⟩
    have e0 : Env0 P w K mg (hidT s₁.heap H) callerA [] s₁ H:=⟨rfl,hM,fun b o e => of_hidT e,Nat.le_of_eq (hidT_size _ _),trivial,fun b hb => absurd (show b ∈ ([] : List Addr) from hb) (by simp),hok,.of_eq hg⟩
    refine codeAny_mono ((F _ hKb (nsK hns)).run callerA [] s₁ H ⟨[.ref a],[]⟩ [.ref a] [.ref a] _ _ hr e0 (hbind s₁ (.ref a)) (.cons rfl .nil) (hsp H hO hS)) fun r s' h => ?_
    cases r with
    | error e => exact (hCX H e s' h).elim
    | ok fl =>
      cases fl with
      | next => exact False.elim h
      | brk => exact False.elim h
      | cont => exact False.elim h
      | ret u =>
        obtain ⟨v,H',os,bare,un,hok',r',q⟩:=h
        have q' : v = .bl true:=q
        subst q'
        obtain rfl : u = Value.bool true:=r'
        refine ⟨rfl,OldK.of_keep fun b o e => ?_,os,bare⟩
        cases q : H b with
        | none => exact un.keep b o e q (by intro z; exact absurd (show b ∈ ([] : List Addr) from z) (by simp)) (by simp)
        | some u =>
          rcases hO b with z | ⟨ob,xs,z⟩
          · rw [q] at z; cases z
          · have z2:=un.frzs b ob _ z
            obtain ⟨e1,_⟩:=hok b _ z
            obtain ⟨e2,_⟩:=hok' b _ z2
            rw [e] at e1; cases e1
            exact e2
  cases hk : K.lookup a with
  | some o =>
    have e:=KX a o hk
    rw [ha] at e
    cases e
    refine core (fun _ => none) (fun _ => .inl rfl) (.inr ⟨_,vs.toArray,_,hk,rfl,rfl,rfl,by rw [List.size_toArray,lenV]; exact hl,by simpa using rv⟩) (fun b u z => by have z' : (none : Option HO) = some u:=z; cases z') (fun b z => absurd rfl z) fun z => absurd rfl z
  | none =>
    refine core (fun b => if b = a then some (.frz { cls:=.type "list",data:=.seq vs.toArray } (.lst (ns.map V.int))) else none) (fun b => ?_) (.inl (.inr ⟨{ cls:=.type "list",data:=.seq vs.toArray },if_pos rfl⟩)) (fun b u z => ?_) (fun b z => ?_) fun _ => hk
    · by_cases hb : b = a
      · exact .inr ⟨_,_,if_pos hb⟩
      · exact .inl (if_neg hb)
    · by_cases hb : b = a
      · have z':=(if_pos hb).symm.trans z
        cases z'
        subst hb
        exact ⟨ha,by rw [List.length_map]; exact hl,vs,_,rv,ha⟩
      · have z':=(if_neg hb).symm.trans z
        cases z'
    · by_cases hb : b = a
      · exact hb
      · exact absurd (if_neg hb) z
end L2
namespace L2
open PySem PySem.Spec PyProof.Rows
noncomputable abbrev KOf {K : PySem.W.Frag} {h : Heap} (_ : K.In h) : PySem.W.Frag:=K
theorem walk_of {l : PySem.W.OpenLaw} {n k : Nat} {q : Program} {loose : List Str} {XP : (Str→Option Value)→Heap→Prop} {YP : World→Heap→Prop} {d : DefRec} {K : Params→PySem.W.Frag} {CX : World→CXT} {sp : World→Sp} {x : Str}
    (hn : l.most = some n) (hn2 : n ≤ sizeLine) (hdf : d.params.defaults = []) (hr : Room k callerA)
    (hY : ∀ (w : World) (h : Heap),YP w h→(K w.params).In h)
    (F : ∀ (w : World) (mg : Str→Option Value) (fa : Addr) (h : Heap),(K w.params).In h→h.Ns mainGlobals mg→mg d.name = some (.ref fa) →
      ∃ fd : FuncData,(∀ (s : Shared) (u : Value),BindsTo s fd ⟨[u],[]⟩ [(x,u)]) ∧
        ∀ base : Heap,(K w.params).In base→base.Ns mainGlobals mg→FnOk l.prog w (K w.params) mg base (CX w) k fa fd [x] (sp w))
    (hsp : ∀ (w : World) (H : Hp) (a : Addr) (ns : List Int),ns.length ≤ n→Only H→SqL (K w.params) H a (ns.map V.int)→sp w [.ref a] H (fun v _ => v = .bl true) fun _ _ _ => False)
    (hCX : ∀ (w : World) (H : Hp) (s : Shared) (e : Value) (s' : Shared),CX w [] H s (fun _ _ _ => False) e s'→False) :
    PySem.W.WalkO q loose XP YP l.row.toRowW d [] (fun f vs => PySem.call f vs):=by
  refine Att.attach_call hn hdf fun w s₀ s₁ mg mb fa o pm cd doc a vs ns G Y ho hd hcd hmg hobj hints hlen hg => ?_
  have KX:=hY w _ Y
  obtain ⟨fd,hb,hF⟩:=F w mg fa _ KX G.T.g hmg
  exact law_call KX G.T.g G.T.b G.T.builtins G.T.nolimit hg hobj hints (Nat.le_trans hlen hn2) hr hF hb (fun H hO hS => hsp w H a ns hlen hO hS) fun H e s' => hCX w H s₁ e s'
end L2
/- THE LAST THEOREM (shape; LID,My.* are yours):
   My.Adr: a structure of the addresses that your layer names (classes,functions); My.Txt K t: a structure (Prop) of the equations over K;
   My.txt_mk : {K} {implicit addresses ..} (e1 : nsIn K mainGlobals "law" = some (some (.ref f))) (e2 : K.lookup f = some ⟨oc,od,.func (fnOf "law" "law" params body scope dV kV doc pm an cdv ct),sl⟩) (e3 : codeIn K cdv "law" = true) .. : ∃ t,My.Txt K t
set_option maxRecDepth 100000 in
set_option maxHeartbeats 0 in
theorem PySem.Challenge.cw_LID_holds : PySem.Challenge.rw_LID.Holds := by
  w_on; o_law; k_head; (case hw => w_witness2)
  k_fill
  refine L2.walk_of (l:=PySem.Challenge.rw_LID) (n:=63) (k:=40) (x:="script") (CX:=fun w => ..) (sp:=fun _ => My.sp_law) rfl (by decide) rfl ⟨rfl,by decide,by decide⟩ (fun w h Y => PySem.W.kIn_of Y) ?F ?S ?C
  case F =>
    intro w mg fa h KX G hmg
    have T : ∃ t,My.Txt (L2.KOf KX) t:=by
      dsimp only [L2.KOf]                          -- K must stand as «<heap const> w.params» for k_is
      refine' My.txt_mk ?e1 ?e2 ?e3 ..
      (case e1 => PySem.W.k_is)                    -- in the order: a name -> its address -> its object -> its parts
      (case e2 => PySem.W.k_is)
      ..
    obtain ⟨t,T⟩:=T
    have e0:=hmg.symm.trans (PySem.W.mg_of KX G T.law)
    cases e0                                       -- fa is the law's own address
    exact ⟨_,fun s u => .of_eq rfl,fun base kb nb => My.law_fn T kb nb⟩     -- if «.of_eq rfl» comes too early: refine' ⟨_,?b,fun base kb nb => My.law_fn T kb nb⟩; exact fun s u => .of_eq rfl
  case S => exact fun w H a ns hl hO hS => ..
  case C => exact ..
(the tactic k_is has no namespace: write k_is) -/
namespace L2
open PySem PySem.Spec PyProof.Rows
noncomputable def inClass (s : Stmt) (j : Nat) : Stmt:=match s with
  | .ClassDef _ _ _ body _ _ _ _ _ _ _ => body.getD j (.Pass ⟨0,0,0,0⟩)
  | _ => .Pass ⟨0,0,0,0⟩
noncomputable def defArgs (s : Stmt) : Arguments:=match s with
  | .FunctionDef _ a _ _ _ _ _ _ _ _ => a
  | _ => { posonlyargs:=[],args:=[],vararg:=none,kwonlyargs:=[],kw_defaults:=[],kwarg:=none,defaults:=[] }
noncomputable def defBody (s : Stmt) : List Stmt:=match s with
  | .FunctionDef _ _ b _ _ _ _ _ _ _ => b
  | _ => []
noncomputable def defScope (s : Stmt) : Scope:=match s with
  | .FunctionDef _ _ _ _ _ _ sc _ _ _ => sc
  | _ => { kind:=.function,names:=[],isGenerator:=false,isCoroutine:=false }
noncomputable abbrev CX0 : CXT:=fun _ _ _ _ _ _ => False
noncomputable abbrev E0 : XK:=fun _ _ _ => False
theorem pass0 {X : Cx} : Passes CX0 X E0:=fun _ _ _ _ _ _ _ h => h.elim
structure Fun (K : PySem.W.Frag) (x qual : Str) (st : Stmt) (f : Addr) (fd : FuncData) : Prop where
  ex : ∃ (oc : Value) (od : Option Addr) (kV doc pm : Value) (an : Option Addr) (cdv ct : Value) (osl : Array (Option Value)),
    fd = PySem.W.fnOf x qual (defArgs st) (defBody st) (defScope st) .none kV doc pm an cdv ct ∧ K.lookup f = some ⟨oc,od,.func fd,osl⟩ ∧ PySem.W.codeIn K cdv qual = true
  kp : PySem.W.keepIn K (.ref f) = true
section
variable {P : Program} {w : World} {K : PySem.W.Frag} {mg : Str→Option Value} {base : Heap}
theorem Fun.ok {x qual : Str} {st : Stmt} {f : Addr} {fd : FuncData} {N ps : List Str} {k : Nat} {sp : Sp} (F : Fun K x qual st f fd) (S : FnScope N ps (defScope st)) (len : ∀ vs H Q E,sp vs H Q E→vs.length = ps.length)
    (hbody : ∀ (cdv : Value) (A : Around) (outer : List Env) (s : Shared) (H : Hp) (vs : List V) (Q : VK) (E : XK),Room k (A.deeper (envOfC qual (defScope st) s.heap.objs.size f cdv))→sp vs H Q E →
      ∃ t,PSs (cxOf CX0 P w K mg base N qual (defScope st) f cdv A outer s H E).nox (defBody st) t ∧ t { nx:=fun _ H' => Q .non H',rt:=Q } (start N vs) H) : FnOk P w K mg base CX0 (k + 1) f fd ps sp:=by
  obtain ⟨oc,od,kV,doc,pm,an,cdv,ct,osl,rfl,lk,hcd⟩:=F.ex
  refine fn_of lk hcd S len fun A outer s H vs Q E hr hsp => ?_
  obtain ⟨t,h,q⟩:=hbody cdv A outer s H vs Q E hr hsp
  exact ⟨t,h.nox,q⟩
theorem Fun.binds {x qual : Str} {st : Stmt} {f : Addr} {fd : FuncData} {ps : List Str} (F : Fun K x qual st f fd)
    (h : ∀ (kV doc pm : Value) (an : Option Addr) (cdv ct : Value) (us : List Value),us.length = ps.length→bindArgs (PySem.W.fnOf x qual (defArgs st) (defBody st) (defScope st) .none kV doc pm an cdv ct) ⟨us,[]⟩ = pure (ps.zip us)) : Binds K fd ps []:=by
  obtain ⟨oc,od,kV,doc,pm,an,cdv,ct,osl,rfl,lk,hcd⟩:=F.ex
  exact .all (h kV doc pm an cdv ct)
theorem fun_mk {x qual : Str} {st : Stmt} {f : Addr} {oc : Value} {od an : Option Addr} {osl : Array (Option Value)} {kV doc pm cdv ct : Value} (l : K.lookup f = some ⟨oc,od,.func (PySem.W.fnOf x qual (defArgs st) (defBody st) (defScope st) .none kV doc pm an cdv ct),osl⟩)
    (c : PySem.W.codeIn K cdv qual = true) (k : PySem.W.keepIn K (.ref f) = true) : Fun K x qual st f (PySem.W.fnOf x qual (defArgs st) (defBody st) (defScope st) .none kV doc pm an cdv ct):=⟨⟨oc,od,kV,doc,pm,an,cdv,ct,osl,rfl,l,c⟩,k⟩
end
section
variable {X : Cx}
theorem pv (i : Nat) {x : Str} {pos : Pos} (hN : X.N[i]? = some x:=by rfl) (hv : Vis X.env.scope x:=by first | exact Or.inl rfl | exact Or.inr (Or.inl rfl) | exact Or.inr (Or.inr rfl)) (hd : (x == ("__debug__" : Str)) = false:=by decide)
    (hcd : (x == ("__classdict__" : Str)) = false:=by decide) : PE X (.Name x pos) (tVar i):=pe_var hN hv hd hcd
end
theorem iteF {A B : Prop} (h : B) : if false = true then A else B:=by
  rw [if_neg Bool.false_ne_true]
  exact h
theorem iteT {A B : Prop} (h : A) : if true = true then A else B:=by
  rw [if_pos rfl]
  exact h
theorem ite2 {c A B : Prop} [Decidable c] (h1 : c→A) (h2 : ¬ c→B) : if c then A else B:=by
  by_cases h : c
  · rw [if_pos h]
    exact h1 h
  · rw [if_neg h]
    exact h2 h
theorem iteNS {c A B : Prop} [Decidable c] (hc : c) (h : B) : if (!decide c) = true then A else B:=by
  rw [decide_eq_true hc]
  exact iteF h
noncomputable def Same (H H' : Hp) : Prop:=∀ b o,H b = some o→H' b = some o
theorem Same.refl (H : Hp) : Same H H:=fun _ _ h => h
theorem Same.trans {H H1 H2 : Hp} (a : Same H H1) (b : Same H1 H2) : Same H H2:=fun c o h => b c o (a c o h)
theorem Same.free {H H' : Hp} (e : Same H H') {l : Addr} (h : H' l = Option.none) : H l = Option.none:=by
  cases q : H l with
  | none => rfl
  | some o =>
    rw [e l o q] at h
    cases h
theorem Same.seq {K : PySem.W.Frag} {H H' : Hp} {a : Addr} {xs : List V} (e : Same H H') (h : SqL K H a xs) : SqL K H' a xs:=by
  rcases h with (h | ⟨o,h⟩) | h
  · exact .inl (.inl (e _ _ h))
  · exact .inl (.inr ⟨o,e _ _ h⟩)
  · exact .inr h
end L2
namespace Ra
noncomputable def Bt (n : Nat) (x : Int) : Prop:=x.natAbs < 2 ^ n
theorem Bt.mono {m n : Nat} {x : Int} (h : Bt m x) (l : m ≤ n) : Bt n x:=Nat.lt_of_lt_of_le h (Nat.pow_le_pow_right (by decide) l)
theorem Bt.neg {n : Nat} {x : Int} (h : Bt n x) : Bt n (-x):=by unfold Bt at *; rw [Int.natAbs_neg]; exact h
theorem Bt.mul {m n : Nat} {x y : Int} (h : Bt m x) (k : Bt n y) : Bt (m + n) (x * y):=by
  unfold Bt at *
  rw [Int.natAbs_mul,Nat.pow_add]
  exact Nat.mul_lt_mul'' h k
theorem Bt.of_le {n : Nat} {x y : Int} (h : Bt n x) (k : y.natAbs ≤ x.natAbs) : Bt n y:=Nat.lt_of_le_of_lt k h
theorem Bt.ediv {n : Nat} {x y : Int} (h : Bt n x) : Bt n (x / y):=h.of_le (Int.natAbs_ediv_le_natAbs x y)
theorem Bt.zero {n : Nat} : Bt n 0:=Nat.pow_pos (by decide)
theorem Bt.between {n : Nat} {x : Int} (h : -(2 ^ n : Int) < x) (k : x < (2 ^ n : Int)) : Bt n x:=by
  unfold Bt
  have e : ((2 ^ n : Nat) : Int) = (2 : Int) ^ n:=by push_cast; rfl
  (first | lia | omega)
noncomputable def g (a b : Int) : Int:=(Int.gcd a b : Nat)
theorem g_nonneg (a b : Int) : 0 ≤ g a b:=Int.natCast_nonneg _
theorem g_dvd_left (a b : Int) : g a b ∣ a:=Int.gcd_dvd_left a b
theorem g_dvd_right (a b : Int) : g a b ∣ b:=Int.gcd_dvd_right a b
theorem g_pos {a b : Int} (h : b ≠ 0) : 0 < g a b:=by
  have h1 : 0 < Int.gcd a b:=Int.gcd_pos_of_ne_zero_right a h
  unfold g
  (first | lia | omega)
theorem g_zero {a b : Int} (h : g a b = 0) : a = 0 ∧ b = 0:=by
  have : Int.gcd a b = 0:=by unfold g at h; (first | lia | omega)
  exact Int.gcd_eq_zero_iff.mp this
structure Fq (a b : Int) : Prop where
  pos : 0 < b
  one : Int.gcd a b = 1
theorem cop_mul {a b c : Int} (h : Int.gcd a b = 1) (k : Int.gcd a c = 1) : Int.gcd a (b * c) = 1:=by
  show Nat.gcd a.natAbs (b * c).natAbs = 1
  rw [Int.natAbs_mul]
  exact Nat.Coprime.mul_right h k
theorem cop_mull {a b c : Int} (h : Int.gcd a c = 1) (k : Int.gcd b c = 1) : Int.gcd (a * b) c = 1:=by
  rw [Int.gcd_comm]
  exact cop_mul (by rw [Int.gcd_comm]; exact h) (by rw [Int.gcd_comm]; exact k)
theorem cop_dvd {a b c : Int} (h : Int.gcd a b = 1) (d : c ∣ a) : Int.gcd c b = 1:=by
  have hd : c.natAbs ∣ a.natAbs:=Int.natAbs_dvd_natAbs.mpr d
  exact Nat.Coprime.coprime_dvd_left hd h
theorem cop_dvdr {a b c : Int} (h : Int.gcd a b = 1) (d : c ∣ b) : Int.gcd a c = 1:=by
  rw [Int.gcd_comm]
  exact cop_dvd (by rw [Int.gcd_comm]; exact h) d
theorem div_cop {a b : Int} (h : b ≠ 0) : Int.gcd (a / g a b) (b / g a b) = 1:=by
  have hp : 0 < Int.gcd a b:=Int.gcd_pos_of_ne_zero_right a h
  exact Int.gcd_ediv_gcd_ediv_gcd hp
theorem cop_add {a b k : Int} (h : Int.gcd a b = 1) : Int.gcd (a + k * b) b = 1:=by
  rw [Int.gcd_add_mul_right_left]
  exact h
theorem mul_g {a b : Int} : g a b * (a / g a b) = a:=Int.mul_ediv_cancel' (g_dvd_left a b)
theorem mul_gr {a b : Int} : g a b * (b / g a b) = b:=Int.mul_ediv_cancel' (g_dvd_right a b)
theorem low_ok {t b : Int} (hb : 0 < b) : Fq (t / g t b) (b / g t b) ∧ (t / g t b) * b = t * (b / g t b):=by
  have hg : 0 < g t b:=g_pos (by (first | lia | omega))
  refine ⟨⟨?_,div_cop (by (first | lia | omega))⟩,?_⟩
  · exact Int.ediv_pos_of_pos_of_dvd hb (Int.le_of_lt hg) (g_dvd_right t b)
  · have e1:=@mul_g t b
    have e2:=@mul_gr t b
    generalize t / g t b = x at *
    generalize b / g t b = y at *
    calc x * b = x * (g t b * y):=by rw [e2]
      _ = (g t b * x) * y:=by rw [← Int.mul_assoc,Int.mul_comm x]
      _ = t * y:=by rw [e1]
noncomputable def plsT (a b c d : Int) : Int:=a * (d / g b d) + c * (b / g b d)
noncomputable def plsN (a b c d : Int) : Int:=plsT a b c d / g (plsT a b c d) (g b d)
noncomputable def plsD (a b c d : Int) : Int:=(b / g b d) * (d / g (plsT a b c d) (g b d))
theorem pls_ok {a b c d : Int} (h : Fq a b) (k : Fq c d) : Fq (plsN a b c d) (plsD a b c d) ∧ plsN a b c d * (b * d) = (a * d + c * b) * plsD a b c d:=by
  have hs : 0 < g b d:=g_pos (by have:=k.pos; (first | lia | omega))
  obtain ⟨s,hs'⟩ : ∃ s,s = g b d:=⟨_,rfl⟩
  obtain ⟨x,hx⟩ : ∃ x,x = b / g b d:=⟨_,rfl⟩
  obtain ⟨y,hy⟩ : ∃ y,y = d / g b d:=⟨_,rfl⟩
  obtain ⟨t,ht⟩ : ∃ t,t = a * y + c * x:=⟨_,rfl⟩
  have et : plsT a b c d = t:=by rw [ht,hx,hy]; rfl
  have eb : s * x = b:=by rw [hs',hx]; exact mul_g
  have ed : s * y = d:=by rw [hs',hy]; exact mul_gr
  have cxy : Int.gcd x y = 1:=by rw [hx,hy]; exact div_cop (by have:=k.pos; (first | lia | omega))
  have hx0 : 0 < x:=by rw [hx]; exact Int.ediv_pos_of_pos_of_dvd h.pos (g_nonneg _ _) (g_dvd_left _ _)
  have hy0 : 0 < y:=by rw [hy]; exact Int.ediv_pos_of_pos_of_dvd k.pos (g_nonneg _ _) (g_dvd_right _ _)
  rw [← hs'] at hs
  obtain ⟨l,hl⟩ : ∃ l,l = g t s:=⟨_,rfl⟩
  have hl0 : 0 < l:=by rw [hl]; exact g_pos (by (first | lia | omega))
  obtain ⟨T,hT⟩ : ∃ T,T = t / g t s:=⟨_,rfl⟩
  obtain ⟨S,hS⟩ : ∃ S,S = s / g t s:=⟨_,rfl⟩
  have eT : l * T = t:=by rw [hl,hT]; exact mul_g
  have eS : l * S = s:=by rw [hl,hS]; exact mul_gr
  have cTS : Int.gcd T S = 1:=by rw [hT,hS]; exact div_cop (by (first | lia | omega))
  have hS0 : 0 < S:=by rw [hS]; exact Int.ediv_pos_of_pos_of_dvd hs (g_nonneg _ _) (g_dvd_right _ _)
  have eN : plsN a b c d = T:=by unfold plsN; rw [et,← hs',hT]
  have eD : plsD a b c d = x * (S * y):=by
    unfold plsD
    have hdl : d / g t s = S * y:=by rw [← hl,← ed,← eS,Int.mul_assoc,Int.mul_ediv_cancel_left _ (by (first | lia | omega))]
    rw [et,← hx,← hs',hdl]
  have cax : Int.gcd a x = 1:=cop_dvdr h.one ⟨s,by rw [← eb,Int.mul_comm]⟩
  have ccy : Int.gcd c y = 1:=cop_dvdr k.one ⟨s,by rw [← ed,Int.mul_comm]⟩
  have ctx : Int.gcd t x = 1:=by
    rw [ht]
    exact cop_add (cop_mull cax (by rw [Int.gcd_comm]; exact cxy))
  have cty : Int.gcd t y = 1:=by
    rw [ht,Int.add_comm]
    exact cop_add (cop_mull ccy cxy)
  have dT : T ∣ t:=⟨l,by rw [← eT,Int.mul_comm]⟩
  rw [eN,eD]
  refine ⟨⟨Int.mul_pos hx0 (Int.mul_pos hS0 hy0),cop_mul (cop_dvd ctx dT) (cop_mul cTS (cop_dvd cty dT))⟩,?_⟩
  have e1 : a * d + c * b = s * t:=by
    rw [← ed,← eb,ht,Int.mul_add]
    simp [Int.mul_comm,Int.mul_left_comm,Int.mul_assoc]
  rw [e1,← eT,← ed,← eb,← eS]
  simp [Int.mul_comm,Int.mul_left_comm,Int.mul_assoc]
noncomputable def tmsN (a b c d : Int) : Int:=(a / g a d) * (c / g c b)
noncomputable def tmsD (a b c d : Int) : Int:=(b / g c b) * (d / g a d)
theorem tms_ok {a b c d : Int} (h : Fq a b) (k : Fq c d) : Fq (tmsN a b c d) (tmsD a b c d) ∧ tmsN a b c d * (b * d) = (a * c) * tmsD a b c d:=by
  have hb:=h.pos
  have hd:=k.pos
  have p1 : 0 < g a d:=g_pos (by (first | lia | omega))
  have p2 : 0 < g c b:=g_pos (by (first | lia | omega))
  obtain ⟨f,hf⟩ : ∃ f,f = g a d:=⟨_,rfl⟩
  obtain ⟨s,hs⟩ : ∃ s,s = g c b:=⟨_,rfl⟩
  obtain ⟨a',ha'⟩ : ∃ x,x = a / g a d:=⟨_,rfl⟩
  obtain ⟨d',hd'⟩ : ∃ x,x = d / g a d:=⟨_,rfl⟩
  obtain ⟨c',hc'⟩ : ∃ x,x = c / g c b:=⟨_,rfl⟩
  obtain ⟨b',hb'⟩ : ∃ x,x = b / g c b:=⟨_,rfl⟩
  have ea : f * a' = a:=by rw [hf,ha']; exact mul_g
  have ed : f * d' = d:=by rw [hf,hd']; exact mul_gr
  have ec : s * c' = c:=by rw [hs,hc']; exact mul_g
  have eb : s * b' = b:=by rw [hs,hb']; exact mul_gr
  have c1 : Int.gcd a' d' = 1:=by rw [ha',hd']; exact div_cop (by (first | lia | omega))
  have c2 : Int.gcd c' b' = 1:=by rw [hc',hb']; exact div_cop (by (first | lia | omega))
  have c3 : Int.gcd a' b' = 1:=cop_dvd (cop_dvdr h.one ⟨s,by rw [← eb,Int.mul_comm]⟩) ⟨f,by rw [← ea,Int.mul_comm]⟩
  have c4 : Int.gcd c' d' = 1:=cop_dvd (cop_dvdr k.one ⟨f,by rw [← ed,Int.mul_comm]⟩) ⟨s,by rw [← ec,Int.mul_comm]⟩
  have hb0 : 0 < b':=by rw [hb']; exact Int.ediv_pos_of_pos_of_dvd hb (g_nonneg _ _) (g_dvd_right _ _)
  have hd0 : 0 < d':=by rw [hd']; exact Int.ediv_pos_of_pos_of_dvd hd (g_nonneg _ _) (g_dvd_right _ _)
  have eN : tmsN a b c d = a' * c':=by unfold tmsN; rw [ha',hc']
  have eD : tmsD a b c d = b' * d':=by unfold tmsD; rw [hb',hd']
  rw [eN,eD]
  refine ⟨⟨Int.mul_pos hb0 hd0,cop_mull (cop_mul c3 c1) (cop_mul c2 c4)⟩,?_⟩
  rw [← ea,← ed,← ec,← eb]
  simp [Int.mul_comm,Int.mul_left_comm,Int.mul_assoc]
theorem g_step {a b : Int} (ha : 0 ≤ a) (hb : 0 < b) : g b (a % b) = g a b:=by
  unfold g
  rw [Int.gcd_comm a b]
  exact congrArg _ (by rw [Int.emod_def,Int.sub_eq_add_neg,← Int.mul_neg,Int.gcd_add_mul_left_right])
theorem g_end {a : Int} (ha : 0 ≤ a) : g a 0 = a:=by
  unfold g
  rw [Int.gcd_zero_right]
  (first | lia | omega)
theorem g_abs (a b : Int) : g (if a < 0 then -a else a) (if b < 0 then -b else b) = g a b:=by
  unfold g
  split <;> split <;> simp
end Ra
namespace Ra
noncomputable def sh (t b : Int) : Int:=if b < 0 then -(g t b) else g t b
noncomputable def frN (t b : Int) : Int:=t.fdiv (sh t b)
noncomputable def frD (t b : Int) : Int:=b.fdiv (sh t b)
theorem sh_ne {t b : Int} (h : b ≠ 0) : sh t b ≠ 0:=by
  have:=g_pos (a:=t) h
  unfold sh
  split <;> (first | lia | omega)
theorem sh_bt {n : Nat} {t b : Int} (h : b ≠ 0) (k : Bt n b) : Bt n (sh t b):=by
  have d : (g t b).natAbs ≤ b.natAbs:=by
    have:=Int.natAbs_dvd_natAbs.mpr (g_dvd_right t b)
    exact Nat.le_of_dvd (by (first | lia | omega)) this
  refine k.of_le ?_
  unfold sh
  split
  · rw [Int.natAbs_neg]
    exact d
  · exact d
theorem sh_dvd_left (t b : Int) : sh t b ∣ t:=by
  unfold sh
  split
  · exact Int.neg_dvd.mpr (g_dvd_left t b)
  · exact g_dvd_left t b
theorem sh_dvd_right (t b : Int) : sh t b ∣ b:=by
  unfold sh
  split
  · exact Int.neg_dvd.mpr (g_dvd_right t b)
  · exact g_dvd_right t b
theorem frN_eq (t b : Int) : frN t b = if b < 0 then -(t / g t b) else t / g t b:=by
  unfold frN
  rw [Int.fdiv_eq_ediv_of_dvd (sh_dvd_left t b)]
  unfold sh
  split
  · rw [Int.ediv_neg]
  · rfl
theorem frD_eq (t b : Int) : frD t b = if b < 0 then -(b / g t b) else b / g t b:=by
  unfold frD
  rw [Int.fdiv_eq_ediv_of_dvd (sh_dvd_right t b)]
  unfold sh
  split
  · rw [Int.ediv_neg]
  · rfl
theorem fr_ok {t b : Int} (h : b ≠ 0) : Fq (frN t b) (frD t b) ∧ frN t b * b = t * frD t b:=by
  have hg : 0 < g t b:=g_pos h
  have e1:=@mul_g t b
  have e2:=@mul_gr t b
  have c:=div_cop (a:=t) h
  rw [frN_eq,frD_eq]
  generalize t / g t b = x at *
  generalize b / g t b = y at *
  generalize g t b = d at *
  have key : x * b = t * y:=by
    rw [← e1,← e2]
    simp [Int.mul_comm,Int.mul_left_comm]
  by_cases hb : b < 0
  · rw [if_pos hb,if_pos hb]
    refine ⟨⟨?_,by rw [Int.neg_gcd,Int.gcd_neg]; exact c⟩,by rw [Int.neg_mul,Int.mul_neg,key]⟩
    have : y < 0:=by
      rcases Int.lt_trichotomy y 0 with z | z | z
      · exact z
      · rw [z] at e2
        (first | lia | omega)
      · have:=Int.mul_pos hg z
        (first | lia | omega)
    (first | lia | omega)
  · rw [if_neg hb,if_neg hb]
    refine ⟨⟨?_,c⟩,key⟩
    rcases Int.lt_trichotomy y 0 with z | z | z
    · have:=Int.mul_pos hg (show 0 < -y by (first | lia | omega))
      rw [Int.mul_neg] at this
      (first | lia | omega)
    · rw [z] at e2
      (first | lia | omega)
    · exact z
noncomputable def sgn (a : Int) : Int:=if a > 0 then 1 else if a < 0 then -1 else 0
noncomputable def ab (a : Int) : Int:=if a < 0 then -a else a
end Ra
namespace Rq
open Ra
theorem den_pos (q : Rat) : (0 : Int) < (q.den : Int):=by have:=q.den_pos; (first | lia | omega)
theorem den_ne (q : Rat) : ((q.den : Int) : Rat) ≠ 0:=fun h => by
  have:=den_pos q
  have h2 : (q.den : Int) = 0:=Rat.intCast_eq_zero_iff.mp h
  (first | lia | omega)
theorem fq (q : Rat) : Fq q.num q.den:=⟨den_pos q,q.reduced⟩
theorem q_eq (q : Rat) : (q.num : Rat) / ((q.den : Int) : Rat) = q:=by
  rw [← Rat.divInt_eq_div]
  exact Rat.num_divInt_den q
theorem of_low {N D T M : Int} (f : Fq N D) (hM : M ≠ 0) (e : N * M = T * D) {q : Rat} (hq : q = (T : Rat) / (M : Rat)) : q.num = N ∧ (q.den : Int) = D:=by
  have hD:=f.pos
  have hd : D.toNat ≠ 0:=by (first | lia | omega)
  have ed : ((D.toNat : Nat) : Int) = D:=by (first | lia | omega)
  have hr : N.natAbs.Coprime D.toNat:=by
    have h:=f.one
    have e2 : D.natAbs = D.toNat:=by (first | lia | omega)
    rw [← e2]
    exact h
  have key : q = (⟨N,D.toNat,hd,hr⟩ : Rat):=by
    rw [hq,← Rat.divInt_eq_div,Rat.mk_eq_divInt,ed]
    exact (Rat.divInt_eq_divInt_iff hM (by (first | lia | omega))).mpr e.symm
  rw [key]
  exact ⟨rfl,ed⟩
theorem num_zero {q : Rat} : q.num = 0 ↔ q = 0:=Rat.num_eq_zero
theorem add_as (p q : Rat) : (((p.num * q.den + q.num * p.den : Int)) : Rat) / ((p.den * q.den : Int) : Rat) = p + q:=by
  have e1:=q_eq p
  have e2:=q_eq q
  have n1:=den_ne p
  have n2:=den_ne q
  simp only [Rat.intCast_add,Rat.intCast_mul]
  generalize (p.num : Rat) = a at *
  generalize ((p.den : Int) : Rat) = b at *
  generalize (q.num : Rat) = c at *
  generalize ((q.den : Int) : Rat) = d at *
  subst e1 e2
  grind
theorem pls_q (p q : Rat) : plsN p.num p.den q.num q.den = (p + q).num ∧ plsD p.num p.den q.num q.den = ((p + q).den : Int):=by
  obtain ⟨f,e⟩:=pls_ok (fq p) (fq q)
  have h1:=den_pos p
  have h2:=den_pos q
  obtain ⟨a,b⟩:=of_low (q:=p + q) f (Int.ne_of_gt (Int.mul_pos h1 h2)) e (by
    have e1:=q_eq p
    have e2:=q_eq q
    have n1:=den_ne p
    have n2:=den_ne q
    simp only [Rat.intCast_add,Rat.intCast_mul]
    generalize (p.num : Rat) = a at *
    generalize ((p.den : Int) : Rat) = b at *
    generalize (q.num : Rat) = c at *
    generalize ((q.den : Int) : Rat) = d at *
    subst e1 e2
    grind)
  exact ⟨a.symm,b.symm⟩
theorem mns_q (p q : Rat) : plsN p.num p.den (-q.num) q.den = (p - q).num ∧ plsD p.num p.den (-q.num) q.den = ((p - q).den : Int):=by
  have h:=pls_q p (-q)
  rw [Rat.neg_num,Rat.neg_den,← Rat.sub_eq_add_neg] at h
  exact h
theorem tms_q (p q : Rat) : tmsN p.num p.den q.num q.den = (p * q).num ∧ tmsD p.num p.den q.num q.den = ((p * q).den : Int):=by
  obtain ⟨f,e⟩:=tms_ok (fq p) (fq q)
  have h1:=den_pos p
  have h2:=den_pos q
  obtain ⟨a,b⟩:=of_low (q:=p * q) f (Int.ne_of_gt (Int.mul_pos h1 h2)) e (by
    have e1:=q_eq p
    have e2:=q_eq q
    have n1:=den_ne p
    have n2:=den_ne q
    simp only [Rat.intCast_mul]
    generalize (p.num : Rat) = a at *
    generalize ((p.den : Int) : Rat) = b at *
    generalize (q.num : Rat) = c at *
    generalize ((q.den : Int) : Rat) = d at *
    subst e1 e2
    grind)
  exact ⟨a.symm,b.symm⟩
theorem low_q {t b : Int} (hb : 0 < b) : t / g t b = ((t : Rat) / (b : Rat)).num ∧ b / g t b = (((t : Rat) / (b : Rat)).den : Int):=by
  obtain ⟨f,e⟩:=low_ok (t:=t) hb
  obtain ⟨a,b⟩:=of_low f (by (first | lia | omega)) e rfl
  exact ⟨a.symm,b.symm⟩
noncomputable def Bq (n : Nat) (q : Rat) : Prop:=Bt n q.num ∧ Bt n (q.den : Int)
theorem Bq.mono {m n : Nat} {q : Rat} (h : Bq m q) (l : m ≤ n) : Bq n q:=⟨h.1.mono l,h.2.mono l⟩
theorem Bq.neg {n : Nat} {q : Rat} (h : Bq n q) : Bq n (-q):=⟨by rw [Rat.neg_num]; exact h.1.neg,by rw [Rat.neg_den]; exact h.2⟩
theorem Bq.zero {n : Nat} (h : 0 < n) : Bq n 0:=⟨Bt.zero,Bt.mono (m:=1) (by show (1 : Nat) < 2 ^ 1; decide) h⟩
theorem Bq.one {n : Nat} (h : 0 < n) : Bq n 1:=⟨Bt.mono (m:=1) (by show (1 : Nat) < 2 ^ 1; decide) h,Bt.mono (m:=1) (by show (1 : Nat) < 2 ^ 1; decide) h⟩
theorem dvd_of {T M : Int} {q : Rat} (hM : M ≠ 0) (hq : q = (T : Rat) / (M : Rat)) : q.num ∣ T ∧ (q.den : Int) ∣ M:=by
  have e : q.num * M = T * q.den:=by
    have e1 : (q.num : Rat) / ((q.den : Int) : Rat) = (T : Rat) / (M : Rat):=(q_eq q).trans hq
    rw [← Rat.divInt_eq_div,← Rat.divInt_eq_div] at e1
    exact (Rat.divInt_eq_divInt_iff (by have:=den_pos q; (first | lia | omega)) hM).mp e1
  have c:=(fq q).one
  constructor
  · have d : q.num ∣ T * q.den:=⟨M,e.symm⟩
    have d':=Int.natAbs_dvd_natAbs.mpr d
    rw [Int.natAbs_mul] at d'
    exact Int.natAbs_dvd_natAbs.mp (Nat.Coprime.dvd_of_dvd_mul_right c d')
  · have d : (q.den : Int) ∣ q.num * M:=⟨T,by rw [e,Int.mul_comm]⟩
    have d':=Int.natAbs_dvd_natAbs.mpr d
    rw [Int.natAbs_mul] at d'
    exact Int.natAbs_dvd_natAbs.mp (Nat.Coprime.dvd_of_dvd_mul_left (Nat.Coprime.symm c) d')
theorem bq_of {n : Nat} {T M : Int} {q : Rat} (hM : M ≠ 0) (hq : q = (T : Rat) / (M : Rat)) (bT : Bt n T) (bM : Bt n M) : Bq n q:=by
  obtain ⟨d1,d2⟩:=dvd_of hM hq
  refine ⟨?_,bM.of_le (Nat.le_of_dvd (by (first | lia | omega)) (Int.natAbs_dvd_natAbs.mpr d2))⟩
  by_cases h : T = 0
  · subst h
    have : q = 0:=by rw [hq]; simp [Rat.div_def]
    rw [this]
    exact Bt.zero
  · exact bT.of_le (Nat.le_of_dvd (by (first | lia | omega)) (Int.natAbs_dvd_natAbs.mpr d1))
theorem bt_add {n : Nat} {x y : Int} (h : Bt n x) (k : Bt n y) : Bt (n + 1) (x + y):=by
  unfold Bt at *
  have a:=Int.natAbs_add_le x y
  rw [Nat.pow_succ]
  (first | lia | omega)
theorem Bq.add {m n : Nat} {p q : Rat} (h : Bq m p) (k : Bq n q) : Bq (m + n + 1) (p + q):=by
  obtain ⟨e1,e2⟩:=pls_q p q
  rw [Bq,← e1,← e2]
  refine ⟨(bt_add (h.1.mul k.2.ediv) ((k.1.mul h.2.ediv).mono (by (first | lia | omega)))).ediv,(h.2.ediv.mul k.2.ediv).mono (by (first | lia | omega))⟩
theorem Bq.sub {m n : Nat} {p q : Rat} (h : Bq m p) (k : Bq n q) : Bq (m + n + 1) (p - q):=by
  rw [Rat.sub_eq_add_neg]
  exact h.add k.neg
theorem Bq.mul {m n : Nat} {p q : Rat} (h : Bq m p) (k : Bq n q) : Bq (m + n) (p * q):=by
  obtain ⟨e1,e2⟩:=tms_q p q
  rw [Bq,← e1,← e2]
  exact ⟨h.1.ediv.mul k.1.ediv,h.2.ediv.mul k.2.ediv⟩
end Rq
namespace Po
open Ra Rq
noncomputable def strip : List Rat→List Rat
  | [] => []
  | q :: qs => match strip qs with
    | [] => if q = 0 then [] else [q]
    | r :: rs => q :: r :: rs
theorem strip_snoc0 (xs : List Rat) : strip (xs ++ [0]) = strip xs:=by
  induction xs with
  | nil => rfl
  | cons x xs ih =>
    rw [List.cons_append,strip,ih,strip]
theorem strip_snoc {q : Rat} (h : q ≠ 0) (xs : List Rat) : strip (xs ++ [q]) = xs ++ [q]:=by
  induction xs with
  | nil => simp [strip,h]
  | cons x xs ih =>
    rw [List.cons_append,strip,ih]
    cases xs <;> rfl
theorem take_snoc {α : Type} {xs : List α} {n : Nat} {x : α} (h : xs[n]? = some x) : xs.take (n + 1) = xs.take n ++ [x]:=by
  rw [List.take_succ,h]
  rfl
theorem strip_length (xs : List Rat) : (strip xs).length ≤ xs.length:=by
  induction xs with
  | nil => exact Nat.le_refl _
  | cons x xs ih =>
    rw [strip]
    cases h : strip xs with
    | nil =>
      rw [h] at ih
      by_cases hx : x = 0 <;> simp [hx]
    | cons r rs =>
      rw [h] at ih
      simp only [List.length_cons] at *
      (first | lia | omega)
theorem strip_take (xs : List Rat) : strip xs = xs.take (strip xs).length:=by
  induction xs with
  | nil => rfl
  | cons x xs ih =>
    rw [strip]
    cases h : strip xs with
    | nil => by_cases hx : x = 0 <;> simp [hx]
    | cons r rs =>
      rw [h] at ih
      simp only [List.length_cons,List.take_succ_cons]
      rw [List.length_cons] at ih
      rw [← ih]
theorem strip_mem {xs : List Rat} {q : Rat} (h : q ∈ strip xs) : q ∈ xs:=by
  rw [strip_take] at h
  exact List.mem_of_mem_take h
theorem strip_strip (xs : List Rat) : strip (strip xs) = strip xs:=by
  induction xs with
  | nil => rfl
  | cons x xs ih =>
    rw [strip]
    cases h : strip xs with
    | nil => by_cases hx : x = 0 <;> simp [hx,strip]
    | cons r rs =>
      rw [h] at ih
      show strip (x :: r :: rs) = _
      rw [strip,ih]
theorem getD_strip (xs : List Rat) (i : Nat) : (strip xs).getD i 0 = xs.getD i 0:=by
  induction xs generalizing i with
  | nil => rfl
  | cons x xs ih =>
    rw [strip]
    cases h : strip xs with
    | nil =>
      rw [h] at ih
      cases i with
      | zero => by_cases hx : x = 0 <;> simp [hx]
      | succ i =>
        have e:=ih i
        by_cases hx : x = 0 <;> simp [hx] at * <;> exact e
    | cons r rs =>
      rw [h] at ih
      cases i with
      | zero => rfl
      | succ i => simpa using ih i
noncomputable def ev : List Rat→Rat→Rat
  | [],_ => 0
  | q :: qs,x => q + x * ev qs x
noncomputable def padd (ps qs : List Rat) : List Rat:=strip ((List.range (max ps.length qs.length)).map fun k => ps.getD k 0 + qs.getD k 0)
noncomputable def psub (ps qs : List Rat) : List Rat:=strip ((List.range (max ps.length qs.length)).map fun k => ps.getD k 0 - qs.getD k 0)
noncomputable def pscale (qs : List Rat) (x : Rat) : List Rat:=strip (qs.map (· * x))
noncomputable def pslope (qs : List Rat) : List Rat:=(List.range (qs.length - 1)).map fun k => qs.getD (k + 1) 0 * (((1 : Int) + (k : Int) : Int) : Rat)
noncomputable def sm (f : Nat→Rat) (n : Nat) : Rat:=(List.range n).foldl (fun acc i => acc + f i) 0
theorem sm_zero (f : Nat→Rat) : sm f 0 = 0:=rfl
theorem sm_succ (f : Nat→Rat) (n : Nat) : sm f (n + 1) = sm f n + f n:=by
  unfold sm
  rw [List.range_succ,List.foldl_append]
  rfl
theorem sm_congr {f h : Nat→Rat} {n : Nat} (e : ∀ i,i < n→f i = h i) : sm f n = sm h n:=by
  induction n with
  | zero => rfl
  | succ n ih => rw [sm_succ,sm_succ,ih fun i hi => e i (by (first | lia | omega)),e n (by (first | lia | omega))]
theorem sm_first (f : Nat→Rat) (n : Nat) : sm f (n + 1) = f 0 + sm (fun i => f (i + 1)) n:=by
  induction n with
  | zero => rw [sm_succ,sm_zero,sm_zero]; grind
  | succ n ih => rw [sm_succ,ih,sm_succ]; grind
theorem sm_add (f h : Nat→Rat) (n : Nat) : sm (fun i => f i + h i) n = sm f n + sm h n:=by
  induction n with
  | zero => rw [sm_zero,sm_zero,sm_zero]; grind
  | succ n ih => rw [sm_succ,sm_succ,sm_succ,ih]; grind
theorem sm_mul (c : Rat) (f : Nat→Rat) (n : Nat) : sm (fun i => c * f i) n = c * sm f n:=by
  induction n with
  | zero => rw [sm_zero,sm_zero]; grind
  | succ n ih => rw [sm_succ,sm_succ,ih]; grind
theorem sm_zeros {f : Nat→Rat} {n : Nat} (e : ∀ i,i < n→f i = 0) : sm f n = 0:=by
  induction n with
  | zero => rfl
  | succ n ih => rw [sm_succ,ih fun i hi => e i (by (first | lia | omega)),e n (by (first | lia | omega))]; grind
theorem sm_more {f : Nat→Rat} {m n : Nat} (h : m ≤ n) (e : ∀ i,m ≤ i→i < n→f i = 0) : sm f n = sm f m:=by
  induction n with
  | zero =>
    have : m = 0:=by (first | lia | omega)
    rw [this]
  | succ n ih =>
    by_cases hm : m = n + 1
    · rw [hm]
    · rw [sm_succ,ih (by (first | lia | omega)) fun i h1 h2 => e i h1 (by (first | lia | omega)),e n (by (first | lia | omega)) (by (first | lia | omega))]
      grind
noncomputable def conv (ps qs : List Rat) (k : Nat) : Rat:=sm (fun i => ps.getD i 0 * qs.getD (k - i) 0) (k + 1)
theorem getD_out {xs : List Rat} {i : Nat} (h : xs.length ≤ i) : xs.getD i 0 = 0:=by
  rw [List.getD_eq_getElem?_getD,List.getElem?_eq_none h]
  rfl
noncomputable def pmul (ps qs : List Rat) : List Rat:=strip ((List.range (ps.length + qs.length)).map (conv ps qs))
theorem strip_zeros {xs : List Rat} (h : ∀ i,xs.getD i 0 = 0) : strip xs = []:=by
  induction xs with
  | nil => rfl
  | cons x xs ih =>
    rw [strip,ih fun i => by simpa using h (i + 1)]
    have : x = 0:=by simpa using h 0
    simp [this]
theorem strip_ext {xs ys : List Rat} (h : ∀ i,xs.getD i 0 = ys.getD i 0) : strip xs = strip ys:=by
  induction xs generalizing ys with
  | nil => rw [strip_zeros fun i => (h i).symm]; rfl
  | cons x xs ih =>
    cases ys with
    | nil => rw [strip_zeros fun i => h i]; rfl
    | cons y ys =>
      have e0 : x = y:=by simpa using h 0
      rw [strip,strip,ih fun i => by simpa using h (i + 1),e0]
theorem getD_range (f : Nat→Rat) (n i : Nat) : ((List.range n).map f).getD i 0 = if i < n then f i else 0:=by
  rw [List.getD_eq_getElem?_getD,List.getElem?_map]
  by_cases h : i < n
  · rw [List.getElem?_range h,if_pos h]
    rfl
  · rw [List.getElem?_eq_none (by rw [List.length_range]; (first | lia | omega)),if_neg h]
    rfl
theorem conv_out {ps qs : List Rat} {k : Nat} (h : ps.length + qs.length ≤ k + 1) : conv ps qs k = 0:=by
  unfold conv
  refine sm_zeros fun i hi => ?_
  by_cases h1 : ps.length ≤ i
  · rw [getD_out h1]; grind
  · rw [getD_out (xs:=qs) (by (first | lia | omega))]; grind
theorem getD_pmul (ps qs : List Rat) (k : Nat) : (pmul ps qs).getD k 0 = conv ps qs k:=by
  unfold pmul
  rw [getD_strip,getD_range]
  by_cases h : k < ps.length + qs.length
  · rw [if_pos h]
  · rw [if_neg h,conv_out (by (first | lia | omega))]
theorem getD_bq {n : Nat} {qs : List Rat} (hn : 0 < n) (h : ∀ q ∈ qs,Bq n q) (k : Nat) : Bq n (qs.getD k 0):=by
  rw [List.getD_eq_getElem?_getD]
  by_cases hk : k < qs.length
  · rw [List.getElem?_eq_getElem hk]
    exact h _ (List.getElem_mem hk)
  · rw [List.getElem?_eq_none (by (first | lia | omega))]
    exact Bq.zero hn
noncomputable def Rep (n : Nat) (v : Rat) (T M : Int) : Prop:=M ≠ 0 ∧ v = (T : Rat) / (M : Rat) ∧ Bt n T ∧ Bt n M
noncomputable def lsum (qs : List Rat) : Rat:=qs.foldl (· + ·) 0
end Po
namespace Po
open Ra Rq
noncomputable def stp (gs ws : List Rat) (t h0 l0 : Rat) : Nat→Rat × Rat
  | 0 => (h0 + gs.getD 0 0 * l0,l0)
  | k + 1 => ((stp gs ws t h0 l0 k).1 + gs.getD (k + 1) 0 * ((stp gs ws t h0 l0 k).2 - t * ws.getD k 0 * (stp gs ws t h0 l0 k).1),(stp gs ws t h0 l0 k).2 - t * ws.getD k 0 * (stp gs ws t h0 l0 k).1)
noncomputable def walkQ (gs ws : List Rat) (t h0 l0 : Rat) : List (Rat × Rat):=(List.range gs.length).map (stp gs ws t h0 l0)
structure R3 (n : Nat) (h l : Rat) (th tl m : Int) : Prop where
  pos : 0 < m
  eh : h = (th : Rat) / (m : Rat)
  el : l = (tl : Rat) / (m : Rat)
  bh : Bt n th
  bl : Bt n tl
  bm : Bt n m
end Po
namespace Po
open Ra Rq
noncomputable def lst (xs : List Rat) : Rat:=xs.getD (xs.length - 1) 0
noncomputable def rless (rs qs : List Rat) (f : Rat) : List Rat:=rs.take (rs.length - qs.length) ++ (List.range (qs.length - 1)).map fun k => rs.getD (rs.length - qs.length + k) 0 - f * qs.getD k 0
theorem conv_nil (qs : List Rat) (k : Nat) : conv [] qs k = 0:=sm_zeros fun i _ => by rw [getD_out (xs:=[]) (by simp),Rat.zero_mul]
noncomputable def dv (qs : List Rat) : Nat→List Rat→List Rat × List Rat
  | 0,rs => ([],rs)
  | s + 1,rs => if rs.length < qs.length then ([],rs) else ((dv qs s (rless rs qs (lst rs / lst qs))).1 ++ [lst rs / lst qs],(dv qs s (rless rs qs (lst rs / lst qs))).2)
noncomputable def Ov (n : Nat) (M : Int) (q : Rat) : Prop:=∃ T : Int,Bt n T ∧ q * (M : Rat) = (T : Rat)
theorem Ov.mono {m n : Nat} {M : Int} {q : Rat} (h : Ov m M q) (l : m ≤ n) : Ov n M q:=by
  obtain ⟨T,b,e⟩:=h
  exact ⟨T,b.mono l,e⟩
theorem Ov.zero {n : Nat} {M : Int} : Ov n M 0:=⟨0,Bt.zero,by rw [Rat.zero_mul]; rfl⟩
theorem Ov.add {n : Nat} {M : Int} {p q : Rat} (h : Ov n M p) (k : Ov n M q) : Ov (n + 1) M (p + q):=by
  obtain ⟨T,b,e⟩:=h
  obtain ⟨U,c,f⟩:=k
  exact ⟨T + U,bt_add b c,by rw [Rat.add_mul,e,f,Rat.intCast_add]⟩
theorem Ov.neg {n : Nat} {M : Int} {q : Rat} (h : Ov n M q) : Ov n M (-q):=by
  obtain ⟨T,b,e⟩:=h
  exact ⟨-T,b.neg,by rw [Rat.neg_mul,e,Rat.intCast_neg]⟩
theorem Ov.sub {n : Nat} {M : Int} {p q : Rat} (h : Ov n M p) (k : Ov n M q) : Ov (n + 1) M (p - q):=by
  rw [Rat.sub_eq_add_neg]
  exact h.add k.neg
theorem Ov.mul {m n : Nat} {M W : Int} {p q : Rat} (h : Ov m M p) (k : Ov n W q) : Ov (m + n) (M * W) (p * q):=by
  obtain ⟨T,b,e⟩:=h
  obtain ⟨U,c,f⟩:=k
  refine ⟨T * U,b.mul c,?_⟩
  rw [Rat.intCast_mul,Rat.intCast_mul,← e,← f]
  grind
theorem Ov.scale {m n : Nat} {M Z : Int} {q : Rat} (h : Ov m M q) (k : Bt n Z) : Ov (m + n) (M * Z) q:=by
  obtain ⟨T,b,e⟩:=h
  refine ⟨T * Z,b.mul k,?_⟩
  rw [Rat.intCast_mul,Rat.intCast_mul,← e]
  grind
theorem Ov.bq {n : Nat} {M : Int} {q : Rat} (h : Ov n M q) (h0 : M ≠ 0) (b : Bt n M) : Bq n q:=by
  obtain ⟨T,c,e⟩:=h
  have n3 : (M : Rat) ≠ 0:=fun z => h0 (Rat.intCast_eq_zero_iff.mp z)
  refine bq_of h0 ?_ c b
  rw [← e,Rat.div_def,Rat.mul_assoc,Rat.mul_inv_cancel _ n3,Rat.mul_one]
theorem getD_ov {n : Nat} {M : Int} {qs : List Rat} (h : ∀ q ∈ qs,Ov n M q) (k : Nat) : Ov n M (qs.getD k 0):=by
  rw [List.getD_eq_getElem?_getD]
  by_cases hk : k < qs.length
  · rw [List.getElem?_eq_getElem hk]
    exact h _ (List.getElem_mem hk)
  · rw [List.getElem?_eq_none (by (first | lia | omega))]
    exact Ov.zero
end Po
namespace Po
open Ra Rq
theorem ev_strip (ps : List Rat) (t : Rat) : ev (strip ps) t = ev ps t:=by
  induction ps with
  | nil => rfl
  | cons q qs ih =>
    rw [strip]
    cases h : strip qs with
    | nil =>
      rw [h] at ih
      have e0 : ev qs t = 0:=ih.symm
      by_cases hq : q = 0
      · simp only [hq,if_true,ev,e0]; grind
      · simp only [hq,if_false,ev,e0]
    | cons r rs =>
      rw [h] at ih
      show q + t * ev (r :: rs) t = q + t * ev qs t
      rw [ih]
theorem ev_sm (ps : List Rat) (t : Rat) (n : Nat) (h : ps.length ≤ n) : ev ps t = sm (fun i => ps.getD i 0 * t ^ i) n:=by
  induction ps generalizing n with
  | nil => rw [sm_zeros fun i _ => by rw [getD_out (by simp)]; grind]; rfl
  | cons q qs ih =>
    obtain ⟨m,rfl⟩ : ∃ m,n = m + 1:=⟨n - 1,by simp only [List.length_cons] at h; (first | lia | omega)⟩
    rw [sm_first,ev,ih m (by simp only [List.length_cons] at h; (first | lia | omega)),← sm_mul]
    have e1 : (q :: qs).getD 0 0 * t ^ 0 = q:=by rw [Rat.pow_zero,Rat.mul_one]; rfl
    rw [e1]
    congr 1
    refine sm_congr fun i _ => ?_
    have e2 : (q :: qs).getD (i + 1) 0 = qs.getD i 0:=by simp
    rw [e2,Rat.pow_succ]
    grind
theorem ev_range (f : Nat→Rat) (n : Nat) (t : Rat) : ev ((List.range n).map f) t = sm (fun i => f i * t ^ i) n:=by
  rw [ev_sm _ t n (by simp)]
  exact sm_congr fun i hi => by rw [getD_range,if_pos hi]
theorem ev_padd (ps qs : List Rat) (t : Rat) : ev (padd ps qs) t = ev ps t + ev qs t:=by
  unfold padd
  rw [ev_strip,ev_range,ev_sm ps t (max ps.length qs.length) (by (first | lia | omega)),ev_sm qs t (max ps.length qs.length) (by (first | lia | omega)),← sm_add]
  exact sm_congr fun i _ => by grind
theorem ev_neg (qs : List Rat) (t : Rat) (n : Nat) : sm (fun i => -(qs.getD i 0 * t ^ i)) n = -sm (fun i => qs.getD i 0 * t ^ i) n:=by
  have h:=sm_mul (-1) (fun i => qs.getD i 0 * t ^ i) n
  have e : sm (fun i => -1 * (qs.getD i 0 * t ^ i)) n = sm (fun i => -(qs.getD i 0 * t ^ i)) n:=sm_congr fun i _ => by grind
  rw [← e,h]
  grind
theorem ev_psub (ps qs : List Rat) (t : Rat) : ev (psub ps qs) t = ev ps t - ev qs t:=by
  unfold psub
  rw [ev_strip,ev_range,ev_sm ps t (max ps.length qs.length) (by (first | lia | omega)),ev_sm qs t (max ps.length qs.length) (by (first | lia | omega)),Rat.sub_eq_add_neg,← ev_neg,← sm_add]
  exact sm_congr fun i _ => by grind
theorem ev_map_mul (qs : List Rat) (x t : Rat) : ev (qs.map (· * x)) t = ev qs t * x:=by
  induction qs with
  | nil => simp [ev,Rat.zero_mul]
  | cons q qs ih => rw [List.map_cons,ev,ih,ev]; grind
theorem ev_pscale (qs : List Rat) (x t : Rat) : ev (pscale qs x) t = ev qs t * x:=by
  unfold pscale
  rw [ev_strip,ev_map_mul]
theorem ev_shift (qs : List Rat) (t : Rat) : ev (strip (0 :: qs)) t = t * ev qs t:=by
  rw [ev_strip,ev,Rat.zero_add]
theorem conv_cons (p : Rat) (ps qs : List Rat) (k : Nat) : conv (p :: ps) qs k = p * qs.getD k 0 + if k = 0 then 0 else conv ps qs (k - 1):=by
  unfold conv
  rw [sm_first]
  have e1 : (p :: ps).getD 0 0 * qs.getD (k - 0) 0 = p * qs.getD k 0:=rfl
  rw [e1]
  congr 1
  by_cases h : k = 0
  · subst h; rw [if_pos rfl,sm_zero]
  · rw [if_neg h]
    obtain ⟨m,rfl⟩ : ∃ m,k = m + 1:=⟨k - 1,by (first | lia | omega)⟩
    rw [Nat.add_sub_cancel]
    refine sm_congr fun i hi => ?_
    have e2 : (p :: ps).getD (i + 1) 0 = ps.getD i 0:=by simp
    rw [e2,show m + 1 - (i + 1) = m - i by (first | lia | omega)]
theorem ev_conv (ps qs : List Rat) (t : Rat) : ∀ n,ps.length + qs.length ≤ n→sm (fun k => conv ps qs k * t ^ k) n = ev ps t * ev qs t:=by
  induction ps with
  | nil => intro n _; rw [sm_zeros fun i _ => by rw [conv_nil]; grind]; simp [ev,Rat.zero_mul]
  | cons p ps ih =>
    intro n h
    simp only [List.length_cons] at h
    obtain ⟨m,rfl⟩ : ∃ m,n = m + 1:=⟨n - 1,by (first | lia | omega)⟩
    have e1 : sm (fun k => conv (p :: ps) qs k * t ^ k) (m + 1) = sm (fun k => p * (qs.getD k 0 * t ^ k)) (m + 1) + sm (fun k => (if k = 0 then 0 else conv ps qs (k - 1)) * t ^ k) (m + 1):=by
      rw [← sm_add]
      exact sm_congr fun i _ => by rw [conv_cons]; grind
    have e2 : sm (fun k => (if k = 0 then 0 else conv ps qs (k - 1)) * t ^ k) (m + 1) = t * (ev ps t * ev qs t):=by
      rw [sm_first,if_pos rfl,Rat.zero_mul,Rat.zero_add,← ih m (by (first | lia | omega)),← sm_mul]
      refine sm_congr fun i _ => ?_
      rw [if_neg (by (first | lia | omega)),Nat.add_sub_cancel,Rat.pow_succ]
      grind
    rw [e1,e2,sm_mul,← ev_sm qs t (m + 1) (by (first | lia | omega)),ev]
    grind
theorem ev_pmul (ps qs : List Rat) (t : Rat) : ev (pmul ps qs) t = ev ps t * ev qs t:=by
  unfold pmul
  rw [ev_strip,ev_range,ev_conv ps qs t _ (Nat.le_refl _)]
noncomputable def dif (c : Rat) : List Rat→List Rat
  | [] => []
  | q :: qs => c * q :: dif (2 * c + 1) qs
theorem dif_length (qs : List Rat) : ∀ c,(dif c qs).length = qs.length:=by
  induction qs with
  | nil => intro c; rfl
  | cons q qs ih => intro c; rw [dif,List.length_cons,ih,List.length_cons]
theorem ev_dif (qs : List Rat) (t : Rat) : ∀ c,ev (dif c qs) t = (c + 1) * ev qs (2 * t) - ev qs t:=by
  induction qs with
  | nil => intro c; simp only [dif,ev]; grind
  | cons q qs ih => intro c; rw [dif,ev,ih,ev,ev]; grind
theorem dif_zero (qs : List Rat) : ∀ c,0 < c→(∀ i,(dif c qs).getD i 0 = 0)→∀ i,qs.getD i 0 = 0:=by
  induction qs with
  | nil => intro c _ _ i; rfl
  | cons q qs ih =>
    intro c hc h i
    cases i with
    | zero =>
      have h0 : c * q = 0:=h 0
      have : q = 0:=by
        rcases Rat.mul_eq_zero.mp h0 with z | z
        · grind
        · exact z
      exact this
    | succ i =>
      have:=ih (2 * c + 1) (by grind) (fun j => by simpa [dif] using h (j + 1)) i
      simpa using this
theorem outside (S : List Rat) : ∃ t,∀ s ∈ S,s < t:=by
  induction S with
  | nil => exact ⟨0,fun s h => absurd h (by simp)⟩
  | cons x S ih =>
    obtain ⟨t,h⟩:=ih
    by_cases hx : x < t
    · exact ⟨t,fun s hs => by rcases List.mem_cons.mp hs with rfl | hs; exact hx; exact h s hs⟩
    · refine ⟨x + 1,fun s hs => ?_⟩
      rcases List.mem_cons.mp hs with rfl | hs
      · grind
      · have:=h s hs; grind
theorem ev_zeros {ps : List Rat} (h : ∀ i,ps.getD i 0 = 0) (t : Rat) : ev ps t = 0:=by
  rw [ev_sm ps t ps.length (Nat.le_refl _)]
  exact sm_zeros fun i _ => by rw [h i]; grind
theorem zero_of_ev : ∀ (n : Nat) (ps S : List Rat),ps.length ≤ n→(∀ t,t ∉ S→ev ps t = 0)→∀ i,ps.getD i 0 = 0
  | 0,ps,S,hl,_ => fun i => getD_out (by (first | lia | omega))
  | n + 1,[],S,_,_ => fun i => rfl
  | n + 1,q :: qs,S,hl,h => by
    have hq : ∀ i,qs.getD i 0 = 0:=by
      refine dif_zero qs 1 (by decide) (zero_of_ev n (dif 1 qs) (0 :: (S ++ S.map (· / 2))) (by rw [dif_length]; simp only [List.length_cons] at hl; (first | lia | omega)) fun t ht => ?_)
      have h0 : t ≠ 0:=fun z => ht (by simp [z])
      have h1 : t ∉ S:=fun z => ht (by simp [z])
      have h2 : 2 * t ∉ S:=fun z => ht (by
        refine List.mem_cons_of_mem _ (List.mem_append_right _ (List.mem_map.mpr ⟨2 * t,z,?_⟩))
        grind)
      have a1:=h t h1
      have a2:=h (2 * t) h2
      rw [ev] at a1 a2
      rw [ev_dif]
      have a3 : t * ((1 + 1) * ev qs (2 * t) - ev qs t) = 0:=by grind
      rcases Rat.mul_eq_zero.mp a3 with z | z
      · exact absurd z h0
      · exact z
    obtain ⟨t,ht⟩:=outside S
    have a:=h t fun z => by have:=ht t z; grind
    rw [ev,ev_zeros hq] at a
    intro i
    cases i with
    | zero => show q = 0; grind
    | succ i => simpa using hq i
theorem getD_psub (ps qs : List Rat) (i : Nat) : (psub ps qs).getD i 0 = ps.getD i 0 - qs.getD i 0:=by
  unfold psub
  rw [getD_strip,getD_range]
  by_cases h : i < max ps.length qs.length
  · rw [if_pos h]
  · rw [if_neg h,getD_out (xs:=ps) (by (first | lia | omega)),getD_out (xs:=qs) (by (first | lia | omega))]; grind
theorem getD_padd (ps qs : List Rat) (i : Nat) : (padd ps qs).getD i 0 = ps.getD i 0 + qs.getD i 0:=by
  unfold padd
  rw [getD_strip,getD_range]
  by_cases h : i < max ps.length qs.length
  · rw [if_pos h]
  · rw [if_neg h,getD_out (xs:=ps) (by (first | lia | omega)),getD_out (xs:=qs) (by (first | lia | omega))]; grind
theorem getD_pscale (qs : List Rat) (x : Rat) (i : Nat) : (pscale qs x).getD i 0 = qs.getD i 0 * x:=by
  unfold pscale
  rw [getD_strip,List.getD_eq_getElem?_getD,List.getElem?_map,List.getD_eq_getElem?_getD]
  cases qs[i]? with
  | none => show (0 : Rat) = 0 * x; grind
  | some y => rfl
theorem ev_inj {ps qs : List Rat} (h : ∀ t,ev ps t = ev qs t) (i : Nat) : ps.getD i 0 = qs.getD i 0:=by
  have:=zero_of_ev _ (psub ps qs) [] (Nat.le_refl _) (fun t _ => by rw [ev_psub,h t]; grind) i
  rw [getD_psub] at this
  grind
theorem ev_strip_inj {ps qs : List Rat} (h : ∀ t,ev ps t = ev qs t) : strip ps = strip qs:=strip_ext (ev_inj h)
noncomputable def plean (l h : List Rat) (w : Rat) : List Rat:=psub l (strip (0 :: pscale h w))
noncomputable def pst (gs ws : List Rat) (h0 l0 : List Rat) : Nat→List Rat × List Rat
  | 0 => (padd h0 (pscale l0 (gs.getD 0 0)),l0)
  | k + 1 => (padd (pst gs ws h0 l0 k).1 (pscale (plean (pst gs ws h0 l0 k).2 (pst gs ws h0 l0 k).1 (ws.getD k 0)) (gs.getD (k + 1) 0)),plean (pst gs ws h0 l0 k).2 (pst gs ws h0 l0 k).1 (ws.getD k 0))
theorem ev_plean (l h : List Rat) (w t : Rat) : ev (plean l h w) t = ev l t - t * w * ev h t:=by
  unfold plean
  rw [ev_psub,ev_shift,ev_pscale]
  grind
theorem ev_pst (gs ws h0 l0 : List Rat) (t : Rat) (k : Nat) : ev (pst gs ws h0 l0 k).1 t = (stp gs ws t (ev h0 t) (ev l0 t) k).1 ∧ ev (pst gs ws h0 l0 k).2 t = (stp gs ws t (ev h0 t) (ev l0 t) k).2:=by
  induction k with
  | zero =>
    refine ⟨?_,rfl⟩
    show ev (padd h0 (pscale l0 (gs.getD 0 0))) t = ev h0 t + gs.getD 0 0 * ev l0 t
    rw [ev_padd,ev_pscale]
    grind
  | succ k ih =>
    obtain ⟨i1,i2⟩:=ih
    have e2 : ev (pst gs ws h0 l0 (k + 1)).2 t = (stp gs ws t (ev h0 t) (ev l0 t) (k + 1)).2:=by
      show ev (plean _ _ _) t = _ - _
      rw [ev_plean,i1,i2]
    refine ⟨?_,e2⟩
    show ev (padd _ (pscale (plean _ _ _) _)) t = _ + _ * (_ - _)
    rw [ev_padd,ev_pscale,ev_plean,i1,i2]
    grind
theorem pst_strip2 (gs ws h0 l0 : List Rat) (hl : strip l0 = l0) (k : Nat) : strip (pst gs ws h0 l0 k).2 = (pst gs ws h0 l0 k).2:=by
  cases k with
  | zero => exact hl
  | succ k => exact strip_strip _
theorem padd_length (ps qs : List Rat) : (padd ps qs).length ≤ max ps.length qs.length:=Nat.le_trans (strip_length _) (by simp)
theorem psub_length (ps qs : List Rat) : (psub ps qs).length ≤ max ps.length qs.length:=Nat.le_trans (strip_length _) (by simp)
theorem pscale_length (qs : List Rat) (x : Rat) : (pscale qs x).length ≤ qs.length:=Nat.le_trans (strip_length _) (by simp)
theorem plean_length (l h : List Rat) (w : Rat) : (plean l h w).length ≤ max l.length (h.length + 1):=by
  refine Nat.le_trans (psub_length _ _) ?_
  have h1:=strip_length (0 :: pscale h w)
  have h2:=pscale_length h w
  simp only [List.length_cons] at h1
  (first | lia | omega)
theorem pst_length {gs ws h0 l0 : List Rat} (a : h0.length ≤ 1) (b : l0.length ≤ 1) (k : Nat) : (pst gs ws h0 l0 k).1.length ≤ k + 1 ∧ (pst gs ws h0 l0 k).2.length ≤ k + 1:=by
  induction k with
  | zero =>
    have h1:=padd_length h0 (pscale l0 (gs.getD 0 0))
    have h2:=pscale_length l0 (gs.getD 0 0)
    exact ⟨by show (padd h0 _).length ≤ _; (first | lia | omega),by show l0.length ≤ _; (first | lia | omega)⟩
  | succ k ih =>
    have h1:=plean_length (pst gs ws h0 l0 k).2 (pst gs ws h0 l0 k).1 (ws.getD k 0)
    have h2:=pscale_length (plean (pst gs ws h0 l0 k).2 (pst gs ws h0 l0 k).1 (ws.getD k 0)) (gs.getD (k + 1) 0)
    have h3:=padd_length (pst gs ws h0 l0 k).1 (pscale (plean (pst gs ws h0 l0 k).2 (pst gs ws h0 l0 k).1 (ws.getD k 0)) (gs.getD (k + 1) 0))
    exact ⟨by show (padd _ _).length ≤ _; (first | lia | omega),by show (plean _ _ _).length ≤ _; (first | lia | omega)⟩
theorem ov_padd {n : Nat} {M : Int} {ps qs : List Rat} (hp : ∀ q ∈ ps,Ov n M q) (hq : ∀ q ∈ qs,Ov n M q) : ∀ q ∈ padd ps qs,Ov (n + 1) M q:=fun q h => by
  obtain ⟨k,_,rfl⟩:=List.mem_map.mp (strip_mem h)
  exact (getD_ov hp k).add (getD_ov hq k)
theorem ov_psub {n : Nat} {M : Int} {ps qs : List Rat} (hp : ∀ q ∈ ps,Ov n M q) (hq : ∀ q ∈ qs,Ov n M q) : ∀ q ∈ psub ps qs,Ov (n + 1) M q:=fun q h => by
  obtain ⟨k,_,rfl⟩:=List.mem_map.mp (strip_mem h)
  exact (getD_ov hp k).sub (getD_ov hq k)
theorem ov_self {b : Nat} {x : Rat} (h : Bq b x) : Ov b (x.den : Int) x:=⟨x.num,h.1,by
  have e:=q_eq x
  have n:=den_ne x
  generalize (x.num : Rat) = a at *
  generalize ((x.den : Int) : Rat) = c at *
  rw [← e]
  grind⟩
theorem ov_pscale {n b : Nat} {M : Int} {qs : List Rat} {x : Rat} (hq : ∀ q ∈ qs,Ov n M q) (hx : Bq b x) : ∀ q ∈ pscale qs x,Ov (n + b) (M * x.den) q:=fun q h => by
  obtain ⟨y,hy,rfl⟩:=List.mem_map.mp (strip_mem h)
  exact (hq y hy).mul (ov_self hx)
theorem ov_scale {n b : Nat} {M Z : Int} {qs : List Rat} (hq : ∀ q ∈ qs,Ov n M q) (hx : Bt b Z) : ∀ q ∈ qs,Ov (n + b) (M * Z) q:=fun q h => (hq q h).scale hx
theorem ov_shift {n : Nat} {M : Int} {qs : List Rat} (hq : ∀ q ∈ qs,Ov n M q) : ∀ q ∈ strip (0 :: qs),Ov n M q:=fun q h => by
  rcases List.mem_cons.mp (strip_mem h) with rfl | h
  · exact Ov.zero
  · exact hq q h
theorem ov_mono {m n : Nat} {M : Int} {qs : List Rat} (hq : ∀ q ∈ qs,Ov m M q) (l : m ≤ n) : ∀ q ∈ qs,Ov n M q:=fun q h => (hq q h).mono l
structure O2 (n : Nat) (h l : List Rat) (M : Int) : Prop where
  ne : M ≠ 0
  bm : Bt n M
  oh : ∀ q ∈ h,Ov n M q
  ol : ∀ q ∈ l,Ov n M q
theorem O2.start {h0 l0 : List Rat} (a : ∀ q ∈ h0,q = 1) (b : ∀ q ∈ l0,q = 1) : O2 1 h0 l0 1 :=
  ⟨by decide,by show (1 : Nat) < 2 ^ 1; decide,fun q h => ⟨1,by show (1 : Nat) < 2 ^ 1; decide,by rw [a q h,Rat.one_mul]⟩,fun q h => ⟨1,by show (1 : Nat) < 2 ^ 1; decide,by rw [b q h,Rat.one_mul]⟩⟩
theorem O2.gap {n b : Nat} {h l : List Rat} {M : Int} {x : Rat} (o : O2 n h l M) (hx : Bq b x) : O2 (n + b + 1) (padd h (pscale l x)) l (M * x.den):=by
  have d:=den_pos x
  refine ⟨Int.mul_ne_zero o.ne (by (first | lia | omega)),(o.bm.mul hx.2).mono (by (first | lia | omega)),ov_padd (ov_scale o.oh hx.2) (ov_pscale o.ol hx),ov_mono (ov_scale o.ol hx.2) (by (first | lia | omega))⟩
theorem O2.bead {n b : Nat} {h l : List Rat} {M : Int} {x : Rat} (o : O2 n h l M) (hx : Bq b x) : O2 (n + b + 1) h (plean l h x) (M * x.den):=by
  have d:=den_pos x
  exact ⟨Int.mul_ne_zero o.ne (by (first | lia | omega)),(o.bm.mul hx.2).mono (by (first | lia | omega)),ov_mono (ov_scale o.oh hx.2) (by (first | lia | omega)),ov_psub (ov_scale o.ol hx.2) (ov_shift (ov_pscale o.oh hx))⟩
theorem pst_o2 {gs ws h0 l0 : List Rat} {b : Nat} (hb : 0 < b) (bg : ∀ q ∈ gs,Bq b q) (bw : ∀ q ∈ ws,Bq b q) (e1 : ∀ q ∈ h0,q = 1) (e2 : ∀ q ∈ l0,q = 1) (k : Nat) : ∃ M,O2 ((2 * b + 2) * (k + 1)) (pst gs ws h0 l0 k).1 (pst gs ws h0 l0 k).2 M:=by
  induction k with
  | zero =>
    obtain ⟨x1,x2,x3,x4⟩:=(O2.start e1 e2).gap (getD_bq hb bg 0)
    exact ⟨_,x1,x2.mono (by (first | lia | omega)),ov_mono x3 (by (first | lia | omega)),ov_mono x4 (by (first | lia | omega))⟩
  | succ k ih =>
    obtain ⟨M,o⟩:=ih
    obtain ⟨x1,x2,x3,x4⟩:=(o.bead (getD_bq hb bw k)).gap (getD_bq hb bg (k + 1))
    have e : (2 * b + 2) * (k + 1 + 1) = (2 * b + 2) * (k + 1) + (2 * b + 2):=Nat.mul_succ _ _
    exact ⟨_,x1,x2.mono (by (first | lia | omega)),ov_mono x3 (by (first | lia | omega)),ov_mono x4 (by (first | lia | omega))⟩
end Po
namespace Po
open Ra Rq
theorem strip_one : strip [1] = [1]:=by simp [strip]
end Po
namespace Po
open Ra Rq
end Po
namespace Po
open Ra Rq
theorem getD_plean (l h : List Rat) (w : Rat) (k : Nat) : (plean l h w).getD (k + 1) 0 = l.getD (k + 1) 0 - h.getD k 0 * w:=by
  unfold plean
  rw [getD_psub,getD_strip,List.getD_cons_succ,getD_pscale]
theorem getD_plean0 (l h : List Rat) (w : Rat) : (plean l h w).getD 0 0 = l.getD 0 0:=by
  unfold plean
  rw [getD_psub,getD_strip]
  show _ - (0 : Rat) = _
  grind
theorem pst_top {gs ws h0 l0 : List Rat} (a : h0.length ≤ 1) (b : l0.length ≤ 1) (k : Nat) :
    (pst gs ws h0 l0 (k + 1)).2.getD (k + 1) 0 = -((pst gs ws h0 l0 k).1.getD k 0 * ws.getD k 0) ∧ (pst gs ws h0 l0 (k + 1)).1.getD (k + 1) 0 = -((pst gs ws h0 l0 k).1.getD k 0 * ws.getD k 0) * gs.getD (k + 1) 0:=by
  obtain ⟨l1,l2⟩:=pst_length (gs:=gs) (ws:=ws) a b k
  have e : (plean (pst gs ws h0 l0 k).2 (pst gs ws h0 l0 k).1 (ws.getD k 0)).getD (k + 1) 0 = -((pst gs ws h0 l0 k).1.getD k 0 * ws.getD k 0):=by
    rw [getD_plean,getD_out (xs:=(pst gs ws h0 l0 k).2) (by (first | lia | omega))]
    grind
  refine ⟨e,?_⟩
  show (padd _ (pscale (plean _ _ _) _)).getD (k + 1) 0 = _
  rw [getD_padd,getD_pscale,e,getD_out (xs:=(pst gs ws h0 l0 k).1) (by (first | lia | omega))]
  grind
theorem getD_pos {qs : List Rat} (h : ∀ q ∈ qs,0 < q) {k : Nat} (hk : k < qs.length) : 0 < qs.getD k 0:=by
  rw [List.getD_eq_getElem?_getD,List.getElem?_eq_getElem hk]
  exact h _ (List.getElem_mem hk)
theorem ne_of_pos {x : Rat} (h : 0 < x) : x ≠ 0:=fun z => by rw [z] at h; exact absurd h (by decide)
theorem pst_ne {gs ws h0 l0 : List Rat} (a : h0.length ≤ 1) (b : l0.length ≤ 1) (pg : ∀ q ∈ gs,0 < q) (pw : ∀ q ∈ ws,0 < q) (hlen : gs.length = ws.length + 1) (h : h0.getD 0 0 + l0.getD 0 0 * gs.getD 0 0 ≠ 0) :
    ∀ k,k ≤ ws.length→(pst gs ws h0 l0 k).1.getD k 0 ≠ 0
  | 0,_ => by
    show (padd h0 (pscale l0 (gs.getD 0 0))).getD 0 0 ≠ 0
    rw [getD_padd,getD_pscale]
    exact h
  | k + 1,hk => by
    have ih:=pst_ne a b pg pw hlen h k (by (first | lia | omega))
    rw [(pst_top a b k).2]
    have w0:=ne_of_pos (getD_pos pw (show k < ws.length by (first | lia | omega)))
    have g0:=ne_of_pos (getD_pos pg (show k + 1 < gs.length by (first | lia | omega)))
    intro z
    rcases Rat.mul_eq_zero.mp z with z | z
    · have z' : (pst gs ws h0 l0 k).1.getD k 0 * ws.getD k 0 = 0:=by grind
      rcases Rat.mul_eq_zero.mp z' with z | z
      · exact ih z
      · exact w0 z
    · exact g0 z
theorem pst_ne2 {gs ws h0 l0 : List Rat} (a : h0.length ≤ 1) (b : l0.length ≤ 1) (pg : ∀ q ∈ gs,0 < q) (pw : ∀ q ∈ ws,0 < q) (hlen : gs.length = ws.length + 1) (h : h0.getD 0 0 + l0.getD 0 0 * gs.getD 0 0 ≠ 0) (k : Nat) (hk : k + 1 ≤ ws.length) : (pst gs ws h0 l0 (k + 1)).2.getD (k + 1) 0 ≠ 0:=by
  have ih:=pst_ne a b pg pw hlen h k (by (first | lia | omega))
  rw [(pst_top a b k).1]
  have w0:=ne_of_pos (getD_pos pw (show k < ws.length by (first | lia | omega)))
  intro z
  have z' : (pst gs ws h0 l0 k).1.getD k 0 * ws.getD k 0 = 0:=by grind
  rcases Rat.mul_eq_zero.mp z' with z | z
  · exact ih z
  · exact w0 z
theorem len_of_ne {qs : List Rat} {k : Nat} (h : qs.getD k 0 ≠ 0) (l : qs.length ≤ k + 1) : qs.length = k + 1:=by
  by_cases hk : qs.length ≤ k
  · exact absurd (getD_out hk) h
  · (first | lia | omega)
end Po
namespace Po
open Ra Rq
noncomputable def lprod (qs : List Rat) : Rat:=qs.foldl (· * ·) 1
noncomputable def gsum (gs : List Rat) (k : Nat) : Rat:=sm (fun i => gs.getD i 0) (k + 1)
theorem fig0 (gs ws : List Rat) (k : Nat) : (pst gs ws [] [1] k).2.getD 0 0 = 1 ∧ (pst gs ws [] [1] k).1.getD 0 0 = gsum gs k:=by
  induction k with
  | zero =>
    refine ⟨rfl,?_⟩
    show (padd [] (pscale [1] (gs.getD 0 0))).getD 0 0 = _
    rw [getD_padd,getD_pscale]
    unfold gsum
    rw [sm_succ,sm_zero]
    show (0 : Rat) + 1 * gs.getD 0 0 = _
    grind
  | succ k ih =>
    obtain ⟨i1,i2⟩:=ih
    have e : (plean (pst gs ws [] [1] k).2 (pst gs ws [] [1] k).1 (ws.getD k 0)).getD 0 0 = 1:=by rw [getD_plean0,i1]
    refine ⟨e,?_⟩
    show (padd _ (pscale (plean _ _ _) _)).getD 0 0 = _
    rw [getD_padd,getD_pscale,e,i2]
    unfold gsum
    rw [sm_succ (fun i => gs.getD i 0) (k + 1)]
    grind
theorem getD_in {qs : List Rat} {k : Nat} (h : k < qs.length) : qs.getD k 0 = qs[k]:=by rw [List.getD_eq_getElem?_getD,List.getElem?_eq_getElem h]; rfl
noncomputable def sg (n : Nat) : Rat:=((1 - 2 * ((n : Int) % 2) : Int) : Rat)
end Po
namespace Po
open Ra Rq
noncomputable def lift (A B : List Rat) : List Rat:=List.replicate (A.length - B.length) 0 ++ B
noncomputable def rst (A B : List Rat) : List Rat:=(List.range (A.length - 1)).map fun i => A.getD i 0 - lst A / lst B * (lift A B).getD i 0
section
variable (gs ws : List Rat)
noncomputable def hdp (j : Nat) : List Rat:=(pst gs ws [] [1] j).1
noncomputable def lsp (j : Nat) : List Rat:=(pst gs ws [] [1] j).2
end
section
variable {gs ws : List Rat}
theorem h1_ne (pg : ∀ q ∈ gs,0 < q) (hlen : gs.length = ws.length + 1) : ([] : List Rat).getD 0 0 + ([1] : List Rat).getD 0 0 * gs.getD 0 0 ≠ 0:=by
  have g0:=getD_pos pg (show 0 < gs.length by (first | lia | omega))
  show (0 : Rat) + 1 * gs.getD 0 0 ≠ 0
  have:=ne_of_pos g0
  grind
theorem hd_ne (pg : ∀ q ∈ gs,0 < q) (pw : ∀ q ∈ ws,0 < q) (hlen : gs.length = ws.length + 1) {j : Nat} (hj : j ≤ ws.length) : (hdp gs ws j).getD j 0 ≠ 0:=pst_ne (by simp) (by simp) pg pw hlen (h1_ne pg hlen) j hj
theorem ls_ne (pg : ∀ q ∈ gs,0 < q) (pw : ∀ q ∈ ws,0 < q) (hlen : gs.length = ws.length + 1) {j : Nat} (hj : j ≤ ws.length) : (lsp gs ws j).getD j 0 ≠ 0:=by
  cases j with
  | zero => show (1 : Rat) ≠ 0; decide
  | succ j => exact pst_ne2 (by simp) (by simp) pg pw hlen (h1_ne pg hlen) j hj
theorem hd_len (pg : ∀ q ∈ gs,0 < q) (pw : ∀ q ∈ ws,0 < q) (hlen : gs.length = ws.length + 1) {j : Nat} (hj : j ≤ ws.length) : (hdp gs ws j).length = j + 1:=len_of_ne (hd_ne pg pw hlen hj) (pst_length (by simp) (by simp) j).1
theorem ls_len (pg : ∀ q ∈ gs,0 < q) (pw : ∀ q ∈ ws,0 < q) (hlen : gs.length = ws.length + 1) {j : Nat} (hj : j ≤ ws.length) : (lsp gs ws j).length = j + 1:=len_of_ne (ls_ne pg pw hlen hj) (pst_length (by simp) (by simp) j).2
theorem lst_at {A : List Rat} {j : Nat} (h : A.length = j + 1) : lst A = A.getD j 0:=by
  unfold lst
  rw [h,Nat.add_sub_cancel]
theorem hd_succ (j i : Nat) : (hdp gs ws (j + 1)).getD i 0 = (hdp gs ws j).getD i 0 + (lsp gs ws (j + 1)).getD i 0 * gs.getD (j + 1) 0:=by
  show (padd _ (pscale (plean _ _ _) _)).getD i 0 = _
  rw [getD_padd,getD_pscale]
  rfl
theorem ls_succ (j i : Nat) : (lsp gs ws (j + 1)).getD (i + 1) 0 = (lsp gs ws j).getD (i + 1) 0 - (hdp gs ws j).getD i 0 * ws.getD j 0:=getD_plean _ _ _ _
theorem ls_succ0 (j : Nat) : (lsp gs ws (j + 1)).getD 0 0 = (lsp gs ws j).getD 0 0:=getD_plean0 _ _ _
theorem hd_top (pg : ∀ q ∈ gs,0 < q) (pw : ∀ q ∈ ws,0 < q) (hlen : gs.length = ws.length + 1) {j : Nat} (hj : j ≤ ws.length) : (hdp gs ws j).getD j 0 = (lsp gs ws j).getD j 0 * gs.getD j 0:=by
  cases j with
  | zero =>
    show (padd [] (pscale [1] (gs.getD 0 0))).getD 0 0 = (1 : Rat) * gs.getD 0 0
    rw [getD_padd,getD_pscale]
    show (0 : Rat) + 1 * _ = _
    grind
  | succ j =>
    rw [hd_succ,getD_out (xs:=hdp gs ws j) (by rw [hd_len pg pw hlen (show j ≤ ws.length by (first | lia | omega))]; (first | lia | omega))]
    grind
theorem ls_top (pg : ∀ q ∈ gs,0 < q) (pw : ∀ q ∈ ws,0 < q) (hlen : gs.length = ws.length + 1) {j : Nat} (hj : j + 1 ≤ ws.length) : (lsp gs ws (j + 1)).getD (j + 1) 0 = -((hdp gs ws j).getD j 0 * ws.getD j 0):=(pst_top (by simp) (by simp) j).1
theorem quo_hd (pg : ∀ q ∈ gs,0 < q) (pw : ∀ q ∈ ws,0 < q) (hlen : gs.length = ws.length + 1) {j : Nat} (hj : j ≤ ws.length) : lst (hdp gs ws j) / lst (lsp gs ws j) = gs.getD j 0:=by
  rw [lst_at (hd_len pg pw hlen hj),lst_at (ls_len pg pw hlen hj),hd_top pg pw hlen hj]
  have:=ls_ne pg pw hlen hj
  grind
theorem quo_ls (pg : ∀ q ∈ gs,0 < q) (pw : ∀ q ∈ ws,0 < q) (hlen : gs.length = ws.length + 1) {j : Nat} (hj : j + 1 ≤ ws.length) : lst (lsp gs ws (j + 1)) / lst (hdp gs ws j) = -ws.getD j 0:=by
  have hj' : j ≤ ws.length:=by (first | lia | omega)
  rw [lst_at (hd_len pg pw hlen hj'),lst_at (ls_len pg pw hlen hj),ls_top pg pw hlen hj]
  have:=hd_ne pg pw hlen hj'
  grind
theorem list_ext {xs ys : List Rat} (hl : xs.length = ys.length) (h : ∀ i,i < ys.length→xs.getD i 0 = ys.getD i 0) : xs = ys:=by
  refine List.ext_getElem hl fun i h1 h2 => ?_
  have:=h i h2
  rw [getD_in h1,getD_in h2] at this
  exact this
theorem rst_len (A B : List Rat) : (rst A B).length = A.length - 1:=by
  unfold rst
  rw [List.length_map,List.length_range]
theorem rst_hd (pg : ∀ q ∈ gs,0 < q) (pw : ∀ q ∈ ws,0 < q) (hlen : gs.length = ws.length + 1) {j : Nat} (hj : j + 1 ≤ ws.length) : rst (hdp gs ws (j + 1)) (lsp gs ws (j + 1)) = hdp gs ws j:=by
  have l1:=hd_len pg pw hlen hj
  have l2:=ls_len pg pw hlen hj
  have l3:=hd_len pg pw hlen (show j ≤ ws.length by (first | lia | omega))
  refine list_ext (by rw [rst_len,l1,l3]; (first | lia | omega)) fun i hi => ?_
  unfold rst
  rw [getD_range,if_pos (by (first | lia | omega)),quo_hd pg pw hlen hj,hd_succ]
  unfold lift
  rw [l1,l2,Nat.sub_self,List.replicate_zero,List.nil_append]
  grind
theorem rst_hd0 (pg : ∀ q ∈ gs,0 < q) (pw : ∀ q ∈ ws,0 < q) (hlen : gs.length = ws.length + 1) : rst (hdp gs ws 0) (lsp gs ws 0) = []:=by
  have l1:=hd_len pg pw hlen (show 0 ≤ ws.length by (first | lia | omega))
  exact List.length_eq_zero_iff.mp (by rw [rst_len,l1])
theorem rst_ls (pg : ∀ q ∈ gs,0 < q) (pw : ∀ q ∈ ws,0 < q) (hlen : gs.length = ws.length + 1) {j : Nat} (hj : j + 1 ≤ ws.length) : rst (lsp gs ws (j + 1)) (hdp gs ws j) = lsp gs ws j:=by
  have l1:=ls_len pg pw hlen hj
  have l2:=hd_len pg pw hlen (show j ≤ ws.length by (first | lia | omega))
  have l3:=ls_len pg pw hlen (show j ≤ ws.length by (first | lia | omega))
  refine list_ext (by rw [rst_len,l1,l3]; (first | lia | omega)) fun i hi => ?_
  unfold rst
  rw [getD_range,if_pos (by (first | lia | omega)),quo_ls pg pw hlen hj]
  unfold lift
  rw [l1,l2,show j + 1 + 1 - (j + 1) = 1 by (first | lia | omega)]
  cases i with
  | zero =>
    rw [ls_succ0]
    show _ - _ * (0 : Rat) = _
    grind
  | succ i =>
    rw [ls_succ]
    show _ - _ * (hdp gs ws j).getD i 0 = _
    grind
noncomputable def PA (gs ws : List Rat) (p : Nat) : List Rat:=if p % 2 = 0 then hdp gs ws (ws.length - p / 2) else lsp gs ws (ws.length - p / 2)
noncomputable def PB (gs ws : List Rat) (p : Nat) : List Rat:=if p % 2 = 0 then lsp gs ws (ws.length - p / 2) else if p / 2 < ws.length then hdp gs ws (ws.length - p / 2 - 1) else []
noncomputable def duP (gs ws : List Rat) (p : Nat) : Rat:=if p % 2 = 0 then gs.getD (ws.length - p / 2) 0 else ws.getD (ws.length - p / 2 - 1) 0
theorem place_step (pg : ∀ q ∈ gs,0 < q) (pw : ∀ q ∈ ws,0 < q) (hlen : gs.length = ws.length + 1) {p : Nat} (hp : p < 2 * ws.length + 1) :
    PA gs ws (p + 1) = PB gs ws p ∧ rst (PA gs ws p) (PB gs ws p) = PB gs ws (p + 1) ∧ 0 < (PA gs ws p).length ∧ 0 < (PB gs ws p).length ∧ (PB gs ws p).length ≤ (PA gs ws p).length ∧ (PA gs ws p).length ≤ ws.length + 1 ∧ lst (PB gs ws p) ≠ 0 ∧ (if p % 2 = 0 then lst (PA gs ws p) / lst (PB gs ws p) else -(lst (PA gs ws p) / lst (PB gs ws p))) = duP gs ws p ∧ 0 < duP gs ws p:=by
  unfold PA PB duP
  by_cases e : p % 2 = 0
  · have hj : ws.length - p / 2 ≤ ws.length:=by (first | lia | omega)
    have l1:=hd_len pg pw hlen hj
    have l2:=ls_len pg pw hlen hj
    simp only [if_pos e,if_neg (show ¬ (p + 1) % 2 = 0 by (first | lia | omega)),show (p + 1) / 2 = p / 2 by (first | lia | omega)]
    refine ⟨trivial,?_,by (first | lia | omega),by (first | lia | omega),by (first | lia | omega),by (first | lia | omega),?_,quo_hd pg pw hlen hj,getD_pos pg (by (first | lia | omega))⟩
    · by_cases h0 : p / 2 < ws.length
      · rw [if_pos h0]
        obtain ⟨j,ej⟩ : ∃ j,ws.length - p / 2 = j + 1:=⟨ws.length - p / 2 - 1,by (first | lia | omega)⟩
        rw [ej,Nat.add_sub_cancel]
        exact rst_hd pg pw hlen (by (first | lia | omega))
      · rw [if_neg h0,show ws.length - p / 2 = 0 by (first | lia | omega)]
        exact rst_hd0 pg pw hlen
    · rw [lst_at l2]
      exact ls_ne pg pw hlen hj
  · have h0 : p / 2 < ws.length:=by (first | lia | omega)
    obtain ⟨j,ej⟩ : ∃ j,ws.length - p / 2 = j + 1:=⟨ws.length - p / 2 - 1,by (first | lia | omega)⟩
    have hj : j + 1 ≤ ws.length:=by (first | lia | omega)
    have l1:=ls_len pg pw hlen hj
    have l2:=hd_len pg pw hlen (show j ≤ ws.length by (first | lia | omega))
    simp only [if_neg e,if_pos h0,if_pos (show (p + 1) % 2 = 0 by (first | lia | omega)),show (p + 1) / 2 = p / 2 + 1 by (first | lia | omega),ej,Nat.add_sub_cancel,show ws.length - (p / 2 + 1) = j by (first | lia | omega)]
    refine ⟨trivial,rst_ls pg pw hlen hj,by (first | lia | omega),by (first | lia | omega),by (first | lia | omega),by (first | lia | omega),?_,?_,getD_pos pw (by (first | lia | omega))⟩
    · rw [lst_at l2]
      exact hd_ne pg pw hlen (by (first | lia | omega))
    · rw [quo_ls pg pw hlen hj]
      grind
end
end Po
namespace Po
open PySem Ra Rq
noncomputable def lam (x : Rat) : List Rat→Rat
  | [] => 1
  | l :: ls => if l = x then lam x ls else lam x ls / (x - l)
noncomputable def sum1 (f : Rat→Rat) : List Rat→Rat
  | [] => 0
  | l :: ls => f l + sum1 f ls
noncomputable def syn (a : Rat) : List Rat→List Rat
  | [] => []
  | _ :: p => ev p a :: syn a p
theorem sum1_congr {f h : Rat→Rat} : ∀ {ls : List Rat},(∀ x ∈ ls,f x = h x)→sum1 f ls = sum1 h ls
  | [],_ => rfl
  | l :: ls,e => by
    show f l + sum1 f ls = h l + sum1 h ls
    rw [e l (by simp),sum1_congr fun x hx => e x (by simp [hx])]
theorem sum1_add (f h : Rat→Rat) : ∀ ls : List Rat,sum1 (fun x => f x + h x) ls = sum1 f ls + sum1 h ls
  | [] => by show (0 : Rat) = 0 + 0; grind
  | l :: ls => by
    show f l + h l + sum1 (fun x => f x + h x) ls = f l + sum1 f ls + (h l + sum1 h ls)
    rw [sum1_add f h ls]
    grind
theorem sum1_mul (c : Rat) (f : Rat→Rat) : ∀ ls : List Rat,sum1 (fun x => c * f x) ls = c * sum1 f ls
  | [] => by show (0 : Rat) = c * 0; grind
  | l :: ls => by
    show c * f l + sum1 (fun x => c * f x) ls = c * (f l + sum1 f ls)
    rw [sum1_mul c f ls]
    grind
theorem sum1_nn {f : Rat→Rat} : ∀ {ls : List Rat},(∀ x ∈ ls,0 ≤ f x)→0 ≤ sum1 f ls
  | [],_ => Rat.le_refl
  | l :: ls,e => by
    have h1:=e l (by simp)
    have h2:=sum1_nn (f:=f) (ls:=ls) fun x hx => e x (by simp [hx])
    show 0 ≤ f l + sum1 f ls
    grind
theorem sum1_pos {f : Rat→Rat} : ∀ {ls : List Rat},(∀ x ∈ ls,0 ≤ f x)→(∃ x ∈ ls,f x ≠ 0)→0 < sum1 f ls
  | [],_,h => by obtain ⟨x,hx,_⟩:=h; cases hx
  | l :: ls,e,h => by
    have h1:=e l (by simp)
    have h2:=sum1_nn (f:=f) (ls:=ls) fun x hx => e x (by simp [hx])
    show 0 < f l + sum1 f ls
    by_cases c : f l = 0
    · obtain ⟨x,hx,hn⟩:=h
      have h3:=sum1_pos (f:=f) (ls:=ls) (fun x hx => e x (by simp [hx])) ⟨x,by
        rcases List.mem_cons.mp hx with z | z
        · rw [z] at hn; exact absurd c hn
        · exact z,hn⟩
      grind
    · grind
theorem ev_syn (a t : Rat) : ∀ p : List Rat,ev p t = ev p a + (t - a) * ev (syn a p) t
  | [] => by show (0 : Rat) = 0 + (t - a) * 0; grind
  | c :: p => by
    have ih:=ev_syn a t p
    show c + t * ev p t = c + a * ev p a + (t - a) * (ev p a + t * ev (syn a p) t)
    rw [ih]
    grind
theorem getD_syn (a : Rat) : ∀ (p : List Rat) (k : Nat),(syn a p).getD k 0 = ev (p.drop (k + 1)) a
  | [],_ => by simp [syn,ev]
  | _ :: p,0 => by simp [syn]
  | _ :: p,k + 1 => by
    show (syn a p).getD k 0 = _
    rw [getD_syn a p k]
    rfl
theorem ev_low {p : List Rat} (t : Rat) (h : ∀ j,1 ≤ j→p.getD j 0 = 0) : ev p t = p.getD 0 0:=by
  cases p with
  | nil => rfl
  | cons c p =>
    show c + t * ev p t = c
    rw [ev_zeros (fun i => by have:=h (i + 1) (by (first | lia | omega)); simpa using this)]
    grind
theorem getD_drop (p : List Rat) (k i : Nat) : (p.drop k).getD i 0 = p.getD (k + i) 0:=by
  rw [List.getD_eq_getElem?_getD,List.getD_eq_getElem?_getD,List.getElem?_drop]
theorem lam_cons {x l : Rat} (h : l ≠ x) (ls : List Rat) : lam x (l :: ls) = lam x ls / (x - l):=by
  show (if l = x then lam x ls else lam x ls / (x - l)) = _
  rw [if_neg h]
theorem lam_self (x : Rat) (ls : List Rat) : lam x (x :: ls) = lam x ls:=by
  show (if x = x then lam x ls else _) = _
  rw [if_pos rfl]
theorem sub_ne {a b : Rat} (h : a ≠ b) : a - b ≠ 0:=fun z => h (by grind)
theorem parted : ∀ {ls : List Rat},ls.Nodup→ls ≠ []→∀ {a : Rat},a ∉ ls→sum1 (fun x => lam x ls / (a - x)) ls = lam a ls
  | [],_,h,_,_ => absurd rfl h
  | b :: r,nd,_,a,ha => by
    have hb : b ∉ r:=(List.nodup_cons.mp nd).1
    have ndr:=(List.nodup_cons.mp nd).2
    have hab : a ≠ b:=fun z => ha (by simp [z])
    have har : a ∉ r:=fun z => ha (by simp [z])
    have d1:=sub_ne hab
    show lam b (b :: r) / (a - b) + sum1 (fun x => lam x (b :: r) / (a - x)) r = lam a (b :: r)
    rw [lam_self,lam_cons (Ne.symm hab)]
    have e : sum1 (fun x => lam x (b :: r) / (a - x)) r = sum1 (fun x => 1 / (a - b) * (lam x r / (a - x) + -1 * (lam x r / (b - x)))) r:=sum1_congr fun x hx => by
      have hxb : b ≠ x:=fun z => hb (by rw [z]; exact hx)
      have hxa : a ≠ x:=fun z => har (by rw [z]; exact hx)
      rw [lam_cons hxb]
      have d2:=sub_ne hxb
      have d3:=sub_ne hxa
      have d4:=sub_ne (Ne.symm hxb)
      generalize lam x r = y
      grind
    rw [e,sum1_mul,sum1_add,sum1_mul]
    cases r with
    | nil =>
      show lam b [] / (a - b) + 1 / (a - b) * (0 + -1 * 0) = lam a [] / (a - b)
      show (1 : Rat) / (a - b) + 1 / (a - b) * (0 + -1 * 0) = 1 / (a - b)
      grind
    | cons c r =>
      rw [parted ndr (by simp) har,parted ndr (by simp) hb]
      generalize lam b (c :: r) = u
      generalize lam a (c :: r) = v
      grind
theorem top_of : ∀ {ls : List Rat},ls.Nodup→ls ≠ []→∀ {p : List Rat},(∀ j,ls.length ≤ j→p.getD j 0 = 0)→sum1 (fun x => ev p x * lam x ls) ls = p.getD (ls.length - 1) 0
  | [],_,h,_,_ => absurd rfl h
  | a :: r,nd,_,p,hp => by
    have ha : a ∉ r:=(List.nodup_cons.mp nd).1
    have ndr:=(List.nodup_cons.mp nd).2
    show ev p a * lam a (a :: r) + sum1 (fun x => ev p x * lam x (a :: r)) r = p.getD r.length 0
    rw [lam_self]
    have e : sum1 (fun x => ev p x * lam x (a :: r)) r = sum1 (fun x => -ev p a * (lam x r / (a - x)) + ev (syn a p) x * lam x r) r:=sum1_congr fun x hx => by
      have hxa : a ≠ x:=fun z => ha (by rw [z]; exact hx)
      rw [lam_cons hxa,ev_syn a x p]
      have d1:=sub_ne hxa
      have d2:=sub_ne (Ne.symm hxa)
      generalize lam x r = y
      generalize ev p a = u
      generalize ev (syn a p) x = v
      grind
    rw [e,sum1_add,sum1_mul]
    cases r with
    | nil =>
      show ev p a * 1 + (-ev p a * 0 + 0) = p.getD 0 0
      rw [ev_low a fun j hj => hp j hj]
      grind
    | cons c r =>
      have hq : ∀ j,(c :: r).length ≤ j→(syn a p).getD j 0 = 0:=fun j hj => by
        rw [getD_syn]
        refine ev_zeros (fun i => ?_) a
        rw [getD_drop]
        exact hp _ (by show (c :: r).length + 1 ≤ _; (first | lia | omega))
      rw [parted ndr (by simp) ha,top_of ndr (by simp) hq,getD_syn]
      have e2 : ev (p.drop ((c :: r).length - 1 + 1)) a = p.getD (c :: r).length 0:=by
        rw [ev_low a fun j hj => ?_]
        · rw [getD_drop]; rfl
        · rw [getD_drop]
          exact hp _ (by show (c :: r).length + 1 ≤ _; simp only [List.length_cons] at *; (first | lia | omega))
      rw [e2]
      grind
theorem none_of : ∀ {ls : List Rat},ls.Nodup→∀ {p : List Rat},(∀ j,ls.length ≤ j→p.getD j 0 = 0)→(∀ x ∈ ls,ev p x = 0)→∀ j,p.getD j 0 = 0
  | [],_,p,hp,_ => fun j => hp j (Nat.zero_le _)
  | a :: r,nd,p,hp,h => by
    have ha : a ∉ r:=(List.nodup_cons.mp nd).1
    have ndr:=(List.nodup_cons.mp nd).2
    have h0:=h a (by simp)
    have hq : ∀ j,r.length ≤ j→(syn a p).getD j 0 = 0:=fun j hj => by
      rw [getD_syn]
      refine ev_zeros (fun i => ?_) a
      rw [getD_drop]
      exact hp _ (by show r.length + 1 ≤ _; (first | lia | omega))
    have z:=none_of ndr hq fun x hx => by
      have hxa : a ≠ x:=fun z => ha (by rw [z]; exact hx)
      have e:=ev_syn a x p
      rw [h x (by simp [hx]),h0] at e
      have d:=sub_ne (Ne.symm hxa)
      generalize ev (syn a p) x = v at *
      have : (x - a) * v = 0:=by grind
      rcases Rat.mul_eq_zero.mp this with w | w
      · exact absurd w d
      · exact w
    have e : ∀ t,ev p t = ev [] t:=fun t => by
      rw [ev_syn a t p,h0,ev_zeros z t]
      show 0 + (t - a) * 0 = 0
      grind
    exact fun j => (ev_inj e j).trans rfl
end Po
namespace Po
open PySem Ra Rq
theorem ev_less {A B : List Rat} {N : Nat} (hA : A.length = N + 1) (hB : B.length = N + 1) {c : Rat} (h : A.getD N 0 = c * B.getD N 0) (t : Rat) : ev ((List.range N).map fun i => A.getD i 0 - c * B.getD i 0) t = ev A t - c * ev B t:=by
  rw [ev_range,ev_sm A t (N + 1) (by (first | lia | omega)),ev_sm B t (N + 1) (by (first | lia | omega)),← sm_mul]
  have e : ∀ n,sm (fun i => (A.getD i 0 - c * B.getD i 0) * t ^ i) n = sm (fun i => A.getD i 0 * t ^ i) n - sm (fun i => c * (B.getD i 0 * t ^ i)) n:=fun n => by
    induction n with
    | zero => simp only [sm_zero]; grind
    | succ n ih => rw [sm_succ,sm_succ,sm_succ,ih]; grind
  have e':=e N
  have z : sm (fun i => A.getD i 0 * t ^ i) (N + 1) - sm (fun i => c * (B.getD i 0 * t ^ i)) (N + 1) = sm (fun i => A.getD i 0 * t ^ i) N - sm (fun i => c * (B.getD i 0 * t ^ i)) N:=by
    rw [sm_succ,sm_succ,h]
    grind
  grind
theorem ev_rst_eq {A B : List Rat} {N : Nat} (hA : A.length = N + 1) (hB : B.length = N + 1) (h : lst B ≠ 0) (t : Rat) : ev (rst A B) t = ev A t - lst A / lst B * ev B t:=by
  have e : lift A B = B:=by
    unfold lift
    rw [hA,hB,Nat.sub_self]
    rfl
  unfold rst
  rw [e,hA,Nat.add_sub_cancel]
  refine ev_less hA hB ?_ t
  rw [← lst_at hA,← lst_at hB]
  generalize lst A = u at *
  generalize lst B = v at *
  grind
theorem ev_rst_sh {A B : List Rat} {N : Nat} (hA : A.length = N + 2) (hB : B.length = N + 1) (h : lst B ≠ 0) (t : Rat) : ev (rst A B) t = ev A t - lst A / lst B * (t * ev B t):=by
  have e : lift A B = 0 :: B:=by
    unfold lift
    rw [hA,hB,show N + 2 - (N + 1) = 1 by (first | lia | omega)]
    rfl
  unfold rst
  rw [e,hA,show N + 2 - 1 = N + 1 by (first | lia | omega)]
  have hB' : (0 :: B).length = N + 1 + 1:=by rw [List.length_cons,hB]
  rw [ev_less hA hB' ?_ t]
  · show ev A t - lst A / lst B * (0 + t * ev B t) = _
    grind
  · rw [← lst_at hA,List.getD_cons_succ,← lst_at hB]
    generalize lst A = u at *
    generalize lst B = v at *
    grind
section
variable (U L : List Rat)
noncomputable def sq : Nat→List Rat × List Rat
  | 0 => (U,L)
  | k + 1 => (rst (sq k).1 (sq k).2,rst (sq k).2 (rst (sq k).1 (sq k).2))
noncomputable def gq (k : Nat) : Rat:=lst (sq U L k).1 / lst (sq U L k).2
noncomputable def mq (k : Nat) : Rat:=-(lst (sq U L k).2 / lst (sq U L (k + 1)).1)
noncomputable def ad : Nat→List Rat × List Rat
  | 0 => ([1],[])
  | k + 1 => (psub (ad k).1 (0 :: pscale (padd (ad k).2 (pscale (ad k).1 (mq U L k))) (gq U L (k + 1))),padd (ad k).2 (pscale (ad k).1 (mq U L k)))
end
structure Pts (n : Nat) (s : Rat) (U L ls : List Rat) : Prop where
  hU : U.length = n + 1
  hL : L.length = n + 1
  nd : ls.Nodup
  hn : ls.length = n
  pos : ∀ x ∈ ls,0 < x
  zero : ∀ x ∈ ls,ev L x = 0
  one : L.getD 0 0 = 1
  wt : ∀ x ∈ ls,0 < s * lam x ls * ev U x
  neg : s * lst L < 0
  quo : 0 < lst U / lst L
structure Inv (n : Nat) (s : Rat) (U L ls : List Rat) (k : Nat) : Prop where
  lu : (sq U L k).1.length = n - k + 1
  ll : (sq U L k).2.length = n - k + 1
  l0 : lst (sq U L k).2 ≠ 0
  g0 : 0 < gq U L k
  f0 : (sq U L k).2.getD 0 0 = 1
  eL : ∀ x ∈ ls,ev (sq U L k).2 x = x * ev (ad U L k).2 x * ev U x
  eU : ∀ x ∈ ls,ev (sq U L (k + 1)).1 x = ev (ad U L k).1 x * ev U x
  a0 : (ad U L k).1.getD 0 0 = 1
  aj : ∀ j,k + 1 ≤ j→(ad U L k).1.getD j 0 = 0
  d0 : 0 ≤ (ad U L k).2.getD 0 0
  dj : ∀ j,k ≤ j→(ad U L k).2.getD j 0 = 0
  sg : ∃ y c,0 < c ∧ 0 < s * y * lst (sq U L k).2 ∧ (ad U L k).1.getD k 0 = -(c * y)
theorem inv0 {n : Nat} {s : Rat} {U L ls : List Rat} (h : Pts n s U L ls) : Inv n s U L ls 0:=by
  have l0 : lst L ≠ 0:=fun z => by
    have:=h.neg
    rw [z] at this
    grind
  refine ⟨h.hU,h.hL,l0,h.quo,h.one,fun x hx => ?_,fun x hx => ?_,rfl,fun j hj => ?_,Rat.le_refl,fun j _ => rfl,-1,1,by decide,?_,?_⟩
  · show ev L x = x * 0 * ev U x
    rw [h.zero x hx]
    grind
  · show ev (rst U L) x = (1 + x * 0) * ev U x
    rw [ev_rst_eq h.hU h.hL l0,h.zero x hx]
    grind
  · show ([1] : List Rat).getD j 0 = 0
    exact getD_out (by simpa using hj)
  · have:=h.neg
    show 0 < s * -1 * lst L
    grind
  · show (1 : Rat) = -(1 * -1)
    grind
theorem top_pos {n k : Nat} {s : Rat} {ls : List Rat} (nd : ls.Nodup) (hn : ls.length = n) (hk : k < n) {a b w : List Rat} (wp : ∀ x ∈ ls,0 < s * lam x ls * ev w x) (ha : ∀ j,k + 1 ≤ j→a.getD j 0 = 0) (ha0 : a.getD 0 0 ≠ 0) (hb : b.length = n - k)
    {f : Rat→Rat} (hf : ∀ x ∈ ls,0 < f x) (e : ∀ x ∈ ls,ev b x = f x * ev a x * ev w x) : 0 < s * (a.getD k 0 * b.getD (n - k - 1) 0):=by
  have hne : ls ≠ []:=fun z => by rw [z] at hn; simp at hn; (first | lia | omega)
  have cz : ∀ j,n ≤ j→(pmul a b).getD j 0 = 0:=fun j hj => by
    rw [getD_pmul]
    unfold conv
    refine sm_zeros fun i _ => ?_
    by_cases c : k + 1 ≤ i
    · rw [ha i c]; grind
    · rw [getD_out (xs:=b) (i:=j - i) (by (first | lia | omega))]; grind
  have ct : (pmul a b).getD (n - 1) 0 = a.getD k 0 * b.getD (n - k - 1) 0:=by
    rw [getD_pmul]
    unfold conv
    have e1 : n - 1 + 1 = n:=by (first | lia | omega)
    rw [e1,sm_more (m:=k + 1) (by (first | lia | omega)) (fun i h1 _ => by rw [ha i h1]; grind),sm_succ,sm_zeros fun i hi => by rw [getD_out (xs:=b) (i:=n - 1 - i) (by (first | lia | omega))]; grind]
    rw [show n - 1 - k = n - k - 1 by (first | lia | omega)]
    grind
  have t:=top_of nd hne (p:=pmul a b) (fun j hj => cz j (by (first | lia | omega)))
  rw [hn,ct] at t
  rw [← t,← sum1_mul]
  have e2 : sum1 (fun x => s * (ev (pmul a b) x * lam x ls)) ls = sum1 (fun x => s * lam x ls * ev w x * (f x * (ev a x * ev a x))) ls:=sum1_congr fun x hx => by
    rw [ev_pmul,e x hx]
    grind
  rw [e2]
  refine sum1_pos (fun x hx => ?_) ?_
  · have h1:=wp x hx
    have h2:=hf x hx
    have h3 : 0 ≤ ev a x * ev a x:=by
      by_cases c : 0 ≤ ev a x
      · exact Rat.mul_nonneg c c
      · have c' : 0 ≤ -ev a x:=by grind
        have:=Rat.mul_nonneg c' c'
        grind
    exact Rat.mul_nonneg (Rat.le_of_lt h1) (Rat.mul_nonneg (Rat.le_of_lt h2) h3)
  · refine Classical.byContradiction fun no => ?_
    refine ha0 (none_of nd (p:=a) (fun j hj => ha j (by (first | lia | omega))) (fun x hx => ?_) 0)
    refine Classical.byContradiction fun z => no ⟨x,hx,fun w0 => ?_⟩
    have h1:=wp x hx
    have h2:=hf x hx
    rcases Rat.mul_eq_zero.mp w0 with w1 | w1
    · grind
    · rcases Rat.mul_eq_zero.mp w1 with w2 | w2
      · grind
      · rcases Rat.mul_eq_zero.mp w2 with w3 | w3 <;> exact z w3
theorem rdiv_pos {a b : Rat} (h1 : 0 < a) (h2 : 0 < b) : 0 < a / b:=by
  have e : a / b * b = a:=by grind
  by_cases c : 0 < a / b
  · exact c
  · have c' : 0 ≤ -(a / b):=by grind
    have:=Rat.mul_nonneg c' (Rat.le_of_lt h2)
    grind
theorem same_sign {s a b c : Rat} (h1 : 0 < s * a * b) (h2 : 0 < s * a * c) : 0 < b / c:=by
  have hc : c ≠ 0:=fun z => by rw [z] at h2; grind
  have hsa : s * a ≠ 0:=fun z => by rw [z] at h2; grind
  have h3 : 0 < (s * a * b) * (s * a * c):=Rat.mul_pos h1 h2
  have h4 : 0 < (s * a * c) * (s * a * c):=Rat.mul_pos h2 h2
  have h5 : b / c = ((s * a * b) * (s * a * c)) / ((s * a * c) * (s * a * c)):=by
    generalize s * a = u at *
    have : u * c ≠ 0:=fun z => by rcases Rat.mul_eq_zero.mp z with w | w <;> contradiction
    grind
  rw [h5]
  exact rdiv_pos h3 h4
theorem sq_fst (U L : List Rat) (k : Nat) : (sq U L (k + 1)).1 = rst (sq U L k).1 (sq U L k).2:=rfl
theorem sq_snd (U L : List Rat) (k : Nat) : (sq U L (k + 1)).2 = rst (sq U L k).2 (sq U L (k + 1)).1:=rfl
theorem Inv.evU {n : Nat} {s : Rat} {U L ls : List Rat} {k : Nat} (i : Inv n s U L ls k) (t : Rat) : ev (sq U L (k + 1)).1 t = ev (sq U L k).1 t - gq U L k * ev (sq U L k).2 t:=ev_rst_eq i.lu i.ll i.l0 t
theorem Inv.lenU {n : Nat} {s : Rat} {U L ls : List Rat} {k : Nat} (i : Inv n s U L ls k) : (sq U L (k + 1)).1.length = n - k:=by
  rw [sq_fst,rst_len,i.lu]
  (first | lia | omega)
theorem Inv.up {n : Nat} {s : Rat} {U L ls : List Rat} {k : Nat} (h : Pts n s U L ls) (i : Inv n s U L ls k) (hk : k < n) : 0 < s * ((ad U L k).1.getD k 0 * lst (sq U L (k + 1)).1) ∧ 0 < mq U L k:=by
  have lu:=i.lenU
  have t:=top_pos h.nd h.hn hk (a:=(ad U L k).1) (b:=(sq U L (k + 1)).1) (w:=U) h.wt i.aj (by rw [i.a0]; decide) lu (f:=fun _ => 1) (fun _ _ => by decide) (fun x hx => by rw [i.eU x hx]; grind)
  rw [← lst_at (show (sq U L (k + 1)).1.length = n - k - 1 + 1 by (first | lia | omega))] at t
  refine ⟨t,?_⟩
  obtain ⟨y,c,hc,hy,e⟩:=i.sg
  rw [e] at t
  unfold mq
  have t1 : 0 < s * y * (-(c * lst (sq U L (k + 1)).1)):=by
    generalize lst (sq U L (k + 1)).1 = z at *
    grind
  have t2:=same_sign hy t1
  have hz : lst (sq U L (k + 1)).1 ≠ 0:=fun z => by rw [z] at t1; grind
  generalize lst (sq U L (k + 1)).1 = z at *
  generalize lst (sq U L k).2 = v at *
  have e2 : -(v / z) = c * (v / -(c * z)):=by
    have : c ≠ 0:=fun w => by rw [w] at hc; exact absurd hc (by decide)
    grind
  rw [e2]
  exact Rat.mul_pos hc t2
theorem Inv.evL {n : Nat} {s : Rat} {U L ls : List Rat} {k : Nat} (h : Pts n s U L ls) (i : Inv n s U L ls k) (hk : k < n) (t : Rat) : ev (sq U L (k + 1)).2 t = ev (sq U L k).2 t + mq U L k * (t * ev (sq U L (k + 1)).1 t):=by
  have lu:=i.lenU
  have hz : lst (sq U L (k + 1)).1 ≠ 0:=fun z => by
    have:=(i.up h hk).1
    rw [z] at this
    grind
  rw [sq_snd,ev_rst_sh (N:=n - k - 1) (by rw [i.ll]; (first | lia | omega)) (by rw [lu]; (first | lia | omega)) hz]
  unfold mq
  grind
theorem Inv.step {n : Nat} {s : Rat} {U L ls : List Rat} {k : Nat} (h : Pts n s U L ls) (i : Inv n s U L ls k) (hk : k < n) : Inv n s U L ls (k + 1):=by
  have lu:=i.lenU
  obtain ⟨u1,m0⟩:=i.up h hk
  have ll : (sq U L (k + 1)).2.length = n - k:=by
    rw [sq_snd,rst_len,i.ll]
    (first | lia | omega)
  have ea : (ad U L (k + 1)).2 = padd (ad U L k).2 (pscale (ad U L k).1 (mq U L k)):=rfl
  have eb : (ad U L (k + 1)).1 = psub (ad U L k).1 (0 :: pscale (ad U L (k + 1)).2 (gq U L (k + 1))):=rfl
  have gd : ∀ j,(ad U L (k + 1)).2.getD j 0 = (ad U L k).2.getD j 0 + (ad U L k).1.getD j 0 * mq U L k:=fun j => by rw [ea,getD_padd,getD_pscale]
  have eL : ∀ x ∈ ls,ev (sq U L (k + 1)).2 x = x * ev (ad U L (k + 1)).2 x * ev U x:=fun x hx => by
    rw [i.evL h hk,i.eL x hx,i.eU x hx,ea,ev_padd,ev_pscale]
    grind
  have d0 : 0 < (ad U L (k + 1)).2.getD 0 0:=by
    rw [gd,i.a0]
    have:=i.d0
    grind
  have dj : ∀ j,k + 1 ≤ j→(ad U L (k + 1)).2.getD j 0 = 0:=fun j hj => by
    rw [gd,i.dj j (by (first | lia | omega)),i.aj j hj]
    grind
  have dk : (ad U L (k + 1)).2.getD k 0 = (ad U L k).1.getD k 0 * mq U L k:=by
    rw [gd,i.dj k (Nat.le_refl k)]
    grind
  have t:=top_pos h.nd h.hn hk (a:=(ad U L (k + 1)).2) (b:=(sq U L (k + 1)).2) (w:=U) h.wt dj (fun z => by rw [z] at d0; exact absurd d0 (by decide)) ll (f:=fun x => x) h.pos eL
  rw [← lst_at (show (sq U L (k + 1)).2.length = n - k - 1 + 1 by (first | lia | omega))] at t
  have l0 : lst (sq U L (k + 1)).2 ≠ 0:=fun z => by rw [z] at t; grind
  have g0 : 0 < gq U L (k + 1):=by
    rw [dk] at t
    unfold gq
    have t1 : 0 < s * (ad U L k).1.getD k 0 * (mq U L k * lst (sq U L (k + 1)).2):=by grind
    have t2 : 0 < s * (ad U L k).1.getD k 0 * lst (sq U L (k + 1)).1:=by grind
    have t3:=same_sign t2 t1
    have hm : mq U L k ≠ 0:=fun z => by rw [z] at m0; exact absurd m0 (by decide)
    have e : lst (sq U L (k + 1)).1 / lst (sq U L (k + 1)).2 = mq U L k * (lst (sq U L (k + 1)).1 / (mq U L k * lst (sq U L (k + 1)).2)):=by
      generalize lst (sq U L (k + 1)).1 = u at *
      generalize lst (sq U L (k + 1)).2 = v at *
      generalize mq U L k = m at *
      grind
    rw [e]
    exact Rat.mul_pos m0 t3
  have lu' : (sq U L (k + 1)).1.length = n - (k + 1) + 1:=by (first | lia | omega)
  have ll' : (sq U L (k + 1)).2.length = n - (k + 1) + 1:=by (first | lia | omega)
  have ga : ∀ j,(ad U L (k + 1)).1.getD (j + 1) 0 = (ad U L k).1.getD (j + 1) 0 - (ad U L (k + 1)).2.getD j 0 * gq U L (k + 1):=fun j => by
    rw [eb,getD_psub,List.getD_cons_succ,getD_pscale]
  refine ⟨lu',ll',l0,g0,?_,eL,fun x hx => ?_,?_,fun j hj => ?_,Rat.le_of_lt d0,dj,(ad U L (k + 1)).2.getD k 0,gq U L (k + 1),g0,by grind,?_⟩
  · have e : (sq U L (k + 1)).2.getD 0 0 = ev (sq U L (k + 1)).2 0:=by
      have : ∀ p : List Rat,ev p 0 = p.getD 0 0:=fun p => by
        cases p with
        | nil => rfl
        | cons c p => show c + 0 * ev p 0 = c; grind
      rw [this]
    have e2 : (sq U L k).2.getD 0 0 = ev (sq U L k).2 0:=by
      have : ∀ p : List Rat,ev p 0 = p.getD 0 0:=fun p => by
        cases p with
        | nil => rfl
        | cons c p => show c + 0 * ev p 0 = c; grind
      rw [this]
    rw [e,i.evL h hk,← e2,i.f0]
    grind
  · rw [sq_fst,ev_rst_eq lu' ll' l0,i.eU x hx,eL x hx,eb,ev_psub]
    show _ = (ev (ad U L k).1 x - (0 + x * ev (pscale (ad U L (k + 1)).2 (gq U L (k + 1))) x)) * ev U x
    rw [ev_pscale]
    have : lst (sq U L (k + 1)).1 / lst (sq U L (k + 1)).2 = gq U L (k + 1):=rfl
    rw [this]
    grind
  · rw [eb,getD_psub]
    show (ad U L k).1.getD 0 0 - 0 = 1
    rw [i.a0]
    grind
  · obtain ⟨j,rfl⟩ : ∃ m,j = m + 1:=⟨j - 1,by (first | lia | omega)⟩
    rw [ga,i.aj _ (by (first | lia | omega)),dj j (by (first | lia | omega))]
    grind
  · rw [ga,i.aj _ (Nat.le_refl _)]
    grind
theorem inv_all {n : Nat} {s : Rat} {U L ls : List Rat} (h : Pts n s U L ls) : ∀ k,k ≤ n→Inv n s U L ls k
  | 0,_ => inv0 h
  | k + 1,hk => (inv_all h k (by (first | lia | omega))).step h (by (first | lia | omega))
theorem cord_of_pts {n : Nat} {s : Rat} {U L ls : List Rat} (h : Pts n s U L ls) : ∃ gs ws : List Rat,gs.length = n + 1 ∧ ws.length = n ∧ (∀ q ∈ gs,0 < q) ∧ (∀ q ∈ ws,0 < q) ∧ hdp gs ws n = U ∧ lsp gs ws n = L:=by
  have I:=inv_all h
  have gp : ∀ q ∈ (List.range (n + 1)).map (fun j => gq U L (n - j)),0 < q:=fun q hq => by
    obtain ⟨j,hj,rfl⟩:=List.mem_map.mp hq
    exact (I _ (by (first | lia | omega))).g0
  have wp : ∀ q ∈ (List.range n).map (fun j => mq U L (n - 1 - j)),0 < q:=fun q hq => by
    obtain ⟨j,hj,rfl⟩:=List.mem_map.mp hq
    have:=List.mem_range.mp hj
    exact ((I _ (by (first | lia | omega))).up h (by (first | lia | omega))).2
  have hg : ∀ j,j ≤ n→((List.range (n + 1)).map (fun j => gq U L (n - j))).getD j 0 = gq U L (n - j):=fun j hj => by rw [getD_range,if_pos (by (first | lia | omega))]
  have hw : ∀ j,j < n→((List.range n).map (fun j => mq U L (n - 1 - j))).getD j 0 = mq U L (n - 1 - j):=fun j hj => by rw [getD_range,if_pos hj]
  have lg : ((List.range (n + 1)).map (fun j => gq U L (n - j))).length = n + 1:=by rw [List.length_map,List.length_range]
  have lw : ((List.range n).map (fun j => mq U L (n - 1 - j))).length = n:=by rw [List.length_map,List.length_range]
  generalize (List.range (n + 1)).map (fun j => gq U L (n - j)) = gs at *
  generalize (List.range n).map (fun j => mq U L (n - 1 - j)) = ws at *
  have main : ∀ j,j ≤ n→∀ t,(stp gs ws t 0 1 j).1 = ev (sq U L (n - j)).1 t ∧ (stp gs ws t 0 1 j).2 = ev (sq U L (n - j)).2 t:=by
    intro j
    induction j with
    | zero =>
      intro _ t
      have i:=I n (Nat.le_refl n)
      have e1 : ∀ p : List Rat,p.length = 1→ev p t = p.getD 0 0:=fun p hp => by
        match p,hp with
        | [c],_ => show c + t * 0 = c; grind
      have lu:=i.lu
      have ll:=i.ll
      rw [Nat.sub_self] at lu ll
      show 0 + gs.getD 0 0 * 1 = ev (sq U L n).1 t ∧ 1 = ev (sq U L n).2 t
      rw [e1 _ lu,e1 _ ll,i.f0,hg 0 (by (first | lia | omega))]
      refine ⟨?_,rfl⟩
      show 0 + gq U L n * 1 = _
      unfold gq
      rw [lst_at (j:=0) lu,lst_at (j:=0) ll,i.f0]
      grind
    | succ j ih =>
      intro hj t
      obtain ⟨a,b⟩:=ih (by (first | lia | omega)) t
      have i:=I (n - (j + 1)) (by (first | lia | omega))
      have e : n - (j + 1) + 1 = n - j:=by (first | lia | omega)
      have eU:=i.evU t
      have eL:=i.evL h (by (first | lia | omega)) t
      rw [e] at eU eL
      show (stp gs ws t 0 1 j).1 + gs.getD (j + 1) 0 * ((stp gs ws t 0 1 j).2 - t * ws.getD j 0 * (stp gs ws t 0 1 j).1) = _ ∧ (stp gs ws t 0 1 j).2 - t * ws.getD j 0 * (stp gs ws t 0 1 j).1 = _
      rw [a,b,hg (j + 1) hj,hw j (by (first | lia | omega)),show n - 1 - j = n - (j + 1) by (first | lia | omega)]
      refine ⟨?_,?_⟩
      · grind
      · grind
  have hlen : gs.length = ws.length + 1:=by (first | lia | omega)
  have l1:=hd_len gp wp hlen (show n ≤ ws.length by (first | lia | omega))
  have l2:=ls_len gp wp hlen (show n ≤ ws.length by (first | lia | omega))
  refine ⟨gs,ws,lg,lw,gp,wp,?_,?_⟩
  · refine list_ext (by rw [l1,h.hU]) fun k _ => ev_inj (fun t => ?_) k
    have:=(main n (Nat.le_refl n) t).1
    rw [Nat.sub_self] at this
    exact ((ev_pst gs ws [] [1] t n).1.trans (by show (stp gs ws t 0 (1 + t * 0) n).1 = _; rw [show (1 : Rat) + t * 0 = 1 by grind])).trans this
  · refine list_ext (by rw [l2,h.hL]) fun k _ => ev_inj (fun t => ?_) k
    have:=(main n (Nat.le_refl n) t).2
    rw [Nat.sub_self] at this
    exact ((ev_pst gs ws [] [1] t n).2.trans (by show (stp gs ws t 0 (1 + t * 0) n).2 = _; rw [show (1 : Rat) + t * 0 = 1 by grind])).trans this
end Po
namespace Po
open PySem Ra Rq
noncomputable def mulc (w k : Rat) : List Rat→List Rat
  | [] => [0 - k / w]
  | c :: p => (c - k / w) :: mulc w c p
theorem ev_mulc (w t : Rat) : ∀ (p : List Rat) (k : Rat),ev (mulc w k p) t = ev p t * (1 - t / w) - k / w
  | [],k => by show 0 - k / w + t * 0 = 0 * (1 - t / w) - k / w; grind
  | c :: p,k => by
    show c - k / w + t * ev (mulc w c p) t = (c + t * ev p t) * (1 - t / w) - k / w
    rw [ev_mulc w t p c]
    simp only [Rat.div_def]
    grind
theorem len_mulc (w : Rat) : ∀ (p : List Rat) (k : Rat),(mulc w k p).length = p.length + 1
  | [],_ => rfl
  | _ :: p,k => by show (mulc w _ p).length + 1 = _; rw [len_mulc w p]; rfl
theorem lst_cons {c : Rat} {p : List Rat} (h : p ≠ []) : lst (c :: p) = lst p:=by
  unfold lst
  cases p with
  | nil => exact absurd rfl h
  | cons d p => rfl
theorem lst_mulc (w : Rat) : ∀ (p : List Rat) (k : Rat),lst (mulc w k p) = -((if p = [] then k else lst p) / w)
  | [],k => by show (0 - k / w) = -((if ([] : List Rat) = [] then k else _) / w); rw [if_pos rfl]; grind
  | [c],k => by
    show lst ((c - k / w) :: [0 - c / w]) = _
    rw [if_neg (by simp)]
    show 0 - c / w = -(c / w)
    grind
  | c :: d :: p,k => by
    show lst ((c - k / w) :: mulc w c (d :: p)) = _
    rw [lst_cons (by simp [mulc]),lst_mulc w (d :: p) c,if_neg (by simp),if_neg (by simp),lst_cons (c:=c) (by simp)]
noncomputable def wths (p us : List Rat) : List Rat:=us.foldl (fun p u => mulc u 0 p) p
noncomputable def pu (t : Rat) : List Rat→Rat
  | [] => 1
  | u :: us => (1 - t / u) * pu t us
theorem ev_wths (t : Rat) : ∀ (us p : List Rat),ev (wths p us) t = ev p t * pu t us
  | [],p => by show ev p t = ev p t * 1; grind
  | u :: us,p => by
    show ev (wths (mulc u 0 p) us) t = ev p t * ((1 - t / u) * pu t us)
    rw [ev_wths t us,ev_mulc]
    simp only [Rat.div_def]
    grind
theorem len_wths : ∀ (us p : List Rat),(wths p us).length = p.length + us.length
  | [],_ => rfl
  | u :: us,p => by
    show (wths (mulc u 0 p) us).length = _
    rw [len_wths us,len_mulc,List.length_cons]
    (first | lia | omega)
theorem first_wths : ∀ (us p : List Rat),p ≠ []→(wths p us).getD 0 0 = p.getD 0 0
  | [],_,_ => rfl
  | u :: us,p,h => by
    show (wths (mulc u 0 p) us).getD 0 0 = _
    rw [first_wths us _ (fun z => by have:=len_mulc u p 0; rw [z] at this; simp at this)]
    cases p with
    | nil => exact absurd rfl h
    | cons c p => show c - 0 / u = c; simp only [Rat.div_def]; grind
noncomputable def sgN : Nat→Rat
  | 0 => 1
  | n + 1 => -sgN n
theorem inv_pos {u : Rat} (h : 0 < u) : 0 < u⁻¹:=by
  have:=rdiv_pos (show (0 : Rat) < 1 by decide) h
  rw [Rat.div_def] at this
  grind
theorem lst_wths : ∀ (us p : List Rat),p ≠ []→(∀ u ∈ us,0 < u)→∀ e : Rat,0 < e * lst p→0 < e * sgN us.length * lst (wths p us)
  | [],p,_,_,e,h => by show 0 < e * 1 * lst p; grind
  | u :: us,p,hp,hu,e,h => by
    have h1:=inv_pos (hu u (by simp))
    have hn : mulc u 0 p ≠ []:=fun z => by have:=len_mulc u p 0; rw [z] at this; simp at this
    have h2 : 0 < -e * lst (mulc u 0 p):=by
      rw [lst_mulc,if_neg hp,Rat.div_def]
      have:=Rat.mul_pos h h1
      grind
    have:=lst_wths us (mulc u 0 p) hn (fun v hv => hu v (by simp [hv])) (-e) h2
    show 0 < e * -sgN us.length * lst (wths (mulc u 0 p) us)
    grind
noncomputable def Turns (a : Rat) : List Rat→List Rat→Prop
  | [],[] => True
  | l :: ls,u :: us => a < l ∧ l < u ∧ Turns u ls us
  | _,_ => False
theorem Turns.len : ∀ {ls us : List Rat} {a : Rat},Turns a ls us→us.length = ls.length
  | [],[],_,_ => rfl
  | _ :: ls,_ :: us,_,h => by rw [List.length_cons,List.length_cons,h.2.2.len]
  | [],_ :: _,_,h => False.elim h
  | _ :: _,[],_,h => False.elim h
theorem Turns.mem : ∀ {ls us : List Rat} {a : Rat},Turns a ls us→(∀ x ∈ ls,a < x) ∧ ∀ x ∈ us,a < x
  | [],[],_,_ => ⟨fun _ h => absurd h List.not_mem_nil,fun _ h => absurd h List.not_mem_nil⟩
  | l :: ls,u :: us,a,h => by
    obtain ⟨m1,m2⟩:=h.2.2.mem
    have h1:=h.1
    have h2:=h.2.1
    refine ⟨fun x hx => ?_,fun x hx => ?_⟩
    · rcases List.mem_cons.mp hx with z | z
      · rw [z]; exact h1
      · have:=m1 x z; grind
    · rcases List.mem_cons.mp hx with z | z
      · rw [z]; grind
      · have:=m2 x z; grind
  | [],_ :: _,_,h => False.elim h
  | _ :: _,[],_,h => False.elim h
theorem Turns.nodup : ∀ {ls us : List Rat} {a : Rat},Turns a ls us→ls.Nodup
  | [],[],_,_ => List.nodup_nil
  | l :: ls,u :: us,a,h => by
    refine List.nodup_cons.mpr ⟨fun m => ?_,h.2.2.nodup⟩
    have:=h.2.2.mem.1 l m
    have:=h.2.1
    grind
  | [],_ :: _,_,h => False.elim h
  | _ :: _,[],_,h => False.elim h
theorem one_less {x u : Rat} (hu : 0 < u) : 1 - x / u = (u - x) * u⁻¹:=by
  rw [Rat.div_def]
  have : u * u⁻¹ = 1:=Rat.mul_inv_cancel u (by grind)
  grind
theorem neg_of {a b : Rat} (h1 : 0 < a) (h2 : b < 0) : a * b < 0:=by
  have:=Rat.mul_pos h1 (show 0 < -b by grind)
  grind
theorem pair_neg {x l u : Rat} (hu : 0 < u) (h : (x < l ∧ x < u) ∨ (l < x ∧ u < x)) : (x - l)⁻¹ * (1 - x / u) < 0:=by
  have hi:=inv_pos hu
  rw [one_less hu]
  rcases h with ⟨h1,h2⟩ | ⟨h1,h2⟩
  · have h3 : 0 < (l - x)⁻¹:=inv_pos (by grind)
    have e : (x - l)⁻¹ = -(l - x)⁻¹:=by
      have d : l - x ≠ 0:=by grind
      have d2 : x - l ≠ 0:=by grind
      have e1:=Rat.mul_inv_cancel _ d
      have e2:=Rat.mul_inv_cancel _ d2
      generalize (x - l)⁻¹ = a at *
      generalize (l - x)⁻¹ = b at *
      grind
    have h4 : 0 < (u - x) * u⁻¹:=Rat.mul_pos (by grind) hi
    have:=Rat.mul_pos h3 h4
    rw [e]
    grind
  · have h3 : 0 < (x - l)⁻¹:=inv_pos (by grind)
    have h4 : 0 < (x - u) * u⁻¹:=Rat.mul_pos (by grind) hi
    have:=Rat.mul_pos h3 h4
    grind
theorem sg_ahead : ∀ {ls us : List Rat} {a x : Rat},Turns a ls us→0 ≤ a→x ≤ a→0 < sgN ls.length * (lam x ls * pu x us)
  | [],[],_,_,_,_,_ => by show (0 : Rat) < 1 * (1 * 1); grind
  | l :: ls,u :: us,a,x,h,ha,hx => by
    have h1:=h.1
    have h2:=h.2.1
    have ih:=sg_ahead (x:=x) h.2.2 (by grind) (by grind)
    have n:=pair_neg (x:=x) (l:=l) (u:=u) (by grind) (.inl ⟨by grind,by grind⟩)
    rw [lam_cons (fun z => by grind),Rat.div_def]
    have p:=neg_of ih n
    show 0 < -sgN ls.length * (lam x ls * (x - l)⁻¹ * ((1 - x / u) * pu x us))
    generalize (x - l)⁻¹ = y at *
    generalize 1 - x / u = z at *
    generalize lam x ls = v at *
    generalize pu x us = w at *
    grind
  | [],_ :: _,_,_,h,_,_ => False.elim h
  | _ :: _,[],_,_,h,_,_ => False.elim h
theorem sg_at : ∀ {ls us : List Rat} {a x : Rat},Turns a ls us→0 ≤ a→x ∈ ls→0 < -sgN ls.length * (lam x ls * pu x us)
  | l :: ls,u :: us,a,x,h,ha,hx => by
    have h1:=h.1
    have h2:=h.2.1
    by_cases e : x = l
    · rw [e,lam_self]
      have p:=sg_ahead (x:=l) h.2.2 (by grind) (by grind)
      have q : 0 < 1 - l / u:=by
        rw [one_less (by grind)]
        exact Rat.mul_pos (by grind) (inv_pos (by grind))
      have:=Rat.mul_pos p q
      show 0 < - -sgN ls.length * (lam l ls * ((1 - l / u) * pu l us))
      generalize 1 - l / u = z at *
      generalize lam l ls = v at *
      generalize pu l us = w at *
      grind
    · have hx' : x ∈ ls:=(List.mem_cons.mp hx).resolve_left e
      have hux:=h.2.2.mem.1 x hx'
      have ih:=sg_at h.2.2 (by grind) hx'
      have n:=pair_neg (x:=x) (l:=l) (u:=u) (by grind) (.inr ⟨by grind,by grind⟩)
      rw [lam_cons (fun z => e z.symm),Rat.div_def]
      have p:=neg_of ih n
      show 0 < - -sgN ls.length * (lam x ls * (x - l)⁻¹ * ((1 - x / u) * pu x us))
      generalize (x - l)⁻¹ = y at *
      generalize 1 - x / u = z at *
      generalize lam x ls = v at *
      generalize pu x us = w at *
      grind
  | [],[],_,_,_,_,hx => by cases hx
  | [],_ :: _,_,_,h,_,_ => False.elim h
  | _ :: _,[],_,_,h,_,_ => False.elim h
theorem pu_zero : ∀ {ls : List Rat} {x : Rat},x ≠ 0→x ∈ ls→pu x ls = 0
  | l :: ls,x,h0,hx => by
    show (1 - x / l) * pu x ls = 0
    rcases List.mem_cons.mp hx with z | z
    · rw [← z,Rat.div_def,Rat.mul_inv_cancel x h0]; grind
    · rw [pu_zero h0 z]; grind
theorem pts_of {ls us : List Rat} {c : Rat} (h : Turns 0 ls us) (hc : 0 < c) : Pts ls.length (-sgN ls.length) (wths [c] us) (wths [1] ls) ls:=by
  have hl:=h.len
  obtain ⟨m1,m2⟩:=h.mem
  have t1:=lst_wths ls [1] (by simp) m1 1 (by show (0 : Rat) < 1 * 1; grind)
  have t2:=lst_wths us [c] (by simp) m2 1 (by show (0 : Rat) < 1 * c; grind)
  rw [hl] at t2
  refine ⟨by rw [len_wths,hl,List.length_singleton]; (first | lia | omega),by rw [len_wths,List.length_singleton]; (first | lia | omega),h.nodup,rfl,m1,fun x hx => ?_,first_wths ls [1] (by simp),fun x hx => ?_,by grind,same_sign (s:=1) (a:=sgN ls.length) t2 t1⟩
  · rw [ev_wths,pu_zero (fun z => by have:=m1 x hx; rw [z] at this; exact absurd this (by decide)) hx]
    grind
  · rw [ev_wths]
    have p:=sg_at h (Rat.le_refl) hx
    have:=Rat.mul_pos p hc
    show 0 < -sgN ls.length * lam x ls * ((c + x * 0) * pu x us)
    grind
theorem cord_of_worths {ls us : List Rat} {c : Rat} (h : Turns 0 ls us) (hc : 0 < c) : ∃ gs ws : List Rat,gs.length = ls.length + 1 ∧ ws.length = ls.length ∧ (∀ q ∈ gs,0 < q) ∧ (∀ q ∈ ws,0 < q) ∧ hdp gs ws ls.length = wths [c] us ∧ lsp gs ws ls.length = wths [1] ls:=cord_of_pts (pts_of h hc)
end Po
namespace Po
open PySem Ra Rq
noncomputable def OvN (N : Nat) (A : List Rat) : Prop:=∃ M : Int,M ≠ 0 ∧ Bt N M ∧ ∀ q ∈ A,Ov N M q
theorem OvN.mono {m n : Nat} {A : List Rat} (h : OvN m A) (l : m ≤ n) : OvN n A:=by
  obtain ⟨M,h1,h2,h3⟩:=h
  exact ⟨M,h1,h2.mono l,fun q hq => (h3 q hq).mono l⟩
theorem OvN.at {n : Nat} {A : List Rat} {M : Int} (h : ∀ q ∈ A,Ov n M q) (i : Nat) : ∃ T : Int,Bt n T ∧ A.getD i 0 * (M : Rat) = (T : Rat):=by
  by_cases c : i < A.length
  · rw [getD_in c]
    exact h _ (List.getElem_mem c)
  · refine ⟨0,Bt.zero,?_⟩
    rw [getD_out (by (first | lia | omega)),Rat.zero_mul]
    rfl
theorem rst_ovN {a b : Nat} {A B : List Rat} (hA : OvN a A) (hB : OvN b B) (h : lst B ≠ 0) : OvN (a + b + 1) (rst A B):=by
  obtain ⟨M,m0,bM,oM⟩:=hA
  obtain ⟨K,k0,bK,oK⟩:=hB
  obtain ⟨T,bT,eT⟩:=OvN.at oK (B.length - 1)
  obtain ⟨X,bX,eX⟩:=OvN.at oM (A.length - 1)
  have eT' : lst B * (K : Rat) = (T : Rat):=eT
  have eX' : lst A * (M : Rat) = (X : Rat):=eX
  have hK : (K : Rat) ≠ 0:=fun z => k0 (Rat.intCast_eq_zero_iff.mp z)
  have hT : T ≠ 0:=fun z => by
    rw [z] at eT'
    rcases Rat.mul_eq_zero.mp eT' with w | w
    · exact h w
    · exact hK w
  refine ⟨M * T,Int.mul_ne_zero m0 hT,(bM.mul bT).mono (by (first | lia | omega)),fun q hq => ?_⟩
  obtain ⟨i,_,rfl⟩:=List.mem_map.mp hq
  obtain ⟨Y,bY,eY⟩:=OvN.at oM i
  obtain ⟨Z,bZ,eZ⟩ : ∃ Z : Int,Bt b Z ∧ (lift A B).getD i 0 * (K : Rat) = (Z : Rat):=by
    refine OvN.at (A:=lift A B) (fun q hq => ?_) i
    rcases List.mem_append.mp hq with z | z
    · rw [List.eq_of_mem_replicate z]
      exact ⟨0,Bt.zero,by rw [Rat.zero_mul]; rfl⟩
    · exact oK q z
  refine ⟨Y * T - X * Z,(by rw [Int.sub_eq_add_neg]; exact bt_add (bY.mul bT) (bX.mul bZ).neg),?_⟩
  show (A.getD i 0 - lst A / lst B * (lift A B).getD i 0) * ((M * T : Int) : Rat) = _
  rw [Rat.intCast_mul,Rat.intCast_sub,Rat.intCast_mul,Rat.intCast_mul,← eY,← eX',← eZ,← eT']
  generalize lst B = v at *
  generalize lst A = u at *
  generalize A.getD i 0 = x at *
  generalize (lift A B).getD i 0 = y at *
  generalize (M : Rat) = m at *
  generalize (K : Rat) = k at *
  have : u / v * v = u:=by grind
  grind
noncomputable def fbn (a b : Nat) : Nat→Nat × Nat
  | 0 => (a,b)
  | k + 1 => ((fbn a b k).1 + (fbn a b k).2 + 1,(fbn a b k).2 + ((fbn a b k).1 + (fbn a b k).2 + 1) + 1)
section
variable {gs ws : List Rat}
theorem lad_ovN (pg : ∀ q ∈ gs,0 < q) (pw : ∀ q ∈ ws,0 < q) (hlen : gs.length = ws.length + 1) {a b : Nat} (hU : OvN a (hdp gs ws ws.length)) (hL : OvN b (lsp gs ws ws.length)) : ∀ k,k ≤ ws.length→OvN (fbn a b k).1 (hdp gs ws (ws.length - k)) ∧ OvN (fbn a b k).2 (lsp gs ws (ws.length - k))
  | 0,_ => ⟨hU,hL⟩
  | k + 1,hk => by
    obtain ⟨h1,h2⟩:=lad_ovN pg pw hlen hU hL k (by (first | lia | omega))
    obtain ⟨j,ej⟩ : ∃ j,ws.length - k = j + 1:=⟨ws.length - k - 1,by (first | lia | omega)⟩
    have ej' : ws.length - (k + 1) = j:=by (first | lia | omega)
    rw [ej] at h1 h2
    rw [ej']
    have l2:=ls_len pg pw hlen (show j + 1 ≤ ws.length by (first | lia | omega))
    have l1:=hd_len pg pw hlen (show j ≤ ws.length by (first | lia | omega))
    have h3 : OvN (fbn a b (k + 1)).1 (hdp gs ws j):=by
      have:=rst_ovN h1 h2 (by rw [lst_at l2]; exact ls_ne pg pw hlen (by (first | lia | omega)))
      rw [rst_hd pg pw hlen (by (first | lia | omega))] at this
      exact this
    refine ⟨h3,?_⟩
    have:=rst_ovN h2 h3 (by rw [lst_at l1]; exact hd_ne pg pw hlen (by (first | lia | omega)))
    rw [rst_ls pg pw hlen (by (first | lia | omega))] at this
    exact this
end
theorem stp_sc (gs ws : List Rat) {c : Rat} (hc : c ≠ 0) (t : Rat) : ∀ k,stp (gs.map (· * c)) (ws.map (· / c)) t 0 1 k = ((stp gs ws t 0 1 k).1 * c,(stp gs ws t 0 1 k).2)
  | 0 => by
    have e : (gs.map (· * c)).getD 0 0 = gs.getD 0 0 * c:=by cases gs <;> simp
    show (0 + (gs.map (· * c)).getD 0 0 * 1,(1 : Rat)) = ((0 + gs.getD 0 0 * 1) * c,1)
    rw [e]
    refine Prod.ext ?_ rfl
    show 0 + gs.getD 0 0 * c * 1 = (0 + gs.getD 0 0 * 1) * c
    grind
  | k + 1 => by
    have ih:=stp_sc gs ws hc t k
    have e : ∀ (xs : List Rat) (f : Rat→Rat),f 0 = 0→∀ i,(xs.map f).getD i 0 = f (xs.getD i 0):=fun xs f hf i => by
      rw [List.getD_eq_getElem?_getD,List.getD_eq_getElem?_getD,List.getElem?_map]
      cases xs[i]? with
      | none => exact hf.symm
      | some x => rfl
    have e1:=e gs (· * c) (by show (0 : Rat) * c = 0; grind) (k + 1)
    have e2:=e ws (· / c) (by show (0 : Rat) / c = 0; rw [Rat.div_def]; grind) k
    have e3 : (stp (gs.map (· * c)) (ws.map (· / c)) t 0 1 k).2 - t * (ws.map (· / c)).getD k 0 * (stp (gs.map (· * c)) (ws.map (· / c)) t 0 1 k).1 = (stp gs ws t 0 1 k).2 - t * ws.getD k 0 * (stp gs ws t 0 1 k).1:=by
      rw [ih,e2]
      show (stp gs ws t 0 1 k).2 - t * (ws.getD k 0 / c) * ((stp gs ws t 0 1 k).1 * c) = _
      generalize ws.getD k 0 = w
      generalize (stp gs ws t 0 1 k).1 = h
      grind
    refine Prod.ext ?_ e3
    show (stp (gs.map (· * c)) (ws.map (· / c)) t 0 1 k).1 + (gs.map (· * c)).getD (k + 1) 0 * ((stp (gs.map (· * c)) (ws.map (· / c)) t 0 1 k).2 - t * (ws.map (· / c)).getD k 0 * (stp (gs.map (· * c)) (ws.map (· / c)) t 0 1 k).1) = ((stp gs ws t 0 1 k).1 + gs.getD (k + 1) 0 * ((stp gs ws t 0 1 k).2 - t * ws.getD k 0 * (stp gs ws t 0 1 k).1)) * c
    rw [e3,e1,ih]
    show (stp gs ws t 0 1 k).1 * c + gs.getD (k + 1) 0 * c * _ = _
    grind
end Po
namespace Po
open PySem Ra Rq
theorem mulc_ov {N d : Nat} {M : Int} {w : Rat} (hw : w ≠ 0) (bw : Bq d w) : ∀ {p : List Rat} {k : Rat},Ov N M k→(∀ q ∈ p,Ov N M q)→∀ q ∈ mulc w k p,Ov (N + d + 1) (M * w.num) q:=by
  have step : ∀ {c k : Rat},Ov N M c→Ov N M k→Ov (N + d + 1) (M * w.num) (c - k / w):=fun {c k} hc hk => by
    obtain ⟨T,bT,eT⟩:=hc
    obtain ⟨X,bX,eX⟩:=hk
    refine ⟨T * w.num - X * w.den,(by rw [Int.sub_eq_add_neg]; exact bt_add (bT.mul bw.1) (bX.mul bw.2).neg),?_⟩
    rw [Rat.intCast_mul,Rat.intCast_sub,Rat.intCast_mul,Rat.intCast_mul,← eT,← eX]
    have e:=q_eq w
    have hd:=den_ne w
    have hn : (w.num : Rat) ≠ 0:=fun z => hw (Rat.num_eq_zero.mp (Rat.intCast_eq_zero_iff.mp z))
    have e' : w = (w.num : Rat) / ((w.den : Int) : Rat):=e.symm
    generalize (w.num : Rat) = u at *
    generalize ((w.den : Int) : Rat) = v at *
    generalize (M : Rat) = m at *
    rw [e']
    grind
  intro p
  induction p with
  | nil =>
    intro k hk _ q hq
    rw [List.mem_singleton.mp hq]
    exact step Ov.zero hk
  | cons c p ih =>
    intro k hk hp q hq
    rcases List.mem_cons.mp hq with z | z
    · rw [z]; exact step (hp c (by simp)) hk
    · exact ih (hp c (by simp)) (fun q hq => hp q (by simp [hq])) q z
theorem wths_ovN {d : Nat} : ∀ {us p : List Rat} {N : Nat},OvN N p→(∀ u ∈ us,u ≠ 0 ∧ Bq d u)→OvN (N + (d + 1) * us.length) (wths p us)
  | [],_,_,h,_ => h
  | u :: us,p,N,h,hu => by
    obtain ⟨M,h1,h2,h3⟩:=h
    obtain ⟨u0,bu⟩:=hu u (by simp)
    have hn : u.num ≠ 0:=fun z => u0 (Rat.num_eq_zero.mp z)
    have:=wths_ovN (us:=us) (p:=mulc u 0 p) (N:=N + d + 1) ⟨M * u.num,Int.mul_ne_zero h1 hn,(h2.mul bu.1).mono (by (first | lia | omega)),mulc_ov u0 bu Ov.zero h3⟩ fun v hv => hu v (by simp [hv])
    refine OvN.mono (A:=wths p (u :: us)) this ?_
    rw [List.length_cons,Nat.mul_succ]
    (first | lia | omega)
theorem OvN.bq {N : Nat} {A : List Rat} (h : OvN N A) : ∀ q ∈ A,Bq N q:=by
  obtain ⟨M,h1,h2,h3⟩:=h
  exact fun q hq => (h3 q hq).bq h1 h2
theorem ovN_scale {N b : Nat} {A B : List Rat} {c : Rat} (h : OvN N A) (hc : Bq b c) (e : ∀ i,B.getD i 0 = A.getD i 0 * c) : OvN (N + b) B:=by
  obtain ⟨M,h1,h2,h3⟩:=h
  have hd:=den_pos c
  refine ⟨M * c.den,Int.mul_ne_zero h1 (by (first | lia | omega)),(h2.mul hc.2),fun q hq => ?_⟩
  obtain ⟨i,hi,rfl⟩:=List.getElem_of_mem hq
  rw [← getD_in hi,e]
  obtain ⟨T,bT,eT⟩:=OvN.at h3 i
  obtain ⟨X,bX,eX⟩:=ov_self hc
  refine ⟨T * X,bT.mul bX,?_⟩
  rw [Rat.intCast_mul,Rat.intCast_mul,← eT,← eX]
  grind
theorem lst_ov {N : Nat} {A : List Rat} (h : OvN N A) : ∃ M T : Int,M ≠ 0 ∧ Bt N M ∧ Bt N T ∧ lst A * (M : Rat) = (T : Rat):=by
  obtain ⟨M,h1,h2,h3⟩:=h
  obtain ⟨T,bT,eT⟩:=OvN.at h3 (A.length - 1)
  exact ⟨M,T,h1,h2,bT,eT⟩
theorem quo_bq {a b : Nat} {A B : List Rat} (hA : OvN a A) (hB : OvN b B) (h : lst B ≠ 0) : Bq (a + b) (lst A / lst B):=by
  obtain ⟨M,T,m0,bM,bT,eT⟩:=lst_ov hA
  obtain ⟨K,X,k0,bK,bX,eX⟩:=lst_ov hB
  have hK : (K : Rat) ≠ 0:=fun z => k0 (Rat.intCast_eq_zero_iff.mp z)
  have hM : (M : Rat) ≠ 0:=fun z => m0 (Rat.intCast_eq_zero_iff.mp z)
  have hX : X ≠ 0:=fun z => by
    rw [z] at eX
    rcases Rat.mul_eq_zero.mp eX with w | w
    · exact h w
    · exact hK w
  have hX' : (X : Rat) ≠ 0:=fun z => hX (Rat.intCast_eq_zero_iff.mp z)
  refine bq_of (T:=T * K) (M:=M * X) (Int.mul_ne_zero m0 hX) ?_ (bT.mul bK) (bM.mul bX)
  rw [Rat.intCast_mul,Rat.intCast_mul,← eT,← eX]
  generalize lst A = u at *
  generalize lst B = v at *
  generalize (M : Rat) = m at *
  generalize (K : Rat) = k at *
  grind
structure Fnd (c : Rat) (ls us gs ws : List Rat) : Prop where
  lg : gs.length = ws.length + 1
  lw : ws.length = ls.length
  pg : ∀ q ∈ gs,0 < q
  pw : ∀ q ∈ ws,0 < q
  hd : hdp gs ws ws.length = wths [c] us
  ls : lsp gs ws ws.length = wths [1] ls
  oh : ∀ k,k ≤ ws.length→OvN ((fbn 57 57 k).1 + 100) (hdp gs ws (ws.length - k))
  ol : ∀ k,k ≤ ws.length→OvN (fbn 57 57 k).2 (lsp gs ws (ws.length - k))
section
variable {c : Rat} {lo us gs ws : List Rat}
theorem lsp0 (gs ws : List Rat) : lsp gs ws 0 = [1]:=rfl
end
end Po
namespace Po
open PySem Ra Rq
noncomputable def jng (gs hs : List Rat) : List Rat:=gs.take (gs.length - 1) ++ [gs.getD (gs.length - 1) 0 + hs.getD 0 0] ++ hs.drop 1
theorem getD_take' {xs : List Rat} {i n : Nat} (h : i < n) : (xs.take n).getD i 0 = xs.getD i 0:=by
  rw [List.getD_eq_getElem?_getD,List.getElem?_take,if_pos h,← List.getD_eq_getElem?_getD]
noncomputable def Tur1 (a : Rat) : List Rat→List Rat→Prop
  | [l],[] => a < l
  | l :: ls,u :: us => a < l ∧ l < u ∧ Tur1 u ls us
  | _,_ => False
theorem Tur1.more : ∀ {ls us : List Rat} {a : Rat},Tur1 a ls us→∃ v,Turns a ls (us ++ [v]) ∧ (∀ x ∈ ls,x < v) ∧ a < v ∧ ls.length = us.length + 1
  | [l],[],a,h => ⟨l + 1,⟨h,by grind,trivial⟩,fun x hx => by rw [List.mem_singleton.mp hx]; grind,by have h' : a < l:=h; grind,rfl⟩
  | l :: m :: ls,u :: us,a,h => by
    obtain ⟨h1,h2,h3⟩:=h
    obtain ⟨v,t,b,c,d⟩:=Tur1.more (ls:=m :: ls) (us:=us) h3
    refine ⟨v,⟨h1,h2,t⟩,fun x hx => ?_,by grind,by rw [List.length_cons,d,List.length_cons]⟩
    rcases List.mem_cons.mp hx with z | z
    · rw [z]; grind
    · exact b x z
  | [l],u :: us,a,h => by
    obtain ⟨_,_,h3⟩:=h
    cases us <;> exact False.elim h3
  | [],[],_,h => False.elim h
  | [],_ :: _,_,h => False.elim h
  | _ :: _ :: _,[],_,h => False.elim h
theorem pu_app (x v : Rat) : ∀ us : List Rat,pu x (us ++ [v]) = pu x us * (1 - x / v)
  | [] => by show (1 - x / v) * 1 = 1 * (1 - x / v); grind
  | u :: us => by
    show (1 - x / u) * pu x (us ++ [v]) = (1 - x / u) * pu x us * (1 - x / v)
    rw [pu_app x v us]
    grind
noncomputable def sumL (A B : List Rat) : List Rat:=(List.range B.length).map fun i => A.getD i 0 + B.getD i 0
theorem ev_sumL {A B : List Rat} (h : A.length ≤ B.length) (t : Rat) : ev (sumL A B) t = ev A t + ev B t:=by
  unfold sumL
  rw [ev_range,ev_sm A t B.length h,ev_sm B t B.length (Nat.le_refl _),← sm_add]
  exact sm_congr fun i _ => by grind
theorem pts_odd {ls us : List Rat} {c : Rat} (h : Tur1 0 ls us) (hc : 0 < c) : Pts ls.length (-sgN ls.length) (sumL (wths [c] us) (wths [1] ls)) (wths [1] ls) ls:=by
  obtain ⟨v,tu,hv,v0,hl⟩:=h.more
  obtain ⟨m1,m2⟩:=tu.mem
  have ll : (wths [1] ls).length = ls.length + 1:=by rw [len_wths,List.length_singleton]; (first | lia | omega)
  have lu : (wths [c] us).length = us.length + 1:=by rw [len_wths,List.length_singleton]; (first | lia | omega)
  have ls0 : (sumL (wths [c] us) (wths [1] ls)).length = ls.length + 1:=by unfold sumL; rw [List.length_map,List.length_range,ll]
  have t1:=lst_wths ls [1] (by simp) m1 1 (by show (0 : Rat) < 1 * 1; grind)
  have e1 : lst (sumL (wths [c] us) (wths [1] ls)) = lst (wths [1] ls):=by
    rw [lst_at ls0,lst_at ll]
    unfold sumL
    rw [getD_range,if_pos (by (first | lia | omega)),getD_out (xs:=wths [c] us) (by (first | lia | omega))]
    grind
  have z : ∀ x ∈ ls,ev (wths [1] ls) x = 0:=fun x hx => by
    rw [ev_wths,pu_zero (fun z => by have:=m1 x hx; rw [z] at this; exact absurd this (by decide)) hx]
    grind
  refine ⟨ls0,ll,tu.nodup,rfl,m1,z,first_wths ls [1] (by simp),fun x hx => ?_,by grind,?_⟩
  · rw [ev_sumL (by (first | lia | omega)),z x hx,ev_wths]
    have p:=sg_at tu (Rat.le_refl) hx
    rw [pu_app] at p
    have q : 0 < 1 - x / v:=by
      rw [one_less v0]
      have:=hv x hx
      exact Rat.mul_pos (by grind) (inv_pos v0)
    have n : 0 < -sgN ls.length * (lam x ls * pu x us):=by
      have e : -sgN ls.length * (lam x ls * pu x us) = (-sgN ls.length * (lam x ls * (pu x us * (1 - x / v)))) / (1 - x / v):=by
        generalize 1 - x / v = y at *
        have : y ≠ 0:=fun z => by rw [z] at q; exact absurd q (by decide)
        grind
      rw [e]
      exact rdiv_pos p q
    have:=Rat.mul_pos n hc
    show 0 < -sgN ls.length * lam x ls * ((c + x * 0) * pu x us + 0)
    grind
  · rw [e1]
    exact same_sign (s:=1) (a:=sgN ls.length) t1 t1
theorem pst_congr {gs gs' ws ws' h l : List Rat} : ∀ {k : Nat},(∀ i,i ≤ k→gs.getD i 0 = gs'.getD i 0)→(∀ i,i < k→ws.getD i 0 = ws'.getD i 0)→pst gs ws h l k = pst gs' ws' h l k
  | 0,a,_ => by show (padd h (pscale l (gs.getD 0 0)),l) = _; rw [a 0 (Nat.le_refl 0)]; rfl
  | k + 1,a,b => by
    have ih:=pst_congr (h:=h) (l:=l) (k:=k) (fun i hi => a i (by (first | lia | omega))) (fun i hi => b i (by (first | lia | omega)))
    show (padd (pst gs ws h l k).1 (pscale (plean (pst gs ws h l k).2 (pst gs ws h l k).1 (ws.getD k 0)) (gs.getD (k + 1) 0)),plean (pst gs ws h l k).2 (pst gs ws h l k).1 (ws.getD k 0)) = _
    rw [ih,a (k + 1) (Nat.le_refl _),b k (by (first | lia | omega))]
    rfl
theorem half_odd {ls us : List Rat} {c : Rat} (h : Tur1 0 ls us) (hc : 0 < c) : ∃ (gs ws : List Rat) (w : Rat),gs.length = ws.length + 1 ∧ ws.length = us.length ∧ (∀ q ∈ gs,0 < q) ∧ (∀ q ∈ ws,0 < q) ∧ 0 < w ∧ w = -(lst (wths [1] ls) / lst (wths [c] us)) ∧ hdp gs ws ws.length = wths [c] us ∧ lsp gs ws ws.length = rst (wths [1] ls) (wths [c] us) ∧ lst (wths [c] us) ≠ 0 ∧ ∀ t,ev (lsp gs ws ws.length) t = ev (wths [1] ls) t + w * (t * ev (wths [c] us) t):=by
  obtain ⟨v,tu,hv,v0,hl⟩:=h.more
  obtain ⟨gs,ws,lg,lw,pg,pw,e1,e2⟩:=cord_of_pts (pts_odd h hc)
  have ll : (wths [1] ls).length = ls.length + 1:=by rw [len_wths,List.length_singleton]; (first | lia | omega)
  have lu : (wths [c] us).length = us.length + 1:=by rw [len_wths,List.length_singleton]; (first | lia | omega)
  have hlen : gs.length = ws.length + 1:=by (first | lia | omega)
  rw [hl] at e1 e2
  have hk : us.length + 1 ≤ ws.length:=by (first | lia | omega)
  have z1:=rst_hd pg pw hlen hk
  have z2:=rst_ls pg pw hlen hk
  have ls0 : (sumL (wths [c] us) (wths [1] ls)).length = us.length + 1 + 1:=by unfold sumL; rw [List.length_map,List.length_range,ll]; (first | lia | omega)
  have eU : hdp gs ws us.length = wths [c] us:=by
    rw [← z1,e1,e2]
    have hz : lst (wths [1] ls) ≠ 0:=by
      have:=ls_ne pg pw hlen hk
      rw [e2] at this
      rw [lst_at (show (wths [1] ls).length = us.length + 1 + 1 by (first | lia | omega))]
      exact this
    refine list_ext (by rw [rst_len,ls0,lu]; (first | lia | omega)) fun i _ => ev_inj (fun t => ?_) i
    rw [ev_rst_eq (N:=us.length + 1) ls0 (by (first | lia | omega)) hz,ev_sumL (by (first | lia | omega))]
    have : lst (sumL (wths [c] us) (wths [1] ls)) = lst (wths [1] ls):=by
      rw [lst_at ls0,lst_at (show (wths [1] ls).length = us.length + 1 + 1 by (first | lia | omega))]
      unfold sumL
      rw [getD_range,if_pos (by (first | lia | omega)),getD_out (xs:=wths [c] us) (by (first | lia | omega))]
      grind
    rw [this]
    generalize lst (wths [1] ls) = y at *
    grind
  have hzU : lst (wths [c] us) ≠ 0:=by
    have:=hd_ne pg pw hlen (show us.length ≤ ws.length by (first | lia | omega))
    rw [eU] at this
    rw [lst_at lu]
    exact this
  have eL : lsp gs ws us.length = rst (wths [1] ls) (wths [c] us):=by rw [← z2,e2,eU]
  have ew:=quo_ls pg pw hlen hk
  rw [e2,eU] at ew
  have g1 : ∀ i,i ≤ us.length→(gs.take (us.length + 1)).getD i 0 = gs.getD i 0:=fun i hi => getD_take' (by (first | lia | omega))
  have g2 : ∀ i,i < us.length→(ws.take us.length).getD i 0 = ws.getD i 0:=fun i hi => getD_take' hi
  have lw' : (ws.take us.length).length = us.length:=by rw [List.length_take]; (first | lia | omega)
  have pc:=pst_congr (h:=[]) (l:=[1]) (k:=us.length) g1 g2
  refine ⟨gs.take (us.length + 1),ws.take us.length,ws.getD us.length 0,by rw [lw',List.length_take]; (first | lia | omega),lw',fun q hq => pg q (List.mem_of_mem_take hq),fun q hq => pw q (List.mem_of_mem_take hq),getD_pos pw (by (first | lia | omega)),by rw [ew]; grind,?_,?_,hzU,fun t => ?_⟩
  · rw [lw']; unfold hdp; rw [pc]; exact eU
  · rw [lw']; unfold lsp; rw [pc]; exact eL
  · have : lsp (gs.take (us.length + 1)) (ws.take us.length) (ws.take us.length).length = rst (wths [1] ls) (wths [c] us):=by rw [lw']; unfold lsp; rw [pc]; exact eL
    rw [this,ev_rst_sh (N:=us.length) (by (first | lia | omega)) lu hzU,ew]
    grind
theorem stp_ev (gs ws : List Rat) (t : Rat) (j : Nat) : (stp gs ws t 0 1 j).1 = ev (hdp gs ws j) t ∧ (stp gs ws t 0 1 j).2 = ev (lsp gs ws j) t:=by
  have a:=ev_pst gs ws [] [1] t j
  have z : ev ([1] : List Rat) t = 1:=by show (1 : Rat) + t * 0 = 1; grind
  rw [z] at a
  exact ⟨a.1.symm,a.2.symm⟩
structure EvC (c : Rat) (ls us G W : List Rat) : Prop where
  lg : G.length = W.length + 1
  lw : W.length = ls.length + us.length
  pg : ∀ q ∈ G,0 < q
  pw : ∀ q ∈ W,0 < q
  rg : G.reverse = G
  rw : W.reverse = W
  tot : (stp G W 0 0 1 W.length).1 = c
  hu : ∀ x ∈ us,x ≠ 0→stp G W x 0 1 W.length = (0,1)
  hl : ∀ x ∈ ls,x ≠ 0→stp G W x 0 1 W.length = (0,-1)
  bg : ∀ q ∈ G,Bq 262 q
  bw : ∀ q ∈ W,Bq 406 q
noncomputable def mirG (gs : List Rat) : List Rat:=gs.take (gs.length - 1) ++ [gs.getD (gs.length - 1) 0 * 2] ++ (gs.take (gs.length - 1)).reverse
structure HalfG (c : Rat) (ls us gs ws : List Rat) : Prop where
  lg : gs.length = ws.length + 1
  lw : ws.length = us.length
  pg : ∀ q ∈ gs,0 < q
  pw : ∀ q ∈ ws,0 < q
  hd : hdp gs ws ws.length = wths [c / 2] us
  lo : lsp gs ws ws.length = wths [1] ls
  oh : ∀ j,j ≤ ws.length→OvN 300 (hdp gs ws j)
  ol : ∀ j,j ≤ ws.length→OvN 300 (lsp gs ws j)
  ev : EvC c ls us (mirG gs) (ws ++ ws.reverse)
structure HalfB (c : Rat) (ls us gs ws : List Rat) (w : Rat) : Prop where
  lg : gs.length = ws.length + 1
  lw : ws.length = us.length
  pg : ∀ q ∈ gs,0 < q
  pw : ∀ q ∈ ws,0 < q
  wq : w = -(lst (wths [1] ls) / lst (wths [c / 2] us))
  bw : Bq 144 w
  hd : hdp gs ws ws.length = wths [c / 2] us
  lo : ∀ t,Po.ev (lsp gs ws ws.length) t = Po.ev (wths [1] ls) t + w * (t * Po.ev (wths [c / 2] us) t)
  oh : ∀ j,j ≤ ws.length→OvN 300 (hdp gs ws j)
  ol : ∀ j,j ≤ ws.length→OvN 300 (lsp gs ws j)
  ev : EvC c ls us (gs ++ gs.reverse) (ws ++ [w * 2] ++ ws.reverse)
end Po
namespace Po
open PySem Ra Rq
noncomputable def ggs : Nat→List (Nat × Nat)
  | 0 => [(1,8388608),(3,1048576),(69,2097152),(253,1048576),(5313,4194304),(5313,1048576),(33649,2097152),(43263,1048576),(735471,8388608),(81719,524288),(245157,1048576),(156009,524288),(676039,4194304)]
  | 1 => [(1,192937985),(67108864,453174784310641),(33554432,16276635023191),(738197504,39529790459261),(1291845632,10404062575825),(5167382528,7962204009575),(234881024,84102178189),(67108864,6554881573),(46137344,1410328789),(369098752,4033909855),(184549376,851549125),(33554432,84504875),(4194304,16900975)]
  | 2 => [(1,2323644416),(975,67676143616),(22425,94306828288),(82225,31772901376),(69069,3292528640),(69069,508559360),(10935925,14849933312),(14060475,4056940544),(239028075,16450060288),(1062347,19398656),(187473,1048576),(229425,524288),(1300075,4194304)]
  | 3 => [(1,19486736385),(2617245696,1317177481018679551),(1308622848,34193513629703693),(9596567552,19558021174640017),(50381979648,10646274774411275),(15502147584,420940604854925),(234881024,968624681961),(872415232,623148360793),(599785472,82357723133),(4798283776,138737577915),(2399141888,16525253325),(33554432,74104275),(4194304,11700675)]
  | _ => [(1,127733334016),(20475,59028766982144),(36225,4706174763008),(5175,45190479872),(2691,2084569088),(2691,227540992),(426075,4615831552),(142025,223346688),(1300075,327155712),(156009,6815744),(869193,7340032),(1671525,3670016),(1671525,4194304)]
noncomputable def gws : Nat→List (Nat × Nat)
  | 0 => [(2097152,3),(2097152,69),(2097152,759),(2097152,5313),(2097152,26565),(2097152,100947),(2097152,302841),(2097152,735471),(1048576,735471),(1048576,1225785),(1048576,1716099),(1048576,2028117)]
  | 1 => [(1489002642234409,100663296),(17989927939149,33554432),(44179528996607,1107296256),(35369420390903,7751073792),(1836239048625,2583691264),(1090272436637,7751073792),(71362842463,2113929216),(3506257701,369098752),(5105513389,1660944384),(637445345,553648128),(97505625,184549376),(16900975,50331648)]
  | 2 => [(160912375808,975),(113852284928,22425),(78116814848,246675),(51692699648,1726725),(262144000,69069),(19732103168,32807775),(11175723008,98423325),(5890899968,239028075),(1435500544,239028075),(5242880,3187041),(17825792,32807775),(1048576,3900225)]
  | 3 => [(1687701755282146081,1308622848),(44695629299293127,1308622848),(26159076237980687,14394851328),(14622694960164047,100763959296),(1550236353572875,100763959296),(15640962382721,7751073792),(953105814727,3053453312),(263624372221,4798283776),(25729011709,2399141888),(5541551115,2399141888),(1407981225,2399141888),(3900225,16777216)]
  | _ => [(486248869265408,61425),(28663472979968,156975),(10045016244224,1195425),(116289175552,201825),(513802240,9867),(22168993792,3834675),(10571743232,14060475),(1868562432,16900975),(2303721472,128707425),(57671680,18253053),(51380224,79676025),(1048576,5014575)]
noncomputable def hgs : Nat→List (Nat × Nat)
  | 0 => [(1,2048),(3,512),(33,1024),(55,512),(495,2048),(99,256),(231,1024)]
  | 1 => [(256,1934855),(335616,173749979),(922944,67971865),(27968,454155),(437,2210),(4807,11050),(4807,16575)]
  | 2 => [(1,22529),(8192,10656217),(4096,621049),(8192,216645),(1024,6435),(4096,9009),(1024,3003)]
  | 3 => [(32,1870797),(3712800,10748975963),(26520,7532569),(1768,72105),(3094,24035),(2210,4807),(5525,14421)]
  | _ => [(1,137216),(273,1612288),(3003,1491968),(5005,301568),(4095,38912),(117,256),(429,1024)]
noncomputable def hws : Nat→List (Nat × Nat)
  | 0 => [(512,3),(512,33),(512,165),(512,495),(256,495),(256,693)]
  | 1 => [(677586221,1174656),(311876747,7383552),(20739745,3230304),(85085,55936),(17680,33649),(5525,19228)]
  | 2 => [(39042757,24576),(793221,8192),(1458743,122880),(17875,8192),(11583,20480),(1001,4096)]
  | 3 => [(889875773,232050),(11803535623,59404800),(67298,3315),(600875,198016),(4807,7735),(4807,22100)]
  | _ => [(2298368,273),(1131008,3003),(492032,15015),(184832,45045),(2816,4095),(256,1287)]
noncomputable def rqs (xs : List (Nat × Nat)) : List Rat:=xs.map fun x => mkRat x.1 x.2
noncomputable def gls (o : Nat) : List Rat:=(List.range 12).map fun k => ((1 + o + 2 * k : Nat) : Rat)
noncomputable def gus (o : Nat) : List Rat:=(List.range 12).map fun k => ((2 + o + 2 * k : Nat) : Rat)
noncomputable def hls (o : Nat) : List Rat:=(List.range 6).map fun k => ((2 + o + 4 * k : Nat) : Rat)
noncomputable def hus (o : Nat) : List Rat:=(List.range 6).map fun k => ((4 + o + 4 * k : Nat) : Rat)
structure Cd (c : Rat) (ls us gs ws : List Rat) : Prop where
  lg : gs.length = ws.length + 1
  lw : ws.length = ls.length
  pg : ∀ q ∈ gs,0 < q
  pw : ∀ q ∈ ws,0 < q
  hd : hdp gs ws ws.length = wths [c] us
  lo : lsp gs ws ws.length = wths [1] ls
  oh : ∀ j,j ≤ ws.length→OvN 2100 (hdp gs ws j)
  ol : ∀ j,j ≤ ws.length→OvN 2100 (lsp gs ws j)
  bh : OvN 1300 (wths [c] us)
  bl : OvN 1300 (wths [1] ls)
theorem ov1 : OvN 1 ([1] : List Rat):=⟨1,by decide,(by show (1 : Nat) < 2 ^ 1; decide),fun q hq => by
    rw [List.mem_singleton.mp hq]
    exact ⟨1,(by show (1 : Nat) < 2 ^ 1; decide),by decide +kernel⟩⟩
theorem ovc {n : Nat} {c : Rat} (bc : Bq n c) : OvN n ([c] : List Rat):=⟨c.den,by have:=den_pos c; (first | lia | omega),bc.2,fun q hq => by
    rw [List.mem_singleton.mp hq]
    exact ov_self bc⟩
theorem cd_of {gs ws us ls : List Rat} {c : Rat} (hlen : gs.length = ws.length + 1) (lw : ws.length = ls.length) (lu : us.length = ls.length) (pg : ∀ q ∈ gs,0 < q) (pw : ∀ q ∈ ws,0 < q) (e1 : hdp gs ws ws.length = wths [1] us) (e2 : lsp gs ws ws.length = wths [1] ls) (hc : 0 < c) (bc : Bq 10 c) (oh : ∀ j,j ≤ ws.length→OvN 2090 (hdp gs ws j)) (ol : ∀ j,j ≤ ws.length→OvN 2100 (lsp gs ws j)) (bu : ∀ u ∈ us,u ≠ 0 ∧ Bq 24 u) (bl : ∀ u ∈ ls,u ≠ 0 ∧ Bq 24 u) (n : ls.length ≤ 12) : ∃ gs ws,Cd c ls us gs ws:=by
  have hc0 : c ≠ 0:=fun z => by rw [z] at hc; exact absurd hc (by decide)
  have pg' : ∀ q ∈ gs.map (· * c),0 < q:=fun q hq => by
    obtain ⟨x,hx,rfl⟩:=List.mem_map.mp hq
    exact Rat.mul_pos (pg x hx) hc
  have pw' : ∀ q ∈ ws.map (· / c),0 < q:=fun q hq => by
    obtain ⟨x,hx,rfl⟩:=List.mem_map.mp hq
    exact rdiv_pos (pw x hx) hc
  have hw' : (ws.map (· / c)).length = ws.length:=List.length_map _
  have hlen' : (gs.map (· * c)).length = (ws.map (· / c)).length + 1:=by rw [List.length_map,hw']; exact hlen
  have st:=fun t k => stp_sc gs ws hc0 t k
  have eh : ∀ j t,ev (hdp (gs.map (· * c)) (ws.map (· / c)) j) t = ev (hdp gs ws j) t * c:=fun j t => by
    rw [← (stp_ev _ _ t j).1,← (stp_ev gs ws t j).1,st t j]
  have el : ∀ j t,ev (lsp (gs.map (· * c)) (ws.map (· / c)) j) t = ev (lsp gs ws j) t:=fun j t => by
    rw [← (stp_ev _ _ t j).2,← (stp_ev gs ws t j).2,st t j]
  have gh : ∀ j i,(hdp (gs.map (· * c)) (ws.map (· / c)) j).getD i 0 = (hdp gs ws j).getD i 0 * c:=fun j i => by
    rw [← getD_pscale]
    exact ev_inj (fun t => by rw [eh,ev_pscale]) i
  have ll : ∀ j,j ≤ ws.length→lsp (gs.map (· * c)) (ws.map (· / c)) j = lsp gs ws j:=fun j hj =>
    list_ext (by rw [ls_len pg' pw' hlen' (by (first | lia | omega)),ls_len pg pw hlen hj]) fun i _ => ev_inj (el j) i
  refine ⟨gs.map (· * c),ws.map (· / c),hlen',by rw [hw',lw],pg',pw',?_,?_,fun k hk => ?_,fun k hk => ?_,?_,?_⟩
  · refine list_ext (by rw [hd_len pg' pw' hlen' (Nat.le_refl _),hw',len_wths,List.length_singleton]; (first | lia | omega)) fun i _ => ev_inj (fun t => ?_) i
    rw [eh,hw',e1,ev_wths,ev_wths]
    show (1 + t * 0) * pu t us * c = (c + t * 0) * pu t us
    grind
  · rw [hw',ll _ (Nat.le_refl _),e2]
  · rw [hw'] at hk
    exact ovN_scale (oh k hk) bc (gh _)
  · rw [hw'] at hk
    rw [ll _ hk]
    exact ol k hk
  · exact (wths_ovN (ovc bc) bu).mono (by (first | lia | omega))
  · exact (wths_ovN ov1 bl).mono (by (first | lia | omega))
theorem fb76 {k : Nat} (h : k ≤ 3) : (fbn 76 76 k).1 ≤ 2090 ∧ (fbn 76 76 k).2 ≤ 2100:=by
  match k,h with
  | 0,_ => decide
  | 1,_ => decide
  | 2,_ => decide
  | 3,_ => decide
theorem cd_small {ls us : List Rat} {c : Rat} (h : Turns 0 ls us) (hc : 0 < c) (bl : ∀ q ∈ ls,Bq 24 q) (bu : ∀ q ∈ us,Bq 24 q) (bc : Bq 10 c) (n3 : ls.length ≤ 3) : ∃ gs ws,Cd c ls us gs ws:=by
  obtain ⟨gs,ws,lg,lw,pg,pw,e1,e2⟩:=cord_of_worths (c:=1) h (by decide)
  have hl:=h.len
  obtain ⟨m1,m2⟩:=h.mem
  have hlen : gs.length = ws.length + 1:=by (first | lia | omega)
  have bu' : ∀ u ∈ us,u ≠ 0 ∧ Bq 24 u:=fun u hu => ⟨fun z => by have:=m2 u hu; rw [z] at this; exact absurd this (by decide),bu u hu⟩
  have bl' : ∀ u ∈ ls,u ≠ 0 ∧ Bq 24 u:=fun u hu => ⟨fun z => by have:=m1 u hu; rw [z] at this; exact absurd this (by decide),bl u hu⟩
  rw [← lw] at e1 e2
  have oU : OvN 76 (hdp gs ws ws.length):=by
    rw [e1]
    exact (wths_ovN ov1 bu').mono (by (first | lia | omega))
  have oL : OvN 76 (lsp gs ws ws.length):=by
    rw [e2]
    exact (wths_ovN ov1 bl').mono (by (first | lia | omega))
  have ov:=lad_ovN pg pw hlen oU oL
  refine cd_of hlen lw hl pg pw e1 e2 hc bc (fun j hj => ?_) (fun j hj => ?_) bu' bl' (by (first | lia | omega))
  · have:=(ov (ws.length - j) (by (first | lia | omega))).1
    rw [show ws.length - (ws.length - j) = j by (first | lia | omega)] at this
    exact this.mono (fb76 (by (first | lia | omega))).1
  · have:=(ov (ws.length - j) (by (first | lia | omega))).2
    rw [show ws.length - (ws.length - j) = j by (first | lia | omega)] at this
    exact this.mono (fb76 (by (first | lia | omega))).2
noncomputable def Rek (gs ws ls us : List Rat) : Prop:=gs.length = ws.length + 1 ∧ ws.length = ls.length ∧ us.length = ls.length ∧ (∀ q ∈ gs,0 < q) ∧ (∀ q ∈ ws,0 < q) ∧ hdp gs ws ws.length = wths [1] us ∧ lsp gs ws ws.length = wths [1] ls ∧ (∀ q ∈ gs,q.num.natAbs < 2 ^ 61 ∧ q.den < 2 ^ 61) ∧ (∀ q ∈ ws,q.num.natAbs < 2 ^ 61 ∧ q.den < 2 ^ 61) ∧ (∀ u ∈ us,u ≠ 0 ∧ u.num.natAbs < 2 ^ 24 ∧ u.den < 2 ^ 24) ∧ (∀ u ∈ ls,u ≠ 0 ∧ u.num.natAbs < 2 ^ 24 ∧ u.den < 2 ^ 24) ∧ ls.length ≤ 12
theorem Rek.cd {gs ws ls us : List Rat} (h : Rek gs ws ls us) {c : Rat} (hc : 0 < c) (bc : Bq 10 c) : ∃ gs ws,Cd c ls us gs ws:=by
  obtain ⟨h1,h2,h3,h4,h5,h6,h7,h8,h9,h10,h11,h12⟩:=h
  have key : ∀ j,j ≤ ws.length→∃ M,O2 ((2 * 61 + 2) * (j + 1)) (pst gs ws [] [1] j).1 (pst gs ws [] [1] j).2 M:=fun j _ => pst_o2 (by decide) h8 h9 (by simp) (by simp) j
  refine cd_of h1 h2 h3 h4 h5 h6 h7 hc bc (fun j hj => ?_) (fun j hj => ?_) h10 h11 h12
  · obtain ⟨M,o⟩:=key j hj
    exact OvN.mono (m:=(2 * 61 + 2) * (j + 1)) ⟨M,o.ne,o.bm,o.oh⟩ (by (first | lia | omega))
  · obtain ⟨M,o⟩:=key j hj
    exact OvN.mono (m:=(2 * 61 + 2) * (j + 1)) ⟨M,o.ne,o.bm,o.ol⟩ (by (first | lia | omega))
theorem rek12 : ∀ o,o < 5→Rek (rqs (ggs o)) (rqs (gws o)) (gls o) (gus o):=by unfold Rek; decide +kernel
theorem rek6 : ∀ o,o < 5→Rek (rqs (hgs o)) (rqs (hws o)) (hls o) (hus o):=by unfold Rek; decide +kernel
theorem cd_great {o : Nat} (ho : o < 5) {c : Rat} (hc : 0 < c) (bc : Bq 10 c) : ∃ gs ws,Cd c (gls o) (gus o) gs ws:=(rek12 o ho).cd hc bc
theorem cd_half {o : Nat} (ho : o < 5) {c : Rat} (hc : 0 < c) (bc : Bq 10 c) : ∃ gs ws,Cd c (hls o) (hus o) gs ws:=(rek6 o ho).cd hc bc
structure Bd (c : Rat) (ls us gs ws : List Rat) (w : Rat) : Prop where
  lg : gs.length = ws.length + 1
  lw : ws.length = us.length
  pg : ∀ q ∈ gs,0 < q
  pw : ∀ q ∈ ws,0 < q
  w0 : 0 < w
  wq : w = -(lst (wths [1] ls) / lst (wths [c] us))
  bw : Bq 144 w
  hd : hdp gs ws ws.length = wths [c] us
  lo : ∀ t,Po.ev (lsp gs ws ws.length) t = Po.ev (wths [1] ls) t + w * (t * Po.ev (wths [c] us) t)
  oh : ∀ j,j ≤ ws.length→OvN 300 (hdp gs ws j)
  ol : ∀ j,j ≤ ws.length→OvN 300 (lsp gs ws j)
  bl : OvN 1300 (wths [1] ls)
theorem bd_small {ls us : List Rat} {c : Rat} (h : Tur1 0 ls us) (hc : 0 < c) (bl : ∀ q ∈ ls,Bq 24 q) (bu : ∀ q ∈ us,Bq 24 q) (bc : Bq 10 c) (n1 : us.length ≤ 1) : ∃ gs ws w,Bd c ls us gs ws w:=by
  obtain ⟨v,tu,hv,v0,hl⟩:=h.more
  obtain ⟨m1,m2⟩:=tu.mem
  obtain ⟨gs,ws,w,lg,lw,pg,pw,w0,wq,e1,e2,hzU,eL⟩:=half_odd h hc
  have hk : ws.length ≤ 1:=by (first | lia | omega)
  have oU : OvN 35 (wths [c] us):=(wths_ovN (us:=us) (ovc bc) fun u hu => ⟨fun z => by have:=m2 u (List.mem_append_left _ hu); rw [z] at this; exact absurd this (by decide),bu u hu⟩).mono (by (first | lia | omega))
  have oL : OvN 51 (wths [1] ls):=(wths_ovN (us:=ls) ov1 fun u hu => ⟨fun z => by have:=m1 u hu; rw [z] at this; exact absurd this (by decide),bl u hu⟩).mono (by (first | lia | omega))
  have oL2 : OvN 87 (lsp gs ws ws.length):=by rw [e2]; exact (rst_ovN oL oU hzU).mono (by decide)
  have oU2 : OvN 35 (hdp gs ws ws.length):=by rw [e1]; exact oU
  have ov:=lad_ovN pg pw lg oU2 oL2
  have fbl : ∀ k,k ≤ 1→(fbn 35 87 k).1 ≤ 300:=fun k hk => by
    match k,hk with
    | 0,_ => decide
    | 1,_ => decide
  have bww : Bq 144 w:=by
    have:=(quo_bq oL oU hzU).neg
    rw [← wq] at this
    exact this.mono (by decide)
  refine ⟨gs,ws,w,lg,lw,pg,pw,w0,wq,bww,e1,eL,fun j hj => ?_,fun j hj => ?_,oL.mono (by decide)⟩
  · have:=(ov (ws.length - j) (by (first | lia | omega))).1
    rw [show ws.length - (ws.length - j) = j by (first | lia | omega)] at this
    exact this.mono (fbl _ (by (first | lia | omega)))
  · by_cases c0 : j = ws.length
    · rw [c0]; exact oL2.mono (by decide)
    · rw [show j = 0 by (first | lia | omega),lsp0]
      exact ov1.mono (by decide)
end Po
namespace L2
open PySem PySem.Spec PyProof.Rows
noncomputable def Itd (hi : Int) (n : Nat) : It:=⟨fun i _ => i < n,fun i H x H' => H' = H ∧ x = .int (hi - i),fun i _ => n ≤ i⟩
section
variable {X : Cx} {tg : Expr}
noncomputable def iRng3 (ta : TA) : TI:=fun σ H R => ta σ H fun vs H1 => ∃ i j : Int,vs = [.int i,.int j,.int (-1)] ∧ (-(2 ^ 62) ≤ i ∧ i < 2 ^ 62 ∧ -(2 ^ 62) ≤ j ∧ j < 2 ^ 62) ∧ R (Itd i (i - j).toNat) H1
end
end L2
namespace L3
open PySem PySem.Spec PyProof.Rows L2 Ra
theorem log2_of {j : Int} (h : Bt 9000 j) : j.natAbs.log2 < 9000:=by
  by_cases h0 : j.natAbs = 0
  · rw [h0]; decide
  · exact (Nat.log2_lt h0).mpr h
theorem mul_of {i j : Int} {m n : Nat} (h : Bt m i) (k : Bt n j) (l : m + n ≤ 134217728) : IntMulOk i j :=
  PySem.IntMulOk.of_le (PySem.intBits_le_iff.mpr h) (PySem.intBits_le_iff.mpr k) l
section
variable {X : Cx} {a b c : Expr} {ta tb tc : TE} {pos : Pos}
theorem op_fdA : OpR X (binaryOp .FloorDiv) (rI (fun _ j => j ≠ 0 ∧ Bt 9000 j) fun i j => .int (i.fdiv j)) :=
  opI fun _ _ _ _ _ _ _ hc q => floordiv_int hc.1 q (.inl (PyProof.noPylong_of_log2 (log2_of hc.2)))
theorem op_fdP : OpR X (binaryOp .FloorDiv) (rI (fun _ j => 0 < j ∧ Bt 9000 j) fun i j => .int (i / j)):=opI fun i j _ _ _ _ _ hc q => by
  have h1 : (0 : Int) < j:=hc.1
  exact floordiv_int (by (first | lia | omega)) (by rw [Int.fdiv_eq_ediv_of_nonneg i (by (first | lia | omega))]; exact q) (.inl (PyProof.noPylong_of_log2 (log2_of hc.2)))
theorem op_mulB : OpR X (binaryOp .Mult) (rI IntMulOk fun i j => .int (i * j)):=opI fun _ _ _ _ _ _ _ hc q => mul_int q hc
theorem call_isi : CallR X (.builtin "isinstance") (fun xs H Q => ∃ x T t b,xs = [x,.ty T] ∧ TyOf X.K H x t ∧ PySem.W.kitOne X.K t (.type T) = some b ∧ Q (.bl b) H):=by
  intro pins s σ H xs us Q I r h
  obtain ⟨x,T,t,b,rfl,ty,e,q⟩:=h
  obtain ⟨u,w',rfl,rx,rt⟩:=vals2 r
  cases rt
  exact isinst_ok I rx ty e fun tk => ⟨.bl b,H,I.tok _,rfl,q⟩
end
theorem kit_int_int (K : PySem.W.Frag) : PySem.W.kitOne K (.type "int") (.type "int") = some true:=rfl
theorem kit_int_bool (K : PySem.W.Frag) : PySem.W.kitOne K (.type "int") (.type "bool") = some false:=by with_unfolding_all rfl
theorem kit_tup_tup (K : PySem.W.Frag) : PySem.W.kitOne K (.type "tuple") (.type "tuple") = some true:=rfl
section
variable {X : Cx} {K : PySem.W.Frag}
end
theorem iteD {c A B : Prop} [Decidable c] (h : c) (k : A) : if decide c = true then A else B:=by
  rw [decide_eq_true h]
  exact iteT k
theorem iteND {c A B : Prop} [Decidable c] (h : ¬ c) (k : B) : if decide c = true then A else B:=by
  rw [decide_eq_false h]
  exact iteF k
theorem iteNB {b : Bool} {A B : Prop} (h : b = true) (k : B) : if (!b) = true then A else B:=by
  rw [h]
  exact iteF k
structure Cal (P : Program) (w : World) (K : PySem.W.Frag) (mg : Str→Option Value) (base : Heap) (x : Str) (k : Nat) (ps : List Str) (sp : Sp) : Prop where
  ex : ∃ f fd,FnOk P w K mg base CX0 k f fd ps sp ∧ Binds K fd ps [] ∧ PySem.W.keepIn K (.ref f) = true ∧ mg x = some (.ref f)
theorem Cal.imp {P : Program} {w : World} {K : PySem.W.Frag} {mg : Str→Option Value} {base : Heap} {x : Str} {k : Nat} {ps : List Str} {sp sp' : Sp} (C : Cal P w K mg base x k ps sp) (h : ∀ {vs : List V} {H : Hp} {Q : VK} {E : XK},sp' vs H Q E→sp vs H Q E) : Cal P w K mg base x k ps sp':=by
  obtain ⟨f,fd,F,b,kp,m⟩:=C.ex
  exact ⟨f,fd,F.imp fun _ _ _ _ z => h z,b,kp,m⟩
theorem pe_cl {X : Cx} {x : Str} {k j : Nat} {ps : List Str} {sp : Sp} {e : Expr} {es : List Expr} {t : TA} {p pos : Pos} (C : Cal X.prog X.w X.K X.mg X.base x k ps sp) (hr : Room j X.A) (ha : PA X (e :: es) t) (hkj : k ≤ j:=by decide) (hg : Gl X x:=by rfl)
    (hdb : (x == ("__debug__" : Str)) = false:=by decide) (he : starEach (e :: es) X.env = (false,eval e X.env) :: starEach es X.env:=by rfl) (hpl : (backTo pos (starEach es X.env)).any (·.1) = false:=by rfl) :
    PE X (.Call (.Name x p) (e :: es) [] pos) (tCall sp [] E0 t):=by
  obtain ⟨f,fd,F,b,kp,m⟩:=C.ex
  exact pe_call F (hr.mono hkj) hg m kp b .nil pass0 ha hdb he hpl
theorem same_upd {H : Hp} {p : Addr} (h : H p = none) (o : HO) : Same H (upd H p o):=fun b u q => by rw [upd_ne (ne_of_none q h)]; exact q
noncomputable def Pr (H : Hp) (p : Addr) (x y : Int) : Prop:=H p = some (.tup [.int x,.int y])
theorem Pr.keep {H H' : Hp} {p : Addr} {x y : Int} (h : Pr H p x y) (s : Same H H') : Pr H' p x y:=s _ _ h
theorem Pr.sq {K : PySem.W.Frag} {H : Hp} {p : Addr} {x y : Int} (h : Pr H p x y) : SqT K H p [.int x,.int y]:=SqT.of h
theorem Pr.new {H : Hp} {p : Addr} {x y : Int} : Pr (upd H p (.tup [.int x,.int y])) p x y:=upd_same
noncomputable def cellA (ns : List Int) (k : Nat) : Int:=ns.getD k (2 * (k : Int) + 1)
noncomputable def mixed (c k : Int) : Int:=if c % 2 = 0 ∧ 10 ^ 18 < c then c / 2 else ((c / 2) % 10 ^ 60 + k * k) * 6364136223846793013 + (k + 1) * 1442695040888963407
noncomputable def signed (n : Int) : Int:=if n % 2 = 0 then n / 2 else -1 - n / 2
end L3
namespace L3
open PySem PySem.Spec PyProof.Rows L2 Ra
noncomputable def clo (sc : Scope) (env : Env) : List (Str × Addr):=((sc.names.filter fun y => y.2 == .free).map fun y => (y.1,(env.cells.lookup y.1).getD 0)).reverse
theorem clo_in {sc : Scope} {env : Env} {y : Str} {c : Addr} (h : (clo sc env).lookup y = some c) : (y,NameKind.free) ∈ sc.names ∧ c = (env.cells.lookup y).getD 0:=by
  have m : (y,c) ∈ clo sc env:=PySem.mem_of_lookup h
  unfold clo at m
  rw [List.mem_reverse,List.mem_map] at m
  obtain ⟨⟨n,k⟩,hm,e⟩:=m
  rw [List.mem_filter] at hm
  have hk : k = .free:=by simpa using hm.2
  subst hk
  cases e
  exact ⟨hm.1,rfl⟩
theorem lookup_some_of_mem {α : Type} {l : List (Str × α)} {y : Str} {c : α} (h : (y,c) ∈ l) : ∃ c',l.lookup y = some c':=by
  induction l with
  | nil => cases h
  | cons p r ih =>
    obtain ⟨n,v⟩:=p
    by_cases e : y = n
    · subst e
      exact ⟨v,by simp⟩
    · have hb : (y == n) = false:=by simpa using e
      rw [List.lookup_cons,hb]
      rcases List.mem_cons.mp h with z | z
      · cases z
        exact absurd rfl e
      · exact ih z
theorem clo_has {sc : Scope} {env : Env} {y : Str} (h : (y,NameKind.free) ∈ sc.names) : ∃ c,(clo sc env).lookup y = some c:=by
  refine lookup_some_of_mem (c:=(env.cells.lookup y).getD 0) ?_
  unfold clo
  rw [List.mem_reverse,List.mem_map]
  exact ⟨(y,.free),List.mem_filter.mpr ⟨h,by simp⟩,rfl⟩
theorem closure_aux {env : Env} : ∀ (ns : List (Str × NameKind)) (cs : List (Str × Addr)),(∀ y ∈ ns,y.2 = .free→∃ c,env.cells.lookup y.1 = some c) →
    (forIn ns cs fun x r => (match x with | (name,kind) => if kind == .free then do let c ← cellOf env name; pure (ForInStep.yield ((name,c) :: r)) else pure (ForInStep.yield r) : Sem (ForInStep (List (Str × Addr))))) =
      pure (((ns.filter fun y => y.2 == .free).map fun y => (y.1,(env.cells.lookup y.1).getD 0)).reverse ++ cs)
  | [],cs,_ => rfl
  | (n,k) :: r,cs,h => by
    have hr : ∀ y ∈ r,y.2 = .free→∃ c,env.cells.lookup y.1 = some c:=fun y hy => h y (List.mem_cons_of_mem _ hy)
    rw [List.forIn_cons]
    by_cases hk : k = .free
    · subst hk
      obtain ⟨c,hc⟩:=h (n,.free) List.mem_cons_self rfl
      have e : cellOf env n = pure c:=by unfold cellOf; rw [hc]
      have e2 : ((n,NameKind.free) :: r).filter (fun y => y.2 == .free) = (n,.free) :: r.filter fun y => y.2 == .free:=by simp
      simp only [beq_self_eq_true,if_true,e,pure_bind]
      rw [closure_aux r _ hr,e2]
      simp [hc]
    · have hb : (k == NameKind.free) = false:=by simpa using hk
      have e2 : ((n,k) :: r).filter (fun y => y.2 == .free) = r.filter fun y => y.2 == .free:=by simp [hk]
      simp only [hb,Bool.false_eq_true,if_false,pure_bind]
      rw [closure_aux r _ hr,e2]
theorem closure_of {sc : Scope} {env : Env} (h : ∀ y ∈ sc.names,y.2 = .free→∃ c,env.cells.lookup y.1 = some c) : closureFor sc env = pure (clo sc env):=by
  have q:=closure_aux sc.names [] h
  rw [List.append_nil] at q
  unfold closureFor clo
  simp only [pure_bind,bind_pure]
  exact q
theorem relabel_lookup {sc : Scope} {env : Env} {y : Str} {k : NameKind} (h : sc.names.lookup y = some k) :
    (relabel sc env).names.lookup y = some (if (k == .free && env.scope.kind == .function && env.kindOf y == some .cell) then .cell else k):=by
  unfold relabel
  show (sc.names.map _).lookup y = _
  generalize sc.names = ns at h
  induction ns with
  | nil => cases h
  | cons p r ih =>
    obtain ⟨n,v⟩:=p
    rw [List.map_cons]
    show List.lookup y ((if (v == .free && env.scope.kind == .function && env.kindOf n == some .cell) = true then (n,NameKind.cell) else (n,v)) :: r.map _) = _
    by_cases e : y = n
    · subst e
      have ev : v = k:=by simpa using h
      subst ev
      by_cases c : (v == .free && env.scope.kind == .function && env.kindOf y == some .cell) = true
      · rw [if_pos c,if_pos c]
        simp
      · rw [if_neg c,if_neg c]
        simp
    · have hb : (y == n) = false:=by simpa using e
      have h' : r.lookup y = some k:=by
        rw [List.lookup_cons,hb] at h
        exact h
      by_cases c : (v == .free && env.scope.kind == .function && env.kindOf n == some .cell) = true
      · rw [if_pos c]
        simp only [List.lookup_cons,hb]
        exact ih h'
      · rw [if_neg c]
        simp only [List.lookup_cons,hb]
        exact ih h'
theorem relabel_none {sc : Scope} {env : Env} {y : Str} (h : sc.names.lookup y = none) : (relabel sc env).names.lookup y = none:=by
  unfold relabel
  show (sc.names.map _).lookup y = _
  generalize sc.names = ns at h
  induction ns with
  | nil => rfl
  | cons p r ih =>
    obtain ⟨n,v⟩:=p
    rw [List.map_cons]
    show List.lookup y ((if (v == .free && env.scope.kind == .function && env.kindOf n == some .cell) = true then (n,NameKind.cell) else (n,v)) :: r.map _) = _
    by_cases e : y = n
    · subst e
      simp at h
    · have hb : (y == n) = false:=by simpa using e
      have h' : r.lookup y = none:=by
        rw [List.lookup_cons,hb] at h
        exact h
      by_cases c : (v == .free && env.scope.kind == .function && env.kindOf n == some .cell) = true
      · rw [if_pos c]
        simp only [List.lookup_cons,hb]
        exact ih h'
      · rw [if_neg c]
        simp only [List.lookup_cons,hb]
        exact ih h'
structure CompOk (fsc csc : Scope) (x : Str) (js : List Nat) (N N' : List Str) : Prop where
  eqN : N' = x :: js.map fun j => N.getD j x
  nd : N'.Nodup
  fr : ∀ y ∈ csc.names,y.2 = .free→fsc.names.lookup y.1 = some .cell
  cell : ∀ y ∈ csc.names,y.2 ≠ .cell
  kind : csc.kind = .function
  nm : ∀ y ∈ csc.names,y.2 = .local→csc.names.lookup y.1 = some .local
  xl : csc.names.lookup x = some .local
  js : ∀ j ∈ js,j < N.length ∧ csc.names.lookup (N.getD j x) = some .free
noncomputable def blk (X : Cx) (csc : Scope) (N' : List Str) (s₀ : Shared) (H₀ : Hp) (C : Addr) (ex : List Addr) : Cx :=
  { X with N:=N',s₀:=s₀,H₀:=H₀,env:=compEnvC csc (clo csc X.env) C X.env,outer:=X.stack,stack:=X.stack,ex:=ex,fn:=fun _ => false,pn:=[],xe:=fun _ _ => False }
noncomputable def CompAt (J : It) (te : Shared→Hp→Addr→List Addr→TE) (js : List Nat) (σ : L2.St) (Q : VK) (H1 : Hp) : Prop:=∀ D,H1 D = none→∃ W : Nat→Nat→List V→Hp→Prop,(∃ m,W 0 m [] (upd H1 D (.lst []))) ∧
  ∀ i m ys H,W i m ys H→H D = some (.lst ys) ∧ ((J.stop i H ∧ Q (.ref D) H) ∨ (J.go i H ∧ ∀ x H',J.yld i H x H'→∀ s₀ H₀ C ex,te s₀ H₀ C ex (some x :: js.map fun j => (σ[j]?).join) H' fun y H2 =>
    H2 D = some (.lst ys) ∧ ys.length < sizeLine ∧ ∃ m',m' < m ∧ W (i + 1) m' (ys ++ [y]) (upd H2 D (.lst (ys ++ [y])))))
noncomputable def tComp (wi : TI) (te : Shared→Hp→Addr→List Addr→TE) (js : List Nat) : TE:=fun σ H Q => wi σ H fun J H1 => CompAt J te js σ Q H1
theorem inv_but {X : Cx} {pins : List (Addr × Obj)} {σ : L2.St} {H : Hp} {s : Shared} {C : Addr} {h7 : Heap} (I : Inv X pins σ H s) (f : FpOk X pins H C) (sb : Heap.SameBut C s.heap h7) : Inv X pins σ H { s with heap:=h7 }:=by
  obtain ⟨g0,g1,g2,g3,g4,g5⟩:=f
  have hne : ∀ {b : Addr},b ∉ [C]→b ≠ C:=fun h z => h (by rw [z]; exact List.mem_cons_self)
  refine I.call' (ch:=[C]) (H':=H) rfl ⟨fun b o e _ _ hx => (sb.2 b (hne hx)).trans e,fun b o e _ _ hx => ⟨o.slots,(sb.2 b (hne hx)).trans e⟩,fun _ _ _ n _ => n,fun b o e hx => ⟨o,(sb.2 b (hne hx)).trans e⟩,fun _ _ q => q,fun _ _ _ q => q,fun _ ps q => ⟨#[],by rw [Array.append_empty]; exact q⟩⟩ ?_ I.bare fun b hb => ?_
  · intro b ob e
    refine (I.hok b ob e).stay (fun c w' hcc q => (sb.2 c ?_).trans q) (fun _ q => q) fun _ _ q => q
    rintro rfl
    rcases hcc with rfl | hcc
    · rw [g0] at e; cases e
    · rw [g0] at hcc; cases hcc
  · have e : b = C:=by simpa using hb
    subst e
    exact ⟨g3,g1,g4,g5⟩
theorem compLoop_gen {prog : Program} {w : World} {A : Around} {R : Result→Shared→Prop} {s : Shared} {elt target iter : Expr} {ifs : List Expr} {scope : Scope} {pos : Pos} {it acc : Value} {env : Env} (I : Nat→Shared→Prop)
    (turn : ∀ n s,I n s→wpAny (model prog w) A (pyNext it) (fun r s₁ => match r with
      | none => R (.ok .next) s₁
      | some v => wpAny (model prog w) A (letOwnedTupleGo target it v) (fun _ s₁' => wpAny (model prog w) A (assign target env v) (fun _ s₂ =>
          wpAny (model prog w) A (forIn ifs true fun c r => if r = true then do let ok ← isTrue c env (eval c env); pure (ForInStep.yield ok) else pure (ForInStep.yield r)) (fun ok s₃ =>
            if ok = true then wpAny (model prog w) A (eval elt env) (fun x s₄ =>
              wpAny (model prog w) A (call (.builtin "list.append") [acc,x]) (fun _ s₅ => ∃ m,m < n ∧ I m s₅) (notedBy (model prog w) A env fun e s' => R (.error e) s') s₄) (notedBy (model prog w) A env fun e s' => R (.error e) s') s₃
            else ∃ m,m < n ∧ I m s₃) (notedBy (model prog w) A env fun e s' => R (.error e) s') s₂) (notedBy (model prog w) A env fun e s' => R (.error e) s') s₁') (notedBy (model prog w) A env fun e s' => R (.error e) s') s₁) (notedBy (model prog w) A env fun e s' => R (.error e) s') s)
    (n : Nat) (h : I n s) : codeAny (model prog w) A (.compLoop (.ListComp elt [⟨target,iter,ifs,0⟩] scope pos) 0 it acc env) R s:=by
  refine codeAny_loop rfl I (fun n s hI => ?_) n h
  show wpAny _ A ((compTurn (.ListComp elt [⟨target,iter,ifs,0⟩] scope pos) 0 it acc env).onRaise (fun x => do noteFrame x env; theTreesLotGoes x)) _ _ s
  refine wpAny_noted ?_
  rw [compTurn_list]
  refine wpAny_bind (wpAny_standAt (wpAny_bind (wpAny_mono (turn n s hI) (fun r s₁ h₁ => ?_) fun _ _ h' => h')))
  cases r with
  | none => exact wpAny_pure h₁
  | some v =>
    refine wpAny_bind (wpAny_mono h₁ (fun _ s₁' h₁' => ?_) fun _ _ h' => h')
    refine wpAny_bind (wpAny_mono h₁' (fun _ s₂ h₂ => wpAny_bind (wpAny_mono h₂ (fun ok s₃ h₃ => ?_) fun _ _ h' => h')) fun _ _ h' => h')
    cases ok with
    | false => exact wpAny_pure ⟨rfl,h₃⟩
    | true =>
      exact wpAny_bind (wpAny_bind (wpAny_mono h₃ (fun x s₄ h₄ => wpAny_bind (wpAny_mono h₄ (fun _ s₅ h₅ => wpAny_pure (wpAny_pure ⟨rfl,h₅⟩)) fun _ _ h' => h')) fun _ _ h' => h'))
noncomputable def PTs (X : Cx) (ifs : List Expr) (t : TT) : Prop :=
  ∀ (pins : List (Addr × Obj)) (s : Shared) (σ : L2.St) (H : Hp) (Q : Bool→Hp→Prop),Inv X pins σ H s→t σ H Q →
    wpAny (model X.prog X.w) X.A (forIn ifs true fun c r => if r = true then do let ok ← isTrue c X.env (eval c X.env); pure (ForInStep.yield ok) else pure (ForInStep.yield r)) (TP X pins σ Q) X.xe s
noncomputable def tNoTest : TT:=fun _ H Q => Q true H
theorem pts_nil {X : Cx} : PTs X [] tNoTest:=fun _ _ _ H _ I h => wpAny_tests_nil ⟨H,I,h⟩
structure CompOkG (fsc csc : Scope) (xs : List Str) (js : List Nat) (N N' : List Str) : Prop where
  eqN : N' = xs ++ js.map fun j => N.getD j ""
  fr : ∀ y ∈ csc.names,y.2 = .free→fsc.names.lookup y.1 = some .cell
  cell : ∀ y ∈ csc.names,y.2 ≠ .cell
  kind : csc.kind = .function
  nm : ∀ y ∈ csc.names,y.2 = .local→csc.names.lookup y.1 = some .local
  js : ∀ j ∈ js,j < N.length ∧ csc.names.lookup (N.getD j "") = some .free
noncomputable def CompAtG (J : It) (tg : TG) (tt : Shared→Hp→Addr→List Addr→TT) (te : Shared→Hp→Addr→List Addr→TE) (nx : Nat) (js : List Nat) (σ : L2.St) (Q : VK) (H1 : Hp) : Prop:=∀ D,H1 D = none→∃ W : Nat→Nat→List V→Hp→Prop,(∃ m,W 0 m [] (upd H1 D (.lst []))) ∧
  ∀ i m ys H,W i m ys H→H D = some (.lst ys) ∧ ((J.stop i H ∧ Q (.ref D) H) ∨ (J.go i H ∧ ∀ x H',J.yld i H x H'→∀ s₀ H₀ C ex (σ0 : L2.St),σ0.length = nx→tg x (σ0 ++ js.map fun j => (σ[j]?).join) H' fun σ1 H2 =>
    (∃ σ0' : L2.St,σ1 = σ0' ++ (js.map fun j => (σ[j]?).join) ∧ σ0'.length = nx) ∧ tt s₀ H₀ C ex σ1 H2 fun b H3 => if b = true then te s₀ H₀ C ex σ1 H3 fun y H4 =>
      H4 D = some (.lst ys) ∧ ys.length < sizeLine ∧ ∃ m',m' < m ∧ W (i + 1) m' (ys ++ [y]) (upd H4 D (.lst (ys ++ [y])))
    else H3 D = some (.lst ys) ∧ ∃ m',m' < m ∧ W (i + 1) m' ys H3))
noncomputable def tCompG (wi : TI) (tg : TG) (tt : Shared→Hp→Addr→List Addr→TT) (te : Shared→Hp→Addr→List Addr→TE) (nx : Nat) (js : List Nat) : TE:=fun σ H Q => wi σ H fun J H1 => CompAtG J tg tt te nx js σ Q H1
theorem compG_core {X : Cx} {elt iter target : Expr} {ifs : List Expr} {pos pos' : Pos} {csc : Scope} {wi : TI} {tg : TG} {tt : Shared→Hp→Addr→List Addr→TT} {te : Shared→Hp→Addr→List Addr→TE} (xs : List Str) (js : List Nat) {N' : List Str} {fsc : Scope} {N : List Str} (ok : CompOkG fsc csc xs js N N') (hi : PI X target iter wi) (hg : ∀ s₀ H₀ C ex,PG (blk X csc N' s₀ H₀ C ex) target tg) (ht : ∀ s₀ H₀ C ex,PTs (blk X csc N' s₀ H₀ C ex) ifs (tt s₀ H₀ C ex))
    (he : ∀ s₀ H₀ C ex,PE (blk X csc N' s₀ H₀ C ex) elt (te s₀ H₀ C ex)) (hc : X.calm = true) (hsc : X.env.scope = fsc) (hXN : X.N = N) (hs : ∀ x,foldedSetIterable iter X.env x = pure x)
    (use : Option (Value→Sem Unit)) (R : Value→Shared→Prop) {pins : List (Addr × Obj)} {s : Shared} {σ : L2.St} {H : Hp} {Q : VK} (I : Inv X pins σ H s) (h : tCompG wi tg tt te xs.length js σ H Q)
    (hfin : ∀ (D C : Addr) (s6 : Shared) (H5 : Hp) (m6 : Str→Option Value) (r : Flow),Inv X pins σ H5 s6→FpOk X pins H5 C→s6.heap.Ns C m6→Q (.ref D) H5→compPost (model X.prog X.w) X.A X.xe use R (.ref D) C (.ok r) s6) :
    wpAny (model X.prog X.w) X.A (comprehension (.ListComp elt [⟨target,iter,ifs,0⟩] csc pos) csc X.env pos' (newList []) false (eval iter X.env) use) R X.xe s:=by
  have hkX : X.env.scope.kind = .function:=I.ok.kind
  have hfree : ∀ y ∈ csc.names,y.2 = .free→∃ c,X.env.cells.lookup y.1 = some c:=fun y hy hk => I.ok.has y.1 (.inl (by show X.env.scope.names.lookup y.1 = _; rw [hsc]; exact ok.fr y hy hk))
  have hcl : ∀ y c,(clo csc X.env).lookup y = some c→X.env.cells.lookup y = some c:=fun y c e => by
    obtain ⟨m,e2⟩:=clo_in e
    obtain ⟨c',e3⟩:=hfree _ m rfl
    rw [e3] at e2
    rw [e3,e2]
    rfl
  refine wpAny_comprehension_free (use:=use) rfl hs (closure_of hfree) ok.kind ok.nm ?_
  refine thn (hi pins s σ H _ I h) fun v s1 h1 => thn h1 fun itv s2 h2 => ?_
  obtain ⟨it,fp,tn,J,H2,e,I2,T,st2,f2,hw⟩:=h2
  subst e
  have hD : H2 s2.heap.objs.size = none:=I2.hok.fresh (Nat.le_refl _)
  obtain ⟨W,⟨m0,w0⟩,turn⟩:=hw _ hD
  refine wpAny_newObj_type ?_ (by show 0 ≤ sizeLine; decide)
  have I3 : Inv X pins σ (upd H2 s2.heap.objs.size (.lst [])) { s2 with heap:=s2.heap.push { cls:=.type "list",data:=.seq ([] : List Value).toArray } }:=I2.lnew (t':=s2.toks) .nil (by show 0 ≤ sizeLine; decide)
  generalize hs3 : ({ s2 with heap:=s2.heap.push { cls:=.type "list",data:=.seq ([] : List Value).toArray } } : Shared) = s3 at I3 ⊢
  have hsz : s3.heap.objs.size = s2.heap.objs.size + 1:=by rw [← hs3,Heap.size_push]
  generalize hDe : s2.heap.objs.size = D at *
  have tn3 : tn 0 s3.heap:=T.keep 0 s2.heap _ st2 fun b hb o e => by rw [← hs3]; exact Heap.get?_push_of_some _ e
  have fpD : ∀ b ∈ fp,b ≠ D:=fun b hb z => by
    obtain ⟨o,e,_⟩:=T.obj 0 _ st2 b hb
    rw [z,← hDe] at e
    exact absurd (Heap.lt_size e) (Nat.lt_irrefl _)
  have f3 : ∀ b ∈ fp,upd H2 D (.lst []) b = none:=fun b hb => by rw [upd_ne (fpD b hb)]; exact (f2 b hb).1
  refine wpAny_newFunctionEnv ok.cell (by intro y hy; simp at hy) (fun h4 hns hsb => ?_) ok.kind
  generalize hCe : s3.heap.objs.size = C at *
  have ltC : ∀ b o,s3.heap.get? b = some o→b < C:=fun b o e => by
    rw [← hCe]
    exact Heap.lt_size e
  have keep4 : ∀ b o,s3.heap.get? b = some o→h4.get? b = some o:=fun b o e => by
    rw [hsb.2 b (Nat.ne_of_lt (ltC b o e))]
    exact Heap.get?_push_of_some _ e
  have Xok : (blk X csc N' s3 (upd H2 D (.lst [])) C fp).Ok:=by
    refine ⟨I3.ok.mod,?_,I3.ok.glob,I3.ok.blt,?_,fun y z c h1 h2 => I3.ok.inj y z c (hcl y c h1) (hcl z c h2),fun y hy => ?_,fun y c h1 _ => ?_,I3.ok.hd,I3.ok.frames,.inl rfl,fun b hb => ?_,I3.bs,?_,fun b o e hb => ?_,fun b hb hz => ?_,I3.stack,I3.stkFree⟩
    · exact ok.kind
    · exact Nat.le_of_eq hCe
    · have hy' : (relabel csc X.env).names.lookup y = some .cell ∨ (relabel csc X.env).names.lookup y = some .free:=hy
      cases hk : csc.names.lookup y with
      | none =>
        rw [relabel_none hk] at hy'
        rcases hy' with z | z <;> cases z
      | some k =>
        have hm : (y,k) ∈ csc.names:=PySem.mem_of_lookup hk
        by_cases hkf : k = .free
        · subst hkf
          exact clo_has hm
        · have hb : (k == NameKind.free) = false:=by simpa using hkf
          rw [relabel_lookup hk] at hy'
          simp only [hb,Bool.false_and,Bool.false_eq_true,if_false] at hy'
          rcases hy' with z | z
          · exact absurd (Option.some.inj z) (ok.cell _ hm)
          · exact absurd (Option.some.inj z) hkf
    · exact absurd (show false = true from h1) Bool.false_ne_true
    · obtain ⟨g0,g1,g2,g3,g4,g5⟩:=f2 b hb
      refine ⟨fun z => ?_,fun y c e => g4 y c (hcl y c e)⟩
      obtain ⟨o,e,_⟩:=T.obj 0 _ tn3 b hb
      have z' : b = C:=z
      have l:=ltC b o e
      rw [z'] at l
      exact absurd l (Nat.lt_irrefl _)
    · exact Nat.le_trans I3.ok.bsz I3.sz
    · obtain ⟨g0,g1,g2,g3,g4,g5⟩:=f2 b hb
      rcases g3 with z | z
      · exact I3.ok.noex b o e z
      · exact absurd (Nat.lt_of_lt_of_le (Heap.lt_size e) (Nat.le_trans I3.ok.bsz z)) (Nat.lt_irrefl _)
    · obtain ⟨g0,g1,g2,g3,g4,g5⟩:=f2 b hb
      rcases List.mem_cons.mp (I3.stkSub b hz) with z | z
      · exact g1 z
      · exact g2 z
  have hfreeC : H2 C = none ∧ upd H2 D (.lst []) C = none:=by
    have q : upd H2 D (.lst []) C = none:=I3.hok.fresh (Nat.le_of_eq hCe)
    refine ⟨?_,q⟩
    rw [upd_ne (by rw [hsz]; exact Nat.succ_ne_self D)] at q
    exact q
  have I4 : Inv (blk X csc N' s3 (upd H2 D (.lst [])) C fp) [] (List.replicate xs.length none ++ js.map fun j => (σ[j]?).join) (upd H2 D (.lst [])) { s3 with heap:=h4,toks:=s3.toks + ([] : List (Str × Value)).length }:=by
    refine ⟨Xok,rfl,I3.bare,Un.kept keep4,⟨_,hns,fun i y v h1 h2 h3 => ?_⟩,fun y c e => ?_,hfreeC.2,fun y c e => I3.freeC y c (hcl y c e),fun p hp => absurd (show p ∈ ([] : List (Addr × Obj)) from hp) (by simp),I3.hok.kept keep4,?_⟩
    · have h1' : (xs ++ js.map fun j => N.getD j "")[i]? = some y:=by rw [← ok.eqN]; exact h1
      by_cases hi : i < xs.length
      · rw [List.getElem?_append_left (by rw [List.length_replicate]; exact hi),List.getElem?_replicate] at h2
        rw [if_pos hi] at h2
        cases h2
      · rw [List.getElem?_append_right (by (first | lia | omega)),List.getElem?_map] at h1'
        rw [List.getElem?_append_right (by rw [List.length_replicate]; (first | lia | omega)),List.length_replicate,List.getElem?_map] at h2
        cases ej : js[i - xs.length]? with
        | none => rw [ej] at h2; cases h2
        | some j =>
          rw [ej] at h1' h2
          obtain ⟨jl,jf⟩:=ok.js j (List.mem_of_getElem? ej)
          have ey : N.getD j "" = y:=Option.some.inj h1'
          have ev : (σ[j]?).join = some v:=Option.some.inj h2
          have ev' : σ[j]? = some (some v):=by
            cases q : σ[j]? with
            | none => rw [q] at ev; cases ev
            | some o => rw [q] at ev; rw [show o = some v from ev]
          have eN : X.N[j]? = some y:=by rw [hXN,← ey,List.getD_eq_getElem?_getD,List.getElem?_eq_getElem jl]; rfl
          rw [ey] at jf
          have kX : X.env.scope.names.lookup y = some .cell:=by rw [hsc]; exact ok.fr (y,.free) (PySem.mem_of_lookup jf) rfl
          obtain ⟨m3,n3,l3⟩:=I3.loc
          obtain ⟨u,ru,lk⟩:=l3 j y v eN ev' (.inr (.inl kX))
          refine ⟨u,ru,.inr ⟨?_,?_⟩⟩
          · left
            show (relabel csc X.env).names.lookup y = some .cell
            rw [relabel_lookup jf]
            have k2 : X.env.kindOf y = some .cell:=kX
            rw [hkX,k2]
            rfl
          · rcases lk with ⟨z,_⟩ | ⟨_,c,hc1,hc2⟩
            · have z' : X.env.scope.names.lookup y = some .local:=z
              rw [kX] at z'
              cases z'
            · obtain ⟨c',e'⟩:=clo_has (env:=X.env) (PySem.mem_of_lookup jf)
              have : c' = c:=by
                have q:=hcl y c' e'
                rw [hc1] at q
                exact (Option.some.inj q).symm
              subst this
              obtain ⟨oc,ho,hd⟩:=hc2
              exact ⟨c',e',oc,keep4 _ _ ho,hd⟩
    · obtain ⟨v,oc,ho,hd⟩:=I3.cell y c (hcl y c e)
      exact ⟨v,oc,keep4 _ _ ho,hd⟩
    · show (List.replicate xs.length none ++ js.map _).length = N'.length
      rw [ok.eqN]
      simp
  have stat : ∀ {H' : Hp},(∀ b ∈ fp,H' b = none)→∀ b ∈ fp,FpOk (blk X csc N' s3 (upd H2 D (.lst [])) C fp) [] H' b:=fun hn b hb => by
    obtain ⟨g0,g1,g2,g3,g4,g5⟩:=f2 b hb
    exact ⟨hn b hb,(Xok.exf b hb).1,Xok.exfs b hb,.inl hb,(Xok.exf b hb).2,fun p hp => absurd (show p ∈ ([] : List (Addr × Obj)) from hp) (by simp)⟩
  have loop : ∀ s' : Shared,Inv (blk X csc N' s3 (upd H2 D (.lst [])) C fp) [] (List.replicate xs.length none ++ js.map fun j => (σ[j]?).join) (upd H2 D (.lst [])) s'→tn 0 s'.heap →
      codeAny (model X.prog X.w) X.A (.compLoop (.ListComp elt [⟨target,iter,ifs,0⟩] csc pos) 0 (.ref it) (.ref D) (compEnvC csc (clo csc X.env) C X.env)) (compPost (model X.prog X.w) X.A X.xe use R (.ref D) C) s':=by
    rintro s' I' t0
    refine compLoop_gen (fun m s => ∃ i ys H',Inv (blk X csc N' s3 (upd H2 D (.lst [])) C fp) [] (List.replicate xs.length none ++ js.map fun j => (σ[j]?).join) H' s ∧ tn i s.heap ∧ (∀ b ∈ fp,H' b = none) ∧ W i m ys H') ?_ m0 ⟨0,[],_,I',t0,f3,w0⟩
    rintro m s5 ⟨i,ys,H5,I5,t5,fr5,w5⟩
    obtain ⟨hDl,tt'⟩:=turn i m ys H5 w5
    rcases tt' with ⟨stop,qn⟩ | ⟨go,step⟩
    · refine thn (T.done (blk X csc N' s3 (upd H2 D (.lst [])) C fp) rfl rfl rfl hc i [] s5 _ H5 _ I5 (stat fr5) t5 stop) fun r s6 ⟨hr,I6⟩ => ?_
      subst hr
      obtain ⟨m6,n6,_⟩:=I6.loc
      have I7 : Inv X pins σ H5 s6:=I3.call' (s':=s6) I6.os I6.base I6.hok I6.bare fun b hb => by
        obtain ⟨g0,g1,g2,g3,g4,g5⟩:=f2 b hb
        exact ⟨g3,g1,g4,g5⟩
      exact hfin D C s6 H5 m6 _ I7 (I3.fpOk (Nat.le_of_eq hCe) I6.free) n6 qn
    · refine thn (T.item (blk X csc N' s3 (upd H2 D (.lst [])) C fp) rfl rfl rfl hc i [] s5 _ H5 _ I5 (stat fr5) t5 go) fun r s6 ⟨u,hr,h6⟩ => ?_
      subst hr
      refine thn h6 fun _ s7 ⟨xv,H6,I6,rx,y6,t6,fr6⟩ => ?_
      have I6':=I6.pinned (stat fr6) (T.obj _ _ t6)
      have back : ∀ {H10 : Hp} {s10 : Shared} {σ1 σ0 : L2.St},σ1 = σ0 ++ (js.map fun j => (σ[j]?).join)→σ0.length = xs.length→Inv (blk X csc N' s3 (upd H2 D (.lst [])) C fp) ([] ++ pinsAt fp s7.heap) σ1 H10 s10 →
          Inv (blk X csc N' s3 (upd H2 D (.lst [])) C fp) [] (List.replicate xs.length none ++ js.map fun j => (σ[j]?).join) H10 s10 ∧ tn (i + 1) s10.heap ∧ ∀ b ∈ fp,H10 b = none:=by
        intro H10 s10 σ1 σ0 e1 e2 I10
        subst e1
        refine ⟨(Inv.unpinned (pins:=[]) I10).weak (by simp [e2]) fun k v hk => ?_,T.keep _ _ _ t6 fun b hb o e => (I10.pin (b,o) (List.mem_append_right _ (List.mem_append_right _ (mem_pinsAt hb e)))).1,fun b hb => ?_⟩
        · by_cases hk' : k < xs.length
          · rw [List.getElem?_append_left (by rw [List.length_replicate]; exact hk'),List.getElem?_replicate,if_pos hk'] at hk
            cases hk
          · rw [List.getElem?_append_right (by rw [List.length_replicate]; (first | lia | omega)),List.length_replicate] at hk
            rw [List.getElem?_append_right (by (first | lia | omega)),e2]
            exact hk
        · obtain ⟨o,e,d⟩:=T.obj _ _ t6 b hb
          exact (I10.pin (b,o) (List.mem_append_right _ (List.mem_append_right _ (mem_pinsAt hb e)))).2.1
      have st0:=step xv H6 y6 s3 (upd H2 D (.lst [])) C fp (List.replicate xs.length none) (List.length_replicate ..)
      refine wpAny_mono (hg s3 (upd H2 D (.lst [])) C fp _ s7 _ H6 xv u _ I6' rx st0) (fun _ s8 h8 => ?_) (fun _ _ z => False.elim z)
      obtain ⟨σ1,H8,I8,⟨σ0,e1,e2⟩,q8⟩:=h8
      refine wpAny_mono (ht s3 (upd H2 D (.lst [])) C fp _ s8 σ1 H8 _ I8 q8) (fun ok' s9 h9 => ?_) (fun _ _ z => False.elim z)
      obtain ⟨H9,I9,q9⟩:=h9
      cases ok' with
      | false =>
        have q9':=q9
        rw [if_neg Bool.false_ne_true] at q9'
        obtain ⟨hD9,m',hm',w9⟩:=q9'
        show if false = true then _ else _
        rw [if_neg Bool.false_ne_true]
        obtain ⟨I10,t10,f10⟩:=back e1 e2 I9
        exact ⟨m',hm',i + 1,ys,H9,I10,t10,f10,w9⟩
      | true =>
        have q9':=q9
        rw [if_pos rfl] at q9'
        show if true = true then _ else _
        rw [if_pos rfl]
        refine wpAny_mono (he s3 (upd H2 D (.lst [])) C fp _ s9 σ1 H9 _ I9 q9') (fun yv s10 h10 => ?_) (fun _ _ z => False.elim z)
        obtain ⟨y,H10,I10,ry,hD10,hlt,m',hm',w10⟩:=h10
        refine wpAny_mono (mt_append (X:=blk X csc N' s3 (upd H2 D (.lst [])) C fp) _ s10 _ H10 (.ref D) [y] (.ref D) [yv] (fun _ H11 => H11 = upd H10 D (.lst (ys ++ [y]))) I10 rfl (.cons ry .nil) ⟨D,ys,y,rfl,rfl,hD10,hlt,rfl⟩) (fun v11 s11 h11 => ?_) (fun _ _ z => False.elim z)
        obtain ⟨v12,H12,I12,r12,e12⟩:=h11
        subst e12
        obtain ⟨J1,J2,J3⟩:=back e1 e2 I12
        exact ⟨m',hm',i + 1,ys ++ [y],_,J1,J2,J3,w10⟩
  have tn4 : tn 0 h4:=T.keep 0 _ _ tn3 fun b _ o e => keep4 b o e
  exact codeAny_compStart_list (loop _ I4 tn4) (T.self X.A 0 _ _ _ tn4 (loop _ I4 tn4))
theorem pg_blk {X : Cx} {csc : Scope} {N' : List Str} {s₀ : Shared} {H₀ : Hp} {C : Addr} {ex : List Addr} {i : Nat} {x : Str} {px : Pos} (nd : N'.Nodup) (hi : N'[i]? = some x) (hl : csc.names.lookup x = some .local) : PG (blk X csc N' s₀ H₀ C ex) (.Name x px) (gName i) :=
  pg_name (X:=blk X csc N' s₀ H₀ C ex) nd hi (.inl (by
    show (relabel csc X.env).names.lookup x = some .local
    rw [relabel_lookup hl]
    rfl)) (.inr (by
    show (relabel csc X.env).names.lookup x = some .local
    rw [relabel_lookup hl]
    rfl))
theorem pi_mono {X : Cx} {tg iter : Expr} {wi : TI} (h : PI X tg iter wi) : PI X tg iter (fun σ H R => ∃ R' : It→Hp→Prop,wi σ H R' ∧ ∀ J H1,R' J H1→R J H1):=by
  intro pins s σ H R I hw
  obtain ⟨R',hw,hm⟩:=hw
  refine thn (h pins s σ H R' I hw) fun v s1 h1 => thn h1 fun itv s2 h2 => ?_
  obtain ⟨it,fp,tn,J,H2,e,I2,T,st2,f2,hr⟩:=h2
  exact ⟨it,fp,tn,J,H2,e,I2,T,st2,f2,hm J H2 hr⟩
theorem comp_core {X : Cx} {elt iter : Expr} {x : Str} {px pos pos' : Pos} {csc : Scope} {wi : TI} {te : Shared→Hp→Addr→List Addr→TE} (js : List Nat) {N' : List Str} {fsc : Scope} {N : List Str} (ok : CompOk fsc csc x js N N') (hi : PI X (.Name x px) iter wi)
    (he : ∀ s₀ H₀ C ex,PE (blk X csc N' s₀ H₀ C ex) elt (te s₀ H₀ C ex)) (hc : X.calm = true) (hsc : X.env.scope = fsc) (hXN : X.N = N) (hs : ∀ x,foldedSetIterable iter X.env x = pure x)
    (use : Option (Value→Sem Unit)) (R : Value→Shared→Prop) {pins : List (Addr × Obj)} {s : Shared} {σ : L2.St} {H : Hp} {Q : VK} (I : Inv X pins σ H s) (h : tComp wi te js σ H Q)
    (hfin : ∀ (D C : Addr) (s6 : Shared) (H5 : Hp) (m6 : Str→Option Value) (r : Flow),Inv X pins σ H5 s6→FpOk X pins H5 C→s6.heap.Ns C m6→Q (.ref D) H5→compPost (model X.prog X.w) X.A X.xe use R (.ref D) C (.ok r) s6) :
    wpAny (model X.prog X.w) X.A (comprehension (.ListComp elt [⟨.Name x px,iter,[],0⟩] csc pos) csc X.env pos' (newList []) false (eval iter X.env) use) R X.xe s:=by
  have ej : (js.map fun j => N.getD j x) = js.map fun j => N.getD j "":=List.map_congr_left fun j hj => by
    have:=(ok.js j hj).1
    rw [List.getD_eq_getElem?_getD,List.getD_eq_getElem?_getD,List.getElem?_eq_getElem this]
    rfl
  have ok' : CompOkG fsc csc [x] js N N':=⟨by rw [ok.eqN,ej]; rfl,ok.fr,ok.cell,ok.kind,ok.nm,fun j hj => by
    have:=ok.js j hj
    have e : N.getD j x = N.getD j "":=by rw [List.getD_eq_getElem?_getD,List.getD_eq_getElem?_getD,List.getElem?_eq_getElem this.1]; rfl
    rw [e] at this
    exact this⟩
  refine compG_core (ifs:=[]) (tg:=gName 0) (tt:=fun _ _ _ _ => tNoTest) (te:=te) [x] js ok' (pi_mono hi) (fun s₀ H₀ C ex => pg_blk ok.nd (by rw [ok.eqN]; rfl) ok.xl) (fun _ _ _ _ => pts_nil) he hc hsc hXN hs use R I ?_ hfin
  refine ⟨_,h,fun J H1 hw D hD => ?_⟩
  obtain ⟨W,w0,turn⟩:=hw D hD
  refine ⟨W,w0,fun i m ys H2 w => ?_⟩
  obtain ⟨e,t⟩:=turn i m ys H2 w
  refine ⟨e,t.imp id fun ⟨go,y⟩ => ⟨go,fun v H' yl s₀ H₀ C ex σ0 h0 => ?_⟩⟩
  obtain ⟨o,rfl⟩ : ∃ o,σ0 = [o]:=by
    match σ0,h0 with
    | [o],_ => exact ⟨o,rfl⟩
  exact ⟨⟨[some v],rfl,rfl⟩,y v H' yl s₀ H₀ C ex⟩
theorem pe_comp {X : Cx} {elt iter : Expr} {x : Str} {px pos : Pos} {csc : Scope} {wi : TI} {te : Shared→Hp→Addr→List Addr→TE} (js : List Nat) {N' : List Str} {fsc : Scope} {N : List Str} (ok : CompOk fsc csc x js N N') (hi : PI X (.Name x px) iter wi)
    (he : ∀ s₀ H₀ C ex,PE (blk X csc N' s₀ H₀ C ex) elt (te s₀ H₀ C ex)) (hc : X.calm = true:=by rfl) (hsc : X.env.scope = fsc:=by rfl) (hXN : X.N = N:=by rfl) (hs : ∀ x,foldedSetIterable iter X.env x = pure x:=by intro _; rfl) :
    PE X (.ListComp elt [⟨.Name x px,iter,[],0⟩] csc pos) (tComp wi te js):=by
  intro pins s σ H Q I h
  rw [eval_ListComp]
  exact comp_core js ok hi he hc hsc hXN hs none _ I h fun D C s6 H5 m6 _ I6 f6 n6 q => ⟨m6,n6,fun h7 sb => ⟨.ref D,H5,inv_but I6 f6 sb,rfl,q⟩⟩
theorem ps_setComp {X : Cx} {elt iter : Expr} {x y : Str} {px py pos spos : Pos} {i : Nat} {csc : Scope} {wi : TI} {te : Shared→Hp→Addr→List Addr→TE} (hN : X.N.Nodup) (hi' : X.N[i]? = some y) (hy : Loc X.env.scope y)
    (js : List Nat) {N' : List Str} {fsc : Scope} {N : List Str} (ok : CompOk fsc csc x js N N') (hi : PI X (.Name x px) iter wi)
    (he : ∀ s₀ H₀ C ex,PE (blk X csc N' s₀ H₀ C ex) elt (te s₀ H₀ C ex)) (hsw : swapsWith (.ListComp elt [⟨.Name x px,iter,[],0⟩] csc pos) (some (.Name y py)) spos.line X.env = pure true:=by rfl)
    (hc : X.calm = true:=by rfl) (hsc : X.env.scope = fsc:=by rfl) (hXN : X.N = N:=by rfl) (hs : ∀ x,foldedSetIterable iter X.env x = pure x:=by intro _; rfl)
    (hf : X.fn y = true ∨ X.env.scope.names.lookup y = some .local:=by first | exact .inl rfl | exact .inr rfl | assumption) :
    PS X (.Assign [.Name y py] (.ListComp elt [⟨.Name x px,iter,[],0⟩] csc pos) spos) (tAsg (tComp wi te js) (gName i)):=by
  intro pins s σ H D I h
  rw [exec_Assign_Name_used _ _ _ _ hsw]
  refine wpAny_bind (wpAny_standAt (wpAny_bind ?_))
  show wpAny _ X.A (do let _ ← comprehension (.ListComp elt [⟨.Name x px,iter,[],0⟩] csc pos) csc X.env _ (newList []) false (eval iter X.env) (some (assign (.Name y py) X.env))) _ _ s
  refine wpAny_bind (wpAny_mono (comp_core js ok hi he hc hsc hXN hs (some (assign (.Name y py) X.env)) (fun _ s' => SP X pins D .next s') I h ?_) (fun _ s' hq => wpAny_pure (wpAny_pure hq)) fun _ _ e => e)
  intro D' C s6 H5 m6 r I6 f6 n6 q
  show wpAny _ X.A (assign (.Name y py) X.env (.ref D')) _ _ _
  obtain ⟨o6,es,ep,ho,hd,hrest⟩:=id n6
  have Ip:=I6.pinned (fp:=[C]) (fun b hb => by
    have e : b = C:=by simpa using hb
    subst e
    exact f6) (fun b hb => by
    have e : b = C:=by simpa using hb
    subst e
    exact ⟨o6,ho,fun v z => by rw [hd] at z; cases z⟩)
  refine wpAny_assign_Name (store_ok (i:=i) Ip hN hi' hy (v:=.ref D') rfl (fun s7 I7 => ?_) hf)
  refine ⟨m6,n6.at fun o e => (I7.pin (C,o) (List.mem_append_right _ (List.mem_append_right _ (mem_pinsAt List.mem_cons_self e)))).1,fun h7 sb => ?_⟩
  exact ⟨_,H5,inv_but I7.unpinned f6 sb,q⟩
end L3
namespace L3
open PySem PySem.Spec PyProof.Rows L2 Ra
theorem ps_setCompG {X : Cx} {elt iter target : Expr} {ifs : List Expr} {y : Str} {py pos spos : Pos} {i : Nat} {csc : Scope} {wi : TI} {tg : TG} {tt : Shared→Hp→Addr→List Addr→TT} {te : Shared→Hp→Addr→List Addr→TE} (hN : X.N.Nodup) (hi' : X.N[i]? = some y) (hy : Loc X.env.scope y)
    (xs : List Str) (js : List Nat) {N' : List Str} {fsc : Scope} {N : List Str} (ok : CompOkG fsc csc xs js N N') (hi : PI X target iter wi) (hg : ∀ s₀ H₀ C ex,PG (blk X csc N' s₀ H₀ C ex) target tg) (ht : ∀ s₀ H₀ C ex,PTs (blk X csc N' s₀ H₀ C ex) ifs (tt s₀ H₀ C ex))
    (he : ∀ s₀ H₀ C ex,PE (blk X csc N' s₀ H₀ C ex) elt (te s₀ H₀ C ex)) (hsw : swapsWith (.ListComp elt [⟨target,iter,ifs,0⟩] csc pos) (some (.Name y py)) spos.line X.env = pure true:=by rfl)
    (hc : X.calm = true:=by rfl) (hsc : X.env.scope = fsc:=by rfl) (hXN : X.N = N:=by rfl) (hs : ∀ x,foldedSetIterable iter X.env x = pure x:=by intro _; rfl)
    (hf : X.fn y = true ∨ X.env.scope.names.lookup y = some .local:=by first | exact .inl rfl | exact .inr rfl | assumption) :
    PS X (.Assign [.Name y py] (.ListComp elt [⟨target,iter,ifs,0⟩] csc pos) spos) (tAsg (tCompG wi tg tt te xs.length js) (gName i)):=by
  intro pins s σ H D I h
  rw [exec_Assign_Name_used _ _ _ _ hsw]
  refine wpAny_bind (wpAny_standAt (wpAny_bind ?_))
  show wpAny _ X.A (do let _ ← comprehension (.ListComp elt [⟨target,iter,ifs,0⟩] csc pos) csc X.env _ (newList []) false (eval iter X.env) (some (assign (.Name y py) X.env))) _ _ s
  refine wpAny_bind (wpAny_mono (compG_core xs js ok hi hg ht he hc hsc hXN hs (some (assign (.Name y py) X.env)) (fun _ s' => SP X pins D .next s') I h ?_) (fun _ s' hq => wpAny_pure (wpAny_pure hq)) fun _ _ e => e)
  intro D' C s6 H5 m6 r I6 f6 n6 q
  show wpAny _ X.A (assign (.Name y py) X.env (.ref D')) _ _ _
  obtain ⟨o6,es,ep,ho,hd,hrest⟩:=id n6
  have Ip:=I6.pinned (fp:=[C]) (fun b hb => by
    have e : b = C:=by simpa using hb
    subst e
    exact f6) (fun b hb => by
    have e : b = C:=by simpa using hb
    subst e
    exact ⟨o6,ho,fun v z => by rw [hd] at z; cases z⟩)
  refine wpAny_assign_Name (store_ok (i:=i) Ip hN hi' hy (v:=.ref D') rfl (fun s7 I7 => ?_) hf)
  refine ⟨m6,n6.at fun o e => (I7.pin (C,o) (List.mem_append_right _ (List.mem_append_right _ (mem_pinsAt List.mem_cons_self e)))).1,fun h7 sb => ?_⟩
  exact ⟨_,H5,inv_but I7.unpinned f6 sb,q⟩
theorem pg_blk2 {X : Cx} {csc : Scope} {N' : List Str} {s₀ : Shared} {H₀ : Hp} {C : Addr} {ex : List Addr} {i j : Nat} {x y : Str} {px py pt : Pos} {k} (hc : X.calm = true) (nd : N'.Nodup) (hi : N'[i]? = some x) (hl : csc.names.lookup x = some .local) (hj : N'[j]? = some y) (hl2 : csc.names.lookup y = some .local) :
    PG (blk X csc N' s₀ H₀ C ex) (.Tuple [.Name x px,.Name y py] k pt) (gTup X.K 2 (gCons (gName i) (gCons (gName j) gNil))) :=
  pg_tup (X:=blk X csc N' s₀ H₀ C ex) hc (pgs_cons (pg_blk nd hi hl) (pgs_cons (pg_blk nd hj hl2) pgs_nil))
end L3
namespace L3
open PySem PySem.Spec PyProof.Rows L2 Ra
mutual
inductive Dv (H : Hp) : V→PyData→Prop
  | non : Dv H .non .none
  | bl (b : Bool) : Dv H (.bl b) (.bool b)
  | int (i : Int) : Dv H (.int i) (.int i)
  | str (x : Str) (ok : (PyData.str x).canLay0 = true) : Dv H (.str x) (.str x)
  | lst {a : Addr} {xs : List V} {ds : List PyData} : H a = some (.lst xs)→DvAll H xs ds→Dv H (.ref a) (.list ds)
  | tup {a : Addr} {xs : List V} {ds : List PyData} : H a = some (.tup xs)→DvAll H xs ds→Dv H (.ref a) (.tuple ds)
inductive DvAll (H : Hp) : List V→List PyData→Prop
  | nil : DvAll H [] []
  | cons {v : V} {vs : List V} {d : PyData} {ds : List PyData} : Dv H v d→DvAll H vs ds→DvAll H (v :: vs) (d :: ds)
end
mutual
theorem Dv.keep {H H' : Hp} (s : Same H H') : ∀ {v : V} {d : PyData},Dv H v d→Dv H' v d
  | _,_,.non => .non
  | _,_,.bl b => .bl b
  | _,_,.int i => .int i
  | _,_,.str x ok => .str x ok
  | _,_,.lst h r => .lst (s _ _ h) (DvAll.keep s r)
  | _,_,.tup h r => .tup (s _ _ h) (DvAll.keep s r)
theorem DvAll.keep {H H' : Hp} (s : Same H H') : ∀ {vs : List V} {ds : List PyData},DvAll H vs ds→DvAll H' vs ds
  | _,_,.nil => .nil
  | _,_,.cons h r => .cons (Dv.keep s h) (DvAll.keep s r)
end
mutual
theorem Dv.can {H : Hp} : ∀ {v : V} {d : PyData},Dv H v d→d.canLay0 = true
  | _,_,.non => rfl
  | _,_,.bl _ => rfl
  | _,_,.int _ => rfl
  | _,_,.str _ ok => ok
  | _,_,.lst _ r => by rw [PyData.canLay0]; exact DvAll.can r
  | _,_,.tup _ r => by rw [PyData.canLay0]; exact DvAll.can r
theorem DvAll.can {H : Hp} : ∀ {vs : List V} {ds : List PyData},DvAll H vs ds→PyData.canLayAll0 ds = true
  | _,_,.nil => rfl
  | _,_,.cons h r => by rw [PyData.canLayAll0,Dv.can h,DvAll.can r]; rfl
end
section
variable {X : Cx} {pins : List (Addr × Obj)} {σ : L2.St} {H : Hp} {s : Shared}
mutual
theorem Dv.reads (I : Inv X pins σ H s) : ∀ {v : V} {d : PyData} {u : Value},Dv H v d→RelV v u→∃ as,Reads s.heap u d as
  | _,_,_,.non,r => by cases r; exact ⟨_,.none⟩
  | _,_,_,.bl b,r => by cases r; exact ⟨_,.bool b⟩
  | _,_,_,.int i,r => by obtain ⟨t,rfl⟩:=r; exact ⟨_,.int i t⟩
  | _,_,_,.str x _,r => by obtain ⟨t,rfl⟩:=r; exact ⟨_,.str x t⟩
  | _,_,_,.lst h q,r => by
    cases r
    obtain ⟨its,rv,p,_⟩:=I.list (SqL.of h)
    obtain ⟨o,e,hc,n,hd⟩:=p.isList
    obtain ⟨as,ra⟩:=DvAll.reads I q rv
    exact ⟨_,.list e hc hd ra⟩
  | _,_,_,.tup h q,r => by
    cases r
    obtain ⟨its,rv,p,_⟩:=I.tuple (SqT.of h)
    obtain ⟨o,e,hc,n,hd⟩:=p
    obtain ⟨as,ra⟩:=DvAll.reads I q rv
    exact ⟨_,.tuple e hc hd ra⟩
theorem DvAll.reads (I : Inv X pins σ H s) : ∀ {vs : List V} {ds : List PyData} {us : List Value},DvAll H vs ds→Vals vs us→∃ as,ReadsAll s.heap us ds as
  | _,_,_,.nil,.nil => ⟨_,.nil⟩
  | _,_,_,.cons h q,.cons r rs => by
    obtain ⟨as,ra⟩:=Dv.reads I h r
    obtain ⟨bs,rb⟩:=DvAll.reads I q rs
    exact ⟨_,.cons ra rb⟩
end
end
noncomputable def rEqD (c : Bool→Bool) : R2:=fun x y H Q => ∃ dx dy,Dv H x dx ∧ Dv H y dy ∧ dx.depth ≤ 60 ∧ Q (.bl (c (PyData.eqv dx dy))) H
theorem op_eqD {X : Cx} (hu : X.A.units + 64 < cLine) : OpR X (compareOp .Eq) (rEqD fun b => b):=by
  intro pins s σ H x y v u Q I rx ry h
  obtain ⟨dx,dy,hx,hy,hd,q⟩:=h
  obtain ⟨as,ra⟩:=hx.reads I rx
  obtain ⟨bs,rb⟩:=hy.reads I ry
  exact SeqAt.compareEq_reads ra rb hx.can hy.can (by have:=Nat.min_le_left dx.depth dy.depth; (first | lia | omega)) ⟨.bl _,H,I,rfl,q⟩
theorem op_neD {X : Cx} (hu : X.A.units + 64 < cLine) : OpR X (compareOp .NotEq) (rEqD fun b => !b):=by
  intro pins s σ H x y v u Q I rx ry h
  obtain ⟨dx,dy,hx,hy,hd,q⟩:=h
  obtain ⟨as,ra⟩:=hx.reads I rx
  obtain ⟨bs,rb⟩:=hy.reads I ry
  exact SeqAt.compareNe_reads ra rb hx.can hy.can (by have:=Nat.min_le_left dx.depth dy.depth; (first | lia | omega)) ⟨.bl _,H,I,rfl,q⟩
theorem paired_left {α β : Type} {F : α→β→Prop} : ∀ {xs : List α} {ys : List β} {x : α},Paired F xs ys→x ∈ xs→∃ y,y ∈ ys ∧ F x y
  | _,_,_,.nil,h => by simp at h
  | _,_,_,.cons a r,h => by
    rcases List.mem_cons.mp h with e | e
    · exact ⟨_,List.mem_cons_self,by rw [e]; exact a⟩
    · obtain ⟨y,hy,q⟩:=paired_left r e
      exact ⟨y,List.mem_cons_of_mem _ hy,q⟩
noncomputable def Pq (H : Hp) (p : Addr) (q : Rat) : Prop:=Pr H p q.num q.den
theorem Pq.keep {H H' : Hp} {p : Addr} {q : Rat} (h : Pq H p q) (s : Same H H') : Pq H' p q:=s _ _ h
theorem Pq.sq {K : PySem.W.Frag} {H : Hp} {p : Addr} {q : Rat} (h : Pq H p q) : SqT K H p [.int q.num,.int q.den]:=SqT.of h
theorem Pq.of {H : Hp} {p : Addr} {x y : Int} {q : Rat} (h : Pr H p x y) (e : q.num = x ∧ (q.den : Int) = y) : Pq H p q:=by
  unfold Pq
  rw [e.1,e.2]
  exact h
noncomputable abbrev Pqs (H : Hp) : List Addr→List Rat→Prop:=Paired (Pq H)
theorem Pqs.keep {H H' : Hp} {ps : List Addr} {qs : List Rat} (h : Pqs H ps qs) (s : Same H H') : Pqs H' ps qs:=Paired.imp' (fun _ _ z => z.keep s) h
noncomputable def Rw (H : Hp) (a : Addr) (qs : List Rat) : Prop:=∃ ps : List Addr,H a = some (.lst (ps.map V.ref)) ∧ Pqs H ps qs
theorem Rw.keep {H H' : Hp} {a : Addr} {qs : List Rat} (h : Rw H a qs) (s : Same H H') : Rw H' a qs:=by
  obtain ⟨ps,h1,h2⟩:=h
  exact ⟨ps,s _ _ h1,h2.keep s⟩
theorem Pqs.get : ∀ {H : Hp} {ps : List Addr} {qs : List Rat} {i : Nat} {q : Rat},Pqs H ps qs→qs[i]? = some q→∃ p,(ps.map V.ref)[i]? = some (.ref p) ∧ Pq H p q
  | _,_,_,0,_,.cons h _,e => by cases e; exact ⟨_,rfl,h⟩
  | _,_,_,_ + 1,_,.cons _ r,e => by
    rw [List.getElem?_cons_succ] at e
    obtain ⟨p,h1,h2⟩:=Pqs.get r e
    exact ⟨p,by rw [List.map_cons,List.getElem?_cons_succ]; exact h1,h2⟩
theorem Pqs.take : ∀ {H : Hp} {ps : List Addr} {qs : List Rat} (n : Nat),Pqs H ps qs→Pqs H (ps.take n) (qs.take n)
  | _,_,_,0,_ => .nil
  | _,_,_,_ + 1,.nil => .nil
  | _,_,_,n + 1,.cons h r => .cons h (Pqs.take n r)
theorem Pqs.drop : ∀ {H : Hp} {ps : List Addr} {qs : List Rat} (n : Nat),Pqs H ps qs→Pqs H (ps.drop n) (qs.drop n)
  | _,_,_,0,h => h
  | _,_,_,_ + 1,.nil => .nil
  | _,_,_,n + 1,.cons _ r => Pqs.drop n r
theorem Pqs.append : ∀ {H : Hp} {ps rs : List Addr} {qs ts : List Rat},Pqs H ps qs→Pqs H rs ts→Pqs H (ps ++ rs) (qs ++ ts)
  | _,_,_,_,_,.nil,k => k
  | _,_,_,_,_,.cons h r,k => .cons h (Pqs.append r k)
theorem Pqs.length {H : Hp} {ps : List Addr} {qs : List Rat} (h : Pqs H ps qs) : ps.length = qs.length:=Paired.length h
theorem Pqs.set : ∀ {H : Hp} {ps : List Addr} {qs : List Rat} (n : Nat) {p : Addr} {q : Rat},Pqs H ps qs→Pq H p q→Pqs H (ps.set n p) (qs.set n q)
  | _,_,_,_,_,_,.nil,_ => .nil
  | _,_,_,0,_,_,.cons _ r,k => .cons k r
  | _,_,_,n + 1,_,_,.cons h r,k => .cons h (Pqs.set n r k)
noncomputable def dq (q : Rat) : PyData:=.tuple [.int q.num,.int q.den]
noncomputable def dr (qs : List Rat) : PyData:=.list (qs.map dq)
theorem Pq.dv {H : Hp} {p : Addr} {q : Rat} (h : Pq H p q) : Dv H (.ref p) (dq q):=.tup h (.cons (.int _) (.cons (.int _) .nil))
theorem Pqs.dv : ∀ {H : Hp} {ps : List Addr} {qs : List Rat},Pqs H ps qs→DvAll H (ps.map V.ref) (qs.map dq)
  | _,_,_,.nil => .nil
  | _,_,_,.cons h r => .cons h.dv (Pqs.dv r)
theorem Rw.dv {H : Hp} {a : Addr} {qs : List Rat} (h : Rw H a qs) : Dv H (.ref a) (dr qs):=by
  obtain ⟨ps,h1,h2⟩:=h
  exact .lst h1 h2.dv
theorem eqv_dq (p q : Rat) : PyData.eqv (dq p) (dq q) = decide (p = q):=by
  show PyData.eqv (.tuple [.int p.num,.int p.den]) (.tuple [.int q.num,.int q.den]) = _
  simp only [PyData.eqv,PyData.eqvAll,Bool.and_true]
  by_cases h : p = q
  · subst h
    simp
  · rw [decide_eq_false h]
    by_cases h1 : p.num = q.num
    · have h2 : ¬ (p.den : Int) = (q.den : Int):=fun z => h (Rat.ext h1 (by (first | lia | omega)))
      have : ((p.den : Int) == (q.den : Int)) = false:=by simpa using h2
      rw [this,Bool.and_false]
    · have : (p.num == q.num) = false:=by simpa using h1
      rw [this,Bool.false_and]
theorem eqv_all (ps qs : List Rat) : PyData.eqvAll (ps.map dq) (qs.map dq) = decide (ps = qs):=by
  induction ps generalizing qs with
  | nil => cases qs <;> simp [PyData.eqvAll]
  | cons p ps ih =>
    cases qs with
    | nil => simp [PyData.eqvAll]
    | cons q qs =>
      rw [List.map_cons,List.map_cons,PyData.eqvAll,eqv_dq,ih]
      by_cases h : p = q <;> by_cases k : ps = qs <;> simp [h,k]
theorem eqv_dr (ps qs : List Rat) : PyData.eqv (dr ps) (dr qs) = decide (ps = qs):=by
  show PyData.eqv (.list _) (.list _) = _
  rw [PyData.eqv]
  exact eqv_all ps qs
theorem depth_dq (q : Rat) : (dq q).depth ≤ 2:=by
  show PyData.depth (.tuple [.int q.num,.int q.den]) ≤ 2
  simp [PyData.depth,PyData.depthAll]
theorem depthAll_dq (qs : List Rat) : PyData.depthAll (qs.map dq) ≤ 2:=by
  induction qs with
  | nil => simp [PyData.depthAll]
  | cons q qs ih =>
    rw [List.map_cons,PyData.depthAll]
    exact Nat.max_le.mpr ⟨depth_dq q,ih⟩
theorem depth_dr (qs : List Rat) : (dr qs).depth ≤ 3:=by
  show PyData.depth (.list _) ≤ 3
  rw [PyData.depth]
  have:=depthAll_dq qs
  (first | lia | omega)
theorem Rw.updO {H : Hp} {a b : Addr} {xs ys : List V} {qs : List Rat} (h : Rw H b qs) (ha : H a = some (.lst xs)) (n : b ≠ a) : Rw (upd H a (.lst ys)) b qs:=by
  obtain ⟨ps,h1,h2⟩:=h
  exact ⟨ps,by rw [upd_ne n]; exact h1,Paired.imp' (fun p q z => by
    have z' : H p = some (.tup [.int q.num,.int q.den]):=z
    show upd H a (.lst ys) p = _
    rw [upd_ne (ne_of z' ha (by intro w; cases w))]
    exact z') h2⟩
theorem Rw.lt {H : Hp} {a : Addr} {qs : List Rat} (h : Rw H a qs) : ∃ xs,H a = some (.lst xs) ∧ xs.length = qs.length:=by
  obtain ⟨ps,h1,h2⟩:=h
  exact ⟨_,h1,by rw [List.length_map,h2.length]⟩
theorem Rw.app {H H2 : Hp} {D p : Addr} {qs : List Rat} {q : Rat} (h : Rw H D qs) (s : Same H H2) (kp : Pq H2 p q) :
    ∃ xs,H2 D = some (.lst xs) ∧ xs.length = qs.length ∧ Rw (upd H2 D (.lst (xs ++ [.ref p]))) D (qs ++ [q]):=by
  obtain ⟨ps,h1,h2⟩:=h.keep s
  refine ⟨_,h1,by rw [List.length_map,h2.length],ps ++ [p],by rw [upd_same]; simp,?_⟩
  have up : ∀ p q,Pq H2 p q→Pq (upd H2 D (.lst (ps.map V.ref ++ [.ref p]))) p q:=fun p q z => by
    have z' : H2 p = some (.tup [.int q.num,.int q.den]):=z
    show upd H2 D _ p = _
    rw [upd_ne (ne_of z' h1 (by intro w; cases w))]
    exact z'
  have up2 : ∀ r t,Pq H2 r t→Pq (upd H2 D (.lst (ps.map V.ref ++ [.ref p]))) r t:=fun r t z => by
    have z' : H2 r = some (.tup [.int t.num,.int t.den]):=z
    show upd H2 D _ r = _
    rw [upd_ne (ne_of z' h1 (by intro w; cases w))]
    exact z'
  exact Pqs.append (Paired.imp' up2 h2) (.cons (up2 _ _ kp) .nil)
theorem kit_lst_lst (K : PySem.W.Frag) : PySem.W.kitOne K (.type "list") (.type "list") = some true:=rfl
theorem eqv_dq_self (q : Rat) : PyData.eqv (dq q) (dq q) = true:=by rw [eqv_dq]; simp
theorem eqv_dr_self (qs : List Rat) : PyData.eqv (dr qs) (dr qs) = true:=by rw [eqv_dr]; simp
noncomputable def drr (rss : List (List Rat)) : PyData:=.list (rss.map dr)
noncomputable def Sx (S : List Addr) (H H' : Hp) : Prop:=∀ b o,b ∉ S→H b = some o→H' b = some o
theorem Rw.copy {H : Hp} {a c : Addr} {qs : List Rat} {xs : List V} (h : Rw H a qs) (e : H a = some (.lst xs)) (n : H c = none) : Rw (upd H c (.lst xs)) c qs:=by
  obtain ⟨ps,e1,e2⟩:=h
  rw [e] at e1
  have e3 : xs = ps.map V.ref:=by
    have:=Option.some.inj e1
    injection this
  exact ⟨ps,by rw [upd_same,e3],e2.keep (same_upd n _)⟩
theorem Rw.there {H : Hp} {a : Addr} {qs : List Rat} (h : Rw H a qs) : ∃ xs,H a = some (.lst xs) ∧ xs.length = qs.length:=h.lt
end L3
namespace L3
open PySem PySem.Spec PyProof.Rows L2 Ra
noncomputable def Itv (K : PySem.W.Frag) (a : Addr) (n : Nat) : It :=
  ⟨fun i H => i < n ∧ ∃ xs x,SqL K H a xs ∧ xs[n - 1 - i]? = some x,fun i H x H' => H' = H ∧ ∀ xs,SqL K H a xs→xs[n - 1 - i]? = some x,fun i _ => i = n⟩
noncomputable def iRev (K : PySem.W.Frag) (ta : TA) : TI:=fun σ H R => ta σ H fun vs H1 => ∃ a xs,vs = [.ref a] ∧ SqL K H1 a xs ∧ R (Itv K a xs.length) H1
theorem gen_int {i : Nat} {σ : L2.St} {H : Hp} {Q : L2.St→Hp→Prop} {P : Int→Prop} (x : Int) (hx : P x) (h : ∀ y : Int,P y→gName i (.int y) σ H Q) : gName i (.int x) σ H Q:=h x hx
noncomputable def tCutS (t : TS) : TS:=fun D σ H => ∃ Mid : L2.St→Hp→Prop,(∀ σ' H',Mid σ' H'→D.nx σ' H') ∧ t { D with nx:=Mid } σ H
theorem ps_cut {X : Cx} {st : Stmt} {t : TS} (h : PS X st t) : PS X st (tCutS t):=by
  intro pins s σ H D I hw
  obtain ⟨Mid,hm,hw⟩:=hw
  refine thn (h pins s σ H _ I hw) fun f s1 q => ?_
  cases f with
  | next =>
    obtain ⟨σ',H',I',q⟩:=q
    exact ⟨σ',H',I',hm _ _ q⟩
  | ret v => exact q
  | brk => exact q
  | cont => exact q
theorem Pq.updL {H : Hp} {D p : Addr} {xs ys : List V} {q : Rat} (h : H D = some (.lst xs)) (k : Pq H p q) : Pq (upd H D (.lst ys)) p q:=by
  unfold Pq Pr
  rw [upd_ne (ne_of k h (by intro z; cases z))]
  exact k
theorem Pqs.updL {H : Hp} {D : Addr} {xs ys : List V} {ps : List Addr} {qs : List Rat} (h : H D = some (.lst xs)) (k : Pqs H ps qs) : Pqs (upd H D (.lst ys)) ps qs:=Paired.imp' (fun _ _ z => z.updL h) k
theorem same_updF {H1 H : Hp} {D : Addr} (s : Same H1 H) (hD : H1 D = none) (o : HO) : Same H1 (upd H D o):=fun b u q => by rw [upd_ne (ne_of_none q hD)]; exact s b u q
theorem comp_rangeQ {lo : Int} {n : Nat} {te : Shared→Hp→Addr→List Addr→TE} {js : List Nat} {σ : L2.St} {H1 : Hp} {Q : VK} (hn : n ≤ 100000) (f : Nat→Rat)
    (hs : ∀ s₀ H₀ C ex i H (R : VK),i < n→Same H1 H→(∀ p H2,Same H H2→Pq H2 p (f i)→R (.ref p) H2)→te s₀ H₀ C ex (some (.int (lo + i)) :: js.map fun j => (σ[j]?).join) H R)
    (hd : ∀ H D,Same H1 H→H1 D = none→Rw H D ((List.range n).map f)→Q (.ref D) H) : CompAt (Itr lo n) te js σ Q H1:=by
  intro D hD
  refine ⟨fun i m ys H => m = n - i ∧ i ≤ n ∧ (∃ ps,ys = ps.map V.ref ∧ Pqs H ps ((List.range i).map f)) ∧ Same H1 H ∧ H D = some (.lst ys),⟨n,by simp,Nat.zero_le _,⟨[],rfl,.nil⟩,same_upd hD _,upd_same⟩,?_⟩
  rintro i m ys H ⟨rfl,hi,⟨ps,rfl,hp⟩,sm,hDl⟩
  refine ⟨hDl,?_⟩
  by_cases hlt : i < n
  · refine .inr ⟨hlt,fun x H' y s₀ H₀ C ex => ?_⟩
    obtain ⟨e,y⟩:=y
    subst e y
    refine hs s₀ H₀ C ex i H' _ hlt sm fun p H2 s2 kp => ?_
    have h2:=s2 _ _ hDl
    have hp2:=hp.keep s2
    have hl:=hp.length
    rw [List.length_map,List.length_range] at hl
    have hz : (100000 : Nat) < sizeLine:=by decide
    refine ⟨h2,by rw [List.length_map]; (first | lia | omega),n - (i + 1),by (first | lia | omega),rfl,hlt,⟨ps ++ [p],by simp,?_⟩,same_updF (sm.trans s2) hD _,upd_same⟩
    rw [List.range_succ,List.map_append]
    exact (hp2.updL h2).append (.cons (kp.updL h2) .nil)
  · have e : i = n:=by (first | lia | omega)
    subst e
    exact .inl ⟨Nat.le_refl _,hd H D sm hD ⟨ps,hDl,hp⟩⟩
theorem comp_listQ {K : PySem.W.Frag} {a : Addr} {qs : List Rat} {te : Shared→Hp→Addr→List Addr→TE} {js : List Nat} {σ : L2.St} {H1 : Hp} {Q : VK} (hn : qs.length ≤ 100000) (ha : Rw H1 a qs) (f : Rat→Rat)
    (hs : ∀ s₀ H₀ C ex p q H (R : VK),q ∈ qs→Pq H p q→Same H1 H→(∀ p' H2,Same H H2→Pq H2 p' (f q)→R (.ref p') H2)→te s₀ H₀ C ex (some (.ref p) :: js.map fun j => (σ[j]?).join) H R)
    (hd : ∀ H D,Same H1 H→H1 D = none→Rw H D (qs.map f)→Q (.ref D) H) : CompAt (Itl K a) te js σ Q H1:=by
  intro D hD
  obtain ⟨rs,hrs,kr⟩:=ha
  have hlr:=kr.length
  refine ⟨fun i m ys H => m = qs.length - i ∧ i ≤ qs.length ∧ (∃ ps,ys = ps.map V.ref ∧ Pqs H ps ((qs.take i).map f)) ∧ Same H1 H ∧ H D = some (.lst ys),⟨qs.length,by simp,Nat.zero_le _,⟨[],rfl,.nil⟩,same_upd hD _,upd_same⟩,?_⟩
  rintro i m ys H ⟨rfl,hi,⟨ps,rfl,hp⟩,sm,hDl⟩
  refine ⟨hDl,?_⟩
  have hr:=sm _ _ hrs
  by_cases hlt : i < qs.length
  · have eq : qs[i]? = some qs[i]:=List.getElem?_eq_getElem hlt
    obtain ⟨p0,h0,k0⟩:=(kr.keep sm).get eq
    refine .inr ⟨⟨_,_,SqL.of hr,h0⟩,fun x H' y s₀ H₀ C ex => ?_⟩
    obtain ⟨e,y⟩:=y
    subst e
    have ex':=y _ (SqL.of hr)
    rw [h0] at ex'
    cases ex'
    refine hs s₀ H₀ C ex p0 _ H' _ (List.getElem_mem hlt) k0 sm fun p H2 s2 kp => ?_
    have h2:=s2 _ _ hDl
    have hp2:=hp.keep s2
    have hl:=hp.length
    rw [List.length_map,List.length_take] at hl
    have hz : (100000 : Nat) < sizeLine:=by decide
    refine ⟨h2,by rw [List.length_map]; (first | lia | omega),qs.length - (i + 1),by (first | lia | omega),rfl,hlt,⟨ps ++ [p],by simp,?_⟩,same_updF (sm.trans s2) hD _,upd_same⟩
    rw [List.take_succ,eq,List.map_append]
    exact (hp2.updL h2).append (.cons (kp.updL h2) .nil)
  · have e : i = qs.length:=by (first | lia | omega)
    subst e
    rw [List.take_length] at hp
    exact .inl ⟨⟨_,SqL.of hr,by rw [List.length_map]; (first | lia | omega)⟩,hd H D sm hD ⟨ps,hDl,hp⟩⟩
theorem comp_intsQ {K : PySem.W.Frag} {a : Addr} {ns : List Int} {te : Shared→Hp→Addr→List Addr→TE} {js : List Nat} {σ : L2.St} {H1 : Hp} {Q : VK} (hn : ns.length ≤ 100000) (ha : H1 a = some (.lst (ns.map V.int))) (f : Int→Rat)
    (hs : ∀ s₀ H₀ C ex n H (R : VK),n ∈ ns→Same H1 H→(∀ p' H2,Same H H2→Pq H2 p' (f n)→R (.ref p') H2)→te s₀ H₀ C ex (some (.int n) :: js.map fun j => (σ[j]?).join) H R)
    (hd : ∀ H D,Same H1 H→H1 D = none→Rw H D (ns.map f)→Q (.ref D) H) : CompAt (Itl K a) te js σ Q H1:=by
  intro D hD
  refine ⟨fun i m ys H => m = ns.length - i ∧ i ≤ ns.length ∧ (∃ ps,ys = ps.map V.ref ∧ Pqs H ps ((ns.take i).map f)) ∧ Same H1 H ∧ H D = some (.lst ys),⟨ns.length,by simp,Nat.zero_le _,⟨[],rfl,.nil⟩,same_upd hD _,upd_same⟩,?_⟩
  rintro i m ys H ⟨rfl,hi,⟨ps,rfl,hp⟩,sm,hDl⟩
  refine ⟨hDl,?_⟩
  have hr:=sm _ _ ha
  by_cases hlt : i < ns.length
  · have eq : ns[i]? = some ns[i]:=List.getElem?_eq_getElem hlt
    have h0 : (ns.map V.int)[i]? = some (.int ns[i]):=by rw [List.getElem?_map,eq]; rfl
    refine .inr ⟨⟨_,_,SqL.of hr,h0⟩,fun x H' y s₀ H₀ C ex => ?_⟩
    obtain ⟨e,y⟩:=y
    subst e
    have ex':=y _ (SqL.of hr)
    rw [h0] at ex'
    cases ex'
    refine hs s₀ H₀ C ex _ H' _ (List.getElem_mem hlt) sm fun p H2 s2 kp => ?_
    have h2:=s2 _ _ hDl
    have hp2:=hp.keep s2
    have hl:=hp.length
    rw [List.length_map,List.length_take] at hl
    have hz : (100000 : Nat) < sizeLine:=by decide
    refine ⟨h2,by rw [List.length_map]; (first | lia | omega),ns.length - (i + 1),by (first | lia | omega),rfl,hlt,⟨ps ++ [p],by simp,?_⟩,same_updF (sm.trans s2) hD _,upd_same⟩
    rw [List.take_succ,eq,List.map_append]
    exact (hp2.updL h2).append (.cons (kp.updL h2) .nil)
  · have e : i = ns.length:=by (first | lia | omega)
    subst e
    rw [List.take_length] at hp
    exact .inl ⟨⟨_,SqL.of hr,by rw [List.length_map]; (first | lia | omega)⟩,hd H D sm hD ⟨ps,hDl,hp⟩⟩
end L3
namespace L3
open PySem PySem.Spec PyProof.Rows L2 Ra
noncomputable def Tq (H : Hp) (r : Addr) (x : Rat × Rat) : Prop:=∃ p q,H r = some (.tup [.ref p,.ref q]) ∧ Pq H p x.1 ∧ Pq H q x.2
noncomputable abbrev Tqs (H : Hp) : List Addr→List (Rat × Rat)→Prop:=Paired (Tq H)
noncomputable def Rp (H : Hp) (a : Addr) (qs : List (Rat × Rat)) : Prop:=∃ ps : List Addr,H a = some (.lst (ps.map V.ref)) ∧ Tqs H ps qs
end L3
namespace L3
open PySem PySem.Spec PyProof.Rows L2 Ra
theorem turnedN {X : Cx} {pins : List (Addr × Obj)} {σ : L2.St} {H : Hp} {s : Shared} {h' : Heap} {t' : Nat} (S : List Addr) (I : Inv X pins σ H s) (k : ∀ b o,b ∉ S→s.heap.get? b = some o→h'.get? b = some o) (hS : ∀ b ∈ S,FpOk X pins H b) : Inv X pins σ H { s with heap:=h',toks:=t' }:=by
  have nit : ∀ b u,H b = some u→b ∉ S:=fun b u e z => by rw [(hS b z).1] at e; cases e
  refine I.step (g':=s.gens) (d':=s.drawn) (ch:=S) (fun b hb => ?_) (fun b o _ _ hc e _ => k b o hc e) (fun b o _ _ hc e _ => ⟨o.slots,k b o hc e⟩) (fun _ _ _ _ n => n)
    (fun b o hc e => ⟨o,k b o hc e⟩) (fun _ _ e => e) (fun _ _ _ e => e) (fun b ps e => ⟨#[],by rw [e]; simp⟩) (fun m hm => ?_) (fun b u e => ?_) I.bare
  · obtain ⟨h0,hL,_,h1,h2,h3⟩:=hS b hb
    exact ⟨h1,hL,h2,h3⟩
  · obtain ⟨o,es,ep,ho,r⟩:=hm
    exact ⟨o,es,ep,k _ o (fun z => (hS _ z).2.1 rfl) ho,r⟩
  · refine (I.hok b u e).stay (fun c v hc q => k c v ?_ q) (fun _ q => q) fun _ _ q => q
    rcases hc with z | z
    · rw [z]; exact nit b u e
    · exact nit c _ z
noncomputable def Itz (K : PySem.W.Frag) (a b : Addr) : It :=
  ⟨fun i H => ∃ xs ys x y,SqL K H a xs ∧ SqL K H b ys ∧ xs[i]? = some x ∧ ys[i]? = some y,
   fun i H v H' => ∃ T x y,v = .ref T ∧ H T = none ∧ H' = upd H T (.tup [x,y]) ∧ (∀ xs,SqL K H a xs→xs[i]? = some x) ∧ ∀ ys,SqL K H b ys→ys[i]? = some y,
   fun i H => ∃ xs ys,SqL K H a xs ∧ SqL K H b ys ∧ (xs.length ≤ i ∨ ys.length ≤ i)⟩
theorem turn_zip {P : Program} {w : World} {K : PySem.W.Frag} {es : List Expr} {k : Nat} {tp : Pos} (a b z TI TO i1 i2 : Addr) (D : ZipApart z TI TO i1 i2 a b) : Turn P w K (.Tuple es k tp) (Itz K a b) [z,TI,TO,i1,i2] z
    (fun i h => IsZip h z TI TO .none ∧ IsPair h TI (.ref i1) (.ref i2) ∧ (∃ u v,IsPair h TO u v) ∧ h.IsListIter i1 a i ∧ h.IsListIter i2 b i) where
  mem:=by simp
  obj:=fun i h st c hc => by
    obtain ⟨s1,s2,⟨u,v,s3⟩,⟨o4,e4,_,d4⟩,⟨o5,e5,_,d5⟩⟩:=st
    simp only [List.mem_cons,List.not_mem_nil,or_false] at hc
    rcases hc with rfl | rfl | rfl | rfl | rfl
    · exact ⟨_,s1,fun v z => by
        have z' : Data.fields _ = Data.cell v:=z
        cases z'⟩
    · exact ⟨_,s2,fun v z => by
        have z' : Data.seq _ _ = Data.cell v:=z
        cases z'⟩
    · exact ⟨_,s3,fun v z => by
        have z' : Data.seq _ _ = Data.cell v:=z
        cases z'⟩
    · exact ⟨o4,e4,fun v z => by rw [d4] at z; cases z⟩
    · exact ⟨o5,e5,fun v z => by rw [d5] at z; cases z⟩
  keep:=fun i h h' st kk => by
    obtain ⟨s1,s2,⟨u,v,s3⟩,s4,s5⟩:=st
    exact ⟨kk z (by simp) _ s1,kk TI (by simp) _ s2,⟨u,v,kk TO (by simp) _ s3⟩,s4.at fun o e => kk i1 (by simp) o e,s5.at fun o e => kk i2 (by simp) o e⟩
  item:=by
    intro X hP hw hK hc i pins s σ H E I hf st hg
    subst hP hw hK
    obtain ⟨s1,s2,⟨u0,v0,s3⟩,s4,s5⟩:=st
    obtain ⟨xs,ys,x,y,hqx,hqy,hx,hy⟩:=hg
    obtain ⟨itx,rvx,px,_⟩:=I.list hqx
    obtain ⟨ity,rvy,py,_⟩:=I.list hqy
    obtain ⟨u,hu,ru⟩:=rvx.get hx
    obtain ⟨v,hv,rv⟩:=rvy.get hy
    have ltz : z < s.heap.objs.size:=Heap.lt_size s1
    have ltT : TI < s.heap.objs.size:=Heap.lt_size s2
    have ltO : TO < s.heap.objs.size:=Heap.lt_size s3
    have lt1 : i1 < s.heap.objs.size:=by obtain ⟨_,e,_⟩:=s4; exact Heap.lt_size e
    have lt2 : i2 < s.heap.objs.size:=by obtain ⟨_,e,_⟩:=s5; exact Heap.lt_size e
    refine wpAny_pyNext_zip_item D s1 s2 s3 s4 s5 px.isList py.isList (x:=u) (y:=v) (by simpa using hu) (by simpa using hv) fun h1 a1 a2 a3 a4 a5 a6 hk1 => ⟨_,rfl,wpAny_letOwnedTupleGo_zip a1 fun h2 b1 sb2 => ?_⟩
    replace sb2 : Heap.SameBut z h1 h2:=sb2
    have fresh : H s.heap.objs.size = none:=I.hok.fresh (Nat.le_refl _)
    have I1 : Inv X pins σ (upd H s.heap.objs.size (.tup [x,y])) { s with heap:=s.heap.push { cls:=.type "tuple",data:=.seq ([u,v] : List Value).toArray },toks:=s.toks } :=
      I.laid (fun b o eb => Heap.get?_push_of_some _ eb) (Nat.le_refl _) (show ObjOk X.prog X.w _ _ _ (.tup _) from ⟨(by show 2 ≤ sizeLine; decide),_,.cons ru (.cons rv .nil),IsTup.new _ _⟩)
    have fo : ∀ b,b < s.heap.objs.size→FpOk X pins H b→FpOk X pins (upd H s.heap.objs.size (.tup [x,y])) b:=fun b lb fb => ⟨by rw [upd_ne (Nat.ne_of_lt lb)]; exact fb.1,fb.2⟩
    have hfo : ∀ b ∈ [z,TI,TO,i1,i2],FpOk X pins (upd H s.heap.objs.size (.tup [x,y])) b:=fun b hb => by
      refine fo b ?_ (hf b hb)
      simp only [List.mem_cons,List.not_mem_nil,or_false] at hb
      rcases hb with rfl | rfl | rfl | rfl | rfl <;> assumption
    have I2:=turnedN (h':=h2) (t':=s.toks) [z,TI,TO,i1,i2] I1 (fun b o nb eb => ?_) hfo
    · refine ⟨.ref s.heap.objs.size,_,I2,rfl,⟨_,x,y,rfl,fresh,rfl,fun zs hz => by rw [I.list_inj hz hqx]; exact hx,fun zs hz => by rw [I.list_inj hz hqy]; exact hy⟩,⟨b1,sb2.extBut _ _ D.TIz (hk1 _ _ D.TIz D.TITO D.TIi1 D.TIi2 s2),⟨_,_,sb2.extBut _ _ D.TOz a2⟩,a3.extBut sb2.extBut D.i1z,a4.extBut sb2.extBut D.i2z⟩,fun b hb => (hfo b hb).1⟩
    · have n1 : b ≠ z:=fun q => nb (by simp [q])
      have n2 : b ≠ TO:=fun q => nb (by simp [q])
      have n3 : b ≠ i1:=fun q => nb (by simp [q])
      have n4 : b ≠ i2:=fun q => nb (by simp [q])
      rcases Heap.get?_push_cases eb with ⟨rfl,rfl⟩ | eb
      · exact sb2.extBut _ _ n1 a5
      · exact sb2.extBut _ _ n1 (hk1 b o n1 n2 n3 n4 eb)
  done:=by
    intro X hP hw hK hc i pins s σ H E I hf st hg
    subst hP hw hK
    obtain ⟨s1,s2,⟨u0,v0,s3⟩,s4,s5⟩:=st
    obtain ⟨xs,ys,hqx,hqy,hend⟩:=hg
    obtain ⟨itx,rvx,px,_⟩:=I.list hqx
    obtain ⟨ity,rvy,py,_⟩:=I.list hqy
    have lx:=rvx.length
    have ly:=rvy.length
    refine wpAny_pyNext_zip_end (I.ok.hd hc) D s1 s2 s3 s4 s5 px.isList py.isList ?_ fun h' hk => ⟨rfl,turnedN (t':=s.toks) [z,TI,TO,i1,i2] I (fun b o nb e => hk b o (fun q => nb (by simp [q])) (fun q => nb (by simp [q])) (fun q => nb (by simp [q])) (fun q => nb (by simp [q])) e) hf⟩
    rcases hend with h | h
    · exact .inl (by simp; (first | lia | omega))
    · exact .inr (by simp; (first | lia | omega))
  self:=fun _ _ _ _ _ st h => wpAny_pyIter_zip st.1 h
noncomputable def iZip (K : PySem.W.Frag) (ta : TA) : TI:=fun σ H R => ta σ H fun vs H1 => ∃ a b,vs = [.ref a,.ref b] ∧ (∃ xs,SqL K H1 a xs) ∧ (∃ ys,SqL K H1 b ys) ∧ R (Itz K a b) H1
theorem pi_zip {X : Cx} {es : List Expr} {k : Nat} {tp : Pos} {a b : Expr} {ta : TA} {p pos : Pos} (hg : Gl X "zip") (hm : X.mg "zip" = none) (ha : PA X [a,b] ta) (hs : starEach [a,b] X.env = [(false,eval a X.env),(false,eval b X.env)]:=by rfl) (hs2 : starEach [b] X.env = [(false,eval b X.env)]:=by rfl) :
    PI X (.Tuple es k tp) (.Call (.Name "zip" p) [a,b] [] pos) (iZip X.K ta):=by
  intro pins s σ H R I h
  refine Call_ (ld_blt I hg hm boot_zip (PyProof.Rows.callWith_type1 (thn (ha pos pins s σ H _ I h) fun us s1 ⟨vs,H1,I1,r1,q1⟩ => ?_) (by rw [hs,hs2]) (by rw [hs2]; rfl)))
  obtain ⟨l1,l2,rfl,⟨xs,hqx⟩,⟨ys,hqy⟩,q⟩:=q1
  cases r1 with
  | cons r rr =>
    cases rr with
    | cons r' rr =>
      cases rr
      cases r
      cases r'
      obtain ⟨itx,rvx,px,_⟩:=I1.list hqx
      obtain ⟨ity,rvy,py,_⟩:=I1.list hqy
      have a1 : l1 < s1.heap.objs.size:=by obtain ⟨_,e,_⟩:=px.isList; exact Heap.lt_size e
      have a2 : l2 < s1.heap.objs.size:=by obtain ⟨_,e,_⟩:=py.isList; exact Heap.lt_size e
      refine call_zip_2 px.isList py.isList fun h' hz hTI hTO hi1 hi2 hsz hk => wpAny_pyIter_zip hz ?_
      have I2 : Inv X pins σ H1 { s1 with heap:=h' }:=I1.kept (t':=s1.toks) hk
      refine ⟨s1.heap.objs.size + 4,[s1.heap.objs.size + 4,s1.heap.objs.size + 2,s1.heap.objs.size + 3,s1.heap.objs.size,s1.heap.objs.size + 1],_,_,H1,rfl,I2,turn_zip l1 l2 _ _ _ _ _ (zipApart_new a1 a2),⟨hz,hTI,⟨_,_,hTO⟩,hi1,hi2⟩,fun b hb => ?_,q⟩
      simp only [List.mem_cons,List.not_mem_nil,or_false] at hb
      rcases hb with rfl | rfl | rfl | rfl | rfl
      · exact I1.fpOk (Nat.le_add_right _ 4) (I1.hok.fresh (Nat.le_add_right _ 4))
      · exact I1.fpOk (Nat.le_add_right _ 2) (I1.hok.fresh (Nat.le_add_right _ 2))
      · exact I1.fpOk (Nat.le_add_right _ 3) (I1.hok.fresh (Nat.le_add_right _ 3))
      · exact I1.fpOk (Nat.le_refl _) (I1.hok.fresh (Nat.le_refl _))
      · exact I1.fpOk (Nat.le_add_right _ 1) (I1.hok.fresh (Nat.le_add_right _ 1))
theorem for_zip {K : PySem.W.Frag} {a b : Addr} {xs ys : List V} {g : TG} {tb : TS} {D : Ends} {σ : L2.St} {H : Hp} (n : Nat) (hn : n = min xs.length ys.length) (Pv : Nat→L2.St→Hp→Prop) (h0 : Pv 0 σ H) (hl : ∀ i σ H,i ≤ n→Pv i σ H→SqL K H a xs ∧ SqL K H b ys)
    (hs : ∀ i x y σ H T,xs[i]? = some x→ys[i]? = some y→Pv i σ H→H T = none→g (.ref T) σ (upd H T (.tup [x,y])) fun σ2 H2 => tb { D with nx:=Pv (i + 1),ct:=Pv (i + 1),bk:=D.nx } σ2 H2) (hd : ∀ σ H,Pv n σ H→D.nx σ H) :
    ∃ W : Nat→Nat→L2.St→Hp→Prop,(∃ m,W 0 m σ H) ∧ ∀ i m σ H,W i m σ H →
      ((Itz K a b).stop i H ∧ D.nx σ H) ∨ ((Itz K a b).go i H ∧ ∃ N : L2.St→Hp→Prop,(∀ σ' H',N σ' H'→∃ m',m' < m ∧ W (i + 1) m' σ' H') ∧ ∀ x H',(Itz K a b).yld i H x H'→g x σ H' fun σ2 H2 => tb { D with nx:=N,ct:=N,bk:=D.nx } σ2 H2):=by
  refine ⟨fun i m σ H => m = n - i ∧ i ≤ n ∧ Pv i σ H,⟨n,by simp,Nat.zero_le _,h0⟩,?_⟩
  rintro i m σ H ⟨rfl,hi,p⟩
  obtain ⟨qx,qy⟩:=hl i σ H hi p
  by_cases hlt : i < n
  · have h1 : i < xs.length:=by (first | lia | omega)
    have h2 : i < ys.length:=by (first | lia | omega)
    refine .inr ⟨⟨xs,ys,_,_,qx,qy,List.getElem?_eq_getElem h1,List.getElem?_eq_getElem h2⟩,Pv (i + 1),fun σ' H' p' => ⟨n - (i + 1),by (first | lia | omega),rfl,hlt,p'⟩,?_⟩
    rintro v H' ⟨T,x,y,rfl,hT,rfl,ex,ey⟩
    exact hs i x y σ H T (ex xs qx) (ey ys qy) p hT
  · have e : i = n:=by (first | lia | omega)
    subst e
    exact .inl ⟨⟨xs,ys,qx,qy,by (first | lia | omega)⟩,hd σ H p⟩
end L3
namespace L3
open PySem PySem.Spec PyProof.Rows L2 Ra Rq
theorem comp_listZ {K : PySem.W.Frag} {a : Addr} {qs : List Rat} {te : Shared→Hp→Addr→List Addr→TE} {js : List Nat} {σ : L2.St} {H1 : Hp} {Q : VK} (hn : qs.length ≤ 100000) (ha : Rw H1 a qs) (f : Rat→Int)
    (hs : ∀ s₀ H₀ C ex p q H (R : VK),q ∈ qs→Pq H p q→Same H1 H→R (.int (f q)) H→te s₀ H₀ C ex (some (.ref p) :: js.map fun j => (σ[j]?).join) H R)
    (hd : ∀ H D,Same H1 H→H1 D = none→H D = some (.lst ((qs.map f).map V.int))→Q (.ref D) H) : CompAt (Itl K a) te js σ Q H1:=by
  intro D hD
  obtain ⟨rs,hrs,kr⟩:=ha
  have hlr:=kr.length
  refine ⟨fun i m ys H => m = qs.length - i ∧ i ≤ qs.length ∧ ys = ((qs.take i).map f).map V.int ∧ Same H1 H ∧ H D = some (.lst ys),⟨qs.length,by simp,Nat.zero_le _,rfl,same_upd hD _,upd_same⟩,?_⟩
  rintro i m ys H ⟨rfl,hi,rfl,sm,hDl⟩
  refine ⟨hDl,?_⟩
  have hr:=sm _ _ hrs
  by_cases hlt : i < qs.length
  · have eq : qs[i]? = some qs[i]:=List.getElem?_eq_getElem hlt
    obtain ⟨p0,h0,k0⟩:=(kr.keep sm).get eq
    refine .inr ⟨⟨_,_,SqL.of hr,h0⟩,fun x H' y s₀ H₀ C ex => ?_⟩
    obtain ⟨e,y⟩:=y
    subst e
    have ex':=y _ (SqL.of hr)
    rw [h0] at ex'
    cases ex'
    refine hs s₀ H₀ C ex p0 _ H' _ (List.getElem_mem hlt) k0 sm ?_
    have hz : (100000 : Nat) < sizeLine:=by decide
    refine ⟨hDl,by rw [List.length_map,List.length_map,List.length_take]; (first | lia | omega),qs.length - (i + 1),by (first | lia | omega),rfl,hlt,?_,?_,upd_same⟩
    · rw [List.take_succ,eq,List.map_append,List.map_append]; rfl
    · intro b o e
      rw [upd_ne (ne_of_none e hD)]
      exact sm _ _ e
  · have e : i = qs.length:=by (first | lia | omega)
    subst e
    rw [List.take_length] at hDl
    exact .inl ⟨⟨_,SqL.of hr,by rw [List.length_map]; (first | lia | omega)⟩,hd H D sm hD hDl⟩
noncomputable def cnt (p : Nat→Bool) : Nat→Nat
  | 0 => 0
  | n + 1 => cnt p n + if p n then 1 else 0
end L3
namespace L3
open PySem PySem.Spec PyProof.Rows L2 Ra Rq
theorem comp_intsI {K : PySem.W.Frag} {a : Addr} {ns : List Int} {te : Shared→Hp→Addr→List Addr→TE} {js : List Nat} {σ : L2.St} {H1 : Hp} {Q : VK} (hn : ns.length ≤ 100000) (ha : H1 a = some (.lst (ns.map V.int))) (f : Int→Int)
    (hs : ∀ s₀ H₀ C ex x H (R : VK),x ∈ ns→R (.int (f x)) H→te s₀ H₀ C ex (some (.int x) :: js.map fun j => (σ[j]?).join) H R)
    (hd : ∀ H D,Same H1 H→H1 D = none→H D = some (.lst ((ns.map f).map V.int))→Q (.ref D) H) : CompAt (Itl K a) te js σ Q H1:=by
  intro D hD
  refine ⟨fun i m ys H => m = ns.length - i ∧ i ≤ ns.length ∧ ys = ((ns.take i).map f).map V.int ∧ Same H1 H ∧ H D = some (.lst ys),⟨ns.length,by simp,Nat.zero_le _,rfl,same_upd hD _,upd_same⟩,?_⟩
  rintro i m ys H ⟨rfl,hi,rfl,sm,hDl⟩
  refine ⟨hDl,?_⟩
  have hr:=sm _ _ ha
  by_cases hlt : i < ns.length
  · have eq : ns[i]? = some ns[i]:=List.getElem?_eq_getElem hlt
    have h0 : (ns.map V.int)[i]? = some (.int ns[i]):=by rw [List.getElem?_map,eq]; rfl
    refine .inr ⟨⟨_,_,SqL.of hr,h0⟩,fun x H' y s₀ H₀ C ex => ?_⟩
    obtain ⟨e,y⟩:=y
    subst e
    have ex':=y _ (SqL.of hr)
    rw [h0] at ex'
    cases ex'
    refine hs s₀ H₀ C ex _ H' _ (List.getElem_mem hlt) ?_
    have hz : (100000 : Nat) < sizeLine:=by decide
    refine ⟨hDl,by rw [List.length_map,List.length_map,List.length_take]; (first | lia | omega),ns.length - (i + 1),by (first | lia | omega),rfl,hlt,?_,?_,upd_same⟩
    · rw [List.take_succ,eq,List.map_append,List.map_append]; rfl
    · intro b o e
      rw [upd_ne (ne_of_none e hD)]
      exact sm _ _ e
  · have e : i = ns.length:=by (first | lia | omega)
    subst e
    rw [List.take_length] at hDl
    exact .inl ⟨⟨_,SqL.of hr,by rw [List.length_map]; (first | lia | omega)⟩,hd H D sm hD hDl⟩
theorem comp_zipI {K : PySem.W.Frag} {a b : Addr} {ns ms : List Int} {tt : Shared→Hp→Addr→List Addr→TT} {te : Shared→Hp→Addr→List Addr→TE} {js : List Nat} {σ : L2.St} {H1 : Hp} {Q : VK} (n : Nat) (hnm : n = min ns.length ms.length) (hn : n ≤ 100000) (ha : H1 a = some (.lst (ns.map V.int))) (hb : H1 b = some (.lst (ms.map V.int))) (f : Int→Int→Int)
    (ht : ∀ s₀ H₀ C ex x y H (R : Bool→Hp→Prop),R true H→tt s₀ H₀ C ex (some (.int x) :: some (.int y) :: js.map fun j => (σ[j]?).join) H R)
    (hs : ∀ s₀ H₀ C ex x y H (R : VK),x ∈ ns→y ∈ ms→R (.int (f x y)) H→te s₀ H₀ C ex (some (.int x) :: some (.int y) :: js.map fun j => (σ[j]?).join) H R)
    (hd : ∀ H D,Same H1 H→H1 D = none→H D = some (.lst (((List.range n).map fun i => f (ns.getD i 0) (ms.getD i 0)).map V.int))→Q (.ref D) H) : CompAtG (Itz K a b) (gTup K 2 (gCons (gName 0) (gCons (gName 1) gNil))) tt te 2 js σ Q H1:=by
  intro D hD
  refine ⟨fun i m ys H => m = n - i ∧ i ≤ n ∧ ys = ((List.range i).map fun i => f (ns.getD i 0) (ms.getD i 0)).map V.int ∧ Same H1 H ∧ H D = some (.lst ys),⟨n,by simp,Nat.zero_le _,rfl,same_upd hD _,upd_same⟩,?_⟩
  rintro i m ys H ⟨rfl,hi,hys,sm,hDl⟩
  refine ⟨hDl,?_⟩
  have hra:=sm _ _ ha
  have hrb:=sm _ _ hb
  by_cases hlt : i < n
  · have l1 : i < ns.length:=by (first | lia | omega)
    have l2 : i < ms.length:=by (first | lia | omega)
    have h1 : (ns.map V.int)[i]? = some (.int ns[i]):=by rw [List.getElem?_map,List.getElem?_eq_getElem l1]; rfl
    have h2 : (ms.map V.int)[i]? = some (.int ms[i]):=by rw [List.getElem?_map,List.getElem?_eq_getElem l2]; rfl
    refine .inr ⟨⟨_,_,_,_,SqL.of hra,SqL.of hrb,h1,h2⟩,?_⟩
    rintro v H' ⟨T,x,y,rfl,hT,rfl,ex,ey⟩ s₀ H₀ C ex0 σ0 hσ
    have ex':=ex _ (SqL.of hra)
    have ey':=ey _ (SqL.of hrb)
    rw [h1] at ex'
    rw [h2] at ey'
    cases ex'
    cases ey'
    obtain ⟨v1,v2,rfl⟩ : ∃ v1 v2,σ0 = [v1,v2]:=by
      match σ0,hσ with
      | [v1,v2],_ => exact ⟨v1,v2,rfl⟩
    have u:=same_upd hT (.tup [.int ns[i],.int ms[i]])
    refine ⟨T,_,rfl,SqT.of upd_same,rfl,_,_,rfl,_,_,rfl,rfl,⟨[some (.int ns[i]),some (.int ms[i])],rfl,rfl⟩,?_⟩
    refine ht s₀ H₀ C ex0 ns[i] ms[i] _ _ ?_
    rw [if_pos rfl]
    have hz : (100000 : Nat) < sizeLine:=by decide
    have g1 : ns.getD i 0 = ns[i]:=by rw [List.getD_eq_getElem?_getD,List.getElem?_eq_getElem l1]; rfl
    have g2 : ms.getD i 0 = ms[i]:=by rw [List.getD_eq_getElem?_getD,List.getElem?_eq_getElem l2]; rfl
    have hDl':=u _ _ hDl
    have ly : ys.length = i:=by rw [hys,List.length_map,List.length_map,List.length_range]
    refine hs s₀ H₀ C ex0 ns[i] ms[i] _ _ (List.getElem_mem l1) (List.getElem_mem l2) ⟨hDl',by (first | lia | omega),n - (i + 1),by (first | lia | omega),rfl,hlt,?_,same_updF (sm.trans u) hD _,upd_same⟩
    rw [hys,List.range_succ,List.map_append,List.map_append,List.map_singleton,List.map_singleton,g1,g2]
  · have e : i = n:=by (first | lia | omega)
    subst e
    subst hys
    exact .inl ⟨⟨_,_,SqL.of hra,SqL.of hrb,by rw [List.length_map,List.length_map]; (first | lia | omega)⟩,hd H D sm hD hDl⟩
end L3
namespace L3
open PySem PySem.W PySem.Calls PySem.Spec PyProof.Rows L2 Ra
end L3
namespace L3
open PySem PySem.Spec PyProof.Rows L2 Ra
structure CalM (P : Program) (w : World) (K : PySem.W.Frag) (mg : Str→Option Value) (base : Heap) (C : Addr) (m : Str) (k : Nat) (ps : List Str) (sp : Sp) : Prop where
  ex : ∃ f fd,FnOk P w K mg base CX0 k f fd ps sp ∧ Binds K fd ps [] ∧ Meth K C m f ∧ Cls K C
structure CalC (P : Program) (w : World) (K : PySem.W.Frag) (mg : Str→Option Value) (base : Heap) (x : Str) (C : Addr) (k : Nat) (ps : List Str) (sp : Sp) : Prop where
  ex : ∃ f fd,FnOk P w K mg base CX0 k f fd ps sp ∧ Binds K fd ps [] ∧ Mk K C f ∧ mg x = some (.ref C)
section
variable {X : Cx} {C : Addr} {m x : Str} {k j : Nat} {ps : List Str} {sp : Sp} {o e : Expr} {es : List Expr} {ta : TE} {t : TA} {p apos pos : Pos} {pl : Sem Bool}
theorem pe_m0 (Cm : CalM X.prog X.w X.K X.mg X.base C m k ps sp) (hr : Room j X.A) (he : PE X o ta) (hkj : k ≤ j:=by decide)
    (ht : eval (.Call (.Attribute o m apos) [] [] pos) X.env = (do
      let ov ← eval o X.env
      standAt apos.atName
      let (f,first) ← holding [ov] (getMethod ov m pl)
      callWith pos f first (backTo pos (starEach [] X.env)) (backToKw pos (keywordEach [] X.env))):=by rfl) :
    PE X (.Call (.Attribute o m apos) [] [] pos) (tMeth C m sp [] E0 ta tNil):=by
  obtain ⟨f,fd,F,b,hm,cl⟩:=Cm.ex
  exact pe_meth0 he cl hm F (hr.mono hkj) b .nil pass0 ht
theorem pe_mk (Cc : CalC X.prog X.w X.K X.mg X.base x C k ps sp) (hr : Room j X.A) (ha : PA X (e :: es) t) (hkj : k + 1 ≤ j:=by decide) (hg : Gl X x:=by rfl)
    (hdb : (x == ("__debug__" : Str)) = false:=by decide) (he : starEach (e :: es) X.env = (false,eval e X.env) :: starEach es X.env:=by rfl) (hpl : (backTo pos (starEach es X.env)).any (·.1) = false:=by rfl) :
    PE X (.Call (.Name x p) (e :: es) [] pos) (tMake C sp [] E0 t):=by
  obtain ⟨f,fd,F,b,M,hm⟩:=Cc.ex
  exact pe_make M F (hr.mono hkj) hg hm b .nil pass0 ha hdb he hpl
end
structure CalD (P : Program) (w : World) (K : PySem.W.Frag) (mg : Str→Option Value) (base : Heap) (x : Str) (k : Nat) (ps : List Str) (ds : List Value) (dvs : List V) (sp : Sp) : Prop where
  ex : ∃ f fd,FnOk P w K mg base CX0 k f fd ps sp ∧ Binds K fd ps ds ∧ PySem.W.keepIn K (.ref f) = true ∧ mg x = some (.ref f)
  dv : Vals dvs ds
theorem pe_clD {X : Cx} {x : Str} {k j : Nat} {ps : List Str} {ds : List Value} {dvs : List V} {sp : Sp} {e : Expr} {es : List Expr} {t : TA} {p pos : Pos} (C : CalD X.prog X.w X.K X.mg X.base x k ps ds dvs sp) (hr : Room j X.A) (ha : PA X (e :: es) t) (hkj : k ≤ j:=by decide) (hg : Gl X x:=by rfl)
    (hdb : (x == ("__debug__" : Str)) = false:=by decide) (he : starEach (e :: es) X.env = (false,eval e X.env) :: starEach es X.env:=by rfl) (hpl : (backTo pos (starEach es X.env)).any (·.1) = false:=by rfl) :
    PE X (.Call (.Name x p) (e :: es) [] pos) (tCall sp dvs E0 t):=by
  obtain ⟨f,fd,F,b,kp,m⟩:=C.ex
  exact pe_call F (hr.mono hkj) hg m kp b C.dv pass0 ha hdb he hpl
structure CalK (P : Program) (w : World) (K : PySem.W.Frag) (mg : Str→Option Value) (base : Heap) (x : Str) (k : Nat) (ps ks : List Str) (gV : List V→List V→List V) (sp : Sp) : Prop where
  ex : ∃ f fd g,FnOk P w K mg base CX0 k f fd ps sp ∧ KBinds K fd ps ks g gV ∧ PySem.W.keepIn K (.ref f) = true ∧ mg x = some (.ref f)
noncomputable abbrev FunD (K : PySem.W.Frag) (x qual : Str) (st : Stmt) (dV : Value) (f : Addr) (fd : FuncData) : Prop:=∃ (oc : Value) (od : Option Addr) (kV doc pm : Value) (an : Option Addr) (cdv ct : Value) (osl : Array (Option Value)),
      fd = PySem.W.fnOf x qual (defArgs st) (defBody st) (defScope st) dV kV doc pm an cdv ct ∧ K.lookup f = some ⟨oc,od,.func fd,osl⟩ ∧ PySem.W.codeIn K cdv qual = true
theorem okD {P : Program} {w : World} {K : PySem.W.Frag} {mg : Str→Option Value} {base : Heap} {x qual : Str} {st : Stmt} {f : Addr} {fd : FuncData} {N ps : List Str} {k : Nat} {sp : Sp} {dV : Value} (F : FunD K x qual st dV f fd)
    (S : FnScope N ps (defScope st)) (len : ∀ vs H Q E,sp vs H Q E→vs.length = ps.length)
    (hbody : ∀ (cdv : Value) (A : Around) (outer : List Env) (s : Shared) (H : Hp) (vs : List V) (Q : VK) (E : XK),Room k (A.deeper (envOfC qual (defScope st) s.heap.objs.size f cdv))→sp vs H Q E →
      ∃ t,PSs (cxOf CX0 P w K mg base N qual (defScope st) f cdv A outer s H E).nox (defBody st) t ∧ t { nx:=fun _ H' => Q .non H',rt:=Q } (start N vs) H) : FnOk P w K mg base CX0 (k + 1) f fd ps sp:=by
  obtain ⟨oc,od,kV,doc,pm,an,cdv,ct,osl,rfl,lk,hcd⟩:=F
  refine fn_of lk hcd S len fun A outer s H vs Q E hr hsp => ?_
  obtain ⟨t,h,q⟩:=hbody cdv A outer s H vs Q E hr hsp
  exact ⟨t,h.nox,q⟩
noncomputable def tRevS (K : PySem.W.Frag) (te ts : TE) : TE:=fun σ H Q => te σ H fun x H1 => ts σ H1 fun y H2 => ∃ a xs,x = .ref a ∧ y = .int (-1) ∧ SqL K H2 a xs ∧ ∀ p,H2 p = none→Q (.ref p) (upd H2 p (.lst xs.reverse))
end L3
namespace L3
open PySem PySem.Spec PyProof.Rows L2 Ra
theorem pe_globI {X : Cx} {x : Str} {n : Int} {pos : Pos} (hg : Gl X x) (hm : ∃ t,X.mg x = some (.int n t)) (hd : (x == ("__debug__" : Str)) = false:=by decide) : PE X (.Name x pos) (tC (.int n)):=by
  obtain ⟨t,hm⟩:=hm
  exact pe_glob hg hm ⟨t,rfl⟩ hd
theorem call_all {X : Cx} (hc : X.calm = true) : CallR X (.builtin "all") (fun xs H Q => ∃ p bs,xs = [.ref p] ∧ SqL X.K H p (List.map V.bl bs) ∧ Q (.bl (bs.all id)) H):=by
  intro pins s σ H xs us Q I r h
  obtain ⟨p,bs,rfl,hq,q⟩:=h
  obtain ⟨u,rfl,rx⟩:=vals1 r
  cases rx
  obtain ⟨its,rv,pl,hz⟩:=I.list hq
  have hlen:=rv.length
  rw [List.length_map] at hlen
  have lt : p < s.heap.objs.size:=by
    obtain ⟨o,ho,_⟩:=pl.isList
    exact Heap.lt_size ho
  refine call_all_walk (wpAny_pyIter_list pl.isList ?_)
  refine ⟨s.heap.objs.size,_,_,_,_,_,(fun i => (bs[i]?).getD true),rfl,Walks.list (A:=X.A.in1) (I.ok.hd hc) _ p (Nat.ne_of_lt lt) its.toArray,?st,?tr,fun h' tk hk => ?_⟩
  case st => exact ⟨⟨_,Heap.get?_push_size _ rfl,rfl,rfl⟩,pl.isList.at fun o e => Heap.get?_push_of_some _ e⟩
  case tr =>
    intro i v s1 Q1 E1 hv q1
    have hv' : its[i]? = some v:=by simpa using hv
    have hi : i < bs.length:=by
      have:=(List.getElem?_eq_some_iff.mp hv').1
      (first | lia | omega)
    have eb : bs[i]? = some bs[i]:=List.getElem?_eq_getElem hi
    obtain ⟨u,hu,ru⟩:=rv.get (i:=i) (x:=.bl bs[i]) (by rw [List.getElem?_map,eb]; rfl)
    rw [hv'] at hu
    cases hu
    cases ru
    have q2 : Q1 ((bs[i]?).getD true) s1:=q1
    rw [eb] at q2
    exact wpAny_truthy_bool q2
  · have e : (List.range its.toArray.size).all (fun i => (bs[i]?).getD true) = bs.all id:=by
      rw [List.size_toArray,← hlen,Bool.eq_iff_iff,List.all_eq_true,List.all_eq_true]
      constructor
      · intro hh b hb
        obtain ⟨i,hi,rfl⟩:=List.getElem_of_mem hb
        have:=hh i (List.mem_range.mpr hi)
        rw [List.getElem?_eq_getElem hi] at this
        exact this
      · intro hh i hi
        have hi':=List.mem_range.mp hi
        rw [List.getElem?_eq_getElem hi']
        exact hh _ (List.getElem_mem hi')
    rw [e]
    refine ⟨.bl (bs.all id),H,?_,rfl,q⟩
    exact I.kept (h':=h') (t':=tk) fun b o eb => hk b o (by
      simp
      exact Nat.ne_of_lt (Heap.lt_size eb)) (Heap.get?_push_of_some _ eb)
theorem comp_listB {K : PySem.W.Frag} {a : Addr} {xs : List V} {te : Shared→Hp→Addr→List Addr→TE} {js : List Nat} {σ : L2.St} {H1 : Hp} {Q : VK} (hn : xs.length ≤ 100000) (ha : H1 a = some (.lst xs)) (f : V→Bool)
    (hs : ∀ s₀ H₀ C ex x H (R : VK),x ∈ xs→Same H1 H→(∀ H2,Same H H2→R (.bl (f x)) H2)→te s₀ H₀ C ex (some x :: js.map fun j => (σ[j]?).join) H R)
    (hd : ∀ H D,Same H1 H→H1 D = none→H D = some (.lst ((xs.map f).map V.bl))→Q (.ref D) H) : CompAt (Itl K a) te js σ Q H1:=by
  intro D hD
  refine ⟨fun i m ys H => m = xs.length - i ∧ i ≤ xs.length ∧ ys = ((xs.take i).map f).map V.bl ∧ Same H1 H ∧ H D = some (.lst ys),⟨xs.length,by simp,Nat.zero_le _,rfl,same_upd hD _,upd_same⟩,?_⟩
  rintro i m ys H ⟨rfl,hi,rfl,sm,hDl⟩
  refine ⟨hDl,?_⟩
  have hr:=sm _ _ ha
  by_cases hlt : i < xs.length
  · have eq : xs[i]? = some xs[i]:=List.getElem?_eq_getElem hlt
    refine .inr ⟨⟨_,_,SqL.of hr,eq⟩,fun x H' y s₀ H₀ C ex => ?_⟩
    obtain ⟨e,y⟩:=y
    subst e
    have ex':=y _ (SqL.of hr)
    rw [eq] at ex'
    cases ex'
    refine hs s₀ H₀ C ex _ H' _ (List.getElem_mem hlt) sm fun H2 s2 => ?_
    have h2:=s2 _ _ hDl
    have hz : (100000 : Nat) < sizeLine:=by decide
    refine ⟨h2,by rw [List.length_map,List.length_map,List.length_take]; (first | lia | omega),xs.length - (i + 1),by (first | lia | omega),rfl,hlt,?_,?_,upd_same⟩
    · rw [List.take_succ,eq,List.map_append,List.map_append]; rfl
    · intro b o e
      rw [upd_ne (ne_of_none e hD)]
      exact s2 _ _ (sm _ _ e)
  · have e : i = xs.length:=by (first | lia | omega)
    subst e
    rw [List.take_length] at hDl
    exact .inl ⟨⟨_,SqL.of hr,Nat.le_refl _⟩,hd H D sm hD hDl⟩
structure PEw (X : Cx) (e : Expr) (te : TE) : Prop where
  h : PE X e te
structure PAw (X : Cx) (es : List Expr) (t : TA) : Prop where
  h : PA X es t
section
variable {X : Cx} {es xs : List Expr} {e e2 : Expr} {p p2 : Pos} {te te2 : TE} {t : TA} {k : Nat}
theorem w_int {i : Int} : PEw X (.Constant (.int i) k p) (tC (.int i)):=⟨pe_int⟩
theorem w_neg (h : PEw X e te) : PEw X (.UnaryOp .USub e p) (tUn (rU fun i => .int (-i)) te):=⟨pe_un un_neg h.h⟩
theorem w_tup (h : PAw X es t) : PEw X (.Tuple es k p) (tTup t):=⟨pe_tup h.h⟩
theorem w_lst (h : PAw X es t) : PEw X (.List es p) (tLst t):=⟨pe_lst h.h⟩
theorem w_any (h : PE X e te) : PEw X e te:=⟨h⟩
theorem aw_nil : PAw X [] tNil:=⟨pa_nil⟩
theorem aw_con {c} (ha : PEw X (.Constant c k p) te) (hr : PAw X es t) : PAw X (.Constant c k p :: es) (tCons te t):=⟨pa_cons ha.h hr.h rfl⟩
theorem aw_tup (ha : PEw X (.Tuple xs k p) te) (hr : PAw X es t) : PAw X (.Tuple xs k p :: es) (tCons te t):=⟨pa_cons ha.h hr.h rfl⟩
theorem aw_un {o} (ha : PEw X (.UnaryOp o e p) te) (hr : PAw X es t) : PAw X (.UnaryOp o e p :: es) (tCons te t):=⟨pa_cons ha.h hr.h rfl⟩
theorem aw_cal {f a ks} (ha : PEw X (.Call f a ks p) te) (hr : PAw X es t) : PAw X (.Call f a ks p :: es) (tCons te t):=⟨pa_cons ha.h hr.h rfl⟩
theorem aw_nam {n} (ha : PEw X (.Name n p) te) (hr : PAw X es t) : PAw X (.Name n p :: es) (tCons te t):=⟨pa_cons ha.h hr.h rfl⟩
end
structure PSw (X : Cx) (st : Stmt) (t : TS) : Prop where
  h : PS X st t
structure PSsw (X : Cx) (ss : List Stmt) (t : TS) : Prop where
  h : PSs X ss t
section
variable {X : Cx} {a b e : Expr} {pos pos' : Pos} {ta tb te : TE} {st : Stmt} {ss : List Stmt} {t u : TS}
end
end L3
namespace L3
open PySem PySem.Spec PyProof.Rows L2 Ra
section
variable {prog : Program} {w : World} {A : Around} {E : Value→Shared→Prop} {s : Shared}
theorem lri_no_len : typeLookup (.type "list_reverseiterator") "__len__" = pure none:=by rw [typeLookup_type,builtinLookup_eq_fast]; kernel_rfl
theorem lri_hint : typeLookup (.type "list_reverseiterator") "__length_hint__" = pure (some (.builtin "list_reverseiterator.__length_hint__")):=by rw [typeLookup_type,builtinLookup_eq_fast]; kernel_rfl
theorem hint_rev {r l : Addr} {i : Int} {Q : Bool→Shared→Prop} (hr : s.heap.IsRevIter r l i) (h : Q false s) : wpAny (model prog w) A (Builtin.List.listLengthHint (.ref r)) Q E s:=by
  unfold Builtin.List.listLengthHint
  refine wpAny_bind (wpAny_specialOf hr.typeIs lri_no_len ?_)
  refine wpAny_ite_split (fun z => absurd z (by decide)) (fun _ => ?_)
  refine wpAny_ite_split (fun z => absurd z (by decide)) (fun _ => ?_)
  refine wpAny_bind (wpAny_specialOf hr.typeIs lri_hint ?_)
  generalize hid : ("list_reverseiterator.__length_hint__" : String) = id0
  wp_delta
  rw [show splitId id0 = some ("list_reverseiterator","__length_hint__") from by subst hid; decide +kernel]
  subst hid
  refine wpAny_bind (wpAny_isInstance (T:="list_reverseiterator") (b:=true) hr.typeIs (by rw [isSubtype_type]; kernel_rfl) ?_)
  refine wpAny_ite_split (fun z => absurd z (by decide)) (fun _ => ?_)
  refine wpAny_ite_split (fun _ => ?_) (fun z => absurd (by decide +kernel) z)
  refine wpAny_ite_split (fun z => absurd z (by decide)) (fun _ => ?_)
  exact wpAny_pure h
theorem call_list_rev {l r : Addr} {items : Array Value} {Q : Value→Shared→Prop} (hh : A.handled = none) (hr : s.heap.IsRevIter r l ((items.size : Int) - 1)) (hl : s.heap.IsList l items) (ne : l ≠ r) (hz : items.size ≤ sizeLine)
    (q : ∀ h' tk acc c,(∀ b o,b ≠ r→s.heap.get? b = some o→h'.get? b = some o)→h'.get? s.heap.objs.size = some { cls:=.type "list",dict:=none,data:=.seq acc c,slots:=#[] }→ItemsOf (fun i v => items[items.size - 1 - i]? = some v) acc items.size→Q (.ref s.heap.objs.size) { s with heap:=h',toks:=tk }) :
    wpAny (model prog w) A (call (.type "list") [.ref r]) Q E s:=by
  obtain ⟨orr,er,erc,erd⟩:=id hr
  have ltr : r < s.heap.objs.size:=Heap.lt_size er
  obtain ⟨ol,el,_⟩:=id hl
  have ltl : l < s.heap.objs.size:=Heap.lt_size el
  refine callType_codes (Q₁:=fun ob k => ob = .ref s.heap.objs.size ∧ k = { s with heap:=s.heap.push { cls:=.type "list",data:=.seq #[] } }) F.called_list (F.typeCall_list_1 _) F.entry_list_init (code_list_new _ ⟨rfl,rfl⟩) fun ob k hk => ?_
  obtain ⟨rfl,rfl⟩:=hk
  have e0 : (s.heap.push { cls:=.type "list",data:=.seq #[] }).get? s.heap.objs.size = some { cls:=.type "list",data:=.seq #[] }:=Heap.get?_push_size _ rfl
  refine ⟨⟨_,e0,rfl⟩,F.args_list_init_2 _ _,?_⟩
  show wpAny (model prog w) A.in1.in1 (do let old ← Builtin.List.listItems (.ref s.heap.objs.size); Builtin.List.listUpdate (.ref s.heap.objs.size) (fun _ => #[]); letGo old.toList.reverse; Builtin.List.listExtendWith (.ref s.heap.objs.size) (.ref r) .none) _ _ _
  refine wpAny_bind ?_
  unfold Builtin.List.listItems
  refine wpAny_bind (wpAny_seqItems e0 rfl (wpAny_pure ?_))
  show wpAny (model prog w) A.in1.in1 (updateSeq s.heap.objs.size (fun _ => #[]) >>= fun _ => letGo (#[] : Array Value).toList.reverse >>= fun _ => Builtin.List.listExtendWith (.ref s.heap.objs.size) (.ref r) .none) _ _ _
  refine wpAny_bind (wpAny_updateSeq e0 rfl (wpAny_bind (wpAny_letGo ?_)))
  have e1:=Heap.get?_update_self (Obj.mapSeq (fun _ => (#[] : Array Value))) e0 rfl
  have up : ∀ b o,s.heap.get? b = some o→((s.heap.push { cls:=.type "list",data:=.seq #[] }).update s.heap.objs.size (Obj.mapSeq (fun _ => (#[] : Array Value)))).get? b = some o:=fun b o e => (Heap.get?_update_other _ _ (Nat.ne_of_gt (Heap.lt_size e))).trans (Heap.get?_push_of_some _ e)
  have hr1:=hr.at fun o e => up r o e
  have hl1:=hl.at fun o e => up l o e
  generalize hk1 : (s.heap.push { cls:=.type "list",data:=.seq #[] }).update s.heap.objs.size (Obj.mapSeq (fun _ => (#[] : Array Value))) = k1 at *
  unfold Builtin.List.listExtendWith
  refine wpAny_bind (wpAny_typeOf (T:="list_reverseiterator") hr1.typeIs ?_)
  have c1 : Builtin.List.listSameRef (.ref s.heap.objs.size) (.ref r) = false:=by simp [Builtin.List.listSameRef]; exact Nat.ne_of_gt ltr
  have c2 : (Value.type "list_reverseiterator" == Value.type "list") = false:=by decide
  have c3 : (Value.type "list_reverseiterator" == Value.type "tuple") = false:=by decide
  simp only [c1,c2,c3,Bool.or_false,Bool.false_eq_true,if_false]
  refine wpAny_bind (wpAny_pyIter_revIter hr1 (wpAny_bind (wpAny_holding (hint_rev hr1 ?_))))
  refine wpAny_ite_split (fun z => absurd z (by decide +kernel)) (fun _ => ?_)
  have W:=(Walks.listRev (prog:=prog) (w:=w) (A:=A.in1.in1) hh r l ne items).toS
  refine wpAny_pure ⟨plainId_quiet F.plain_extend_loop _,codeAny_extend_loopS W hz s.heap.objs.size (by simp; exact ⟨Nat.ne_of_gt ltr,Nat.ne_of_gt ltl⟩) .none items.size 0 _ #[] _ rfl (Nat.zero_le _) ⟨Nat.zero_le _,by simpa using hr1,hl1⟩ e1 (ItemsOf.nil _) fun s' acc c hm e2 hacc => ?_⟩
  rw [Moved.eq_with hm]
  refine ⟨rfl,q s'.heap s'.toks acc c (fun b o nb e => hm.heap b o ?_ (up b o e)) e2 hacc⟩
  simp [nb]
  exact Nat.ne_of_lt (Heap.lt_size e)
end
noncomputable def tListRev (K : PySem.W.Frag) (ta : TA) : TE:=fun σ H Q => ta σ H fun vs H1 => ∃ a xs,vs = [.ref a] ∧ SqL K H1 a xs ∧ ∀ p,H1 p = none→Q (.ref p) (upd H1 p (.lst xs.reverse))
theorem pe_listrev {X : Cx} {a : Expr} {ta : TA} {p p2 pos pos2 : Pos} (hg1 : Gl X "list") (hm1 : X.mg "list" = none) (hg2 : Gl X "reversed") (hm2 : X.mg "reversed" = none) (ha : PA X [a] ta) (hc : X.calm = true:=by rfl)
    (hs : starEach [a] X.env = [(false,eval a X.env)]:=by rfl) (hs2 : starEach [.Call (.Name "reversed" p2) [a] [] pos2] X.env = [(false,eval (.Call (.Name "reversed" p2) [a] [] pos2) X.env)]:=by rfl) :
    PE X (.Call (.Name "list" p) [.Call (.Name "reversed" p2) [a] [] pos2] [] pos) (tListRev X.K ta):=by
  intro pins s σ H Q I h
  refine Call_name1 hs2 (ld_blt I hg1 hm1 boot_list (PySem.callWith_type1 ?_))
  refine Call_ (ld_blt I hg2 hm2 boot_reversed (PyProof.Rows.callWith_type1 (thn (ha pos2 pins s σ H _ I h) fun us s1 ⟨vs,H1,I1,r1,q1⟩ => ?_) hs rfl))
  obtain ⟨l,xs,rfl,hq,q⟩:=q1
  cases r1 with
  | cons r rr =>
    cases rr
    cases r
    obtain ⟨its,rv,pl,hz⟩:=I1.list hq
    have hlen:=rv.length
    refine call_reversed_list pl.isList ?_
    have ltl : l < s1.heap.objs.size:=by
      obtain ⟨o,ho,_⟩:=pl.isList
      exact Heap.lt_size ho
    have hl2:=pl.isList.at (h':=s1.heap.push (revObj l ((its.toArray.size : Int) - 1))) fun o e => Heap.get?_push_of_some _ e
    refine call_list_rev (I1.ok.hd hc) ⟨_,Heap.get?_push_size _ rfl,rfl,rfl⟩ hl2 (Nat.ne_of_lt ltl) (by rw [List.size_toArray]; (first | lia | omega)) fun h' tk acc c hk e2 hacc => ?_
    have e3 : (s1.heap.push (revObj l ((its.toArray.size : Int) - 1))).objs.size = s1.heap.objs.size + 1:=Heap.size_push ..
    have ea : acc = its.reverse.toArray:=by
      apply Array.ext'
      apply List.ext_getElem?
      intro i
      rw [List.toList_toArray]
      by_cases hi : i < its.length
      · have hs : acc.size = its.length:=by rw [hacc.1,List.size_toArray]
        have hi2 : i < acc.size:=by (first | lia | omega)
        have e4:=hacc.2 i _ (Array.getElem?_eq_getElem hi2)
        rw [List.getElem?_reverse hi,Array.getElem?_toList,Array.getElem?_eq_getElem hi2,← e4]
        simp
      · have hs : acc.size = its.length:=by rw [hacc.1,List.size_toArray]
        rw [List.getElem?_eq_none (by rw [Array.length_toList]; (first | lia | omega)),List.getElem?_eq_none (by rw [List.length_reverse]; (first | lia | omega))]
    rw [e3] at e2 ⊢
    subst ea
    refine ⟨.ref (s1.heap.objs.size + 1),_,I1.laid (h':=h') (t':=tk) (o:=.lst xs.reverse) (fun b o e => hk b o (Nat.ne_of_lt (Heap.lt_size e)) (Heap.get?_push_of_some _ e)) (Nat.le_succ _) ?_,rfl,q _ (I1.hok.fresh (Nat.le_succ _))⟩
    exact ⟨by rw [List.length_reverse]; exact hz,_,c,rv.reverse,e2⟩
end L3
namespace L3
open PySem PySem.Spec PyProof.Rows L2 Ra
section
variable {prog : Program} {w : World} {A : Around} {E : Value→Shared→Prop} {s : Shared}
theorem enum_step {e it l : Addr} {c : Int} {i : Nat} {items : Array Value} {x old : Value} {Q : Value→Shared→Prop} (eE : IsEnum s.heap e it c old) (eI : s.heap.IsListIter it l i) (eL : s.heap.IsList l items) (ex : items[i]? = some x) (ne : e ≠ it)
    (q : ∀ h',IsEnumOut h' e it (c + 1) x s.heap.objs.size→h'.IsListIter it l (i + 1)→h'.get? s.heap.objs.size = some { cls:=.type "tuple",data:=.seq #[.int c s.toks,x] } →
      (∀ b o,b ≠ e→b ≠ it→s.heap.get? b = some o→h'.get? b = some o)→Q (.ref s.heap.objs.size) { s with heap:=h',toks:=s.toks + 1 }) :
    wpAny (model prog w) A (Builtin.«enumerate.__next__» ⟨[.ref e],[]⟩) (fun fin s' => ∃ v,fin = .done (.ret v) ∧ Q v s') E s:=by
  obtain ⟨hp,gg,dd,tk,oo⟩:=s
  show wpAny (model prog w) A (field (.ref e) 2 >>= _) _ E _
  refine wpAny_bind (wpAny_field eE rfl (x:=.ref it) rfl (wpAny_bind (wpAny_nextOf_list_item eI eL ex fun k1 eI1 sb1 => ?_)))
  replace sb1 : Heap.SameBut it hp k1:=sb1
  have eE1 : IsEnum k1 e it c old:=(sb1.2 e ne).trans eE
  show wpAny (model prog w) A (field (.ref e) 3 >>= _) _ E ⟨k1,gg,dd,tk,oo⟩
  refine wpAny_bind (wpAny_field eE1 rfl (x:=rawInt c) rfl ?_)
  show wpAny (model prog w) A (field (.ref e) 4 >>= _) _ E ⟨k1,gg,dd,tk,oo⟩
  refine wpAny_bind (wpAny_field eE1 rfl (x:=.none) rfl ?_)
  show wpAny (model prog w) A (mkInt c >>= _) _ E ⟨k1,gg,dd,tk,oo⟩
  refine wpAny_bind (wpAny_mkInt ?_)
  show wpAny (model prog w) A (setField (.ref e) 3 (rawInt (c + 1)) >>= _) _ E ⟨k1,gg,dd,tk + 1,oo⟩
  refine wpAny_bind (wpAny_setField_rec eE1 (by simp) fun k2 eE2 sb2 => ?_)
  replace sb2 : Heap.SameBut e k1 k2:=sb2
  replace eE2 : IsEnum k2 e it (c + 1) old:=eE2
  show wpAny (model prog w) A (setField (.ref e) 4 .none >>= _) _ E ⟨k2,gg,dd,tk + 1,oo⟩
  refine wpAny_bind (wpAny_setField_rec eE2 (by simp) fun k3 eE3 sb3 => ?_)
  replace sb3 : Heap.SameBut e k2 k3:=sb3
  replace eE3 : IsEnum k3 e it (c + 1) old:=eE3
  show wpAny (model prog w) A (newTuple [.int c tk,x] >>= _) _ E ⟨k3,gg,dd,tk + 1,oo⟩
  refine wpAny_bind (wpAny_newTuple ?_)
  have sz : k3.objs.size = hp.objs.size:=by rw [sb3.1,sb2.1,sb1.1]
  have lt : e < hp.objs.size:=Heap.lt_size eE
  have ne2 : hp.objs.size ≠ e:=Nat.ne_of_gt lt
  obtain ⟨k4,e4⟩ : ∃ k4,k4 = k3.push { cls:=.type "tuple",data:=.seq #[.int c tk,x] }:=⟨_,rfl⟩
  have eE4 : IsEnum k4 e it (c + 1) old:=by rw [e4]; exact Heap.get?_push_of_some _ eE3
  have eT4 : k4.get? hp.objs.size = some { cls:=.type "tuple",data:=.seq #[.int c tk,x] }:=by rw [e4,← sz]; exact Heap.get?_push_size _ rfl
  have kp4 : ∀ b o,b ≠ e→b ≠ it→hp.get? b = some o→k4.get? b = some o:=fun b o z1 z2 h => by
    rw [e4]
    exact Heap.get?_push_of_some _ (sb3.extBut b o z1 (sb2.extBut b o z1 (sb1.extBut b o z2 h)))
  have eI4 : k4.IsListIter it l (i + 1):=by
    obtain ⟨o,ho,r⟩:=(eI1.extBut sb2.extBut ne.symm).extBut sb3.extBut ne.symm
    exact ⟨o,by rw [e4]; exact Heap.get?_push_of_some _ ho,r⟩
  show wpAny (model prog w) A (Builtin.SmallTypes.ownedTupleIsFree (.ref e) >>= _) _ E ⟨k3.push { cls:=.type "tuple",data:=.seq #[.int c tk,x] },gg,dd,tk + 1,oo⟩
  rw [sz,← e4]
  refine wpAny_bind ?_
  unfold Builtin.SmallTypes.ownedTupleIsFree
  refine wpAny_bind (wpAny_field eE4 rfl (x:=.none) rfl (wpAny_pure ?_))
  rw [if_pos rfl]
  refine wpAny_bind (wpAny_rule (wpAny_bind (wpAny_field eE4 rfl (x:=old) rfl (wpAny_bind (wpAny_setField_rec eE4 (by simp) fun k5 eE5 sb5 => ?_)))))
  replace sb5 : Heap.SameBut e k4 k5:=sb5
  replace eE5 : IsEnum k5 e it (c + 1) x:=eE5
  show wpAny (model prog w) A (Builtin.SmallTypes.ownedTupleHandOut (.ref e) (.ref hp.objs.size) >>= _) _ E ⟨k5,gg,dd,tk + 1,oo⟩
  refine wpAny_bind ?_
  unfold Builtin.SmallTypes.ownedTupleHandOut
  refine wpAny_bind (wpAny_setField_rec eE5 (by simp) fun k6 eE6 sb6 => ?_)
  replace sb6 : Heap.SameBut e k5 k6:=sb6
  replace eE6 : IsEnumOut k6 e it (c + 1) x hp.objs.size:=eE6
  refine wpAny_setField_rec eE6 (by simp) fun k7 eE7 sb7 => ?_
  replace sb7 : Heap.SameBut e k6 k7:=sb7
  have up : ∀ b o,b ≠ e→k4.get? b = some o→k7.get? b = some o:=fun b o z h => sb7.extBut b o z (sb6.extBut b o z (sb5.extBut b o z h))
  exact wpAny_bind (wpAny_letGo (wpAny_pure ⟨_,rfl,q k7 eE7 (eI4.at fun o h => up it o ne.symm h) (up _ _ ne2 eT4) fun b o z1 z2 h => up b o z1 (kp4 b o z1 z2 h)⟩))
theorem next_enum {e it l : Addr} {c : Int} {i : Nat} {items : Array Value} {x old : Value} {Q : Option Value→Shared→Prop} (eE : IsEnum s.heap e it c old) (eI : s.heap.IsListIter it l i) (eL : s.heap.IsList l items) (ex : items[i]? = some x) (ne : e ≠ it)
    (q : ∀ h',IsEnumOut h' e it (c + 1) x s.heap.objs.size→h'.IsListIter it l (i + 1)→h'.get? s.heap.objs.size = some { cls:=.type "tuple",data:=.seq #[.int c s.toks,x] } →
      (∀ b o,b ≠ e→b ≠ it→s.heap.get? b = some o→h'.get? b = some o)→Q (some (.ref s.heap.objs.size)) { s with heap:=h',toks:=s.toks + 1 }) : wpAny (model prog w) A (pyNext (.ref e)) Q E s:=by
  have ty : s.TypeIs (.ref e) "enumerate":=⟨_,eE,rfl⟩
  have sl:=F.slot_enumerate_next
  unfold pyNext
  exact wpAny_bind (wpAny_attempt (wpAny_callSpecial?_slot (name:=Str.ofString "__next__") ty sl (wpAny_call_entry sl ty F.entry_enumerate_next (enum_step eE eI eL ex ne fun h' a b c k => wpAny_pure (q h' a b c k)) (F.args_enumerate_next_1 _))))
theorem next_enum_end {e it l : Addr} {c : Int} {i : Nat} {items : Array Value} {old : Value} {Q : Option Value→Shared→Prop} (hh : A.handled = none) (eE : IsEnum s.heap e it c old) (eI : s.heap.IsListIter it l i) (eL : s.heap.IsList l items) (ex : items[i]? = none)
    (q : ∀ h',Heap.ExtBut it s.heap h'→Q none { s with heap:=h' }) : wpAny (model prog w) A (pyNext (.ref e)) Q E s:=by
  have ty : s.TypeIs (.ref e) "enumerate":=⟨_,eE,rfl⟩
  have sl:=F.slot_enumerate_next
  unfold pyNext
  refine wpAny_bind (wpAny_attempt (wpAny_callSpecial?_slot (name:=Str.ofString "__next__") ty sl (wpAny_call_entry sl ty F.entry_enumerate_next ?_ (F.args_enumerate_next_1 _))))
  show wpAny (model prog w) _ (field (.ref e) 2 >>= _) _ _ _
  refine wpAny_bind (wpAny_field eE rfl (x:=.ref it) rfl (wpAny_bind (wpAny_nextOf_list_end hh eI eL ex fun h' x eb hx => ?_)))
  obtain ⟨o,ho,hc⟩:=hx
  exact wpAny_bind (wpAny_isInstance (T:="StopIteration") (b:=true) ⟨o,ho,hc⟩ isSubtype_stop (wpAny_pure (q _ eb)))
end
theorem turned2 {X : Cx} {pins : List (Addr × Obj)} {σ : L2.St} {H : Hp} {s : Shared} {h' : Heap} {t' : Nat} {e it : Addr} {o o' : Obj} {vs : Array Value} (I : Inv X pins σ H s) (k : ∀ b u,b ≠ e→b ≠ it→s.heap.get? b = some u→h'.get? b = some u) (ho : s.heap.get? it = some o) (ho' : h'.get? it = some o')
    (hd : o'.data = .fields vs) (fe : FpOk X pins H e) (fi : FpOk X pins H it) : Inv X pins σ H { s with heap:=h',toks:=t' }:=by
  have I1 : Inv X pins σ H { s with heap:=s.heap.update it fun _ => o',toks:=s.toks }:=I.turned (it:=it) (fun b u hb eb => (Heap.get?_update_other s.heap _ (Ne.symm hb)).trans eb) fi.1 fi.2.1 fi.2.2.2.1 fi.2.2.2.2.1 fi.2.2.2.2.2
  have I2:=I1.turned (h':=h') (t':=t') (it:=e) (fun b u hb eb => ?_) fe.1 fe.2.1 fe.2.2.2.1 fe.2.2.2.2.1 fe.2.2.2.2.2
  · exact I2
  · by_cases z : b = it
    · subst z
      rw [Heap.get?_update_self (fun _ => o') ho (Obj.isFreed_of_fields hd)] at eb
      exact ho'.trans eb
    · exact k b u hb z ((Heap.get?_update_other s.heap _ (Ne.symm z)).symm.trans eb)
noncomputable def Ite (K : PySem.W.Frag) (a : Addr) (c : Int) : It :=
  ⟨fun i H => ∃ xs x,SqL K H a xs ∧ xs[i]? = some x,fun i H v H' => ∃ T x,v = .ref T ∧ H T = none ∧ H' = upd H T (.tup [.int (c + i),x]) ∧ ∀ xs,SqL K H a xs→xs[i]? = some x,fun i H => ∃ xs,SqL K H a xs ∧ xs.length ≤ i⟩
theorem turn_enum {P : Program} {w : World} {K : PySem.W.Frag} {es : List Expr} {k : Nat} {tp : Pos} (a e it : Addr) (c : Int) (ne : e ≠ it) : Turn P w K (.Tuple es k tp) (Ite K a c) [e,it] e (fun i h => (∃ old,IsEnum h e it (c + (i : Nat)) old) ∧ h.IsListIter it a i) where
  mem:=by simp
  obj:=fun i h st b hb => by
    obtain ⟨⟨old,se⟩,o,so,oc,od⟩:=st
    rcases List.mem_cons.mp hb with rfl | hb
    · exact ⟨_,se,fun v z => by
        have z' : Data.fields _ = Data.cell v:=z
        cases z'⟩
    · obtain rfl : b = it:=by simpa using hb
      exact ⟨o,so,fun v z => by rw [od] at z; cases z⟩
  keep:=fun i h h' st kk => ⟨let ⟨old,se⟩:=st.1; ⟨old,kk e (by simp) _ se⟩,st.2.at fun o eo => kk it (by simp) o eo⟩
  item:=by
    intro X hP hw hK hc i pins s σ H E I hf st hg
    subst hP hw hK
    obtain ⟨⟨old,se⟩,si⟩:=st
    obtain ⟨xs,x,hq,hx⟩:=hg
    obtain ⟨its,rv,p,hz⟩:=I.list hq
    obtain ⟨u,hu,ru⟩:=rv.get hx
    have fe:=hf e (by simp)
    have fi:=hf it (by simp)
    have lte : e < s.heap.objs.size:=Heap.lt_size se
    obtain ⟨oi,hoi,hoc,hod⟩:=id si
    have lti : it < s.heap.objs.size:=Heap.lt_size hoi
    refine next_enum se si p.isList (x:=u) (by simpa using hu) ne fun h1 so1 si1 ht1 hk1 => ⟨_,rfl,wpAny_letOwnedTupleGo_enum so1 fun h2 se2 sb2 => ?_⟩
    replace sb2 : Heap.SameBut e h1 h2:=sb2
    have fresh : H s.heap.objs.size = none:=I.hok.fresh (Nat.le_refl _)
    have I1 : Inv X pins σ (upd H s.heap.objs.size (.tup [.int (c + (i : Nat)),x])) { s with heap:=s.heap.push { cls:=.type "tuple",data:=.seq ([.int (c + (i : Nat)) s.toks,u] : List Value).toArray },toks:=s.toks } :=
      I.laid (fun b o eb => Heap.get?_push_of_some _ eb) (Nat.le_refl _) (show ObjOk X.prog X.w _ _ _ (.tup _) from ⟨(by show 2 ≤ sizeLine; decide),_,.cons ⟨_,rfl⟩ (.cons ru .nil),IsTup.new _ _⟩)
    have si2 : h2.IsListIter it a (i + 1):=si1.at fun o eo => (sb2.2 it ne.symm).trans eo
    obtain ⟨o2,ho2,_,hd2⟩:=id si2
    have fo : ∀ b,b < s.heap.objs.size→FpOk X pins H b→FpOk X pins (upd H s.heap.objs.size (.tup [.int (c + (i : Nat)),x])) b:=fun b lb fb => ⟨by rw [upd_ne (Nat.ne_of_lt lb)]; exact fb.1,fb.2⟩
    have I2:=turned2 (h':=h2) (t':=s.toks + 1) I1 (e:=e) (it:=it) (fun b o z1 z2 eb => ?_) (Heap.get?_push_of_some _ hoi) ho2 hd2 (fo e lte fe) (fo it lti fi)
    · refine ⟨.ref s.heap.objs.size,_,I2,rfl,⟨_,x,rfl,fresh,rfl,fun ys hy => by rw [I.list_inj hy hq]; exact hx⟩,⟨⟨u,?_⟩,si2⟩,fun b hb => ?_⟩
      · have ei : c + ((i + 1 : Nat) : Int) = c + (i : Nat) + 1:=by (first | lia | omega)
        rw [ei]
        exact se2
      · rcases List.mem_cons.mp hb with rfl | hb
        · exact (fo _ lte fe).1
        · obtain rfl : b = it:=by simpa using hb
          exact (fo _ lti fi).1
    · rcases Heap.get?_push_cases eb with ⟨rfl,rfl⟩ | eb
      · exact (sb2.2 _ z1).trans ht1
      · exact (sb2.2 _ z1).trans (hk1 b o z1 z2 eb)
  done:=by
    intro X hP hw hK hc i pins s σ H E I hf st hg
    subst hP hw hK
    obtain ⟨⟨old,se⟩,si⟩:=st
    obtain ⟨xs,hq,hx⟩:=hg
    obtain ⟨its,rv,p,hz⟩:=I.list hq
    obtain ⟨f0,f1,f2,f3,f4,f5⟩:=hf it (by simp)
    have hlen:=rv.length
    exact next_enum_end (I.ok.hd hc) se si p.isList (by simp; (first | lia | omega)) fun h' eb => ⟨rfl,I.turned (t':=s.toks) (fun b o hb z => eb b o hb z) f0 f1 f3 f4 f5⟩
  self:=fun _ _ _ _ _ st h => let ⟨_,se⟩:=st.1; wpAny_pyIter_enum se h
noncomputable def iEnum (K : PySem.W.Frag) (ta : TA) : TI:=fun σ H R => ta σ H fun vs H1 => ∃ a,vs = [.ref a] ∧ (∃ xs,SqL K H1 a xs) ∧ R (Ite K a 0) H1
theorem pi_enum {X : Cx} {es : List Expr} {k : Nat} {tp : Pos} {a : Expr} {ta : TA} {p pos : Pos} (hg : Gl X "enumerate") (hm : X.mg "enumerate" = none) (ha : PA X [a] ta) (hs : starEach [a] X.env = [(false,eval a X.env)]:=by rfl) : PI X (.Tuple es k tp) (.Call (.Name "enumerate" p) [a] [] pos) (iEnum X.K ta):=by
  intro pins s σ H R I h
  refine Call_ (ld_blt I hg hm boot_enumerate (PyProof.Rows.callWith_type1 (thn (ha pos pins s σ H _ I h) fun us s1 ⟨vs,H1,I1,r1,q1⟩ => ?_) hs rfl))
  obtain ⟨l,rfl,⟨xs,hq⟩,q⟩:=q1
  cases r1 with
  | cons r rr =>
    cases rr
    cases r
    obtain ⟨its,rv,pl,hz⟩:=I1.list hq
    refine call_enumerate_list pl.isList fun h' se si hsz hk => wpAny_pyIter_enum se ?_
    have I2 : Inv X pins σ H1 { s1 with heap:=h' }:=I1.kept (t':=s1.toks) hk
    refine ⟨s1.heap.objs.size + 1,[s1.heap.objs.size + 1,s1.heap.objs.size],_,_,H1,rfl,I2,turn_enum l _ _ 0 (Nat.succ_ne_self _),⟨⟨.none,by simpa using se⟩,si⟩,fun b hb => ?_,q⟩
    rcases List.mem_cons.mp hb with rfl | hb
    · exact I1.fpOk (Nat.le_succ _) (I1.hok.fresh (Nat.le_succ _))
    · obtain rfl : b = s1.heap.objs.size:=by simpa using hb
      exact I1.fpOk (Nat.le_refl _) (I1.hok.fresh (Nat.le_refl _))
theorem for_enum {K : PySem.W.Frag} {a : Addr} {c : Int} {xs : List V} {g : TG} {tb : TS} {D : Ends} {σ : L2.St} {H : Hp} (Pv : Nat→L2.St→Hp→Prop) (h0 : Pv 0 σ H) (hl : ∀ i σ H,i ≤ xs.length→Pv i σ H→SqL K H a xs)
    (hs : ∀ i x σ H T,xs[i]? = some x→Pv i σ H→H T = none→g (.ref T) σ (upd H T (.tup [.int (c + i),x])) fun σ2 H2 => tb { D with nx:=Pv (i + 1),ct:=Pv (i + 1),bk:=D.nx } σ2 H2) (hd : ∀ σ H,Pv xs.length σ H→D.nx σ H) :
    ∃ W : Nat→Nat→L2.St→Hp→Prop,(∃ m,W 0 m σ H) ∧ ∀ i m σ H,W i m σ H →
      ((Ite K a c).stop i H ∧ D.nx σ H) ∨ ((Ite K a c).go i H ∧ ∃ N : L2.St→Hp→Prop,(∀ σ' H',N σ' H'→∃ m',m' < m ∧ W (i + 1) m' σ' H') ∧ ∀ x H',(Ite K a c).yld i H x H'→g x σ H' fun σ2 H2 => tb { D with nx:=N,ct:=N,bk:=D.nx } σ2 H2):=by
  refine ⟨fun i m σ H => m = xs.length - i ∧ i ≤ xs.length ∧ Pv i σ H,⟨xs.length,by simp,Nat.zero_le _,h0⟩,?_⟩
  rintro i m σ H ⟨rfl,hi,p⟩
  have q:=hl i σ H hi p
  by_cases hlt : i < xs.length
  · refine .inr ⟨⟨xs,_,q,List.getElem?_eq_getElem hlt⟩,Pv (i + 1),fun σ' H' p' => ⟨xs.length - (i + 1),by (first | lia | omega),rfl,hlt,p'⟩,?_⟩
    rintro v H' ⟨T,x,rfl,hT,rfl,y⟩
    exact hs i x σ H T (y xs q) p hT
  · obtain rfl : i = xs.length:=by (first | lia | omega)
    exact .inl ⟨⟨xs,q,Nat.le_refl _⟩,hd σ H p⟩
end L3
namespace L3
open PySem PySem.Spec L2 Ra PyProof.Rows
noncomputable def ev2 {α : Type} : List α→List α
  | [] => []
  | [x] => [x]
  | x :: _ :: l => x :: ev2 l
theorem ev2_map {α β : Type} (f : α→β) : ∀ l : List α,(ev2 l).map f = ev2 (l.map f)
  | [] => rfl
  | [_] => rfl
  | x :: y :: l => congrArg (f x :: ·) (ev2_map f l)
theorem ev2_length {α : Type} : ∀ l : List α,(ev2 l).length = (l.length + 1) / 2
  | [] => by simp [ev2]
  | [_] => by simp [ev2]
  | x :: y :: l => by
    show (ev2 l).length + 1 = (l.length + 1 + 1 + 1) / 2
    rw [ev2_length l]
    (first | lia | omega)
theorem ev2_pick {α : Type} : ∀ l : List α,(List.range ((l.length + 1) / 2)).filterMap (fun k => l[2 * k]?) = ev2 l
  | [] => by simp [ev2]
  | [_] => by simp [ev2,List.range_succ]
  | x :: y :: l => by
    rw [show ((x :: y :: l).length + 1) / 2 = (l.length + 1) / 2 + 1 by simp only [List.length_cons]; (first | lia | omega),List.range_succ_eq_map,List.filterMap_cons]
    show x :: List.filterMap (fun k => (x :: y :: l)[2 * k]?) (List.map Nat.succ (List.range ((l.length + 1) / 2))) = x :: ev2 l
    rw [List.filterMap_map]
    refine congrArg (x :: ·) ?_
    rw [← ev2_pick l]
    rfl
theorem fm_congr2 {α β : Type} {f h : α→Option β} : ∀ {l : List α},(∀ x ∈ l,f x = h x)→l.filterMap f = l.filterMap h
  | [],_ => rfl
  | x :: l,e => by
    rw [List.filterMap_cons,List.filterMap_cons,e x List.mem_cons_self,fm_congr2 fun y hy => e y (List.mem_cons_of_mem _ hy)]
noncomputable def Begun (lo : Option Int) (n : Nat) : Prop:=(lo = none ∧ n = 0) ∨ lo = some (n : Int)
theorem pick_two (its : List Value) {lo : Option Int} {n : Nat} (h : Begun lo n) : slicePick its.toArray lo none (some 2) = (ev2 (its.drop n)).toArray:=by
  unfold slicePick
  congr 1
  obtain ⟨m,hm⟩ : ∃ m,m = min n its.length:=⟨_,rfl⟩
  have eb : sliceBounds lo none (some 2) its.toArray.size = ((m : Int),(its.length : Int),2):=by
    rw [List.size_toArray]
    rcases h with ⟨rfl,rfl⟩ | rfl
    · rw [hm,Nat.zero_min]; rfl
    · simp only [sliceBounds,Option.getD_some,show (2 : Int) > 0 by decide,if_true]
      refine Prod.ext ?_ rfl
      show max 0 (min (if (n : Int) < 0 then (n : Int) + (its.length : Int) else (n : Int)) (its.length : Int)) = (m : Int)
      rw [if_neg (by (first | lia | omega))]
      (first | lia | omega)
  rw [eb]
  have er : sliceRange (m : Int) (its.length : Int) 2 = (List.range (((its.drop n).length + 1) / 2)).map fun k => m + 2 * k:=by
    unfold sliceRange
    have hc : (if (2 : Int) > 0 then (if (m : Int) < (its.length : Int) then ((its.length : Int) - (m : Int) + 2 - 1) / 2 else 0) else (if (m : Int) > (its.length : Int) then ((m : Int) - (its.length : Int) - 2 - 1) / (-2) else 0)).toNat = ((its.drop n).length + 1) / 2:=by
      rw [if_pos (by decide),List.length_drop]
      by_cases h : (m : Int) < (its.length : Int)
      · rw [if_pos h]; (first | lia | omega)
      · rw [if_neg h]; (first | lia | omega)
    show (List.range (if (2 : Int) > 0 then _ else _ : Int).toNat).map _ = _
    rw [hc]
    exact List.map_congr_left fun k _ => by (first | lia | omega)
  show List.filterMap _ (sliceRange (m : Int) (its.length : Int) 2) = ev2 (its.drop n)
  rw [er,List.filterMap_map,← ev2_pick]
  refine fm_congr2 fun k hk => ?_
  have hk':=List.mem_range.mp hk
  rw [List.length_drop] at hk'
  show its.toArray[m + 2 * k]? = (its.drop n)[2 * k]?
  rw [List.getElem?_toArray,List.getElem?_drop,show m = n by (first | lia | omega)]
theorem vals_ev2 : ∀ {xs : List V} {us : List Value},Vals xs us→Vals (ev2 xs) (ev2 us)
  | _,_,.nil => .nil
  | _,_,.cons a .nil => .cons a .nil
  | _,_,.cons a (.cons _ r) => .cons a (vals_ev2 r)
noncomputable def tStep2 (K : PySem.W.Frag) (te : TE) (tl : TO) (ts : TE) : TE:=fun σ H Q => te σ H fun x H1 => tl σ H1 fun l H2 => ts σ H2 fun y H3 => ∃ a xs n,x = .ref a ∧ y = .int 2 ∧ Begun l n ∧ SqL K H3 a xs ∧ ∀ p,H3 p = none→Q (.ref p) (upd H3 p (.lst (ev2 (xs.drop n))))
theorem pe_step2 {X : Cx} {e st : Expr} {lo : Option Expr} {te ts : TE} {tl : TO} {p2 pos : Pos} (he : PE X e te) (hl : PO X lo tl) (hs : PE X st ts) : PE X (.Subscript e (.Slice lo none (some st) p2) pos) (tStep2 X.K te tl ts):=by
  intro pins s σ H Q I h
  refine Subscript_ (thn (he pins s σ H _ I h) fun v s1 ⟨x,H1,I1,r1,q1⟩ => ?_)
  refine wpAny_Slice (thn (hl pins s1 σ H1 _ I1 q1) fun vl s2 ⟨l,H2,I2,pl,q2⟩ => ?_)
  rw [evalPart_none,evalPart_some]
  refine wpAny_pure (thn (hs pins s2 σ H2 _ I2 q2) fun w s3 ⟨y,H3,I3,r3,q3⟩ => ?_)
  obtain ⟨a,xs,n,rfl,rfl,hb,hx,q⟩:=q3
  cases r1
  obtain ⟨t,rfl⟩:=r3
  have I4 : Inv X pins σ H3 { s3 with heap:=s3.heap.push { cls:=.type "slice",data:=.fields #[vl,.none,.int 2 t] } }:=I3.kept (t':=s3.toks) fun b ob q => Heap.get?_push_of_some _ q
  obtain ⟨its,rv,ht,hz⟩:=I4.list hx
  have hlen:=rv.length
  show wpAny (model X.prog X.w) X.A (subscriptTail e (.Slice lo none (some st) p2) (.ref a) (.ref s3.heap.objs.size)) (EP X pins σ Q) X.xe { s3 with heap:=s3.heap.push { cls:=.type "slice",data:=.fields #[vl,.none,.int 2 t] } }
  refine tail_any (ops:=[.ref a,.ref s3.heap.objs.size]) ht.isList.typeIs slot_list_getitem.lookup ?_ (by with_unfolding_all rfl)
  refine wpAny_getItem_list_slice ht.isList (Heap.IsSliceOf.new ..) pl .none (.int 2 t) (by simp) ?_ (by rw [List.size_toArray] <;> (first | lia | omega))
  rw [pick_two its hb]
  refine ⟨.ref _,_,I4.laid (t':=s3.toks) (o:=.lst (ev2 (xs.drop n))) (fun b ob q => Heap.get?_push_of_some _ q) (Nat.le_refl _) ?_,rfl,q _ (I4.hok.fresh (Nat.le_refl _))⟩
  refine ⟨?_,_,0,vals_ev2 (rv.drop n),Heap.get?_push_size _ rfl⟩
  rw [ev2_length,List.length_drop]
  (first | lia | omega)
end L3
namespace L3
open PySem PySem.Spec PyProof.Rows L2 Ra
theorem call_int_bl {X : Cx} : CallR X (.type "int") (fun xs H Q => ∃ b,xs = [.bl b] ∧ Q (.int (if b then 1 else 0)) H):=by
  intro pins s σ H xs us Q I r h
  obtain ⟨b,rfl,q⟩:=h
  obtain ⟨u,rfl,rx⟩:=vals1 r
  cases rx
  exact call_int_bool ⟨.int (if b then 1 else 0),H,I.tok _,⟨_,rfl⟩,q⟩
end L3
namespace L3
open PySem PySem.Spec PyProof.Rows L2 Ra
theorem got {P : Program} {w : World} {H : Hp} {h : Heap} {a : Addr} {o : HO} (x : ObjOk P w H h a o) : ∃ ob,h.get? a = some ob:=by
  induction o with
  | lst xs => obtain ⟨_,_,_,_,e⟩:=x; exact ⟨_,e⟩
  | tup xs => obtain ⟨_,_,_,ob,e,_⟩:=x; exact ⟨_,e⟩
  | dK kvs => obtain ⟨_,_,_,_,o,_,_,e,_⟩:=x; exact ⟨_,e⟩
  | dT kvs => obtain ⟨_,_,_,_,o,_,_,e,_⟩:=x; exact ⟨_,e⟩
  | set S n => obtain ⟨o,_,_,_,e,_⟩:=x; exact ⟨_,e⟩
  | ins C dx fs => obtain ⟨_,_,_,e,_⟩:=x; exact ⟨_,e⟩
  | own y => exact x
  | xd fs => obtain ⟨_,⟨_,_,_,e,_⟩,_⟩:=x; exact ⟨_,e⟩
  | rng lo hi => obtain ⟨_,_,_,e⟩:=x; exact ⟨_,e⟩
  | frz ob u ih => obtain ⟨e,_⟩:=x; exact ⟨_,e⟩
  | tbl ps => exact ⟨_,x⟩
  | met f y => exact ⟨_,x⟩
  | ext φ => obtain ⟨_,e,_⟩:=x; exact e
structure Fly (outer : List Env) (H : Hp) (h0 : Heap) (a : Addr) (C : Value) (h : Heap) : Prop where
  ex : ∃ B T a0,Heap.FlyingW B outer a C a0 h ∧ (∀ b o,h.get? b = some o→b ∉ frs outer→b ≠ a→b ≠ T→B.get? b = some o) ∧ H a = none ∧ H T = none ∧ h0.get? a = none ∧ h0.get? T = none
theorem Fly.of {outer : List Env} {H : Hp} {h0 B h : Heap} {a : Addr} {C a0 : Value} (hf : Heap.FlyingW B outer a C a0 h) (ha : H a = none) (h0a : h0.get? a = none)
    (hT : ∀ T oT ts,B.get? T = none→h.get? T = some oT→oT.data = .fields ts→T ≠ a→H T = none ∧ h0.get? T = none) : Fly outer H h0 a C h:=by
  obtain ⟨f1,f2,f3,oe,vs,T,oT,ts,he,hc,hd,h1,hB,hne,hT',hdT,h3⟩:=hf
  obtain ⟨t1,t2⟩:=hT T oT ts hB hT' hdT hne
  refine ⟨PySem.W.hideAll h (frs outer ++ [a,T]),T,a0,⟨fun b o q => PySem.W.of_hideAll _ q,PySem.W.hideAll_none _ (by simp),PySem.W.funFrames_hide f3 fun env he b hb => List.mem_append_left _ (List.mem_filterMap.mpr ⟨env,he,hb⟩),oe,vs,T,oT,ts,he,hc,hd,h1,PySem.W.hideAll_none _ (by simp),hne,hT',hdT,h3⟩,
    fun b o q n1 n2 n3 => PySem.W.hideAll_get _ q fun z => ?_,ha,t1,h0a,t2⟩
  rcases List.mem_append.mp z with z | z
  · exact n1 z
  · simp at z
    exact z.elim n2 n3
noncomputable def CXe (P : Program) (w : World) : CXT:=fun outer H s E e s' => ∃ a C H',e = .ref a ∧ s'.os = s.os ∧ AllBare s'.gens ∧ Un (frs outer) [] H H' s.heap s'.heap ∧ HOk P w H' s'.heap ∧ Fly outer H' s.heap a C s'.heap ∧ E C none H'
section
variable {P : Program} {w : World} {K : PySem.W.Frag} {mg : Str→Option Value} {base : Heap} {N : List Str} {qual : Str} {scope : Scope} {f : Addr} {cd : Value} {A : Around} {outer : List Env} {s : Shared} {H : Hp} {E : XK}
  {pins : List (Addr × Obj)} {σ : L2.St} {H1 : Hp} {s1 : Shared}
theorem left_un {h2 : Heap} (I : Inv (cxOf (CXe P w) P w K mg base N qual scope f cd A outer s H E) pins σ H1 s1) (bad : Addr→Prop) (hbad : ∀ b,bad b→s.heap.get? b = none ∧ H1 b = none)
    (kk : ∀ b o,s1.heap.get? b = some o→b ∉ frs (envOfC qual scope s.heap.objs.size f cd :: outer)→¬ bad b→h2.get? b = some o)
    (ks : ∀ b o,s1.heap.get? b = some o→b ∈ frs (envOfC qual scope s.heap.objs.size f cd :: outer)→∃ sl,h2.get? b = some { o with slots:=sl }) :
    Un (frs outer) [] H H1 s.heap h2 ∧ HOk P w H1 h2:=by
  have nfr : ∀ b o,s.heap.get? b = some o→b ∉ frs outer→b ∉ frs (envOfC qual scope s.heap.objs.size f cd :: outer):=fun b o q nb hb => by
    rcases List.mem_cons.mp (show b ∈ s.heap.objs.size :: frs outer from hb) with z | z
    · rw [z] at q
      exact absurd (Heap.lt_size q) (Nat.lt_irrefl _)
    · exact nb z
  have nbad : ∀ b o,s.heap.get? b = some o→¬ bad b:=fun b o q z => by rw [(hbad b z).1] at q; cases q
  have nex : ∀ b,b ∉ (cxOf (CXe P w) P w K mg base N qual scope f cd A outer s H E).ex:=fun b z => absurd (show b ∈ ([] : List Addr) from z) (by simp)
  refine ⟨⟨fun b o q n hb _ => kk b o (I.base.keep b o q n hb (nex b)) (nfr b o q hb) (nbad b o q),fun b o q n hb _ => ?_,fun b o q n _ => I.base.free b o q n (nex b),fun b o q _ => ?_,I.base.tups,I.base.frzs,I.base.tbls⟩,fun b ob q => ?_⟩
  · obtain ⟨sl,q1⟩:=I.base.slot b o q n hb (nex b)
    obtain ⟨sl',q2⟩:=ks b _ q1 (List.mem_cons_of_mem _ hb)
    exact ⟨sl',q2⟩
  · obtain ⟨o',q1⟩:=I.base.there b o q (nex b)
    by_cases hb : b ∈ frs (envOfC qual scope s.heap.objs.size f cd :: outer)
    · obtain ⟨sl,q2⟩:=ks b o' q1 hb
      exact ⟨_,q2⟩
    · exact ⟨o',kk b o' q1 hb (nbad b o q)⟩
  · have tr : ∀ c u,H1 c = some u→c ∉ frs (envOfC qual scope s.heap.objs.size f cd :: outer) ∧ ¬ bad c:=fun c u e => by
      refine ⟨fun z => ?_,fun z => ?_⟩
      · have:=I.stkFree c z
        rw [e] at this
        cases this
      · have:=(hbad c z).2
        rw [e] at this
        cases this
    refine (I.hok b ob q).stay (fun c u hc qc => ?_) (fun _ z => z) fun _ _ z => z
    have t : c ∉ frs (envOfC qual scope s.heap.objs.size f cd :: outer) ∧ ¬ bad c:=by
      rcases hc with rfl | hc
      · exact tr c ob q
      · exact tr c _ hc
    exact kk c u qc t.1 t.2
theorem leave_made {h' : Heap} {e C : Addr} {vs : List Value} (I : Inv (cxOf (CXe P w) P w K mg base N qual scope f cd A outer s H E) pins σ H1 s1) (hx : Heap.MadeExcOf s1.heap h' e (.ref C) vs) (hE : E (.ref C) none H1) :
    (cxOf (CXe P w) P w K mg base N qual scope f cd A outer s H E).xe (.ref e) { s1 with heap:=h' }:=by
  show wpAny (model P w) (A.deeper (envOfC qual scope s.heap.objs.size f cd)) (leaving (envOfC qual scope s.heap.objs.size f cd) (.ref e)) _ _ { s1 with heap:=h' }
  have fsub : ∀ env ∈ (envOfC qual scope s.heap.objs.size f cd :: outer),∀ b,env.frame = some b→b ∈ frs (envOfC qual scope s.heap.objs.size f cd :: outer):=fun env he b hb => List.mem_filterMap.mpr ⟨env,he,hb⟩
  refine wpAny_leaves_madeW (base:=PySem.W.hideAll s1.heap (frs (envOfC qual scope s.heap.objs.size f cd :: outer))) I.ok.frames rfl (fun b o q => PySem.W.of_hideAll _ q) (PySem.W.funFrames_hide I.stack fsub) hx fun h2 t fl tup ht up => ?_
  have kk : ∀ b o,s1.heap.get? b = some o→b ∉ frs (envOfC qual scope s.heap.objs.size f cd :: outer)→h2.get? b = some o:=fun b o q nb => fl.1 b o (PySem.W.hideAll_get _ q nb)
  have ks : ∀ b o,s1.heap.get? b = some o→b ∈ frs (envOfC qual scope s.heap.objs.size f cd :: outer)→∃ sl,h2.get? b = some { o with slots:=sl }:=fun b o q hb => by
    obtain ⟨_,o',q',hd⟩:=I.stack.mem hb
    rw [q] at q'
    cases q'
    exact up b o (hx.keeps b o q) hd
  obtain ⟨un,hok⟩:=left_un I (fun _ => False) (fun _ z => z.elim) (fun b o q nb _ => kk b o q nb) ks
  have tr : ∀ c u,H1 c = some u→∃ ob,s1.heap.get? c = some ob ∧ c ∉ frs (envOfC qual scope s.heap.objs.size f cd :: outer):=fun c u q => by
    obtain ⟨ob,qo⟩:=got (I.hok c u q)
    refine ⟨ob,qo,fun z => ?_⟩
    have:=I.stkFree c z
    rw [q] at this
    cases this
  have nex : ∀ b,b ∉ (cxOf (CXe P w) P w K mg base N qual scope f cd A outer s H E).ex:=fun b z => absurd (show b ∈ ([] : List Addr) from z) (by simp)
  refine ⟨e,.ref C,H1,rfl,I.os,I.bare,un,hok,Fly.of fl ?_ ?_ fun T oT ts hB hT hd hne => ⟨?_,?_⟩,hE⟩
  · cases q : H1 e with
    | none => rfl
    | some u =>
      obtain ⟨ob,qo,_⟩:=tr e u q
      rw [hx.new] at qo
      cases qo
  · cases q : s.heap.get? e with
    | none => rfl
    | some o =>
      obtain ⟨o',q1⟩:=I.base.there e o q (nex e)
      rw [hx.new] at q1
      cases q1
  · cases q : H1 T with
    | none => rfl
    | some u =>
      obtain ⟨ob,qo,nb⟩:=tr T u q
      rw [PySem.W.hideAll_get _ qo nb] at hB
      cases hB
  · cases q : s.heap.get? T with
    | none => rfl
    | some o =>
      obtain ⟨o',q1⟩:=I.base.there T o q (nex T)
      by_cases hb : T ∈ frs (envOfC qual scope s.heap.objs.size f cd :: outer)
      · rcases List.mem_cons.mp (show T ∈ s.heap.objs.size :: frs outer from hb) with z | z
        · rw [z] at q
          exact absurd (Heap.lt_size q) (Nat.lt_irrefl _)
        · obtain ⟨_,o2,q2,hd2⟩:=fl.2.2.1.mem z
          rw [hT] at q2
          cases q2
          exact absurd hd (hd2 ts)
      · rw [PySem.W.hideAll_get _ q1 hb] at hB
        cases hB
theorem pass_on : Passes (CXe P w) (cxOf (CXe P w) P w K mg base N qual scope f cd A outer s H E) E:=by
  intro pins σ H1 s1 e s2 I h
  obtain ⟨a,C,H2,rfl,os,bare,un,hok,fly,hE⟩:=h
  have I2:=I.call' (s':=s2) (ch:=[]) os un hok bare (fun b z => absurd z (by simp))
  obtain ⟨B,T,a0,fl,cov,ha,hT,h0a,h0T⟩:=fly.ex
  show wpAny (model P w) (A.deeper (envOfC qual scope s.heap.objs.size f cd)) (leaving (envOfC qual scope s.heap.objs.size f cd) (.ref a)) _ _ s2
  have nex : ∀ b,b ∉ (cxOf (CXe P w) P w K mg base N qual scope f cd A outer s H E).ex:=fun b z => absurd (show b ∈ ([] : List Addr) from z) (by simp)
  have old : ∀ b,s1.heap.get? b = none→s.heap.get? b = none:=fun b n => by
    cases q : s.heap.get? b with
    | none => rfl
    | some o =>
      obtain ⟨o',q1⟩:=I.base.there b o q (nex b)
      rw [n] at q1
      cases q1
  refine wpAny_leaves_onW I.ok.frames rfl fl fun h3 fl3 up => ?_
  have ks : ∀ b o,s2.heap.get? b = some o→b ∈ frs (envOfC qual scope s.heap.objs.size f cd :: outer)→∃ sl,h3.get? b = some { o with slots:=sl }:=fun b o q hb => by
    obtain ⟨_,o',q',hd⟩:=I2.stack.mem hb
    rw [q] at q'
    cases q'
    exact up b o q hd
  obtain ⟨un3,hok3⟩:=left_un I2 (fun b => b = a ∨ b = T) (fun b z => by
    rcases z with rfl | rfl
    · exact ⟨old _ h0a,ha⟩
    · exact ⟨old _ h0T,hT⟩) (fun b o q nb nz => fl3.1 b o (cov b o q nb (fun z => nz (.inl z)) fun z => nz (.inr z))) ks
  refine ⟨a,C,H2,rfl,I2.os,bare,un3,hok3,Fly.of fl3 ha (old a h0a) fun T2 oT ts hB hT2 hd hne => ⟨?_,?_⟩,hE⟩
  · cases q : H2 T2 with
    | none => rfl
    | some u =>
      obtain ⟨ob,qo⟩:=got (I2.hok T2 u q)
      have nb : T2 ∉ frs (envOfC qual scope s.heap.objs.size f cd :: outer):=fun z => by
        have:=I2.stkFree T2 z
        rw [q] at this
        cases this
      have nT : T2 ≠ T:=fun z => by
        rw [z,hT] at q
        cases q
      rw [cov T2 ob qo nb hne nT] at hB
      cases hB
  · cases q : s.heap.get? T2 with
    | none => rfl
    | some o =>
      obtain ⟨o',q1⟩:=I2.base.there T2 o q (nex T2)
      have nT : T2 ≠ T:=fun z => by
        rw [z,old T h0T] at q
        cases q
      by_cases hb : T2 ∈ frs (envOfC qual scope s.heap.objs.size f cd :: outer)
      · rcases List.mem_cons.mp (show T2 ∈ s.heap.objs.size :: frs outer from hb) with z | z
        · rw [z] at q
          exact absurd (Heap.lt_size q) (Nat.lt_irrefl _)
        · obtain ⟨_,o2,q2,hd2⟩:=fl3.2.2.1.mem z
          rw [hT2] at q2
          cases q2
          exact absurd hd (hd2 ts)
      · rw [cov T2 o' q1 hb hne nT] at hB
        cases hB
end
abbrev veMro : List Value:=[.type "ValueError",.type "Exception",.type "BaseException",.type "object"]
noncomputable def OwnErr (K : PySem.W.Frag) (C : Addr) : Prop:=PySem.W.excIn K C veMro "ValueError.__new__" = true
theorem OwnErr.parts {K : PySem.W.Frag} {h : Heap} {C : Addr} (X : K.In h) (e : OwnErr K C) :
    ∃ bm Nn nm qn bs hd sn sub ab col dd k0 k1 k2 k3 k5 mN,h.get? C = some (excClassObj nm qn C Nn bs bm hd sn sub ab col dd k0 k1 k2 k3 k5 "ValueError.__new__") ∧ h.Ns Nn mN ∧ mN "__init__" = none ∧ OwnTail h veMro bm:=by
  unfold OwnErr PySem.W.excIn at e
  split at e
  · rename_i d1 c1 l1 look
    split at e
    · rename_i C1 b1 x0 x1 x2 x3 n1 x5 em es
      simp only [Bool.and_eq_true,beq_iff_eq,Bool.not_eq_true'] at e
      obtain ⟨⟨⟨⟨⟨e1,e2⟩,e3⟩,e4⟩,e5⟩,e6⟩:=e
      subst e1 e2
      obtain ⟨nm,bs,mro,ns,qn,hd,sn,sub,ab,col,del⟩:=c1
      dsimp only at em e3 e5 e6
      subst em e3
      obtain ⟨arr⟩:=l1
      have es' : arr = [x0,x1,x2,x3,some (.builtin "ValueError.__new__"),x5]:=es
      subst es'
      exact ⟨b1,ns,nm,qn,bs,hd,sn,sub,ab,col,d1,x0,x1,x2,x3,x5,_,X _ _ look,.of_isNs (PySem.W.isNs_of_in X e5),PySem.W.nsMap_none_of_in X e5 e6,PySem.W.tail_of_in X e4⟩
    · cases e
  · cases e
noncomputable def tRaise (E : XK) (C : Addr) (ta : TA) : TS:=fun _ σ H => ta σ H fun vs H1 => vs.length ≤ sizeLine ∧ E (.ref C) none H1
section
variable {P : Program} {w : World} {K : PySem.W.Frag} {mg : Str→Option Value} {base : Heap} {N : List Str} {qual : Str} {scope : Scope} {f : Addr} {cd : Value} {A : Around} {outer : List Env} {s : Shared} {H : Hp} {E : XK}
theorem ps_raise {x : Str} {C : Addr} {np cpos pos : Pos} {e0 : Expr} {rest : List Expr} {ta : TA} (hm : mg x = some (.ref C)) (ho : OwnErr K C) (ha : PA (cxOf (CXe P w) P w K mg base N qual scope f cd A outer s H E) (e0 :: rest) ta)
    (hg : Gl (cxOf (CXe P w) P w K mg base N qual scope f cd A outer s H E) x:=by rfl) (hd : (x == ("__debug__" : Str)) = false:=by decide)
    (he : starEach (e0 :: rest) (envOfC qual scope s.heap.objs.size f cd) = (false,eval e0 (envOfC qual scope s.heap.objs.size f cd)) :: starEach rest (envOfC qual scope s.heap.objs.size f cd):=by rfl)
    (hpl : (backTo cpos (starEach rest (envOfC qual scope s.heap.objs.size f cd))).any (·.1) = false:=by rfl) :
    PS (cxOf (CXe P w) P w K mg base N qual scope f cd A outer s H E) (.Raise (some (.Call (.Name x np) (e0 :: rest) [] cpos)) none pos) (tRaise E C ta):=by
  intro pins s1 σ H1 D I h
  obtain ⟨bm,Nn,nm,qn,bs,hd',sn,sub,ab,col,dd,k0,k1,k2,k3,k5,mN,hC,hN,hni,T⟩:=ho.parts I.mod.kin
  refine wpAny_Raise_call_subT (C:=C) (nm:=nm) (q:=qn) (N:=Nn) (bs:=bs) (bm:=bm) (hdct:=hd') (sn:=sn) (sub:=sub) (ab:=ab) (col:=col) (dd:=dd) (k0:=k0) (k1:=k1) (k2:=k2) (k3:=k3) (k5:=k5)
    PySem.F.excBase_ValueError (mN:=mN) (T.hasType PySem.F.excBase_ValueError.hasBase) (I.ok.hd rfl) ?_ hni (ld_glob I hg hm ⟨rfl,?_⟩ hd)
  · show (backTo cpos (starEach (e0 :: rest) (envOfC qual scope s.heap.objs.size f cd))).any (·.1) = false
    rw [he]
    show (false || (backTo cpos (starEach rest (envOfC qual scope s.heap.objs.size f cd))).any (·.1)) = false
    rw [hpl]
    rfl
  · have q:=ha cpos pins s1 σ H1 _ I h
    show wpAny (model P w) _ (evalArgs (.ref C) true (backTo cpos (starEach (e0 :: rest) (envOfC qual scope s.heap.objs.size f cd))) []) _ _ s1
    have q' : wpAny (model P w) (A.deeper (envOfC qual scope s.heap.objs.size f cd)) (spliced (backTo cpos (starEach (e0 :: rest) (envOfC qual scope s.heap.objs.size f cd)))) _ _ s1:=q
    rw [he] at q' ⊢
    refine Calls.evalArgs_plain (wpAny_mono q' (fun us s2 h2 => ?_) fun _ _ z => z)
    obtain ⟨vs,H2,I2,r,hl,hE⟩:=h2
    exact ⟨rfl,by rw [← r.length]; exact hl,I2.bk _ _ hC,hN.keeps I2.bk,T.keeps I2.bk,fun h' e hx => leave_made I2 hx hE⟩
end
end L3
namespace L3
open PySem PySem.Spec PyProof.Rows L2 Ra
structure CalX (P : Program) (w : World) (K : PySem.W.Frag) (mg : Str→Option Value) (base : Heap) (x : Str) (k : Nat) (ps : List Str) (ds : List Value) (dvs : List V) (sp : Sp) : Prop where
  ex : ∃ f fd,FnOk P w K mg base (CXe P w) k f fd ps sp ∧ Binds K fd ps ds ∧ PySem.W.keepIn K (.ref f) = true ∧ mg x = some (.ref f)
  dv : Vals dvs ds
theorem pe_clX {P : Program} {w : World} {K : PySem.W.Frag} {mg : Str→Option Value} {base : Heap} {N : List Str} {qual : Str} {scope : Scope} {f : Addr} {cd : Value} {A : Around} {outer : List Env} {s : Shared} {H : Hp} {E : XK}
    {x : Str} {k j : Nat} {ps : List Str} {ds : List Value} {dvs : List V} {sp : Sp} {e : Expr} {es : List Expr} {t : TA} {p pos : Pos} (C : CalX P w K mg base x k ps ds dvs sp) (hr : Room j (A.deeper (envOfC qual scope s.heap.objs.size f cd)))
    (ha : PA (cxOf (CXe P w) P w K mg base N qual scope f cd A outer s H E) (e :: es) t) (hkj : k ≤ j:=by decide) (hg : Gl (cxOf (CXe P w) P w K mg base N qual scope f cd A outer s H E) x:=by rfl)
    (hdb : (x == ("__debug__" : Str)) = false:=by decide) (he : starEach (e :: es) (envOfC qual scope s.heap.objs.size f cd) = (false,eval e (envOfC qual scope s.heap.objs.size f cd)) :: starEach es (envOfC qual scope s.heap.objs.size f cd):=by rfl)
    (hpl : (backTo pos (starEach es (envOfC qual scope s.heap.objs.size f cd))).any (·.1) = false:=by rfl) :
    PE (cxOf (CXe P w) P w K mg base N qual scope f cd A outer s H E) (.Call (.Name x p) (e :: es) [] pos) (tCall sp dvs E t):=by
  obtain ⟨f,fd,F,b,kp,m⟩:=C.ex
  exact pe_call F (hr.mono hkj) hg m kp b C.dv pass_on ha hdb he hpl
theorem okX {P : Program} {w : World} {K : PySem.W.Frag} {mg : Str→Option Value} {base : Heap} {x qual : Str} {st : Stmt} {f : Addr} {fd : FuncData} {N ps : List Str} {k : Nat} {sp : Sp} {dV : Value}
    (F : ∃ (oc : Value) (od : Option Addr) (kV doc pm : Value) (an : Option Addr) (cdv ct : Value) (osl : Array (Option Value)),
      fd = PySem.W.fnOf x qual (defArgs st) (defBody st) (defScope st) dV kV doc pm an cdv ct ∧ K.lookup f = some ⟨oc,od,.func fd,osl⟩ ∧ PySem.W.codeIn K cdv qual = true)
    (S : FnScope N ps (defScope st)) (len : ∀ vs H Q E,sp vs H Q E→vs.length = ps.length)
    (hbody : ∀ (cdv : Value) (A : Around) (outer : List Env) (s : Shared) (H : Hp) (vs : List V) (Q : VK) (E : XK),Room k (A.deeper (envOfC qual (defScope st) s.heap.objs.size f cdv))→sp vs H Q E →
      ∃ t,PSs (cxOf (CXe P w) P w K mg base N qual (defScope st) f cdv A outer s H E) (defBody st) t ∧ t { nx:=fun _ H' => Q .non H',rt:=Q } (start N vs) H) : FnOk P w K mg base (CXe P w) (k + 1) f fd ps sp:=by
  obtain ⟨oc,od,kV,doc,pm,an,cdv,ct,osl,rfl,lk,hcd⟩:=F
  exact fn_of lk hcd S len fun A outer s H vs Q E hr hsp => hbody cdv A outer s H vs Q E hr hsp
noncomputable def XP (X : Cx) (pins : List (Addr × Obj)) (R : Value→L2.St→Hp→Prop) (e : Value) (s' : Shared) : Prop :=
  ∃ a C σ' H' H1 s1,e = .ref a ∧ Inv X pins σ' H1 s1 ∧ Inv X pins σ' H' s' ∧ Fly X.stack H' s1.heap a C s'.heap ∧ R C σ' H'
noncomputable def PSx (X : Cx) (st : Stmt) (t : (Value→L2.St→Hp→Prop)→TS) : Prop :=
  ∀ (pins : List (Addr × Obj)) (s : Shared) (σ : L2.St) (H : Hp) (D : Ends) (R : Value→L2.St→Hp→Prop),Inv X pins σ H s→t R D σ H→wpAny (model X.prog X.w) X.A (exec st X.env) (SP X pins D) (XP X pins R) s
noncomputable def tXCall (sp : Sp) (dvs : List V) (t : TA) : (Value→L2.St→Hp→Prop)→TS:=fun R D σ H => t σ H fun vs H1 => sp (vs ++ dvs) H1 (fun _ H2 => D.nx σ H2) fun C _ H2 => R C σ H2
noncomputable def hdl (X : Cx) (a : Addr) : Cx:={ X with A:=X.A.mark (some (.ref a)),calm:=false,xe:=fun _ _ => False }
section
variable {X : Cx} {pins : List (Addr × Obj)} {σ : L2.St} {H : Hp} {s : Shared}
theorem inHdl (I : Inv X pins σ H s) (a : Addr) : Inv (hdl X a) pins σ H s :=
  ⟨⟨I.ok.mod,I.ok.kind,I.ok.glob,I.ok.blt,I.ok.above,I.ok.inj,I.ok.has,I.ok.cab,fun z => absurd (show false = true from z) Bool.false_ne_true,I.ok.frames,I.ok.stk,I.ok.exf,I.ok.bs,I.ok.bsz,I.ok.noex,I.ok.exfs,I.ok.funs,I.ok.frf⟩,
    I.os,I.bare,I.base,I.loc,I.cell,I.free,I.freeC,I.pin,I.hok,I.len⟩
theorem outHdl {a : Addr} (I : Inv (hdl X a) pins σ H s) (ok : X.Ok) : Inv X pins σ H s:=⟨ok,I.os,I.bare,I.base,I.loc,I.cell,I.free,I.freeC,I.pin,I.hok,I.len⟩
noncomputable def more (X : Cx) (l : List Addr) : Cx:={ X with ex:=X.ex ++ l }
theorem inMore {l : List Addr} (I : Inv X pins σ H s) (hl : ∀ b ∈ l,b ≠ X.env.locals ∧ (∀ x c,X.env.cells.lookup x = some c→c ≠ b) ∧ X.base.get? b = none ∧ b ∉ X.fs) : Inv (more X l) pins σ H s:=by
  refine ⟨⟨I.ok.mod,I.ok.kind,I.ok.glob,I.ok.blt,I.ok.above,I.ok.inj,I.ok.has,I.ok.cab,I.ok.hd,I.ok.frames,I.ok.stk,fun b hb => ?_,I.ok.bs,I.ok.bsz,fun b o e hb => ?_,fun b hb => ?_,I.ok.funs,I.ok.frf⟩,
    I.os,I.bare,I.base.mono (fun _ z => z) (fun b z => List.mem_append_left _ z),I.loc,I.cell,I.free,I.freeC,I.pin,I.hok,I.len⟩
  · rcases List.mem_append.mp hb with z | z
    · exact I.ok.exf b z
    · exact ⟨(hl b z).1,(hl b z).2.1⟩
  · rcases List.mem_append.mp hb with z | z
    · exact I.ok.noex b o e z
    · have e' : X.base.get? b = some o:=e
      rw [(hl b z).2.2.1] at e'
      cases e'
  · rcases List.mem_append.mp hb with z | z
    · exact I.ok.exfs b z
    · exact (hl b z).2.2.2
theorem outMore {l : List Addr} (I : Inv (more X l) pins σ H s) (ok : X.Ok) (hl : ∀ b ∈ l,X.s₀.heap.get? b = none) : Inv X pins σ H s:=by
  have nl : ∀ b o,X.s₀.heap.get? b = some o→b ∉ X.ex→b ∉ (more X l).ex:=fun b o q nx z => by
    rcases List.mem_append.mp z with z | z
    · exact nx z
    · rw [hl b z] at q
      cases q
  exact ⟨ok,I.os,I.bare,⟨fun b o q n h1 h2 => I.base.keep b o q n h1 (nl b o q h2),fun b o q n h1 h2 => I.base.slot b o q n h1 (nl b o q h2),fun b o q n h2 => I.base.free b o q n (nl b o q h2),fun b o q h2 => I.base.there b o q (nl b o q h2),I.base.tups,I.base.frzs,I.base.tbls⟩,
    I.loc,I.cell,I.free,I.freeC,I.pin,I.hok,I.len⟩
theorem landed {H1 : Hp} {s1 : Shared} {a T : Addr} {B h2 : Heap} (hex : X.ex = []) (I0 : Inv X pins σ H1 s1) (I : Inv X pins σ H s) (h0a : s1.heap.get? a = none) (h0T : s1.heap.get? T = none) (ha : H a = none) (hT : H T = none)
    (cov : ∀ b o,s.heap.get? b = some o→b ∉ frs X.stack→b ≠ a→b ≠ T→B.get? b = some o) (stay : B.StaysIn h2) (up : s.heap.UpToSlots h2) : Inv X pins σ H { s with heap:=h2 }:=by
  have ne1 : ∀ b o,s1.heap.get? b = some o→b ≠ a ∧ b ≠ T:=fun b o q => ⟨(fun z => by rw [z,h0a] at q; cases q),(fun z => by rw [z,h0T] at q; cases q)⟩
  have cond : ∀ b ∈ [a,T],b ≠ X.env.locals ∧ (∀ x c,X.env.cells.lookup x = some c→c ≠ b) ∧ X.base.get? b = none ∧ b ∉ X.fs:=fun b hb => by
    have hb' : b = a ∨ b = T:=by simpa using hb
    have nb : ∀ c o,s1.heap.get? c = some o→c ≠ b:=fun c o q => by
      rcases hb' with rfl | rfl
      · exact (ne1 c o q).1
      · exact (ne1 c o q).2
    refine ⟨?_,fun x c e => ?_,?_,fun z => ?_⟩
    · obtain ⟨m,⟨o,_,_,q,_⟩,_⟩:=I0.loc
      exact (nb _ o q).symm
    · obtain ⟨v,o,q,_⟩:=I0.cell x c e
      exact nb c o q
    · cases q : X.base.get? b with
      | none => rfl
      | some o => exact absurd rfl (nb b o (I0.bk b o q))
    · obtain ⟨_,o,q,_⟩:=I0.funs.mem z
      exact absurd rfl (nb b o q)
  have tr : ∀ c u,H c = some u→c ∉ frs X.stack ∧ c ≠ a ∧ c ≠ T:=fun c u e => by
    refine ⟨fun z => ?_,fun z => ?_,fun z => ?_⟩
    · have:=I.stkFree c z
      rw [e] at this
      cases this
    · rw [z,ha] at e
      cases e
    · rw [z,hT] at e
      cases e
  have ks : ∀ b o,s.heap.get? b = some o→b ∈ frs X.stack→∃ sl,h2.get? b = some { o with slots:=sl }:=fun b o q hb => by
    obtain ⟨_,o',q',hd⟩:=I.stack.mem hb
    rw [q] at q'
    cases q'
    exact up b o q hd
  have U : Un (frs X.stack) [a,T] H H s.heap h2:=by
    refine ⟨fun b o q _ h1 h3 => stay b o (cov b o q h1 (fun z => h3 (by simp [z])) fun z => h3 (by simp [z])),fun b o q _ h1 _ => ks b o q h1,fun _ _ _ n _ => n,fun b o q h3 => ?_,fun _ _ q => q,fun _ _ _ q => q,fun b ps q => ⟨#[],by rw [q]; simp⟩⟩
    by_cases hb : b ∈ frs X.stack
    · obtain ⟨sl,q2⟩:=ks b o q hb
      exact ⟨_,q2⟩
    · exact ⟨o,stay b o (cov b o q hb (fun z => h3 (by simp [z])) fun z => h3 (by simp [z]))⟩
  have hok : HOk X.prog X.w H h2:=fun b ob q => by
    refine (I.hok b ob q).stay (fun c u hc qc => ?_) (fun _ z => z) fun _ _ z => z
    have t : c ∉ frs X.stack ∧ c ≠ a ∧ c ≠ T:=by
      rcases hc with rfl | hc
      · exact tr c ob q
      · exact tr c _ hc
    exact stay c u (cov c u qc t.1 t.2.1 t.2.2)
  have I2:=(inMore I cond).call' (s':={ s with heap:=h2 }) (ch:=[a,T]) rfl U hok I.bare (fun b hb => ⟨.inl (List.mem_append_right _ hb),(cond b hb).1,(cond b hb).2.1,fun p hp z => ?_⟩)
  · refine outMore I2 I.ok fun b hb => ?_
    have hb' : b = a ∨ b = T:=by simpa using hb
    cases q : X.s₀.heap.get? b with
    | none => rfl
    | some o =>
      obtain ⟨o',q1⟩:=I0.base.there b o q (by rw [hex]; simp)
      rcases hb' with rfl | rfl
      · exact absurd rfl (ne1 _ _ q1).1
      · exact absurd rfl (ne1 _ _ q1).2
  · have hb' : b = a ∨ b = T:=by simpa using hb
    have q:=(I0.pin p hp).1
    rcases hb' with rfl | rfl
    · exact (ne1 _ _ q).1 z
    · exact (ne1 _ _ q).2 z
noncomputable def ExcAt (a : Addr) (C : Value) (h : Heap) : Prop:=∃ o,h.get? a = some o ∧ o.cls = C
theorem tracked {a : Addr} {C : Value} (I : Inv X pins σ H s) (ha : H a = none) (hs : X.s₀.heap.get? a = none) (hx : ExcAt a C s.heap) (hL : a ≠ X.env.locals) (hc : ∀ x c,X.env.cells.lookup x = some c→c ≠ a) (hp : ∀ p ∈ X.pn ++ pins,p.1 ≠ a) :
    Inv X pins σ (upd H a (.ext (ExcAt a C))) s:=by
  have ne : ∀ b u,H b = some u→b ≠ a:=fun b u q z => by rw [z,ha] at q; cases q
  refine ⟨I.ok,I.os,I.bare,⟨I.base.keep,I.base.slot,fun b o q n h2 => ?_,I.base.there,fun b xs q => ?_,fun b o u q => ?_,fun b ps q => ?_⟩,I.loc,I.cell,?_,fun x c e => ?_,fun p hq => ?_,fun b ob q => ?_,I.len⟩
  · rw [upd_ne (fun z => by rw [z,hs] at q; cases q)]
    exact I.base.free b o q n h2
  · have q1:=I.base.tups b xs q
    rw [upd_ne (ne b _ q1)]
    exact q1
  · have q1:=I.base.frzs b o u q
    rw [upd_ne (ne b _ q1)]
    exact q1
  · obtain ⟨mr,q1⟩:=I.base.tbls b ps q
    exact ⟨mr,by rw [upd_ne (ne b _ q1)]; exact q1⟩
  · rw [upd_ne hL.symm]
    exact I.free
  · rw [upd_ne (hc x c e)]
    exact I.freeC x c e
  · obtain ⟨q1,q2,q3⟩:=I.pin p hq
    exact ⟨q1,by rw [upd_ne (hp p hq)]; exact q2,q3⟩
  · by_cases hb : b = a
    · subst hb
      rw [upd_same] at q
      cases q
      obtain ⟨o,e1,e2⟩:=hx
      refine ⟨⟨o,e1,e2⟩,⟨o,e1⟩,fun h1 h2 ⟨o1,e3,e4⟩ k => ⟨o1,k o1 e3,e4⟩⟩
    · rw [upd_ne hb] at q
      exact (I.hok b ob q).stay (fun _ _ _ z => z) (fun c z => by rw [upd_ne (ne c _ z)]; exact z) fun c xs z => by rw [upd_ne (ne c _ z)]; exact z
theorem unnamed {i : Nat} {n : Str} {v : Option Value} {m : Str→Option Value} {h2 : Heap} {tk : Nat} (I : Inv X pins σ H s) (hN : X.N.Nodup) (hi : X.N[i]? = some n)
    (hl : ∀ (j : Nat) (x : Str) (y : V),X.N[j]? = some x→σ[j]? = some (some y)→Vis X.env.scope x→∃ u,RelV y u ∧ Look X.env s.heap m x u)
    (n2 : h2.Ns X.env.locals (fun x => if x = n then v else m x)) (sb : Heap.SameBut X.env.locals s.heap h2) : Inv X pins (σ.set i none) H { s with heap:=h2,toks:=tk }:=by
  have neL : ∀ b o,X.s₀.heap.get? b = some o→b ≠ X.env.locals:=fun b o q z => by
    rw [z] at q
    exact absurd (Nat.lt_of_lt_of_le (Heap.lt_size q) I.ok.above) (Nat.lt_irrefl _)
  refine ⟨I.ok,I.os,I.bare,⟨fun b o q k h1 h3 => ?_,fun b o q k h1 h3 => ?_,I.base.free,fun b o q h3 => ?_,I.base.tups,I.base.frzs,I.base.tbls⟩,⟨_,n2,fun j x y e1 e2 e3 => ?_⟩,fun x c e => ?_,I.free,I.freeC,fun p hp => ?_,fun b ob q => ?_,by rw [List.length_set]; exact I.len⟩
  · rw [show ({ s with heap:=h2,toks:=tk } : Shared).heap.get? b = s.heap.get? b from sb.2 b (neL b o q)]
    exact I.base.keep b o q k h1 h3
  · obtain ⟨sl,q1⟩:=I.base.slot b o q k h1 h3
    exact ⟨sl,by rw [show ({ s with heap:=h2,toks:=tk } : Shared).heap.get? b = s.heap.get? b from sb.2 b (neL b o q)]; exact q1⟩
  · obtain ⟨o',q1⟩:=I.base.there b o q h3
    exact ⟨o',by rw [show ({ s with heap:=h2,toks:=tk } : Shared).heap.get? b = s.heap.get? b from sb.2 b (neL b o q)]; exact q1⟩
  · have hj : j ≠ i:=fun z => by
      subst z
      by_cases hlt : j < σ.length
      · rw [List.getElem?_set_self hlt] at e2
        cases e2
      · rw [List.getElem?_eq_none (by rw [List.length_set]; (first | lia | omega))] at e2
        cases e2
    rw [List.getElem?_set_ne (Ne.symm hj)] at e2
    have hx : x ≠ n:=fun z => hj (nodup_ix hN e1 (z ▸ hi))
    obtain ⟨u,ru,lk⟩:=hl j x y e1 e2 e3
    refine ⟨u,ru,?_⟩
    rcases lk with ⟨k1,k2⟩ | ⟨k1,c,k2,k3⟩
    · exact .inl ⟨k1,by show (if x = n then v else m x) = some u; rw [if_neg hx]; exact k2⟩
    · exact .inr ⟨k1,c,k2,k3.sameBut sb (I.cne x c k2)⟩
  · obtain ⟨u,z⟩:=I.cell x c e
    exact ⟨u,z.sameBut sb (I.cne x c e)⟩
  · obtain ⟨q1,q2,q3,q4⟩:=I.pin p hp
    exact ⟨(sb.2 p.1 q3).trans q1,q2,q3,q4⟩
  · refine (I.hok b ob q).stay (fun c u hc qc => (sb.2 c fun z => ?_).trans qc) (fun _ z => z) fun _ _ z => z
    have hf:=I.free
    rcases hc with z2 | z2
    · rw [← z,z2,q] at hf
      cases hf
    · rw [← z,z2] at hf
      cases hf
end
noncomputable def unb (i : Nat) (D : Ends) : Ends:={ nx:=fun σ H => D.nx (σ.set i none) H,rt:=D.rt,bk:=fun σ H => D.bk (σ.set i none) H,ct:=fun σ H => D.ct (σ.set i none) H }
noncomputable def tTry (K : PySem.W.Frag) (C0 : Addr) (i : Nat) (tb : (Value→L2.St→Hp→Prop)→TS) (ts : Addr→TS) : TS:=fun D σ H =>
  tb (fun C σ' H' => PySem.W.exmOne K C (.ref C0) = some true ∧ ∀ a,H' a = none→ts a (unb i D) (σ'.set i (some (.ref a))) (upd H' a (.ext (ExcAt a C)))) D σ H
theorem ps_try {X : Cx} {st b0 : Stmt} {x n : Str} {np hpos pos : Pos} {suite : List Stmt} {C0 : Addr} {tb : (Value→L2.St→Hp→Prop)→TS} {ts : Addr→TS} (i : Nat) (hb : PSx X st tb) (hm : X.mg x = some (.ref C0)) (hs : ∀ a,PSs (hdl X a) (b0 :: suite) (ts a))
    (hN : X.N.Nodup) (hi : X.N[i]? = some n:=by rfl) (hn : X.env.scope.names.lookup n = some .local:=by rfl) (hg : Gl X x:=by rfl) (hst : X.stack = X.env :: X.outer:=by rfl) (hfr : X.env.frame = some X.env.locals:=by rfl) (hex : X.ex = []:=by rfl) (hd : (x == ("__debug__" : Str)) = false:=by decide) :
    PS X (.Try [st] [.ExceptHandler (some (.Name x np)) (some n) (b0 :: suite) hpos] [] [] pos) (tTry X.K C0 i tb ts):=by
  intro pins s σ H D I h
  refine wpAny_Try_except (wpAny_execs_cons (wpAny_mono (hb pins s σ H D _ I h) (fun fl s1 q => ?_) (fun e s1 q => ?_)))
  · cases fl with
    | next => exact wpAny_execs_nil (wpAny_execs_nil q)
    | ret v => exact q
    | brk => exact q
    | cont => exact q
  · obtain ⟨a,C,σ1,H1,H0,s0,rfl,I0,I1,fly,hx,hk⟩:=q
    obtain ⟨B,T,a0,fl,cov,ha,hT,h0a,h0T⟩:=fly.ex
    have fl' : Heap.FlyingW B (X.env :: X.outer) a C a0 s1.heap:=by rw [← hst]; exact fl
    refine wpAny_looks_onW (by rw [← hst]; exact I1.ok.frames) hfr fl' fun h4 held4 up4 => ?_
    refine wpAny_landsW held4 fun h5 fl5 up5 => ?_
    have I5:=landed hex I0 I1 h0a h0T ha hT cov fl5.1 (up4.trans up5)
    refine wpAny_handleBy_cons (codeAny_handlers_test (ld_glob (X:=hdl X a) (inHdl I5 a) hg hm ?_ hd)) (by intro q; cases q)
    obtain ⟨oe,hoe,hoc⟩:=fl5.there
    have LT : PySem.W.Looks (model X.prog X.w) h5 (typeOf (.ref a)) C:=hoc ▸ (PySem.W.Looks.ld hoe).andThen .now
    refine (PySem.W.exm_one I5.kIn LT hx) _ _ _ _ (fun _ _ q => q) ?_
    refine codeAny_handlers_suite_as (lands_againW fl5 fun h6 fl6 up6 => ?_)
    have I6:=landed hex I0 I1 h0a h0T ha hT cov fl6.1 ((up4.trans up5).trans up6)
    obtain ⟨oe6,hoe6,hoc6⟩:=fl6.there
    have ne0 : ∀ b o,s0.heap.get? b = some o→b ≠ a:=fun b o q z => by rw [z,h0a] at q; cases q
    have I7:=tracked (a:=a) (C:=C) I6 ha (by
        cases q : X.s₀.heap.get? a with
        | none => rfl
        | some o =>
          obtain ⟨o',q1⟩:=I0.base.there a o q (by rw [hex]; simp)
          exact absurd rfl (ne0 a o' q1)) ⟨oe6,hoe6,hoc6⟩ (by
        obtain ⟨m,⟨o,_,_,q,_⟩,_⟩:=I0.loc
        exact (ne0 _ o q).symm) (fun y c e => by
        obtain ⟨v,o,q,_⟩:=I0.cell y c e
        exact ne0 c o q) (fun p hp => ne0 _ _ (I0.pin p hp).1)
    refine store_ok (X:=hdl X a) (inHdl I7 a) hN hi (.inl hn) (v:=.ref a) rfl (fun s8 I8 => ?_) (.inr hn)
    refine wpAny_mono (hs a pins s8 _ _ _ I8 (hk a ha)) (fun f9 s9 q9 => ?_) (fun _ _ z => False.elim z)
    have gone : ∀ σ9 H9,Inv X pins σ9 H9 s9→(∀ s10,Inv X pins (σ9.set i none) H9 s10→SP X pins D f9 s10) →
        wpAny (model X.prog X.w) X.A (do bindName X.env n .none; unbindBehindTheSuite X.env n hpos) (fun _ s10 => SP X pins D f9 s10) X.xe s9:=fun σ9 H9 I9 k => by
      obtain ⟨m9,n9,l9⟩:=I9.loc
      exact wpAny_nameGoes_keeps hn n9 (by rw [I9.ok.kind]; rfl) fun h10 v n10 sb10 => k _ (unnamed I9 hN hi l9 n10 sb10)
    cases f9 with
    | next =>
      obtain ⟨σ9,H9,I9,z⟩:=q9
      exact gone σ9 H9 (outHdl I9 I.ok) fun s10 I10 => ⟨_,H9,I10,z⟩
    | brk =>
      obtain ⟨σ9,H9,I9,z⟩:=q9
      exact gone σ9 H9 (outHdl I9 I.ok) fun s10 I10 => ⟨_,H9,I10,z⟩
    | cont =>
      obtain ⟨σ9,H9,I9,z⟩:=q9
      exact gone σ9 H9 (outHdl I9 I.ok) fun s10 I10 => ⟨_,H9,I10,z⟩
    | ret u =>
      obtain ⟨v,σ9,H9,I9,rv,z⟩:=q9
      exact gone σ9 H9 (outHdl I9 I.ok) fun s10 I10 => ⟨v,_,H9,I10,rv,z⟩
end L3
namespace L3
open PySem PySem.Spec PyProof.Rows L2 Ra
noncomputable def eqVs (xs ys : List V) : Bool:=(List.range xs.length).all fun j => eqV (xs.getD j .non) (ys.getD j .non)
section
variable {X : Cx}
noncomputable def rEqL (K : PySem.W.Frag) (neg : Bool) : R2:=fun x y H Q => ∃ a b xs ys,x = .ref a ∧ y = .ref b ∧ SqL K H a xs ∧ SqL K H b ys ∧ xs.length = ys.length ∧ xs.all flatV = true ∧ ys.all flatV = true ∧ Q (.bl (if neg then !eqVs xs ys else eqVs xs ys)) H
end
end L3
namespace L3
open PySem
theorem exm_of {K : PySem.W.Frag} {c d : Addr} (h1 : PySem.W.subIn K (.ref d) (.type "BaseException") = some true) (h2 : PySem.W.kitOne K (.ref c) (.ref d) = some true) (h3 : (Value.ref c == .ref d) = false) : PySem.W.exmOne K (.ref c) (.ref d) = some true:=by
  unfold PySem.W.exmOne
  rw [h1,if_pos (by rfl)]
  unfold PySem.W.kitOne at h2
  rw [h3,if_neg (by decide)] at h2
  exact h2
end L3
namespace L3
open PySem PySem.Spec PySem.Calls PyProof.Rows L2 Ra Builtin Builtin.ObjectAttr Builtin.Getset_descriptor
structure ExcCls (K : PySem.W.Frag) (D : Addr) : Prop where
  is : PySem.W.isClsIn K D = true
  ga : PySem.W.findIn K (.ref D) "__getattribute__" = some (some (.builtin "BaseException.__getattribute__"))
  no : PySem.W.findIn K (.ref D) "__getattr__" = some none
  cl : PySem.W.findIn K (.ref D) "__class__" = some (some (.builtin "object.__class__"))
  mb : PySem.W.mroIn K D (.type "BaseException") = some true
  mo : PySem.W.mroIn K D (.type "object") = some true
section
variable {prog : Program} {w : World} {A : Around} {E : Value→Shared→Prop} {h : Heap} {g : Array GenState} {d : Drawn} {t : Nat} {os : OsState} {a D : Addr} {K : PySem.W.Frag}
theorem exc_get {R : Result→Shared→Prop} {tp : Value} (X : K.In h) (L0 : PySem.W.Looks (model prog w) h (typeOf (.ref a)) (.ref D)) (B : ExcCls K D) (hq : R (.ok (.ret (.ref D))) ⟨h,g,d,t,os⟩) :
    codeAny (model prog w) A (.call (.builtin "getset_descriptor.__get__") ⟨[.builtin "object.__class__",.ref a,tp],[]⟩) R ⟨h,g,d,t,os⟩:=by
  have L1:=PySem.W.looks_mroIn (M:=model prog w) X B.mo
  refine codeAny_call_builtin PySem.W.KF.slot_gs.plain PySem.W.KF.entry_gs ?_
  refine PySem.W.KF.slot_gs.check _ _ _ _ _ _ _ _ PySem.W.KF.type_class (PySem.W.KF.args_gs _ _ _) ?_
  unfold Builtin.«getset_descriptor.__get__» descrGet
  rw [PySem.W.dga_obj]
  refine wpAny_bind (wpAny_pure ?_)
  unfold descrGetter descrCheckInstance descrNameAndClass isInstance
  simp only [PySem.W.KF.owner_class]
  repeat lk
  refine ⟨Code.quiet_builtin _ (by decide +kernel),codeAny_builtin PySem.W.KF.entry_class ?_⟩
  unfold Builtin.«object.__class__» shownTypeOf
  repeat lk
  exact hq
theorem exc_check {M : Model} {nameV : Value} {Q : Unit→Shared→Prop} {o : Obj} (X : K.In h) (hx : h.get? a = some o) (hc : o.cls = .ref D) (B : ExcCls K D) (hq : Q () ⟨h,g,d,t,os⟩) :
    wpAny M A (checkBuiltinCall "BaseException.__getattribute__" ⟨[.ref a,nameV],[]⟩) Q E ⟨h,g,d,t,os⟩:=by
  have L1:=PySem.W.looks_mroIn (M:=M) X B.mb
  have k1 : builtinKind "BaseException.__getattribute__" = some .slot:=by decide +kernel
  have k2 : splitId "BaseException.__getattribute__" = some ("BaseException","__getattribute__"):=by decide +kernel
  have k3:=F.args_bexc_ga (.ref a) nameV
  simp only [checkBuiltinCall,k1,k2]
  refine wpAny_bind ?_
  unfold isInstance
  repeat (first | (with_reducible refine wpAny_loadPart_at hx ?_; rw [hc]) | with_reducible refine L1.here ?_ | wp_step)
  exact hq
theorem exc_entry {tk : Tok} {Q : Fin→Shared→Prop} {o : Obj} (X : K.In h) (hx : h.get? a = some o) (hc : o.cls = .ref D) (B : ExcCls K D) (hq : Q (.done (.ret (.ref D))) ⟨h,g,d,t,os⟩) :
    wpAny (model prog w) A (Builtin.«object.__getattribute__» ⟨[.ref a,.str "__class__" tk],[]⟩) Q E ⟨h,g,d,t,os⟩:=by
  have t5 : (⟨h,g,d,t,os⟩ : Shared).TypeIs (.builtin "object.__class__") "getset_descriptor":=F.typeOf_object_class
  have t6:=F.slot_gs_get.lookup
  have t7:=F.slot_gs_set.lookup
  have L1:=PySem.W.looks_findIn (M:=model prog w) X B.cl
  repeat (any_goals (first | assumption | (with_reducible refine wpAny_loadPart_at hx ?_; rw [hc]) | with_reducible refine L1.here ?_ | wp_step))
  refine exc_get X (hc ▸ (PySem.W.Looks.ld hx).andThen .now) B ?_
  repeat (any_goals (first | assumption | wp_step))
theorem exc_by {tk : Tok} {fill expr : Bool} {Q : Value→Shared→Prop} {o : Obj} (X : K.In h) (hx : h.get? a = some o) (hc : o.cls = .ref D) (B : ExcCls K D) (hq : Q (.ref D) ⟨h,g,d,t,os⟩) :
    wpAny (model prog w) A (getAttrBy (.ref a) (.str "__class__" tk) fill expr) Q E ⟨h,g,d,t,os⟩:=by
  have f3:=F.attr_ValueError.ga.bind (.ref a)
  have x0 : (expr && onTheHeap (Value.builtin "BaseException.__getattribute__")) = false:=by cases expr <;> rfl
  have x2 : (Value.builtin "BaseException.__getattribute__" == Value.builtin "object.__getattribute__") = false:=by decide +kernel
  have x1 : (onTheHeap (Value.ref D) && Value.builtin "BaseException.__getattribute__" == Value.builtin "object.__getattribute__") = false:=by rw [x2]; rfl
  have L1:=PySem.W.looks_findIn (M:=model prog w) X B.ga
  have L2:=PySem.W.looks_findIn (M:=model prog w) X B.no
  repeat (any_goals (first | assumption | (with_reducible refine wpAny_loadPart_at hx ?_; rw [hc]) | with_reducible refine L1.here ?_ | with_reducible refine L2.here ?_ | wp_step))
  refine codeAny_call_builtin F.attr_ValueError.ga.plain F.entry_bexc_ga (exc_check X hx hc B (exc_entry X hx hc B ?_))
  repeat (any_goals (first | assumption | wp_step))
theorem exc_class {Q : Option Value→Shared→Prop} {o : Obj} (X : K.In h) (hx : h.get? a = some o) (hc : o.cls = .ref D) (B : ExcCls K D) (hq : Q (some (.ref D)) ⟨h,g,d,t + 1,os⟩) :
    wpAny (model prog w) A (getAttr? (.ref a) "__class__") Q E ⟨h,g,d,t,os⟩:=by
  unfold getAttr? getAttrBy?
  repeat (any_goals (first | assumption | with_reducible apply exc_by X hx hc B | wp_step))
theorem kitx_exc (B : ExcCls K D) : PySem.W.KitX K (.ref a) (.ref D) (ExcAt a (.ref D)) where
  ty:=fun M h _ p => by
    obtain ⟨o,e1,e2⟩:=p
    exact e2 ▸ (PySem.W.Looks.ld e1).andThen .now
  it:=fun M h X _ => by
    have z:=B.is
    unfold PySem.W.isClsIn at z
    cases q : PySem.W.clsIn K D with
    | none => rw [q] at z; cases z
    | some cd =>
      unfold PySem.W.clsIn at q
      split at q
      · rename_i look
        intro A' Q' E' s' k q'
        unfold isType loadHead
        exact wpAny_bind (wpAny_loadPart (k _ _ (X _ _ look)) (wpAny_pure q'))
      · cases q
  ne:=fun h tp dd its n sl X htp => by
    have z:=B.is
    unfold PySem.W.isClsIn at z
    refine Bool.eq_false_iff.mpr fun e => ?_
    have e' : D = tp:=Value.ref.inj (beq_iff_eq.mp e)
    subst e'
    cases q : PySem.W.clsIn K D with
    | none => rw [q] at z; cases z
    | some cd =>
      unfold PySem.W.clsIn at q
      split at q
      · rename_i look
        cases (X _ _ look).symm.trans htp
      · cases q
  ca:=fun {prog w A E Q s} X p k => by
    obtain ⟨h,g,d,t,os⟩:=s
    obtain ⟨o,e1,e2⟩:=p
    exact exc_class X e1 e2 B k
end
section
variable {X : Cx}
noncomputable def clsV : V→Option Value
  | .ref a => some (.ref a)
  | .ty n => some (.type n)
  | _ => none
theorem call_isiE : CallR X (.builtin "isinstance") (fun xs H Q => ∃ x c u D b,xs = [.ref x,c] ∧ clsV c = some u ∧ H x = some (.ext (ExcAt x (.ref D))) ∧ ExcCls X.K D ∧ PySem.W.kitOne X.K (.ref D) u = some b ∧ Q (.bl b) H):=by
  intro pins s σ H xs us Q I r h
  obtain ⟨x,c,u,D,b,rfl,rc,hx,B,e,q⟩:=h
  obtain ⟨u1,u2,rfl,rx,rt⟩:=vals2 r
  cases rx
  have eu : u2 = u:=by
    cases c with
    | ref C =>
      cases rc
      exact rt
    | ty n =>
      cases rc
      exact rt
    | _ => cases rc
  subst eu
  obtain ⟨p,_,_⟩:=(show ObjOk X.prog X.w H s.heap x (.ext (ExcAt x (.ref D))) from I.hok x _ hx)
  exact PySem.W.kia_one (kitx_exc B) I.kIn p e (fun z => nomatch z) fun tk => ⟨.bl b,H,I.tok _,rfl,q⟩
end
end L3
namespace L3
open PySem PySem.Spec PyProof.Rows L2 Ra
section
variable {X : Cx}
theorem call_isiET : CallR X (.builtin "isinstance") (fun xs H Q => ∃ x tp cs us D b,xs = [.ref x,.ref tp] ∧ H tp = some (.tup cs) ∧ cs.map clsV = us.map some ∧ H x = some (.ext (ExcAt x (.ref D))) ∧ ExcCls X.K D ∧ PySem.W.kitAny X.K (.ref D) us = some b ∧ Q (.bl b) H):=by
  intro pins s σ H xs us0 Q I r h
  obtain ⟨x,tp,cs,us,D,b,rfl,ht,rc,hx,B,e,q⟩:=h
  obtain ⟨u1,u2,rfl,rx,rt⟩:=vals2 r
  cases rx
  cases rt
  obtain ⟨sz,its,vi,it⟩:=(show ObjOk X.prog X.w H s.heap tp (.tup cs) from I.hok tp _ ht)
  clear sz
  have eu : its = us:=by
    clear ht it e
    induction vi generalizing us with
    | nil =>
      cases us with
      | nil => rfl
      | cons _ _ => cases rc
    | @cons c v cs vs rv _ ih =>
      cases us with
      | nil => cases rc
      | cons u us =>
        rw [List.map_cons,List.map_cons] at rc
        injection rc with r1 r2
        rw [ih us r2]
        congr 1
        cases c with
        | ref C =>
          cases r1
          exact rv
        | ty n =>
          cases r1
          exact rv
        | _ => cases r1
  subst eu
  obtain ⟨⟨o,p1,p2⟩,_,_⟩:=(show ObjOk X.prog X.w H s.heap x (.ext (ExcAt x (.ref D))) from I.hok x _ hx)
  obtain ⟨ot,t1,t2,n,t3⟩:=it
  obtain ⟨oc,od,oda,osl⟩:=ot
  dsimp only at t2 t3
  subst t2 t3
  exact PySem.W.kia_tup (kitx_exc B) I.kIn ⟨o,p1,p2⟩ t1 e (fun z => nomatch z) fun tk => ⟨.bl b,H,I.tok _,rfl,q⟩
end
end L3
namespace L3
open PySem PySem.Spec PyProof.Rows L2 Ra
noncomputable def tXSet (sp : Sp) (dvs : List V) (i : Nat) (t : TA) : (Value→L2.St→Hp→Prop)→TS:=fun R D σ H => t σ H fun vs H1 => sp (vs ++ dvs) H1 (fun v H2 => D.nx (σ.set i (some v)) H2) fun C _ H2 => R C σ H2
theorem psx_set {X : Cx} {x y : Str} {i k j : Nat} {ps : List Str} {ds : List Value} {dvs : List V} {sp : Sp} {e : Expr} {es : List Expr} {t : TA} {p yp pos pos' : Pos} (C : CalX X.prog X.w X.K X.mg X.base x k ps ds dvs sp) (hr : Room j X.A) (hN : X.N.Nodup) (hi : X.N[i]? = some y) (hy : Loc X.env.scope y) (ha : PA X (e :: es) t) (hxe : X.xe = (fun _ _ => False):=by rfl) (hkj : k ≤ j:=by decide) (hg : Gl X x:=by rfl)
    (hdb : (x == ("__debug__" : Str)) = false:=by decide) (he : starEach (e :: es) X.env = (false,eval e X.env) :: starEach es X.env:=by rfl) (hpl : (backTo pos (starEach es X.env)).any (·.1) = false:=by rfl)
    (hs : swapsWith (.Call (.Name x p) (e :: es) [] pos) (some (.Name y yp)) pos'.line X.env = pure false:=by rfl) (hf : X.fn y = true ∨ X.env.scope.names.lookup y = some .local:=by first | exact .inl rfl | exact .inr rfl | assumption) :
    PSx X (.Assign [.Name y yp] (.Call (.Name x p) (e :: es) [] pos) pos') (tXSet sp dvs i t):=by
  obtain ⟨f,fd,F,b,kp,m⟩:=C.ex
  intro pins s σ H D R I h
  have ha':=ha pos pins s σ H _ I h
  rw [hxe] at ha'
  refine wpAny_Assign_Name (wpAny_Call_Name_kw (ld_glob I hg m ?_ hdb)) hs
  refine PySem.W.callWith_K (h₀:=X.base) I.ok.mod.kin kp (wpAny_mono ha' (fun us s1 h1 => ?_) fun _ _ z => False.elim z) he hpl
  obtain ⟨vs,H1,I1,r,q⟩:=h1
  refine ⟨I1.kIn,?_⟩
  have r2 : Vals (vs ++ dvs) (us ++ ds):=r.append C.dv
  have hl : (us ++ ds).length = ps.length:=by rw [← r2.length]; exact F.len _ _ _ _ q
  refine wpAny_call (codeAny_mono (F.run X.A X.stack s1 H1 ⟨us,[]⟩ (us ++ ds) (vs ++ dvs) _ _ (hr.mono hkj) I1.env0 (b s1 us I1.kIn hl) r2 q) fun res s2 hq => ?_)
  cases res with
  | error ev =>
    obtain ⟨a,Cv,H2,rfl,os,bare,un,hok,fly,hE⟩:=hq
    exact ⟨a,Cv,σ,H2,H1,s1,rfl,I1,I1.call' (ch:=[]) os un hok bare (fun b z => absurd z (by simp)),fly,hE⟩
  | ok fl =>
    cases fl with
    | ret u =>
      obtain ⟨v,H2,I2,rv,qv⟩:=I1.after hq
      exact store_ok I2 hN hi hy rv (fun s3 I3 => ⟨_,H2,I3,qv⟩) hf
    | next => exact False.elim hq
    | brk => exact False.elim hq
    | cont => exact False.elim hq
end L3
namespace My
open PySem L2 L3 Ra Rq PyProof.Rows
theorem la1 {us : List Value} (h : us.length = 1) : ∃ a,us = [a]:=match us,h with | [a],_ => ⟨a,rfl⟩
theorem la2 {us : List Value} (h : us.length = 2) : ∃ a b,us = [a,b]:=match us,h with | [a,b],_ => ⟨a,b,rfl⟩
theorem la3 {us : List Value} (h : us.length = 3) : ∃ a b c,us = [a,b,c]:=match us,h with | [a,b,c],_ => ⟨a,b,c,rfl⟩
theorem la4 {us : List Value} (h : us.length = 4) : ∃ a b c d,us = [a,b,c,d]:=match us,h with | [a,b,c,d],_ => ⟨a,b,c,d,rfl⟩
theorem bt2 {n : Nat} {x : Int} (h : x.natAbs < 2 ^ n) : Bt n x:=h
local macro_rules | `(tactic| walk_at "s") => `(tactic| first
  | refine ⟨_,rfl,?_⟩
  | refine ⟨_,_,rfl,rfl,?_⟩
  | refine ⟨_,_,rfl,?_⟩
  | refine ⟨rfl,?_⟩
  | refine ⟨_,_,_,_,rfl,rfl,Pr.sq (by assumption),rfl,?_⟩
  | refine ⟨_,_,_,_,rfl,TyOf.int _,kit_int_int _,?_⟩
  | refine ⟨_,_,_,_,rfl,TyOf.int _,kit_int_bool _,?_⟩
  | refine ⟨_,_,_,_,rfl,TyOf.tup (by assumption),kit_tup_tup _,?_⟩
  | refine ⟨_,_,rfl,.inr (Pr.sq (by assumption)),?_⟩
  | refine iteF ?_
  | refine iteT ?_
  | refine ⟨(by show (0 : Int) < _; decide),?_⟩
  | refine ⟨⟨(by decide),bt2 (by decide +kernel)⟩,?_⟩
  | refine ⟨(⟨(by decide),(by decide),(by decide)⟩ : CPow _ _),?_⟩)
local macro_rules | `(tactic| walk_at "r") => `(tactic| repeat walk_at "s")
structure Txt (mg : Str→Option Value) : Prop where
  z_abs : mg "abs" = none
  z_len : mg "len" = none
  z_isinstance : mg "isinstance" = none
  z_int : mg "int" = none
  z_bool : mg "bool" = none
  z_tuple : mg "tuple" = none
  z_range : mg "range" = none
  z_list : mg "list" = none
  z_min : mg "min" = none
  z_max : mg "max" = none
  z_zip : mg "zip" = none
  z_all : mg "all" = none
  z_reversed : mg "reversed" = none
  z_enumerate : mg "enumerate" = none
  z_ValueError : mg "ValueError" = none
  c_MOST_BEADS : ∃ t,mg "MOST_BEADS" = some (.int 12 t)
structure Errs (K : PySem.W.Frag) (mg : Str→Option Value) (c_NoWorth c_CordError c_NoBead c_NoCord c_NoFraction c_NoName c_NoText : Addr) : Prop where
  m_NoWorth : mg "NoWorth" = some (.ref c_NoWorth)
  m_CordError : mg "CordError" = some (.ref c_CordError)
  m_NoBead : mg "NoBead" = some (.ref c_NoBead)
  m_NoCord : mg "NoCord" = some (.ref c_NoCord)
  m_NoFraction : mg "NoFraction" = some (.ref c_NoFraction)
  m_NoName : mg "NoName" = some (.ref c_NoName)
  m_NoText : mg "NoText" = some (.ref c_NoText)
  o_NoWorth : OwnErr K c_NoWorth
  i_NoWorth : PySem.W.isIn K (.ref c_NoWorth) c_NoWorth = true
  x_NoWorth : PySem.W.exmOne K (.ref c_NoWorth) (.ref c_CordError) = some true
  e_NoWorth : ExcCls K c_NoWorth
  ka_NoWorth : PySem.W.kitAny K (.ref c_NoWorth) [.ref c_NoBead,.ref c_NoCord,.ref c_NoFraction,.ref c_NoName,.ref c_NoText] = some false
  k_NoWorth_NoWorth : PySem.W.kitOne K (.ref c_NoWorth) (.ref c_NoWorth) = some true
  k_NoWorth_ValueError : PySem.W.kitOne K (.ref c_NoWorth) (.type "ValueError") = some true
structure OwnCord (K : PySem.W.Frag) (mg : Str→Option Value) (C : Addr) : Prop where
  m : mg "Cord" = some (.ref C)
  cl : Cls K C
  c1 : PySem.W.findIn K (.ref C) "__class__" = some (some (.builtin "object.__class__"))
  c2 : PySem.W.specialIn K (.builtin "object.__class__") "__get__" = some (some (.builtin "getset_descriptor.__get__"))
  c3 : PySem.W.takesIn K (.builtin "object.__class__") = some true
  c4 : PySem.W.mroIn K C (.type "object") = some true
  self : PySem.W.kitOne K (.ref C) (.ref C) = some true
  n_kept_gaps : NoAttr K C "kept_gaps"
  n_kept_weights : NoAttr K C "kept_weights"
noncomputable def top (i : Nat) : Stmt:=PySem.Challenge.pw_tautcord_k56_no_worths.main.body.getD i (.Pass ⟨0,0,0,0⟩)
noncomputable abbrev s_wall : Stmt:=top 0
noncomputable abbrev s_NoCord_init : Stmt:=inClass (top 4) 0
noncomputable abbrev s_is_whole : Stmt:=top 10
noncomputable abbrev s_divisor : Stmt:=top 11
noncomputable abbrev s_is_fraction : Stmt:=top 13
noncomputable abbrev s_fraction : Stmt:=top 14
noncomputable abbrev s_plus : Stmt:=top 15
noncomputable abbrev s_minus : Stmt:=top 16
noncomputable abbrev s_times : Stmt:=top 17
noncomputable abbrev s_over : Stmt:=top 18
noncomputable abbrev s_is_under : Stmt:=top 19
noncomputable abbrev s_side : Stmt:=top 20
noncomputable abbrev s_is_rising : Stmt:=top 21
noncomputable abbrev s_is_row_above : Stmt:=top 24
noncomputable abbrev s_Cord_init : Stmt:=inClass (top 25) 0
noncomputable abbrev s_Cord_gaps : Stmt:=inClass (top 25) 1
noncomputable abbrev s_Cord_weights : Stmt:=inClass (top 25) 2
noncomputable abbrev s_Cord_beads : Stmt:=inClass (top 25) 3
noncomputable abbrev s_Cord_length : Stmt:=inClass (top 25) 4
noncomputable abbrev s_Cord_turned : Stmt:=inClass (top 25) 5
noncomputable abbrev s_poly : Stmt:=top 27
noncomputable abbrev s_figure_at : Stmt:=top 28
noncomputable abbrev s_poly_plus : Stmt:=top 29
noncomputable abbrev s_scaled : Stmt:=top 30
noncomputable abbrev s_shared_bottom : Stmt:=top 31
noncomputable abbrev s_whole_figures : Stmt:=top 32
noncomputable abbrev s_whole_times : Stmt:=top 33
noncomputable abbrev s_ladder : Stmt:=top 35
noncomputable abbrev s_over_one_bottom : Stmt:=top 36
noncomputable abbrev s_quotient_at : Stmt:=top 37
noncomputable abbrev s_rest_of : Stmt:=top 38
noncomputable abbrev s_in_lowest_terms : Stmt:=top 39
noncomputable abbrev s_times_number : Stmt:=top 41
noncomputable abbrev s_cord_with : Stmt:=top 43
noncomputable abbrev s_cord_of : Stmt:=top 44
noncomputable abbrev s_even : Stmt:=top 45
noncomputable abbrev s_even_about_gap : Stmt:=top 46
noncomputable abbrev s_even_about_bead : Stmt:=top 47
noncomputable abbrev s_in_turns : Stmt:=top 48
noncomputable abbrev s_with_worths : Stmt:=top 49
noncomputable abbrev s_law_cell_at : Stmt:=top 51
noncomputable abbrev s_law_low : Stmt:=top 52
noncomputable abbrev s_law_plus : Stmt:=top 53
noncomputable abbrev s_law_minus : Stmt:=top 54
noncomputable abbrev s_law_rising : Stmt:=top 55
noncomputable abbrev s_law_spoiled : Stmt:=top 56
noncomputable abbrev s_law_rises : Stmt:=top 57
noncomputable abbrev s_law_in_turns : Stmt:=top 58
noncomputable abbrev s_law_asked : Stmt:=top 59
noncomputable abbrev s_law_answer : Stmt:=top 60
noncomputable abbrev s_law : Stmt:=top 61
noncomputable def sp_div : Sp:=fun vs H Q _ => ∃ a b,vs = [.int a,.int b] ∧ Q (.int (g a b)) H
noncomputable def sp_cell (K : PySem.W.Frag) : Sp:=fun vs H Q _ => ∃ (a : Addr) (ns : List Int) (k : Nat),vs = [.ref a,.int k] ∧ SqL K H a (ns.map V.int) ∧ Q (.int (cellA ns k)) H
noncomputable def sp_mixed : Sp:=fun vs H Q _ => ∃ c k,vs = [.int c,.int k] ∧ (0 ≤ k ∧ k ≤ 1000) ∧ Q (.int (mixed c k)) H
noncomputable def sp_signed : Sp:=fun vs H Q _ => ∃ n,vs = [.int n] ∧ ∀ H',Same H H'→Q (.int (signed n)) H'
noncomputable def sp_low : Sp:=fun vs H Q _ => ∃ t b,vs = [.int t,.int b] ∧ 0 < b ∧ Bt 8000 b ∧ ∀ r H',Same H H'→Pr H' r (t / g t b) (b / g t b)→Q (.ref r) H'
noncomputable def sp_ratio : Sp:=fun vs H Q _ => ∃ n,vs = [.int n] ∧ 0 ≤ n ∧ ∀ r x y H',Same H H'→Fq x y→Bt 101 x→Bt 101 y→Pr H' r x y→Q (.ref r) H'
noncomputable def sp_whole : Sp:=fun vs H Q _ => ∃ i,vs = [.int i] ∧ Q (.bl true) H
noncomputable def sp_is : Sp:=fun vs H Q _ => ∃ r x y t b,vs = [.ref r,.int t,.int b] ∧ Pr H r x y ∧ Fq x y ∧ x * b = t * y ∧ IntMulOk x b ∧ IntMulOk t y ∧ Q (.bl true) H
noncomputable def sp_plus : Sp:=fun vs H Q _ => ∃ p q a b c d,vs = [.ref p,.ref q] ∧ Pr H p a b ∧ Pr H q c d ∧ 0 < b ∧ 0 < d ∧ Bt 8000 a ∧ Bt 8000 b ∧ Bt 8000 c ∧ Bt 8000 d ∧ ∀ r H',Same H H'→Pr H' r (plsN a b c d) (plsD a b c d)→Q (.ref r) H'
noncomputable def sp_minus : Sp:=fun vs H Q _ => ∃ p q a b c d,vs = [.ref p,.ref q] ∧ Pr H p a b ∧ Pr H q c d ∧ 0 < b ∧ 0 < d ∧ Bt 8000 a ∧ Bt 8000 b ∧ Bt 8000 c ∧ Bt 8000 d ∧ ∀ r H',Same H H'→Pr H' r (plsN a b (-c) d) (plsD a b (-c) d)→Q (.ref r) H'
noncomputable def sp_times : Sp:=fun vs H Q _ => ∃ p q a b c d,vs = [.ref p,.ref q] ∧ Pr H p a b ∧ Pr H q c d ∧ 0 < b ∧ 0 < d ∧ Bt 8000 a ∧ Bt 8000 b ∧ Bt 8000 c ∧ Bt 8000 d ∧ ∀ r H',Same H H'→Pr H' r (tmsN a b c d) (tmsD a b c d)→Q (.ref r) H'
noncomputable def sp_law (K : PySem.W.Frag) : Sp:=fun vs H Q _ => ∃ (a : Addr) (ns : List Int),vs = [.ref a] ∧ SqL K H a (ns.map V.int) ∧ ns.length ≤ 63 ∧ ∀ H',Q (.bl true) H'
theorem g_bt {n : Nat} {t b : Int} (h : 0 < b) (k : Bt n b) : Bt n (g t b):=by
  refine k.of_le ?_
  have h1 : g t b ≤ b:=Int.le_of_dvd h (g_dvd_right t b)
  have h2:=g_nonneg t b
  (first | lia | omega)
section
variable {P : Program} {w : World} {K : PySem.W.Frag} {mg : Str→Option Value} {base : Heap} {f : Addr} {fd : FuncData}
theorem sc_divisor : FnScope ["one","other","first","second","rest"] ["one","other"] (defScope s_divisor):=⟨rfl,rfl,rfl,by decide +kernel,rfl,by decide +kernel,by decide +kernel⟩
theorem ok_divisor (F : Fun K "divisor" "divisor" s_divisor f fd) (T : Txt mg) : FnOk P w K mg base CX0 1 f fd ["one","other"] sp_div:=by
  refine F.ok sc_divisor (fun vs H Q E h => ?_) (fun cdv A outer s H vs Q E hr h => ?_)
  · obtain ⟨a,b,rfl,_⟩:=h
    rfl
  obtain ⟨a,b,rfl,q⟩:=h
  refine ⟨_,(pss_cons (ps_set (i:=2) sc_divisor.nd rfl (Or.inl rfl) (pe_callB call_abs rfl T.z_abs boot_abs (pa_cons (pv 0) pa_nil)))
      (pss_cons (ps_set (i:=3) sc_divisor.nd rfl (Or.inl rfl) (pe_callB call_abs rfl T.z_abs boot_abs (pa_cons (pv 1) pa_nil)))
      (pss_cons (ps_while PassesOwn.never (pt_cmpR op_gt (pv 3) pe_int (nomark _))
        (pss_cons (ps_set (i:=4) sc_divisor.nd rfl (Or.inl rfl) (pe_op op_mod (pv 2) (pv 3)))
        (pss_cons (ps_set (i:=2) sc_divisor.nd rfl (Or.inl rfl) (pv 3))
        (pss_one (ps_set (i:=3) sc_divisor.nd rfl (Or.inl rfl) (pv 4))))))
      (pss_one (ps_ret (pv 2)))))),?_⟩
  refine ⟨_,rfl,_,rfl,_,rfl,_,rfl,?_⟩
  refine ⟨fun m σ H' => ∃ x y r,σ = [some (.int a),some (.int b),some (.int x),some (.int y),r] ∧ H = H' ∧ 0 ≤ x ∧ 0 ≤ y ∧ g x y = g a b ∧ m = y.toNat,⟨_,_,_,_,rfl,rfl,?_,?_,g_abs a b,rfl⟩,?_⟩
  · split <;> (first | lia | omega)
  · split <;> (first | lia | omega)
  rintro m σ _ ⟨x,y,r,rfl,rfl,hx,hy,e,rfl⟩
  refine ⟨_,rfl,_,_,rfl,rfl,_,rfl,?_⟩
  refine ite2 (fun c => ⟨fun σ' H' => ∃ m',m' < y.toNat ∧ ∃ x y r,σ' = [some (.int a),some (.int b),some (.int x),some (.int y),r] ∧ H = H' ∧ 0 ≤ x ∧ 0 ≤ y ∧ g x y = g a b ∧ m' = y.toNat,fun _ _ h => h,?_⟩) (fun c => ?_)
  · have c' : (0 : Int) < y:=of_decide_eq_true c
    refine ⟨_,rfl,_,rfl,_,_,rfl,rfl,c',_,rfl,_,rfl,?_⟩
    have h1:=Int.emod_nonneg x (show y ≠ 0 by (first | lia | omega))
    have h2:=Int.emod_lt_of_pos x c'
    exact ⟨_,by (first | lia | omega),y,x % y,_,rfl,rfl,hy,h1,by rw [g_step hx c',e],rfl⟩
  · have c' : ¬ (0 : Int) < y:=of_decide_eq_false (Bool.eq_false_iff.mpr c)
    have y0 : y = 0:=by (first | lia | omega)
    refine ⟨_,rfl,?_⟩
    rw [← e,y0,g_end hx] at q
    exact q
theorem sc_plus : FnScope ["one","other","shared","top","left"] ["one","other"] (defScope s_plus):=⟨rfl,rfl,rfl,by decide +kernel,rfl,by decide +kernel,by decide +kernel⟩
theorem ok_plus (F : Fun K "plus" "plus" s_plus f fd) (T : Txt mg) (C_divisor : Cal P w K mg base "divisor" 1 ["one","other"] sp_div) : FnOk P w K mg base CX0 2 f fd ["one","other"] sp_plus:=by
  refine F.ok sc_plus (fun vs H Q E h => ?_) (fun cdv A outer s H vs Q E hr h => ?_)
  · obtain ⟨p,q,a,b,c,d,rfl,_⟩:=h
    rfl
  obtain ⟨p,q,a,b,c,d,rfl,hp,hq,hb,hd,ba,bb,bc,bd,k⟩:=h
  have c1 : 0 < g b d ∧ Bt 9000 (g b d):=⟨g_pos (by (first | lia | omega)),(g_bt hd bd).mono (by decide)⟩
  have c2 : 0 < g (plsT a b c d) (g b d) ∧ Bt 9000 (g (plsT a b c d) (g b d)):=⟨g_pos (by (first | lia | omega)),g_bt c1.1 c1.2⟩
  have m1 : IntMulOk a (d / g b d):=mul_of ba bd.ediv (by decide)
  have m2 : IntMulOk c (b / g b d):=mul_of bc bb.ediv (by decide)
  have m3 : IntMulOk (b / g b d) (d / g (plsT a b c d) (g b d)):=mul_of bb.ediv bd.ediv (by decide)
  refine ⟨_,(pss_cons (ps_set (i:=2) sc_plus.nd rfl (Or.inl rfl) (pe_cl C_divisor hr (pa_cons (pe_ix ix_tup (pv 0) pe_int (fun _ _ => rfl)) (pa_cons (pe_ix ix_tup (pv 1) pe_int (fun _ _ => rfl)) pa_nil))))
      (pss_cons (ps_set (i:=3) sc_plus.nd rfl (Or.inl rfl) (pe_op op_add (pe_op op_mulB (pe_ix ix_tup (pv 0) pe_int (fun _ _ => rfl)) (pe_op op_fdP (pe_ix ix_tup (pv 1) pe_int (fun _ _ => rfl)) (pv 2))) (pe_op op_mulB (pe_ix ix_tup (pv 1) pe_int (fun _ _ => rfl)) (pe_op op_fdP (pe_ix ix_tup (pv 0) pe_int (fun _ _ => rfl)) (pv 2)))))
      (pss_cons (ps_set (i:=4) sc_plus.nd rfl (Or.inl rfl) (pe_cl C_divisor hr (pa_cons (pv 3) (pa_cons (pv 2) pa_nil))))
      (pss_one (ps_ret (pe_tup (pa_cons (pe_op op_fdP (pv 3) (pv 4)) (pa_cons (pe_op op_mulB (pe_op op_fdP (pe_ix ix_tup (pv 0) pe_int (fun _ _ => rfl)) (pv 2)) (pe_op op_fdP (pe_ix ix_tup (pv 1) pe_int (fun _ _ => rfl)) (pv 4))) pa_nil)))))))),?_⟩
  refine ⟨_,rfl,_,_,_,_,rfl,rfl,hp.sq,rfl,_,rfl,_,_,_,_,rfl,rfl,hq.sq,rfl,_,_,rfl,?_⟩
  refine ⟨_,rfl,_,_,_,_,rfl,rfl,hp.sq,rfl,_,rfl,_,_,_,_,rfl,rfl,hq.sq,rfl,_,rfl,_,_,rfl,rfl,c1,_,_,rfl,rfl,m1,_,rfl,_,_,_,_,rfl,rfl,hq.sq,rfl,_,rfl,_,_,_,_,rfl,rfl,hp.sq,rfl,_,rfl,_,_,rfl,rfl,c1,_,_,rfl,rfl,m2,_,_,rfl,rfl,?_⟩
  refine ⟨_,rfl,_,rfl,_,_,rfl,?_⟩
  exact ⟨_,rfl,_,rfl,_,_,rfl,rfl,c2,_,rfl,_,_,_,_,rfl,rfl,hp.sq,rfl,_,rfl,_,_,rfl,rfl,c1,_,rfl,_,_,_,_,rfl,rfl,hq.sq,rfl,_,rfl,_,_,rfl,rfl,c2,_,_,rfl,rfl,m3,(by show 2 ≤ sizeLine; decide),fun r h => k r _ (same_upd h _) Pr.new⟩
theorem sc_minus : FnScope ["one","other"] ["one","other"] (defScope s_minus):=⟨rfl,rfl,rfl,by decide +kernel,rfl,by decide +kernel,by decide +kernel⟩
theorem ok_minus (F : Fun K "minus" "minus" s_minus f fd) (T : Txt mg) (C_plus : Cal P w K mg base "plus" 2 ["one","other"] sp_plus) : FnOk P w K mg base CX0 3 f fd ["one","other"] sp_minus:=by
  refine F.ok sc_minus (fun vs H Q E h => ?_) (fun cdv A outer s H vs Q E hr h => ?_)
  · obtain ⟨p,q,a,b,c,d,rfl,_⟩:=h
    rfl
  obtain ⟨p,q,a,b,c,d,rfl,hp,hq,hb,hd,ba,bb,bc,bd,k⟩:=h
  refine ⟨_,(pss_one (ps_ret (pe_cl C_plus hr (pa_cons (pv 0) (pa_cons (pe_tup (pa_cons (pe_un un_neg (pe_ix ix_tup (pv 1) pe_int (fun _ _ => rfl))) (pa_cons (pe_ix ix_tup (pv 1) pe_int (fun _ _ => rfl)) pa_nil))) pa_nil))))),?_⟩
  refine ⟨_,rfl,_,rfl,_,_,_,_,rfl,rfl,hq.sq,rfl,_,rfl,_,rfl,_,_,_,_,rfl,rfl,hq.sq,rfl,(by show 2 ≤ sizeLine; decide),fun r h => ?_⟩
  exact ⟨_,_,_,_,_,_,rfl,hp.keep (same_upd h _),Pr.new,hb,hd,ba,bb,bc.neg,bd,fun r' H' s' h' => k r' H' ((same_upd h _).trans s') h'⟩
theorem sc_times : FnScope ["one","other","first","second"] ["one","other"] (defScope s_times):=⟨rfl,rfl,rfl,by decide +kernel,rfl,by decide +kernel,by decide +kernel⟩
theorem ok_times (F : Fun K "times" "times" s_times f fd) (T : Txt mg) (C_divisor : Cal P w K mg base "divisor" 1 ["one","other"] sp_div) : FnOk P w K mg base CX0 2 f fd ["one","other"] sp_times:=by
  refine F.ok sc_times (fun vs H Q E h => ?_) (fun cdv A outer s H vs Q E hr h => ?_)
  · obtain ⟨p,q,a,b,c,d,rfl,_⟩:=h
    rfl
  obtain ⟨p,q,a,b,c,d,rfl,hp,hq,hb,hd,ba,bb,bc,bd,k⟩:=h
  have c1 : 0 < g a d ∧ Bt 9000 (g a d):=⟨g_pos (by (first | lia | omega)),(g_bt hd bd).mono (by decide)⟩
  have c2 : 0 < g c b ∧ Bt 9000 (g c b):=⟨g_pos (by (first | lia | omega)),(g_bt hb bb).mono (by decide)⟩
  have m1 : IntMulOk (a / g a d) (c / g c b):=mul_of ba.ediv bc.ediv (by decide)
  have m2 : IntMulOk (b / g c b) (d / g a d):=mul_of bb.ediv bd.ediv (by decide)
  refine ⟨_,(pss_cons (ps_set (i:=2) sc_times.nd rfl (Or.inl rfl) (pe_cl C_divisor hr (pa_cons (pe_ix ix_tup (pv 0) pe_int (fun _ _ => rfl)) (pa_cons (pe_ix ix_tup (pv 1) pe_int (fun _ _ => rfl)) pa_nil))))
      (pss_cons (ps_set (i:=3) sc_times.nd rfl (Or.inl rfl) (pe_cl C_divisor hr (pa_cons (pe_ix ix_tup (pv 1) pe_int (fun _ _ => rfl)) (pa_cons (pe_ix ix_tup (pv 0) pe_int (fun _ _ => rfl)) pa_nil))))
      (pss_one (ps_ret (pe_tup (pa_cons (pe_op op_mulB (pe_op op_fdP (pe_ix ix_tup (pv 0) pe_int (fun _ _ => rfl)) (pv 2)) (pe_op op_fdP (pe_ix ix_tup (pv 1) pe_int (fun _ _ => rfl)) (pv 3))) (pa_cons (pe_op op_mulB (pe_op op_fdP (pe_ix ix_tup (pv 0) pe_int (fun _ _ => rfl)) (pv 3)) (pe_op op_fdP (pe_ix ix_tup (pv 1) pe_int (fun _ _ => rfl)) (pv 2))) pa_nil))))))),?_⟩
  refine ⟨_,rfl,_,_,_,_,rfl,rfl,hp.sq,rfl,_,rfl,_,_,_,_,rfl,rfl,hq.sq,rfl,_,_,rfl,?_⟩
  refine ⟨_,rfl,_,_,_,_,rfl,rfl,hq.sq,rfl,_,rfl,_,_,_,_,rfl,rfl,hp.sq,rfl,_,_,rfl,?_⟩
  exact ⟨_,rfl,_,_,_,_,rfl,rfl,hp.sq,rfl,_,rfl,_,_,rfl,rfl,c1,_,rfl,_,_,_,_,rfl,rfl,hq.sq,rfl,_,rfl,_,_,rfl,rfl,c2,_,_,rfl,rfl,m1,_,rfl,_,_,_,_,rfl,rfl,hp.sq,rfl,_,rfl,_,_,rfl,rfl,c2,_,rfl,_,_,_,_,rfl,rfl,hq.sq,rfl,_,rfl,_,_,rfl,rfl,c1,_,_,rfl,rfl,m2,(by show 2 ≤ sizeLine; decide),fun r h => k r _ (same_upd h _) Pr.new⟩
noncomputable def sp_whole2 : Sp:=fun vs H Q _ => ∃ i,vs = [.int i] ∧ Q (.bl true) H
noncomputable def sp_fraction (c : Addr) : Sp:=fun vs H Q E => ∃ t b,vs = [.int t,.int b] ∧ (b = 0→E (.ref c) none H) ∧ (b ≠ 0→Bt 8000 b ∧ ∀ r H',Same H H'→Pr H' r (frN t b) (frD t b)→Q (.ref r) H')
noncomputable def sp_over (cN : Addr) : Sp:=fun vs H Q E => ∃ p q a b c d,vs = [.ref p,.ref q] ∧ Pr H p a b ∧ Pr H q c d ∧ (c = 0→E (.ref cN) none H) ∧
  (c ≠ 0→0 < b ∧ 0 < d ∧ Bt 8000 a ∧ Bt 8000 b ∧ Bt 8000 c ∧ Bt 8000 d ∧ ∀ r H',Same H H'→Pr H' r (tmsN a b (frN d c) (frD d c)) (tmsD a b (frN d c) (frD d c))→Q (.ref r) H')
noncomputable def sp_under : Sp:=fun vs H Q _ => ∃ p q a b c d,vs = [.ref p,.ref q] ∧ Pr H p a b ∧ Pr H q c d ∧ IntMulOk a d ∧ IntMulOk c b ∧ Q (.bl (decide (a * d < c * b))) H
noncomputable def sp_side : Sp:=fun vs H Q _ => ∃ p a b,vs = [.ref p] ∧ Pr H p a b ∧ Q (.int (sgn a)) H
noncomputable def sp_side2 : Sp:=fun vs H Q _ => ∃ p a b,vs = [.ref p] ∧ Pr H p a b ∧ Bt 9000 a ∧ Q (.int (sgn a)) H
theorem sc_is_whole : FnScope ["thing"] ["thing"] (defScope s_is_whole):=⟨rfl,rfl,rfl,by decide +kernel,rfl,by decide +kernel,by decide +kernel⟩
theorem ok_is_whole (F : Fun K "is_whole" "is_whole" s_is_whole f fd) (T : Txt mg) : FnOk P w K mg base CX0 1 f fd ["thing"] sp_whole:=by
  refine F.ok sc_is_whole (fun vs H Q E h => ?_) (fun cdv A outer s H vs Q E hr h => ?_)
  · obtain ⟨i,rfl,_⟩:=h
    rfl
  obtain ⟨i,rfl,q⟩:=h
  refine ⟨_,(pss_one (ps_ret (pe_and (pe_callB call_isi rfl T.z_isinstance boot_isinstance (pa_cons (pv 0) (pa_cons (pe_bltn (v:=.ty "int") rfl T.z_int boot_int rfl) pa_nil))) (pe_one (pe_not (pe_callB call_isi rfl T.z_isinstance boot_isinstance (pa_cons (pv 0) (pa_cons (pe_bltn (v:=.ty "bool") rfl T.z_bool boot_bool rfl) pa_nil)))))))),?_⟩
  refine ⟨_,rfl,_,_,_,_,rfl,TyOf.int _,kit_int_int _,_,rfl,iteT ?_⟩
  exact ⟨_,rfl,_,_,_,_,rfl,TyOf.int _,kit_int_bool _,_,rfl,q⟩
theorem sc_is_under : FnScope ["one","other"] ["one","other"] (defScope s_is_under):=⟨rfl,rfl,rfl,by decide +kernel,rfl,by decide +kernel,by decide +kernel⟩
theorem ok_is_under (F : Fun K "is_under" "is_under" s_is_under f fd) (T : Txt mg) : FnOk P w K mg base CX0 1 f fd ["one","other"] sp_under:=by
  refine F.ok sc_is_under (fun vs H Q E h => ?_) (fun cdv A outer s H vs Q E hr h => ?_)
  · obtain ⟨p,q,a,b,c,d,rfl,_⟩:=h
    rfl
  obtain ⟨p,q,a,b,c,d,rfl,hp,hq,m1,m2,k⟩:=h
  refine ⟨_,(pss_one (ps_ret (pe_cmpR op_lt (pe_op op_mulB (pe_ix ix_tup (pv 0) pe_int (fun _ _ => rfl)) (pe_ix ix_tup (pv 1) pe_int (fun _ _ => rfl))) (pe_op op_mulB (pe_ix ix_tup (pv 1) pe_int (fun _ _ => rfl)) (pe_ix ix_tup (pv 0) pe_int (fun _ _ => rfl))) (nomark _)))),?_⟩
  exact ⟨_,rfl,_,_,_,_,rfl,rfl,hp.sq,rfl,_,rfl,_,_,_,_,rfl,rfl,hq.sq,rfl,_,_,rfl,rfl,m1,_,rfl,_,_,_,_,rfl,rfl,hq.sq,rfl,_,rfl,_,_,_,_,rfl,rfl,hp.sq,rfl,_,_,rfl,rfl,m2,_,_,rfl,rfl,k⟩
theorem sc_side : FnScope ["one"] ["one"] (defScope s_side):=⟨rfl,rfl,rfl,by decide +kernel,rfl,by decide +kernel,by decide +kernel⟩
theorem ok_side (F : Fun K "side" "side" s_side f fd) (T : Txt mg) : FnOk P w K mg base CX0 1 f fd ["one"] sp_side:=by
  refine F.ok sc_side (fun vs H Q E h => ?_) (fun cdv A outer s H vs Q E hr h => ?_)
  · obtain ⟨p,a,b,rfl,_⟩:=h
    rfl
  obtain ⟨p,a,b,rfl,hp,q⟩:=h
  unfold sgn at q
  refine ⟨_,(pss_cons (ps_if (pt_cmpR op_gt (pe_ix ix_tup (pv 0) pe_int (fun _ _ => rfl)) pe_int (nomark _))
        (pss_one (ps_ret pe_int))
        pss_nil)
      (pss_cons (ps_if (pt_cmpR op_lt (pe_ix ix_tup (pv 0) pe_int (fun _ _ => rfl)) pe_int (nomark _))
        (pss_one (ps_ret (pe_un un_neg pe_int)))
        pss_nil)
      (pss_one (ps_ret pe_int)))),?_⟩
  refine ⟨_,rfl,_,_,_,_,rfl,rfl,hp.sq,rfl,_,_,rfl,rfl,_,rfl,?_⟩
  refine ite2 (fun c => ?_) (fun c => ?_)
  · have z : a > 0:=of_decide_eq_true c
    rw [if_pos z] at q
    exact q
  · have z : ¬ a > 0:=of_decide_eq_false (Bool.eq_false_iff.mpr c)
    rw [if_neg z] at q
    refine ⟨_,rfl,_,_,_,_,rfl,rfl,hp.sq,rfl,_,_,rfl,rfl,_,rfl,?_⟩
    refine ite2 (fun c2 => ?_) (fun c2 => ?_)
    · have z2 : a < 0:=of_decide_eq_true c2
      rw [if_pos z2] at q
      exact ⟨_,rfl,q⟩
    · have z2 : ¬ a < 0:=of_decide_eq_false (Bool.eq_false_iff.mpr c2)
      rw [if_neg z2] at q
      exact q
noncomputable def sp_bin (n : Nat) (op : Rat→Rat→Rat) : Sp:=fun vs H Q _ => ∃ p q a b,vs = [.ref p,.ref q] ∧ Pq H p a ∧ Pq H q b ∧ Bq n a ∧ Bq n b ∧ ∀ r H',Same H H'→Pq H' r (op a b)→Q (.ref r) H'
noncomputable def sp_lowQ : Sp:=fun vs H Q _ => ∃ t b,vs = [.int t,.int b] ∧ 0 < b ∧ Bt 8000 b ∧ ∀ r H',Same H H'→Pq H' r ((t : Rat) / (b : Rat))→Q (.ref r) H'
noncomputable def sp_ratioQ : Sp:=fun vs H Q _ => ∃ n,vs = [.int n] ∧ 0 ≤ n ∧ ∀ r q H',Same H H'→Bq 101 q→Pq H' r q→Q (.ref r) H'
noncomputable def sp_isQ : Sp:=fun vs H Q _ => ∃ r q t b,vs = [.ref r,.int t,.int b] ∧ Pq H r q ∧ b ≠ 0 ∧ q = (t : Rat) / (b : Rat) ∧ IntMulOk q.num b ∧ IntMulOk t q.den ∧ Q (.bl true) H
noncomputable def sp_atQ : Sp:=fun vs H Q _ => ∃ (a : Addr) (qs : List Rat) (k : Nat),vs = [.ref a,.int k] ∧ Rw H a qs ∧ ∀ p H',Same H H'→Pq H' p (qs.getD k 0)→Q (.ref p) H'
noncomputable def sp_stripQ : Sp:=fun vs H Q _ => ∃ a qs,vs = [.ref a] ∧ Rw H a qs ∧ qs.length ≤ 1000 ∧ ∀ r H',Same H H'→H r = none→Rw H' r (Po.strip qs)→Q (.ref r) H'
noncomputable def sp_row_by : Sp:=fun vs H Q _ => ∃ c k w,vs = [.int c,.int k,.int w] ∧ (0 ≤ k ∧ k ≤ 900) ∧ (w = 2 ∨ w = 3) ∧ ∀ r qs H',Same H H'→H r = none→Rw H' r qs→qs.length ≤ 13→(∀ q ∈ qs,Bq 101 q)→(w = 2→∀ q ∈ qs,Bq 6 q)→Q (.ref r) H'
noncomputable def sp_sameQ : Sp:=fun vs H Q _ => ∃ a b qs,vs = [.ref a,.ref b] ∧ Rw H a qs ∧ Rw H b qs ∧ qs.length ≤ 1000 ∧ Q (.bl true) H
noncomputable abbrev Rws (H : Hp) : List Addr→List (List Rat)→Prop:=Paired (Rw H)
noncomputable def ApartAt (a h k : Addr) (H : Hp) (R : Hp→Prop) : Prop:=∃ qs as bs rss,Rw H a qs ∧ qs.length ≤ 1000 ∧ H h = some (.lst (as.map V.ref)) ∧ Rws H as rss ∧ H k = some (.lst (bs.map V.ref)) ∧ Rws H bs rss ∧
  a ∉ as ∧ a ∉ bs ∧ a ≠ h ∧ a ≠ k ∧ h ∉ as ∧ as.length ≤ 2 ∧ (∀ rs ∈ rss,rs.length ≤ 1000) ∧ ∀ H',Sx (a :: as) H H'→R H'
noncomputable def sp_apart : Sp:=fun vs H Q _ => ∃ a h k,vs = [.ref a,.ref h,.ref k] ∧ ApartAt a h k H fun H' => Q (.bl true) H'
theorem bin_plus {vs : List V} {H : Hp} {Q : VK} {E : XK} (h : sp_bin 8000 (· + ·) vs H Q E) : sp_plus vs H Q E:=by
  obtain ⟨p,q,a,b,rfl,hp,hq,ba,bb,k⟩:=h
  exact ⟨p,q,_,_,_,_,rfl,hp,hq,den_pos a,den_pos b,ba.1,ba.2,bb.1,bb.2,fun r H' s hr => k r H' s (Pq.of hr ⟨(pls_q a b).1.symm,(pls_q a b).2.symm⟩)⟩
theorem bin_minus {vs : List V} {H : Hp} {Q : VK} {E : XK} (h : sp_bin 8000 (· - ·) vs H Q E) : sp_minus vs H Q E:=by
  obtain ⟨p,q,a,b,rfl,hp,hq,ba,bb,k⟩:=h
  exact ⟨p,q,_,_,_,_,rfl,hp,hq,den_pos a,den_pos b,ba.1,ba.2,bb.1,bb.2,fun r H' s hr => k r H' s (Pq.of hr ⟨(mns_q a b).1.symm,(mns_q a b).2.symm⟩)⟩
theorem bin_times {vs : List V} {H : Hp} {Q : VK} {E : XK} (h : sp_bin 8000 (· * ·) vs H Q E) : sp_times vs H Q E:=by
  obtain ⟨p,q,a,b,rfl,hp,hq,ba,bb,k⟩:=h
  exact ⟨p,q,_,_,_,_,rfl,hp,hq,den_pos a,den_pos b,ba.1,ba.2,bb.1,bb.2,fun r H' s hr => k r H' s (Pq.of hr ⟨(tms_q a b).1.symm,(tms_q a b).2.symm⟩)⟩
theorem ok_minusQ (F : Fun K "minus" "minus" s_minus f fd) (T : Txt mg) (C_plus : Cal P w K mg base "plus" 2 ["one","other"] sp_plus) : FnOk P w K mg base CX0 3 f fd ["one","other"] (sp_bin 8000 (· - ·)):=(ok_minus F T C_plus).imp fun _ _ _ _ => bin_minus
theorem ok_timesQ (F : Fun K "times" "times" s_times f fd) (T : Txt mg) (C_divisor : Cal P w K mg base "divisor" 1 ["one","other"] sp_div) : FnOk P w K mg base CX0 2 f fd ["one","other"] (sp_bin 8000 (· * ·)):=(ok_times F T C_divisor).imp fun _ _ _ _ => bin_times
noncomputable def sp_pbin (op : List Rat→List Rat→List Rat) : Sp:=fun vs H Q _ => ∃ a b ps qs,vs = [.ref a,.ref b] ∧ Rw H a ps ∧ Rw H b qs ∧ ps.length ≤ 30 ∧ qs.length ≤ 30 ∧ (∀ q ∈ ps,Bq 1500 q) ∧ (∀ q ∈ qs,Bq 1500 q) ∧ ∀ r H',Same H H'→H r = none→Rw H' r (op ps qs)→Q (.ref r) H'
noncomputable def sp_scaled : Sp:=fun vs H Q _ => ∃ a p qs x,vs = [.ref a,.ref p] ∧ Rw H a qs ∧ Pq H p x ∧ qs.length ≤ 30 ∧ (∀ q ∈ qs,Bq 1500 q) ∧ Bq 1500 x ∧ ∀ r H',Same H H'→H r = none→Rw H' r (Po.pscale qs x)→Q (.ref r) H'
noncomputable def sp_slope : Sp:=fun vs H Q _ => ∃ a qs,vs = [.ref a] ∧ Rw H a qs ∧ qs.length ≤ 30 ∧ (∀ q ∈ qs,Bq 1500 q) ∧ ∀ r H',Same H H'→H r = none→Rw H' r (Po.pslope qs)→Q (.ref r) H'
noncomputable def sp_sum : Sp:=fun vs H Q _ => ∃ a b ps qs sg,vs = [.ref a,.ref b,.int sg] ∧ Rw H a ps ∧ Rw H b qs ∧ (sg = 1 ∨ sg = -1) ∧ ps.length ≤ 30 ∧ qs.length ≤ 30 ∧ (∀ q ∈ ps,Bq 1500 q) ∧ (∀ q ∈ qs,Bq 1500 q) ∧
  ∀ r H',Same H H'→H r = none→Rw H' r (if sg = 1 then Po.padd ps qs else Po.psub ps qs)→Q (.ref r) H'
noncomputable def sp_product : Sp:=fun vs H Q _ => ∃ a b ps qs,vs = [.ref a,.ref b] ∧ Rw H a ps ∧ Rw H b qs ∧ ps.length ≤ 13 ∧ qs.length ≤ 13 ∧ (∀ q ∈ ps,Bq 101 q) ∧ (∀ q ∈ qs,Bq 101 q) ∧ ∀ r H',Same H H'→H r = none→Rw H' r (Po.pmul ps qs)→Q (.ref r) H'
noncomputable def GoodAt (a d h k : Addr) (H : Hp) (R : Hp→Prop) : Prop:=∃ qs as bs rss,Rw H a qs ∧ Rw H d qs ∧ qs.length ≤ 1000 ∧ H h = some (.lst (as.map V.ref)) ∧ Rws H as rss ∧ H k = some (.lst (bs.map V.ref)) ∧ Rws H bs rss ∧
  a ∉ as ∧ a ∉ bs ∧ a ≠ h ∧ a ≠ k ∧ h ∉ as ∧ as.length ≤ 2 ∧ (∀ rs ∈ rss,rs.length ≤ 1000) ∧ ∀ H',Sx (a :: as) H H'→R H'
noncomputable def sp_good : Sp:=fun vs H Q _ => ∃ a d h k,vs = [.ref a,.ref d,.ref h,.ref k] ∧ GoodAt a d h k H fun H' => Q (.bl true) H'
structure Two (H : Hp) (kp o1 o2 : Addr) (ps qs : List Rat) : Prop where
  one : Rw H o1 ps
  other : Rw H o2 qs
  kept : H kp = some (.lst [.ref o1,.ref o2])
noncomputable def sp_handed : Sp:=fun vs H Q _ => ∃ a b ps qs tw,vs = [.ref a,.ref b,.bl tw] ∧ Rw H a ps ∧ Rw H b qs ∧ (tw = true→ps = qs) ∧ ps.length ≤ 30 ∧ qs.length ≤ 30 ∧
  ∀ r x y H',Same H H'→H r = none→H x = none→H y = none→H' r = some (.lst [.ref x,.ref y])→Rw H' x ps→Rw H' y qs→r ≠ x→r ≠ y→Q (.ref r) H'
theorem sgn_iff {a : Int} : sgn a = 0 ↔ a = 0:=by
  unfold sgn
  split
  · (first | lia | omega)
  · split <;> (first | lia | omega)
theorem Rw.setq {H : Hp} {D p : Addr} {qs : List Rat} {q : Rat} {xs : List V} (k : Nat) (e : H D = some (.lst xs)) (h : Rw H D qs) (kp : Pq H p q) : Rw (upd H D (.lst (xs.set k (.ref p)))) D (qs.set k q):=by
  obtain ⟨ps,e1,k1⟩:=h
  rw [e] at e1
  cases e1
  exact ⟨ps.set k p,by rw [upd_same,List.map_set],(k1.set k kp).updL e⟩
theorem sc_poly : FnScope ["figures","most"] ["figures"] (defScope s_poly):=⟨rfl,rfl,rfl,by decide +kernel,rfl,by decide +kernel,by decide +kernel⟩
theorem ok_poly (F : Fun K "poly" "poly" s_poly f fd) (T : Txt mg) (C_side : Cal P w K mg base "side" 1 ["one"] sp_side) : FnOk P w K mg base CX0 2 f fd ["figures"] sp_stripQ:=by
  refine F.ok sc_poly (fun vs H Q E h => ?_) (fun cdv A outer s H vs Q E hr h => ?_)
  · obtain ⟨a,qs,rfl,_⟩:=h
    rfl
  obtain ⟨a,qs,rfl,⟨ps,h1,h2⟩,hz,q⟩:=h
  have hl:=h2.length
  refine ⟨_,(pss_cons (ps_set (i:=1) sc_poly.nd rfl (Or.inl rfl) (pe_callB call_len_seq rfl T.z_len PySem.boot_len (pa_cons (pv 0) pa_nil)))
      (pss_cons (ps_while PassesOwn.never (PW.pt (pw_and (pt_cmpR op_gt (pv 1) pe_int (nomark _)) (pw_and1 (pt_cmpR op_eq (pe_cl C_side hr (pa_cons (pe_ix ix_list (pv 0) (pe_op op_sub (pv 1) pe_int) (fun _ _ => rfl)) pa_nil)) pe_int (nomark _)))))
        (pss_one (ps_aug (i:=1) sc_poly.nd rfl (Or.inl rfl) pe_int ip_sub)))
      (pss_one (ps_ret (pe_slice sl_list (pv 0) po_none (po_some (pv 1))))))),?_⟩
  refine ⟨_,rfl,a,_,rfl,.inl (SqL.of h1),?_⟩
  refine ⟨fun m σ H' => ∃ n : Nat,σ = [some (.ref a),some (.int n)] ∧ H = H' ∧ n ≤ qs.length ∧ Po.strip (qs.take n) = Po.strip qs ∧ m = n,⟨_,qs.length,?_,rfl,Nat.le_refl _,by rw [List.take_length],rfl⟩,?_⟩
  · rw [List.length_map,hl]; rfl
  rintro m σ _ ⟨n,rfl,rfl,hn,e,rfl⟩
  have fin : Po.strip qs = qs.take m→∀ p,H p = none→Q (.ref p) (upd H p (.lst (cutV (ps.map V.ref) none (some (m : Int))))):=fun e2 p hp => by
    refine q p _ (same_upd hp _) hp ⟨ps.take m,?_,?_⟩
    · rw [upd_same]
      unfold cutV
      rw [HT.sIx_none,HT.sIx_nat,List.length_map,Nat.min_eq_left (by (first | lia | omega)),List.drop_zero,List.map_take]
      rfl
    · rw [e2]
      exact (h2.take m).keep (same_upd hp _)
  refine ⟨_,rfl,_,_,rfl,rfl,_,rfl,?_⟩
  refine ite2 (fun c => ?_) (fun c => ?_)
  · have c' : (0 : Int) < m:=of_decide_eq_true c
    obtain ⟨n,rfl⟩ : ∃ n,m = n + 1:=⟨m - 1,by (first | lia | omega)⟩
    have hlt : n < qs.length:=by (first | lia | omega)
    have eq:=List.getElem?_eq_getElem hlt
    obtain ⟨p,e1,hp⟩:=h2.get eq
    have e0 : ((n + 1 : Nat) : Int) - 1 = (n : Int):=by (first | lia | omega)
    have ei : atI (ps.map V.ref) (((n + 1 : Nat) : Int) - 1) = some (.ref p):=by
      rw [e0]
      exact atI_nat e1
    refine ⟨_,rfl,_,rfl,_,_,rfl,rfl,a,_,_,_,rfl,rfl,SqL.of h1,ei,_,_,_,rfl,hp,rfl,_,rfl,?_⟩
    refine ite2 (fun c2 => ⟨fun σ' H' => ∃ m',m' < n + 1 ∧ ∃ n : Nat,σ' = [some (.ref a),some (.int n)] ∧ H = H' ∧ n ≤ qs.length ∧ Po.strip (qs.take n) = Po.strip qs ∧ m' = n,fun _ _ h => h,?_⟩) (fun c2 => ?_)
    · have z : qs[n] = 0:=num_zero.mp (sgn_iff.mp (V.int.inj (of_decide_eq_true c2)))
      refine ⟨_,rfl,_,_,rfl,rfl,n,by (first | lia | omega),n,?_,rfl,by (first | lia | omega),?_,rfl⟩
      · show [some (V.ref a),some (V.int (((n + 1 : Nat) : Int) - 1))] = _
        rw [e0]
      · rw [Po.take_snoc eq,z,Po.strip_snoc0] at e
        exact e
    · have z : qs[n] ≠ 0:=fun z => of_decide_eq_false (Bool.eq_false_iff.mpr c2) (congrArg V.int (sgn_iff.mpr (num_zero.mpr z)))
      refine ⟨_,rfl,_,rfl,_,rfl,_,_,rfl,SqL.of h1,fun p hp => fin ?_ p hp⟩
      rw [Po.take_snoc eq,Po.strip_snoc z] at e
      rw [← e,Po.take_snoc eq]
  · have c' : ¬ (0 : Int) < m:=of_decide_eq_false (Bool.eq_false_iff.mpr c)
    obtain rfl : m = 0:=by (first | lia | omega)
    refine iteF ?_
    refine ⟨_,rfl,_,rfl,_,rfl,_,_,rfl,SqL.of h1,fun p hp => fin ?_ p hp⟩
    rw [← e]
    rfl
theorem sc_figure_at : FnScope ["one","power"] ["one","power"] (defScope s_figure_at):=⟨rfl,rfl,rfl,by decide +kernel,rfl,by decide +kernel,by decide +kernel⟩
theorem ok_figure_at (F : Fun K "figure_at" "figure_at" s_figure_at f fd) (T : Txt mg) : FnOk P w K mg base CX0 1 f fd ["one","power"] sp_atQ:=by
  refine F.ok sc_figure_at (fun vs H Q E h => ?_) (fun cdv A outer s H vs Q E hr h => ?_)
  · obtain ⟨a,qs,k,rfl,_⟩:=h
    rfl
  obtain ⟨a,qs,k,rfl,⟨ps,h1,h2⟩,q⟩:=h
  have hl:=h2.length
  refine ⟨_,(pss_cons (ps_if (pt_cmpR op_lt (pv 1) (pe_callB call_len_seq rfl T.z_len PySem.boot_len (pa_cons (pv 0) pa_nil)) (nomark _))
        (pss_one (ps_ret (pe_ix ix_list (pv 0) (pv 1) (fun _ _ => rfl))))
        pss_nil)
      (pss_one (ps_ret (pe_tup (pa_cons pe_int (pa_cons pe_int pa_nil)))))),?_⟩
  refine ⟨_,rfl,_,rfl,a,_,rfl,.inl (SqL.of h1),_,_,rfl,rfl,_,rfl,?_⟩
  refine ite2 (fun c => ?_) (fun c => ?_)
  · have c' : (k : Int) < (((ps.map V.ref).length : Nat) : Int):=of_decide_eq_true c
    rw [List.length_map] at c'
    have hk : k < qs.length:=by (first | lia | omega)
    obtain ⟨p,e,hp⟩:=h2.get (List.getElem?_eq_getElem hk)
    refine ⟨_,rfl,_,rfl,a,_,_,_,rfl,rfl,SqL.of h1,atI_nat e,q p H (Same.refl _) ?_⟩
    rw [List.getD_eq_getElem?_getD,List.getElem?_eq_getElem hk]
    exact hp
  · have c' : ¬ (k : Int) < (((ps.map V.ref).length : Nat) : Int):=of_decide_eq_false (Bool.eq_false_iff.mpr c)
    rw [List.length_map] at c'
    refine ⟨(by show 2 ≤ sizeLine; decide),fun p hp => q p _ (same_upd hp _) ?_⟩
    rw [List.getD_eq_getElem?_getD,List.getElem?_eq_none (by (first | lia | omega))]
    exact Pq.of Pr.new ⟨rfl,rfl⟩
theorem sc_poly_plus : FnScope ["one","other","most"] ["one","other"] (defScope s_poly_plus):=⟨rfl,rfl,rfl,by decide +kernel,rfl,by decide +kernel,by decide +kernel⟩
theorem ok_poly_plus (F : Fun K "poly_plus" "poly_plus" s_poly_plus f fd) (T : Txt mg) (C_figure_at : Cal P w K mg base "figure_at" 1 ["one","power"] sp_atQ) (C_plus : Cal P w K mg base "plus" 2 ["one","other"] (sp_bin 8000 (· + ·)))
    (C_poly : Cal P w K mg base "poly" 2 ["figures"] sp_stripQ) : FnOk P w K mg base CX0 4 f fd ["one","other"] (sp_pbin Po.padd):=by
  refine F.ok sc_poly_plus (fun vs H Q E h => ?_) (fun cdv A outer s H vs Q E hr h => ?_)
  · obtain ⟨a,b,ps,qs,rfl,_⟩:=h
    rfl
  obtain ⟨a,b,ps,qs,rfl,ha,hb,lp,lq,bp,bq,q⟩:=h
  obtain ⟨xa,ea,la⟩:=ha.there
  obtain ⟨xb,eb,lb⟩:=hb.there
  refine ⟨_,(pss_cons (ps_set (i:=2) sc_poly_plus.nd rfl (Or.inl rfl) (pe_callB (call_max2 rfl) rfl T.z_max boot_max (pa_cons (pe_callB call_len_seq rfl T.z_len PySem.boot_len (pa_cons (pv 0) pa_nil)) (pa_cons (pe_callB call_len_seq rfl T.z_len PySem.boot_len (pa_cons (pv 1) pa_nil)) pa_nil))))
      (pss_one (ps_ret (pe_cl C_poly hr (pa_cons (pe_comp (N':=["power","one","other"]) (fsc:=defScope s_poly_plus) (N:=["one","other","most"]) [0,1] ⟨rfl,by decide +kernel,by decide +kernel,by decide +kernel,rfl,by decide +kernel,rfl,by decide +kernel⟩ (pi_range1 rfl T.z_range (pa_cons (pv 2) pa_nil)) (fun _ _ _ _ => (pe_cl C_plus hr (pa_cons (pe_cl C_figure_at hr (pa_cons (pv 1) (pa_cons (pv 0) pa_nil))) (pa_cons (pe_cl C_figure_at hr (pa_cons (pv 2) (pa_cons (pv 0) pa_nil))) pa_nil))))) pa_nil))))),?_⟩
  refine ⟨_,rfl,_,_,rfl,.inl (SqL.of ea),_,rfl,_,_,rfl,.inl (SqL.of eb),_,_,rfl,?_⟩
  have en : (if (xb.length : Int) > (xa.length : Int) then (xb.length : Int) else (xa.length : Int)).toNat = max ps.length qs.length:=by
    split <;> (first | lia | omega)
  refine ⟨_,rfl,_,rfl,?_,?_,comp_rangeQ ?_ (fun k => ps.getD k 0 + qs.getD k 0) ?_ fun H1 D s1 nD rwD => ?_⟩
  · split <;> (first | lia | omega)
  · split <;> (first | lia | omega)
  · rw [en]; (first | lia | omega)
  · intro _ _ _ _ i H1 R hi s1 fin
    refine ⟨_,rfl,_,rfl,a,ps,0 + i,?_,ha.keep s1,fun p1 H2 s2 k1 => ⟨_,rfl,_,rfl,b,qs,0 + i,?_,hb.keep (s1.trans s2),fun p2 H3 s3 k2 => ?_⟩⟩
    · simp
    · simp
    rw [Nat.zero_add] at k1 k2
    exact ⟨p1,p2,_,_,rfl,k1.keep s3,k2,(Po.getD_bq (by decide) bp i).mono (by decide),(Po.getD_bq (by decide) bq i).mono (by decide),fun p3 H4 s4 k3 => fin p3 H4 (s2.trans (s3.trans s4)) k3⟩
  · rw [en] at rwD
    exact ⟨D,_,rfl,rwD,by simp; (first | lia | omega),fun r H2 s2 n2 rw2 => q r H2 (s1.trans s2) (s1.free n2) rw2⟩
theorem sc_scaled : FnScope ["one","number"] ["one","number"] (defScope s_scaled):=⟨rfl,rfl,rfl,by decide +kernel,rfl,by decide +kernel,by decide +kernel⟩
theorem ok_scaled (F : Fun K "scaled" "scaled" s_scaled f fd) (T : Txt mg) (C_times : Cal P w K mg base "times" 2 ["one","other"] (sp_bin 8000 (· * ·))) (C_poly : Cal P w K mg base "poly" 2 ["figures"] sp_stripQ) : FnOk P w K mg base CX0 4 f fd ["one","number"] sp_scaled:=by
  refine F.ok sc_scaled (fun vs H Q E h => ?_) (fun cdv A outer s H vs Q E hr h => ?_)
  · obtain ⟨a,p,qs,x,rfl,_⟩:=h
    rfl
  obtain ⟨a,p,qs,x,rfl,ha,hp,lq,bq,bx,q⟩:=h
  obtain ⟨xa,ea,la⟩:=ha.there
  refine ⟨_,(pss_one (ps_ret (pe_cl C_poly hr (pa_cons (pe_comp (N':=["figure","number"]) (fsc:=defScope s_scaled) (N:=["one","number"]) [1] ⟨rfl,by decide +kernel,by decide +kernel,by decide +kernel,rfl,by decide +kernel,rfl,by decide +kernel⟩ (pi_list (pv 0)) (fun _ _ _ _ => (pe_cl C_times hr (pa_cons (pv 0) (pa_cons (pv 1) pa_nil))))) pa_nil)))),?_⟩
  refine ⟨_,rfl,a,rfl,⟨_,SqL.of ea⟩,comp_listQ (qs:=qs) (by (first | lia | omega)) ha (fun y => y * x) ?_ fun H1 D s1 nD rwD => ?_⟩
  · intro _ _ _ _ p1 y H1 R hy k1 s1 fin
    exact ⟨_,rfl,_,rfl,p1,p,_,_,rfl,k1,hp.keep s1,(bq y hy).mono (by decide),bx.mono (by decide),fun p3 H4 s4 k3 => fin p3 H4 s4 k3⟩
  · exact ⟨D,_,rfl,rwD,by simp; (first | lia | omega),fun r H2 s2 n2 rw2 => q r H2 (s1.trans s2) (s1.free n2) rw2⟩
noncomputable def cell0 (ns : List Int) (k : Nat) : Int:=ns.getD k 0
noncomputable def sp_cell0 (K : PySem.W.Frag) : Sp:=fun vs H Q _ => ∃ (a : Addr) (ns : List Int) (k : Nat),vs = [.ref a,.int k] ∧ SqL K H a (ns.map V.int) ∧ Q (.int (cell0 ns k)) H
noncomputable def sp_gcd : Sp:=fun vs H Q _ => ∃ a b,vs = [.int a,.int b] ∧ 0 ≤ b ∧ Q (.int (g a b)) H
noncomputable def sp_numbers : Sp:=fun vs H Q _ => ∃ (c : Int) (m : Nat),vs = [.int c,.int m] ∧ m ≤ 100 ∧ ∀ (r : Addr) (ns : List Int) (H' : Hp),Same H H'→H r = none→H' r = some (.lst (ns.map V.int))→ns.length = m→(∀ n ∈ ns,0 ≤ n ∧ n < 100000)→Q (.ref r) H'
noncomputable def abv (v : Int) : Rat:=((1 + v % 12 : Int) : Rat) / ((1 + v / 12 % 12 : Int) : Rat)
theorem div_pos {t b : Int} (ht : 0 < t) (hb : 0 < b) : 0 < (t : Rat) / (b : Rat):=by
  rw [Rat.div_def]
  exact Rat.mul_pos (Rat.intCast_pos.mpr ht) (Rat.inv_pos.mpr (Rat.intCast_pos.mpr hb))
noncomputable def sp_above : Sp:=fun vs H Q _ => ∃ v,vs = [.int v] ∧ ∀ r H',Same H H'→Pq H' r (abv v)→Q (.ref r) H'
structure Drawn (mo : Nat) (gs ws : List Rat) : Prop where
  len : gs.length = ws.length + 1
  most : ws.length ≤ mo
  pos : (∀ q ∈ gs,0 < q) ∧ ∀ q ∈ ws,0 < q
  size : ((∀ q ∈ gs,Bq 4 q) ∧ ∀ q ∈ ws,Bq 4 q) ∨ (ws.length ≤ 1 + mo / 11 ∧ (∀ q ∈ gs,Bq 101 q) ∧ ∀ q ∈ ws,Bq 101 q)
noncomputable def sp_cord_by (K : PySem.W.Frag) : Sp:=fun vs H Q _ => ∃ (a : Addr) (ns : List Int) (most : Nat),vs = [.ref a,.int most] ∧ SqL K H a (ns.map V.int) ∧ (∀ n ∈ ns,Bt 1048576 n) ∧ (4 ≤ most ∧ most ≤ 12) ∧
  ∀ r ga wa gs ws H',Same H H'→H' r = some (.tup [.ref ga,.ref wa])→H ga = none→H wa = none→ga ≠ wa→Rw H' ga gs→Rw H' wa ws→Drawn most gs ws→Q (.ref r) H'
noncomputable def sp_lawB (K : PySem.W.Frag) : Sp:=fun vs H Q _ => ∃ (a : Addr) (ns : List Int),vs = [.ref a] ∧ SqL K H a (ns.map V.int) ∧ ns.length ≤ 63 ∧ (∀ n ∈ ns,Bt 1048576 n) ∧ ∀ H',Q (.bl true) H'
noncomputable def CbyM (H : Hp) (a xs : Addr) (mo : Nat) (hd : Int) (σ' : L2.St) (H' : Hp) : Prop:=∃ (m' : Nat) (pt : Addr) (qs : List Rat) (v w : Option V),σ' = [some (.ref a),some (.int mo),some (.int hd),some (.int m'),some (.ref xs),some (.ref pt),v,w] ∧ Same H H' ∧ H pt = none ∧ Rw H' pt qs ∧ qs.length = 2 * m' + 1 ∧ m' ≤ mo ∧ (∀ q ∈ qs,0 < q) ∧ ((∀ q ∈ qs,Bq 4 q) ∨ (m' ≤ 1 + mo / 11 ∧ ∀ q ∈ qs,Bq 101 q))
noncomputable def CbyI (H2 : Hp) (a xs pt : Addr) (mo m' : Nat) (hd : Int) (i : Nat) (σ : L2.St) (H' : Hp) : Prop:=∃ (v w : Option V) (qs : List Rat),σ = [some (.ref a),some (.int mo),some (.int hd),some (.int m'),some (.ref xs),some (.ref pt),v,w] ∧ Same H2 H' ∧ Rw H' pt qs ∧ qs.length = i ∧ (∀ q ∈ qs,0 < q) ∧ ∀ q ∈ qs,Bq 101 q
theorem sc_law_cell_at : FnScope ["_law_script","_law_k"] ["_law_script","_law_k"] (defScope s_law_cell_at):=⟨rfl,rfl,rfl,by decide +kernel,rfl,by decide +kernel,by decide +kernel⟩
theorem ok_law_cell_at (F : Fun K "_law_cell_at" "_law_cell_at" s_law_cell_at f fd) (T : Txt mg) : FnOk P w K mg base CX0 1 f fd ["_law_script","_law_k"] (sp_cell0 K):=by
  refine F.ok sc_law_cell_at (fun vs H Q E h => ?_) (fun cdv A outer s H vs Q E hr h => ?_)
  · obtain ⟨a,ns,k,rfl,_⟩:=h
    rfl
  obtain ⟨a,ns,k,rfl,hS,q⟩:=h
  refine ⟨_,(pss_cons (ps_if (pt_cmpR op_lt (pv 1) (pe_callB call_len_seq rfl T.z_len PySem.boot_len (pa_cons (pv 0) pa_nil)) (nomark _))
        (pss_one (ps_ret (pe_ix ix_list (pv 0) (pv 1) (fun _ _ => rfl))))
        pss_nil)
      (pss_one (ps_ret pe_int))),?_⟩
  have hl : (ns.map V.int).length = ns.length:=List.length_map _
  refine ⟨_,rfl,_,rfl,a,_,rfl,.inl hS,_,_,rfl,rfl,_,rfl,?_⟩
  refine ite2 (fun c => ?_) (fun c => ?_)
  · have c' : (k : Int) < (((ns.map V.int).length : Nat) : Int):=of_decide_eq_true c
    rw [hl] at c'
    have hk : k < ns.length:=by (first | lia | omega)
    refine ⟨_,rfl,_,rfl,a,_,_,_,rfl,rfl,hS,atI_nat (v:=.int (cell0 ns k)) ?_,q⟩
    unfold cell0
    rw [List.getElem?_map,List.getD_eq_getElem?_getD,List.getElem?_eq_getElem hk]
    rfl
  · have c' : ¬ (k : Int) < (((ns.map V.int).length : Nat) : Int):=of_decide_eq_false (Bool.eq_false_iff.mpr c)
    rw [hl] at c'
    have e : cell0 ns k = 0:=by
      unfold cell0
      rw [List.getD_eq_getElem?_getD,List.getElem?_eq_none (by (first | lia | omega))]
      rfl
    rw [e] at q
    exact q
noncomputable def Co (C : Addr) (H : Hp) (c ga wa : Addr) (gs ws : List Rat) : Prop:=(∃ dx,H c = some (.ins C dx [("kept_gaps",.ref ga),("kept_weights",.ref wa)])) ∧ Rw H ga gs ∧ Rw H wa ws
theorem Co.keep {C : Addr} {H H' : Hp} {c ga wa : Addr} {gs ws : List Rat} (h : Co C H c ga wa gs ws) (s : Same H H') : Co C H' c ga wa gs ws:=by
  obtain ⟨⟨dx,e⟩,r1,r2⟩:=h
  exact ⟨⟨dx,s _ _ e⟩,r1.keep s,r2.keep s⟩
structure Fine (gs ws : List Rat) : Prop where
  len : gs.length = ws.length + 1
  most : ws.length ≤ 12
  pos : (∀ q ∈ gs,0 < q) ∧ ∀ q ∈ ws,0 < q
  bq : (∀ q ∈ gs,Bq 101 q) ∧ ∀ q ∈ ws,Bq 101 q
noncomputable def sp_init (C : Addr) : Sp:=fun vs H Q _ => ∃ x a b gs ws dx,vs = [.ref x,.ref a,.ref b] ∧ H x = some (.ins C dx []) ∧ Rw H a gs ∧ Rw H b ws ∧ Fine gs ws ∧
  ∀ ga wa H',(∀ b o,b ≠ x→H b = some o→H' b = some o)→H ga = none→H wa = none→Co C H' x ga wa gs ws→Q .non H'
structure Fine0 (gs ws : List Rat) : Prop where
  len : gs.length = ws.length + 1
  most : ws.length ≤ 12
  pos : (∀ q ∈ gs,0 < q) ∧ ∀ q ∈ ws,0 < q
noncomputable def sp_init0 (C : Addr) : Sp:=fun vs H Q _ => ∃ x a b gs ws dx,vs = [.ref x,.ref a,.ref b] ∧ H x = some (.ins C dx []) ∧ Rw H a gs ∧ Rw H b ws ∧ Fine0 gs ws ∧
  ∀ ga wa H',(∀ b o,b ≠ x→H b = some o→H' b = some o)→H ga = none→H wa = none→Co C H' x ga wa gs ws→Q .non H'
noncomputable def sp_gaps (C : Addr) : Sp:=fun vs H Q _ => ∃ c ga wa gs ws,vs = [.ref c] ∧ Co C H c ga wa gs ws ∧ ∀ r H',Same H H'→H r = none→Rw H' r gs→Q (.ref r) H'
noncomputable def sp_weights (C : Addr) : Sp:=fun vs H Q _ => ∃ c ga wa gs ws,vs = [.ref c] ∧ Co C H c ga wa gs ws ∧ ∀ r H',Same H H'→H r = none→Rw H' r ws→Q (.ref r) H'
noncomputable def sp_beads (C : Addr) : Sp:=fun vs H Q _ => ∃ c ga wa gs ws,vs = [.ref c] ∧ Co C H c ga wa gs ws ∧ Q (.int ws.length) H
noncomputable def sp_length (C : Addr) : Sp:=fun vs H Q _ => ∃ c ga wa gs ws,vs = [.ref c] ∧ Co C H c ga wa gs ws ∧ gs.length ≤ 13 ∧ (∀ q ∈ gs,Bq 101 q) ∧ ∀ r H',Same H H'→Pq H' r (Po.lsum gs)→Q (.ref r) H'
noncomputable def sp_turned (C : Addr) : Sp:=fun vs H Q _ => ∃ c ga wa gs ws,vs = [.ref c] ∧ Co C H c ga wa gs ws ∧ Fine gs ws ∧ ∀ c' ga' wa' H',Same H H'→H c' = none→H ga' = none→H wa' = none→Co C H' c' ga' wa' gs.reverse ws.reverse→Q (.ref c') H'
noncomputable def sp_frac : Sp:=fun vs H Q _ => ∃ p q,vs = [.ref p] ∧ Pq H p q ∧ Q (.bl true) H
noncomputable def sp_row_above : Sp:=fun vs H Q _ => ∃ a qs,vs = [.ref a] ∧ Rw H a qs ∧ (∀ q ∈ qs,0 < q) ∧ qs.length ≤ 1000 ∧ ∀ H',Same H H'→Q (.bl true) H'
theorem Pqs.reverse {H : Hp} {ps : List Addr} {qs : List Rat} (h : Pqs H ps qs) : Pqs H ps.reverse qs.reverse:=by
  induction h with
  | nil => exact .nil
  | cons x _ ih => rw [List.reverse_cons,List.reverse_cons]; exact ih.append (.cons x .nil)
noncomputable def sp_whole1 : Sp:=fun vs H Q _ => ∃ i,vs = [.int i] ∧ Q (.bl true) H
noncomputable def sp_same1 : Sp:=fun vs H Q _ => ∃ p p' q,vs = [.ref p,.ref p'] ∧ Pq H p q ∧ Pq H p' q ∧ Q (.bl true) H
noncomputable def sp_same_list : Sp:=fun vs H Q _ => ∃ a b qs,vs = [.ref a,.ref b] ∧ Rw H a qs ∧ Rw H b qs ∧ qs.length ≤ 1000 ∧ Q (.bl true) H
noncomputable def sp_len : Sp:=fun vs H Q _ => ∃ a gs,vs = [.ref a] ∧ Rw H a gs ∧ gs.length ≤ 13 ∧ (∀ q ∈ gs,Bq 101 q) ∧ ∀ r H',Same H H'→Pq H' r (Po.lsum gs)→Q (.ref r) H'
noncomputable def sp_told (C : Addr) : Sp:=fun vs H Q _ => ∃ c ga wa g w gs ws,vs = [.ref c,.ref g,.ref w] ∧ Co C H c ga wa gs ws ∧ Rw H g gs ∧ Rw H w ws ∧ Fine gs ws ∧ ∀ H',Same H H'→Q (.bl true) H'
variable {o_Cord : Addr}
theorem sc_Cord_gaps : FnScope ["self"] ["self"] (defScope s_Cord_gaps):=⟨rfl,rfl,rfl,by decide +kernel,rfl,by decide +kernel,by decide +kernel⟩
theorem ok_Cord_gaps (F : Fun K "gaps" "Cord.gaps" s_Cord_gaps f fd) (T : Txt mg) (O : OwnCord K mg o_Cord) : FnOk P w K mg base CX0 1 f fd ["self"] (sp_gaps o_Cord):=by
  refine F.ok sc_Cord_gaps (fun vs H Q E h => ?_) (fun cdv A outer s H vs Q E hr h => ?_)
  · obtain ⟨c,ga,wa,gs,ws,rfl,_⟩:=h
    rfl
  obtain ⟨c,ga,wa,gs,ws,rfl,⟨⟨dx,e⟩,r1,r2⟩,q⟩:=h
  obtain ⟨xs,hx,_⟩:=r1.there
  refine ⟨_,(pss_one (ps_ret (pe_callTy call_list_of rfl T.z_list boot_list (pa_cons (pe_fld (pv 0) rfl) pa_nil)))),?_⟩
  exact ⟨_,rfl,c,_,dx,_,_,rfl,e,O.cl,O.n_kept_gaps,rfl,ga,_,rfl,.inl (SqL.of hx),fun r hr' => q r _ (same_upd hr' _) hr' (r1.copy hx hr')⟩
theorem sc_Cord_weights : FnScope ["self"] ["self"] (defScope s_Cord_weights):=⟨rfl,rfl,rfl,by decide +kernel,rfl,by decide +kernel,by decide +kernel⟩
theorem ok_Cord_weights (F : Fun K "weights" "Cord.weights" s_Cord_weights f fd) (T : Txt mg) (O : OwnCord K mg o_Cord) : FnOk P w K mg base CX0 1 f fd ["self"] (sp_weights o_Cord):=by
  refine F.ok sc_Cord_weights (fun vs H Q E h => ?_) (fun cdv A outer s H vs Q E hr h => ?_)
  · obtain ⟨c,ga,wa,gs,ws,rfl,_⟩:=h
    rfl
  obtain ⟨c,ga,wa,gs,ws,rfl,⟨⟨dx,e⟩,r1,r2⟩,q⟩:=h
  obtain ⟨xs,hx,_⟩:=r2.there
  refine ⟨_,(pss_one (ps_ret (pe_callTy call_list_of rfl T.z_list boot_list (pa_cons (pe_fld (pv 0) rfl) pa_nil)))),?_⟩
  exact ⟨_,rfl,c,_,dx,_,_,rfl,e,O.cl,O.n_kept_weights,rfl,wa,_,rfl,.inl (SqL.of hx),fun r hr' => q r _ (same_upd hr' _) hr' (r2.copy hx hr')⟩
theorem sc_Cord_beads : FnScope ["self"] ["self"] (defScope s_Cord_beads):=⟨rfl,rfl,rfl,by decide +kernel,rfl,by decide +kernel,by decide +kernel⟩
theorem ok_Cord_beads (F : Fun K "beads" "Cord.beads" s_Cord_beads f fd) (T : Txt mg) (O : OwnCord K mg o_Cord) : FnOk P w K mg base CX0 1 f fd ["self"] (sp_beads o_Cord):=by
  refine F.ok sc_Cord_beads (fun vs H Q E h => ?_) (fun cdv A outer s H vs Q E hr h => ?_)
  · obtain ⟨c,ga,wa,gs,ws,rfl,_⟩:=h
    rfl
  obtain ⟨c,ga,wa,gs,ws,rfl,⟨⟨dx,e⟩,r1,r2⟩,q⟩:=h
  obtain ⟨xs,hx,hl⟩:=r2.there
  refine ⟨_,(pss_one (ps_ret (pe_callB call_len_seq rfl T.z_len PySem.boot_len (pa_cons (pe_fld (pv 0) rfl) pa_nil)))),?_⟩
  rw [← hl] at q
  exact ⟨_,rfl,c,_,dx,_,_,rfl,e,O.cl,O.n_kept_weights,rfl,wa,_,rfl,.inl (SqL.of hx),q⟩
theorem sc_is_fraction : FnScope ["thing"] ["thing"] (defScope s_is_fraction):=⟨rfl,rfl,rfl,by decide +kernel,rfl,by decide +kernel,by decide +kernel⟩
theorem ok_is_fraction (F : Fun K "is_fraction" "is_fraction" s_is_fraction f fd) (T : Txt mg) (C_is_whole : Cal P w K mg base "is_whole" 1 ["thing"] sp_whole) (C_divisor : Cal P w K mg base "divisor" 1 ["one","other"] sp_div) : FnOk P w K mg base CX0 2 f fd ["thing"] sp_frac:=by
  refine F.ok sc_is_fraction (fun vs H Q E h => ?_) (fun cdv A outer s H vs Q E hr h => ?_)
  · obtain ⟨p,q,rfl,_⟩:=h
    rfl
  obtain ⟨p,q0,rfl,kp,q⟩:=h
  have hp:=den_pos q0
  have hg : g q0.num q0.den = 1:=by
    unfold g
    rw [(fq q0).one]
    rfl
  refine ⟨_,(pss_cons (ps_if (PW.pt (pw_or (pt_not (pt_val (pe_callB call_isi rfl T.z_isinstance boot_isinstance (pa_cons (pv 0) (pa_cons (pe_bltn (v:=.ty "tuple") rfl T.z_tuple boot_tuple rfl) pa_nil))))) (pw_or1 (pt_cmpR op_ne (pe_callB call_len_seq rfl T.z_len PySem.boot_len (pa_cons (pv 0) pa_nil)) pe_int (nomark _)))))
        (pss_one (ps_ret pe_bl))
        pss_nil)
      (pss_cons (ps_if (PW.pt (pw_or (pt_not (pt_val (pe_cl C_is_whole hr (pa_cons (pe_ix ix_tup (pv 0) pe_int (fun _ _ => rfl)) pa_nil)))) (pw_or1 (pt_not (pt_val (pe_cl C_is_whole hr (pa_cons (pe_ix ix_tup (pv 0) pe_int (fun _ _ => rfl)) pa_nil)))))))
        (pss_one (ps_ret pe_bl))
        pss_nil)
      (pss_one (ps_ret (pe_and (pe_cmpR op_ge (pe_ix ix_tup (pv 0) pe_int (fun _ _ => rfl)) pe_int (nomark _)) (pe_one (pe_cmpR op_eq (pe_cl C_divisor hr (pa_cons (pe_ix ix_tup (pv 0) pe_int (fun _ _ => rfl)) (pa_cons (pe_ix ix_tup (pv 0) pe_int (fun _ _ => rfl)) pa_nil))) pe_int (nomark _)))))))),?_⟩
  refine ⟨_,rfl,_,_,_,_,rfl,TyOf.tup kp,kit_tup_tup _,_,rfl,iteF ?_⟩
  refine ⟨_,rfl,_,_,rfl,.inr kp.sq,rfl,_,rfl,iteNS rfl ?_⟩
  refine ⟨_,rfl,_,_,_,_,rfl,rfl,kp.sq,rfl,_,rfl,_,rfl,iteF ?_⟩
  refine ⟨_,rfl,_,_,_,_,rfl,rfl,kp.sq,rfl,_,rfl,_,rfl,iteF ?_⟩
  refine ⟨_,rfl,_,_,_,_,rfl,rfl,kp.sq,rfl,_,_,rfl,rfl,_,rfl,iteD (by (first | lia | omega)) ?_⟩
  refine ⟨_,rfl,_,_,_,_,rfl,rfl,kp.sq,rfl,_,rfl,_,_,_,_,rfl,rfl,kp.sq,rfl,_,_,rfl,rfl,?_⟩
  rw [hg]
  exact q
theorem sc_is_row_above : FnScope ["thing"] ["thing"] (defScope s_is_row_above):=⟨rfl,rfl,rfl,by decide +kernel,rfl,by decide +kernel,by decide +kernel⟩
theorem ok_is_row_above (F : Fun K "is_row_above" "is_row_above" s_is_row_above f fd) (T : Txt mg) (C_is_fraction : Cal P w K mg base "is_fraction" 2 ["thing"] sp_frac) (C_side : Cal P w K mg base "side" 1 ["one"] sp_side) : FnOk P w K mg base CX0 3 f fd ["thing"] sp_row_above:=by
  refine F.ok sc_is_row_above (fun vs H Q E h => ?_) (fun cdv A outer s H vs Q E hr h => ?_)
  · obtain ⟨a,qs,rfl,_⟩:=h
    rfl
  obtain ⟨a,qs,rfl,ra,hpos,hlen,q⟩:=h
  obtain ⟨ps,hx,kp⟩:=id ra
  have hl:=kp.length
  refine ⟨_,(pss_cons (ps_if (pt_not (pt_val (pe_callB call_isi rfl T.z_isinstance boot_isinstance (pa_cons (pv 0) (pa_cons (pe_bltn (v:=.ty "list") rfl T.z_list boot_list rfl) pa_nil)))))
        (pss_one (ps_ret pe_bl))
        pss_nil)
      (pss_one (ps_ret (pe_callB (call_all rfl) rfl T.z_all boot_all (pa_cons (pe_comp (N':=["part"]) (fsc:=defScope s_is_row_above) (N:=["thing"]) [] ⟨rfl,by decide +kernel,by decide +kernel,by decide +kernel,rfl,by decide +kernel,rfl,by decide +kernel⟩ (pi_list (pv 0)) (fun _ _ _ _ => (pe_and (pe_cl C_is_fraction hr (pa_cons (pv 0) pa_nil)) (pe_one (pe_cmpR op_eq (pe_cl C_side hr (pa_cons (pv 0) pa_nil)) pe_int (nomark _)))))) pa_nil))))),?_⟩
  refine ⟨_,rfl,_,_,_,_,rfl,TyOf.lst hx,kit_lst_lst _,_,rfl,iteF ?_⟩
  refine ⟨_,rfl,a,rfl,⟨_,SqL.of hx⟩,comp_listB (xs:=ps.map V.ref) (by rw [List.length_map]; (first | lia | omega)) hx (fun _ => true) ?_ fun H1 D s1 nD eD => ?_⟩
  · intro _ _ _ _ x H1 R hxm s1 fin
    obtain ⟨p1,hp1,rfl⟩:=List.mem_map.mp hxm
    obtain ⟨q1,hq1,k1⟩:=paired_left kp hp1
    have hn : 0 < q1.num:=by
      have:=hpos _ hq1
      have h0 : 0 ≤ q1.num:=Rat.num_nonneg.mpr (Rat.le_of_lt this)
      have h1 : q1.num ≠ 0:=fun z => Rat.ne_of_gt this (Rat.num_eq_zero.mp z)
      (first | lia | omega)
    have k2:=k1.keep s1
    refine ⟨_,rfl,p1,_,rfl,k2,_,rfl,iteT ?_⟩
    refine ⟨_,rfl,p1,_,_,rfl,k2,rfl,?_⟩
    have es : sgn q1.num = 1:=by unfold sgn; rw [if_pos hn]
    rw [es]
    exact fin H1 (Same.refl _)
  · refine ⟨D,_,rfl,SqL.of eD,?_⟩
    have e : ((ps.map V.ref).map fun _ => true).all id = true:=by simp
    rw [e]
    exact q H1 s1
theorem sc_Cord_init : FnScope ["self","gaps","weights"] ["self","gaps","weights"] (defScope s_Cord_init):=⟨rfl,rfl,rfl,by decide +kernel,rfl,by decide +kernel,by decide +kernel⟩
theorem ok_Cord_init0 (F : Fun K "__init__" "Cord.__init__" s_Cord_init f fd) (T : Txt mg) (O : OwnCord K mg o_Cord) (C_is_row_above : Cal P w K mg base "is_row_above" 3 ["thing"] sp_row_above) : FnOk P w K mg base CX0 4 f fd ["self","gaps","weights"] (sp_init0 o_Cord):=by
  refine F.ok sc_Cord_init (fun vs H Q E h => ?_) (fun cdv A outer s H vs Q E hr h => ?_)
  · obtain ⟨x,a,b,gs,ws,dx,rfl,_⟩:=h
    rfl
  obtain ⟨x,a,b,gs,ws,dx,rfl,ex0,ra0,rb0,fine,q0⟩:=h
  have hlen:=fine.len
  have hmost:=fine.most
  refine ⟨_,(pss_cons (ps_if (PW.pt (pw_or (pt_not (pt_val (pe_cl C_is_row_above hr (pa_cons (pv 1) pa_nil)))) (pw_or1 (pt_not (pt_val (pe_cl C_is_row_above hr (pa_cons (pv 2) pa_nil)))))))
        (pss_one ps_never)
        pss_nil)
      (pss_cons (ps_if (PW.pt (pw_or (pt_cmpR op_ne (pe_callB call_len_seq rfl T.z_len PySem.boot_len (pa_cons (pv 1) pa_nil)) (pe_op op_add (pe_callB call_len_seq rfl T.z_len PySem.boot_len (pa_cons (pv 2) pa_nil)) pe_int) (nomark _)) (pw_or1 (pt_cmpR op_gt (pe_callB call_len_seq rfl T.z_len PySem.boot_len (pa_cons (pv 2) pa_nil)) (pe_globI rfl T.c_MOST_BEADS) (nomark _)))))
        (pss_one ps_never)
        pss_nil)
      (pss_cons (ps_fld (pv 0) (pe_callTy call_list_of rfl T.z_list boot_list (pa_cons (pv 1) pa_nil)) rfl)
      (pss_one (ps_fld (pv 0) (pe_callTy call_list_of rfl T.z_list boot_list (pa_cons (pv 2) pa_nil)) rfl))))),?_⟩
  refine ⟨_,rfl,a,gs,rfl,ra0,fine.pos.1,by (first | lia | omega),fun H1 t1 => ⟨_,rfl,iteF ?_⟩⟩
  refine ⟨_,rfl,b,ws,rfl,rb0.keep t1,fine.pos.2,by (first | lia | omega),fun H2 t2 => ⟨_,rfl,iteF ?_⟩⟩
  have t12:=t1.trans t2
  have ex:=t12 _ _ ex0
  have ra:=ra0.keep t12
  have rb:=rb0.keep t12
  have q : ∀ ga wa H',(∀ b o,b ≠ x→H2 b = some o→H' b = some o)→H2 ga = none→H2 wa = none→Co o_Cord H' x ga wa gs ws→Q .non H':=fun ga wa H' k n1 n2 co => q0 ga wa H' (fun b o n e => k b o n (t12 _ _ e)) (t12.free n1) (t12.free n2) co
  clear q0 ex0 ra0 rb0 t1
  clear t12
  clear t2
  clear H1
  generalize H2 = H at *
  obtain ⟨xa,ea,la⟩:=ra.there
  obtain ⟨xb,eb,lb⟩:=rb.there
  refine ⟨_,rfl,_,_,rfl,.inl (SqL.of ea),_,rfl,_,_,rfl,.inl (SqL.of eb),_,_,rfl,rfl,rfl,_,rfl,iteNS (by rw [la,lb]; exact congrArg V.int (by (first | lia | omega))) ?_⟩
  refine ⟨_,rfl,_,_,rfl,.inl (SqL.of eb),_,_,rfl,rfl,_,rfl,iteND (by (first | lia | omega)) ?_⟩
  refine ⟨_,rfl,a,_,rfl,.inl (SqL.of ea),fun ga hga => ?_⟩
  have s1:=same_upd hga (.lst xa)
  have r1:=ra.copy ea hga
  refine ⟨_,rfl,x,_,dx,_,rfl,s1 _ _ ex,O.cl,O.n_kept_gaps,by decide,?_⟩
  have nxa : x ≠ ga:=ne_of_none ex hga
  have nb : b ≠ x:=ne_of eb ex (by intro z; cases z)
  obtain ⟨H2,e2⟩ : ∃ H2,H2 = upd (upd H ga (.lst xa)) x (.ins o_Cord dx (putF "kept_gaps" (.ref ga) [])):=⟨_,rfl⟩
  rw [← e2]
  have k2 : ∀ c o,c ≠ x→(upd H ga (.lst xa)) c = some o→H2 c = some o:=fun c o n e => by rw [e2,upd_ne n]; exact e
  have rows : ∀ {c : Addr} {qs : List Rat},Rw (upd H ga (.lst xa)) c qs→Rw H2 c qs:=fun {c qs} r => by
    obtain ⟨ps,h1,h2⟩:=r
    exact ⟨ps,k2 _ _ (ne_of h1 (s1 _ _ ex) (by intro z; cases z)) h1,Paired.imp' (fun p t z => by
      have z' : (upd H ga (.lst xa)) p = some (.tup [.int t.num,.int t.den]):=z
      exact k2 _ _ (ne_of z' (s1 _ _ ex) (by intro w; cases w)) z') h2⟩
  have rb2:=rows (rb.keep s1)
  have rg2:=rows r1
  have ex2 : H2 x = some (.ins o_Cord dx [("kept_gaps",.ref ga)]):=by rw [e2,upd_same]; rfl
  obtain ⟨xb2,eb2,lb2⟩:=rb2.there
  refine ⟨_,rfl,b,_,rfl,.inl (SqL.of eb2),fun wa hwa => ?_⟩
  have s3:=same_upd hwa (.lst xb2)
  have r3:=rb2.copy eb2 hwa
  refine ⟨_,rfl,x,_,dx,_,rfl,s3 _ _ ex2,O.cl,O.n_kept_weights,(by show 1 < 1000; decide),?_⟩
  obtain ⟨H4,e4⟩ : ∃ H4,H4 = upd (upd H2 wa (.lst xb2)) x (.ins o_Cord dx (putF "kept_weights" (.ref wa) [("kept_gaps",.ref ga)])):=⟨_,rfl⟩
  have k4 : ∀ c o,c ≠ x→(upd H2 wa (.lst xb2)) c = some o→H4 c = some o:=fun c o n e => by rw [e4,upd_ne n]; exact e
  have rows4 : ∀ {c : Addr} {qs : List Rat},Rw (upd H2 wa (.lst xb2)) c qs→Rw H4 c qs:=fun {c qs} r => by
    obtain ⟨ps,h1,h2⟩:=r
    exact ⟨ps,k4 _ _ (ne_of h1 (s3 _ _ ex2) (by intro z; cases z)) h1,Paired.imp' (fun p t z => by
      have z' : (upd H2 wa (.lst xb2)) p = some (.tup [.int t.num,.int t.den]):=z
      exact k4 _ _ (ne_of z' (s3 _ _ ex2) (by intro w; cases w)) z') h2⟩
  have fin:=q ga wa H4 (fun c o n e => k4 c o n (s3 _ _ (k2 c o n (s1 _ _ e)))) hga ?_ ⟨⟨dx,?_⟩,rows4 (rg2.keep s3),rows4 r3⟩
  · rw [e4] at fin
    exact fin
  · cases hw : H wa with
    | none => rfl
    | some o =>
      by_cases n : wa = x
      · rw [n,ex2] at hwa; cases hwa
      · rw [k2 wa o n (s1 _ _ hw)] at hwa; cases hwa
  · rw [e4,upd_same]; rfl
theorem sub_as (p q : Rat) : (((p.num * q.den - q.num * p.den : Int)) : Rat) / ((p.den * q.den : Int) : Rat) = p - q:=by
  have e:=add_as p (-q)
  rw [Rat.neg_num,Rat.neg_den] at e
  rw [Int.sub_eq_add_neg,← Int.neg_mul,e,Rat.sub_eq_add_neg]
noncomputable def sp_frac4 : Sp:=fun vs H Q _ => ∃ p q,vs = [.ref p] ∧ Pq H p q ∧ Bq 8000 q ∧ ∀ H',Same H H'→Q (.bl true) H'
noncomputable def sp_row4 : Sp:=fun vs H Q _ => ∃ a b qs,vs = [.ref a,.ref b] ∧ Rw H a qs ∧ Rw H b qs ∧ qs.length ≤ 1000 ∧ (∀ q ∈ qs,Bq 8000 q) ∧ ∀ H',Same H H'→Q (.bl true) H'
noncomputable def sp_twelfths : Sp:=fun vs H Q _ => ∃ (c : Int) (m : Nat),vs = [.int c,.int m] ∧ m ≤ 100 ∧ ∀ r qs H',Same H H'→H r = none→Rw H' r qs→qs.length = m→(∀ q ∈ qs,0 < q)→(∀ q ∈ qs,Bq 4 q)→Q (.ref r) H'
noncomputable def sp_drawn (K : PySem.W.Frag) : Sp:=fun vs H Q _ => ∃ (a : Addr) (ns : List Int),vs = [.ref a] ∧ SqL K H a (ns.map V.int) ∧
  ∀ r ga wa gs ws H',Same H H'→H' r = some (.tup [.ref ga,.ref wa])→H ga = none→H wa = none→ga ≠ wa→Rw H' ga gs→Rw H' wa ws→Drawn 12 gs ws→ws.length ≤ 4→Q (.ref r) H'
noncomputable def sp_number4 : Sp:=fun vs H Q _ => ∃ c o,vs = [.int c,.int o] ∧ ∀ r t H',Same H H'→Bq 334 t→Pq H' r t→Q (.ref r) H'
theorem sc_law_low : FnScope ["_law_top","_law_bottom","_law_one","_law_other","_law_rest"] ["_law_top","_law_bottom"] (defScope s_law_low):=⟨rfl,rfl,rfl,by decide +kernel,rfl,by decide +kernel,by decide +kernel⟩
theorem ok_law_low (F : Fun K "_law_low" "_law_low" s_law_low f fd) (T : Txt mg) : FnOk P w K mg base CX0 1 f fd ["_law_top","_law_bottom"] sp_lowQ:=by
  refine F.ok sc_law_low (fun vs H Q E h => ?_) (fun cdv A outer s H vs Q E hr h => ?_)
  · obtain ⟨t,b,rfl,_⟩:=h
    rfl
  obtain ⟨t,b,rfl,hb,bb,q⟩:=h
  have c1 : 0 < g t b ∧ Bt 9000 (g t b):=⟨g_pos (by (first | lia | omega)),(g_bt hb bb).mono (by decide)⟩
  refine ⟨_,(pss_cons (ps_set (i:=2) sc_law_low.nd rfl (Or.inl rfl) (pe_callB call_abs rfl T.z_abs boot_abs (pa_cons (pv 0) pa_nil)))
      (pss_cons (ps_set (i:=3) sc_law_low.nd rfl (Or.inl rfl) (pe_callB call_abs rfl T.z_abs boot_abs (pa_cons (pv 1) pa_nil)))
      (pss_cons (ps_while PassesOwn.never (pt_cmpR op_gt (pv 3) pe_int (nomark _))
        (pss_cons (ps_set (i:=4) sc_law_low.nd rfl (Or.inl rfl) (pe_op op_mod (pv 2) (pv 3)))
        (pss_cons (ps_set (i:=2) sc_law_low.nd rfl (Or.inl rfl) (pv 3))
        (pss_one (ps_set (i:=3) sc_law_low.nd rfl (Or.inl rfl) (pv 4))))))
      (pss_cons (ps_if (pt_cmpR op_lt (pv 1) pe_int (nomark _))
        (pss_one (ps_set (i:=2) sc_law_low.nd rfl (Or.inl rfl) (pe_un un_neg (pv 2))))
        pss_nil)
      (pss_one (ps_ret (pe_tup (pa_cons (pe_op op_fdP (pv 0) (pv 2)) (pa_cons (pe_op op_fdP (pv 1) (pv 2)) pa_nil))))))))),?_⟩
  refine ⟨_,rfl,_,rfl,_,rfl,_,rfl,?_⟩
  refine ⟨fun m σ H' => ∃ x y r,σ = [some (.int t),some (.int b),some (.int x),some (.int y),r] ∧ H = H' ∧ 0 ≤ x ∧ 0 ≤ y ∧ g x y = g t b ∧ m = y.toNat,⟨_,_,_,_,rfl,rfl,?_,?_,g_abs t b,rfl⟩,?_⟩
  · split <;> (first | lia | omega)
  · split <;> (first | lia | omega)
  rintro m σ _ ⟨x,y,r,rfl,rfl,hx,hy,e,rfl⟩
  refine ⟨_,rfl,_,_,rfl,rfl,_,rfl,?_⟩
  refine ite2 (fun c => ⟨fun σ' H' => ∃ m',m' < y.toNat ∧ ∃ x y r,σ' = [some (.int t),some (.int b),some (.int x),some (.int y),r] ∧ H = H' ∧ 0 ≤ x ∧ 0 ≤ y ∧ g x y = g t b ∧ m' = y.toNat,fun _ _ h => h,?_⟩) (fun c => ?_)
  · have c' : (0 : Int) < y:=of_decide_eq_true c
    refine ⟨_,rfl,_,rfl,_,_,rfl,rfl,c',_,rfl,_,rfl,?_⟩
    have h1:=Int.emod_nonneg x (show y ≠ 0 by (first | lia | omega))
    have h2:=Int.emod_lt_of_pos x c'
    exact ⟨_,by (first | lia | omega),y,x % y,_,rfl,rfl,hy,h1,by rw [g_step hx c',e],rfl⟩
  · have c' : ¬ (0 : Int) < y:=of_decide_eq_false (Bool.eq_false_iff.mpr c)
    obtain rfl : y = 0:=by (first | lia | omega)
    rw [g_end hx] at e
    subst e
    refine ⟨_,rfl,_,_,rfl,rfl,_,rfl,iteND (by (first | lia | omega)) ?_⟩
    exact ⟨_,rfl,_,rfl,_,_,rfl,rfl,c1,_,rfl,_,rfl,_,_,rfl,rfl,c1,(by show 2 ≤ sizeLine; decide),fun p hp => q p _ (same_upd hp _) (Pq.of Pr.new ⟨(low_q hb).1.symm,(low_q hb).2.symm⟩)⟩
theorem sc_law_plus : FnScope ["_law_one","_law_other"] ["_law_one","_law_other"] (defScope s_law_plus):=⟨rfl,rfl,rfl,by decide +kernel,rfl,by decide +kernel,by decide +kernel⟩
theorem ok_law_plus (F : Fun K "_law_plus" "_law_plus" s_law_plus f fd) (T : Txt mg) (C_law_low : Cal P w K mg base "_law_low" 1 ["_law_top","_law_bottom"] sp_lowQ) : FnOk P w K mg base CX0 2 f fd ["_law_one","_law_other"] (sp_bin 3900 (· + ·)):=by
  refine F.ok sc_law_plus (fun vs H Q E h => ?_) (fun cdv A outer s H vs Q E hr h => ?_)
  · obtain ⟨p,q,a,b,rfl,_⟩:=h
    rfl
  obtain ⟨p,q,a,b,rfl,hp,hq,ba,bb,k⟩:=h
  refine ⟨_,(pss_one (ps_ret (pe_cl C_law_low hr (pa_cons (pe_op op_add (pe_op op_mulB (pe_ix ix_tup (pv 0) pe_int (fun _ _ => rfl)) (pe_ix ix_tup (pv 1) pe_int (fun _ _ => rfl))) (pe_op op_mulB (pe_ix ix_tup (pv 1) pe_int (fun _ _ => rfl)) (pe_ix ix_tup (pv 0) pe_int (fun _ _ => rfl)))) (pa_cons (pe_op op_mulB (pe_ix ix_tup (pv 0) pe_int (fun _ _ => rfl)) (pe_ix ix_tup (pv 1) pe_int (fun _ _ => rfl))) pa_nil))))),?_⟩
  refine ⟨_,rfl,_,_,_,_,rfl,rfl,hp.sq,rfl,_,rfl,_,_,_,_,rfl,rfl,hq.sq,rfl,_,_,rfl,rfl,mul_of ba.1 bb.2 (by decide),_,rfl,_,_,_,_,rfl,rfl,hq.sq,rfl,_,rfl,_,_,_,_,rfl,rfl,hp.sq,rfl,_,_,rfl,rfl,mul_of bb.1 ba.2 (by decide),_,_,rfl,rfl,_,rfl,_,_,_,_,rfl,rfl,hp.sq,rfl,_,rfl,_,_,_,_,rfl,rfl,hq.sq,rfl,_,_,rfl,rfl,mul_of ba.2 bb.2 (by decide),_,_,rfl,Int.mul_pos (den_pos a) (den_pos b),(ba.2.mul bb.2).mono (by decide),fun r H' s' kr => k r H' s' ?_⟩
  rw [add_as] at kr
  exact kr
theorem sc_law_minus : FnScope ["_law_one","_law_other"] ["_law_one","_law_other"] (defScope s_law_minus):=⟨rfl,rfl,rfl,by decide +kernel,rfl,by decide +kernel,by decide +kernel⟩
theorem ok_law_minus (F : Fun K "_law_minus" "_law_minus" s_law_minus f fd) (T : Txt mg) (C_law_low : Cal P w K mg base "_law_low" 1 ["_law_top","_law_bottom"] sp_lowQ) : FnOk P w K mg base CX0 2 f fd ["_law_one","_law_other"] (sp_bin 3900 (· - ·)):=by
  refine F.ok sc_law_minus (fun vs H Q E h => ?_) (fun cdv A outer s H vs Q E hr h => ?_)
  · obtain ⟨p,q,a,b,rfl,_⟩:=h
    rfl
  obtain ⟨p,q,a,b,rfl,hp,hq,ba,bb,k⟩:=h
  refine ⟨_,(pss_one (ps_ret (pe_cl C_law_low hr (pa_cons (pe_op op_sub (pe_op op_mulB (pe_ix ix_tup (pv 0) pe_int (fun _ _ => rfl)) (pe_ix ix_tup (pv 1) pe_int (fun _ _ => rfl))) (pe_op op_mulB (pe_ix ix_tup (pv 1) pe_int (fun _ _ => rfl)) (pe_ix ix_tup (pv 0) pe_int (fun _ _ => rfl)))) (pa_cons (pe_op op_mulB (pe_ix ix_tup (pv 0) pe_int (fun _ _ => rfl)) (pe_ix ix_tup (pv 1) pe_int (fun _ _ => rfl))) pa_nil))))),?_⟩
  refine ⟨_,rfl,_,_,_,_,rfl,rfl,hp.sq,rfl,_,rfl,_,_,_,_,rfl,rfl,hq.sq,rfl,_,_,rfl,rfl,mul_of ba.1 bb.2 (by decide),_,rfl,_,_,_,_,rfl,rfl,hq.sq,rfl,_,rfl,_,_,_,_,rfl,rfl,hp.sq,rfl,_,_,rfl,rfl,mul_of bb.1 ba.2 (by decide),_,_,rfl,rfl,_,rfl,_,_,_,_,rfl,rfl,hp.sq,rfl,_,rfl,_,_,_,_,rfl,rfl,hq.sq,rfl,_,_,rfl,rfl,mul_of ba.2 bb.2 (by decide),_,_,rfl,Int.mul_pos (den_pos a) (den_pos b),(ba.2.mul bb.2).mono (by decide),fun r H' s' kr => k r H' s' ?_⟩
  rw [sub_as] at kr
  exact kr
noncomputable def cq (ns : List Int) : List Rat:=ns.map fun (z : Int) => (z : Rat)
theorem cq_length (ns : List Int) : (cq ns).length = ns.length:=List.length_map _
noncomputable def Iz (H : Hp) (a : Addr) (ns : List Int) : Prop:=H a = some (.lst (ns.map V.int))
theorem flat_rep4 {α : Type} (x : α) (n : Nat) : (List.replicate n [x]).flatten = List.replicate n x:=by
  induction n with
  | zero => rfl
  | succ n ih => rw [List.replicate_succ,List.flatten_cons,ih]; rfl
theorem rcancel {s x y : Rat} (h : s ≠ 0) (e : s * x = s * y) : x = y:=by grind
noncomputable def Lw (b : Int) (A : List Rat) : Prop:=∀ M : Int,(∀ q ∈ A,∃ T : Int,q * (M : Rat) = (T : Rat))→b ∣ M
noncomputable def Fz (H : Hp) (p : Addr) (A : List Rat) : Prop:=∃ (fa : Addr) (fs : List Int) (b : Int),H p = some (.tup [.ref fa,.int b]) ∧ Iz H fa fs ∧ b ≠ 0 ∧ cq fs = A.map (· * (b : Rat)) ∧ Lw b A
theorem Fz.keep {H H' : Hp} {p : Addr} {A : List Rat} (h : Fz H p A) (s : Same H H') : Fz H' p A:=by
  obtain ⟨fa,fs,b,h1,h2,h3⟩:=h
  exact ⟨fa,fs,b,s _ _ h1,s _ _ h2,h3⟩
theorem fz_len {fs : List Int} {A : List Rat} {b : Int} (e : cq fs = A.map (· * (b : Rat))) : fs.length = A.length:=by
  have:=congrArg List.length e
  rw [cq_length,List.length_map] at this
  exact this
theorem fz_getD {fs : List Int} {A : List Rat} {b : Int} (e : cq fs = A.map (· * (b : Rat))) (i : Nat) : ((fs.getD i 0 : Int) : Rat) = A.getD i 0 * (b : Rat):=by
  have h:=congrArg (fun l : List Rat => l[i]?) e
  simp only [cq,List.getElem?_map] at h
  rw [List.getD_eq_getElem?_getD,List.getD_eq_getElem?_getD]
  cases hf : fs[i]? with
  | none =>
    rw [hf] at h
    cases hA : A[i]? with
    | none => show ((0 : Int) : Rat) = 0 * _; rw [Rat.zero_mul]; rfl
    | some a => rw [hA] at h; cases h
  | some f =>
    rw [hf] at h
    cases hA : A[i]? with
    | none => rw [hA] at h; cases h
    | some a => rw [hA] at h; exact Option.some.inj h
theorem fz_bt {fs : List Int} {A : List Rat} {b M : Int} {N : Nat} (e : cq fs = A.map (· * (b : Rat))) (lw : Lw b A) (hM : M ≠ 0) (bM : Bt N M) (o : ∀ q ∈ A,Po.Ov N M q) : Bt N b ∧ ∀ f ∈ fs,Bt N f:=by
  have hd : b ∣ M:=lw M fun q hq => by
    obtain ⟨T,_,e⟩:=o q hq
    exact ⟨T,e⟩
  refine ⟨bM.of_le (Nat.le_of_dvd (by (first | lia | omega)) (Int.natAbs_dvd_natAbs.mpr hd)),fun f hf => ?_⟩
  obtain ⟨c,hc⟩:=hd
  have hf' : ((f : Int) : Rat) ∈ cq fs:=List.mem_map.mpr ⟨f,hf,rfl⟩
  rw [e] at hf'
  obtain ⟨q,hq,eq⟩:=List.mem_map.mp hf'
  obtain ⟨T,bT,eT⟩:=o q hq
  have eT' : T = f * c:=by
    have : ((T : Int) : Rat) = ((f * c : Int) : Rat):=by
      rw [← eT,hc,Rat.intCast_mul,Rat.intCast_mul,← eq]
      grind
    exact Rat.intCast_inj.mp this
  have hc0 : c ≠ 0:=fun z => hM (by rw [hc,z,Int.mul_zero])
  refine bT.of_le ?_
  rw [eT',Int.natAbs_mul]
  exact Nat.le_mul_of_pos_right _ (by (first | lia | omega))
theorem den_dvd {q : Rat} {M T : Int} (h : q * (M : Rat) = (T : Rat)) : (q.den : Int) ∣ M:=by
  by_cases hM : M = 0
  · rw [hM]; exact Int.dvd_zero _
  · have hM' : (M : Rat) ≠ 0:=fun z => hM (Rat.intCast_eq_zero_iff.mp z)
    exact (dvd_of hM (show q = (T : Rat) / (M : Rat) by rw [← h]; grind)).2
theorem lcm_dvd {B d M : Int} (hB : 0 < B) (hd : 0 < d) (h1 : B ∣ M) (h2 : d ∣ M) : B * (d / g B d) ∣ M:=by
  have hg : 0 < g B d:=g_pos (by (first | lia | omega))
  obtain ⟨x,hx⟩:=g_dvd_left B d
  obtain ⟨y,hy⟩:=g_dvd_right B d
  have c : Int.gcd x y = 1:=by
    have h:=div_cop (a:=B) (b:=d) (by (first | lia | omega))
    have e1 : B / g B d = x:=Int.ediv_eq_of_eq_mul_right (Int.ne_of_gt hg) hx
    have e2 : d / g B d = y:=Int.ediv_eq_of_eq_mul_right (Int.ne_of_gt hg) hy
    rw [e1,e2] at h
    exact h
  have e2 : d / g B d = y:=Int.ediv_eq_of_eq_mul_right (Int.ne_of_gt hg) hy
  rw [e2]
  obtain ⟨z,hz⟩:=h1
  obtain ⟨v,hv⟩:=h2
  generalize g B d = gg at *
  have k : x * z = y * v:=by
    have : gg * (x * z) = gg * (y * v):=by
      rw [← Int.mul_assoc,← Int.mul_assoc,← hx,← hy,← hz,← hv]
    exact Int.eq_of_mul_eq_mul_left (Int.ne_of_gt hg) this
  have dy : y ∣ x * z:=⟨v,k⟩
  have dz : y ∣ z:=by
    have d':=Int.natAbs_dvd_natAbs.mpr dy
    rw [Int.natAbs_mul] at d'
    exact Int.natAbs_dvd_natAbs.mp (Nat.Coprime.dvd_of_dvd_mul_left (Nat.Coprime.symm c) d')
  obtain ⟨u,hu⟩:=dz
  exact ⟨u,by rw [hz,hu,Int.mul_assoc]⟩
noncomputable def sp_shb4 : Sp:=fun vs H Q _ => ∃ a qs β,vs = [.ref a] ∧ Rw H a qs ∧ qs.length ≤ 13 ∧ (∀ q ∈ qs,Bq β q) ∧ β ≤ 1300 ∧ ∀ B : Int,0 < B→(∀ q ∈ qs,(q.den : Int) ∣ B)→(∀ M : Int,(∀ q ∈ qs,(q.den : Int) ∣ M)→B ∣ M)→Bt (1300 * 13 + 1) B→Q (.int B) H
theorem sc_shared_bottom : FnScope ["figures","bottom","figure"] ["figures"] (defScope s_shared_bottom):=⟨rfl,rfl,rfl,by decide +kernel,rfl,by decide +kernel,by decide +kernel⟩
theorem ok_shared_bottom (F : Fun K "shared_bottom" "shared_bottom" s_shared_bottom f fd) (T : Txt mg) (C_divisor : Cal P w K mg base "divisor" 1 ["one","other"] sp_div) : FnOk P w K mg base CX0 2 f fd ["figures"] sp_shb4:=by
  refine F.ok sc_shared_bottom (fun vs H Q E h => ?_) (fun cdv A outer s H vs Q E hr h => ?_)
  · obtain ⟨a,qs,β,rfl,_⟩:=h
    rfl
  obtain ⟨a,qs,β,rfl,⟨ps,ea,kp⟩,hl,bq,hβ,q⟩:=h
  have lp:=kp.length
  refine ⟨_,(pss_cons (ps_set (i:=1) sc_shared_bottom.nd rfl (Or.inl rfl) pe_int)
      (pss_cons (ps_for PassesOwn.never rfl (pi_list (pv 0)) (pg_name (i:=2) sc_shared_bottom.nd rfl (Or.inl rfl))
        (pss_one (ps_set (i:=1) sc_shared_bottom.nd rfl (Or.inl rfl) (pe_op op_mulB (pv 1) (pe_op op_fdP (pe_ix ix_tup (pv 2) pe_int (fun _ _ => rfl)) (pe_cl C_divisor hr (pa_cons (pv 1) (pa_cons (pe_ix ix_tup (pv 2) pe_int (fun _ _ => rfl)) pa_nil))))))))
      (pss_one (ps_ret (pv 1))))),?_⟩
  refine ⟨_,rfl,a,rfl,⟨_,SqL.of ea⟩,?_⟩
  refine for_list (xs:=ps.map V.ref) (fun i σ H' => H = H' ∧ ∃ (B : Int) (v : Option V),σ = [some (.ref a),some (.int B),v] ∧ 0 < B ∧ (∀ q ∈ qs.take i,(q.den : Int) ∣ B) ∧ (∀ M : Int,(∀ q ∈ qs.take i,(q.den : Int) ∣ M)→B ∣ M) ∧ Bt (1300 * i + 1) B)
    ⟨rfl,1,_,rfl,by decide,fun q hq => absurd hq (by simp),fun M _ => ⟨M,(Int.one_mul M).symm⟩,Bt.mono (m:=1) (by show (1 : Nat) < 2 ^ 1; decide) (by (first | lia | omega))⟩ ?_ ?_ ?_
  · rintro i σ _ _ ⟨rfl,_⟩
    exact SqL.of ea
  · rintro i x σ _ hi ⟨rfl,B,v,rfl,hB,hd,hm,bB⟩
    have hlt : i < qs.length:=by
      have:=(List.getElem?_eq_some_iff.mp hi).1
      rw [List.length_map] at this
      (first | lia | omega)
    have eq:=List.getElem?_eq_getElem hlt
    obtain ⟨p1,e1,k1⟩:=kp.get eq
    rw [hi] at e1
    cases e1
    have b1 : Bq 1300 qs[i]:=(bq _ (List.getElem_mem hlt)).mono hβ
    have d1:=den_pos qs[i]
    have hg : 0 < g B qs[i].den:=g_pos (by (first | lia | omega))
    have bg : Bt 9000 (g B qs[i].den):=(g_bt d1 b1.2).mono (by decide)
    have gd:=g_dvd_right B (qs[i].den : Int)
    have gB:=g_dvd_left B (qs[i].den : Int)
    have bdv : Bt 1300 ((qs[i].den : Int) / g B qs[i].den):=b1.2.ediv
    have et : qs.take (i + 1) = qs.take i ++ [qs[i]]:=List.take_succ_eq_append_getElem hlt
    refine ⟨_,rfl,_,rfl,_,_,_,_,rfl,rfl,k1.sq,rfl,_,rfl,_,rfl,_,_,_,_,rfl,rfl,k1.sq,rfl,_,_,rfl,_,_,rfl,rfl,⟨hg,bg⟩,_,_,rfl,rfl,mul_of bB bdv (by (first | lia | omega)),rfl,_,_,rfl,?_,fun q hq => ?_,fun M hM => ?_,?_⟩
    · obtain ⟨c,hc⟩:=gd
      have : (qs[i].den : Int) / g B qs[i].den = c:=Int.ediv_eq_of_eq_mul_right (Int.ne_of_gt hg) hc
      rw [this]
      refine Int.mul_pos hB ?_
      by_cases h0 : 0 < c
      · exact h0
      · exfalso
        have : g B qs[i].den * c ≤ 0:=Int.mul_nonpos_of_nonneg_of_nonpos (by (first | lia | omega)) (by (first | lia | omega))
        (first | lia | omega)
    · rw [et] at hq
      rcases List.mem_append.mp hq with z | z
      · exact Int.dvd_trans (hd q z) (Int.dvd_mul_right _ _)
      · have : q = qs[i]:=by simpa using z
        rw [this]
        obtain ⟨c,hc⟩:=gd
        obtain ⟨e,he⟩:=gB
        have e1 : (qs[i].den : Int) / g B qs[i].den = c:=Int.ediv_eq_of_eq_mul_right (Int.ne_of_gt hg) hc
        rw [e1]
        refine ⟨e,?_⟩
        generalize g B (qs[i].den : Int) = gg at *
        rw [hc,he,Int.mul_assoc,Int.mul_assoc,Int.mul_comm e c]
    · rw [et] at hM
      exact lcm_dvd hB d1 (hm M fun q hq => hM q (List.mem_append_left _ hq)) (hM _ (List.mem_append_right _ (by simp)))
    · rw [Nat.mul_succ]
      exact (bB.mul bdv).mono (by (first | lia | omega))
  · rintro σ _ ⟨rfl,B,v,rfl,hB,hd,hm,bB⟩
    rw [List.length_map,lp] at hd hm bB
    rw [List.take_length] at hd hm
    exact ⟨_,rfl,q B hB hd hm (bB.mono (by (first | lia | omega)))⟩
noncomputable def sp_whf4 : Sp:=fun vs H Q _ => ∃ a qs B,vs = [.ref a,.int B] ∧ Rw H a qs ∧ qs.length ≤ 100 ∧ 0 < B ∧ (∀ q ∈ qs,(q.den : Int) ∣ B) ∧ (∀ q ∈ qs,Bq 1300 q) ∧ Bt 20000 B ∧
  ∀ r ns H',Same H H'→H r = none→Iz H' r ns→cq ns = qs.map (· * (B : Rat))→Q (.ref r) H'
theorem sc_whole_figures : FnScope ["one","bottom"] ["one","bottom"] (defScope s_whole_figures):=⟨rfl,rfl,rfl,by decide +kernel,rfl,by decide +kernel,by decide +kernel⟩
theorem ok_whole_figures (F : Fun K "whole_figures" "whole_figures" s_whole_figures f fd) (T : Txt mg) : FnOk P w K mg base CX0 1 f fd ["one","bottom"] sp_whf4:=by
  refine F.ok sc_whole_figures (fun vs H Q E h => ?_) (fun cdv A outer s H vs Q E hr h => ?_)
  · obtain ⟨a,qs,B,rfl,_⟩:=h
    rfl
  obtain ⟨a,qs,B,rfl,ra,hl,hB,hd,bq,bB,q⟩:=h
  obtain ⟨xa,ea,la⟩:=ra.there
  refine ⟨_,(pss_one (ps_ret (pe_comp (N':=["figure","bottom"]) (fsc:=defScope s_whole_figures) (N:=["one","bottom"]) [1] ⟨rfl,by decide +kernel,by decide +kernel,by decide +kernel,rfl,by decide +kernel,rfl,by decide +kernel⟩ (pi_list (pv 0)) (fun _ _ _ _ => (pe_op op_mulB (pe_ix ix_tup (pv 0) pe_int (fun _ _ => rfl)) (pe_op op_fdP (pv 1) (pe_ix ix_tup (pv 0) pe_int (fun _ _ => rfl)))))))),?_⟩
  refine ⟨_,rfl,a,rfl,⟨_,SqL.of ea⟩,comp_listZ (by (first | lia | omega)) ra (fun q => q.num * (B / q.den)) ?_ fun H1 D s1 nD eD => q D _ H1 s1 nD eD ?_⟩
  · intro _ _ _ _ p x H1 R hx kp s1 fin
    have b1:=bq x hx
    exact ⟨_,rfl,_,_,_,_,rfl,rfl,kp.sq,rfl,_,rfl,_,rfl,_,_,_,_,rfl,rfl,kp.sq,rfl,_,_,rfl,rfl,⟨den_pos x,b1.2.mono (by decide)⟩,_,_,rfl,rfl,mul_of b1.1 (bB.ediv) (by decide),fin⟩
  · unfold cq
    rw [List.map_map]
    refine List.map_congr_left fun x hx => ?_
    show ((x.num * (B / (x.den : Int)) : Int) : Rat) = x * (B : Rat)
    obtain ⟨c,hc⟩:=hd x hx
    have d:=den_pos x
    have e1 : B / (x.den : Int) = c:=by
      rw [hc]
      exact Int.mul_ediv_cancel_left _ (by (first | lia | omega))
    rw [e1,hc,Rat.intCast_mul,Rat.intCast_mul]
    have e:=q_eq x
    have n:=den_ne x
    have e3 : x = (x.num : Rat) / ((x.den : Int) : Rat):=e.symm
    generalize (x.num : Rat) = u at *
    generalize ((x.den : Int) : Rat) = v at *
    rw [e3]
    grind
noncomputable def sp_oob : Sp:=fun vs H Q _ => ∃ a A,vs = [.ref a] ∧ Rw H a A ∧ A.length ≤ 13 ∧ (∀ q ∈ A,Bq 1300 q) ∧ ∀ r H',Same H H'→Fz H' r A→Q (.ref r) H'
theorem sc_over_one_bottom : FnScope ["one","bottom"] ["one"] (defScope s_over_one_bottom):=⟨rfl,rfl,rfl,by decide +kernel,rfl,by decide +kernel,by decide +kernel⟩
theorem ok_over_one_bottom (F : Fun K "over_one_bottom" "over_one_bottom" s_over_one_bottom f fd) (T : Txt mg) (C_shared_bottom : Cal P w K mg base "shared_bottom" 2 ["figures"] sp_shb4) (C_whole_figures : Cal P w K mg base "whole_figures" 1 ["one","bottom"] sp_whf4) : FnOk P w K mg base CX0 3 f fd ["one"] sp_oob:=by
  refine F.ok sc_over_one_bottom (fun vs H Q E h => ?_) (fun cdv A outer s H vs Q E hr h => ?_)
  · obtain ⟨a,A,rfl,_⟩:=h
    rfl
  obtain ⟨a,A',rfl,ra,hl,bq,q⟩:=h
  refine ⟨_,(pss_cons (ps_set (i:=1) sc_over_one_bottom.nd rfl (Or.inl rfl) (pe_cl C_shared_bottom hr (pa_cons (pv 0) pa_nil)))
      (pss_one (ps_ret (pe_tup (pa_cons (pe_cl C_whole_figures hr (pa_cons (pv 0) (pa_cons (pv 1) pa_nil))) (pa_cons (pv 1) pa_nil)))))),?_⟩
  refine ⟨_,rfl,a,A',1300,rfl,ra,hl,bq,Nat.le_refl _,fun B hB hd hm bB => ?_⟩
  refine ⟨_,rfl,_,rfl,a,A',B,rfl,ra,by (first | lia | omega),hB,hd,bq,bB.mono (by decide),fun r1 ns H1 s1 n1 iz e => ?_⟩
  refine ⟨_,rfl,(by show 2 ≤ sizeLine; decide),fun r hr' => ?_⟩
  have u:=same_upd hr' (.tup [.ref r1,.int B])
  refine q r _ (s1.trans u) ⟨r1,ns,B,upd_same,u _ _ iz,Int.ne_of_gt hB,e,fun M h => hm M fun q hq => ?_⟩
  obtain ⟨T,eT⟩:=h q hq
  exact den_dvd eT
theorem g_bt_l {n : Nat} {a b : Int} (h : a ≠ 0) (k : Bt n a) : Bt n (g a b):=by
  refine k.of_le ?_
  exact Nat.le_of_dvd (by (first | lia | omega)) (Int.natAbs_dvd_natAbs.mpr (g_dvd_left a b))
theorem g_mul_dvd {x a b M : Int} (h1 : x ∣ a * M) (h2 : x ∣ b * M) : x ∣ g a b * M:=by
  have h : x ∣ ((Int.gcd (a * M) (b * M) : Nat) : Int):=Int.dvd_coe_gcd h1 h2
  rw [Int.gcd_mul_right,Int.natCast_mul] at h
  have h' : x ∣ g a b * ((M.natAbs : Nat) : Int):=h
  rcases Int.natAbs_eq M with e | e
  · rw [e]; exact h'
  · rw [e,Int.mul_neg]; exact Int.dvd_neg.mpr h'
noncomputable def sp_ilt : Sp:=fun vs H Q _ => ∃ fa fs b A,vs = [.ref fa,.int b] ∧ Iz H fa fs ∧ fs.length ≤ 13 ∧ b ≠ 0 ∧ Bt 9000 b ∧ cq fs = A.map (· * (b : Rat)) ∧ ∀ r H',Same H H'→Fz H' r A→Q (.ref r) H'
theorem sc_in_lowest_terms : FnScope ["figures","bottom","shared","figure"] ["figures","bottom"] (defScope s_in_lowest_terms):=⟨rfl,rfl,rfl,by decide +kernel,rfl,by decide +kernel,by decide +kernel⟩
set_option maxHeartbeats 1000000 in
theorem ok_in_lowest_terms (F : Fun K "in_lowest_terms" "in_lowest_terms" s_in_lowest_terms f fd) (T : Txt mg) (C_divisor : Cal P w K mg base "divisor" 1 ["one","other"] sp_div) : FnOk P w K mg base CX0 2 f fd ["figures","bottom"] sp_ilt:=by
  refine F.ok sc_in_lowest_terms (fun vs H Q E h => ?_) (fun cdv A outer s H vs Q E hr h => ?_)
  · obtain ⟨fa,fs,b,A,rfl,_⟩:=h
    rfl
  obtain ⟨fa,fs,b,A',rfl,iz,hl,hb,bb,e,q⟩:=h
  refine ⟨_,(pss_cons (ps_set (i:=2) sc_in_lowest_terms.nd rfl (Or.inr rfl) (pv 1))
      (pss_cons (ps_for PassesOwn.never rfl (pi_list (pv 0)) (pg_name (i:=3) sc_in_lowest_terms.nd rfl (Or.inl rfl))
        (pss_one (ps_set (i:=2) sc_in_lowest_terms.nd rfl (Or.inr rfl) (pe_cl C_divisor hr (pa_cons (pv 2) (pa_cons (pv 3) pa_nil))))))
      (pss_one (ps_ret (pe_tup (pa_cons (pe_comp (N':=["figure","shared"]) (fsc:=defScope s_in_lowest_terms) (N:=["figures","bottom","shared","figure"]) [2] ⟨rfl,by decide +kernel,by decide +kernel,by decide +kernel,rfl,by decide +kernel,rfl,by decide +kernel⟩ (pi_list (pv 0)) (fun _ _ _ _ => (pe_op op_fdA (pv 0) (pv 1)))) (pa_cons (pe_op op_fdA (pv 1) (pv 2)) pa_nil))))))),?_⟩
  refine ⟨_,rfl,_,rfl,fa,rfl,⟨_,SqL.of iz⟩,?_⟩
  refine for_list (xs:=fs.map V.int) (fun i σ H' => H = H' ∧ ∃ (S : Int) (v : Option V),σ = [some (.ref fa),some (.int b),some (.int S),v] ∧ S ≠ 0 ∧ Bt 9000 S ∧ S ∣ b ∧ (∀ f ∈ fs.take i,S ∣ f) ∧ ∀ x M : Int,x ∣ b * M→(∀ f ∈ fs.take i,x ∣ f * M)→x ∣ S * M)
    ⟨rfl,b,_,rfl,hb,bb,Int.dvd_refl b,fun f hf => absurd hf (by simp),fun x M h _ => h⟩ ?_ ?_ ?_
  · rintro i σ _ _ ⟨rfl,_⟩
    exact SqL.of iz
  · rintro i x σ _ hi ⟨rfl,S,v,rfl,hS,bS,dS,df,hx⟩
    have hlt : i < fs.length:=by
      have:=(List.getElem?_eq_some_iff.mp hi).1
      rw [List.length_map] at this
      exact this
    have e1 : (fs.map V.int)[i]? = some (.int fs[i]):=by rw [List.getElem?_map,List.getElem?_eq_getElem hlt]; rfl
    obtain rfl : x = .int fs[i]:=Option.some.inj (hi.symm.trans e1)
    have et : fs.take (i + 1) = fs.take i ++ [fs[i]]:=List.take_succ_eq_append_getElem hlt
    have g1:=g_dvd_left S fs[i]
    have g2:=g_dvd_right S fs[i]
    refine ⟨_,rfl,_,rfl,_,_,rfl,rfl,_,_,rfl,fun z => hS (g_zero z).1,g_bt_l hS bS,Int.dvd_trans g1 dS,fun f hf => ?_,fun x M h1 h2 => ?_⟩
    · rw [et] at hf
      rcases List.mem_append.mp hf with z | z
      · exact Int.dvd_trans g1 (df f z)
      · rw [List.mem_singleton.mp z]; exact g2
    · rw [et] at h2
      exact g_mul_dvd (hx x M h1 fun f hf => h2 f (List.mem_append_left _ hf)) (h2 _ (List.mem_append_right _ (by simp)))
  · rintro σ _ ⟨rfl,S,v,rfl,hS,bS,dS,df,hx⟩
    rw [List.length_map,List.take_length] at df hx
    refine ⟨_,rfl,fa,rfl,⟨_,SqL.of iz⟩,comp_intsI (ns:=fs) (by (first | lia | omega)) iz (fun f => f.fdiv S) ?_ fun H1 D s1 nD eD => ?_⟩
    · intro _ _ _ _ x H1 R hxm fin
      exact ⟨_,rfl,_,rfl,_,_,rfl,rfl,⟨hS,bS⟩,fin⟩
    refine ⟨_,rfl,_,rfl,_,_,rfl,rfl,⟨hS,bS⟩,(by show 2 ≤ sizeLine; decide),fun r hr' => ?_⟩
    have u:=same_upd hr' (.tup [.ref D,.int (b.fdiv S)])
    obtain ⟨b',hb'⟩:=dS
    have eb : b.fdiv S = b':=by
      rw [Int.fdiv_eq_ediv_of_dvd ⟨b',hb'⟩,hb']
      exact Int.mul_ediv_cancel_left _ hS
    have hS' : (S : Rat) ≠ 0:=fun z => hS (Rat.intCast_eq_zero_iff.mp z)
    refine q r _ (s1.trans u) ⟨D,fs.map fun f => f.fdiv S,b',?_,u _ _ eD,fun z => hb (by rw [hb',z,Int.mul_zero]),?_,fun M h => ?_⟩
    · rw [upd_same]
      show some (HO.tup [V.ref D,V.int (b.fdiv S)]) = some (HO.tup [V.ref D,V.int b'])
      rw [eb]
    · refine List.ext_getElem? fun i => ?_
      have h:=congrArg (fun l : List Rat => l[i]?) e
      simp only [cq,List.getElem?_map] at h ⊢
      cases hf : fs[i]? with
      | none =>
        rw [hf] at h
        cases hA : A'[i]? with
        | none => rfl
        | some a => rw [hA] at h; cases h
      | some f =>
        rw [hf] at h
        cases hA : A'[i]? with
        | none => rw [hA] at h; cases h
        | some a =>
          rw [hA] at h
          have h' : ((f : Int) : Rat) = a * (b : Rat):=Option.some.inj h
          obtain ⟨f',hf'⟩:=df f (List.mem_of_getElem? hf)
          have ef : f.fdiv S = f':=by
            rw [Int.fdiv_eq_ediv_of_dvd ⟨f',hf'⟩,hf']
            exact Int.mul_ediv_cancel_left _ hS
          show some (((f.fdiv S : Int)) : Rat) = some (a * (b' : Rat))
          rw [ef]
          rw [hf',hb',Rat.intCast_mul,Rat.intCast_mul] at h'
          congr 1
          have : (S : Rat) * (f' : Rat) = (S : Rat) * (a * (b' : Rat)):=by rw [h']; grind
          exact rcancel hS' this
    · have hbM : b ∣ S * M:=hx b M (Int.dvd_mul_right _ _) fun f hf => by
        have hf' : ((f : Int) : Rat) ∈ cq fs:=List.mem_map.mpr ⟨f,hf,rfl⟩
        rw [e] at hf'
        obtain ⟨a,ha,ea⟩:=List.mem_map.mp hf'
        obtain ⟨T,eT⟩:=h a ha
        refine ⟨T,?_⟩
        have : ((f * M : Int) : Rat) = ((b * T : Int) : Rat):=by
          rw [Rat.intCast_mul,Rat.intCast_mul,← eT,← ea]
          grind
        exact Rat.intCast_inj.mp this
      rw [hb'] at hbM
      exact Int.dvd_of_mul_dvd_mul_left hS hbM
noncomputable def sp_fracN : Sp:=fun vs H Q _ => ∃ t b,vs = [.int t,.int b] ∧ b ≠ 0 ∧ Bt 8000 b ∧ ∀ r H',Same H H'→Pq H' r ((t : Rat) / (b : Rat))→Q (.ref r) H'
theorem sc_fraction : FnScope ["top","bottom","shared"] ["top","bottom"] (defScope s_fraction):=⟨rfl,rfl,rfl,by decide +kernel,rfl,by decide +kernel,by decide +kernel⟩
theorem ok_fraction {dV : Value} (F : FunD K "fraction" "fraction" s_fraction dV f fd) (T : Txt mg) (C_is_whole : Cal P w K mg base "is_whole" 1 ["thing"] sp_whole) (C_divisor : Cal P w K mg base "divisor" 1 ["one","other"] sp_div) : FnOk P w K mg base CX0 2 f fd ["top","bottom"] sp_fracN:=by
  refine okD F sc_fraction (fun vs H Q E h => ?_) (fun cdv A outer s H vs Q E hr h => ?_)
  · obtain ⟨t,b,rfl,_⟩:=h
    rfl
  obtain ⟨t,b,rfl,hb,bb,q⟩:=h
  have fin : ∀ x,x = sh t b→(x ≠ 0 ∧ Bt 9000 x) ∧ ∀ r,H r = none→Q (.ref r) (upd H r (.tup [.int (t.fdiv x),.int (b.fdiv x)])):=fun x e => by
    subst e
    obtain ⟨f1,e1⟩:=fr_ok (t:=t) hb
    exact ⟨⟨sh_ne hb,(sh_bt hb bb).mono (by decide)⟩,fun r hr => q r _ (same_upd hr _) (Pq.of Pr.new (of_low f1 hb e1 rfl))⟩
  refine ⟨_,(pss_cons (ps_if (PW.pt (pw_or (pt_not (pt_val (pe_cl C_is_whole hr (pa_cons (pv 0) pa_nil)))) (pw_or1 (pt_not (pt_val (pe_cl C_is_whole hr (pa_cons (pv 1) pa_nil)))))))
        (pss_one ps_never)
        pss_nil)
      (pss_cons (ps_if (pt_cmpR op_eq (pv 1) pe_int (nomark _))
        (pss_one ps_never)
        pss_nil)
      (pss_cons (ps_set (i:=2) sc_fraction.nd rfl (Or.inl rfl) (pe_cl C_divisor hr (pa_cons (pv 0) (pa_cons (pv 1) pa_nil))))
      (pss_cons (ps_if (pt_cmpR op_lt (pv 1) pe_int (nomark _))
        (pss_one (ps_set (i:=2) sc_fraction.nd rfl (Or.inl rfl) (pe_un un_neg (pv 2))))
        pss_nil)
      (pss_one (ps_ret (pe_tup (pa_cons (pe_op op_fdA (pv 0) (pv 2)) (pa_cons (pe_op op_fdA (pv 1) (pv 2)) pa_nil))))))))),?_⟩
  refine ⟨_,rfl,_,rfl,_,rfl,iteF ?_⟩
  refine ⟨_,rfl,_,rfl,_,rfl,iteF ?_⟩
  refine ⟨_,rfl,rfl,_,rfl,iteND (fun z => hb (V.int.inj z)) ?_⟩
  refine ⟨_,rfl,_,rfl,_,_,rfl,?_⟩
  refine ⟨_,rfl,_,_,rfl,rfl,_,rfl,?_⟩
  refine ite2 (fun c2 => ?_) (fun c2 => ?_)
  · have d2 : b < 0:=of_decide_eq_true c2
    obtain ⟨c3,q3⟩:=fin (-(g t b)) (by unfold sh; rw [if_pos d2])
    refine ⟨_,rfl,_,rfl,?_⟩
    exact ⟨_,rfl,_,rfl,_,_,rfl,rfl,c3,_,rfl,_,rfl,_,_,rfl,rfl,c3,(by show 2 ≤ sizeLine; decide),q3⟩
  · have d2 : ¬ b < 0:=of_decide_eq_false (Bool.eq_false_iff.mpr c2)
    obtain ⟨c3,q3⟩:=fin (g t b) (by unfold sh; rw [if_neg d2])
    exact ⟨_,rfl,_,rfl,_,_,rfl,rfl,c3,_,rfl,_,rfl,_,_,rfl,rfl,c3,(by show 2 ≤ sizeLine; decide),q3⟩
theorem atI_lastZ {fs : List Int} (h : 0 < fs.length) : atI (fs.map V.int) (-1) = some (.int (fs.getD (fs.length - 1) 0)):=by
  rcases List.eq_nil_or_concat fs with z | ⟨L,x,z⟩
  · rw [z] at h; simp at h
  · rw [List.concat_eq_append] at z
    have e : fs.getD (fs.length - 1) 0 = x:=by
      rw [z,List.length_append,List.length_singleton,Nat.add_sub_cancel,List.getD_eq_getElem?_getD,List.getElem?_append_right (Nat.le_refl _),Nat.sub_self]
      rfl
    rw [e,z,List.map_append]
    exact atI_last _ _
theorem mem_getD {fs : List Int} {i : Nat} (h : i < fs.length) : fs.getD i 0 ∈ fs:=by
  rw [List.getD_eq_getElem?_getD,List.getElem?_eq_getElem h]
  exact List.getElem_mem h
noncomputable def OvM (A : List Rat) : Prop:=∃ M : Int,M ≠ 0 ∧ Bt 2100 M ∧ ∀ q ∈ A,Po.Ov 2100 M q
theorem OvM.bt {fs : List Int} {A : List Rat} {b : Int} (o : OvM A) (e : cq fs = A.map (· * (b : Rat))) (lw : Lw b A) : Bt 2100 b ∧ ∀ f ∈ fs,Bt 2100 f:=by
  obtain ⟨M,h1,h2,h3⟩:=o
  exact fz_bt e lw h1 h2 h3
theorem lastZ {fs : List Int} {A : List Rat} {b : Int} (e : cq fs = A.map (· * (b : Rat))) : ((fs.getD (fs.length - 1) 0 : Int) : Rat) = Po.lst A * (b : Rat):=by
  unfold Po.lst
  rw [fz_getD e,fz_len e]
noncomputable def sp_quot : Sp:=fun vs H Q _ => ∃ (k : Nat) (p p' : Addr) (A B : List Rat),vs = [.int k,.ref p,.ref p'] ∧ Fz H p A ∧ Fz H p' B ∧ 0 < A.length ∧ 0 < B.length ∧ Po.lst B ≠ 0 ∧ OvM A ∧ OvM B ∧ ∀ r H',Same H H'→Pq H' r (if k % 2 = 0 then Po.lst A / Po.lst B else -(Po.lst A / Po.lst B))→Q (.ref r) H'
theorem sc_quotient_at : FnScope ["place","one","other","last","divided_by","quotient"] ["place","one","other"] (defScope s_quotient_at):=⟨rfl,rfl,rfl,by decide +kernel,rfl,by decide +kernel,by decide +kernel⟩
set_option maxHeartbeats 1000000 in
theorem ok_quotient_at (F : Fun K "quotient_at" "quotient_at" s_quotient_at f fd) (T : Txt mg) (C_fraction_d0 : CalD P w K mg base "fraction" 2 ["top","bottom"] [] [] sp_fracN) (C_minus : Cal P w K mg base "minus" 3 ["one","other"] (sp_bin 8000 (· - ·))) : FnOk P w K mg base CX0 4 f fd ["place","one","other"] sp_quot:=by
  refine F.ok sc_quotient_at (fun vs H Q E h => ?_) (fun cdv A outer s H vs Q E hr h => ?_)
  · obtain ⟨k,p,p',A,B,rfl,_⟩:=h
    rfl
  obtain ⟨k,p,p',A',B,rfl,⟨fa,fs,b,ep,iz,hb,e,lw⟩,⟨fb,gs',b',ep',iz',hb',e',lw'⟩,lA,lB,hL,oA,oB,q⟩:=h
  have lf:=fz_len e
  have lg:=fz_len e'
  obtain ⟨bb,bf⟩:=oA.bt e lw
  obtain ⟨bb',bf'⟩:=oB.bt e' lw'
  have eA:=lastZ e
  have eB:=lastZ e'
  have m1:=bf _ (mem_getD (show fs.length - 1 < fs.length by (first | lia | omega)))
  have m2:=bf' _ (mem_getD (show gs'.length - 1 < gs'.length by (first | lia | omega)))
  have a1:=atI_lastZ (fs:=fs) (by (first | lia | omega))
  have a2:=atI_lastZ (fs:=gs') (by (first | lia | omega))
  generalize fs.getD (fs.length - 1) 0 = lf' at *
  generalize gs'.getD (gs'.length - 1) 0 = dg at *
  have hbR : (b : Rat) ≠ 0:=fun z => hb (Rat.intCast_eq_zero_iff.mp z)
  have hbR' : (b' : Rat) ≠ 0:=fun z => hb' (Rat.intCast_eq_zero_iff.mp z)
  have hdg : dg ≠ 0:=fun z => by
    rw [z] at eB
    have : Po.lst B * (b' : Rat) = 0:=eB.symm.trans rfl
    rcases Rat.mul_eq_zero.mp this with w | w
    · exact hL w
    · exact hbR' w
  refine ⟨_,(pss_cons (ps_set (i:=3) sc_quotient_at.nd rfl (Or.inl rfl) (pe_ix ix_list (pe_ix ix_tup (pv 1) pe_int (fun _ _ => rfl)) (pe_un un_neg pe_int) (fun _ _ => rfl)))
      (pss_cons (ps_set (i:=4) sc_quotient_at.nd rfl (Or.inl rfl) (pe_ix ix_list (pe_ix ix_tup (pv 2) pe_int (fun _ _ => rfl)) (pe_un un_neg pe_int) (fun _ _ => rfl)))
      (pss_cons (ps_if (pt_cmpR op_eq (pv 4) pe_int (nomark _))
        (pss_one (ps_ret (pe_tup (pa_cons pe_int (pa_cons pe_int pa_nil)))))
        pss_nil)
      (pss_cons (ps_set (i:=5) sc_quotient_at.nd rfl (Or.inl rfl) (pe_clD C_fraction_d0 hr (pa_cons (pe_op op_mulB (pv 3) (pe_ix ix_tup (pv 2) pe_int (fun _ _ => rfl))) (pa_cons (pe_op op_mulB (pv 4) (pe_ix ix_tup (pv 1) pe_int (fun _ _ => rfl))) pa_nil))))
      (pss_cons (ps_if (pt_cmpR op_eq (pe_op op_mod (pv 0) pe_int) pe_int (nomark _))
        (pss_one (ps_ret (pv 5)))
        pss_nil)
      (pss_one (ps_ret (pe_cl C_minus hr (pa_cons (pe_tup (pa_cons pe_int (pa_cons pe_int pa_nil))) (pa_cons (pv 5) pa_nil)))))))))),?_⟩
  refine ⟨_,rfl,p,_,_,_,rfl,rfl,SqT.of ep,rfl,_,rfl,fa,_,_,_,rfl,rfl,SqL.of iz,a1,?_⟩
  refine ⟨_,rfl,p',_,_,_,rfl,rfl,SqT.of ep',rfl,_,rfl,fb,_,_,_,rfl,rfl,SqL.of iz',a2,?_⟩
  refine ⟨_,rfl,rfl,_,rfl,iteND (fun z => hdg (V.int.inj z)) ?_⟩
  refine ⟨_,rfl,_,rfl,p',_,_,_,rfl,rfl,SqT.of ep',rfl,_,_,rfl,rfl,mul_of m1 bb' (by decide),_,rfl,_,rfl,p,_,_,_,rfl,rfl,SqT.of ep,rfl,_,_,rfl,rfl,mul_of m2 bb (by decide),_,_,rfl,Int.mul_ne_zero hdg hb,(m2.mul bb).mono (by decide),fun r1 H1 s1 k1 => ?_⟩
  have ev : ((lf' * b' : Int) : Rat) / ((dg * b : Int) : Rat) = Po.lst A' / Po.lst B:=by
    rw [Rat.intCast_mul,Rat.intCast_mul,eA,eB]
    grind
  rw [ev] at k1
  have bq : Bq 4200 (Po.lst A' / Po.lst B):=bq_of (Int.mul_ne_zero hdg hb) ev.symm (m1.mul bb') (m2.mul bb)
  refine ⟨_,rfl,_,_,rfl,rfl,(by show (0 : Int) < 2; decide),rfl,_,rfl,ite2 (fun c => ?_) (fun c => ?_)⟩
  · have c' : (k : Int) % 2 = 0:=V.int.inj (of_decide_eq_true c)
    refine ⟨_,rfl,q r1 H1 s1 ?_⟩
    rw [if_pos (by (first | lia | omega))]
    exact k1
  · have c' : ¬ (k : Int) % 2 = 0:=fun z => of_decide_eq_false (Bool.eq_false_iff.mpr c) (congrArg V.int z)
    refine ⟨(by show 2 ≤ sizeLine; decide),fun z hz => ?_⟩
    have u:=same_upd hz (.tup [.int 0,.int 1])
    have kz : Pq (upd H1 z (.tup [.int 0,.int 1])) z 0:=Pq.of Pr.new ⟨rfl,rfl⟩
    refine ⟨_,rfl,z,r1,_,_,rfl,kz,k1.keep u,Bq.zero (by decide),bq.mono (by decide),fun r2 H2 s2 k2 => q r2 H2 (s1.trans (u.trans s2)) ?_⟩
    rw [if_neg (by (first | lia | omega))]
    have : -(Po.lst A' / Po.lst B) = 0 - Po.lst A' / Po.lst B:=by grind
    rw [this]
    exact k2
noncomputable def sp_rest : Sp:=fun vs H Q _ => ∃ (p p' : Addr) (A B : List Rat),vs = [.ref p,.ref p'] ∧ Fz H p A ∧ Fz H p' B ∧ A.length ≤ 13 ∧ 0 < B.length ∧ B.length ≤ A.length ∧ Po.lst B ≠ 0 ∧ OvM A ∧ OvM B ∧ ∀ r H',Same H H'→Fz H' r (Po.rst A B)→Q (.ref r) H'
theorem lift_getD {gs' : List Int} {B : List Rat} {b' : Int} (e' : cq gs' = B.map (· * (b' : Rat))) (m i : Nat) : (((List.replicate m (0 : Int) ++ gs').getD i 0 : Int) : Rat) = (List.replicate m (0 : Rat) ++ B).getD i 0 * (b' : Rat):=by
  refine fz_getD (fs:=List.replicate m (0 : Int) ++ gs') (A:=List.replicate m (0 : Rat) ++ B) ?_ i
  unfold cq at e' ⊢
  rw [List.map_append,List.map_append,e',List.map_replicate,List.map_replicate,Rat.zero_mul]
  rfl
theorem sc_rest_of : FnScope ["one","other","lifted","last","divided_by","figures"] ["one","other"] (defScope s_rest_of):=⟨rfl,rfl,rfl,by decide +kernel,rfl,by decide +kernel,by decide +kernel⟩
set_option maxHeartbeats 2000000 in
theorem ok_rest_of (F : Fun K "rest_of" "rest_of" s_rest_of f fd) (T : Txt mg) (C_in_lowest_terms : Cal P w K mg base "in_lowest_terms" 2 ["figures","bottom"] sp_ilt) : FnOk P w K mg base CX0 3 f fd ["one","other"] sp_rest:=by
  refine F.ok sc_rest_of (fun vs H Q E h => ?_) (fun cdv A outer s H vs Q E hr h => ?_)
  · obtain ⟨p,p',A,B,rfl,_⟩:=h
    rfl
  obtain ⟨p,p',A',B,rfl,⟨fa,fs,b,ep,iz,hb,e,lw⟩,⟨fb,gs',b',ep',iz',hb',e',lw'⟩,l13,lB,lBA,hL,oA,oB,q⟩:=h
  have lf:=fz_len e
  have lg:=fz_len e'
  obtain ⟨bb,bf⟩:=oA.bt e lw
  obtain ⟨bb',bf'⟩:=oB.bt e' lw'
  have eA:=lastZ e
  have eB:=lastZ e'
  have m1:=bf _ (mem_getD (show fs.length - 1 < fs.length by (first | lia | omega)))
  have m2:=bf' _ (mem_getD (show gs'.length - 1 < gs'.length by (first | lia | omega)))
  have a1:=atI_lastZ (fs:=fs) (by (first | lia | omega))
  have a2:=atI_lastZ (fs:=gs') (by (first | lia | omega))
  generalize fs.getD (fs.length - 1) 0 = lf' at *
  generalize gs'.getD (gs'.length - 1) 0 = dg at *
  have hbR : (b : Rat) ≠ 0:=fun z => hb (Rat.intCast_eq_zero_iff.mp z)
  have hbR' : (b' : Rat) ≠ 0:=fun z => hb' (Rat.intCast_eq_zero_iff.mp z)
  have hdg : dg ≠ 0:=fun z => by
    rw [z] at eB
    have : Po.lst B * (b' : Rat) = 0:=eB.symm.trans rfl
    rcases Rat.mul_eq_zero.mp this with w | w
    · exact hL w
    · exact hbR' w
  have hz : (1000 : Nat) < sizeLine:=by decide
  have lna : (fs.map V.int).length = fs.length:=List.length_map _
  have lmb : (gs'.map V.int).length = gs'.length:=List.length_map _
  refine ⟨_,(pss_cons (ps_set (i:=2) sc_rest_of.nd rfl (Or.inl rfl) (pe_op op_cat (pe_op op_rep (pe_lst (pa_cons pe_int pa_nil)) (pe_op op_sub (pe_callB call_len_seq rfl T.z_len PySem.boot_len (pa_cons (pe_ix ix_tup (pv 0) pe_int (fun _ _ => rfl)) pa_nil)) (pe_callB call_len_seq rfl T.z_len PySem.boot_len (pa_cons (pe_ix ix_tup (pv 1) pe_int (fun _ _ => rfl)) pa_nil)))) (pe_ix ix_tup (pv 1) pe_int (fun _ _ => rfl))))
      (pss_cons (ps_set (i:=3) sc_rest_of.nd rfl (Or.inr rfl) (pe_ix ix_list (pe_ix ix_tup (pv 0) pe_int (fun _ _ => rfl)) (pe_un un_neg pe_int) (fun _ _ => rfl)))
      (pss_cons (ps_set (i:=4) sc_rest_of.nd rfl (Or.inr rfl) (pe_ix ix_list (pe_ix ix_tup (pv 1) pe_int (fun _ _ => rfl)) (pe_un un_neg pe_int) (fun _ _ => rfl)))
      (pss_cons (ps_setCompG (i:=5) sc_rest_of.nd rfl (Or.inl rfl) (N':=["figure","less","divided_by","last"]) (fsc:=defScope s_rest_of) (N:=["one","other","lifted","last","divided_by","figures"]) ["figure","less"] [4,3] ⟨rfl,by decide +kernel,by decide +kernel,rfl,by decide +kernel,by decide +kernel⟩ (pi_zip rfl T.z_zip (pa_cons (pe_ix ix_tup (pv 0) pe_int (fun _ _ => rfl)) (pa_cons (pv 2) pa_nil))) (fun _ _ _ _ => (pg_blk2 (N':=["figure","less","divided_by","last"]) (i:=0) (j:=1) rfl (by decide +kernel) rfl rfl rfl rfl)) (fun _ _ _ _ => pts_nil) (fun _ _ _ _ => (pe_op op_sub (pe_op op_mulB (pv 2) (pv 0)) (pe_op op_mulB (pv 3) (pv 1)))))
      (pss_cons (ps_expr (pe_bm0 PySem.F.plainAttrs_list PySem.F.slot_list_pop PySem.F.type_list_pop mt_pop (pv 5)))
      (pss_one (ps_ret (pe_cl C_in_lowest_terms hr (pa_cons (pv 5) (pa_cons (pe_op op_mulB (pv 4) (pe_ix ix_tup (pv 0) pe_int (fun _ _ => rfl))) pa_nil)))))))))),?_⟩
  refine ⟨(by show 1 ≤ sizeLine; decide),fun l0 hl0 => ?_⟩
  have s1:=same_upd hl0 (.lst [.int 0])
  refine ⟨_,rfl,p,_,_,_,rfl,rfl,SqT.of (s1 _ _ ep),rfl,fa,_,rfl,.inl (SqL.of (s1 _ _ iz)),_,rfl,p',_,_,_,rfl,rfl,SqT.of (s1 _ _ ep'),rfl,fb,_,rfl,.inl (SqL.of (s1 _ _ iz')),_,_,rfl,rfl,l0,_,_,rfl,rfl,upd_same,?_,?_,?_,fun l1 hl1 => ?_⟩
  · rw [lna,lmb]; (first | lia | omega)
  · rw [lna,lmb]; (first | lia | omega)
  · rw [lna,lmb,List.length_singleton]; (first | lia | omega)
  have en : (((fs.map V.int).length : Int) - ((gs'.map V.int).length : Int)).toNat = fs.length - gs'.length:=by
    rw [lna,lmb]; (first | lia | omega)
  rw [en,flat_rep4]
  have s2:=same_upd hl1 (.lst (List.replicate (fs.length - gs'.length) (V.int 0)))
  have s12:=s1.trans s2
  refine ⟨_,rfl,p',_,_,_,rfl,rfl,SqT.of (s12 _ _ ep'),rfl,l1,fb,_,_,rfl,rfl,upd_same,s12 _ _ iz',by rw [lmb,List.length_replicate]; (first | lia | omega),fun L hLn => ?_⟩
  have s3:=same_upd hLn (.lst (List.replicate (fs.length - gs'.length) (V.int 0) ++ gs'.map V.int))
  have izL : Iz (upd (upd (upd H l0 (.lst [.int 0])) l1 (.lst (List.replicate (fs.length - gs'.length) (V.int 0)))) L (.lst (List.replicate (fs.length - gs'.length) (V.int 0) ++ gs'.map V.int))) L (List.replicate (fs.length - gs'.length) 0 ++ gs'):=by
    unfold Iz
    rw [upd_same,List.map_append,List.map_replicate]
  have s03:=s12.trans s3
  have ep3:=s03 _ _ ep
  have ep3':=s03 _ _ ep'
  have iz3:=s03 _ _ iz
  have iz3':=s03 _ _ iz'
  generalize upd (upd (upd H l0 (.lst [.int 0])) l1 (.lst (List.replicate (fs.length - gs'.length) (V.int 0)))) L (.lst (List.replicate (fs.length - gs'.length) (V.int 0) ++ gs'.map V.int)) = H3 at *
  have lL : (List.replicate (fs.length - gs'.length) (0 : Int) ++ gs').length = fs.length:=by rw [List.length_append,List.length_replicate]; (first | lia | omega)
  have bL : ∀ z ∈ List.replicate (fs.length - gs'.length) (0 : Int) ++ gs',Bt 2100 z:=fun z hz => by
    rcases List.mem_append.mp hz with w | w
    · rw [List.eq_of_mem_replicate w]; exact Bt.zero
    · exact bf' z w
  refine ⟨_,rfl,p,_,_,_,rfl,rfl,SqT.of ep3,rfl,_,rfl,fa,_,_,_,rfl,rfl,SqL.of iz3,a1,?_⟩
  refine ⟨_,rfl,p',_,_,_,rfl,rfl,SqT.of ep3',rfl,_,rfl,fb,_,_,_,rfl,rfl,SqL.of iz3',a2,?_⟩
  refine ⟨_,rfl,p,_,_,_,rfl,rfl,SqT.of ep3,rfl,_,rfl,fa,L,rfl,⟨_,SqL.of iz3⟩,⟨_,SqL.of izL⟩,comp_zipI (ns:=fs) (ms:=List.replicate (fs.length - gs'.length) (0 : Int) ++ gs') fs.length (by rw [lL]; (first | lia | omega)) (by (first | lia | omega)) iz3 izL (fun x y => dg * x - lf' * y) ?_ ?_ fun H4 D s4 nD eD => ?_⟩
  · intro _ _ _ _ x y H4 R fin
    exact fin
  · intro _ _ _ _ x y H4 R hx hy fin
    exact ⟨_,rfl,_,rfl,_,_,rfl,rfl,mul_of m2 (bf x hx) (by decide),_,rfl,_,rfl,_,_,rfl,rfl,mul_of m1 (bL y hy) (by decide),_,_,rfl,rfl,fin⟩
  obtain ⟨m,hm⟩ : ∃ m,fs.length = m + 1:=⟨fs.length - 1,by (first | lia | omega)⟩
  rw [hm] at eD
  rw [List.range_succ,List.map_append,List.map_append,List.map_singleton,List.map_singleton] at eD
  refine ⟨_,rfl,.inl ⟨rfl,_,SqL.of eD⟩,D,_,V.int (dg * fs.getD m 0 - lf' * (List.replicate (m + 1 - gs'.length) (0 : Int) ++ gs').getD m 0),rfl,rfl,eD,?_,?_⟩
  · rw [List.length_append,List.length_singleton,Nat.add_sub_cancel,List.getElem?_append_right (Nat.le_refl _),Nat.sub_self]
    rfl
  rw [List.dropLast_concat]
  have s5 : Same H (upd H4 D (.lst (((List.range m).map fun i => dg * fs.getD i 0 - lf' * (List.replicate (m + 1 - gs'.length) (0 : Int) ++ gs').getD i 0).map V.int))):=same_updF (s03.trans s4) (s03.free nD) _
  have ep5 : (upd H4 D (.lst (((List.range m).map fun i => dg * fs.getD i 0 - lf' * (List.replicate (m + 1 - gs'.length) (0 : Int) ++ gs').getD i 0).map V.int))) p = some (.tup [.ref fa,.int b]):=s5 _ _ ep
  refine ⟨_,rfl,_,rfl,_,rfl,p,_,_,_,rfl,rfl,SqT.of ep5,rfl,_,_,rfl,rfl,mul_of m2 bb (by decide),D,_,dg * b,Po.rst A' B,rfl,upd_same,by rw [List.length_map,List.length_range]; (first | lia | omega),Int.mul_ne_zero hdg hb,(m2.mul bb).mono (by decide),?_,fun r H6 s6 fz => q r H6 (s5.trans s6) fz⟩
  have lA' : A'.length = m + 1:=by (first | lia | omega)
  unfold cq Po.rst
  rw [List.map_map,List.map_map,lA',Nat.add_sub_cancel]
  refine List.map_congr_left fun i hi => ?_
  show ((dg * fs.getD i 0 - lf' * (List.replicate (m + 1 - gs'.length) (0 : Int) ++ gs').getD i 0 : Int) : Rat) = (A'.getD i 0 - Po.lst A' / Po.lst B * (Po.lift A' B).getD i 0) * ((dg * b : Int) : Rat)
  have e1:=fz_getD e i
  have e2:=lift_getD e' (m + 1 - gs'.length) i
  unfold Po.lift
  rw [lA',← lg,Rat.intCast_sub,Rat.intCast_mul,Rat.intCast_mul,Rat.intCast_mul,e1,e2,eA,eB]
  generalize A'.getD i 0 = x at *
  generalize (List.replicate (m + 1 - gs'.length) (0 : Rat) ++ B).getD i 0 = y at *
  generalize Po.lst A' = u at *
  generalize Po.lst B = v at *
  grind
theorem Fz.updD {H : Hp} {p D : Addr} {A qs : List Rat} {ys : List V} (h : Fz H p A) (hA : 0 < A.length) (rD : Rw H D qs) : Fz (upd H D (.lst ys)) p A:=by
  obtain ⟨fa,fs,b,h1,h2,h3,h4,h5⟩:=h
  obtain ⟨ps,e,_⟩:=rD
  refine ⟨fa,fs,b,?_,?_,h3,h4,h5⟩
  · rw [upd_ne (ne_of h1 e (by intro z; cases z))]
    exact h1
  · unfold Iz
    rw [upd_ne]
    · exact h2
    · intro z
      rw [z] at h2
      have h2' : H D = some (.lst (fs.map V.int)):=h2
      rw [e] at h2'
      injection h2' with w
      injection w with w
      have l:=fz_len h4
      cases fs with
      | nil => simp at l; (first | lia | omega)
      | cons f fs =>
        cases ps with
        | nil => simp at w
        | cons q ps => simp at w
noncomputable def duQ (gs ws : List Rat) : List Rat:=(List.range (2 * ws.length + 1)).map (Po.duP gs ws)
noncomputable def sp_ladder : Sp:=fun vs H Q _ => ∃ (u l : Addr) (gs ws : List Rat) (b : Nat),vs = [.ref u,.ref l] ∧ Rw H u (Po.hdp gs ws ws.length) ∧ Rw H l (Po.lsp gs ws ws.length) ∧ gs.length = ws.length + 1 ∧ ws.length ≤ 12 ∧ (∀ q ∈ gs,0 < q) ∧ (∀ q ∈ ws,0 < q) ∧ 0 < b ∧ (∀ q ∈ gs,Bq b q) ∧ (∀ q ∈ ws,Bq b q) ∧ (2 * b + 2) * (ws.length + 1) ≤ 1300 ∧
  ∀ r lq H',Same H H'→H' r = some (.tup [.ref lq,.non])→H lq = none→Rw H' lq (duQ gs ws)→Q (.ref r) H'
noncomputable def sp_ladderO : Sp:=fun vs H Q _ => ∃ (u l : Addr) (gs ws : List Rat),vs = [.ref u,.ref l] ∧ Rw H u (Po.hdp gs ws ws.length) ∧ Rw H l (Po.lsp gs ws ws.length) ∧ gs.length = ws.length + 1 ∧ ws.length ≤ 12 ∧ (∀ q ∈ gs,0 < q) ∧ (∀ q ∈ ws,0 < q) ∧ (∀ q ∈ Po.hdp gs ws ws.length,Bq 1300 q) ∧ (∀ q ∈ Po.lsp gs ws ws.length,Bq 1300 q) ∧ (∀ p,p < 2 * ws.length + 1→OvM (Po.PA gs ws p) ∧ OvM (Po.PB gs ws p)) ∧
  ∀ r lq H',Same H H'→H' r = some (.tup [.ref lq,.non])→H lq = none→Rw H' lq (duQ gs ws)→Q (.ref r) H'
theorem sc_ladder : FnScope ["upper","lower","one","other","quotients","place","quotient","rest"] ["upper","lower"] (defScope s_ladder):=⟨rfl,rfl,rfl,by decide +kernel,rfl,by decide +kernel,by decide +kernel⟩
set_option maxHeartbeats 2000000 in
theorem ok_ladder (F : Fun K "ladder" "ladder" s_ladder f fd) (T : Txt mg) (C_over_one_bottom : Cal P w K mg base "over_one_bottom" 3 ["one"] sp_oob) (C_quotient_at : Cal P w K mg base "quotient_at" 4 ["place","one","other"] sp_quot) (C_side : Cal P w K mg base "side" 1 ["one"] sp_side) (C_rest_of : Cal P w K mg base "rest_of" 3 ["one","other"] sp_rest) : FnOk P w K mg base CX0 5 f fd ["upper","lower"] sp_ladderO:=by
  refine F.ok sc_ladder (fun vs H Q E h => ?_) (fun cdv A outer s H vs Q E hr h => ?_)
  · obtain ⟨u,l,gs,ws,rfl,_⟩:=h
    rfl
  obtain ⟨u,l,gs,ws,rfl,ru,rl,hlen,hmost,pg,pw,bqA,bqB,ov,q⟩:=h
  have lu:=Po.hd_len pg pw hlen (Nat.le_refl ws.length)
  have ll:=Po.ls_len pg pw hlen (Nat.le_refl ws.length)
  obtain ⟨xu,eu,lxu⟩:=ru.there
  obtain ⟨pl,el,kl⟩:=id rl
  have lpl:=kl.length
  have hz : (1000 : Nat) < sizeLine:=by decide
  have l0 : (Po.lsp gs ws ws.length)[0]? = some 1:=by
    have h0 : 0 < (Po.lsp gs ws ws.length).length:=by (first | lia | omega)
    rw [List.getElem?_eq_getElem h0,← Po.getD_in h0]
    exact congrArg some (Po.fig0 gs ws ws.length).1
  obtain ⟨p1,e1,k1⟩:=kl.get l0
  refine ⟨_,(pss_cons (ps_if (PW.pt (pw_or (pt_cmpR op_ne (pe_callB call_len_seq rfl T.z_len PySem.boot_len (pa_cons (pv 0) pa_nil)) (pe_callB call_len_seq rfl T.z_len PySem.boot_len (pa_cons (pv 1) pa_nil)) (nomark _)) (pw_or (pt_cmpR op_lt (pe_callB call_len_seq rfl T.z_len PySem.boot_len (pa_cons (pv 0) pa_nil)) pe_int (nomark _)) (pw_or1 (pt_cmpR op_gt (pe_callB call_len_seq rfl T.z_len PySem.boot_len (pa_cons (pv 0) pa_nil)) (pe_op op_add (pe_globI rfl T.c_MOST_BEADS) pe_int) (nomark _))))))
        (pss_one ps_never)
        pss_nil)
      (pss_cons (ps_if (pt_cmpR (op_neD hr.units) (pe_ix ix_list (pv 1) pe_int (fun _ _ => rfl)) (pe_tup (pa_cons pe_int (pa_cons pe_int pa_nil))) (nomark _))
        (pss_one ps_never)
        pss_nil)
      (pss_cons (ps_set (i:=2) sc_ladder.nd rfl (Or.inl rfl) (pe_cl C_over_one_bottom hr (pa_cons (pv 0) pa_nil)))
      (pss_cons (ps_set (i:=3) sc_ladder.nd rfl (Or.inl rfl) (pe_cl C_over_one_bottom hr (pa_cons (pv 1) pa_nil)))
      (pss_cons (ps_set (i:=4) sc_ladder.nd rfl (Or.inl rfl) (pe_lst pa_nil))
      (pss_cons (ps_for PassesOwn.never rfl (pi_range1 rfl T.z_range (pa_cons (pe_op op_sub (pe_op op_mulB pe_int (pe_callB call_len_seq rfl T.z_len PySem.boot_len (pa_cons (pv 0) pa_nil))) pe_int) pa_nil)) (pg_name (i:=5) sc_ladder.nd rfl (Or.inl rfl))
        (pss_cons (ps_set (i:=6) sc_ladder.nd rfl (Or.inl rfl) (pe_cl C_quotient_at hr (pa_cons (pv 5) (pa_cons (pv 2) (pa_cons (pv 3) pa_nil)))))
        (pss_cons (ps_if (pt_cmpR op_ne (pe_cl C_side hr (pa_cons (pv 6) pa_nil)) pe_int (nomark _))
          (pss_one (ps_ret (pe_tup (pa_cons (pv 4) (pa_cons (pv 5) pa_nil)))))
          pss_nil)
        (pss_cons (ps_expr (pe_bm PySem.F.plainAttrs_list PySem.F.slot_list_append PySem.F.type_list_append mt_append (pv 4) (pa_cons (pv 6) pa_nil)))
        (pss_cons (ps_set (i:=7) sc_ladder.nd rfl (Or.inl rfl) (pe_cl C_rest_of hr (pa_cons (pv 2) (pa_cons (pv 3) pa_nil))))
        (pss_cons (ps_set (i:=2) sc_ladder.nd rfl (Or.inl rfl) (pv 3))
        (pss_one (ps_set (i:=3) sc_ladder.nd rfl (Or.inl rfl) (pv 7)))))))))
      (pss_one (ps_ret (pe_tup (pa_cons (pv 4) (pa_cons pe_non pa_nil))))))))))),?_⟩
  refine ⟨_,rfl,_,_,rfl,.inl (SqL.of eu),_,rfl,_,_,rfl,.inl (SqL.of el),rfl,_,rfl,iteNS (by rw [lxu,lu,List.length_map,lpl,ll]) ?_⟩
  refine ⟨_,rfl,_,_,rfl,.inl (SqL.of eu),_,_,rfl,rfl,_,rfl,iteND (by (first | lia | omega)) ?_⟩
  refine ⟨_,rfl,_,_,rfl,.inl (SqL.of eu),_,_,rfl,rfl,_,_,rfl,rfl,_,rfl,iteND (by (first | lia | omega)) ?_⟩
  refine ⟨_,rfl,l,_,_,_,rfl,rfl,SqL.of el,atI_nat (j:=0) e1,(by show 2 ≤ sizeLine; decide),fun z hz' => ?_⟩
  have uz:=same_upd hz' (.tup [.int 1,.int 1])
  have kz : Pq (upd H z (.tup [.int 1,.int 1])) z 1:=Pq.of Pr.new ⟨rfl,rfl⟩
  refine ⟨_,_,(k1.keep uz).dv,kz.dv,Nat.le_trans (depth_dq _) (by decide),_,rfl,iteNB (eqv_dq_self _) ?_⟩
  refine ⟨_,rfl,u,_,rfl,ru.keep uz,by (first | lia | omega),bqA,fun a1 H1 s1 f1 => ?_⟩
  refine ⟨_,rfl,l,_,rfl,rl.keep (uz.trans s1),by (first | lia | omega),bqB,fun a2 H2 s2 f2 => ?_⟩
  refine ⟨(by show 0 ≤ sizeLine; decide),fun D hD => ?_⟩
  have s02:=uz.trans (s1.trans s2)
  have u3:=same_upd hD (.lst [])
  have hD0 : H D = none:=s02.free hD
  refine ⟨_,rfl,_,_,rfl,.inl (SqL.of ((s02.trans u3) _ _ eu)),_,_,rfl,rfl,CMul.ok (.inl ⟨by decide,by decide⟩),_,_,rfl,rfl,_,rfl,by (first | lia | omega),by (first | lia | omega),?_⟩
  rw [show (2 * ((xu.length : Nat) : Int) - 1).toNat = 2 * ws.length + 1 by (first | lia | omega)]
  refine for_range (n:=2 * ws.length + 1) (fun i σ H' => (∃ (x y : Addr) (v1 v2 v3 : Option V),σ = [some (.ref u),some (.ref l),some (.ref x),some (.ref y),some (.ref D),v1,v2,v3] ∧ Fz H' x (Po.PA gs ws i) ∧ Fz H' y (Po.PB gs ws i)) ∧ Same H H' ∧ Rw H' D ((List.range i).map (Po.duP gs ws)))
    ⟨⟨a1,a2,_,_,_,rfl,f1.keep (s2.trans u3),f2.keep u3⟩,s02.trans u3,⟨[],upd_same,.nil⟩⟩ ?_ ?_
  · rintro i σ H3 hi ⟨⟨x,y,v1,v2,v3,rfl,fx,fy⟩,sm,rD⟩
    obtain ⟨st1,st2,st3,st4,st5,st6,st7,st8,st9⟩:=Po.place_step pg pw hlen hi
    obtain ⟨oA,oB⟩:=ov i hi
    refine ⟨_,rfl,_,rfl,_,rfl,i,x,y,_,_,?_,fx,fy,st3,st4,st7,oA,oB,fun r4 H4 s4 k4 => ?_⟩
    · rw [Int.zero_add]
      rfl
    rw [st8] at k4
    have es : sgn (Po.duP gs ws i).num = 1:=by
      have h0 : 0 ≤ (Po.duP gs ws i).num:=Rat.num_nonneg.mpr (Rat.le_of_lt st9)
      have h1 : (Po.duP gs ws i).num ≠ 0:=fun z => Rat.ne_of_gt st9 (Rat.num_eq_zero.mp z)
      unfold sgn
      rw [if_pos (by (first | lia | omega))]
    refine ⟨_,rfl,r4,_,_,rfl,k4,rfl,_,rfl,iteNS (congrArg V.int es) ?_⟩
    obtain ⟨xs5,hxs,hxl,rD5⟩:=rD.app s4 k4
    rw [List.length_map,List.length_range] at hxl
    refine ⟨_,rfl,.inl ⟨rfl,_,SqL.of hxs⟩,_,rfl,D,xs5,_,rfl,rfl,hxs,by (first | lia | omega),?_⟩
    have fx5:=(fx.keep s4).updD (ys:=xs5 ++ [.ref r4]) st3 (rD.keep s4)
    have fy5:=(fy.keep s4).updD (ys:=xs5 ++ [.ref r4]) st4 (rD.keep s4)
    have s5 : Same H (upd H4 D (.lst (xs5 ++ [.ref r4]))):=same_updF (sm.trans s4) hD0 _
    generalize upd H4 D (.lst (xs5 ++ [.ref r4])) = H5 at *
    refine ⟨_,rfl,_,rfl,x,y,_,_,rfl,fx5,fy5,by (first | lia | omega),st4,st5,st7,oA,oB,fun r6 H6 s6 f6 => ?_⟩
    rw [st2] at f6
    refine ⟨_,rfl,_,rfl,⟨y,r6,_,_,_,rfl,?_,f6⟩,s5.trans s6,?_⟩
    · rw [st1]
      exact fy5.keep s6
    · rw [List.range_succ,List.map_append]
      exact rD5.keep s6
  · rintro σ H3 ⟨⟨x,y,v1,v2,v3,rfl,_,_⟩,sm,rD⟩
    refine ⟨_,rfl,(by show 2 ≤ sizeLine; decide),fun r hr' => ?_⟩
    have u:=same_upd hr' (.tup [.ref D,.non])
    exact q r D _ (sm.trans u) upd_same hD0 (rD.keep u)
theorem rpow_add (t : Rat) (i j : Nat) : t ^ (i + j) = t ^ i * t ^ j:=by
  induction j with
  | zero => rw [Nat.add_zero,Rat.pow_zero]; grind
  | succ j ih => rw [← Nat.add_assoc,Rat.pow_succ,Rat.pow_succ,ih]; grind
theorem ev_snoc (xs : List Rat) (y t : Rat) : Po.ev (xs ++ [y]) t = Po.ev xs t + y * t ^ xs.length:=by
  induction xs with
  | nil => simp only [List.nil_append,Po.ev,List.length_nil,Rat.pow_zero]; grind
  | cons x xs ih => rw [List.cons_append,Po.ev,ih,Po.ev,List.length_cons,Rat.pow_succ]; grind
theorem ev_set (xs : List Rat) (k : Nat) (y t : Rat) (h : k < xs.length) : Po.ev (xs.set k y) t = Po.ev xs t + (y - xs.getD k 0) * t ^ k:=by
  induction xs generalizing k with
  | nil => simp at h
  | cons x xs ih =>
    cases k with
    | zero => simp only [List.set_cons_zero,Po.ev,List.getD_cons_zero,Rat.pow_zero]; grind
    | succ k => rw [List.set_cons_succ,Po.ev,ih k (by simpa using h),Po.ev,List.getD_cons_succ,Rat.pow_succ]; grind
theorem ev_zero_list (n : Nat) (t : Rat) : Po.ev (cq (List.replicate n 0)) t = 0:=by
  induction n with
  | zero => rfl
  | succ n ih =>
    show Po.ev ((((0 : Int)) : Rat) :: cq (List.replicate n 0)) t = 0
    rw [Po.ev,ih]
    have : ((0 : Int) : Rat) = 0:=rfl
    rw [this]
    grind
noncomputable def WtI (H : Hp) (a b D : Addr) (ns ms : List Int) (n α γ i : Nat) (σ : L2.St) (H' : Hp) : Prop:=∃ (v1 v2 v3 v4 : Option V) (zs : List Int),σ = [some (.ref a),some (.ref b),some (.ref D),v1,v2,v3,v4] ∧ Same H H' ∧ Iz H' D zs ∧ zs.length = n ∧ (∀ t,Po.ev (cq zs) t = Po.ev (cq (ns.take i)) t * Po.ev (cq ms) t) ∧ ∀ z ∈ zs,z.natAbs ≤ i * 2 ^ (α + γ)
noncomputable def WtJ (H : Hp) (a b D : Addr) (ns ms : List Int) (n α γ i : Nat) (ni : Int) (j : Nat) (σ : L2.St) (H' : Hp) : Prop:=∃ (v3 v4 : Option V) (zs : List Int),σ = [some (.ref a),some (.ref b),some (.ref D),some (.int (0 + (i : Int))),some (.int ni),v3,v4] ∧ Same H H' ∧ Iz H' D zs ∧ zs.length = n ∧ (∀ t,Po.ev (cq zs) t = Po.ev (cq (ns.take i)) t * Po.ev (cq ms) t + (ni : Rat) * t ^ i * Po.ev (cq (ms.take j)) t) ∧ ∀ k z,zs[k]? = some z→z.natAbs ≤ (i + if i ≤ k ∧ k < i + j then 1 else 0) * 2 ^ (α + γ)
theorem WtI.elim {H : Hp} {a b D : Addr} {ns ms : List Int} {n α γ i : Nat} {σ : L2.St} {H' : Hp} {G : Prop} (h : WtI H a b D ns ms n α γ i σ H') (k : ∀ (v1 v2 v3 v4 : Option V) (zs : List Int),σ = [some (.ref a),some (.ref b),some (.ref D),v1,v2,v3,v4]→(Same H H')→(Iz H' D zs)→(zs.length = n)→((∀ t,Po.ev (cq zs) t = Po.ev (cq (ns.take i)) t * Po.ev (cq ms) t))→(∀ z ∈ zs,z.natAbs ≤ i * 2 ^ (α + γ))→G) : G:=by
  obtain ⟨v1,v2,v3,v4,zs,h0',h1',h2',h3',h4',h5'⟩:=h
  exact k _ _ _ _ _ h0' h1' h2' h3' h4' h5'
theorem WtJ.elim {H : Hp} {a b D : Addr} {ns ms : List Int} {n α γ i : Nat} {ni : Int} {j : Nat} {σ : L2.St} {H' : Hp} {G : Prop} (h : WtJ H a b D ns ms n α γ i ni j σ H') (k : ∀ (v3 v4 : Option V) (zs : List Int),σ = [some (.ref a),some (.ref b),some (.ref D),some (.int (0 + (i : Int))),some (.int ni),v3,v4]→(Same H H')→(Iz H' D zs)→(zs.length = n)→((∀ t,Po.ev (cq zs) t = Po.ev (cq (ns.take i)) t * Po.ev (cq ms) t + (ni : Rat) * t ^ i * Po.ev (cq (ms.take j)) t))→(∀ k z,zs[k]? = some z→z.natAbs ≤ (i + if i ≤ k ∧ k < i + j then 1 else 0) * 2 ^ (α + γ))→G) : G:=by
  obtain ⟨v3,v4,zs,h0',h1',h2',h3',h4',h5'⟩:=h
  exact k _ _ _ h0' h1' h2' h3' h4' h5'
noncomputable def sp_wht : Sp:=fun vs H Q _ => ∃ a b ns ms α γ,vs = [.ref a,.ref b] ∧ Iz H a ns ∧ Iz H b ms ∧ ns.length ≤ 60 ∧ ms.length ≤ 60 ∧ (∀ n ∈ ns,Bt α n) ∧ (∀ n ∈ ms,Bt γ n) ∧ α + γ ≤ 100000 ∧
  ∀ r zs H',Same H H'→H r = none→Iz H' r zs→(∀ t,Po.ev (cq zs) t = Po.ev (cq ns) t * Po.ev (cq ms) t)→zs.length ≤ ns.length + ms.length - 1→(∀ z ∈ zs,Bt (α + γ + 6) z)→Q (.ref r) H'
theorem cq_set (zs : List Int) (k : Nat) (z : Int) : cq (zs.set k z) = (cq zs).set k (z : Rat):=by unfold cq; rw [List.map_set]
theorem cq_getD (zs : List Int) (k : Nat) : (cq zs).getD k 0 = ((zs.getD k 0 : Int) : Rat):=by
  unfold cq
  rw [List.getD_eq_getElem?_getD,List.getElem?_map,List.getD_eq_getElem?_getD]
  cases zs[k]? with
  | none => rfl
  | some z => rfl
theorem ev_take (ns : List Int) (i : Nat) (t : Rat) (h : i < ns.length) : Po.ev (cq (ns.take (i + 1))) t = Po.ev (cq (ns.take i)) t + (ns[i] : Rat) * t ^ i:=by
  rw [List.take_succ,List.getElem?_eq_getElem h]
  show Po.ev (cq (ns.take i ++ [ns[i]])) t = _
  unfold cq
  rw [List.map_append,List.map_cons,List.map_nil,ev_snoc,List.length_map,List.length_take,Nat.min_eq_left (by (first | lia | omega))]
theorem sc_whole_times : FnScope ["one","other","product","power","figure","further","factor"] ["one","other"] (defScope s_whole_times):=⟨rfl,rfl,rfl,by decide +kernel,rfl,by decide +kernel,by decide +kernel⟩
set_option maxHeartbeats 4000000 in
theorem ok_whole_times (F : Fun K "whole_times" "whole_times" s_whole_times f fd) (T : Txt mg) : FnOk P w K mg base CX0 1 f fd ["one","other"] sp_wht:=by
  refine F.ok sc_whole_times (fun vs H Q E h => ?_) (fun cdv A outer s H vs Q E hr h => ?_)
  · obtain ⟨a,b,ns,ms,α,γ,rfl,_⟩:=h
    rfl
  obtain ⟨a,b,ns,ms,α,γ,rfl,ea,eb,ln,lm,bn,bm,hag,q⟩:=h
  have hz : (1000 : Nat) < sizeLine:=by decide
  refine ⟨_,(pss_cons (ps_if (PW.pt (pw_or (pt_cmpR op_eq (pe_callB call_len_seq rfl T.z_len PySem.boot_len (pa_cons (pv 0) pa_nil)) pe_int (nomark _)) (pw_or1 (pt_cmpR op_eq (pe_callB call_len_seq rfl T.z_len PySem.boot_len (pa_cons (pv 1) pa_nil)) pe_int (nomark _)))))
        (pss_one (ps_ret (pe_lst pa_nil)))
        pss_nil)
      (pss_cons (ps_set (i:=2) sc_whole_times.nd rfl (Or.inl rfl) (pe_op op_rep (pe_lst (pa_cons pe_int pa_nil)) (pe_op op_sub (pe_op op_add (pe_callB call_len_seq rfl T.z_len PySem.boot_len (pa_cons (pv 0) pa_nil)) (pe_callB call_len_seq rfl T.z_len PySem.boot_len (pa_cons (pv 1) pa_nil))) pe_int)))
      (pss_cons (ps_for PassesOwn.never rfl (pi_enum rfl T.z_enumerate (pa_cons (pv 0) pa_nil)) (pg_tup rfl (pgs_cons (pg_name (i:=3) sc_whole_times.nd rfl (Or.inl rfl)) (pgs_cons (pg_name (i:=4) sc_whole_times.nd rfl (Or.inl rfl)) pgs_nil)))
        (pss_one (ps_for PassesOwn.never rfl (pi_enum rfl T.z_enumerate (pa_cons (pv 1) pa_nil)) (pg_tup rfl (pgs_cons (pg_name (i:=5) sc_whole_times.nd rfl (Or.inl rfl)) (pgs_cons (pg_name (i:=6) sc_whole_times.nd rfl (Or.inl rfl)) pgs_nil)))
          (pss_one (ps_asg (pe_op op_add (pe_ix ix_list (pv 2) (pe_op op_add (pv 3) (pv 5)) (fun _ _ => rfl)) (pe_op op_mulB (pv 4) (pv 6))) (pg_sub (pv 2) (pe_op op_add (pv 3) (pv 5)) set_list))))))
      (pss_one (ps_ret (pv 2)))))),?_⟩
  have lna : (ns.map V.int).length = ns.length:=List.length_map _
  have lmb : (ms.map V.int).length = ms.length:=List.length_map _
  have empty : (ns = [] ∨ ms = [])→∀ l,H l = none→Q (.ref l) (upd H l (.lst [])):=fun he l hl => by
    refine q l [] _ (same_upd hl _) hl upd_same (fun t => ?_) (by simp) (fun z hz => absurd hz (by simp))
    rcases he with rfl | rfl
    · show (0 : Rat) = 0 * _; grind
    · show (0 : Rat) = _ * 0; grind
  refine ⟨_,rfl,a,_,rfl,.inl (SqL.of ea),rfl,_,rfl,?_⟩
  by_cases h1 : ns = []
  · refine iteD (congrArg V.int (by rw [lna,h1]; rfl)) ?_
    exact ⟨(by show 0 ≤ sizeLine; decide),fun l hl => empty (.inl h1) l hl⟩
  · have l1 : ns.length ≠ 0:=fun z => h1 (List.length_eq_zero_iff.mp z)
    refine iteND (fun z => l1 (by have:=V.int.inj z; rw [lna] at this; (first | lia | omega))) ?_
    refine ⟨_,rfl,b,_,rfl,.inl (SqL.of eb),rfl,_,rfl,?_⟩
    by_cases h2 : ms = []
    · refine iteD (congrArg V.int (by rw [lmb,h2]; rfl)) ?_
      exact ⟨(by show 0 ≤ sizeLine; decide),fun l hl => empty (.inr h2) l hl⟩
    · have l2 : ms.length ≠ 0:=fun z => h2 (List.length_eq_zero_iff.mp z)
      refine iteND (fun z => l2 (by have:=V.int.inj z; rw [lmb] at this; (first | lia | omega))) ?_
      obtain ⟨n,hn⟩ : ∃ n,n = ns.length + ms.length - 1:=⟨_,rfl⟩
      refine ⟨(by show 1 ≤ sizeLine; decide),fun l0 hl0 => ?_⟩
      have s1:=same_upd hl0 (.lst [.int 0])
      refine ⟨_,rfl,a,_,rfl,.inl (SqL.of (s1 _ _ ea)),_,rfl,b,_,rfl,.inl (SqL.of (s1 _ _ eb)),_,_,rfl,rfl,_,_,rfl,rfl,l0,_,_,rfl,rfl,upd_same,?_,?_,?_,fun D hD => ?_⟩
      · rw [lna,lmb]; (first | lia | omega)
      · rw [lna,lmb]; (first | lia | omega)
      · rw [lna,lmb,List.length_singleton]; (first | lia | omega)
      have en : (((ns.map V.int).length : Int) + ((ms.map V.int).length : Int) - 1).toNat = n:=by
        rw [lna,lmb]; (first | lia | omega)
      rw [en,flat_rep4]
      have s2:=same_upd hD (.lst (List.replicate n (V.int 0)))
      have hD0 : H D = none:=s1.free hD
      have s02:=s1.trans s2
      have iz0 : Iz (upd (upd H l0 (.lst [.int 0])) D (.lst (List.replicate n (V.int 0)))) D (List.replicate n 0):=by
        unfold Iz
        rw [upd_same,List.map_replicate]
      have ea2:=s02 _ _ ea
      have eb2:=s02 _ _ eb
      refine ⟨_,rfl,a,rfl,⟨_,SqL.of ea2⟩,?_⟩
      refine for_enum (xs:=ns.map V.int) (WtI H a b D ns ms n α γ)
        ⟨_,_,_,_,_,rfl,s02,iz0,by simp,fun t => by rw [ev_zero_list]; show (0 : Rat) = 0 * _; grind,fun z hz => by rw [(List.mem_replicate.mp hz).2]; simp⟩ ?_ ?_ ?_
      · intro i σ H' _ hI
        exact WtI.elim hI fun v1 v2 v3 v4 zs _ sm _ _ _ _ => SqL.of (sm _ _ ea)
      · intro i x σ H1 t1 hx hI ht1
        refine WtI.elim hI fun v1 v2 v3 v4 zs eσ sm iz lz evz bz => ?_
        subst eσ
        have hi : i < ns.length:=by
          have h:=(List.getElem?_eq_some_iff.mp hx).1
          rw [lna] at h
          exact h
        obtain rfl : x = .int ns[i]:=by
          rw [List.getElem?_map,List.getElem?_eq_getElem hi] at hx
          exact (Option.some.inj hx).symm
        refine ⟨t1,_,rfl,SqT.of upd_same,rfl,_,_,rfl,_,_,rfl,rfl,?_⟩
        have u1:=same_upd ht1 (.tup [.int (0 + (i : Int)),.int ns[i]])
        have sm1:=sm.trans u1
        have iz1 : Iz (upd H1 t1 (.tup [.int (0 + (i : Int)),.int ns[i]])) D zs:=u1 _ _ iz
        generalize upd H1 t1 (.tup [.int (0 + (i : Int)),.int ns[i]]) = H2 at *
        refine ⟨_,rfl,b,rfl,⟨_,SqL.of (sm1 _ _ eb)⟩,?_⟩
        refine for_enum (xs:=ms.map V.int) (WtJ H a b D ns ms n α γ i ns[i])
          ⟨_,_,zs,rfl,sm1,iz1,lz,fun t => by rw [evz t]; show _ = _ + _ * (0 : Rat); grind,fun k z hk => by
            rw [if_neg (by (first | lia | omega)),Nat.add_zero]
            exact bz z (List.mem_of_getElem? hk)⟩ ?_ ?_ ?_
        · intro j σ H' _ hJ
          exact WtJ.elim hJ fun v3 v4 zs _ sm' _ _ _ _ => SqL.of (sm' _ _ eb)
        · intro j y σ H3 t2 hy hJ ht2
          refine WtJ.elim hJ fun v3 v4 zs3 eσ sm3 iz3 lz3 ev3 bz3 => ?_
          subst eσ
          have hj : j < ms.length:=by
            have h:=(List.getElem?_eq_some_iff.mp hy).1
            rw [lmb] at h
            exact h
          obtain rfl : y = .int ms[j]:=by
            rw [List.getElem?_map,List.getElem?_eq_getElem hj] at hy
            exact (Option.some.inj hy).symm
          refine ⟨t2,_,rfl,SqT.of upd_same,rfl,_,_,rfl,_,_,rfl,rfl,?_⟩
          have u2:=same_upd ht2 (.tup [.int (0 + (j : Int)),.int ms[j]])
          have sm4:=sm3.trans u2
          have iz4 : Iz (upd H3 t2 (.tup [.int (0 + (j : Int)),.int ms[j]])) D zs3:=u2 _ _ iz3
          generalize upd H3 t2 (.tup [.int (0 + (j : Int)),.int ms[j]]) = H4 at *
          have hk : i + j < zs3.length:=by (first | lia | omega)
          have ei : (0 + (i : Int)) + (0 + (j : Int)) = ((i + j : Nat) : Int):=by (first | lia | omega)
          have eo : atI (zs3.map V.int) ((0 + (i : Int)) + (0 + (j : Int))) = some (.int zs3[i + j]):=by
            rw [ei]
            refine atI_nat ?_
            rw [List.getElem?_map,List.getElem?_eq_getElem hk]
            rfl
          have bni:=bn _ (List.getElem_mem hi)
          have bmj:=bm _ (List.getElem_mem hj)
          refine ⟨_,rfl,_,rfl,_,rfl,_,_,rfl,rfl,D,_,_,_,rfl,rfl,SqL.of iz4,eo,_,rfl,_,rfl,_,_,rfl,rfl,mul_of bni bmj (by (first | lia | omega)),_,_,rfl,rfl,?_⟩
          refine ⟨_,rfl,_,rfl,_,rfl,_,_,rfl,rfl,D,_,_,i + j,rfl,rfl,iz4,?_,_,_,zs3.set (i + j) (zs3[i + j] + ns[i] * ms[j]),rfl,same_updF sm4 hD0 _,?_,by rw [List.length_set]; exact lz3,fun t => ?_,fun k z hkz => ?_⟩
          · rw [ei,List.length_map]
            unfold ixN
            rw [if_pos (by (first | lia | omega)),if_pos (by (first | lia | omega))]
            rfl
          · unfold Iz
            rw [upd_same,List.map_set]
          · rw [cq_set,ev_set _ _ _ _ (by rw [cq_length]; exact hk),ev3 t,cq_getD,ev_take ms j t hj]
            have e1 : zs3.getD (i + j) 0 = zs3[i + j]:=by rw [List.getD_eq_getElem?_getD,List.getElem?_eq_getElem hk]; rfl
            rw [e1,Rat.intCast_add,Rat.intCast_mul,rpow_add]
            grind
          · rw [List.getElem?_set] at hkz
            by_cases hkk : i + j = k
            · rw [if_pos hkk,if_pos hk] at hkz
              cases hkz
              subst hkk
              rw [if_pos (by (first | lia | omega))]
              have o1:=bz3 (i + j) _ (List.getElem?_eq_getElem hk)
              rw [if_neg (by (first | lia | omega)),Nat.add_zero] at o1
              have o2 : (ns[i] * ms[j]).natAbs < 2 ^ (α + γ):=bni.mul bmj
              have o3:=Int.natAbs_add_le zs3[i + j] (ns[i] * ms[j])
              rw [Nat.add_mul,Nat.one_mul]
              (first | lia | omega)
            · rw [if_neg hkk] at hkz
              have o1:=bz3 k z hkz
              refine Nat.le_trans o1 (Nat.mul_le_mul_right _ ?_)
              by_cases hc : i ≤ k ∧ k < i + j
              · rw [if_pos hc,if_pos (by (first | lia | omega))]
                exact Nat.le_refl _
              · rw [if_neg hc,Nat.add_zero]
                exact Nat.le_add_right _ _
        · intro σ H3 hJ
          refine WtJ.elim hJ fun v3 v4 zs3 eσ sm3 iz3 lz3 ev3 bz3 => ?_
          subst eσ
          refine ⟨_,_,_,_,zs3,rfl,sm3,iz3,lz3,fun t => ?_,fun z hz => ?_⟩
          · rw [ev3 t,lmb,List.take_length,ev_take ns i t hi]
            grind
          · obtain ⟨k,hk⟩:=List.getElem?_of_mem hz
            refine Nat.le_trans (bz3 k z hk) (Nat.mul_le_mul_right _ ?_)
            split <;> (first | lia | omega)
      · intro σ H1 hI
        refine WtI.elim hI fun v1 v2 v3 v4 zs eσ sm iz lz evz bz => ?_
        subst eσ
        rw [lna,List.take_length] at evz
        rw [lna] at bz
        refine ⟨_,rfl,q D zs H1 sm hD0 iz evz (by (first | lia | omega)) fun z hz => ?_⟩
        show z.natAbs < 2 ^ (α + γ + 6)
        have o:=bz z hz
        have o2 : ns.length * 2 ^ (α + γ) ≤ 60 * 2 ^ (α + γ):=Nat.mul_le_mul_right _ ln
        rw [Nat.pow_add]
        have o3 : 0 < 2 ^ (α + γ):=Nat.pow_pos (by decide)
        (first | lia | omega)
noncomputable def risB (a : Rat) : List Rat→Bool
  | [] => true
  | x :: xs => decide (a < x) && risB x xs
noncomputable def trn : List Rat→List Rat→List Rat
  | l :: ls,u :: us => l :: u :: trn ls us
  | _,_ => []
theorem trn_snoc : ∀ {ls us : List Rat} (x y : Rat),ls.length = us.length→trn (ls ++ [x]) (us ++ [y]) = trn ls us ++ [x] ++ [y]
  | [],[],_,_,_ => rfl
  | l :: ls,u :: us,x,y,h => by
    show l :: u :: trn (ls ++ [x]) (us ++ [y]) = _
    rw [trn_snoc x y (by simpa using h)]
    rfl
  | [],_ :: _,_,_,h => by simp at h
  | _ :: _,[],_,_,h => by simp at h
theorem trn_len : ∀ {ls us : List Rat},ls.length = us.length→(trn ls us).length = 2 * ls.length
  | [],[],_ => rfl
  | l :: ls,u :: us,h => by
    show (trn ls us).length + 1 + 1 = 2 * (ls.length + 1)
    rw [trn_len (by simpa using h)]
    (first | lia | omega)
  | [],_ :: _,h => by simp at h
  | _ :: _,[],h => by simp at h
theorem trn_mem : ∀ {ls us : List Rat} {P : Rat→Prop},(∀ q ∈ ls,P q)→(∀ q ∈ us,P q)→∀ q ∈ trn ls us,P q
  | [],_,_,_,_,q,h => by cases h
  | _ :: _,[],_,_,_,q,h => by cases h
  | l :: ls,u :: us,P,h1,h2,q,h => by
    rcases List.mem_cons.mp h with z | z
    · rw [z]; exact h1 l (by simp)
    · rcases List.mem_cons.mp z with z | z
      · rw [z]; exact h2 u (by simp)
      · exact trn_mem (fun q hq => h1 q (by simp [hq])) (fun q hq => h2 q (by simp [hq])) q z
theorem wths_snoc (p us : List Rat) (u : Rat) : Po.wths p (us ++ [u]) = Po.mulc u 0 (Po.wths p us):=by
  unfold Po.wths
  rw [List.foldl_append]
  rfl
noncomputable def sp_wths : Sp:=fun vs H Q _ => ∃ a p us c,vs = [.ref a,.ref p] ∧ Rw H a us ∧ Pq H p c ∧ us.length ≤ 12 ∧ (∀ u ∈ us,0 < u ∧ Bq 100 u) ∧ 0 < c ∧ Bq 101 c ∧ ∀ r H',Same H H'→H r = none→Rw H' r (Po.wths [c] us)→Q (.ref r) H'
noncomputable def sp_rising : Sp:=fun vs H Q _ => ∃ a qs,vs = [.ref a] ∧ Rw H a qs ∧ (∀ q ∈ qs,Bq 4000 q) ∧ ∀ H',Same H H'→Q (.bl (risB 0 qs)) H'
theorem sc_is_rising : FnScope ["row","last","one"] ["row"] (defScope s_is_rising):=⟨rfl,rfl,rfl,by decide +kernel,rfl,by decide +kernel,by decide +kernel⟩
set_option maxHeartbeats 1000000 in
theorem ok_is_rising (F : Fun K "is_rising" "is_rising" s_is_rising f fd) (T : Txt mg) (C_is_under : Cal P w K mg base "is_under" 1 ["one","other"] sp_under) : FnOk P w K mg base CX0 2 f fd ["row"] sp_rising:=by
  refine F.ok sc_is_rising (fun vs H Q E h => ?_) (fun cdv A outer s H vs Q E hr h => ?_)
  · obtain ⟨a,qs,rfl,_⟩:=h
    rfl
  obtain ⟨a,qs,rfl,⟨ps,ea,kp⟩,bq,q⟩:=h
  have lp:=kp.length
  refine ⟨_,(pss_cons (ps_set (i:=1) sc_is_rising.nd rfl (Or.inl rfl) (pe_tup (pa_cons pe_int (pa_cons pe_int pa_nil))))
      (pss_cons (ps_for PassesOwn.never rfl (pi_list (pv 0)) (pg_name (i:=2) sc_is_rising.nd rfl (Or.inl rfl))
        (pss_cons (ps_if (pt_not (pt_val (pe_cl C_is_under hr (pa_cons (pv 1) (pa_cons (pv 2) pa_nil)))))
          (pss_one (ps_ret pe_bl))
          pss_nil)
        (pss_one (ps_set (i:=1) sc_is_rising.nd rfl (Or.inl rfl) (pv 2)))))
      (pss_one (ps_ret pe_bl)))),?_⟩
  refine ⟨(by show 2 ≤ sizeLine; decide),fun p0 hp0 => ?_⟩
  have s0:=same_upd hp0 (.tup [.int 0,.int 1])
  have k0 : Pq (upd H p0 (.tup [.int 0,.int 1])) p0 0:=Pq.of Pr.new ⟨rfl,rfl⟩
  generalize upd H p0 (.tup [.int 0,.int 1]) = H0 at *
  have ea:=s0 _ _ ea
  have kp:=kp.keep s0
  refine ⟨_,rfl,a,rfl,⟨_,SqL.of ea⟩,?_⟩
  refine for_list (xs:=ps.map V.ref) (fun i σ H' => H0 = H' ∧ ∃ (pl : Addr) (x : Rat) (v : Option V),σ = [some (.ref a),some (.ref pl),v] ∧ Pq H0 pl x ∧ Bq 4000 x ∧ risB 0 qs = risB x (qs.drop i)) ⟨rfl,p0,0,_,rfl,k0,Bq.zero (by decide),rfl⟩ ?_ ?_ ?_
  · rintro i σ _ _ ⟨rfl,_⟩
    exact SqL.of ea
  · rintro i x σ _ hi ⟨rfl,pl,y,v,rfl,kl,by',hr'⟩
    have hlt : i < qs.length:=by
      have:=(List.getElem?_eq_some_iff.mp hi).1
      rw [List.length_map] at this
      (first | lia | omega)
    obtain ⟨p1,e1,k1⟩:=kp.get (List.getElem?_eq_getElem hlt)
    obtain rfl : x = .ref p1:=Option.some.inj (hi.symm.trans e1)
    have b1:=bq _ (List.getElem_mem hlt)
    rw [List.drop_eq_getElem_cons hlt] at hr'
    have hr2 : risB 0 qs = (decide (y < qs[i]) && risB qs[i] (qs.drop (i + 1))):=hr'
    refine ⟨_,rfl,_,rfl,pl,p1,_,_,_,_,rfl,kl,k1,mul_of by'.1 b1.2 (by decide),mul_of b1.1 by'.2 (by decide),_,rfl,?_⟩
    by_cases c : y < qs[i]
    · have e : decide (y.num * (qs[i].den : Int) < qs[i].num * (y.den : Int)) = true:=decide_eq_true ((Rat.lt_iff _ _).mp c)
      rw [e]
      rw [decide_eq_true c,Bool.true_and] at hr2
      exact iteF ⟨_,rfl,rfl,p1,_,_,rfl,k1,b1,hr2⟩
    · have e : decide (y.num * (qs[i].den : Int) < qs[i].num * (y.den : Int)) = false:=decide_eq_false fun z => c ((Rat.lt_iff _ _).mpr z)
      rw [e]
      rw [decide_eq_false c,Bool.false_and] at hr2
      have fin:=q H0 s0
      rw [hr2] at fin
      exact iteT fin
  · rintro σ _ ⟨rfl,pl,x,v,rfl,_,_,hr'⟩
    rw [List.length_map,lp,List.drop_length] at hr'
    have fin:=q H0 s0
    rw [hr'] at fin
    exact fin
noncomputable def sp_inturns : Sp:=fun vs H Q _ => ∃ a b ls us,vs = [.ref a,.ref b] ∧ Rw H a ls ∧ Rw H b us ∧ ls.length = us.length ∧ ls.length ≤ 100 ∧ ∀ r H',Same H H'→H r = none→Rw H' r (trn ls us)→Q (.ref r) H'
theorem sc_in_turns : FnScope ["firsts","seconds","row","first","second"] ["firsts","seconds"] (defScope s_in_turns):=⟨rfl,rfl,rfl,by decide +kernel,rfl,by decide +kernel,by decide +kernel⟩
set_option maxHeartbeats 1000000 in
theorem ok_in_turns (F : Fun K "in_turns" "in_turns" s_in_turns f fd) (T : Txt mg) : FnOk P w K mg base CX0 1 f fd ["firsts","seconds"] sp_inturns:=by
  refine F.ok sc_in_turns (fun vs H Q E h => ?_) (fun cdv A outer s H vs Q E hr h => ?_)
  · obtain ⟨a,b,ls,us,rfl,_⟩:=h
    rfl
  obtain ⟨a,b,ls,us,rfl,⟨pa,ea,ka⟩,⟨pb,eb,kb⟩,hlen,hl,q⟩:=h
  have la:=ka.length
  have lb:=kb.length
  have hz : (1000 : Nat) < sizeLine:=by decide
  refine ⟨_,(pss_cons (ps_set (i:=2) sc_in_turns.nd rfl (Or.inl rfl) (pe_lst pa_nil))
      (pss_cons (ps_for PassesOwn.never rfl (pi_zip rfl T.z_zip (pa_cons (pv 0) (pa_cons (pv 1) pa_nil))) (pg_tup rfl (pgs_cons (pg_name (i:=3) sc_in_turns.nd rfl (Or.inl rfl)) (pgs_cons (pg_name (i:=4) sc_in_turns.nd rfl (Or.inl rfl)) pgs_nil)))
        (pss_cons (ps_expr (pe_bm PySem.F.plainAttrs_list PySem.F.slot_list_append PySem.F.type_list_append mt_append (pv 2) (pa_cons (pv 3) pa_nil)))
        (pss_one (ps_expr (pe_bm PySem.F.plainAttrs_list PySem.F.slot_list_append PySem.F.type_list_append mt_append (pv 2) (pa_cons (pv 4) pa_nil))))))
      (pss_one (ps_ret (pv 2))))),?_⟩
  refine ⟨(by show 0 ≤ sizeLine; decide),fun D hD => ?_⟩
  have s0:=same_upd hD (.lst [])
  have eD : Rw (upd H D (.lst [])) D []:=⟨[],upd_same,.nil⟩
  generalize upd H D (.lst []) = H0 at *
  refine ⟨_,rfl,_,rfl,a,b,rfl,⟨_,SqL.of (s0 _ _ ea)⟩,⟨_,SqL.of (s0 _ _ eb)⟩,?_⟩
  refine for_zip (xs:=pa.map V.ref) (ys:=pb.map V.ref) ls.length (by rw [List.length_map,List.length_map]; (first | lia | omega)) (fun i σ H' => (∃ v u,σ = [some (.ref a),some (.ref b),some (.ref D),v,u]) ∧ Same H H' ∧ Rw H' D (trn (ls.take i) (us.take i))) ⟨⟨_,_,rfl⟩,s0,eD⟩ ?_ ?_ ?_
  · rintro i σ H1 _ ⟨_,sm,_⟩
    exact ⟨SqL.of (sm _ _ ea),SqL.of (sm _ _ eb)⟩
  · rintro i x y σ H1 T0 hx hy ⟨⟨v,u,rfl⟩,sm0,rD0⟩ hT
    have hi : i < ls.length:=by
      have h:=(List.getElem?_eq_some_iff.mp hx).1
      rw [List.length_map] at h
      (first | lia | omega)
    have hi2 : i < us.length:=by (first | lia | omega)
    obtain ⟨p1,e1,k1⟩:=ka.get (List.getElem?_eq_getElem hi)
    obtain rfl : x = .ref p1:=Option.some.inj (hx.symm.trans e1)
    obtain ⟨p2,e2,k2⟩:=kb.get (List.getElem?_eq_getElem hi2)
    obtain rfl : y = .ref p2:=Option.some.inj (hy.symm.trans e2)
    refine ⟨T0,_,rfl,SqT.of upd_same,rfl,_,_,rfl,_,_,rfl,rfl,?_⟩
    have sT:=same_upd hT (.tup [.ref p1,.ref p2])
    have sm:=sm0.trans sT
    have rD:=rD0.keep sT
    generalize upd H1 T0 (.tup [.ref p1,.ref p2]) = H2 at *
    have lt : (trn (ls.take i) (us.take i)).length = 2 * i:=by
      rw [trn_len (by rw [List.length_take,List.length_take]; (first | lia | omega)),List.length_take]
      (first | lia | omega)
    obtain ⟨x1,f1,l1,rD1⟩:=rD.app (Same.refl _) (k1.keep sm)
    refine ⟨_,rfl,.inl ⟨rfl,_,SqL.of f1⟩,_,rfl,D,x1,_,rfl,rfl,f1,by (first | lia | omega),?_⟩
    have s2 : Same H (upd H2 D (.lst (x1 ++ [.ref p1]))):=same_updF sm hD _
    generalize upd H2 D (.lst (x1 ++ [.ref p1])) = H3 at *
    obtain ⟨x2,f2,l2,rD2⟩:=rD1.app (Same.refl _) (k2.keep s2)
    rw [List.length_append,List.length_singleton] at l2
    refine ⟨_,rfl,.inl ⟨rfl,_,SqL.of f2⟩,_,rfl,D,x2,_,rfl,rfl,f2,by (first | lia | omega),?_⟩
    refine ⟨⟨_,_,rfl⟩,same_updF s2 hD _,?_⟩
    rw [List.take_succ_eq_append_getElem hi,List.take_succ_eq_append_getElem hi2,trn_snoc _ _ (by rw [List.length_take,List.length_take]; (first | lia | omega))]
    exact rD2
  · rintro σ H1 ⟨⟨v,u,rfl⟩,sm,rD⟩
    rw [List.take_length,hlen,List.take_length] at rD
    exact ⟨_,rfl,q D H1 sm hD rD⟩
theorem sc_with_worths : FnScope ["worths","first","figures","bottom","worth"] ["worths","first"] (defScope s_with_worths):=⟨rfl,rfl,rfl,by decide +kernel,rfl,by decide +kernel,by decide +kernel⟩
set_option maxHeartbeats 2000000 in
theorem ok_with_worths (F : Fun K "with_worths" "with_worths" s_with_worths f fd) (T : Txt mg) (C_whole_times : Cal P w K mg base "whole_times" 1 ["one","other"] sp_wht) (C_fraction_d0 : CalD P w K mg base "fraction" 2 ["top","bottom"] [] [] sp_fracN) : FnOk P w K mg base CX0 3 f fd ["worths","first"] sp_wths:=by
  refine F.ok sc_with_worths (fun vs H Q E h => ?_) (fun cdv A outer s H vs Q E hr h => ?_)
  · obtain ⟨a,p,us,c,rfl,_⟩:=h
    rfl
  obtain ⟨a,p,us,c,rfl,⟨ps,ea,kp⟩,kc,hn,hu,hc,bc,q⟩:=h
  have lp:=kp.length
  have dc:=den_pos c
  refine ⟨_,(pss_cons (ps_set (i:=2) sc_with_worths.nd rfl (Or.inl rfl) (pe_lst (pa_cons (pe_ix ix_tup (pv 1) pe_int (fun _ _ => rfl)) pa_nil)))
      (pss_cons (ps_set (i:=3) sc_with_worths.nd rfl (Or.inr rfl) (pe_ix ix_tup (pv 1) pe_int (fun _ _ => rfl)))
      (pss_cons (ps_for PassesOwn.never rfl (pi_list (pv 0)) (pg_name (i:=4) sc_with_worths.nd rfl (Or.inl rfl))
        (pss_cons (ps_set (i:=2) sc_with_worths.nd rfl (Or.inl rfl) (pe_cl C_whole_times hr (pa_cons (pv 2) (pa_cons (pe_lst (pa_cons (pe_ix ix_tup (pv 4) pe_int (fun _ _ => rfl)) (pa_cons (pe_un un_neg (pe_ix ix_tup (pv 4) pe_int (fun _ _ => rfl))) pa_nil))) pa_nil))))
        (pss_one (ps_set (i:=3) sc_with_worths.nd rfl (Or.inr rfl) (pe_op op_mulB (pv 3) (pe_ix ix_tup (pv 4) pe_int (fun _ _ => rfl)))))))
      (pss_one (ps_ret (pe_comp (N':=["figure","bottom"]) (fsc:=defScope s_with_worths) (N:=["worths","first","figures","bottom","worth"]) [3] ⟨rfl,by decide +kernel,by decide +kernel,by decide +kernel,rfl,by decide +kernel,rfl,by decide +kernel⟩ (pi_list (pv 2)) (fun _ _ _ _ => (pe_clD C_fraction_d0 hr (pa_cons (pv 0) (pa_cons (pv 1) pa_nil)))))))))),?_⟩
  refine ⟨_,rfl,_,_,_,_,rfl,rfl,kc.sq,rfl,(by show 1 ≤ sizeLine; decide),fun f0 hf0 => ?_⟩
  have s0:=same_upd hf0 (.lst [.int c.num])
  have i0 : Iz (upd H f0 (.lst [.int c.num])) f0 [c.num]:=upd_same
  generalize upd H f0 (.lst [.int c.num]) = H0 at *
  have kc0:=kc.keep s0
  refine ⟨_,rfl,_,_,_,_,rfl,rfl,kc0.sq,rfl,?_⟩
  refine ⟨_,rfl,a,rfl,⟨_,SqL.of (s0 _ _ ea)⟩,?_⟩
  refine for_list (xs:=ps.map V.ref) (fun i σ H' => (∃ (fa : Addr) (zs : List Int) (B : Int) (v : Option V),σ = [some (.ref a),some (.ref p),some (.ref fa),some (.int B),v] ∧ Iz H' fa zs ∧ 0 < B ∧ Bt (101 + 100 * i) B ∧ (∀ t,Po.ev (cq zs) t = (B : Rat) * Po.ev (Po.wths [c] (us.take i)) t) ∧ zs.length ≤ i + 1 ∧ ∀ z ∈ zs,Bt (101 + (100 + 6) * i) z) ∧ Same H H')
    ⟨⟨f0,[c.num],c.den,_,rfl,i0,dc,bc.2,fun t => ?_,(by show 1 ≤ 0 + 1; decide),fun z hz => ?_⟩,s0⟩ ?_ ?_ ?_
  · show (c.num : Rat) + t * 0 = ((c.den : Int) : Rat) * (c + t * 0)
    have e:=q_eq c
    have hd:=den_ne c
    have e' : c = (c.num : Rat) / ((c.den : Int) : Rat):=e.symm
    generalize (c.num : Rat) = x at *
    generalize ((c.den : Int) : Rat) = y at *
    rw [e']
    grind
  · rw [List.mem_singleton.mp hz]
    exact bc.1
  · rintro i σ H1 _ ⟨_,sm⟩
    exact SqL.of (sm _ _ ea)
  · rintro i x σ H1 hi ⟨⟨fa,zs,B,v,rfl,iz,hB,bB,ev,lz,bz⟩,sm⟩
    have hlt : i < us.length:=by
      have:=(List.getElem?_eq_some_iff.mp hi).1
      rw [List.length_map] at this
      (first | lia | omega)
    obtain ⟨p1,e1,k1⟩:=kp.get (List.getElem?_eq_getElem hlt)
    obtain rfl : x = .ref p1:=Option.some.inj (hi.symm.trans e1)
    obtain ⟨u0,bu⟩:=hu _ (List.getElem_mem hlt)
    have k1s:=k1.keep sm
    have hnum : 0 < us[i].num:=by
      have h0 : 0 ≤ us[i].num:=Rat.num_nonneg.mpr (Rat.le_of_lt u0)
      have h1 : us[i].num ≠ 0:=fun z => by
        rw [Rat.num_eq_zero.mp z] at u0
        exact absurd u0 (by decide)
      (first | lia | omega)
    refine ⟨_,rfl,_,rfl,_,_,_,_,rfl,rfl,k1s.sq,rfl,_,rfl,_,_,_,_,rfl,rfl,k1s.sq,rfl,_,rfl,(by show 2 ≤ sizeLine; decide),fun m hm => ?_⟩
    have u1:=same_upd hm (.lst [.int us[i].num,.int (-(us[i].den : Int))])
    have im : Iz (upd H1 m (.lst [.int us[i].num,.int (-(us[i].den : Int))])) m [us[i].num,-(us[i].den : Int)]:=upd_same
    generalize upd H1 m (.lst [.int us[i].num,.int (-(us[i].den : Int))]) = H2 at *
    refine ⟨fa,m,zs,[us[i].num,-(us[i].den : Int)],101 + (100 + 6) * i,100,rfl,u1 _ _ iz,im,by (first | lia | omega),(by show 2 ≤ 60; decide),bz,fun n hn => ?_,by (first | lia | omega),fun r zs' H3 s3 n3 iz3 ev3 l3 bz3 => ?_⟩
    · rcases List.mem_cons.mp hn with z | z
      · rw [z]; exact bu.1
      · rw [List.mem_singleton.mp z]; exact bu.2.neg
    have k3:=k1s.keep (u1.trans s3)
    refine ⟨_,rfl,_,rfl,_,_,_,_,rfl,rfl,k3.sq,rfl,_,_,rfl,rfl,mul_of bB bu.1 (by (first | lia | omega)),⟨r,zs',B * us[i].num,_,rfl,iz3,Int.mul_pos hB hnum,?_,fun t => ?_,?_,?_⟩,sm.trans (u1.trans s3)⟩
    · exact (bB.mul bu.1).mono (by (first | lia | omega))
    · rw [ev3,ev,List.take_succ_eq_append_getElem hlt,wths_snoc,Po.ev_mulc,Rat.intCast_mul]
      show _ * ((us[i].num : Rat) + t * (((-(us[i].den : Int) : Int) : Rat) + t * 0)) = _
      have e:=q_eq us[i]
      have hd:=den_ne us[i]
      have e' : us[i] = (us[i].num : Rat) / ((us[i].den : Int) : Rat):=e.symm
      have hn' : (us[i].num : Rat) ≠ 0:=fun z => Int.ne_of_gt hnum (Rat.intCast_eq_zero_iff.mp z)
      rw [Rat.intCast_neg]
      generalize Po.ev (Po.wths [c] (us.take i)) t = y at *
      generalize (us[i].num : Rat) = m1 at *
      generalize ((us[i].den : Int) : Rat) = m2 at *
      generalize (B : Rat) = b at *
      generalize us[i] = uu at *
      subst e'
      grind
    · have : ([us[i].num,-(us[i].den : Int)] : List Int).length = 2:=rfl
      (first | lia | omega)
    · exact fun z hz => (bz3 z hz).mono (by (first | lia | omega))
  · rintro σ H1 ⟨⟨fa,zs,B,v,rfl,iz,hB,bB,ev,lz,bz⟩,sm⟩
    rw [List.length_map,lp] at ev lz bB bz
    rw [List.take_length] at ev
    have nB : (B : Rat) ≠ 0:=fun z => Int.ne_of_gt hB (Rat.intCast_eq_zero_iff.mp z)
    refine ⟨_,rfl,fa,rfl,⟨_,SqL.of iz⟩,comp_intsQ (ns:=zs) (by (first | lia | omega)) iz (fun z => (z : Rat) / (B : Rat)) ?_ fun H2 D2 s2 nD2 rD2 => q D2 H2 (sm.trans s2) (sm.free nD2) ?_⟩
    · intro _ _ _ _ z H2 R' hz s2 fin
      exact ⟨_,rfl,_,rfl,z,B,rfl,Int.ne_of_gt hB,bB.mono (by (first | lia | omega)),fun r H3 s3 k3 => fin r H3 s3 k3⟩
    · have ge : ∀ i,(zs.map fun (z : Int) => (z : Rat) / (B : Rat)).getD i 0 = (Po.wths [c] us).getD i 0:=fun i => by
        refine Po.ev_inj (fun t => ?_) i
        have e2 : (zs.map fun (z : Int) => (z : Rat) / (B : Rat)) = (cq zs).map (· * (B : Rat)⁻¹):=by
          unfold cq
          rw [List.map_map]
          rfl
        rw [e2,Po.ev_map_mul,ev t]
        have:=Rat.mul_inv_cancel _ nB
        generalize (B : Rat)⁻¹ = k at *
        grind
      have lw : (Po.wths [c] us).length = us.length + 1:=by rw [Po.len_wths,List.length_singleton]; (first | lia | omega)
      have top:=Po.lst_wths us [c] (by simp) (fun u h => (hu u h).1) 1 (by show (0 : Rat) < 1 * c; grind)
      rw [Po.lst_at lw] at top
      have lz2 : zs.length = us.length + 1:=by
        by_cases z : us.length < zs.length
        · (first | lia | omega)
        · exfalso
          have:=ge us.length
          rw [Po.getD_out (by rw [List.length_map]; (first | lia | omega))] at this
          rw [← this] at top
          grind
      have el : (zs.map fun (z : Int) => (z : Rat) / (B : Rat)) = Po.wths [c] us:=Po.list_ext (by rw [List.length_map,lz2,lw]) fun i _ => ge i
      rw [← el]
      exact rD2
theorem du_len (gs ws : List Rat) : (duQ gs ws).length = 2 * ws.length + 1:=by unfold duQ; rw [List.length_map,List.length_range]
theorem new_cordW {C : Addr} {H : Hp} {a b : Addr} {gs ws : List Rat} {R : Hp→Prop} {E : XK} {x dx : Addr} (nx : H x = none) (ndx : H dx = none) (ra : Rw H a gs) (rb : Rw H b ws) (fine : Fine0 gs ws)
    (q : ∀ ga wa H',Same H H'→H ga = none→H wa = none→Co C H' x ga wa gs ws→R H') :
    sp_init0 C (.ref x :: ([.ref a,.ref b] ++ [])) (upd (upd H dx (.own x)) x (.ins C dx [])) (fun v H' => v = .non ∧ R H') E:=by
  have s3 : Same H (upd (upd H dx (.own x)) x (.ins C dx [])):=fun b o e => by
    rw [upd_ne (ne_of_none e nx),upd_ne (ne_of_none e ndx)]
    exact e
  exact ⟨x,a,b,gs,ws,dx,rfl,upd_same,ra.keep s3,rb.keep s3,fine,fun ga' wa' H' kp n1 n2 co => ⟨rfl,q ga' wa' H' (fun b o z => kp b o (ne_of_none z nx) (s3 _ _ z)) (s3.free n1) (s3.free n2) co⟩⟩
theorem ev2_getD : ∀ (l : List Rat) (i : Nat),(L3.ev2 l).getD i 0 = l.getD (2 * i) 0
  | [],i => by cases i <;> rfl
  | [x],i => by
    cases i with
    | zero => rfl
    | succ i =>
      rw [Po.getD_out (xs:=L3.ev2 [x]) (by show 1 ≤ i + 1; (first | lia | omega)),Po.getD_out (xs:=[x]) (by show 1 ≤ _; (first | lia | omega))]
  | x :: y :: l,i => by
    cases i with
    | zero => rfl
    | succ i =>
      show (L3.ev2 l).getD i 0 = _
      rw [ev2_getD l i,show 2 * (i + 1) = 2 * i + 1 + 1 by (first | lia | omega)]
      rfl
theorem rev_getD {l : List Rat} {i : Nat} (h : i < l.length) : l.reverse.getD i 0 = l.getD (l.length - 1 - i) 0:=by
  rw [List.getD_eq_getElem?_getD,List.getElem?_reverse h,← List.getD_eq_getElem?_getD]
theorem duQ_getD {gs ws : List Rat} {p : Nat} (h : p < 2 * ws.length + 1) : (duQ gs ws).getD p 0 = Po.duP gs ws p:=by
  unfold duQ
  rw [Po.getD_range,if_pos h]
theorem du_gaps {gs ws : List Rat} (hlen : gs.length = ws.length + 1) : L3.ev2 ((duQ gs ws).reverse.drop 0) = gs:=by
  have l:=du_len gs ws
  rw [List.drop_zero]
  refine Po.list_ext (by rw [L3.ev2_length,List.length_reverse]; (first | lia | omega)) fun i hi => ?_
  rw [ev2_getD,rev_getD (by (first | lia | omega)),l,duQ_getD (by (first | lia | omega))]
  unfold Po.duP
  rw [if_pos (by (first | lia | omega)),show ws.length - (2 * ws.length + 1 - 1 - 2 * i) / 2 = i by (first | lia | omega)]
theorem du_weights {gs ws : List Rat} (hlen : gs.length = ws.length + 1) : L3.ev2 ((duQ gs ws).reverse.drop 1) = ws:=by
  have l:=du_len gs ws
  refine Po.list_ext (by rw [L3.ev2_length,List.length_drop,List.length_reverse]; (first | lia | omega)) fun i hi => ?_
  rw [ev2_getD,List.getD_eq_getElem?_getD,List.getElem?_drop,← List.getD_eq_getElem?_getD,rev_getD (by (first | lia | omega)),l,duQ_getD (by (first | lia | omega))]
  unfold Po.duP
  rw [if_neg (by (first | lia | omega)),show ws.length - (2 * ws.length + 1 - 1 - (1 + 2 * i)) / 2 - 1 = i by (first | lia | omega)]
theorem Pqs.rev2 {H : Hp} {ps : List Addr} {qs : List Rat} (h : Pqs H ps qs) : Pqs H (L3.ev2 ps) (L3.ev2 qs):=by
  match ps,qs,h with
  | _,_,.nil => exact .nil
  | _,_,.cons a .nil => exact .cons a .nil
  | _,_,.cons a (.cons _ r) => exact .cons a (Pqs.rev2 r)
noncomputable def sp_cwO (C : Addr) : Sp:=fun vs H Q _ => ∃ (u l : Addr) (gs ws : List Rat),vs = [.ref u,.ref l] ∧ Rw H u (Po.hdp gs ws ws.length) ∧ Rw H l (Po.lsp gs ws ws.length) ∧ Fine0 gs ws ∧ (∀ q ∈ Po.hdp gs ws ws.length,Bq 1300 q) ∧ (∀ q ∈ Po.lsp gs ws ws.length,Bq 1300 q) ∧ (∀ p,p < 2 * ws.length + 1→OvM (Po.PA gs ws p) ∧ OvM (Po.PB gs ws p)) ∧
  ∀ r g w H',Same H H'→H r = none→H g = none→H w = none→Co C H' r g w gs ws→Q (.ref r) H'
theorem sc_cord_with : FnScope ["upper","lower","told","steps"] ["upper","lower"] (defScope s_cord_with):=⟨rfl,rfl,rfl,by decide +kernel,rfl,by decide +kernel,by decide +kernel⟩
theorem ok_cord_with (F : Fun K "cord_with" "cord_with" s_cord_with f fd) (T : Txt mg) (C_ladder : Cal P w K mg base "ladder" 5 ["upper","lower"] sp_ladderO) (C_Cord_init : CalC P w K mg base "Cord" o_Cord 4 ["self","gaps","weights"] (sp_init0 o_Cord)) : FnOk P w K mg base CX0 6 f fd ["upper","lower"] (sp_cwO o_Cord):=by
  refine F.ok sc_cord_with (fun vs H Q E h => ?_) (fun cdv A outer s H vs Q E hr h => ?_)
  · obtain ⟨u,l,gs,ws,rfl,_⟩:=h
    rfl
  obtain ⟨u,l,gs,ws,rfl,ru,rl,fi,bqA,bqB,ov,q⟩:=h
  have hlen:=fi.len
  refine ⟨_,(pss_cons (ps_set (i:=2) sc_cord_with.nd rfl (Or.inl rfl) (pe_cl C_ladder hr (pa_cons (pv 0) (pa_cons (pv 1) pa_nil))))
      (pss_cons (ps_if (pt_cmpR op_notN (pe_ix ix_tup (pv 2) pe_int (fun _ _ => rfl)) pe_non (nomark _))
        (pss_one ps_never)
        pss_nil)
      (pss_cons (ps_set (i:=3) sc_cord_with.nd rfl (Or.inl rfl) (pe_listrev rfl T.z_list rfl T.z_reversed (pa_cons (pe_ix ix_tup (pv 2) pe_int (fun _ _ => rfl)) pa_nil)))
      (pss_one (ps_ret (pe_mk C_Cord_init hr (pa_cons (pe_step2 (pv 3) po_none pe_int) (pa_cons (pe_step2 (pv 3) (po_some pe_int) pe_int) pa_nil)))))))),?_⟩
  refine ⟨_,rfl,_,rfl,u,l,gs,ws,rfl,ru,rl,hlen,fi.most,fi.pos.1,fi.pos.2,bqA,bqB,ov,fun r lq H1 s1 er nlq rq => ?_⟩
  refine ⟨_,rfl,r,_,_,_,rfl,rfl,SqT.of er,rfl,rfl,_,rfl,iteNS rfl ?_⟩
  obtain ⟨pq,eq,kq⟩:=rq
  refine ⟨_,rfl,r,_,_,_,rfl,rfl,SqT.of er,rfl,lq,_,rfl,SqL.of eq,fun m1 hm1 => ?_⟩
  have u1:=same_upd hm1 (.lst (pq.map V.ref).reverse)
  have e1 : (upd H1 m1 (.lst (pq.map V.ref).reverse)) m1 = some (.lst (pq.reverse.map V.ref)):=by rw [upd_same,List.map_reverse]
  have k1:=Pqs.reverse (kq.keep u1)
  have s2:=s1.trans u1
  clear u1 hm1 eq er
  generalize upd H1 m1 (.lst (pq.map V.ref).reverse) = H2 at *
  refine ⟨_,rfl,m1,_,0,rfl,rfl,.inl ⟨rfl,rfl⟩,SqL.of e1,fun m2 hm2 => ?_⟩
  have u2:=same_upd hm2 (.lst (L3.ev2 ((pq.reverse.map V.ref).drop 0)))
  refine ⟨_,rfl,_,rfl,m1,_,1,rfl,rfl,.inr rfl,SqL.of (u2 _ _ e1),fun m3 hm3 => ?_⟩
  have u3:=same_upd hm3 (.lst (L3.ev2 ((pq.reverse.map V.ref).drop 1)))
  have u23:=u2.trans u3
  have t2 : Rw (upd (upd H2 m2 (.lst (L3.ev2 ((pq.reverse.map V.ref).drop 0)))) m3 (.lst (L3.ev2 ((pq.reverse.map V.ref).drop 1)))) m2 gs:=by
    rw [← du_gaps hlen]
    exact ⟨L3.ev2 (pq.reverse.drop 0),by rw [u3 _ _ upd_same,L3.ev2_map,List.map_drop],Pqs.keep (Pqs.rev2 (Pqs.drop 0 k1)) u23⟩
  have t3 : Rw (upd (upd H2 m2 (.lst (L3.ev2 ((pq.reverse.map V.ref).drop 0)))) m3 (.lst (L3.ev2 ((pq.reverse.map V.ref).drop 1)))) m3 ws:=by
    have z : Rw (upd (upd H2 m2 (.lst (L3.ev2 ((pq.reverse.map V.ref).drop 0)))) m3 (.lst (L3.ev2 ((pq.reverse.map V.ref).drop 1)))) m3 (L3.ev2 ((duQ gs ws).reverse.drop 1)):=⟨L3.ev2 (pq.reverse.drop 1),by rw [upd_same,L3.ev2_map,List.map_drop],Pqs.keep (Pqs.rev2 (Pqs.drop 1 k1)) u23⟩
    rw [du_weights hlen] at z
    exact z
  have s3:=s2.trans u23
  clear u2 u3 u23 hm2 hm3
  generalize upd (upd H2 m2 (.lst (L3.ev2 ((pq.reverse.map V.ref).drop 0)))) m3 (.lst (L3.ev2 ((pq.reverse.map V.ref).drop 1))) = H3 at *
  intro x dx2 nx ndx _
  exact new_cordW nx ndx t2 t3 fi fun g w H' s' ng nw co' => q x g w H' (s3.trans s') (s3.free nx) (s3.free ng) (s3.free nw) co'
noncomputable def sp_cordof (C : Addr) : Sp:=fun vs H Q _ => ∃ ha la p us ls c gs ws,vs = [.ref ha,.ref la,.ref p] ∧ Rw H ha us ∧ Rw H la ls ∧ Pq H p c ∧ Po.Turns 0 ls us ∧ 0 < c ∧ ls.length ≤ 4 ∧ (∀ q ∈ ls,Bq 13 q) ∧ (∀ q ∈ us,Bq 13 q) ∧ Bq 100 c ∧ Po.Fnd c ls us gs ws ∧
  ∀ r g w H',Same H H'→H r = none→H g = none→H w = none→Co C H' r g w gs ws→Q (.ref r) H'
theorem Rw.cat {H : Hp} {p : Addr} {ps rs : List Addr} {qs ts : List Rat} (kp : Pqs H ps qs) (kr : Pqs H rs ts) (hp : H p = none) : Rw (upd H p (.lst (ps.map V.ref ++ rs.map V.ref))) p (qs ++ ts) :=
  ⟨ps ++ rs,by rw [upd_same,List.map_append],(kp.append kr).keep (same_upd hp _)⟩
noncomputable def sp_overN : Sp:=fun vs H Q _ => ∃ p q x y,vs = [.ref p,.ref q] ∧ Pq H p x ∧ Pq H q y ∧ y ≠ 0 ∧ Bq 7000 x ∧ Bq 7000 y ∧ ∀ r H',Same H H'→Pq H' r (x / y)→Q (.ref r) H'
theorem sc_over : FnScope ["one","other"] ["one","other"] (defScope s_over):=⟨rfl,rfl,rfl,by decide +kernel,rfl,by decide +kernel,by decide +kernel⟩
theorem ok_over (F : Fun K "over" "over" s_over f fd) (T : Txt mg) (C_times : Cal P w K mg base "times" 2 ["one","other"] (sp_bin 8000 (· * ·))) (C_fraction_d0 : CalD P w K mg base "fraction" 2 ["top","bottom"] [] [] sp_fracN) : FnOk P w K mg base CX0 3 f fd ["one","other"] sp_overN:=by
  refine F.ok sc_over (fun vs H Q E h => ?_) (fun cdv A outer s H vs Q E hr h => ?_)
  · obtain ⟨p,p',x,y,rfl,_⟩:=h
    rfl
  obtain ⟨p,p',x,y,rfl,kp,kq,hy,bx,by',q⟩:=h
  have hn : y.num ≠ 0:=fun z => hy (Rat.num_eq_zero.mp z)
  have e:=q_eq y
  have n1:=den_ne y
  have n2 : (y.num : Rat) ≠ 0:=fun z => hn (Rat.intCast_eq_zero_iff.mp z)
  have ed : x * ((((y.den : Int)) : Rat) / (y.num : Rat)) = x / y:=by
    have e' : y = (y.num : Rat) / ((y.den : Int) : Rat):=e.symm
    generalize (y.num : Rat) = u at *
    generalize ((y.den : Int) : Rat) = v at *
    rw [e']
    grind
  refine ⟨_,(pss_cons (ps_if (pt_cmpR op_eq (pe_ix ix_tup (pv 1) pe_int (fun _ _ => rfl)) pe_int (nomark _))
        (pss_one ps_never)
        pss_nil)
      (pss_one (ps_ret (pe_cl C_times hr (pa_cons (pv 0) (pa_cons (pe_clD C_fraction_d0 hr (pa_cons (pe_ix ix_tup (pv 1) pe_int (fun _ _ => rfl)) (pa_cons (pe_ix ix_tup (pv 1) pe_int (fun _ _ => rfl)) pa_nil))) pa_nil)))))),?_⟩
  refine ⟨_,rfl,_,_,_,_,rfl,rfl,kq.sq,rfl,rfl,_,rfl,iteND (fun z => hn (V.int.inj z)) ?_⟩
  refine ⟨_,rfl,_,rfl,_,_,_,_,rfl,rfl,kq.sq,rfl,_,rfl,_,_,_,_,rfl,rfl,kq.sq,rfl,y.den,y.num,rfl,hn,by'.1.mono (by decide),fun r1 H1 s1 k1 => ?_⟩
  refine ⟨p,r1,_,_,rfl,kp.keep s1,k1,bx.mono (by decide),bq_of (T:=y.den) (M:=y.num) hn rfl (by'.2.mono (by decide)) (by'.1.mono (by decide)),fun r H2 s2 k2 => q r H2 (s1.trans s2) ?_⟩
  rw [← ed]
  exact k2
noncomputable def sp_eag (C : Addr) : Sp:=fun vs H Q _ => ∃ c ga wa gs ws,vs = [.ref c] ∧ Co C H c ga wa gs ws ∧ gs.length = ws.length + 1 ∧ ws.length ≤ 6 ∧ (∀ q ∈ gs,Bq 7000 q) ∧ Fine0 (Po.mirG gs) (ws ++ ws.reverse) ∧ ∀ r g w H',Same H H'→H r = none→H g = none→H w = none→Co C H' r g w (Po.mirG gs) (ws ++ ws.reverse)→Q (.ref r) H'
theorem sc_even_about_gap : FnScope ["half","gaps","weights","middle"] ["half"] (defScope s_even_about_gap):=⟨rfl,rfl,rfl,by decide +kernel,rfl,by decide +kernel,by decide +kernel⟩
set_option maxHeartbeats 2000000 in
theorem ok_even_about_gap (F : Fun K "even_about_gap" "even_about_gap" s_even_about_gap f fd) (T : Txt mg) (C_times : Cal P w K mg base "times" 2 ["one","other"] (sp_bin 8000 (· * ·))) (C_Cord_gaps : CalM P w K mg base o_Cord "gaps" 1 ["self"] (sp_gaps o_Cord)) (C_Cord_weights : CalM P w K mg base o_Cord "weights" 1 ["self"] (sp_weights o_Cord)) (C_Cord_init : CalC P w K mg base "Cord" o_Cord 4 ["self","gaps","weights"] (sp_init0 o_Cord)) : FnOk P w K mg base CX0 6 f fd ["half"] (sp_eag o_Cord):=by
  refine F.ok sc_even_about_gap (fun vs H Q E h => ?_) (fun cdv A outer s H vs Q E hr h => ?_)
  · obtain ⟨c,ga,wa,gs,ws,rfl,_⟩:=h
    rfl
  obtain ⟨c,ga,wa,gs,ws,rfl,co,lg,l6,bg,fine,q⟩:=h
  have hz : (1000 : Nat) < sizeLine:=by decide
  obtain ⟨dx,ec⟩:=co.1
  refine ⟨_,(pss_cons (ps_set (i:=1) sc_even_about_gap.nd rfl (Or.inl rfl) (pe_m0 C_Cord_gaps hr (pv 0)))
      (pss_cons (ps_set (i:=2) sc_even_about_gap.nd rfl (Or.inl rfl) (pe_m0 C_Cord_weights hr (pv 0)))
      (pss_cons (ps_set (i:=3) sc_even_about_gap.nd rfl (Or.inl rfl) (pe_cl C_times hr (pa_cons (pe_bm0 PySem.F.plainAttrs_list PySem.F.slot_list_pop PySem.F.type_list_pop mt_pop (pv 1)) (pa_cons (pe_tup (pa_cons pe_int (pa_cons pe_int pa_nil))) pa_nil))))
      (pss_one (ps_ret (pe_mk C_Cord_init hr (pa_cons (pe_op op_cat (pe_op op_cat (pv 1) (pe_lst (pa_cons (pv 3) pa_nil))) (pe_listrev rfl T.z_list rfl T.z_reversed (pa_cons (pv 1) pa_nil))) (pa_cons (pe_op op_cat (pv 2) (pe_listrev rfl T.z_list rfl T.z_reversed (pa_cons (pv 2) pa_nil))) pa_nil)))))))),?_⟩
  refine ⟨_,rfl,c,dx,_,rfl,ec,rfl,c,ga,wa,gs,ws,rfl,co,fun g1 H1 s1 n1 rg1 => ?_⟩
  refine ⟨_,rfl,c,dx,_,rfl,s1 _ _ ec,rfl,c,ga,wa,gs,ws,rfl,co.keep s1,fun w1 H2 s2 n2 rw2 => ?_⟩
  have s12:=s1.trans s2
  obtain ⟨pg,eg,kg⟩:=rg1.keep s2
  have lp:=kg.length
  have hl : gs.length - 1 < gs.length:=by (first | lia | omega)
  obtain ⟨y,ey,ky⟩:=kg.get (List.getElem?_eq_getElem hl)
  have nw : g1 ≠ w1:=by
    obtain ⟨_,e1,_⟩:=rg1
    exact ne_of_none e1 n2
  refine ⟨_,rfl,.inl ⟨rfl,_,SqL.of eg⟩,g1,_,.ref y,rfl,rfl,eg,?_,?_⟩
  · rw [List.length_map,lp]
    exact ey
  have s3 : Same H (upd H2 g1 (.lst (pg.map V.ref).dropLast)):=same_updF s12 n1 _
  have ed : (pg.map V.ref).dropLast = (pg.take (gs.length - 1)).map V.ref:=by
    rw [List.dropLast_eq_take,List.length_map,lp,List.map_take]
  have eg3 : upd H2 g1 (.lst (pg.map V.ref).dropLast) g1 = some (.lst ((pg.take (gs.length - 1)).map V.ref)):=by rw [upd_same,ed]
  have kg3 : Pqs (upd H2 g1 (.lst (pg.map V.ref).dropLast)) (pg.take (gs.length - 1)) (gs.take (gs.length - 1)):=Pqs.take _ (kg.updL eg)
  have ky3 : Pq (upd H2 g1 (.lst (pg.map V.ref).dropLast)) y gs[gs.length - 1]:=ky.updL eg
  have rw3 : Rw (upd H2 g1 (.lst (pg.map V.ref).dropLast)) w1 ws:=rw2.updO eg (Ne.symm nw)
  clear eg kg ky rw2
  generalize upd H2 g1 (.lst (pg.map V.ref).dropLast) = H3 at *
  refine ⟨(by show 2 ≤ sizeLine; decide),fun z hz' => ?_⟩
  have u4:=same_upd hz' (.tup [.int 2,.int 1])
  have kz : Pq (upd H3 z (.tup [.int 2,.int 1])) z 2:=Pq.of Pr.new ⟨rfl,rfl⟩
  generalize upd H3 z (.tup [.int 2,.int 1]) = H4 at *
  refine ⟨y,z,_,_,rfl,ky3.keep u4,kz,(bg _ (List.getElem_mem hl)).mono (by decide),(show Bq 2 (2 : Rat) by unfold Bq Bt; decide +kernel).mono (by decide),fun md H5 s5 km => ?_⟩
  have u45:=u4.trans s5
  have s05:=s3.trans u45
  have eg5:=u45 _ _ eg3
  have kg5:=kg3.keep u45
  have rw5:=rw3.keep u45
  clear eg3 kg3 rw3 u4 s5 u45 s3 kz ky3
  refine ⟨_,rfl,_,rfl,(by show 1 ≤ sizeLine; decide),fun m1 hm1 => ?_⟩
  have v1:=same_upd hm1 (.lst [.ref md])
  refine ⟨g1,m1,_,_,rfl,rfl,v1 _ _ eg5,upd_same,by simp only [List.length_map,List.length_cons,List.length_nil,List.length_take]; (first | lia | omega),fun m2 hm2 => ?_⟩
  have t2:=Rw.cat (rs:=[md]) (kg5.keep v1) (.cons (km.keep v1) .nil) hm2
  have v2:=same_upd hm2 (.lst ((pg.take (gs.length - 1)).map V.ref ++ [.ref md]))
  have v12:=v1.trans v2
  have t2' : Rw (upd (upd H5 m1 (.lst [.ref md])) m2 (.lst ((pg.take (gs.length - 1)).map V.ref ++ [.ref md]))) m2 (gs.take (gs.length - 1) ++ [gs.getD (gs.length - 1) 0 * 2]):=by
    rw [Po.getD_in hl]
    exact t2
  have eg6:=v12 _ _ eg5
  have kg6:=kg5.keep v12
  have rw6:=rw5.keep v12
  have s06:=s05.trans v12
  clear t2 v1 v2 v12 eg5 kg5 rw5 s05 hm1 hm2 km
  generalize upd (upd H5 m1 (.lst [.ref md])) m2 (.lst ((pg.take (gs.length - 1)).map V.ref ++ [.ref md])) = H6 at *
  refine ⟨_,rfl,g1,_,rfl,SqL.of eg6,fun m3 hm3 => ?_⟩
  have v3:=same_upd hm3 (.lst ((pg.take (gs.length - 1)).map V.ref).reverse)
  have e3 : (upd H6 m3 (.lst ((pg.take (gs.length - 1)).map V.ref).reverse)) m3 = some (.lst ((pg.take (gs.length - 1)).reverse.map V.ref)):=by rw [upd_same,List.map_reverse]
  have k3:=Pqs.reverse (kg6.keep v3)
  obtain ⟨q2,f2,j2⟩:=t2'.keep v3
  have lq2:=j2.length
  rw [List.length_append,List.length_take,List.length_singleton] at lq2
  refine ⟨m2,m3,_,_,rfl,rfl,f2,e3,by rw [List.length_map,List.length_map,List.length_reverse,List.length_take]; (first | lia | omega),fun m4 hm4 => ?_⟩
  have v4:=same_upd hm4 (.lst (q2.map V.ref ++ (pg.take (gs.length - 1)).reverse.map V.ref))
  have t4 : Rw (upd (upd H6 m3 (.lst ((pg.take (gs.length - 1)).map V.ref).reverse)) m4 (.lst (q2.map V.ref ++ (pg.take (gs.length - 1)).reverse.map V.ref))) m4 (Po.mirG gs):=Rw.cat j2 k3 hm4
  have v34:=v3.trans v4
  obtain ⟨pw,ew,kw⟩:=rw6.keep v34
  have s07:=s06.trans v34
  have lw:=kw.length
  clear v3 v4 v34 e3 k3 f2 j2 hm3 hm4 eg6 kg6 rw6 t2' s06
  generalize upd (upd H6 m3 (.lst ((pg.take (gs.length - 1)).map V.ref).reverse)) m4 (.lst (q2.map V.ref ++ (pg.take (gs.length - 1)).reverse.map V.ref)) = H7 at *
  refine ⟨_,rfl,_,rfl,w1,_,rfl,SqL.of ew,fun m5 hm5 => ?_⟩
  have v5:=same_upd hm5 (.lst (pw.map V.ref).reverse)
  have e5 : (upd H7 m5 (.lst (pw.map V.ref).reverse)) m5 = some (.lst (pw.reverse.map V.ref)):=by rw [upd_same,List.map_reverse]
  have k5:=Pqs.reverse (kw.keep v5)
  refine ⟨w1,m5,_,_,rfl,rfl,v5 _ _ ew,e5,by rw [List.length_map,List.length_map,List.length_reverse]; (first | lia | omega),fun m6 hm6 => ?_⟩
  have v6:=same_upd hm6 (.lst (pw.map V.ref ++ pw.reverse.map V.ref))
  have t6 : Rw (upd (upd H7 m5 (.lst (pw.map V.ref).reverse)) m6 (.lst (pw.map V.ref ++ pw.reverse.map V.ref))) m6 (ws ++ ws.reverse):=Rw.cat (kw.keep v5) k5 hm6
  have t4':=t4.keep (v5.trans v6)
  have s08:=s07.trans (v5.trans v6)
  clear v5 v6 e5 k5 hm5 hm6 ew kw t4 s07
  generalize upd (upd H7 m5 (.lst (pw.map V.ref).reverse)) m6 (.lst (pw.map V.ref ++ pw.reverse.map V.ref)) = H8 at *
  intro x dx2 nx ndx _
  exact new_cordW nx ndx t4' t6 fine fun g w H' s' ng nw co' => q x g w H' (s08.trans s') (s08.free nx) (s08.free ng) (s08.free nw) co'
noncomputable def sp_eab (C : Addr) : Sp:=fun vs H Q _ => ∃ c ga wa p gs ws x,vs = [.ref c,.ref p] ∧ Co C H c ga wa gs ws ∧ Pq H p x ∧ gs.length = ws.length + 1 ∧ ws.length ≤ 6 ∧ Fine0 (gs ++ gs.reverse) (ws ++ [x] ++ ws.reverse) ∧ ∀ r g w H',Same H H'→H r = none→H g = none→H w = none→Co C H' r g w (gs ++ gs.reverse) (ws ++ [x] ++ ws.reverse)→Q (.ref r) H'
theorem sc_even_about_bead : FnScope ["half","middle","gaps","weights"] ["half","middle"] (defScope s_even_about_bead):=⟨rfl,rfl,rfl,by decide +kernel,rfl,by decide +kernel,by decide +kernel⟩
set_option maxHeartbeats 2000000 in
theorem ok_even_about_bead (F : Fun K "even_about_bead" "even_about_bead" s_even_about_bead f fd) (T : Txt mg) (C_Cord_gaps : CalM P w K mg base o_Cord "gaps" 1 ["self"] (sp_gaps o_Cord)) (C_Cord_weights : CalM P w K mg base o_Cord "weights" 1 ["self"] (sp_weights o_Cord)) (C_Cord_init : CalC P w K mg base "Cord" o_Cord 4 ["self","gaps","weights"] (sp_init0 o_Cord)) : FnOk P w K mg base CX0 6 f fd ["half","middle"] (sp_eab o_Cord):=by
  refine F.ok sc_even_about_bead (fun vs H Q E h => ?_) (fun cdv A outer s H vs Q E hr h => ?_)
  · obtain ⟨c,ga,wa,p,gs,ws,x,rfl,_⟩:=h
    rfl
  obtain ⟨c,ga,wa,p,gs,ws,x,rfl,co,kp,lg,l6,fine,q⟩:=h
  have hz : (1000 : Nat) < sizeLine:=by decide
  obtain ⟨dx,ec⟩:=co.1
  refine ⟨_,(pss_cons (ps_set (i:=2) sc_even_about_bead.nd rfl (Or.inl rfl) (pe_m0 C_Cord_gaps hr (pv 0)))
      (pss_cons (ps_set (i:=3) sc_even_about_bead.nd rfl (Or.inl rfl) (pe_m0 C_Cord_weights hr (pv 0)))
      (pss_one (ps_ret (pe_mk C_Cord_init hr (pa_cons (pe_op op_cat (pv 2) (pe_listrev rfl T.z_list rfl T.z_reversed (pa_cons (pv 2) pa_nil))) (pa_cons (pe_op op_cat (pe_op op_cat (pv 3) (pe_lst (pa_cons (pv 1) pa_nil))) (pe_listrev rfl T.z_list rfl T.z_reversed (pa_cons (pv 3) pa_nil))) pa_nil))))))),?_⟩
  refine ⟨_,rfl,c,dx,_,rfl,ec,rfl,c,ga,wa,gs,ws,rfl,co,fun g1 H1 s1 n1 rg1 => ?_⟩
  refine ⟨_,rfl,c,dx,_,rfl,s1 _ _ ec,rfl,c,ga,wa,gs,ws,rfl,co.keep s1,fun w1 H2 s2 n2 rw2 => ?_⟩
  have s12:=s1.trans s2
  obtain ⟨pg,eg,kg⟩:=rg1.keep s2
  have lp:=kg.length
  have kp2:=kp.keep s12
  refine ⟨_,rfl,_,rfl,g1,_,rfl,SqL.of eg,fun m1 hm1 => ?_⟩
  have v1:=same_upd hm1 (.lst (pg.map V.ref).reverse)
  have e1 : (upd H2 m1 (.lst (pg.map V.ref).reverse)) m1 = some (.lst (pg.reverse.map V.ref)):=by rw [upd_same,List.map_reverse]
  have k1:=Pqs.reverse (kg.keep v1)
  refine ⟨g1,m1,_,_,rfl,rfl,v1 _ _ eg,e1,by rw [List.length_map,List.length_map,List.length_reverse]; (first | lia | omega),fun m2 hm2 => ?_⟩
  have v2:=same_upd hm2 (.lst (pg.map V.ref ++ pg.reverse.map V.ref))
  have t2 : Rw (upd (upd H2 m1 (.lst (pg.map V.ref).reverse)) m2 (.lst (pg.map V.ref ++ pg.reverse.map V.ref))) m2 (gs ++ gs.reverse):=Rw.cat (kg.keep v1) k1 hm2
  have v12:=v1.trans v2
  obtain ⟨pw,ew,kw⟩:=rw2.keep v12
  have lw:=kw.length
  have kp3:=kp2.keep v12
  have s03:=s12.trans v12
  clear v1 v2 v12 e1 k1 hm1 hm2 eg kg rw2 kp2
  generalize upd (upd H2 m1 (.lst (pg.map V.ref).reverse)) m2 (.lst (pg.map V.ref ++ pg.reverse.map V.ref)) = H3 at *
  refine ⟨_,rfl,_,rfl,(by show 1 ≤ sizeLine; decide),fun m3 hm3 => ?_⟩
  have v3:=same_upd hm3 (.lst [.ref p])
  refine ⟨w1,m3,_,_,rfl,rfl,v3 _ _ ew,upd_same,by simp only [List.length_map,List.length_cons,List.length_nil]; (first | lia | omega),fun m4 hm4 => ?_⟩
  have v4:=same_upd hm4 (.lst (pw.map V.ref ++ [.ref p]))
  have t4 : Rw (upd (upd H3 m3 (.lst [.ref p])) m4 (.lst (pw.map V.ref ++ [.ref p]))) m4 (ws ++ [x]):=Rw.cat (rs:=[p]) (kw.keep v3) (.cons (kp3.keep v3) .nil) hm4
  have v34:=v3.trans v4
  have ew5:=v34 _ _ ew
  have kw5:=kw.keep v34
  have t2':=t2.keep v34
  have s05:=s03.trans v34
  clear v3 v4 v34 hm3 hm4 ew kw t2 s03
  generalize upd (upd H3 m3 (.lst [.ref p])) m4 (.lst (pw.map V.ref ++ [.ref p])) = H5 at *
  refine ⟨_,rfl,w1,_,rfl,SqL.of ew5,fun m5 hm5 => ?_⟩
  have v5:=same_upd hm5 (.lst (pw.map V.ref).reverse)
  have e5 : (upd H5 m5 (.lst (pw.map V.ref).reverse)) m5 = some (.lst (pw.reverse.map V.ref)):=by rw [upd_same,List.map_reverse]
  have k5:=Pqs.reverse (kw5.keep v5)
  obtain ⟨q4,f4,j4⟩:=t4.keep v5
  have lq4:=j4.length
  rw [List.length_append,List.length_singleton] at lq4
  refine ⟨m4,m5,_,_,rfl,rfl,f4,e5,by rw [List.length_map,List.length_map,List.length_reverse]; (first | lia | omega),fun m6 hm6 => ?_⟩
  have v6:=same_upd hm6 (.lst (q4.map V.ref ++ pw.reverse.map V.ref))
  have t6 : Rw (upd (upd H5 m5 (.lst (pw.map V.ref).reverse)) m6 (.lst (q4.map V.ref ++ pw.reverse.map V.ref))) m6 (ws ++ [x] ++ ws.reverse):=Rw.cat j4 k5 hm6
  have t2'':=t2'.keep (v5.trans v6)
  have s08:=s05.trans (v5.trans v6)
  clear v5 v6 e5 k5 hm5 hm6 ew5 kw5 t4 s05
  generalize upd (upd H5 m5 (.lst (pw.map V.ref).reverse)) m6 (.lst (q4.map V.ref ++ pw.reverse.map V.ref)) = H8 at *
  intro x' dx2 nx ndx _
  exact new_cordW nx ndx t2'' t6 fine fun g w H' s' ng nw co' => q x' g w H' (s08.trans s') (s08.free nx) (s08.free ng) (s08.free nw) co'
theorem ev2_cons (y : Rat) (r : List Rat) : L3.ev2 (y :: r) = y :: L3.ev2 (r.drop 1):=by
  cases r with
  | nil => rfl
  | cons x r => rfl
theorem turns_of : ∀ (m : Nat) {qs : List Rat} {a : Rat},qs.length = 2 * m→risB a qs = true→Po.Turns a (L3.ev2 (qs.drop 0)) (L3.ev2 (qs.drop 1))
  | 0,qs,a,h,_ => by
    rw [List.eq_nil_of_length_eq_zero h]
    trivial
  | m + 1,qs,a,h,hr => by
    match qs,h,hr with
    | x :: y :: r,h,hr =>
      have hr' : (decide (a < x) && (decide (x < y) && risB y r)) = true:=hr
      rw [Bool.and_eq_true,Bool.and_eq_true] at hr'
      obtain ⟨h1,h2,h3⟩:=hr'
      have ih:=turns_of m (qs:=r) (a:=y) (by simp only [List.length_cons] at h; (first | lia | omega)) h3
      show Po.Turns a (L3.ev2 (x :: y :: r)) (L3.ev2 (y :: r))
      rw [ev2_cons x,ev2_cons y]
      exact ⟨of_decide_eq_true h1,of_decide_eq_true h2,ih⟩
    | [x],h,_ => exact absurd h (by simp only [List.length_cons,List.length_nil]; (first | lia | omega))
theorem tur1_of : ∀ (m : Nat) {qs : List Rat} {a : Rat},qs.length = 2 * m + 1→risB a qs = true→Po.Tur1 a (L3.ev2 (qs.drop 0)) (L3.ev2 (qs.drop 1))
  | 0,[x],a,_,hr => by
    have hr' : (decide (a < x) && true) = true:=hr
    rw [Bool.and_true] at hr'
    show a < x
    exact of_decide_eq_true hr'
  | m + 1,qs,a,h,hr => by
    match qs,h,hr with
    | x :: y :: r,h,hr =>
      have hr' : (decide (a < x) && (decide (x < y) && risB y r)) = true:=hr
      rw [Bool.and_eq_true,Bool.and_eq_true] at hr'
      obtain ⟨h1,h2,h3⟩:=hr'
      have ih:=tur1_of m (qs:=r) (a:=y) (by simp only [List.length_cons] at h; (first | lia | omega)) h3
      show Po.Tur1 a (L3.ev2 (x :: y :: r)) (L3.ev2 (y :: r))
      rw [ev2_cons x,ev2_cons y]
      have t : ∀ {l : List Rat} {u : List Rat},Po.Tur1 y l u→Po.Tur1 a (x :: l) (y :: u):=fun {l u} z => by
        cases l with
        | nil => exact False.elim z
        | cons l1 l2 => exact ⟨of_decide_eq_true h1,of_decide_eq_true h2,z⟩
      exact t ih
    | [x],h,_ => exact absurd h (by simp only [List.length_cons,List.length_nil]; (first | lia | omega))
  | 0,[],_,h,_ => by simp at h
  | 0,_ :: _ :: _,_,h,_ => by simp only [List.length_cons] at h; (first | lia | omega)
theorem ev2_mem : ∀ {qs : List Rat} {x : Rat},x ∈ L3.ev2 qs→x ∈ qs
  | [],_,h => h
  | [_],_,h => h
  | a :: b :: r,x,h => by
    rcases List.mem_cons.mp (show x ∈ a :: L3.ev2 r from h) with z | z
    · simp [z]
    · have:=ev2_mem z
      simp [this]
noncomputable def Hlf (c : Rat) (vs G W : List Rat) : Prop:=(vs.length % 2 = 0 ∧ ∃ gs ws,Po.HalfG c (L3.ev2 (vs.drop 0)) (L3.ev2 (vs.drop 1)) gs ws ∧ G = Po.mirG gs ∧ W = ws ++ ws.reverse) ∨ (vs.length % 2 = 1 ∧ ∃ gs ws w,Po.HalfB c (L3.ev2 (vs.drop 0)) (L3.ev2 (vs.drop 1)) gs ws w ∧ G = gs ++ gs.reverse ∧ W = ws ++ [w * 2] ++ ws.reverse)
theorem half_bq {c : Rat} (bc : Bq 100 c) : Bq 101 (c / 2):=by
  have hd:=den_pos c
  refine bq_of (T:=c.num) (M:=c.den * 2) (by (first | lia | omega)) ?_ (bc.1.mono (by decide)) ?_
  · have e : c = (c.num : Rat) / ((c.den : Int) : Rat):=(q_eq c).symm
    have n:=den_ne c
    rw [Rat.intCast_mul]
    have : ((2 : Int) : Rat) = 2:=rfl
    rw [this]
    generalize (c.num : Rat) = u at *
    generalize ((c.den : Int) : Rat) = v at *
    rw [e]
    grind
  · have:=bc.2
    unfold Bt at *
    rw [Int.natAbs_mul]
    show _ * 2 < 2 ^ 101
    rw [show (2 : Nat) ^ 101 = 2 ^ 100 * 2 from rfl]
    exact Nat.mul_lt_mul_of_pos_right this (by decide)
theorem half_ov {gs ws : List Rat} (oh : ∀ j,j ≤ ws.length→Po.OvN 300 (Po.hdp gs ws j)) (ol : ∀ j,j ≤ ws.length→Po.OvN 300 (Po.lsp gs ws j)) (p : Nat) (hp : p < 2 * ws.length + 1) : OvM (Po.PA gs ws p) ∧ OvM (Po.PB gs ws p):=by
  have oh' : ∀ j,j ≤ ws.length→OvM (Po.hdp gs ws j):=fun j hj => (oh j hj).mono (by decide)
  have ol' : ∀ j,j ≤ ws.length→OvM (Po.lsp gs ws j):=fun j hj => (ol j hj).mono (by decide)
  unfold Po.PA Po.PB
  by_cases e : p % 2 = 0
  · simp only [if_pos e]
    exact ⟨oh' _ (by (first | lia | omega)),ol' _ (by (first | lia | omega))⟩
  · simp only [if_neg e,if_pos (show p / 2 < ws.length by (first | lia | omega))]
    exact ⟨ol' _ (by (first | lia | omega)),oh' _ (by (first | lia | omega))⟩
noncomputable def sp_shift : Sp:=fun vs H Q _ => ∃ a qs,vs = [.ref a] ∧ Rw H a qs ∧ qs.length ≤ 900 ∧ ∀ r H',Same H H'→H r = none→Rw H' r (Po.strip (0 :: qs))→Q (.ref r) H'
theorem sc_times_number : FnScope ["one"] ["one"] (defScope s_times_number):=⟨rfl,rfl,rfl,by decide +kernel,rfl,by decide +kernel,by decide +kernel⟩
theorem ok_times_number (F : Fun K "times_number" "times_number" s_times_number f fd) (T : Txt mg) (C_poly : Cal P w K mg base "poly" 2 ["figures"] sp_stripQ) : FnOk P w K mg base CX0 3 f fd ["one"] sp_shift:=by
  refine F.ok sc_times_number (fun vs H Q E h => ?_) (fun cdv A outer s H vs Q E hr h => ?_)
  · obtain ⟨a,qs,rfl,_⟩:=h
    rfl
  obtain ⟨a,qs,rfl,⟨pa,ea,ka⟩,lq,q⟩:=h
  have la:=ka.length
  have hz : (1000 : Nat) < sizeLine:=by decide
  refine ⟨_,(pss_one (ps_ret (pe_cl C_poly hr (pa_cons (pe_op op_cat (pe_lst (pa_cons (pe_tup (pa_cons pe_int (pa_cons pe_int pa_nil))) pa_nil)) (pv 0)) pa_nil)))),?_⟩
  refine ⟨(by show 2 ≤ sizeLine; decide),fun p0 hp0 => ⟨(by show 1 ≤ sizeLine; decide),fun l0 hl0 => ?_⟩⟩
  have s0:=same_upd hp0 (.tup [.int 0,.int 1])
  have s1:=same_upd hl0 (.lst [.ref p0])
  have s01:=s0.trans s1
  have k0 : Pq (upd H p0 (.tup [.int 0,.int 1])) p0 0:=Pq.of Pr.new ⟨rfl,rfl⟩
  refine ⟨_,rfl,l0,a,_,_,rfl,rfl,upd_same,s01 _ _ ea,?_,fun l hl => ?_⟩
  · simp only [List.length_append,List.length_cons,List.length_nil,List.length_map]; (first | lia | omega)
  have s2:=same_upd hl (.lst ([.ref p0] ++ pa.map V.ref))
  have s02:=s01.trans s2
  refine ⟨l,0 :: qs,rfl,⟨p0 :: pa,by rw [upd_same]; rfl,.cons (k0.keep (s1.trans s2)) (ka.keep s02)⟩,by simp only [List.length_cons]; (first | lia | omega),fun r H' s' n' rw' => q r H' (s02.trans s') (s02.free n') rw'⟩
noncomputable def sp_even (C : Addr) : Sp:=fun vs H Q _ => ∃ ha p us c G W,vs = [.ref ha,.ref p] ∧ Rw H ha us ∧ Pq H p c ∧ risB 0 us = true ∧ 0 < c ∧ us.length ≤ 4 ∧ (∀ q ∈ us,Bq 13 q) ∧ Bq 100 c ∧ Hlf c us G W ∧ ∀ r g w H',Same H H'→H r = none→H g = none→H w = none→Co C H' r g w G W→Q (.ref r) H'
theorem ris_pos : ∀ {qs : List Rat} {a : Rat},risB a qs = true→∀ q ∈ qs,a < q
  | x :: xs,a,h,q,hq => by
    have h' : (decide (a < x) && risB x xs) = true:=h
    rw [Bool.and_eq_true] at h'
    have h1:=of_decide_eq_true h'.1
    rcases List.mem_cons.mp hq with z | z
    · rw [z]; exact h1
    · have:=ris_pos h'.2 q z
      grind
theorem atI_lastQ {H : Hp} {ps : List Addr} {qs : List Rat} (k : Pqs H ps qs) (h : 0 < qs.length) : ∃ y,atI (ps.map V.ref) (-1) = some (.ref y) ∧ Pq H y (Po.lst qs):=by
  have l:=k.length
  have hl : qs.length - 1 < qs.length:=by (first | lia | omega)
  obtain ⟨y,ey,ky⟩:=k.get (List.getElem?_eq_getElem hl)
  refine ⟨y,?_,?_⟩
  · rw [← l] at ey
    rcases List.eq_nil_or_concat ps with z | ⟨L,x,z⟩
    · rw [z] at l; simp at l; (first | lia | omega)
    · rw [z,List.concat_eq_append] at ey ⊢
      have e : x = y:=by simpa using ey
      rw [List.map_append,e]
      exact atI_last _ _
  · unfold Po.lst
    rw [Po.getD_in hl]
    exact ky
theorem turns_trn : ∀ {ls us : List Rat} {a : Rat},ls.length = us.length→risB a (trn ls us) = true→Po.Turns a ls us
  | [],[],_,_,_ => trivial
  | l :: ls,u :: us,a,h,hr => by
    have hr' : (decide (a < l) && (decide (l < u) && risB u (trn ls us))) = true:=hr
    rw [Bool.and_eq_true,Bool.and_eq_true] at hr'
    exact ⟨of_decide_eq_true hr'.1,of_decide_eq_true hr'.2.1,turns_trn (by simpa using h) hr'.2.2⟩
  | [],_ :: _,_,h,_ => by simp at h
  | _ :: _,[],_,h,_ => by simp at h
theorem sgn_pos56 {x : Rat} : sgn x.num = 1 ↔ 0 < x:=by
  have h : 0 < x.num ↔ 0 < x:=by
    rw [Rat.lt_iff]
    simp
  unfold sgn
  constructor
  · intro z
    by_cases c : x.num > 0
    · exact h.mp c
    · rw [if_neg c] at z
      by_cases c2 : x.num < 0
      · rw [if_pos c2] at z; exact absurd z (by decide)
      · rw [if_neg c2] at z; exact absurd z (by decide)
  · intro z
    rw [if_pos (h.mpr z)]
noncomputable def CoGood (ls us : List Rat) (c : Rat) : Prop:=ls.length = us.length ∧ us.length ≤ 12 ∧ risB 0 (trn ls us) = true ∧ 0 < c
noncomputable def EvGood (us : List Rat) (c : Rat) : Prop:=us.length ≤ 12 ∧ risB 0 us = true ∧ 0 < c
theorem Cd.ovm {c : Rat} {ls us gs ws : List Rat} (f : Po.Cd c ls us gs ws) (p : Nat) (hp : p < 2 * ws.length + 1) : OvM (Po.PA gs ws p) ∧ OvM (Po.PB gs ws p):=by
  have oh:=f.oh
  have ol:=f.ol
  unfold Po.PA Po.PB
  by_cases e : p % 2 = 0
  · simp only [if_pos e]
    exact ⟨oh _ (by (first | lia | omega)),ol _ (by (first | lia | omega))⟩
  · simp only [if_neg e,if_pos (show p / 2 < ws.length by (first | lia | omega))]
    exact ⟨ol _ (by (first | lia | omega)),oh _ (by (first | lia | omega))⟩
noncomputable def sp_cordofX (C cN : Addr) : Sp:=fun vs H Q E => ∃ ha la p us ls c,vs = [.ref ha,.ref la,.ref p] ∧ Rw H ha us ∧ Rw H la ls ∧ Pq H p c ∧ (∀ q ∈ ls,Bq 24 q) ∧ (∀ q ∈ us,Bq 24 q) ∧ Bq 8 c ∧ us.length ≤ 13 ∧ ls.length ≤ 13 ∧ (¬ CoGood ls us c→∀ H',Same H H'→E (.ref cN) none H') ∧
  (CoGood ls us c→∃ gs ws,Po.Cd c ls us gs ws ∧ ∀ r g w H',Same H H'→H r = none→H g = none→H w = none→Co C H' r g w gs ws→Q (.ref r) H')
theorem sc_cord_of : FnScope ["helds","looses","length"] ["helds","looses","length"] (defScope s_cord_of):=⟨rfl,rfl,rfl,by decide +kernel,rfl,by decide +kernel,by decide +kernel⟩
set_option maxHeartbeats 1000000 in
theorem ok_cord_of {c_NoWorth c_CordError c_NoBead c_NoCord c_NoFraction c_NoName c_NoText : Addr} (F : ∃ (oc : Value) (od : Option Addr) (kV doc pm : Value) (an : Option Addr) (cdv ct : Value) (osl : Array (Option Value)),
      fd = PySem.W.fnOf "cord_of" "cord_of" (defArgs s_cord_of) (defBody s_cord_of) (defScope s_cord_of) .none kV doc pm an cdv ct ∧ K.lookup f = some ⟨oc,od,.func fd,osl⟩ ∧ PySem.W.codeIn K cdv "cord_of" = true)
    (T : Txt mg) (R : Errs K mg c_NoWorth c_CordError c_NoBead c_NoCord c_NoFraction c_NoName c_NoText) (C_is_rising : Cal P w K mg base "is_rising" 2 ["row"] sp_rising) (C_in_turns : Cal P w K mg base "in_turns" 1 ["firsts","seconds"] sp_inturns) (C_side : Cal P w K mg base "side" 1 ["one"] sp_side) (C_with_worths : Cal P w K mg base "with_worths" 3 ["worths","first"] sp_wths) (C_cord_with : Cal P w K mg base "cord_with" 6 ["upper","lower"] (sp_cwO o_Cord)) : FnOk P w K mg base (CXe P w) 7 f fd ["helds","looses","length"] (sp_cordofX o_Cord c_NoWorth):=by
  refine okX F sc_cord_of (fun vs H Q E h => ?_) (fun cdv A outer s H vs Q E hr h => ?_)
  · obtain ⟨ha,la,p,us,ls,c,rfl,_⟩:=h
    rfl
  obtain ⟨ha,la,p,us,ls,c,rfl,rh,rl,kc,bl,bu,bc,n1,n2,q0,q1⟩:=h
  obtain ⟨xh,eh,lxh⟩:=rh.there
  obtain ⟨xl,el,lxl⟩:=rl.there
  refine ⟨_,(pss_cons (ps_if (PW.pt (pw_or (pt_cmpR op_ne (pe_callB call_len_seq rfl T.z_len PySem.boot_len (pa_cons (pv 0) pa_nil)) (pe_callB call_len_seq rfl T.z_len PySem.boot_len (pa_cons (pv 1) pa_nil)) (nomark _)) (pw_or1 (pt_cmpR op_gt (pe_callB call_len_seq rfl T.z_len PySem.boot_len (pa_cons (pv 0) pa_nil)) (pe_globI rfl T.c_MOST_BEADS) (nomark _)))))
        (pss_one (ps_raise R.m_NoWorth R.o_NoWorth (pa_cons pe_str pa_nil)))
        pss_nil)
      (pss_cons (ps_if (PW.pt (pw_or (pt_not (pt_val (pe_cl C_is_rising hr (pa_cons (pe_cl C_in_turns hr (pa_cons (pv 1) (pa_cons (pv 0) pa_nil))) pa_nil)))) (pw_or1 (pt_cmpR op_ne (pe_cl C_side hr (pa_cons (pv 2) pa_nil)) pe_int (nomark _)))))
        (pss_one (ps_raise R.m_NoWorth R.o_NoWorth (pa_cons pe_str pa_nil)))
        pss_nil)
      (pss_one (ps_ret (pe_cl C_cord_with hr (pa_cons (pe_cl C_with_worths hr (pa_cons (pv 0) (pa_cons (pv 2) pa_nil))) (pa_cons (pe_cl C_with_worths hr (pa_cons (pv 1) (pa_cons (pe_tup (pa_cons pe_int (pa_cons pe_int pa_nil))) pa_nil))) pa_nil))))))),?_⟩
  refine ⟨_,rfl,_,_,rfl,.inl (SqL.of eh),_,rfl,_,_,rfl,.inl (SqL.of el),rfl,_,rfl,ite2 (fun c1 => ?_) (fun c1 => ?_)⟩
  · refine iteT ⟨(by show 1 ≤ sizeLine; decide),q0 (fun g => ?_) H (Same.refl _)⟩
    have:=g.1
    rw [lxh,lxl,this] at c1
    exact absurd c1 (by simp)
  have hl : ls.length = us.length:=by
    have : ¬ ¬ ((xh.length : Int) = (xl.length : Int)):=fun z => c1 (by simp; (first | lia | omega))
    (first | lia | omega)
  refine ⟨_,rfl,_,_,rfl,.inl (SqL.of eh),_,_,rfl,rfl,_,rfl,ite2 (fun c2 => ?_) (fun c2 => ?_)⟩
  · refine ⟨(by show 1 ≤ sizeLine; decide),q0 (fun g => ?_) H (Same.refl _)⟩
    have:=g.2.1
    have c2' : (12 : Int) < (xh.length : Int):=of_decide_eq_true c2
    (first | lia | omega)
  have h12 : us.length ≤ 12:=by
    have c2' : ¬ (12 : Int) < (xh.length : Int):=of_decide_eq_false (Bool.eq_false_iff.mpr c2)
    (first | lia | omega)
  refine ⟨_,rfl,_,rfl,la,ha,ls,us,rfl,rl,rh,hl,by (first | lia | omega),fun r1 H1 s1 n1' rr1 => ?_⟩
  refine ⟨r1,_,rfl,rr1,trn_mem (fun q h => (bl q h).mono (by decide)) (fun q h => (bu q h).mono (by decide)),fun H2 s2 => ?_⟩
  have s12:=s1.trans s2
  have kc2:=kc.keep s12
  refine ⟨_,rfl,ite2 (fun c3 => ?_) (fun c3 => ?_)⟩
  · refine iteT ⟨(by show 1 ≤ sizeLine; decide),q0 (fun g => ?_) H2 s12⟩
    rw [g.2.2.1] at c3
    exact absurd c3 (by decide)
  have hris : risB 0 (trn ls us) = true:=by
    cases h : risB 0 (trn ls us) with
    | true => rfl
    | false => exact absurd (by rw [h]; rfl) c3
  have tu:=turns_trn hl hris
  obtain ⟨m1,m2⟩:=tu.mem
  refine ⟨_,rfl,p,_,_,rfl,kc2,rfl,_,rfl,ite2 (fun c4 => ?_) (fun c4 => ?_)⟩
  · refine ⟨(by show 1 ≤ sizeLine; decide),q0 (fun g => ?_) H2 s12⟩
    rw [sgn_pos56.mpr g.2.2.2] at c4
    exact absurd c4 (by decide)
  have hc : 0 < c:=sgn_pos56.mp (Classical.byContradiction fun z => c4 (by
    rw [decide_eq_false (fun e => z (V.int.inj e))]
    rfl))
  obtain ⟨gs,ws,fn,q⟩:=q1 ⟨hl,h12,hris,hc⟩
  have lg:=fn.lg
  have lw:=fn.lw
  refine ⟨_,rfl,_,rfl,ha,p,us,c,rfl,rh.keep s12,kc2,by (first | lia | omega),fun u h => ⟨m2 u h,(bu u h).mono (by decide)⟩,hc,bc.mono (by decide),fun r3 H3 s3 n3 rr3 => ?_⟩
  have s13:=s12.trans s3
  refine ⟨_,rfl,(by show 2 ≤ sizeLine; decide),fun z hz' => ?_⟩
  have uz:=same_upd hz' (.tup [.int 1,.int 1])
  have kz : Pq (upd H3 z (.tup [.int 1,.int 1])) z 1:=Pq.of Pr.new ⟨rfl,rfl⟩
  generalize upd H3 z (.tup [.int 1,.int 1]) = H4 at *
  have s14:=s13.trans uz
  refine ⟨la,z,ls,1,rfl,rl.keep s14,kz,by (first | lia | omega),fun u h => ⟨m1 u h,(bl u h).mono (by decide)⟩,by decide,Bq.one (by decide),fun r5 H5 s5 n5 rr5 => ?_⟩
  rw [← fn.lo] at rr5
  rw [← fn.hd] at rr3
  have s15:=s14.trans s5
  have o1:=fn.bh
  have o2:=fn.bl
  rw [← fn.hd] at o1
  rw [← fn.lo] at o2
  exact ⟨r3,r5,gs,ws,rfl,rr3.keep (uz.trans s5),rr5,⟨lg,by (first | lia | omega),fn.pg,fn.pw⟩,o1.bq,o2.bq,Cd.ovm fn,fun r g w H6 s6 n6 n7 n8 co => q r g w H6 (s15.trans s6) (s15.free n6) (s15.free n7) (s15.free n8) co⟩
noncomputable def Hfx (c : Rat) (vs G W : List Rat) : Prop:=(vs.length % 2 = 0 ∧ ∃ gs ws,Po.Cd (c / 2) (L3.ev2 (vs.drop 0)) (L3.ev2 (vs.drop 1)) gs ws ∧ G = Po.mirG gs ∧ W = ws ++ ws.reverse) ∨ (vs.length % 2 = 1 ∧ ∃ gs ws w,Po.Bd (c / 2) (L3.ev2 (vs.drop 0)) (L3.ev2 (vs.drop 1)) gs ws w ∧ G = gs ++ gs.reverse ∧ W = ws ++ [w * 2] ++ ws.reverse)
theorem Hfx.fine {c : Rat} {vs G W : List Rat} (h : Hfx c vs G W) (n : vs.length ≤ 12) : Fine0 G W ∧ W.length = vs.length:=by
  rcases h with ⟨z,gs,ws,h,rfl,rfl⟩ | ⟨z,gs,ws,w,h,rfl,rfl⟩
  · have l1:=h.lg
    have l2:=h.lw
    rw [L3.ev2_length,List.length_drop] at l2
    have gl : gs.getD (gs.length - 1) 0 ∈ gs:=by rw [Po.getD_in (by (first | lia | omega))]; exact List.getElem_mem _
    have lW : (ws ++ ws.reverse).length = ws.length + ws.length:=by rw [List.length_append,List.length_reverse]
    refine ⟨⟨?_,by (first | lia | omega),fun q hq => ?_,fun q hq => ?_⟩,by (first | lia | omega)⟩
    · unfold Po.mirG
      rw [List.length_append,List.length_append,List.length_reverse,List.length_take,List.length_singleton,List.length_append,List.length_reverse]
      (first | lia | omega)
    · rcases List.mem_append.mp hq with z | z
      · rcases List.mem_append.mp z with z | z
        · exact h.pg q (List.mem_of_mem_take z)
        · rw [List.mem_singleton.mp z]; exact Rat.mul_pos (h.pg _ gl) (by decide)
      · exact h.pg q (List.mem_of_mem_take (List.mem_reverse.mp z))
    · rcases List.mem_append.mp hq with z | z
      · exact h.pw q z
      · exact h.pw q (List.mem_reverse.mp z)
  · have l1:=h.lg
    have l2:=h.lw
    rw [L3.ev2_length,List.length_drop] at l2
    have lW : (ws ++ [w * 2] ++ ws.reverse).length = ws.length + 1 + ws.length:=by rw [List.length_append,List.length_append,List.length_singleton,List.length_reverse]
    refine ⟨⟨?_,by (first | lia | omega),fun q hq => ?_,fun q hq => ?_⟩,by (first | lia | omega)⟩
    · rw [lW,List.length_append,List.length_reverse]
      (first | lia | omega)
    · rcases List.mem_append.mp hq with z | z
      · exact h.pg q z
      · exact h.pg q (List.mem_reverse.mp z)
    · rcases List.mem_append.mp hq with z | z
      · rcases List.mem_append.mp z with z | z
        · exact h.pw q z
        · rw [List.mem_singleton.mp z]; exact Rat.mul_pos h.w0 (by decide)
      · exact h.pw q (List.mem_reverse.mp z)
noncomputable def sp_evenX (C cN : Addr) : Sp:=fun vs H Q E => ∃ ha p us c,vs = [.ref ha,.ref p] ∧ Rw H ha us ∧ Pq H p c ∧ (∀ q ∈ us,Bq 24 q) ∧ Bq 8 c ∧ us.length ≤ 13 ∧ (¬ EvGood us c→∀ H',Same H H'→E (.ref cN) none H') ∧
  (EvGood us c→∃ G W,Hfx c us G W ∧ ∀ r g w H',Same H H'→H r = none→H g = none→H w = none→Co C H' r g w G W→Q (.ref r) H')
theorem sc_even : FnScope ["helds","length","upper","lower","weight"] ["helds","length"] (defScope s_even):=⟨rfl,rfl,rfl,by decide +kernel,rfl,by decide +kernel,by decide +kernel⟩
set_option maxHeartbeats 4000000 in
theorem ok_even {c_NoWorth c_CordError c_NoBead c_NoCord c_NoFraction c_NoName c_NoText : Addr} (F : ∃ (oc : Value) (od : Option Addr) (kV doc pm : Value) (an : Option Addr) (cdv ct : Value) (osl : Array (Option Value)),
      fd = PySem.W.fnOf "even" "even" (defArgs s_even) (defBody s_even) (defScope s_even) .none kV doc pm an cdv ct ∧ K.lookup f = some ⟨oc,od,.func fd,osl⟩ ∧ PySem.W.codeIn K cdv "even" = true)
    (T : Txt mg) (R : Errs K mg c_NoWorth c_CordError c_NoBead c_NoCord c_NoFraction c_NoName c_NoText) (C_is_rising : Cal P w K mg base "is_rising" 2 ["row"] sp_rising) (C_side : Cal P w K mg base "side" 1 ["one"] sp_side) (C_with_worths : Cal P w K mg base "with_worths" 3 ["worths","first"] sp_wths) (C_over : Cal P w K mg base "over" 3 ["one","other"] sp_overN) (C_minus : Cal P w K mg base "minus" 3 ["one","other"] (sp_bin 8000 (· - ·))) (C_times : Cal P w K mg base "times" 2 ["one","other"] (sp_bin 8000 (· * ·))) (C_poly_plus : Cal P w K mg base "poly_plus" 4 ["one","other"] (sp_pbin Po.padd)) (C_scaled : Cal P w K mg base "scaled" 4 ["one","number"] sp_scaled) (C_times_number : Cal P w K mg base "times_number" 3 ["one"] sp_shift) (C_cord_with : Cal P w K mg base "cord_with" 6 ["upper","lower"] (sp_cwO o_Cord)) (C_even_about_gap : Cal P w K mg base "even_about_gap" 6 ["half"] (sp_eag o_Cord)) (C_even_about_bead : Cal P w K mg base "even_about_bead" 6 ["half","middle"] (sp_eab o_Cord)) : FnOk P w K mg base (CXe P w) 7 f fd ["helds","length"] (sp_evenX o_Cord c_NoWorth):=by
  refine okX F sc_even (fun vs H Q E h => ?_) (fun cdv A outer s H vs Q E hr h => ?_)
  · obtain ⟨ha,p,us,c,rfl,_⟩:=h
    rfl
  obtain ⟨ha,p,us,c,rfl,rh,kc,bu,bc,n13,q0,q1⟩:=h
  obtain ⟨xh,eh,lxh⟩:=rh.there
  refine ⟨_,(pss_cons (ps_if (pt_cmpR op_gt (pe_callB call_len_seq rfl T.z_len PySem.boot_len (pa_cons (pv 0) pa_nil)) (pe_globI rfl T.c_MOST_BEADS) (nomark _))
        (pss_one (ps_raise R.m_NoWorth R.o_NoWorth (pa_cons pe_str pa_nil)))
        pss_nil)
      (pss_cons (ps_if (PW.pt (pw_or (pt_not (pt_val (pe_cl C_is_rising hr (pa_cons (pv 0) pa_nil)))) (pw_or1 (pt_cmpR op_ne (pe_cl C_side hr (pa_cons (pv 1) pa_nil)) pe_int (nomark _)))))
        (pss_one (ps_raise R.m_NoWorth R.o_NoWorth (pa_cons pe_str pa_nil)))
        pss_nil)
      (pss_cons (ps_set (i:=2) sc_even.nd rfl (Or.inl rfl) (pe_cl C_with_worths hr (pa_cons (pe_step2 (pv 0) (po_some pe_int) pe_int) (pa_cons (pe_cl C_over hr (pa_cons (pv 1) (pa_cons (pe_tup (pa_cons pe_int (pa_cons pe_int pa_nil))) pa_nil))) pa_nil))))
      (pss_cons (ps_set (i:=3) sc_even.nd rfl (Or.inl rfl) (pe_cl C_with_worths hr (pa_cons (pe_step2 (pv 0) po_none pe_int) (pa_cons (pe_tup (pa_cons pe_int (pa_cons pe_int pa_nil))) pa_nil))))
      (pss_cons (ps_if (pt_cmpR op_eq (pe_op op_mod (pe_callB call_len_seq rfl T.z_len PySem.boot_len (pa_cons (pv 0) pa_nil)) pe_int) pe_int (nomark _))
        (pss_one (ps_ret (pe_cl C_even_about_gap hr (pa_cons (pe_cl C_cord_with hr (pa_cons (pv 2) (pa_cons (pv 3) pa_nil))) pa_nil))))
        pss_nil)
      (pss_cons (ps_set (i:=4) sc_even.nd rfl (Or.inl rfl) (pe_cl C_over hr (pa_cons (pe_ix ix_list (pv 3) (pe_un un_neg pe_int) (fun _ _ => rfl)) (pa_cons (pe_cl C_minus hr (pa_cons (pe_tup (pa_cons pe_int (pa_cons pe_int pa_nil))) (pa_cons (pe_ix ix_list (pv 2) (pe_un un_neg pe_int) (fun _ _ => rfl)) pa_nil))) pa_nil))))
      (pss_cons (ps_set (i:=3) sc_even.nd rfl (Or.inl rfl) (pe_cl C_poly_plus hr (pa_cons (pv 3) (pa_cons (pe_cl C_times_number hr (pa_cons (pe_cl C_scaled hr (pa_cons (pv 2) (pa_cons (pv 4) pa_nil))) pa_nil)) pa_nil))))
      (pss_one (ps_ret (pe_cl C_even_about_bead hr (pa_cons (pe_cl C_cord_with hr (pa_cons (pv 2) (pa_cons (pv 3) pa_nil))) (pa_cons (pe_cl C_times hr (pa_cons (pv 4) (pa_cons (pe_tup (pa_cons pe_int (pa_cons pe_int pa_nil))) pa_nil))) pa_nil)))))))))))),?_⟩
  refine ⟨_,rfl,_,_,rfl,.inl (SqL.of eh),_,_,rfl,rfl,_,rfl,ite2 (fun c2 => ?_) (fun c2 => ?_)⟩
  · refine ⟨(by show 1 ≤ sizeLine; decide),q0 (fun g => ?_) H (Same.refl _)⟩
    have:=g.1
    have c2' : (12 : Int) < (xh.length : Int):=of_decide_eq_true c2
    (first | lia | omega)
  have n4 : us.length ≤ 12:=by
    have c2' : ¬ (12 : Int) < (xh.length : Int):=of_decide_eq_false (Bool.eq_false_iff.mpr c2)
    (first | lia | omega)
  refine ⟨_,rfl,ha,us,rfl,rh,fun q h => (bu q h).mono (by decide),fun H1 s1 => ?_⟩
  have kc1:=kc.keep s1
  refine ⟨_,rfl,ite2 (fun c3 => ?_) (fun c3 => ?_)⟩
  · refine iteT ⟨(by show 1 ≤ sizeLine; decide),q0 (fun g => ?_) H1 s1⟩
    rw [g.2.1] at c3
    exact absurd c3 (by decide)
  have ris : risB 0 us = true:=by
    cases h : risB 0 us with
    | true => rfl
    | false => exact absurd (by rw [h]; rfl) c3
  refine ⟨_,rfl,p,_,_,rfl,kc1,rfl,_,rfl,ite2 (fun c4 => ?_) (fun c4 => ?_)⟩
  · refine ⟨(by show 1 ≤ sizeLine; decide),q0 (fun g => ?_) H1 s1⟩
    rw [sgn_pos56.mpr g.2.2] at c4
    exact absurd c4 (by decide)
  have hc : 0 < c:=sgn_pos56.mp (Classical.byContradiction fun z => c4 (by
    rw [decide_eq_false (fun e => z (V.int.inj e))]
    rfl))
  obtain ⟨G,W,hlf,q⟩:=q1 ⟨n4,ris,hc⟩
  have fine:=(hlf.fine n4).1
  have pos:=ris_pos ris
  have hc2 : 0 < c / 2:=Po.rdiv_pos hc (by decide)
  obtain ⟨ph,eh1,kh1⟩:=rh.keep s1
  have lph:=kh1.length
  refine ⟨_,rfl,_,rfl,ha,_,1,rfl,rfl,.inr rfl,SqL.of eh1,fun m1 hm1 => ?_⟩
  have u1:=same_upd hm1 (.lst (L3.ev2 ((ph.map V.ref).drop 1)))
  have r1 : Rw (upd H1 m1 (.lst (L3.ev2 ((ph.map V.ref).drop 1)))) m1 (L3.ev2 (us.drop 1)):=⟨L3.ev2 (ph.drop 1),by rw [upd_same,L3.ev2_map,List.map_drop],Pqs.keep (Pqs.rev2 (Pqs.drop 1 kh1)) u1⟩
  have s2:=s1.trans u1
  have eh2:=u1 _ _ eh1
  have kh2:=kh1.keep u1
  have kc2:=kc1.keep u1
  clear u1 hm1 eh1 kh1 kc1
  generalize upd H1 m1 (.lst (L3.ev2 ((ph.map V.ref).drop 1))) = H2 at *
  refine ⟨_,rfl,(by show 2 ≤ sizeLine; decide),fun z1 hz1 => ?_⟩
  have u2:=same_upd hz1 (.tup [.int 2,.int 1])
  have kz1 : Pq (upd H2 z1 (.tup [.int 2,.int 1])) z1 2:=Pq.of Pr.new ⟨rfl,rfl⟩
  generalize upd H2 z1 (.tup [.int 2,.int 1]) = H3 at *
  refine ⟨p,z1,c,2,rfl,kc2.keep u2,kz1,by decide,bc.mono (by decide),(show Bq 2 (2 : Rat) by unfold Bq Bt; decide +kernel).mono (by decide),fun d1 H4 s4 kd1 => ?_⟩
  have u24:=u2.trans s4
  have p1 : ∀ u ∈ L3.ev2 (us.drop 1),0 < u ∧ Bq 100 u:=fun u h => by have:=List.mem_of_mem_drop (ev2_mem h); exact ⟨pos u this,(bu u this).mono (by decide)⟩
  have p0 : ∀ u ∈ L3.ev2 (us.drop 0),0 < u ∧ Bq 100 u:=fun u h => by have:=List.mem_of_mem_drop (ev2_mem h); exact ⟨pos u this,(bu u this).mono (by decide)⟩
  have ln1 : (L3.ev2 (us.drop 1)).length ≤ 12:=by rw [L3.ev2_length,List.length_drop]; (first | lia | omega)
  have ln0 : (L3.ev2 (us.drop 0)).length ≤ 12:=by rw [L3.ev2_length,List.length_drop]; (first | lia | omega)
  refine ⟨m1,d1,_,c / 2,rfl,r1.keep u24,kd1,ln1,p1,hc2,half_bq (bc.mono (by decide)),fun ru H5 s5 nru rru => ?_⟩
  have s25:=u24.trans s5
  have s05:=s2.trans s25
  have eh5:=s25 _ _ eh2
  have kh5:=kh2.keep s25
  clear u2 s4 u24 s5 s25 eh2 kh2 kc2 r1 kz1 kd1 hz1
  refine ⟨_,rfl,ha,_,0,rfl,rfl,.inl ⟨rfl,rfl⟩,SqL.of eh5,fun m2 hm2 => ?_⟩
  have u6:=same_upd hm2 (.lst (L3.ev2 ((ph.map V.ref).drop 0)))
  have r2 : Rw (upd H5 m2 (.lst (L3.ev2 ((ph.map V.ref).drop 0)))) m2 (L3.ev2 (us.drop 0)):=⟨L3.ev2 (ph.drop 0),by rw [upd_same,L3.ev2_map,List.map_drop],Pqs.keep (Pqs.rev2 (Pqs.drop 0 kh5)) u6⟩
  have s06:=s05.trans u6
  have eh6:=u6 _ _ eh5
  have rru6:=rru.keep u6
  clear u6 hm2 eh5 kh5 rru s05
  generalize upd H5 m2 (.lst (L3.ev2 ((ph.map V.ref).drop 0))) = H6 at *
  refine ⟨(by show 2 ≤ sizeLine; decide),fun z2 hz2 => ?_⟩
  have u7:=same_upd hz2 (.tup [.int 1,.int 1])
  have kz2 : Pq (upd H6 z2 (.tup [.int 1,.int 1])) z2 1:=Pq.of Pr.new ⟨rfl,rfl⟩
  generalize upd H6 z2 (.tup [.int 1,.int 1]) = H7 at *
  refine ⟨m2,z2,_,1,rfl,r2.keep u7,kz2,ln0,p0,by decide,Bq.one (by decide),fun rl H8 s8 nrl rrl => ?_⟩
  have u78:=u7.trans s8
  have s08:=s06.trans u78
  have eh8:=u78 _ _ eh6
  have rru8:=rru6.keep u78
  clear u7 s8 u78 eh6 rru6 s06 r2 kz2 hz2
  refine ⟨_,rfl,_,_,rfl,.inl (SqL.of eh8),_,_,rfl,rfl,(by show (0 : Int) < 2; decide),rfl,_,rfl,ite2 (fun cc => ?_) (fun cc => ?_)⟩
  · have cc' : (((ph.map V.ref).length : Nat) : Int) % 2 = 0:=V.int.inj (of_decide_eq_true cc)
    rw [List.length_map,lph] at cc'
    rcases hlf with ⟨_,gs,ws,hf,rfl,rfl⟩ | ⟨z,_⟩
    · rw [← hf.hd] at rru8
      rw [← hf.lo] at rrl
      have hl6 : ws.length ≤ 6:=by rw [hf.lw,L3.ev2_length,List.length_drop]; (first | lia | omega)
      refine ⟨_,rfl,_,rfl,ru,rl,gs,ws,rfl,rru8,rrl,⟨hf.lg,by (first | lia | omega),hf.pg,hf.pw⟩,fun q h => hf.bh.bq q (by rw [← hf.hd]; exact h),fun q h => hf.bl.bq q (by rw [← hf.lo]; exact h),Cd.ovm hf,fun c1 g1 w1 H9 s9 n1 n2 n3 co => ?_⟩
      have s09:=s08.trans s9
      refine ⟨c1,g1,w1,gs,ws,rfl,co,hf.lg,hl6,?_,fine,fun r g w H' s' a1 a2 a3 co' => q r g w H' (s09.trans s') (s09.free a1) (s09.free a2) (s09.free a3) co'⟩
      intro x hx
      obtain ⟨j,hj,rfl⟩:=List.getElem_of_mem hx
      have hj' : j ≤ ws.length:=by have:=hf.lg; (first | lia | omega)
      have hz : Po.lst (Po.lsp gs ws j) ≠ 0:=by rw [Po.lst_at (Po.ls_len hf.pg hf.pw hf.lg hj')]; exact Po.ls_ne hf.pg hf.pw hf.lg hj'
      rw [← Po.getD_in hj,← Po.quo_hd hf.pg hf.pw hf.lg hj']
      exact (Po.quo_bq (hf.oh j hj') (hf.ol j hj') hz).mono (by decide)
    · exfalso; (first | lia | omega)
  · have cc' : ¬ (((ph.map V.ref).length : Nat) : Int) % 2 = 0:=fun z => of_decide_eq_false (Bool.eq_false_iff.mpr cc) (congrArg V.int z)
    rw [List.length_map,lph] at cc'
    rcases hlf with ⟨z,_⟩ | ⟨_,gs,ws,w',hf,rfl,rfl⟩
    · exfalso; (first | lia | omega)
    have lU : (Po.wths [c / 2] (L3.ev2 (us.drop 1))).length = (L3.ev2 (us.drop 1)).length + 1:=by rw [Po.len_wths,List.length_singleton]; (first | lia | omega)
    have lL : (Po.wths [1] (L3.ev2 (us.drop 0))).length = (L3.ev2 (us.drop 0)).length + 1:=by rw [Po.len_wths,List.length_singleton]; (first | lia | omega)
    have hzU : Po.lst (Po.wths [c / 2] (L3.ev2 (us.drop 1))) ≠ 0:=by
      rw [← hf.hd,Po.lst_at (Po.hd_len hf.pg hf.pw hf.lg (Nat.le_refl _))]
      exact Po.hd_ne hf.pg hf.pw hf.lg (Nat.le_refl _)
    have bU : ∀ q ∈ Po.wths [c / 2] (L3.ev2 (us.drop 1)),Bq 1300 q:=fun q h => by rw [← hf.hd] at h; exact ((hf.oh _ (Nat.le_refl _)).bq q h).mono (by decide)
    have bL : ∀ q ∈ Po.wths [1] (L3.ev2 (us.drop 0)),Bq 1300 q:=hf.bl.bq
    obtain ⟨pu',eu,ku⟩:=id rru8
    obtain ⟨pl',el,kl⟩:=id rrl
    obtain ⟨yu,au,kyu⟩:=atI_lastQ ku (by (first | lia | omega))
    obtain ⟨yl,al,kyl⟩:=atI_lastQ kl (by (first | lia | omega))
    have mU : Po.lst (Po.wths [c / 2] (L3.ev2 (us.drop 1))) ∈ Po.wths [c / 2] (L3.ev2 (us.drop 1)):=by rw [Po.lst_at lU,Po.getD_in (by (first | lia | omega))]; exact List.getElem_mem _
    have mL : Po.lst (Po.wths [1] (L3.ev2 (us.drop 0))) ∈ Po.wths [1] (L3.ev2 (us.drop 0)):=by rw [Po.lst_at lL,Po.getD_in (by (first | lia | omega))]; exact List.getElem_mem _
    refine ⟨_,rfl,_,rfl,rl,_,_,_,rfl,rfl,SqL.of el,al,(by show 2 ≤ sizeLine; decide),fun z3 hz3 => ?_⟩
    have u9:=same_upd hz3 (.tup [.int 0,.int 1])
    have kz3 : Pq (upd H8 z3 (.tup [.int 0,.int 1])) z3 0:=Pq.of Pr.new ⟨rfl,rfl⟩
    generalize upd H8 z3 (.tup [.int 0,.int 1]) = H9 at *
    refine ⟨_,rfl,_,rfl,ru,_,_,_,rfl,rfl,SqL.of (u9 _ _ eu),au,z3,yu,_,_,rfl,kz3,kyu.keep u9,Bq.zero (by decide),(bU _ mU).mono (by decide),fun d2 Ha sa kd2 => ?_⟩
    have u9a:=u9.trans sa
    have bd2 : Bq 1302 (0 - Po.lst (Po.wths [c / 2] (L3.ev2 (us.drop 1)))):=((Bq.zero (n:=1) (by decide)).sub (bU _ mU)).mono (by decide)
    refine ⟨yl,d2,_,_,rfl,kyl.keep u9a,kd2,fun z => hzU (by grind),(bL _ mL).mono (by decide),bd2.mono (by decide),fun wt Hb sb kwt => ?_⟩
    have ew : Po.lst (Po.wths [1] (L3.ev2 (us.drop 0))) / (0 - Po.lst (Po.wths [c / 2] (L3.ev2 (us.drop 1)))) = w':=by
      rw [hf.wq]
      generalize Po.lst (Po.wths [c / 2] (L3.ev2 (us.drop 1))) = y at *
      grind
    rw [ew] at kwt
    have u8b:=u9a.trans sb
    have s0b:=s08.trans u8b
    have rru9:=rru8.keep u8b
    have rrl9:=rrl.keep u8b
    clear u9 sa u9a sb u8b s08 rru8 rrl eu ku el kl kyu kyl kz3 kd2 hz3 eh8
    refine ⟨_,rfl,_,rfl,_,rfl,ru,wt,_,w',rfl,rru9,kwt,by (first | lia | omega),fun q h => (bU q h).mono (by decide),hf.bw.mono (by decide),fun r7 Hc sc n7 rr7 => ?_⟩
    have bS : ∀ q ∈ Po.pscale (Po.wths [c / 2] (L3.ev2 (us.drop 1))) w',Bq 1444 q:=fun q h => by
      obtain ⟨x,hx,rfl⟩:=List.mem_map.mp (Po.strip_mem h)
      exact ((bU x hx).mul hf.bw).mono (by decide)
    have lS:=Po.pscale_length (Po.wths [c / 2] (L3.ev2 (us.drop 1))) w'
    refine ⟨r7,_,rfl,rr7,by (first | lia | omega),fun r8 Hd sd n8 rr8 => ?_⟩
    have lS2:=Po.strip_length (0 :: Po.pscale (Po.wths [c / 2] (L3.ev2 (us.drop 1))) w')
    rw [List.length_cons] at lS2
    have scd:=sc.trans sd
    refine ⟨rl,r8,_,_,rfl,rrl9.keep scd,rr8,by (first | lia | omega),by (first | lia | omega),fun q h => (bL q h).mono (by decide),fun q h => ?_,fun r9 He se n9 rr9 => ?_⟩
    · rcases List.mem_cons.mp (Po.strip_mem h) with z | z
      · rw [z]; exact Bq.zero (by decide)
      · exact (bS q z).mono (by decide)
    have eLo : Po.padd (Po.wths [1] (L3.ev2 (us.drop 0))) (Po.strip (0 :: Po.pscale (Po.wths [c / 2] (L3.ev2 (us.drop 1))) w')) = Po.lsp gs ws ws.length:=by
      have e1 : Po.strip (Po.lsp gs ws ws.length) = Po.lsp gs ws ws.length:=Po.pst_strip2 gs ws [] [1] Po.strip_one ws.length
      rw [← e1]
      unfold Po.padd
      refine (Po.strip_strip _).symm.trans (Po.ev_strip_inj fun t => ?_)
      have e2:=Po.ev_padd (Po.wths [1] (L3.ev2 (us.drop 0))) (Po.strip (0 :: Po.pscale (Po.wths [c / 2] (L3.ev2 (us.drop 1))) w')) t
      unfold Po.padd at e2
      rw [e2,Po.ev_shift,Po.ev_pscale,hf.lo]
      grind
    rw [eLo] at rr9
    have sce:=scd.trans se
    have rru10:=rru9.keep sce
    rw [← hf.hd] at rru10
    have hl6 : ws.length ≤ 6:=by rw [hf.lw,L3.ev2_length,List.length_drop]; (first | lia | omega)
    refine ⟨_,rfl,_,rfl,ru,r9,gs,ws,rfl,rru10,rr9,⟨hf.lg,by (first | lia | omega),hf.pg,hf.pw⟩,fun q h => ((hf.oh _ (Nat.le_refl _)).bq q h).mono (by decide),fun q h => ((hf.ol _ (Nat.le_refl _)).bq q h).mono (by decide),half_ov hf.oh hf.ol,fun c1 g1 w1 Hf sf n1 n2 n3 co => ?_⟩
    refine ⟨_,rfl,(by show 2 ≤ sizeLine; decide),fun z4 hz4 => ?_⟩
    have u10:=same_upd hz4 (.tup [.int 2,.int 1])
    have kz4 : Pq (upd Hf z4 (.tup [.int 2,.int 1])) z4 2:=Pq.of Pr.new ⟨rfl,rfl⟩
    generalize upd Hf z4 (.tup [.int 2,.int 1]) = Hg at *
    refine ⟨wt,z4,_,_,rfl,kwt.keep (sce.trans (sf.trans u10)),kz4,hf.bw.mono (by decide),(show Bq 2 (2 : Rat) by unfold Bq Bt; decide +kernel).mono (by decide),fun md Hh sh kmd => ?_⟩
    have s0h:=s0b.trans (sce.trans (sf.trans (u10.trans sh)))
    exact ⟨c1,g1,w1,md,gs,ws,_,rfl,co.keep (u10.trans sh),kmd,hf.lg,hl6,fine,fun r g w H' s' a1 a2 a3 co' => q r g w H' (s0h.trans s') (s0h.free a1) (s0h.free a2) (s0h.free a3) co'⟩
noncomputable def lastD (a : Rat) : List Rat→Rat
  | [] => a
  | x :: xs => lastD x xs
theorem ris_snoc : ∀ (qs : List Rat) (a y : Rat),risB a (qs ++ [y]) = (risB a qs && decide (lastD a qs < y))
  | [],a,y => by show (decide (a < y) && true) = (true && decide (a < y)); rw [Bool.and_true,Bool.true_and]
  | x :: xs,a,y => by
    show (decide (a < x) && risB x (xs ++ [y])) = (decide (a < x) && risB x xs && decide (lastD x xs < y))
    rw [ris_snoc xs x y,Bool.and_assoc]
theorem last_snoc : ∀ (qs : List Rat) (a y : Rat),lastD a (qs ++ [y]) = y
  | [],_,_ => rfl
  | x :: xs,_,y => last_snoc xs x y
noncomputable def Sx60 (i : Nat) (x : Rat) : Prop:=∃ m : Int,x * 60 = (m : Rat) ∧ 0 ≤ m ∧ m ≤ 720 * i
theorem Sx60.bq {i : Nat} {x : Rat} (h : Sx60 i x) (hi : i ≤ 26) : Bq 24 x:=by
  obtain ⟨m,e,h0,h1⟩:=h
  refine bq_of (T:=m) (M:=60) (by decide) ?_ (Bt.between (by (first | lia | omega)) (by (first | lia | omega))) (Bt.between (by decide) (by decide))
  have : ((60 : Int) : Rat) = 60:=rfl
  rw [this]
  grind
theorem Sx60.mono {i j : Nat} {x : Rat} (h : Sx60 i x) (hi : i ≤ j) : Sx60 j x:=by
  obtain ⟨m,e,h0,h1⟩:=h
  exact ⟨m,e,h0,by (first | lia | omega)⟩
theorem Sx60.step {i : Nat} {x : Rat} (h : Sx60 i x) {T B : Int} (t1 : 1 ≤ T) (t2 : T ≤ 12) (b1 : 1 ≤ B) (b2 : B ≤ 6) : Sx60 (i + 1) (x + (T : Rat) / (B : Rat)) ∧ x < x + (T : Rat) / (B : Rat):=by
  obtain ⟨m,e,h0,h1⟩:=h
  have hB : (B : Rat) ≠ 0:=fun z => by have:=Rat.intCast_eq_zero_iff.mp z; (first | lia | omega)
  obtain ⟨k,hk,k1,k2⟩ : ∃ k : Int,60 = B * k ∧ 1 ≤ k ∧ k ≤ 60:=by
    have : B = 1 ∨ B = 2 ∨ B = 3 ∨ B = 4 ∨ B = 5 ∨ B = 6:=by (first | lia | omega)
    rcases this with rfl | rfl | rfl | rfl | rfl | rfl
    · exact ⟨60,by decide,by decide,by decide⟩
    · exact ⟨30,by decide,by decide,by decide⟩
    · exact ⟨20,by decide,by decide,by decide⟩
    · exact ⟨15,by decide,by decide,by decide⟩
    · exact ⟨12,by decide,by decide,by decide⟩
    · exact ⟨10,by decide,by decide,by decide⟩
  have hk' : (60 : Rat) = (B : Rat) * (k : Rat):=by
    have : ((60 : Int) : Rat) = ((B * k : Int) : Rat):=congrArg _ hk
    rw [Rat.intCast_mul] at this
    exact this
  have tk1 : 0 ≤ T * k:=Int.mul_nonneg (by (first | lia | omega)) (by (first | lia | omega))
  have tk2 : T * k ≤ 12 * 60:=Int.mul_le_mul t2 k2 (by (first | lia | omega)) (by decide)
  refine ⟨⟨m + T * k,?_,by (first | lia | omega),by (first | lia | omega)⟩,?_⟩
  · rw [Rat.intCast_add,Rat.intCast_mul,← e]
    generalize (T : Rat) = u at *
    generalize (B : Rat) = v at *
    generalize (k : Rat) = z at *
    rw [hk']
    grind
  · have : 0 < (T : Rat) / (B : Rat):=div_pos (by (first | lia | omega)) (by (first | lia | omega))
    grind
theorem low_small {T B : Int} (t1 : 1 ≤ T) (t2 : T ≤ 12) (b1 : 1 ≤ B) (b2 : B ≤ 6) : Bq 4 ((T : Rat) / (B : Rat)):=bq_of (T:=T) (M:=B) (by (first | lia | omega)) rfl (Bt.between (by (first | lia | omega)) (by (first | lia | omega))) (Bt.between (by (first | lia | omega)) (by (first | lia | omega)))
noncomputable def sp_ris56 (K : PySem.W.Frag) : Sp:=fun vs H Q _ => ∃ (a : Addr) (ns : List Int) (m : Nat),vs = [.ref a,.int m] ∧ SqL K H a (ns.map V.int) ∧ m ≤ 26 ∧ ∀ r qs H',Same H H'→H r = none→Rw H' r qs→qs.length = m→risB 0 qs = true→(∀ q ∈ qs,Sx60 26 q)→Q (.ref r) H'
theorem sc_law_rising : FnScope ["_law_script","_law_many","_law_row","_law_last","_law_rest","_law_k","_law_cell"] ["_law_script","_law_many"] (defScope s_law_rising):=⟨rfl,rfl,rfl,by decide +kernel,rfl,by decide +kernel,by decide +kernel⟩
set_option maxHeartbeats 4000000 in
theorem ok_law_rising (F : Fun K "_law_rising" "_law_rising" s_law_rising f fd) (T : Txt mg) (C_law_cell_at : Cal P w K mg base "_law_cell_at" 1 ["_law_script","_law_k"] (sp_cell0 K)) (C_law_low : Cal P w K mg base "_law_low" 1 ["_law_top","_law_bottom"] sp_lowQ) (C_law_plus : Cal P w K mg base "_law_plus" 2 ["_law_one","_law_other"] (sp_bin 3900 (· + ·))) : FnOk P w K mg base CX0 3 f fd ["_law_script","_law_many"] (sp_ris56 K):=by
  refine F.ok sc_law_rising (fun vs H Q E h => ?_) (fun cdv A outer s H vs Q E hr h => ?_)
  · obtain ⟨a,ns,m,rfl,_⟩:=h
    rfl
  obtain ⟨a,ns,m,rfl,hS,hm,q⟩:=h
  have hz : (1000 : Nat) < sizeLine:=by decide
  refine ⟨_,(pss_cons (ps_set (i:=2) sc_law_rising.nd rfl (Or.inl rfl) (pe_lst pa_nil))
      (pss_cons (ps_set (i:=3) sc_law_rising.nd rfl (Or.inl rfl) (pe_tup (pa_cons pe_int (pa_cons pe_int pa_nil))))
      (pss_cons (ps_set (i:=4) sc_law_rising.nd rfl (Or.inl rfl) (pe_cl C_law_cell_at hr (pa_cons (pv 0) (pa_cons pe_int pa_nil))))
      (pss_cons (ps_for PassesOwn.never rfl (pi_range1 rfl T.z_range (pa_cons (pv 1) pa_nil)) (pg_name (i:=5) sc_law_rising.nd rfl (Or.inl rfl))
        (pss_cons (ps_cut (ps_if (PW.pt (pw_or (pt_cmpR op_eq (pe_op op_mod (pe_cl C_law_cell_at hr (pa_cons (pv 0) (pa_cons pe_int pa_nil))) pe_int) pe_int (nomark _)) (pw_or1 (pt_cmpR op_lt (pv 4) pe_int (nomark _)))))
          (pss_cons (ps_set (i:=6) sc_law_rising.nd rfl (Or.inl rfl) (pe_op op_mod (pe_op op_mulB (pe_op op_add (pe_cl C_law_cell_at hr (pa_cons (pv 0) (pa_cons (pe_op op_add pe_int (pv 5)) pa_nil))) (pe_op op_mulB (pv 5) (pv 5))) pe_int) pe_int))
          (pss_one (ps_set (i:=3) sc_law_rising.nd rfl (Or.inl rfl) (pe_cl C_law_plus hr (pa_cons (pv 3) (pa_cons (pe_cl C_law_low hr (pa_cons (pe_op op_add pe_int (pe_op op_mod (pe_op op_mulB (pv 6) (pe_op op_add (pv 6) (pv 5))) pe_int)) (pa_cons (pe_op op_add pe_int (pe_op op_mod (pe_op op_fdP (pv 6) pe_int) pe_int)) pa_nil))) pa_nil))))))
          (pss_cons (ps_set (i:=3) sc_law_rising.nd rfl (Or.inl rfl) (pe_cl C_law_plus hr (pa_cons (pv 3) (pa_cons (pe_cl C_law_low hr (pa_cons (pe_op op_add pe_int (pe_op op_mod (pv 4) pe_int)) (pa_cons (pe_op op_add pe_int (pe_op op_mod (pe_op op_fdP (pv 4) pe_int) pe_int)) pa_nil))) pa_nil))))
          (pss_one (ps_set (i:=4) sc_law_rising.nd rfl (Or.inl rfl) (pe_op op_fdP (pv 4) pe_int))))))
        (pss_one (ps_expr (pe_bm PySem.F.plainAttrs_list PySem.F.slot_list_append PySem.F.type_list_append mt_append (pv 2) (pa_cons (pv 3) pa_nil))))))
      (pss_one (ps_ret (pv 2))))))),?_⟩
  refine ⟨(by show 0 ≤ sizeLine; decide),fun D hD => ?_⟩
  have u0:=same_upd hD (.lst [])
  have rD0 : Rw (upd H D (.lst [])) D []:=⟨[],upd_same,.nil⟩
  generalize upd H D (.lst []) = H0 at *
  refine ⟨(by show 2 ≤ sizeLine; decide),fun p0 hp0 => ?_⟩
  have u1:=same_upd hp0 (.tup [.int 0,.int 1])
  have k0 : Pq (upd H0 p0 (.tup [.int 0,.int 1])) p0 0:=Pq.of Pr.new ⟨rfl,rfl⟩
  have rD1:=rD0.keep u1
  have s1:=u0.trans u1
  generalize upd H0 p0 (.tup [.int 0,.int 1]) = H1 at *
  refine ⟨_,rfl,a,ns,1,rfl,s1.seq hS,?_⟩
  refine ⟨_,rfl,_,rfl,by (first | lia | omega),by (first | lia | omega),?_⟩
  rw [Int.toNat_natCast]
  refine for_range (n:=m) (fun i σ H' => (∃ (pl : Addr) (rest : Int) (v w : Option V) (qs : List Rat),σ = [some (.ref a),some (.int m),some (.ref D),some (.ref pl),some (.int rest),v,w] ∧ Pq H' pl (lastD 0 qs) ∧ Sx60 i (lastD 0 qs) ∧ Rw H' D qs ∧ qs.length = i ∧ risB 0 qs = true ∧ ∀ q ∈ qs,Sx60 26 q) ∧ Same H H')
    ⟨⟨p0,_,_,_,[],rfl,k0,⟨0,by show (0 : Rat) * 60 = 0; grind,by decide,by decide⟩,rD1,rfl,rfl,fun q hq => absurd hq (by simp)⟩,s1⟩ ?_ ?_
  · rintro i σ H2 hi ⟨⟨pl,rest,v,w',qs,rfl,kl,x60,rD,lq,rs,bq⟩,sm⟩
    refine ⟨fun σ' H' => ∃ (pl : Addr) (y : Rat) (rest : Int) (w : Option V),σ' = [some (.ref a),some (.int m),some (.ref D),some (.ref pl),some (.int rest),some (.int (0 + (i : Int))),w] ∧ Same H2 H' ∧ Pq H' pl y ∧ Sx60 (i + 1) y ∧ lastD 0 qs < y,?tl,?hd⟩
    case hd =>
      have bx:=x60.bq (by (first | lia | omega))
      have brA : ∀ (c : Int) {R : VK},True:=fun _ _ => trivial
      refine ⟨_,rfl,a,ns,0,rfl,sm.seq hS,_,_,rfl,rfl,(by show (0 : Int) < 2; decide),rfl,_,rfl,ite2 (fun _ => iteT ?_) (fun _ => ⟨_,rfl,_,_,rfl,rfl,_,rfl,ite2 (fun _ => ?_) (fun _ => ?_)⟩)⟩
      · refine ⟨_,rfl,_,rfl,_,_,rfl,rfl,a,ns,2 + i,?_,sm.seq hS,?_⟩
        · simp
        refine ⟨_,rfl,_,rfl,_,_,rfl,rfl,CMul.ok (.inl ⟨by (first | lia | omega),by (first | lia | omega)⟩),_,_,rfl,rfl,_,_,rfl,rfl,CMul.ok (.inr ⟨by decide,by decide⟩),_,_,rfl,rfl,(by show (0 : Int) < 99991; decide),?_⟩
        refine gen_int (P:=fun y => 0 ≤ y ∧ y < 99991) ((cell0 ns (2 + i) + (0 + (i : Int)) * (0 + (i : Int))) * 48271 % 99991) ⟨Int.emod_nonneg _ (by decide),Int.emod_lt_of_pos _ (by decide)⟩ fun y ⟨y0,y1⟩ => ?_
        have h1:=Int.emod_nonneg (y * (y + (0 + (i : Int)))) (show (12 : Int) ≠ 0 by decide)
        have h2:=Int.emod_lt_of_pos (y * (y + (0 + (i : Int)))) (show (0 : Int) < 12 by decide)
        have h3:=Int.emod_nonneg (y / 12) (show (6 : Int) ≠ 0 by decide)
        have h4:=Int.emod_lt_of_pos (y / 12) (show (0 : Int) < 6 by decide)
        have bs:=low_small (T:=1 + y * (y + (0 + (i : Int))) % 12) (B:=1 + y / 12 % 6) (by (first | lia | omega)) (by (first | lia | omega)) (by (first | lia | omega)) (by (first | lia | omega))
        obtain ⟨st,lt⟩:=x60.step (T:=1 + y * (y + (0 + (i : Int))) % 12) (B:=1 + y / 12 % 6) (by (first | lia | omega)) (by (first | lia | omega)) (by (first | lia | omega)) (by (first | lia | omega))
        refine ⟨_,rfl,_,rfl,_,rfl,_,rfl,_,_,rfl,rfl,_,_,rfl,rfl,CMul.ok (.inl ⟨by (first | lia | omega),by (first | lia | omega)⟩),_,_,rfl,rfl,(by show (0 : Int) < 12; decide),_,_,rfl,rfl,_,rfl,_,_,rfl,rfl,⟨by decide,bt2 (by decide +kernel)⟩,_,_,rfl,rfl,(by show (0 : Int) < 6; decide),_,_,rfl,rfl,_,_,rfl,(by show 0 < 1 + y / 12 % 6; (first | lia | omega)),Bt.between (by show _ < 1 + y / 12 % 6; (first | lia | omega)) (by show 1 + y / 12 % 6 < _; (first | lia | omega)),fun p H5 s5 k5 => ?_⟩
        exact ⟨pl,p,_,_,rfl,kl.keep s5,k5,bx.mono (by decide),bs.mono (by decide),fun r H6 s6 k6 => ⟨r,_,_,_,rfl,s5.trans s6,k6,st,lt⟩⟩
      · refine ⟨_,rfl,_,rfl,_,_,rfl,rfl,a,ns,2 + i,?_,sm.seq hS,?_⟩
        · simp
        refine ⟨_,rfl,_,rfl,_,_,rfl,rfl,CMul.ok (.inl ⟨by (first | lia | omega),by (first | lia | omega)⟩),_,_,rfl,rfl,_,_,rfl,rfl,CMul.ok (.inr ⟨by decide,by decide⟩),_,_,rfl,rfl,(by show (0 : Int) < 99991; decide),?_⟩
        refine gen_int (P:=fun y => 0 ≤ y ∧ y < 99991) ((cell0 ns (2 + i) + (0 + (i : Int)) * (0 + (i : Int))) * 48271 % 99991) ⟨Int.emod_nonneg _ (by decide),Int.emod_lt_of_pos _ (by decide)⟩ fun y ⟨y0,y1⟩ => ?_
        have h1:=Int.emod_nonneg (y * (y + (0 + (i : Int)))) (show (12 : Int) ≠ 0 by decide)
        have h2:=Int.emod_lt_of_pos (y * (y + (0 + (i : Int)))) (show (0 : Int) < 12 by decide)
        have h3:=Int.emod_nonneg (y / 12) (show (6 : Int) ≠ 0 by decide)
        have h4:=Int.emod_lt_of_pos (y / 12) (show (0 : Int) < 6 by decide)
        have bs:=low_small (T:=1 + y * (y + (0 + (i : Int))) % 12) (B:=1 + y / 12 % 6) (by (first | lia | omega)) (by (first | lia | omega)) (by (first | lia | omega)) (by (first | lia | omega))
        obtain ⟨st,lt⟩:=x60.step (T:=1 + y * (y + (0 + (i : Int))) % 12) (B:=1 + y / 12 % 6) (by (first | lia | omega)) (by (first | lia | omega)) (by (first | lia | omega)) (by (first | lia | omega))
        refine ⟨_,rfl,_,rfl,_,rfl,_,rfl,_,_,rfl,rfl,_,_,rfl,rfl,CMul.ok (.inl ⟨by (first | lia | omega),by (first | lia | omega)⟩),_,_,rfl,rfl,(by show (0 : Int) < 12; decide),_,_,rfl,rfl,_,rfl,_,_,rfl,rfl,⟨by decide,bt2 (by decide +kernel)⟩,_,_,rfl,rfl,(by show (0 : Int) < 6; decide),_,_,rfl,rfl,_,_,rfl,(by show 0 < 1 + y / 12 % 6; (first | lia | omega)),Bt.between (by show _ < 1 + y / 12 % 6; (first | lia | omega)) (by show 1 + y / 12 % 6 < _; (first | lia | omega)),fun p H5 s5 k5 => ?_⟩
        exact ⟨pl,p,_,_,rfl,kl.keep s5,k5,bx.mono (by decide),bs.mono (by decide),fun r H6 s6 k6 => ⟨r,_,_,_,rfl,s5.trans s6,k6,st,lt⟩⟩
      · have h1:=Int.emod_nonneg rest (show (12 : Int) ≠ 0 by decide)
        have h2:=Int.emod_lt_of_pos rest (show (0 : Int) < 12 by decide)
        have h3:=Int.emod_nonneg (rest / 12) (show (6 : Int) ≠ 0 by decide)
        have h4:=Int.emod_lt_of_pos (rest / 12) (show (0 : Int) < 6 by decide)
        have bs:=low_small (T:=1 + rest % 12) (B:=1 + rest / 12 % 6) (by (first | lia | omega)) (by (first | lia | omega)) (by (first | lia | omega)) (by (first | lia | omega))
        obtain ⟨st,lt⟩:=x60.step (T:=1 + rest % 12) (B:=1 + rest / 12 % 6) (by (first | lia | omega)) (by (first | lia | omega)) (by (first | lia | omega)) (by (first | lia | omega))
        refine ⟨_,rfl,_,rfl,_,_,rfl,rfl,(by show (0 : Int) < 12; decide),_,_,rfl,rfl,_,rfl,_,_,rfl,rfl,⟨by decide,bt2 (by decide +kernel)⟩,_,_,rfl,rfl,(by show (0 : Int) < 6; decide),_,_,rfl,rfl,_,_,rfl,(by show 0 < 1 + rest / 12 % 6; (first | lia | omega)),Bt.between (by show _ < 1 + rest / 12 % 6; (first | lia | omega)) (by show 1 + rest / 12 % 6 < _; (first | lia | omega)),fun p H5 s5 k5 => ?_⟩
        exact ⟨pl,p,_,_,rfl,kl.keep s5,k5,bx.mono (by decide),bs.mono (by decide),fun r H6 s6 k6 => ⟨_,rfl,_,_,rfl,rfl,⟨by decide,bt2 (by decide +kernel)⟩,r,_,_,_,rfl,s5.trans s6,k6,st,lt⟩⟩
    rintro _ H3 ⟨pl2,y,rest2,w2,rfl,s3,ky,y60,lt⟩
    obtain ⟨xs5,hxs,hxl,rw5⟩:=rD.app s3 ky
    refine ⟨_,rfl,.inl ⟨rfl,_,SqL.of hxs⟩,_,rfl,D,xs5,_,rfl,rfl,hxs,by (first | lia | omega),⟨pl2,_,_,_,qs ++ [y],rfl,?_,?_,rw5,by rw [List.length_append,lq]; rfl,?_,fun z hz' => ?_⟩,same_updF (sm.trans s3) hD _⟩
    · rw [last_snoc]
      exact ky.updL hxs
    · rw [last_snoc]
      exact y60
    · rw [ris_snoc,rs,decide_eq_true lt]
      rfl
    · rcases List.mem_append.mp hz' with c | c
      · exact bq z c
      · rw [List.mem_singleton.mp c]; exact y60.mono (by (first | lia | omega))
  · rintro σ H2 ⟨⟨pl,rest,v,w',qs,rfl,kl,x60,rD,lq,rs,bq⟩,sm⟩
    exact ⟨_,rfl,q D qs H2 sm hD rD lq rs bq⟩
theorem pickn {H : Hp} {ps : List Addr} {qs : List Rat} (k : Pqs H ps qs) {i : Int} (h0 : 0 ≤ i) (h1 : i < qs.length) : ∃ p q,atI (ps.map V.ref) i = some (.ref p) ∧ Pq H p q ∧ q ∈ qs:=by
  obtain ⟨j,rfl⟩ : ∃ j : Nat,i = j:=⟨i.toNat,by (first | lia | omega)⟩
  have hj : j < qs.length:=by (first | lia | omega)
  obtain ⟨p,e,kp⟩:=k.get (List.getElem?_eq_getElem hj)
  exact ⟨p,_,atI_nat e,kp,List.getElem_mem hj⟩
noncomputable def sp_rises56 : Sp:=fun vs H Q _ => ∃ a qs,vs = [.ref a] ∧ Rw H a qs ∧ (∀ q ∈ qs,Bq 4000 q) ∧ ∀ H',Same H H'→Q (.bl (risB 0 qs)) H'
theorem sx_pm {x : Rat} (h : Sx60 26 x) {T B : Int} (t1 : 1 ≤ T) (t2 : T ≤ 12) (b1 : 1 ≤ B) (b2 : B ≤ 12) : Bq 24 (x - (T : Rat) / (B : Rat)) ∧ Bq 24 (x + (T : Rat) / (B : Rat)):=by
  obtain ⟨m,e,h0,h1⟩:=h
  have hB : (B : Rat) ≠ 0:=fun z => by have:=Rat.intCast_eq_zero_iff.mp z; (first | lia | omega)
  have m0 : 0 ≤ m * B:=Int.mul_nonneg h0 (by (first | lia | omega))
  have m1 : m * B ≤ 18720 * 12:=Int.mul_le_mul (by (first | lia | omega)) b2 (by (first | lia | omega)) (by decide)
  have e60 : ((60 : Int) : Rat) = 60:=rfl
  refine ⟨bq_of (T:=m * B - 60 * T) (M:=60 * B) (by (first | lia | omega)) ?_ (Bt.between (by (first | lia | omega)) (by (first | lia | omega))) (Bt.between (by (first | lia | omega)) (by (first | lia | omega))),bq_of (T:=m * B + 60 * T) (M:=60 * B) (by (first | lia | omega)) ?_ (Bt.between (by (first | lia | omega)) (by (first | lia | omega))) (Bt.between (by (first | lia | omega)) (by (first | lia | omega)))⟩
  · rw [Rat.intCast_sub,Rat.intCast_mul,Rat.intCast_mul,Rat.intCast_mul,e60,← e]
    generalize (T : Rat) = u at *
    generalize (B : Rat) = v at *
    grind
  · rw [Rat.intCast_add,Rat.intCast_mul,Rat.intCast_mul,Rat.intCast_mul,e60,← e]
    generalize (T : Rat) = u at *
    generalize (B : Rat) = v at *
    grind
theorem mem_set {qs : List Rat} {q : Rat} {i : Nat} {b : Nat} (h : ∀ x ∈ qs,Bq b x) (hq : Bq b q) : ∀ x ∈ qs.set i q,Bq b x:=fun x hx => by
  rcases List.mem_or_eq_of_mem_set hx with z | z
  · exact h x z
  · rw [z]; exact hq
theorem sc_law_rises : FnScope ["_law_row","_law_last","_law_worth"] ["_law_row"] (defScope s_law_rises):=⟨rfl,rfl,rfl,by decide +kernel,rfl,by decide +kernel,by decide +kernel⟩
set_option maxHeartbeats 1000000 in
theorem ok_law_rises (F : Fun K "_law_rises" "_law_rises" s_law_rises f fd) (T : Txt mg) : FnOk P w K mg base CX0 1 f fd ["_law_row"] sp_rises56:=by
  refine F.ok sc_law_rises (fun vs H Q E h => ?_) (fun cdv A outer s H vs Q E hr h => ?_)
  · obtain ⟨a,qs,rfl,_⟩:=h
    rfl
  obtain ⟨a,qs,rfl,⟨ps,ea,kp⟩,bq,q⟩:=h
  have lp:=kp.length
  refine ⟨_,(pss_cons (ps_set (i:=1) sc_law_rises.nd rfl (Or.inl rfl) (pe_tup (pa_cons pe_int (pa_cons pe_int pa_nil))))
      (pss_cons (ps_for PassesOwn.never rfl (pi_list (pv 0)) (pg_name (i:=2) sc_law_rises.nd rfl (Or.inl rfl))
        (pss_cons (ps_if (pt_cmpR op_ge (pe_op op_mulB (pe_ix ix_tup (pv 1) pe_int (fun _ _ => rfl)) (pe_ix ix_tup (pv 2) pe_int (fun _ _ => rfl))) (pe_op op_mulB (pe_ix ix_tup (pv 2) pe_int (fun _ _ => rfl)) (pe_ix ix_tup (pv 1) pe_int (fun _ _ => rfl))) (nomark _))
          (pss_one (ps_ret pe_bl))
          pss_nil)
        (pss_one (ps_set (i:=1) sc_law_rises.nd rfl (Or.inl rfl) (pv 2)))))
      (pss_one (ps_ret pe_bl)))),?_⟩
  refine ⟨(by show 2 ≤ sizeLine; decide),fun p0 hp0 => ?_⟩
  have s0:=same_upd hp0 (.tup [.int 0,.int 1])
  have k0 : Pq (upd H p0 (.tup [.int 0,.int 1])) p0 0:=Pq.of Pr.new ⟨rfl,rfl⟩
  generalize upd H p0 (.tup [.int 0,.int 1]) = H0 at *
  have ea:=s0 _ _ ea
  have kp:=kp.keep s0
  refine ⟨_,rfl,a,rfl,⟨_,SqL.of ea⟩,?_⟩
  refine for_list (xs:=ps.map V.ref) (fun i σ H' => H0 = H' ∧ ∃ (pl : Addr) (x : Rat) (v : Option V),σ = [some (.ref a),some (.ref pl),v] ∧ Pq H0 pl x ∧ Bq 4000 x ∧ risB 0 qs = risB x (qs.drop i)) ⟨rfl,p0,0,_,rfl,k0,Bq.zero (by decide),rfl⟩ ?_ ?_ ?_
  · rintro i σ _ _ ⟨rfl,_⟩
    exact SqL.of ea
  · rintro i x σ _ hi ⟨rfl,pl,y,v,rfl,kl,by',hr'⟩
    have hlt : i < qs.length:=by
      have:=(List.getElem?_eq_some_iff.mp hi).1
      rw [List.length_map] at this
      (first | lia | omega)
    obtain ⟨p1,e1,k1⟩:=kp.get (List.getElem?_eq_getElem hlt)
    obtain rfl : x = .ref p1:=Option.some.inj (hi.symm.trans e1)
    have b1:=bq _ (List.getElem_mem hlt)
    rw [List.drop_eq_getElem_cons hlt] at hr'
    have hr2 : risB 0 qs = (decide (y < qs[i]) && risB qs[i] (qs.drop (i + 1))):=hr'
    refine ⟨_,rfl,_,_,_,_,rfl,rfl,kl.sq,rfl,_,rfl,_,_,_,_,rfl,rfl,k1.sq,rfl,_,_,rfl,rfl,mul_of by'.1 b1.2 (by decide),_,rfl,_,_,_,_,rfl,rfl,k1.sq,rfl,_,rfl,_,_,_,_,rfl,rfl,kl.sq,rfl,_,_,rfl,rfl,mul_of b1.1 by'.2 (by decide),_,_,rfl,rfl,_,rfl,?_⟩
    refine ite2 (fun c => ?_) (fun c => ?_)
    · have c' : qs[i].num * (y.den : Int) ≤ y.num * (qs[i].den : Int):=of_decide_eq_true c
      have n : ¬ y < qs[i]:=fun z => by have:=(Rat.lt_iff _ _).mp z; (first | lia | omega)
      rw [decide_eq_false n,Bool.false_and] at hr2
      have fin:=q H0 s0
      rw [hr2] at fin
      exact fin
    · have c' : ¬ qs[i].num * (y.den : Int) ≤ y.num * (qs[i].den : Int):=of_decide_eq_false (Bool.eq_false_iff.mpr c)
      have n : y < qs[i]:=(Rat.lt_iff _ _).mpr (by (first | lia | omega))
      rw [decide_eq_true n,Bool.true_and] at hr2
      exact ⟨_,rfl,rfl,p1,_,_,rfl,k1,b1,hr2⟩
  · rintro σ _ ⟨rfl,pl,x,v,rfl,_,_,hr'⟩
    rw [List.length_map,lp,List.drop_length] at hr'
    have fin:=q H0 s0
    rw [hr'] at fin
    exact fin
theorem sc_law_in_turns : FnScope ["_law_looses","_law_helds","_law_row","_law_one","_law_other"] ["_law_looses","_law_helds"] (defScope s_law_in_turns):=⟨rfl,rfl,rfl,by decide +kernel,rfl,by decide +kernel,by decide +kernel⟩
set_option maxHeartbeats 1000000 in
theorem ok_law_in_turns (F : Fun K "_law_in_turns" "_law_in_turns" s_law_in_turns f fd) (T : Txt mg) : FnOk P w K mg base CX0 1 f fd ["_law_looses","_law_helds"] sp_inturns:=by
  refine F.ok sc_law_in_turns (fun vs H Q E h => ?_) (fun cdv A outer s H vs Q E hr h => ?_)
  · obtain ⟨a,b,ls,us,rfl,_⟩:=h
    rfl
  obtain ⟨a,b,ls,us,rfl,⟨pa,ea,ka⟩,⟨pb,eb,kb⟩,hlen,hl,q⟩:=h
  have la:=ka.length
  have lb:=kb.length
  have hz : (1000 : Nat) < sizeLine:=by decide
  refine ⟨_,(pss_cons (ps_set (i:=2) sc_law_in_turns.nd rfl (Or.inl rfl) (pe_lst pa_nil))
      (pss_cons (ps_for PassesOwn.never rfl (pi_zip rfl T.z_zip (pa_cons (pv 0) (pa_cons (pv 1) pa_nil))) (pg_tup rfl (pgs_cons (pg_name (i:=3) sc_law_in_turns.nd rfl (Or.inl rfl)) (pgs_cons (pg_name (i:=4) sc_law_in_turns.nd rfl (Or.inl rfl)) pgs_nil)))
        (pss_one (ps_set (i:=2) sc_law_in_turns.nd rfl (Or.inl rfl) (pe_op op_cat (pv 2) (pe_lst (pa_cons (pv 3) (pa_cons (pv 4) pa_nil)))))))
      (pss_one (ps_ret (pv 2))))),?_⟩
  refine ⟨(by show 0 ≤ sizeLine; decide),fun D hD => ?_⟩
  have s0:=same_upd hD (.lst [])
  have eD : Rw (upd H D (.lst [])) D []:=⟨[],upd_same,.nil⟩
  generalize upd H D (.lst []) = H0 at *
  refine ⟨_,rfl,_,rfl,a,b,rfl,⟨_,SqL.of (s0 _ _ ea)⟩,⟨_,SqL.of (s0 _ _ eb)⟩,?_⟩
  refine for_zip (xs:=pa.map V.ref) (ys:=pb.map V.ref) ls.length (by rw [List.length_map,List.length_map]; (first | lia | omega)) (fun i σ H' => ∃ D,(∃ v u,σ = [some (.ref a),some (.ref b),some (.ref D),v,u]) ∧ Same H H' ∧ H D = none ∧ Rw H' D (trn (ls.take i) (us.take i))) ⟨D,⟨_,_,rfl⟩,s0,hD,eD⟩ ?_ ?_ ?_
  · rintro i σ H1 _ ⟨_,_,sm,_⟩
    exact ⟨SqL.of (sm _ _ ea),SqL.of (sm _ _ eb)⟩
  · rintro i x y σ H1 T0 hx hy ⟨D,⟨v,u,rfl⟩,sm0,hD,rD0⟩ hT
    have hi : i < ls.length:=by
      have h:=(List.getElem?_eq_some_iff.mp hx).1
      rw [List.length_map] at h
      (first | lia | omega)
    have hi2 : i < us.length:=by (first | lia | omega)
    obtain ⟨p1,e1,k1⟩:=ka.get (List.getElem?_eq_getElem hi)
    obtain rfl : x = .ref p1:=Option.some.inj (hx.symm.trans e1)
    obtain ⟨p2,e2,k2⟩:=kb.get (List.getElem?_eq_getElem hi2)
    obtain rfl : y = .ref p2:=Option.some.inj (hy.symm.trans e2)
    refine ⟨T0,_,rfl,SqT.of upd_same,rfl,_,_,rfl,_,_,rfl,rfl,?_⟩
    have sT:=same_upd hT (.tup [.ref p1,.ref p2])
    have sm:=sm0.trans sT
    obtain ⟨pd,ed,kd⟩:=rD0.keep sT
    generalize upd H1 T0 (.tup [.ref p1,.ref p2]) = H2 at *
    have lt : (trn (ls.take i) (us.take i)).length = 2 * i:=by
      rw [trn_len (by rw [List.length_take,List.length_take]; (first | lia | omega)),List.length_take]
      (first | lia | omega)
    have ld:=kd.length
    refine ⟨_,rfl,_,rfl,_,rfl,(by show 2 ≤ sizeLine; decide),fun m1 hm1 => ?_⟩
    have v1:=same_upd hm1 (.lst [.ref p1,.ref p2])
    refine ⟨D,m1,_,_,rfl,rfl,v1 _ _ ed,upd_same,by simp only [List.length_map,List.length_cons,List.length_nil]; (first | lia | omega),fun m2 hm2 => ?_⟩
    have k1':=(k1.keep sm).keep v1
    have k2':=(k2.keep sm).keep v1
    have t2:=Rw.cat (rs:=[p1,p2]) (kd.keep v1) (.cons k1' (.cons k2' .nil)) hm2
    have v2:=same_upd hm2 (.lst (pd.map V.ref ++ [p1,p2].map V.ref))
    have s2:=sm.trans (v1.trans v2)
    refine ⟨m2,⟨_,_,rfl⟩,s2,(sm.trans v1).free hm2,?_⟩
    rw [List.take_succ_eq_append_getElem hi,List.take_succ_eq_append_getElem hi2,trn_snoc _ _ (by rw [List.length_take,List.length_take]; (first | lia | omega)),List.append_assoc]
    exact t2
  · rintro σ H1 ⟨D,⟨v,u,rfl⟩,sm,hD,rD⟩
    rw [List.take_length,show us.take ls.length = us by rw [hlen,List.take_length]] at rD
    exact ⟨_,rfl,q D H1 sm hD rD⟩
noncomputable def sp_asked56 (C cN : Addr) : Sp:=fun vs H Q E => (∃ a b,vs = [a,.non,b] ∧ sp_evenX C cN [a,b] H Q E) ∨ ∃ a l b,vs = [a,.ref l,b] ∧ sp_cordofX C cN [a,.ref l,b] H Q E
theorem sc_law_asked : FnScope ["_law_helds","_law_looses","_law_length"] ["_law_helds","_law_looses","_law_length"] (defScope s_law_asked):=⟨rfl,rfl,rfl,by decide +kernel,rfl,by decide +kernel,by decide +kernel⟩
set_option maxHeartbeats 1000000 in
theorem ok_law_asked {o_Cord c_NoWorth : Addr} (F : ∃ (oc : Value) (od : Option Addr) (kV doc pm : Value) (an : Option Addr) (cdv ct : Value) (osl : Array (Option Value)),
      fd = PySem.W.fnOf "_law_asked" "_law_asked" (defArgs s_law_asked) (defBody s_law_asked) (defScope s_law_asked) .none kV doc pm an cdv ct ∧ K.lookup f = some ⟨oc,od,.func fd,osl⟩ ∧ PySem.W.codeIn K cdv "_law_asked" = true)
    (T : Txt mg) (C_even : CalX P w K mg base "even" 7 ["helds","length"] [] [] (sp_evenX o_Cord c_NoWorth)) (C_cord_of : CalX P w K mg base "cord_of" 7 ["helds","looses","length"] [] [] (sp_cordofX o_Cord c_NoWorth)) : FnOk P w K mg base (CXe P w) 8 f fd ["_law_helds","_law_looses","_law_length"] (sp_asked56 o_Cord c_NoWorth):=by
  refine okX F sc_law_asked (fun vs H Q E h => ?_) (fun cdv A outer s H vs Q E hr h => ?_)
  · rcases h with ⟨a,b,rfl,_⟩ | ⟨a,l,b,rfl,_⟩
    · rfl
    · rfl
  refine ⟨_,(pss_cons (ps_if (pt_cmpR op_isN (pv 1) pe_non (nomark _))
        (pss_one (ps_ret (pe_clX C_even hr (pa_cons (pv 0) (pa_cons (pv 2) pa_nil)))))
        pss_nil)
      (pss_one (ps_ret (pe_clX C_cord_of hr (pa_cons (pv 0) (pa_cons (pv 1) (pa_cons (pv 2) pa_nil))))))),?_⟩
  rcases h with ⟨a,b,rfl,h⟩ | ⟨a,l,b,rfl,h⟩
  · refine ⟨_,rfl,rfl,_,rfl,iteT ⟨_,rfl,_,rfl,?_⟩⟩
    exact h
  · refine ⟨_,rfl,rfl,_,rfl,iteF ⟨_,rfl,_,rfl,_,rfl,?_⟩⟩
    exact h
noncomputable def sp_answer56 (C : Addr) : Sp:=fun vs H Q _ => (∃ ha p us c,vs = [.ref ha,.non,.ref p] ∧ Rw H ha us ∧ Pq H p c ∧ (∀ q ∈ us,Bq 24 q) ∧ Bq 8 c ∧ us.length ≤ 13 ∧ (EvGood us c→∃ G W,Hfx c us G W) ∧ (EvGood us c→∀ H',Same H H'→Q (.int us.length) H') ∧ (¬ EvGood us c→∀ H',Same H H'→Q (.int (-1)) H')) ∨
  ∃ ha la p us ls c,vs = [.ref ha,.ref la,.ref p] ∧ Rw H ha us ∧ Rw H la ls ∧ Pq H p c ∧ (∀ q ∈ ls,Bq 24 q) ∧ (∀ q ∈ us,Bq 24 q) ∧ Bq 8 c ∧ us.length ≤ 13 ∧ ls.length ≤ 13 ∧ (CoGood ls us c→∃ gs ws,Po.Cd c ls us gs ws) ∧ (CoGood ls us c→∀ H',Same H H'→Q (.int us.length) H') ∧ (¬ CoGood ls us c→∀ H',Same H H'→Q (.int (-1)) H')
theorem sc_law_answer : FnScope ["_law_helds","_law_looses","_law_length","_law_cord","e"] ["_law_helds","_law_looses","_law_length"] (defScope s_law_answer):=⟨rfl,rfl,rfl,by decide +kernel,rfl,by decide +kernel,by decide +kernel⟩
set_option maxHeartbeats 2000000 in
theorem ok_law_answer {c_NoWorth c_CordError c_NoBead c_NoCord c_NoFraction c_NoName c_NoText : Addr} (F : Fun K "_law_answer" "_law_answer" s_law_answer f fd) (T : Txt mg) (R : Errs K mg c_NoWorth c_CordError c_NoBead c_NoCord c_NoFraction c_NoName c_NoText) (C_law_asked : CalX P w K mg base "_law_asked" 8 ["_law_helds","_law_looses","_law_length"] [] [] (sp_asked56 o_Cord c_NoWorth)) (C_Cord_beads : CalM P w K mg base o_Cord "beads" 1 ["self"] (sp_beads o_Cord)) : FnOk P w K mg base CX0 9 f fd ["_law_helds","_law_looses","_law_length"] (sp_answer56 o_Cord):=by
  refine F.ok sc_law_answer (fun vs H Q E h => ?_) (fun cdv A outer s H vs Q E hr h => ?_)
  · rcases h with ⟨ha,p,us,c,rfl,_⟩ | ⟨ha,la,p,us,ls,c,rfl,_⟩
    · rfl
    · rfl
  refine ⟨_,(pss_cons (ps_try 4 (psx_set (i:=3) C_law_asked hr sc_law_answer.nd rfl (Or.inl rfl) (pa_cons (pv 0) (pa_cons (pv 1) (pa_cons (pv 2) pa_nil)))) R.m_CordError (fun _ =>
        (pss_cons (ps_if (PW.pt (pw_or (pt_val (pe_callB call_isiET rfl T.z_isinstance boot_isinstance (pa_cons (pv 4) (pa_cons (pe_tup (pa_cons (pe_glob (v:=.ref _) rfl R.m_NoBead rfl) (pa_cons (pe_glob (v:=.ref _) rfl R.m_NoCord rfl) (pa_cons (pe_glob (v:=.ref _) rfl R.m_NoFraction rfl) (pa_cons (pe_glob (v:=.ref _) rfl R.m_NoName rfl) (pa_cons (pe_glob (v:=.ref _) rfl R.m_NoText rfl) pa_nil)))))) pa_nil)))) (pw_or1 (pt_not (pt_val (pe_callB call_isiE rfl T.z_isinstance boot_isinstance (pa_cons (pv 4) (pa_cons (pe_bltn (v:=.ty "ValueError") rfl T.z_ValueError PyProof.Rows.Boot.«ValueError» rfl) pa_nil))))))))
          (pss_one (ps_ret (pe_un un_neg pe_int)))
          pss_nil)
        (pss_one (ps_ret (pe_ix ix_list (pe_lst (pa_cons (pe_un un_neg pe_int) (pa_cons (pe_un un_neg pe_int) pa_nil))) (pe_callTy call_int_bl rfl T.z_int boot_int (pa_cons (pe_callB call_isiE rfl T.z_isinstance boot_isinstance (pa_cons (pv 4) (pa_cons (pe_glob (v:=.ref _) rfl R.m_NoWorth rfl) pa_nil))) pa_nil)) (fun _ _ => rfl)))))) sc_law_answer.nd)
      (pss_one (ps_ret (pe_m0 C_Cord_beads hr (pv 3))))),?_⟩
  rcases h with ⟨ha,p,us,c,rfl,rh,kp,bu,bc,n13,g,q1,q0⟩ | ⟨ha,la,p,us,ls,c,rfl,rh,rl,kp,bl,bu,bc,n1,n2,g,q1,q0⟩
  · refine ⟨_,rfl,_,rfl,_,rfl,.inl ⟨_,_,rfl,ha,p,us,c,rfl,rh,kp,bu,bc,n13,fun ne H1 s1 => ⟨R.x_NoWorth,fun x hx => ?_⟩,fun go => ?_⟩⟩
    · have u1:=same_upd hx (.ext (ExcAt x (.ref c_NoWorth)))
      refine ⟨_,rfl,(by show 5 ≤ sizeLine; decide),fun tp' htp => ?_⟩
      have u2:=same_upd htp (.tup [.ref c_NoBead,.ref c_NoCord,.ref c_NoFraction,.ref c_NoName,.ref c_NoText])
      refine ⟨x,tp',_,_,c_NoWorth,false,rfl,upd_same,rfl,u2 _ _ upd_same,R.e_NoWorth,R.ka_NoWorth,_,rfl,iteF ?_⟩
      refine ⟨_,rfl,_,_,_,_,_,rfl,rfl,u2 _ _ upd_same,R.e_NoWorth,R.k_NoWorth_ValueError,_,rfl,iteF ?_⟩
      refine ⟨_,rfl,_,rfl,(by show 2 ≤ sizeLine; decide),fun L hL => ?_⟩
      have u3:=same_upd hL (.lst [V.int (-2),V.int (-1)])
      exact ⟨_,rfl,_,_,_,_,_,rfl,rfl,u3 _ _ (u2 _ _ upd_same),R.e_NoWorth,R.k_NoWorth_NoWorth,_,rfl,L,_,_,_,rfl,rfl,SqL.of upd_same,rfl,q0 ne _ (s1.trans (u1.trans (u2.trans u3)))⟩
    · obtain ⟨G,W,hf⟩:=g go
      refine ⟨G,W,hf,fun r g1 w1 H1 s1 nr ng nw co => ?_⟩
      obtain ⟨dx,ec⟩:=co.1
      refine ⟨_,rfl,r,dx,_,rfl,ec,rfl,r,g1,w1,G,W,rfl,co,?_⟩
      rw [(hf.fine go.1).2]
      exact q1 go H1 s1
  · refine ⟨_,rfl,_,rfl,_,rfl,.inr ⟨_,_,_,rfl,ha,la,p,us,ls,c,rfl,rh,rl,kp,bl,bu,bc,n1,n2,fun ne H1 s1 => ⟨R.x_NoWorth,fun x hx => ?_⟩,fun go => ?_⟩⟩
    · have u1:=same_upd hx (.ext (ExcAt x (.ref c_NoWorth)))
      refine ⟨_,rfl,(by show 5 ≤ sizeLine; decide),fun tp' htp => ?_⟩
      have u2:=same_upd htp (.tup [.ref c_NoBead,.ref c_NoCord,.ref c_NoFraction,.ref c_NoName,.ref c_NoText])
      refine ⟨x,tp',_,_,c_NoWorth,false,rfl,upd_same,rfl,u2 _ _ upd_same,R.e_NoWorth,R.ka_NoWorth,_,rfl,iteF ?_⟩
      refine ⟨_,rfl,_,_,_,_,_,rfl,rfl,u2 _ _ upd_same,R.e_NoWorth,R.k_NoWorth_ValueError,_,rfl,iteF ?_⟩
      refine ⟨_,rfl,_,rfl,(by show 2 ≤ sizeLine; decide),fun L hL => ?_⟩
      have u3:=same_upd hL (.lst [V.int (-2),V.int (-1)])
      exact ⟨_,rfl,_,_,_,_,_,rfl,rfl,u3 _ _ (u2 _ _ upd_same),R.e_NoWorth,R.k_NoWorth_NoWorth,_,rfl,L,_,_,_,rfl,rfl,SqL.of upd_same,rfl,q0 ne _ (s1.trans (u1.trans (u2.trans u3)))⟩
    · obtain ⟨gs,ws,hf⟩:=g go
      refine ⟨gs,ws,hf,fun r g1 w1 H1 s1 nr ng nw co => ?_⟩
      obtain ⟨dx,ec⟩:=co.1
      refine ⟨_,rfl,r,dx,_,rfl,ec,rfl,r,g1,w1,gs,ws,rfl,co,?_⟩
      rw [show ws.length = us.length by rw [hf.lw]; exact go.1]
      exact q1 go H1 s1
noncomputable def sp_spoiled : Sp:=fun vs H Q _ => ∃ (r : Addr) (qs : List Rat) (way at' cell : Int),vs = [.ref r,.int way,.int at',.int cell] ∧ Rw H r qs ∧ qs.length ≤ 26 ∧ (∀ q ∈ qs,Sx60 26 q) ∧ ∀ r' qs' H',Same H H'→H r' = none→Rw H' r' qs'→qs'.length = qs.length→(∀ q ∈ qs',Bq 24 q)→Q (.ref r') H'
theorem sc_law_spoiled : FnScope ["_law_row","_law_way","_law_at","_law_cell","_law_made","_law_ahead","_law_more"] ["_law_row","_law_way","_law_at","_law_cell"] (defScope s_law_spoiled):=⟨rfl,rfl,rfl,by decide +kernel,rfl,by decide +kernel,by decide +kernel⟩
set_option maxHeartbeats 4000000 in
theorem ok_law_spoiled (F : Fun K "_law_spoiled" "_law_spoiled" s_law_spoiled f fd) (T : Txt mg) (C_law_low : Cal P w K mg base "_law_low" 1 ["_law_top","_law_bottom"] sp_lowQ) (C_law_plus : Cal P w K mg base "_law_plus" 2 ["_law_one","_law_other"] (sp_bin 3900 (· + ·))) (C_law_minus : Cal P w K mg base "_law_minus" 2 ["_law_one","_law_other"] (sp_bin 3900 (· - ·))) : FnOk P w K mg base CX0 3 f fd ["_law_row","_law_way","_law_at","_law_cell"] sp_spoiled:=by
  refine F.ok sc_law_spoiled (fun vs H Q E h => ?_) (fun cdv A outer s H vs Q E hr h => ?_)
  · obtain ⟨r,qs,way,at',cell,rfl,_⟩:=h
    rfl
  obtain ⟨ra,qs,way,at',cell,rfl,rq,l26,sx,q⟩:=h
  have hz : (1000 : Nat) < sizeLine:=by decide
  obtain ⟨ps,ep,kp⟩:=id rq
  have lp:=kp.length
  refine ⟨_,(pss_cons (ps_set (i:=4) sc_law_spoiled.nd rfl (Or.inl rfl) (pe_callTy call_list_of rfl T.z_list boot_list (pa_cons (pv 0) pa_nil)))
      (pss_cons (ps_if (PW.pt (pw_or (pt_cmpR op_eq (pe_callB call_len_seq rfl T.z_len PySem.boot_len (pa_cons (pv 0) pa_nil)) pe_int (nomark _)) (pw_or1 (pt_cmpR op_eq (pe_op op_mod (pv 1) pe_int) pe_int (nomark _)))))
        (pss_one (ps_ret (pv 4)))
        pss_nil)
      (pss_cons (ps_set (i:=2) sc_law_spoiled.nd rfl (Or.inl rfl) (pe_op op_mod (pv 2) (pe_callB call_len_seq rfl T.z_len PySem.boot_len (pa_cons (pv 0) pa_nil))))
      (pss_cons (ps_set (i:=5) sc_law_spoiled.nd rfl (Or.inl rfl) (pe_tup (pa_cons pe_int (pa_cons pe_int pa_nil))))
      (pss_cons (ps_cut (ps_if (pt_cmpR op_gt (pv 2) pe_int (nomark _))
        (pss_one (ps_set (i:=5) sc_law_spoiled.nd rfl (Or.inl rfl) (pe_ix ix_list (pv 0) (pe_op op_sub (pv 2) pe_int) (fun _ _ => rfl))))
        pss_nil))
      (pss_cons (ps_set (i:=6) sc_law_spoiled.nd rfl (Or.inl rfl) (pe_cl C_law_low hr (pa_cons (pe_op op_add pe_int (pe_op op_mod (pv 3) pe_int)) (pa_cons (pe_op op_add pe_int (pe_op op_mod (pe_op op_fdP (pv 3) pe_int) pe_int)) pa_nil))))
      (pss_cons (ps_asg (pe_ix ix_list (PEw.h (w_lst (aw_nam (w_any (pv 5)) (aw_cal (w_any (pe_cl C_law_minus hr (pa_cons (pv 5) (pa_cons (pv 6) pa_nil)))) (aw_tup (w_tup (aw_con w_int (aw_con w_int aw_nil))) (aw_tup (w_any (pe_tup (pa_cons (pe_un un_neg (pe_ix ix_tup (pv 6) pe_int (fun _ _ => rfl))) (pa_cons (pe_ix ix_tup (pv 6) pe_int (fun _ _ => rfl)) pa_nil)))) (aw_cal (w_any (pe_cl C_law_plus hr (pa_cons (pe_ix ix_list (pv 0) (pe_un un_neg pe_int) (fun _ _ => rfl)) (pa_cons (pv 6) pa_nil)))) aw_nil))))))) (pe_op op_mod (pv 1) pe_int) (fun _ _ => rfl)) (pg_sub (pv 4) (pv 2) set_list))
      (pss_one (ps_ret (pv 4)))))))))),?_⟩
  have bq : ∀ q ∈ qs,Bq 24 q:=fun q h => (sx q h).bq (by decide)
  refine ⟨_,rfl,ra,_,rfl,.inl (SqL.of ep),fun D hD => ?_⟩
  have u1:=same_upd hD (.lst (ps.map V.ref))
  have rD:=rq.copy ep hD
  have ep1:=u1 _ _ ep
  have kp1:=kp.keep u1
  generalize upd H D (.lst (ps.map V.ref)) = H1 at *
  refine ⟨_,rfl,_,_,rfl,.inl (SqL.of ep1),rfl,_,rfl,ite2 (fun _ => iteT ?_) (fun c1 => ⟨_,rfl,_,_,rfl,rfl,(by show (0 : Int) < 6; decide),rfl,_,rfl,ite2 (fun _ => ?_) (fun c2 => ?_)⟩)⟩
  · exact ⟨_,rfl,q D qs H1 u1 hD rD rfl bq⟩
  · exact ⟨_,rfl,q D qs H1 u1 hD rD rfl bq⟩
  have hn : 0 < qs.length:=by
    have : ¬ ((ps.map V.ref).length : Int) = 0:=fun z => of_decide_eq_false (Bool.eq_false_iff.mpr c1) (congrArg V.int z)
    rw [List.length_map] at this
    (first | lia | omega)
  have hnI : (0 : Int) < ((ps.map V.ref).length : Int):=by rw [List.length_map]; (first | lia | omega)
  have hw : ¬ way % 6 = 5:=fun z => of_decide_eq_false (Bool.eq_false_iff.mpr c2) (congrArg V.int z)
  have w0:=Int.emod_nonneg way (show (6 : Int) ≠ 0 by decide)
  have w1:=Int.emod_lt_of_pos way (show (0 : Int) < 6 by decide)
  refine ⟨_,rfl,_,rfl,_,_,rfl,.inl (SqL.of ep1),_,_,rfl,rfl,hnI,?_⟩
  refine gen_int (P:=fun y => 0 ≤ y ∧ y < (qs.length : Int)) (at' % ((ps.map V.ref).length : Int)) ⟨Int.emod_nonneg at' (Int.ne_of_gt hnI),?_⟩ fun k ⟨a0,a1⟩ => ?_
  · have a1:=Int.emod_lt_of_pos at' hnI
    rw [List.length_map,lp] at a1 ⊢
    exact a1
  refine ⟨(by show 2 ≤ sizeLine; decide),fun p0 hp0 => ?_⟩
  have u2:=same_upd hp0 (.tup [.int 0,.int 1])
  have k0 : Pq (upd H1 p0 (.tup [.int 0,.int 1])) p0 0:=Pq.of Pr.new ⟨rfl,rfl⟩
  have ep2:=u2 _ _ ep1
  have kp2:=kp1.keep u2
  have rD2:=rD.keep u2
  have s2:=u1.trans u2
  clear u1 u2 ep1 kp1 rD hp0
  generalize upd H1 p0 (.tup [.int 0,.int 1]) = H2 at *
  refine ⟨fun σ' H' => ∃ (pa : Addr) (x : Rat),σ' = [some (.ref ra),some (.int way),some (.int k),some (.int cell),some (.ref D),some (.ref pa),none] ∧ H' = H2 ∧ Pq H2 pa x ∧ Sx60 26 x,?tl,?hd⟩
  case hd =>
    refine ⟨_,rfl,_,_,rfl,rfl,_,rfl,ite2 (fun c => ?_) (fun c => ⟨p0,0,rfl,rfl,k0,⟨0,by show (0 : Rat) * 60 = 0; grind,by decide,by decide⟩⟩)⟩
    have c' : 0 < k:=of_decide_eq_true c
    obtain ⟨j,hj⟩ : ∃ j : Nat,k - 1 = j:=⟨(k - 1).toNat,by (first | lia | omega)⟩
    have hj' : j < qs.length:=by (first | lia | omega)
    obtain ⟨p1,e1,k1⟩:=kp2.get (List.getElem?_eq_getElem hj')
    refine ⟨_,rfl,_,rfl,_,_,rfl,rfl,ra,_,_,_,rfl,rfl,SqL.of ep2,?_,p1,_,rfl,rfl,k1,sx _ (List.getElem_mem hj')⟩
    rw [hj]
    exact atI_nat e1
  rintro _ _ ⟨pa,x,rfl,rfl,kx,x60⟩
  have i1:=Int.emod_nonneg cell (show (12 : Int) ≠ 0 by decide)
  have i2:=Int.emod_lt_of_pos cell (show (0 : Int) < 12 by decide)
  have i3:=Int.emod_nonneg (cell / 12) (show (12 : Int) ≠ 0 by decide)
  have i4:=Int.emod_lt_of_pos (cell / 12) (show (0 : Int) < 12 by decide)
  refine ⟨_,rfl,_,_,rfl,rfl,(by show (0 : Int) < 12; decide),_,_,rfl,rfl,_,rfl,_,_,rfl,rfl,⟨by decide,bt2 (by decide +kernel)⟩,_,_,rfl,rfl,(by show (0 : Int) < 12; decide),_,_,rfl,rfl,_,_,rfl,(by show 0 < 1 + cell / 12 % 12; (first | lia | omega)),Bt.between (by show _ < 1 + cell / 12 % 12; (first | lia | omega)) (by show 1 + cell / 12 % 12 < _; (first | lia | omega)),fun pm H3 s3 km => ?_⟩
  have hT : 1 ≤ 1 + cell % 12 ∧ 1 + cell % 12 ≤ 12:=by (first | lia | omega)
  have hB : 1 ≤ 1 + cell / 12 % 12 ∧ 1 + cell / 12 % 12 ≤ 12:=by (first | lia | omega)
  replace km : Pq H3 pm (((1 + cell % 12 : Int) : Rat) / ((1 + cell / 12 % 12 : Int) : Rat)):=km
  generalize 1 + cell % 12 = T1 at *
  generalize 1 + cell / 12 % 12 = B1 at *
  have bm : Bq 4 ((T1 : Rat) / (B1 : Rat)):=bq_of (T:=T1) (M:=B1) (by (first | lia | omega)) rfl (Bt.between (by (first | lia | omega)) (by (first | lia | omega))) (Bt.between (by (first | lia | omega)) (by (first | lia | omega)))
  have b1:=(sx_pm x60 hT.1 hT.2 hB.1 hB.2).1
  have hl : qs.length - 1 < qs.length:=by (first | lia | omega)
  have xl:=sx _ (List.getElem_mem hl)
  have b2:=(sx_pm xl hT.1 hT.2 hB.1 hB.2).2
  have bx : Bq 24 x:=x60.bq (by decide)
  have bl : Bq 24 qs[qs.length - 1]:=xl.bq (by decide)
  have bm' : Bq 24 (-((T1 : Rat) / (B1 : Rat))):=(bm.mono (by decide)).neg
  generalize ((T1 : Rat) / (B1 : Rat)) = m at *
  refine ⟨_,rfl,_,rfl,_,rfl,pa,pm,_,_,rfl,kx.keep s3,km,bx.mono (by decide),bm.mono (by decide),fun v1 H4 s4 k4 => ?_⟩
  have s34:=s3.trans s4
  refine ⟨(by show 2 ≤ sizeLine; decide),fun v2 hv2 => ?_⟩
  have u5:=same_upd hv2 (.tup [.int 0,.int 1])
  have k5 : Pq (upd H4 v2 (.tup [.int 0,.int 1])) v2 0:=Pq.of Pr.new ⟨rfl,rfl⟩
  have km5:=km.keep (s4.trans u5)
  refine ⟨_,rfl,_,_,_,_,rfl,rfl,km5.sq,rfl,_,rfl,_,rfl,_,_,_,_,rfl,rfl,km5.sq,rfl,(by show 2 ≤ sizeLine; decide),fun v3 hv3 => ?_⟩
  have u6:=same_upd hv3 (.tup [.int (-m.num),.int m.den])
  have k6 : Pq (upd (upd H4 v2 (.tup [.int 0,.int 1])) v3 (.tup [.int (-m.num),.int m.den])) v3 (-m):=Pq.of Pr.new ⟨by rw [Rat.neg_num],by rw [Rat.neg_den]⟩
  have s26:=s34.trans (u5.trans u6)
  have ep6:=s26 _ _ ep2
  obtain ⟨yl,el,kl⟩:=atI_lastQ (kp2.keep s26) hn
  have el' : Po.lst qs = qs[qs.length - 1]:=by unfold Po.lst; rw [Po.getD_in hl]
  rw [el'] at kl
  refine ⟨_,rfl,_,rfl,ra,_,_,_,rfl,rfl,SqL.of ep6,el,_,rfl,yl,pm,_,_,rfl,kl,km5.keep u6,bl.mono (by decide),bm.mono (by decide),fun v4 H7 s7 k7 => ⟨(by show 5 ≤ sizeLine; decide),fun L hL => ?_⟩⟩
  have u8:=same_upd hL (.lst [.ref pa,.ref v1,.ref v2,.ref v3,.ref v4])
  have s28:=s26.trans (s7.trans u8)
  have eL : upd H7 L (.lst [.ref pa,.ref v1,.ref v2,.ref v3,.ref v4]) L = some (.lst [.ref pa,.ref v1,.ref v2,.ref v3,.ref v4]):=upd_same
  have ks : Pqs (upd H7 L (.lst [.ref pa,.ref v1,.ref v2,.ref v3,.ref v4])) [pa,v1,v2,v3,v4] [x,x - m,0,-m,qs[qs.length - 1] + m]:=.cons (kx.keep s28) (.cons (k4.keep (u5.trans (u6.trans (s7.trans u8)))) (.cons (k5.keep (u6.trans (s7.trans u8))) (.cons (k6.keep (s7.trans u8)) (.cons (k7.keep u8) .nil))))
  generalize upd H7 L (.lst [.ref pa,.ref v1,.ref v2,.ref v3,.ref v4]) = H8 at *
  obtain ⟨pv',y,ev',kv,my⟩:=pickn ks w0 (by show way % 6 < 5; (first | lia | omega))
  have by24 : Bq 24 y:=by
    simp only [List.mem_cons,List.not_mem_nil,or_false] at my
    rcases my with rfl | rfl | rfl | rfl | rfl
    · exact bx
    · exact b1
    · exact Bq.zero (by decide)
    · exact bm'
    · exact b2
  have rD8:=rD2.keep s28
  obtain ⟨xD,eD,lD⟩:=rD8.there
  have ix : ixN xD.length k = some k.toNat:=by
    unfold ixN
    rw [if_pos a0,if_pos (by (first | lia | omega))]
  refine ⟨_,rfl,_,_,rfl,rfl,(by show (0 : Int) < 6; decide),L,_,_,_,rfl,rfl,SqL.of eL,ev',_,rfl,_,rfl,D,xD,_,k.toNat,rfl,rfl,eD,ix,?_⟩
  exact ⟨_,rfl,q D _ _ (same_updF (s2.trans s28) hD _) hD (Rw.setq _ eD rD8 kv) (by rw [List.length_set]) (mem_set bq by24)⟩
theorem cut_lastC {α : Type} (f : α→V) (ps : List α) : cutV (ps.map f) none (some (-1)) = (ps.take (ps.length - 1)).map f:=by
  unfold cutV
  have e : HT.sIx (ps.map f).length (ps.map f).length (some (-1)) = ps.length - 1:=by
    show (if (-1 : Int) < 0 then ((-1 : Int) + ((ps.map f).length : Int)).toNat else min (-1 : Int).toNat (ps.map f).length) = _
    rw [if_pos (by decide),List.length_map]
    (first | lia | omega)
  rw [e,HT.sIx_none,List.drop_zero,Nat.sub_zero,List.map_take]
theorem Rw.cla {H : Hp} {p : Addr} {ps : List Addr} {qs : List Rat} (kp : Pqs H ps qs) (hp : H p = none) : Rw (upd H p (.lst (cutV (ps.map V.ref) none (some (-1))))) p (qs.take (qs.length - 1)) :=
  ⟨ps.take (qs.length - 1),by rw [upd_same,cut_lastC,kp.length],(kp.take _).keep (same_upd hp _)⟩
theorem gen_bl {i : Nat} {σ : L2.St} {H : Hp} {Q : L2.St→Hp→Prop} {P : Bool→Prop} (x : Bool) (hx : P x) (h : ∀ y : Bool,P y→gName i (.bl y) σ H Q) : gName i (.bl x) σ H Q:=h x hx
theorem tri {a b c X N : Prop} (body : a ∨ b ∨ c→X) (k : (a→X)→(b→X)→(c→X)→N) : N:=k (fun h => body (.inl h)) (fun h => body (.inr (.inl h))) fun h => body (.inr (.inr h))
noncomputable def grw (o : Nat) : List Rat:=(List.range 24).map fun k => ((1 + k + o : Nat) : Rat)
theorem grw_of : ∀ o,o < 5→L3.ev2 ((grw o).drop 0) = Po.gls o ∧ L3.ev2 ((grw o).drop 1) = Po.gus o ∧ L3.ev2 ((Po.gus o).drop 0) = Po.hls o ∧ L3.ev2 ((Po.gus o).drop 1) = Po.hus o ∧ (Po.gus o).length = 12 ∧ ∀ q ∈ grw o,q.num.natAbs < 2 ^ 24 ∧ q.den < 2 ^ 24:=by decide +kernel
theorem half_bq8 {c : Rat} (bc : Bq 8 c) : Bq 10 (c / 2):=by
  have:=bc.mul (show Bq 2 (1 / 2 : Rat) by unfold Bq Bt; decide +kernel)
  rw [show c / 2 = c * (1 / 2) by grind]
  exact this
theorem co_found {ls us : List Rat} {c : Rat} (g : CoGood ls us c) (bl : ∀ q ∈ ls,Bq 24 q) (bu : ∀ q ∈ us,Bq 24 q) (bc : Bq 8 c) (h : us.length < 4 ∨ ∃ o,o < 5 ∧ ls = Po.gls o ∧ us = Po.gus o) : ∃ gs ws,Po.Cd c ls us gs ws:=by
  obtain ⟨hl,_,hr,hc⟩:=g
  rcases h with h | ⟨o,ho,rfl,rfl⟩
  · exact Po.cd_small (turns_trn hl hr) hc bl bu (bc.mono (by decide)) (by (first | lia | omega))
  · exact Po.cd_great ho hc (bc.mono (by decide))
theorem ev_found {us : List Rat} {c : Rat} (g : EvGood us c) (bu : ∀ q ∈ us,Bq 24 q) (bc : Bq 8 c) (h : us.length < 4 ∨ ∃ o,o < 5 ∧ us = Po.gus o) : ∃ G W,Hfx c us G W:=by
  obtain ⟨_,hr,hc⟩:=g
  have hc2 : 0 < c / 2:=Po.rdiv_pos hc (by decide)
  have b2:=half_bq8 bc
  rcases h with h | ⟨o,ho,rfl⟩
  · have bl' : ∀ q ∈ L3.ev2 (us.drop 0),Bq 24 q:=fun q h => bu q (List.mem_of_mem_drop (ev2_mem h))
    have bu' : ∀ q ∈ L3.ev2 (us.drop 1),Bq 24 q:=fun q h => bu q (List.mem_of_mem_drop (ev2_mem h))
    by_cases z : us.length % 2 = 0
    · have tu:=turns_of (us.length / 2) (qs:=us) (a:=0) (by (first | lia | omega)) hr
      obtain ⟨gs,ws,h⟩:=Po.cd_small tu hc2 bl' bu' b2 (by rw [L3.ev2_length,List.length_drop]; (first | lia | omega))
      exact ⟨_,_,.inl ⟨z,gs,ws,h,rfl,rfl⟩⟩
    · have tu:=tur1_of (us.length / 2) (qs:=us) (a:=0) (by (first | lia | omega)) hr
      obtain ⟨gs,ws,w,h⟩:=Po.bd_small tu hc2 bl' bu' b2 (by rw [L3.ev2_length,List.length_drop]; (first | lia | omega))
      exact ⟨_,_,.inr ⟨by (first | lia | omega),gs,ws,w,h,rfl,rfl⟩⟩
  · obtain ⟨_,_,e1,e2,l12,_⟩:=grw_of o ho
    obtain ⟨gs,ws,h⟩:=Po.cd_half ho hc2 b2
    rw [← e1,← e2] at h
    exact ⟨_,_,.inl ⟨by rw [l12],gs,ws,h,rfl,rfl⟩⟩
theorem num_pos56 {x : Rat} : 0 < x.num ↔ 0 < x:=by
  rw [Rat.lt_iff]
  simp
theorem pick5 (i : Int) (h0 : 0 ≤ i) (h1 : i < 5) : ∃ s : Int,atI [V.int 1,V.int 0,V.int (-1),V.int 1,V.int 2] i = some (.int s) ∧ -1 ≤ s ∧ s ≤ 2:=by
  have : i = 0 ∨ i = 1 ∨ i = 2 ∨ i = 3 ∨ i = 4:=by (first | lia | omega)
  rcases this with rfl | rfl | rfl | rfl | rfl
  · exact ⟨1,rfl,by decide,by decide⟩
  · exact ⟨0,rfl,by decide,by decide⟩
  · exact ⟨-1,rfl,by decide,by decide⟩
  · exact ⟨1,rfl,by decide,by decide⟩
  · exact ⟨2,rfl,by decide,by decide⟩
theorem eqv_ii (n : Int) : PyData.eqv (.int n) (.int n) = true:=by simp [PyData.eqv]
theorem sc_law : FnScope ["_law_script","_law_many","_law_way","_law_row","_law_great","_law_looses","_law_helds","_law_length","_law_handed","_law_good"] ["_law_script"] (defScope s_law):=⟨rfl,rfl,rfl,by decide +kernel,rfl,by decide +kernel,by decide +kernel⟩
set_option maxHeartbeats 4000000 in
theorem ok_law (F : Fun K "law" "law" s_law f fd) (T : Txt mg) (C_law_cell_at : Cal P w K mg base "_law_cell_at" 1 ["_law_script","_law_k"] (sp_cell0 K)) (C_law_low : Cal P w K mg base "_law_low" 1 ["_law_top","_law_bottom"] sp_lowQ) (C_law_rising : Cal P w K mg base "_law_rising" 3 ["_law_script","_law_many"] (sp_ris56 K)) (C_law_spoiled : Cal P w K mg base "_law_spoiled" 3 ["_law_row","_law_way","_law_at","_law_cell"] sp_spoiled) (C_law_rises : Cal P w K mg base "_law_rises" 1 ["_law_row"] sp_rises56) (C_law_in_turns : Cal P w K mg base "_law_in_turns" 1 ["_law_looses","_law_helds"] sp_inturns) (C_law_answer : Cal P w K mg base "_law_answer" 9 ["_law_helds","_law_looses","_law_length"] (sp_answer56 o_Cord)) : FnOk P w K mg base CX0 10 f fd ["_law_script"] (sp_law K):=by
  refine F.ok sc_law (fun vs H Q E h => ?_) (fun cdv A outer s H vs Q E hr h => ?_)
  · obtain ⟨a,ns,rfl,_⟩:=h
    rfl
  obtain ⟨a,ns,rfl,hS,h63,q⟩:=h
  have hz : (1000 : Nat) < sizeLine:=by decide
  refine ⟨_,(pss_cons (ps_set (i:=1) sc_law.nd rfl (Or.inl rfl) (pe_op op_mod (pe_cl C_law_cell_at hr (pa_cons (pv 0) (pa_cons pe_int pa_nil))) pe_int))
      (pss_cons (ps_set (i:=2) sc_law.nd rfl (Or.inl rfl) (pe_cl C_law_cell_at hr (pa_cons (pv 0) (pa_cons pe_int pa_nil))))
      (pss_cons (ps_cut (ps_if (PW.pt (pw_and (pt_cmpR op_eq (pe_op op_mod (pv 2) pe_int) pe_int (nomark _)) (pw_and (pt_cmpR op_gt (pv 1) pe_int (nomark _)) (pw_and1 (pt_cmpR op_lt (pv 1) pe_int (nomark _))))))
        (pss_one (ps_set (i:=1) sc_law.nd rfl (Or.inl rfl) (pe_op op_mod (pv 1) pe_int)))
        pss_nil))
      (pss_cons (ps_set (i:=3) sc_law.nd rfl (Or.inl rfl) (pe_cl C_law_spoiled hr (pa_cons (pe_cl C_law_rising hr (pa_cons (pv 0) (pa_cons (pe_op op_mulB pe_int (pv 1)) pa_nil))) (pa_cons (pv 2) (pa_cons (pe_cl C_law_cell_at hr (pa_cons (pv 0) (pa_cons pe_int pa_nil))) (pa_cons (pe_cl C_law_cell_at hr (pa_cons (pv 0) (pa_cons pe_int pa_nil))) pa_nil))))))
      (pss_cons (ps_set (i:=4) sc_law.nd rfl (Or.inl rfl) (pe_cmpR op_eq (pe_op op_mod (pv 2) pe_int) pe_int (nomark _)))
      (pss_cons (ps_cut (ps_if (pt_val (pv 4))
        (pss_one (ps_setComp (i:=3) sc_law.nd rfl (Or.inl rfl) (N':=["_law_k","_law_script"]) (fsc:=defScope s_law) (N:=["_law_script","_law_many","_law_way","_law_row","_law_great","_law_looses","_law_helds","_law_length","_law_handed","_law_good"]) [0] ⟨rfl,by decide +kernel,by decide +kernel,by decide +kernel,rfl,by decide +kernel,rfl,by decide +kernel⟩ (pi_range1 rfl T.z_range (pa_cons pe_int pa_nil)) (fun _ _ _ _ => (pe_tup (pa_cons (pe_op op_add (pe_op op_add pe_int (pv 0)) (pe_op op_mod (pe_cl C_law_cell_at hr (pa_cons (pv 1) (pa_cons pe_int pa_nil))) pe_int)) (pa_cons pe_int pa_nil))))))
        pss_nil))
      (pss_cons (ps_set (i:=5) sc_law.nd rfl (Or.inl rfl) (pe_step2 (pv 3) (po_some pe_int) pe_int))
      (pss_cons (ps_set (i:=6) sc_law.nd rfl (Or.inl rfl) (pe_step2 (pv 3) (po_some pe_int) pe_int))
      (pss_cons (ps_cut (ps_if (pt_cmpR op_eq (pe_op op_mod (pe_op op_fdP (pv 2) pe_int) pe_int) pe_int (nomark _))
        (pss_one (ps_set (i:=5) sc_law.nd rfl (Or.inl rfl) (pe_slice sl_list (pv 5) po_none (po_some (pe_un un_neg pe_int)))))
        pss_nil))
      (pss_cons (ps_cut (ps_if (pt_cmpR op_eq (pe_op op_mod (pe_op op_fdP (pv 2) pe_int) pe_int) pe_int (nomark _))
        (pss_one (ps_set (i:=6) sc_law.nd rfl (Or.inl rfl) (pe_slice sl_list (pv 6) po_none (po_some (pe_un un_neg pe_int)))))
        pss_nil))
      (pss_cons (ps_set (i:=7) sc_law.nd rfl (Or.inl rfl) (pe_cl C_law_low hr (pa_cons (pe_op op_mulB (pe_ix ix_list (PEw.h (w_lst (aw_con w_int (aw_con w_int (aw_un (w_neg w_int) (aw_con w_int (aw_con w_int aw_nil))))))) (pe_op op_mod (pe_op op_fdP (pv 2) pe_int) pe_int) (fun _ _ => rfl)) (pe_op op_add pe_int (pe_op op_mod (pe_cl C_law_cell_at hr (pa_cons (pv 0) (pa_cons pe_int pa_nil))) pe_int))) (pa_cons pe_int pa_nil))))
      (pss_cons (ps_set (i:=8) sc_law.nd rfl (Or.inl rfl) (pe_tup (pa_cons (pe_callTy call_list_of rfl T.z_list boot_list (pa_cons (pv 6) pa_nil)) (pa_cons (pe_callTy call_list_of rfl T.z_list boot_list (pa_cons (pv 5) pa_nil)) pa_nil))))
      (pss_cons (ps_cut (ps_set (i:=9) sc_law.nd rfl (Or.inl rfl) (pe_and (pe_cmpR op_eq (pe_callB call_len_seq rfl T.z_len PySem.boot_len (pa_cons (pv 5) pa_nil)) (pe_callB call_len_seq rfl T.z_len PySem.boot_len (pa_cons (pv 6) pa_nil)) (nomark _)) (pe_and (pe_cmpR op_lt (pe_callB call_len_seq rfl T.z_len PySem.boot_len (pa_cons (pv 6) pa_nil)) pe_int (nomark _)) (pe_one (pe_cmpR op_gt (pe_ix ix_tup (pv 7) pe_int (fun _ _ => rfl)) pe_int (nomark _)))))))
      (pss_cons (ps_cut (ps_set (i:=9) sc_law.nd rfl (Or.inl rfl) (pe_and (pv 9) (pe_one (pe_cl C_law_rises hr (pa_cons (pe_cl C_law_in_turns hr (pa_cons (pv 5) (pa_cons (pv 6) pa_nil))) pa_nil))))))
      (pss_cons (ps_cut (ps_if (PW.pt (pw_or (pt_not (pt_val (pv 9))) (pw_or (pt_cmpR op_lt (pe_callB call_len_seq rfl T.z_len PySem.boot_len (pa_cons (pv 6) pa_nil)) pe_int (nomark _)) (pw_or1 (pt_val (pv 4))))))
        (pss_one (ps_if (pt_cmpR (op_neD hr.units) (pe_cl C_law_answer hr (pa_cons (pe_ix ix_tup (pv 8) pe_int (fun _ _ => rfl)) (pa_cons (pe_ix ix_tup (pv 8) pe_int (fun _ _ => rfl)) (pa_cons (pv 7) pa_nil)))) (pe_ix ix_list (pe_lst (pa_cons (pe_un un_neg pe_int) (pa_cons (pe_callB call_len_seq rfl T.z_len PySem.boot_len (pa_cons (pv 6) pa_nil)) pa_nil))) (pe_callTy call_int_bl rfl T.z_int boot_int (pa_cons (pv 9) pa_nil)) (fun _ _ => rfl)) (nomark _))
          (pss_one (ps_ret pe_bl))
          pss_nil))
        pss_nil))
      (pss_cons (ps_cut (ps_set (i:=9) sc_law.nd rfl (Or.inl rfl) (pe_and (pe_cmpR op_lt (pe_callB call_len_seq rfl T.z_len PySem.boot_len (pa_cons (pv 6) pa_nil)) pe_int (nomark _)) (pe_and (pe_cl C_law_rises hr (pa_cons (pv 6) pa_nil)) (pe_one (pe_cmpR op_gt (pe_ix ix_tup (pv 7) pe_int (fun _ _ => rfl)) pe_int (nomark _)))))))
      (pss_cons (ps_cut (ps_if (PW.pt (pw_or (pt_not (pt_val (pv 9))) (pw_or (pt_cmpR op_lt (pe_callB call_len_seq rfl T.z_len PySem.boot_len (pa_cons (pv 6) pa_nil)) pe_int (nomark _)) (pw_or1 (pt_val (pv 4))))))
        (pss_one (ps_if (pt_cmpR (op_neD hr.units) (pe_cl C_law_answer hr (pa_cons (pe_ix ix_tup (pv 8) pe_int (fun _ _ => rfl)) (pa_cons pe_non (pa_cons (pv 7) pa_nil)))) (pe_ix ix_list (pe_lst (pa_cons (pe_un un_neg pe_int) (pa_cons (pe_callB call_len_seq rfl T.z_len PySem.boot_len (pa_cons (pv 6) pa_nil)) pa_nil))) (pe_callTy call_int_bl rfl T.z_int boot_int (pa_cons (pv 9) pa_nil)) (fun _ _ => rfl)) (nomark _))
          (pss_one (ps_ret pe_bl))
          pss_nil))
        pss_nil))
      (pss_one (ps_ret (pe_cmpR (op_eqD hr.units) (pv 8) (pe_tup (pa_cons (pv 6) (pa_cons (pv 5) pa_nil))) (nomark _))))))))))))))))))))),?_⟩
  refine ⟨_,rfl,a,ns,12,rfl,hS,_,_,rfl,rfl,(by show (0 : Int) < 14; decide),?_⟩
  refine gen_int (P:=fun y => 0 ≤ y ∧ y < 14) (cell0 ns 12 % 14) ⟨Int.emod_nonneg _ (by decide),Int.emod_lt_of_pos _ (by decide)⟩ fun y ⟨y0,y1⟩ => ?_
  obtain ⟨m0,rfl⟩ : ∃ m : Nat,y = m:=⟨y.toNat,by (first | lia | omega)⟩
  refine ⟨_,rfl,a,ns,13,rfl,hS,?_⟩
  generalize cell0 ns 13 = way
  refine ⟨fun σ' H' => ∃ m : Nat,m ≤ 13 ∧ σ' = [some (.ref a),some (.int m),some (.int way),none,none,none,none,none,none,none] ∧ H = H',?tl1,?hd1⟩
  case hd1 =>
    have nx : ∃ m : Nat,m ≤ 13 ∧ [some (V.ref a),some (.int (m0 : Int)),some (.int way),none,none,none,none,none,none,none] = [some (.ref a),some (.int (m : Int)),some (.int way),none,none,none,none,none,none,none] ∧ H = H:=⟨m0,by (first | lia | omega),rfl,rfl⟩
    refine ⟨_,rfl,_,_,rfl,rfl,(by show (0 : Int) < 6; decide),rfl,_,rfl,ite2 (fun _ => ⟨_,rfl,_,_,rfl,rfl,_,rfl,ite2 (fun _ => ⟨_,rfl,_,_,rfl,rfl,_,rfl,ite2 (fun _ => ?_) (fun _ => nx)⟩) (fun _ => iteF nx)⟩) (fun _ => iteF nx)⟩
    exact ⟨_,rfl,_,_,rfl,rfl,(by show (0 : Int) < 4; decide),m0 % 4,by (first | lia | omega),rfl,rfl⟩
  rintro _ _ ⟨m,hm,rfl,rfl⟩
  refine ⟨_,rfl,_,rfl,_,_,rfl,rfl,CMul.ok (.inl ⟨by decide,by decide⟩),a,ns,2 * m,?_,hS,by (first | lia | omega),fun r0 qs0 H1 s1 n1 rq0 lq0 _ sx => ?_⟩
  · simp
  refine ⟨_,rfl,_,rfl,a,ns,14,rfl,s1.seq hS,_,rfl,a,ns,15,rfl,s1.seq hS,r0,qs0,way,_,_,rfl,rq0,by (first | lia | omega),sx,fun r1 qs1 H2 s2 n2 rq1 lq1 bq1 => ?_⟩
  have s02:=s1.trans s2
  clear s1 s2 n1 rq0 sx n2
  refine ⟨_,rfl,_,_,rfl,rfl,(by show (0 : Int) < 120; decide),rfl,?_⟩
  refine gen_bl (P:=fun y => y = true→way % 120 = 5) _ (fun z => V.int.inj (of_decide_eq_true z)) fun gr hgr => ?_
  refine ⟨fun σ' H' => ∃ (r : Addr) (qs : List Rat),σ' = [some (.ref a),some (.int m),some (.int way),some (.ref r),some (.bl gr),none,none,none,none,none] ∧ Same H H' ∧ Rw H' r qs ∧ qs.length ≤ 26 ∧ (∀ q ∈ qs,Bq 24 q) ∧ (gr = true→∃ o,o < 5 ∧ qs = grw o),?tl2,?hd2⟩
  case hd2 =>
    refine ⟨_,rfl,_,rfl,ite2 (fun c => ?_) (fun c => ⟨r1,qs1,rfl,s02,rq1,by (first | lia | omega),bq1,fun z => absurd z c⟩)⟩
    have hS2:=s02.seq hS
    have o0:=Int.emod_nonneg (cell0 ns 14) (show (5 : Int) ≠ 0 by decide)
    have o1:=Int.emod_lt_of_pos (cell0 ns 14) (show (0 : Int) < 5 by decide)
    obtain ⟨o,ho⟩ : ∃ o : Nat,cell0 ns 14 % 5 = o:=⟨(cell0 ns 14 % 5).toNat,by (first | lia | omega)⟩
    refine ⟨_,rfl,by decide,by decide,comp_rangeQ (by decide) (fun k => ((1 + k + o : Nat) : Rat)) ?_ fun H3 D s3 nD rD => ?_⟩
    · intro _ _ _ _ i H3 R hi s3 fin
      refine ⟨_,rfl,_,_,rfl,rfl,_,rfl,a,ns,14,rfl,s3.seq hS2,_,_,rfl,rfl,(by show (0 : Int) < 5; decide),_,_,rfl,rfl,(by show 2 ≤ sizeLine; decide),fun p hp => fin p _ (same_upd hp _) (Pq.of Pr.new ?_)⟩
      rw [ho]
      refine ⟨?_,?_⟩
      · rw [Rat.num_natCast]; (first | lia | omega)
      · rw [Rat.den_natCast]; rfl
    · exact ⟨D,_,rfl,s02.trans s3,rD,by rw [List.length_map,List.length_range]; decide,fun q h => (grw_of o (by (first | lia | omega))).2.2.2.2.2 q h,fun _ => ⟨o,by (first | lia | omega),rfl⟩⟩
  rintro _ H3 ⟨r,qs,rfl,s03,rq,lq,bq,hg⟩
  clear s02 rq1 bq1 lq1 lq0
  obtain ⟨ps,ep,kp⟩:=id rq
  refine ⟨_,rfl,_,rfl,r,_,0,rfl,rfl,.inr rfl,SqL.of ep,fun lA hlA => ?_⟩
  have u2:=same_upd hlA (.lst (L3.ev2 ((ps.map V.ref).drop 0)))
  refine ⟨_,rfl,_,rfl,r,_,1,rfl,rfl,.inr rfl,SqL.of (u2 _ _ ep),fun hA hhA => ?_⟩
  have u3:=same_upd hhA (.lst (L3.ev2 ((ps.map V.ref).drop 1)))
  have u23:=u2.trans u3
  have rl : Rw (upd (upd H3 lA (.lst (L3.ev2 ((ps.map V.ref).drop 0)))) hA (.lst (L3.ev2 ((ps.map V.ref).drop 1)))) lA (L3.ev2 (qs.drop 0)):=⟨L3.ev2 (ps.drop 0),by rw [u3 _ _ upd_same,L3.ev2_map,List.map_drop],Pqs.keep (Pqs.rev2 (Pqs.drop 0 kp)) u23⟩
  have rh : Rw (upd (upd H3 lA (.lst (L3.ev2 ((ps.map V.ref).drop 0)))) hA (.lst (L3.ev2 ((ps.map V.ref).drop 1)))) hA (L3.ev2 (qs.drop 1)):=⟨L3.ev2 (ps.drop 1),by rw [upd_same,L3.ev2_map,List.map_drop],Pqs.keep (Pqs.rev2 (Pqs.drop 1 kp)) u23⟩
  have bl : ∀ q ∈ L3.ev2 (qs.drop 0),Bq 24 q:=fun q h => bq q (List.mem_of_mem_drop (ev2_mem h))
  have bu : ∀ q ∈ L3.ev2 (qs.drop 1),Bq 24 q:=fun q h => bq q (List.mem_of_mem_drop (ev2_mem h))
  have nl : (L3.ev2 (qs.drop 0)).length ≤ 13:=by rw [L3.ev2_length,List.length_drop]; (first | lia | omega)
  have nu : (L3.ev2 (qs.drop 1)).length ≤ 13:=by rw [L3.ev2_length,List.length_drop]; (first | lia | omega)
  have hg2 : gr = true→∃ o,o < 5 ∧ L3.ev2 (qs.drop 0) = Po.gls o ∧ L3.ev2 (qs.drop 1) = Po.gus o:=fun z => by
    obtain ⟨o,ho,e⟩:=hg z
    obtain ⟨e1,e2,_⟩:=grw_of o ho
    exact ⟨o,ho,by rw [e]; exact e1,by rw [e]; exact e2⟩
  have s04:=s03.trans u23
  clear u2 u3 u23 hlA hhA ep kp rq bq hg lq
  generalize upd (upd H3 lA (.lst (L3.ev2 ((ps.map V.ref).drop 0)))) hA (.lst (L3.ev2 ((ps.map V.ref).drop 1))) = H4 at *
  generalize L3.ev2 (qs.drop 0) = ls0 at *
  generalize L3.ev2 (qs.drop 1) = us0 at *
  refine ⟨fun σ' H' => ∃ (lB : Addr) (ls : List Rat),σ' = [some (.ref a),some (.int m),some (.int way),some (.ref r),some (.bl gr),some (.ref lB),some (.ref hA),none,none,none] ∧ Same H4 H' ∧ Rw H' lB ls ∧ ls.length ≤ 13 ∧ (∀ q ∈ ls,Bq 24 q) ∧ (gr = true→ls = ls0),?tl3,?hd3⟩
  case hd3 =>
    refine ⟨_,rfl,_,_,rfl,rfl,⟨by decide,bt2 (by decide +kernel)⟩,_,_,rfl,rfl,(by show (0 : Int) < 5; decide),rfl,_,rfl,ite2 (fun c => ?_) (fun c => ⟨lA,ls0,rfl,Same.refl _,rl,nl,bl,fun _ => rfl⟩)⟩
    have c' : way / 6 % 5 = 1:=V.int.inj (of_decide_eq_true c)
    obtain ⟨pl,el,kl⟩:=id rl
    refine ⟨_,rfl,_,rfl,_,rfl,lA,_,rfl,SqL.of el,fun l hl => ?_⟩
    exact ⟨l,_,rfl,same_upd hl _,Rw.cla kl hl,by rw [List.length_take]; (first | lia | omega),fun q h => bl q (List.mem_of_mem_take h),fun z => by have:=hgr z; (first | lia | omega)⟩
  rintro _ H5 ⟨lB,ls,rfl,s45,rls,nls,bls,hgl⟩
  have rh5:=rh.keep s45
  refine ⟨fun σ' H' => ∃ (hB : Addr) (us : List Rat),σ' = [some (.ref a),some (.int m),some (.int way),some (.ref r),some (.bl gr),some (.ref lB),some (.ref hB),none,none,none] ∧ Same H5 H' ∧ Rw H' hB us ∧ us.length ≤ 13 ∧ (∀ q ∈ us,Bq 24 q) ∧ (gr = true→us = us0),?tl4,?hd4⟩
  case hd4 =>
    refine ⟨_,rfl,_,_,rfl,rfl,⟨by decide,bt2 (by decide +kernel)⟩,_,_,rfl,rfl,(by show (0 : Int) < 5; decide),rfl,_,rfl,ite2 (fun c => ?_) (fun c => ⟨hA,us0,rfl,Same.refl _,rh5,nu,bu,fun _ => rfl⟩)⟩
    have c' : way / 6 % 5 = 2:=V.int.inj (of_decide_eq_true c)
    obtain ⟨pl,el,kl⟩:=id rh5
    refine ⟨_,rfl,_,rfl,_,rfl,hA,_,rfl,SqL.of el,fun l hl => ?_⟩
    exact ⟨l,_,rfl,same_upd hl _,Rw.cla kl hl,by rw [List.length_take]; (first | lia | omega),fun q h => bu q (List.mem_of_mem_take h),fun z => by have:=hgr z; (first | lia | omega)⟩
  rintro _ H6 ⟨hB,us,rfl,s56,rus,nus,bus,hgu⟩
  have hg3 : gr = true→∃ o,o < 5 ∧ ls = Po.gls o ∧ us = Po.gus o:=fun z => by
    obtain ⟨o,ho,e1,e2⟩:=hg2 z
    exact ⟨o,ho,by rw [hgl z]; exact e1,by rw [hgu z]; exact e2⟩
  have rl6:=rls.keep s56
  have s06:=s04.trans (s45.trans s56)
  have hS6:=s06.seq hS
  clear rl rh rls rh5 s45 s56 s04 s03 hg2 hgl hgu bl bu nl nu
  have w0:=Int.emod_nonneg (way / 30) (show (5 : Int) ≠ 0 by decide)
  have w1:=Int.emod_lt_of_pos (way / 30) (show (0 : Int) < 5 by decide)
  obtain ⟨sg,esg,sg0,sg1⟩:=pick5 _ w0 w1
  refine ⟨_,rfl,(by show 5 ≤ sizeLine; decide),fun L hL => ?_⟩
  have u7:=same_upd hL (.lst [.int 1,.int 0,.int (-1),.int 1,.int 2])
  have i1:=Int.emod_nonneg (cell0 ns 16) (show (12 : Int) ≠ 0 by decide)
  have i2:=Int.emod_lt_of_pos (cell0 ns 16) (show (0 : Int) < 12 by decide)
  refine ⟨_,rfl,_,_,rfl,rfl,⟨by decide,bt2 (by decide +kernel)⟩,_,_,rfl,rfl,(by show (0 : Int) < 5; decide),L,_,_,_,rfl,rfl,SqL.of upd_same,esg,_,rfl,a,ns,16,rfl,u7.seq hS6,_,_,rfl,rfl,(by show (0 : Int) < 12; decide),_,_,rfl,rfl,_,_,rfl,rfl,CMul.ok (.inl ⟨by (first | lia | omega),by (first | lia | omega)⟩),_,_,rfl,(by show (0 : Int) < 7; decide),(by unfold Bt; decide +kernel),fun pl H7 s7 kl => ?_⟩
  have k0 : -12 ≤ sg * (1 + cell0 ns 16 % 12) ∧ sg * (1 + cell0 ns 16 % 12) ≤ 24:=by
    generalize cell0 ns 16 % 12 = z at *
    have : sg = -1 ∨ sg = 0 ∨ sg = 1 ∨ sg = 2:=by (first | lia | omega)
    rcases this with rfl | rfl | rfl | rfl <;> (first | lia | omega)
  obtain ⟨c,kc,bc⟩ : ∃ c : Rat,Pq H7 pl c ∧ Bq 8 c:=⟨_,kl,bq_of (T:=sg * (1 + cell0 ns 16 % 12)) (M:=7) (by decide) rfl (Bt.between (by (first | lia | omega)) (by (first | lia | omega))) (Bt.between (by decide) (by decide))⟩
  have s67:=u7.trans s7
  have rh7:=rus.keep s67
  have rl7:=rl6.keep s67
  clear kl s7 u7 hL rus rl6 hS6 esg w0 w1 sg0 sg1 i1 i2 k0 hS s67
  obtain ⟨xh,eh,lh⟩:=rh7.there
  obtain ⟨xl,el,ll⟩:=rl7.there
  refine ⟨_,rfl,hB,_,rfl,.inl (SqL.of eh),fun h1 hh1 => ?_⟩
  have t1:=same_upd hh1 (.lst xh)
  refine ⟨_,rfl,lB,_,rfl,.inl (SqL.of (t1 _ _ el)),fun h2 hh2 => ⟨(by show 2 ≤ sizeLine; decide),fun hd hhd => ?_⟩⟩
  have t2:=same_upd hh2 (.lst xl)
  have t3:=same_upd hhd (.tup [.ref h1,.ref h2])
  have rh1:=(rh7.copy eh hh1).keep (t2.trans t3)
  have rh2:=((rl7.keep t1).copy (t1 _ _ el) hh2).keep t3
  have s5:=t1.trans (t2.trans t3)
  have ehd : upd (upd (upd H7 h1 (.lst xh)) h2 (.lst xl)) hd (.tup [.ref h1,.ref h2]) hd = some (.tup [.ref h1,.ref h2]):=upd_same
  have rh5:=rh7.keep s5
  have rl5:=rl7.keep s5
  have kc5:=kc.keep s5
  have eh5:=s5 _ _ eh
  have el5:=s5 _ _ el
  clear t1 t2 t3 hh1 hh2 hhd s5 rh7 rl7 kc eh el s06
  generalize upd (upd (upd H7 h1 (.lst xh)) h2 (.lst xl)) hd (.tup [.ref h1,.ref h2]) = H8 at *
  refine ⟨fun σ' H' => ∃ g : Bool,σ' = [some (.ref a),some (.int m),some (.int way),some (.ref r),some (.bl gr),some (.ref lB),some (.ref hB),some (.ref pl),some (.ref hd),some (.bl g)] ∧ H8 = H' ∧ (g = true ↔ ls.length = us.length ∧ us.length < 13 ∧ 0 < c),?tl5,?hd5⟩
  case hd5 =>
    refine ⟨_,rfl,_,_,rfl,.inl (SqL.of el5),_,rfl,_,_,rfl,.inl (SqL.of eh5),rfl,_,rfl,ite2 (fun c1 => ?_) (fun c1 => ⟨false,rfl,rfl,fun z => absurd z (by decide),fun z => ?_⟩)⟩
    · have c1' : (xl.length : Int) = (xh.length : Int):=V.int.inj (of_decide_eq_true c1)
      refine ⟨_,rfl,_,_,rfl,.inl (SqL.of eh5),_,_,rfl,rfl,_,rfl,ite2 (fun c2 => ?_) (fun c2 => ⟨false,rfl,rfl,fun z => absurd z (by decide),fun z => ?_⟩)⟩
      · have c2' : (xh.length : Int) < 13:=of_decide_eq_true c2
        refine ⟨_,rfl,_,_,_,_,rfl,rfl,kc5.sq,rfl,_,_,rfl,rfl,_,rfl,rfl,fun z => ⟨by (first | lia | omega),by (first | lia | omega),num_pos56.mp (of_decide_eq_true z)⟩,fun z => decide_eq_true (num_pos56.mpr z.2.2)⟩
      · have c2' : ¬ (xh.length : Int) < 13:=of_decide_eq_false (Bool.eq_false_iff.mpr c2)
        (first | lia | omega)
    · have c1' : ¬ (xl.length : Int) = (xh.length : Int):=fun z => of_decide_eq_false (Bool.eq_false_iff.mpr c1) (congrArg V.int z)
      (first | lia | omega)
  rintro _ _ ⟨g0,rfl,rfl,hg0⟩
  refine ⟨fun σ' H' => ∃ g : Bool,σ' = [some (.ref a),some (.int m),some (.int way),some (.ref r),some (.bl gr),some (.ref lB),some (.ref hB),some (.ref pl),some (.ref hd),some (.bl g)] ∧ Same H8 H' ∧ (g = true ↔ CoGood ls us c),?tl6,?hd6⟩
  case hd6 =>
    refine ⟨_,rfl,_,rfl,ite2 (fun c1 => ?_) (fun c1 => ⟨false,rfl,Same.refl _,fun z => absurd z (by decide),fun z => absurd (hg0.mpr ⟨z.1,by have:=z.2.1; (first | lia | omega),z.2.2.2⟩) c1⟩)⟩
    obtain ⟨e1,e2,e3⟩:=hg0.mp c1
    refine ⟨_,rfl,_,rfl,lB,hB,ls,us,rfl,rl5,rh5,e1,by (first | lia | omega),fun r1 H9 s9 n9 rr9 => ?_⟩
    refine ⟨r1,_,rfl,rr9,trn_mem (fun q h => (bls q h).mono (by decide)) (fun q h => (bus q h).mono (by decide)),fun Ha sa => ⟨_,rfl,s9.trans sa,fun z => ⟨e1,by (first | lia | omega),z,e3⟩,fun z => z.2.2.1⟩⟩
  rintro _ H9 ⟨g1,rfl,s9,hg1⟩
  refine ⟨fun σ' H' => ∃ g : Bool,σ' = [some (.ref a),some (.int m),some (.int way),some (.ref r),some (.bl gr),some (.ref lB),some (.ref hB),some (.ref pl),some (.ref hd),some (.bl g)] ∧ Same H8 H',?tl7,?hd7⟩
  case hd7 =>
    refine tri (a:=g1 = false) (b:=us.length < 4) (c:=gr = true) ?body fun b1 b2 b3 => ⟨_,rfl,_,rfl,ite2 (fun c1 => iteT (b1 (by simpa using c1))) (fun c1 => ⟨_,rfl,_,_,rfl,.inl (SqL.of (s9 _ _ eh5)),_,_,rfl,rfl,_,rfl,ite2 (fun c2 => iteT (b2 ?lt)) (fun c2 => ⟨_,rfl,_,rfl,ite2 (fun c3 => b3 c3) (fun c3 => ⟨g1,rfl,s9⟩)⟩)⟩)⟩
    case lt =>
      have c2' : (xh.length : Int) < 4:=of_decide_eq_true c2
      (first | lia | omega)
    case body =>
      intro hb
      have fnd : CoGood ls us c→∃ gs ws,Po.Cd c ls us gs ws:=fun go => co_found go bls bus bc (by
        rcases hb with z | z | z
        · rw [hg1.mpr go] at z; exact absurd z (by decide)
        · exact .inl z
        · exact .inr (hg3 z))
      have ehd9:=s9 _ _ ehd
      refine ⟨_,rfl,hd,_,_,_,rfl,rfl,SqT.of ehd9,rfl,_,rfl,hd,_,_,_,rfl,rfl,SqT.of ehd9,rfl,_,rfl,.inr ⟨h1,h2,pl,us,ls,c,rfl,rh1.keep s9,rh2.keep s9,kc5.keep s9,bls,bus,bc,nus,nls,fnd,fun go Ha sa => ?_,fun ng Ha sa => ?_⟩⟩
      · obtain rfl:=hg1.mpr go
        have s9a:=s9.trans sa
        refine ⟨_,rfl,_,rfl,_,_,rfl,.inl (SqL.of (s9a _ _ eh5)),(by show 2 ≤ sizeLine; decide),fun L2 hL2 => ?_⟩
        refine ⟨_,rfl,_,rfl,L2,_,_,_,rfl,rfl,SqL.of upd_same,rfl,_,_,.int _,.int _,(by simp [PyData.depth]),_,rfl,iteNB (by rw [lh]; exact eqv_ii _) ⟨true,rfl,s9a.trans (same_upd hL2 _)⟩⟩
      · obtain rfl : g1 = false:=Bool.eq_false_iff.mpr fun z => ng (hg1.mp z)
        have s9a:=s9.trans sa
        refine ⟨_,rfl,_,rfl,_,_,rfl,.inl (SqL.of (s9a _ _ eh5)),(by show 2 ≤ sizeLine; decide),fun L2 hL2 => ?_⟩
        refine ⟨_,rfl,_,rfl,L2,_,_,_,rfl,rfl,SqL.of upd_same,rfl,_,_,.int _,.int _,(by simp [PyData.depth]),_,rfl,iteNB (eqv_ii _) ⟨false,rfl,s9a.trans (same_upd hL2 _)⟩⟩
  rintro _ Ha ⟨g2,rfl,sa⟩
  clear s9 hg1 hg0
  refine ⟨fun σ' H' => ∃ g : Bool,σ' = [some (.ref a),some (.int m),some (.int way),some (.ref r),some (.bl gr),some (.ref lB),some (.ref hB),some (.ref pl),some (.ref hd),some (.bl g)] ∧ Same H8 H' ∧ (g = true ↔ EvGood us c),?tl8,?hd8⟩
  case hd8 =>
    refine ⟨_,rfl,_,_,rfl,.inl (SqL.of (sa _ _ eh5)),_,_,rfl,rfl,_,rfl,ite2 (fun c2 => ?_) (fun c2 => ⟨false,rfl,sa,fun z => absurd z (by decide),fun z => ?_⟩)⟩
    · have c2' : (xh.length : Int) < 13:=of_decide_eq_true c2
      refine ⟨_,rfl,hB,us,rfl,rh5.keep sa,fun q h => (bus q h).mono (by decide),fun Hb sb => ⟨_,rfl,ite2 (fun c3 => ?_) (fun c3 => ⟨false,rfl,sa.trans sb,fun z => absurd z (by decide),fun z => absurd z.2.1 c3⟩)⟩⟩
      have kcb:=kc5.keep (sa.trans sb)
      exact ⟨_,rfl,_,_,_,_,rfl,rfl,kcb.sq,rfl,_,_,rfl,rfl,_,rfl,sa.trans sb,fun z => ⟨by (first | lia | omega),c3,num_pos56.mp (of_decide_eq_true z)⟩,fun z => decide_eq_true (num_pos56.mpr z.2.2)⟩
    · have c2' : ¬ (xh.length : Int) < 13:=of_decide_eq_false (Bool.eq_false_iff.mpr c2)
      have:=z.1
      (first | lia | omega)
  rintro _ Hb ⟨g3,rfl,sb,hg4⟩
  refine ⟨fun σ' H' => ∃ g : Bool,σ' = [some (.ref a),some (.int m),some (.int way),some (.ref r),some (.bl gr),some (.ref lB),some (.ref hB),some (.ref pl),some (.ref hd),some (.bl g)] ∧ Same H8 H',?tl9,?hd9⟩
  case hd9 =>
    refine tri (a:=g3 = false) (b:=us.length < 4) (c:=gr = true) ?body fun b1 b2 b3 => ⟨_,rfl,_,rfl,ite2 (fun c1 => iteT (b1 (by simpa using c1))) (fun c1 => ⟨_,rfl,_,_,rfl,.inl (SqL.of (sb _ _ eh5)),_,_,rfl,rfl,_,rfl,ite2 (fun c2 => iteT (b2 ?lt)) (fun c2 => ⟨_,rfl,_,rfl,ite2 (fun c3 => b3 c3) (fun c3 => ⟨g3,rfl,sb⟩)⟩)⟩)⟩
    case lt =>
      have c2' : (xh.length : Int) < 4:=of_decide_eq_true c2
      (first | lia | omega)
    case body =>
      intro hb
      have fnd : EvGood us c→∃ G W,Hfx c us G W:=fun go => ev_found go bus bc (by
        rcases hb with z | z | z
        · rw [hg4.mpr go] at z; exact absurd z (by decide)
        · exact .inl z
        · obtain ⟨o,ho,_,e⟩:=hg3 z
          exact .inr ⟨o,ho,e⟩)
      have ehdb:=sb _ _ ehd
      refine ⟨_,rfl,hd,_,_,_,rfl,rfl,SqT.of ehdb,rfl,_,rfl,.inl ⟨h1,pl,us,c,rfl,rh1.keep sb,kc5.keep sb,bus,bc,nus,fnd,fun go Hc sc => ?_,fun ng Hc sc => ?_⟩⟩
      · obtain rfl:=hg4.mpr go
        have sbc:=sb.trans sc
        refine ⟨_,rfl,_,rfl,_,_,rfl,.inl (SqL.of (sbc _ _ eh5)),(by show 2 ≤ sizeLine; decide),fun L2 hL2 => ?_⟩
        refine ⟨_,rfl,_,rfl,L2,_,_,_,rfl,rfl,SqL.of upd_same,rfl,_,_,.int _,.int _,(by simp [PyData.depth]),_,rfl,iteNB (by rw [lh]; exact eqv_ii _) ⟨true,rfl,sbc.trans (same_upd hL2 _)⟩⟩
      · obtain rfl : g3 = false:=Bool.eq_false_iff.mpr fun z => ng (hg4.mp z)
        have sbc:=sb.trans sc
        refine ⟨_,rfl,_,rfl,_,_,rfl,.inl (SqL.of (sbc _ _ eh5)),(by show 2 ≤ sizeLine; decide),fun L2 hL2 => ?_⟩
        refine ⟨_,rfl,_,rfl,L2,_,_,_,rfl,rfl,SqL.of upd_same,rfl,_,_,.int _,.int _,(by simp [PyData.depth]),_,rfl,iteNB (eqv_ii _) ⟨false,rfl,sbc.trans (same_upd hL2 _)⟩⟩
  rintro _ Hc ⟨g5,rfl,sc⟩
  refine ⟨_,rfl,_,rfl,_,rfl,(by show 2 ≤ sizeLine; decide),fun p hp => ?_⟩
  have u9:=same_upd hp (.tup [.ref hB,.ref lB])
  have s9:=sc.trans u9
  have d1 : Dv (upd Hc p (.tup [.ref hB,.ref lB])) (.ref hd) (.tuple [dr us,dr ls]):=.tup (s9 _ _ ehd) (.cons (rh1.keep s9).dv (.cons (rh2.keep s9).dv .nil))
  have d2 : Dv (upd Hc p (.tup [.ref hB,.ref lB])) (.ref p) (.tuple [dr us,dr ls]):=.tup upd_same (.cons (rh5.keep s9).dv (.cons (rl5.keep s9).dv .nil))
  have ee : PyData.eqv (.tuple [dr us,dr ls]) (.tuple [dr us,dr ls]) = true:=by
    rw [PyData.eqv,PyData.eqvAll,PyData.eqvAll,PyData.eqvAll,eqv_dr_self,eqv_dr_self]
    rfl
  have dd : (PyData.tuple [dr us,dr ls]).depth ≤ 60:=by
    rw [PyData.depth,PyData.depthAll,PyData.depthAll,PyData.depthAll]
    have:=depth_dr us
    have:=depth_dr ls
    (first | lia | omega)
  refine ⟨_,_,d1,d2,dd,?_⟩
  have fin : Q (.bl (PyData.eqv (.tuple [dr us,dr ls]) (.tuple [dr us,dr ls]))) (upd Hc p (.tup [.ref hB,.ref lB])):=by rw [ee]; exact q _
  exact fin
end
set_option maxHeartbeats 4000000 in
theorem all_mk {l : PySem.W.OpenLaw} {w : World} {K : PySem.W.Frag} {h : Heap} {mg : Str→Option Value} {fa f1 f2 f3 f4 f5 f6 f7 f8 f9 f10 f11 f12 f13 f14 f15 f16 f17 f18 f19 f20 f21 f22 f23 f24 f25 f26 f27 f28 f29 f30 f31 f32 f33 f34 f35 f36 f37 f38 f39 f40 f41 f42 f43 f44 f45 f46 f47 c_NoWorth c_CordError c_NoBead c_NoCord c_NoFraction c_NoName c_NoText o_Cord : Addr} (X : K.In h) (G : h.Ns mainGlobals mg) (hfa : mg "law" = some (.ref fa))
    {od1 an1 od2 an2 od3 an3 od4 an4 od5 an5 od6 an6 od7 an7 od8 an8 od9 an9 od10 an10 od11 an11 od12 an12 od13 an13 od14 an14 od15 an15 od16 an16 od17 an17 od18 an18 od19 an19 od20 an20 od21 an21 od22 an22 od23 an23 od24 an24 od25 an25 od26 an26 od27 an27 od28 an28 od29 an29 od30 an30 od31 an31 od32 an32 od33 an33 od34 an34 od35 an35 od36 an36 od37 an37 od38 an38 od39 an39 od40 an40 od41 an41 od42 an42 od43 an43 od44 an44 od45 an45 od46 an46 od47 an47 : Option Addr} {sl1 sl2 sl3 sl4 sl5 sl6 sl7 sl8 sl9 sl10 sl11 sl12 sl13 sl14 sl15 sl16 sl17 sl18 sl19 sl20 sl21 sl22 sl23 sl24 sl25 sl26 sl27 sl28 sl29 sl30 sl31 sl32 sl33 sl34 sl35 sl36 sl37 sl38 sl39 sl40 sl41 sl42 sl43 sl44 sl45 sl46 sl47 : Array (Option Value)} {oc1 kV1 dc1 pm1 cd1 ct1 oc2 kV2 dc2 pm2 cd2 ct2 oc3 kV3 dc3 pm3 cd3 ct3 oc4 kV4 dc4 pm4 cd4 ct4 oc5 kV5 dc5 pm5 cd5 ct5 oc6 kV6 dc6 pm6 cd6 ct6 oc7 kV7 dc7 pm7 cd7 ct7 oc8 kV8 dc8 pm8 cd8 ct8 oc9 kV9 dc9 pm9 cd9 ct9 oc10 kV10 dc10 pm10 cd10 ct10 oc11 kV11 dc11 pm11 cd11 ct11 oc12 kV12 dc12 pm12 cd12 ct12 oc13 kV13 dc13 pm13 cd13 ct13 oc14 kV14 dc14 pm14 cd14 ct14 oc15 kV15 dc15 pm15 cd15 ct15 oc16 kV16 dc16 pm16 cd16 ct16 oc17 kV17 dc17 pm17 cd17 ct17 oc18 kV18 dc18 pm18 cd18 ct18 oc19 kV19 dc19 pm19 cd19 ct19 oc20 kV20 dc20 pm20 cd20 ct20 oc21 kV21 dc21 pm21 cd21 ct21 oc22 kV22 dc22 pm22 cd22 ct22 oc23 kV23 dc23 pm23 cd23 ct23 oc24 kV24 dc24 pm24 cd24 ct24 oc25 kV25 dc25 pm25 cd25 ct25 oc26 kV26 dc26 pm26 cd26 ct26 oc27 kV27 dc27 pm27 cd27 ct27 oc28 kV28 dc28 pm28 cd28 ct28 oc29 kV29 dc29 pm29 cd29 ct29 oc30 kV30 dc30 pm30 cd30 ct30 oc31 kV31 dc31 pm31 cd31 ct31 oc32 kV32 dc32 pm32 cd32 ct32 oc33 kV33 dc33 pm33 cd33 ct33 oc34 kV34 dc34 pm34 cd34 ct34 oc35 kV35 dc35 pm35 cd35 ct35 oc36 kV36 dc36 pm36 cd36 ct36 oc37 kV37 dc37 pm37 cd37 ct37 oc38 kV38 dc38 pm38 cd38 ct38 oc39 kV39 dc39 pm39 cd39 ct39 oc40 kV40 dc40 pm40 cd40 ct40 oc41 kV41 dc41 pm41 cd41 ct41 oc42 kV42 dc42 pm42 cd42 ct42 oc43 kV43 dc43 pm43 cd43 ct43 oc44 kV44 dc44 pm44 cd44 ct44 oc45 kV45 dc45 pm45 cd45 ct45 oc46 kV46 dc46 pm46 cd46 ct46 oc47 kV47 dc47 pm47 cd47 ct47 : Value}
    {dt4 : Addr} {dto4 : Value} {dtd4 : Option Addr} {dtn4 : Nat} {dts4 : Array (Option Value)} {dtk4_0 : Tok}
    (a1 : PySem.W.nsIn K mainGlobals "divisor" = some (some (.ref f1))) (l1 : K.lookup f1 = some ⟨oc1,od1,.func (PySem.W.fnOf "divisor" "divisor" (defArgs s_divisor) (defBody s_divisor) (defScope s_divisor) .none kV1 dc1 pm1 an1 cd1 ct1),sl1⟩) (c1 : PySem.W.codeIn K cd1 "divisor" = true) (k1 : PySem.W.keepIn K (.ref f1) = true)
    (a2 : PySem.W.nsIn K mainGlobals "is_whole" = some (some (.ref f2))) (l2 : K.lookup f2 = some ⟨oc2,od2,.func (PySem.W.fnOf "is_whole" "is_whole" (defArgs s_is_whole) (defBody s_is_whole) (defScope s_is_whole) .none kV2 dc2 pm2 an2 cd2 ct2),sl2⟩) (c2 : PySem.W.codeIn K cd2 "is_whole" = true) (k2 : PySem.W.keepIn K (.ref f2) = true)
    (a3 : PySem.W.nsIn K mainGlobals "is_fraction" = some (some (.ref f3))) (l3 : K.lookup f3 = some ⟨oc3,od3,.func (PySem.W.fnOf "is_fraction" "is_fraction" (defArgs s_is_fraction) (defBody s_is_fraction) (defScope s_is_fraction) .none kV3 dc3 pm3 an3 cd3 ct3),sl3⟩) (c3 : PySem.W.codeIn K cd3 "is_fraction" = true) (k3 : PySem.W.keepIn K (.ref f3) = true)
    (a4 : PySem.W.nsIn K mainGlobals "fraction" = some (some (.ref f4))) (l4 : K.lookup f4 = some ⟨oc4,od4,.func (PySem.W.fnOf "fraction" "fraction" (defArgs s_fraction) (defBody s_fraction) (defScope s_fraction) (.ref dt4) kV4 dc4 pm4 an4 cd4 ct4),sl4⟩) (c4 : PySem.W.codeIn K cd4 "fraction" = true) (k4 : PySem.W.keepIn K (.ref f4) = true)
    (d4 : K.lookup dt4 = some ⟨dto4,dtd4,.seq #[.int 1 dtk4_0] dtn4,dts4⟩)
    (a5 : PySem.W.nsIn K mainGlobals "plus" = some (some (.ref f5))) (l5 : K.lookup f5 = some ⟨oc5,od5,.func (PySem.W.fnOf "plus" "plus" (defArgs s_plus) (defBody s_plus) (defScope s_plus) .none kV5 dc5 pm5 an5 cd5 ct5),sl5⟩) (c5 : PySem.W.codeIn K cd5 "plus" = true) (k5 : PySem.W.keepIn K (.ref f5) = true)
    (a6 : PySem.W.nsIn K mainGlobals "minus" = some (some (.ref f6))) (l6 : K.lookup f6 = some ⟨oc6,od6,.func (PySem.W.fnOf "minus" "minus" (defArgs s_minus) (defBody s_minus) (defScope s_minus) .none kV6 dc6 pm6 an6 cd6 ct6),sl6⟩) (c6 : PySem.W.codeIn K cd6 "minus" = true) (k6 : PySem.W.keepIn K (.ref f6) = true)
    (a7 : PySem.W.nsIn K mainGlobals "times" = some (some (.ref f7))) (l7 : K.lookup f7 = some ⟨oc7,od7,.func (PySem.W.fnOf "times" "times" (defArgs s_times) (defBody s_times) (defScope s_times) .none kV7 dc7 pm7 an7 cd7 ct7),sl7⟩) (c7 : PySem.W.codeIn K cd7 "times" = true) (k7 : PySem.W.keepIn K (.ref f7) = true)
    (a8 : PySem.W.nsIn K mainGlobals "over" = some (some (.ref f8))) (l8 : K.lookup f8 = some ⟨oc8,od8,.func (PySem.W.fnOf "over" "over" (defArgs s_over) (defBody s_over) (defScope s_over) .none kV8 dc8 pm8 an8 cd8 ct8),sl8⟩) (c8 : PySem.W.codeIn K cd8 "over" = true) (k8 : PySem.W.keepIn K (.ref f8) = true)
    (a9 : PySem.W.nsIn K mainGlobals "is_under" = some (some (.ref f9))) (l9 : K.lookup f9 = some ⟨oc9,od9,.func (PySem.W.fnOf "is_under" "is_under" (defArgs s_is_under) (defBody s_is_under) (defScope s_is_under) .none kV9 dc9 pm9 an9 cd9 ct9),sl9⟩) (c9 : PySem.W.codeIn K cd9 "is_under" = true) (k9 : PySem.W.keepIn K (.ref f9) = true)
    (a10 : PySem.W.nsIn K mainGlobals "side" = some (some (.ref f10))) (l10 : K.lookup f10 = some ⟨oc10,od10,.func (PySem.W.fnOf "side" "side" (defArgs s_side) (defBody s_side) (defScope s_side) .none kV10 dc10 pm10 an10 cd10 ct10),sl10⟩) (c10 : PySem.W.codeIn K cd10 "side" = true) (k10 : PySem.W.keepIn K (.ref f10) = true)
    (a11 : PySem.W.nsIn K mainGlobals "is_rising" = some (some (.ref f11))) (l11 : K.lookup f11 = some ⟨oc11,od11,.func (PySem.W.fnOf "is_rising" "is_rising" (defArgs s_is_rising) (defBody s_is_rising) (defScope s_is_rising) .none kV11 dc11 pm11 an11 cd11 ct11),sl11⟩) (c11 : PySem.W.codeIn K cd11 "is_rising" = true) (k11 : PySem.W.keepIn K (.ref f11) = true)
    (a12 : PySem.W.nsIn K mainGlobals "is_row_above" = some (some (.ref f12))) (l12 : K.lookup f12 = some ⟨oc12,od12,.func (PySem.W.fnOf "is_row_above" "is_row_above" (defArgs s_is_row_above) (defBody s_is_row_above) (defScope s_is_row_above) .none kV12 dc12 pm12 an12 cd12 ct12),sl12⟩) (c12 : PySem.W.codeIn K cd12 "is_row_above" = true) (k12 : PySem.W.keepIn K (.ref f12) = true)
    (a13 : PySem.W.findIn K (.ref o_Cord) "__init__" = some (some (.ref f13))) (i13 : PySem.W.isFn K (.ref f13) = true) (l13 : K.lookup f13 = some ⟨oc13,od13,.func (PySem.W.fnOf "__init__" "Cord.__init__" (defArgs s_Cord_init) (defBody s_Cord_init) (defScope s_Cord_init) .none kV13 dc13 pm13 an13 cd13 ct13),sl13⟩) (c13 : PySem.W.codeIn K cd13 "Cord.__init__" = true) (k13 : PySem.W.keepIn K (.ref f13) = true)
    (a14 : PySem.W.findIn K (.ref o_Cord) "gaps" = some (some (.ref f14))) (i14 : PySem.W.isFn K (.ref f14) = true) (l14 : K.lookup f14 = some ⟨oc14,od14,.func (PySem.W.fnOf "gaps" "Cord.gaps" (defArgs s_Cord_gaps) (defBody s_Cord_gaps) (defScope s_Cord_gaps) .none kV14 dc14 pm14 an14 cd14 ct14),sl14⟩) (c14 : PySem.W.codeIn K cd14 "Cord.gaps" = true) (k14 : PySem.W.keepIn K (.ref f14) = true)
    (a15 : PySem.W.findIn K (.ref o_Cord) "weights" = some (some (.ref f15))) (i15 : PySem.W.isFn K (.ref f15) = true) (l15 : K.lookup f15 = some ⟨oc15,od15,.func (PySem.W.fnOf "weights" "Cord.weights" (defArgs s_Cord_weights) (defBody s_Cord_weights) (defScope s_Cord_weights) .none kV15 dc15 pm15 an15 cd15 ct15),sl15⟩) (c15 : PySem.W.codeIn K cd15 "Cord.weights" = true) (k15 : PySem.W.keepIn K (.ref f15) = true)
    (a16 : PySem.W.nsIn K mainGlobals "figure_at" = some (some (.ref f16))) (l16 : K.lookup f16 = some ⟨oc16,od16,.func (PySem.W.fnOf "figure_at" "figure_at" (defArgs s_figure_at) (defBody s_figure_at) (defScope s_figure_at) .none kV16 dc16 pm16 an16 cd16 ct16),sl16⟩) (c16 : PySem.W.codeIn K cd16 "figure_at" = true) (k16 : PySem.W.keepIn K (.ref f16) = true)
    (a17 : PySem.W.nsIn K mainGlobals "poly" = some (some (.ref f17))) (l17 : K.lookup f17 = some ⟨oc17,od17,.func (PySem.W.fnOf "poly" "poly" (defArgs s_poly) (defBody s_poly) (defScope s_poly) .none kV17 dc17 pm17 an17 cd17 ct17),sl17⟩) (c17 : PySem.W.codeIn K cd17 "poly" = true) (k17 : PySem.W.keepIn K (.ref f17) = true)
    (a18 : PySem.W.nsIn K mainGlobals "poly_plus" = some (some (.ref f18))) (l18 : K.lookup f18 = some ⟨oc18,od18,.func (PySem.W.fnOf "poly_plus" "poly_plus" (defArgs s_poly_plus) (defBody s_poly_plus) (defScope s_poly_plus) .none kV18 dc18 pm18 an18 cd18 ct18),sl18⟩) (c18 : PySem.W.codeIn K cd18 "poly_plus" = true) (k18 : PySem.W.keepIn K (.ref f18) = true)
    (a19 : PySem.W.nsIn K mainGlobals "scaled" = some (some (.ref f19))) (l19 : K.lookup f19 = some ⟨oc19,od19,.func (PySem.W.fnOf "scaled" "scaled" (defArgs s_scaled) (defBody s_scaled) (defScope s_scaled) .none kV19 dc19 pm19 an19 cd19 ct19),sl19⟩) (c19 : PySem.W.codeIn K cd19 "scaled" = true) (k19 : PySem.W.keepIn K (.ref f19) = true)
    (a20 : PySem.W.nsIn K mainGlobals "times_number" = some (some (.ref f20))) (l20 : K.lookup f20 = some ⟨oc20,od20,.func (PySem.W.fnOf "times_number" "times_number" (defArgs s_times_number) (defBody s_times_number) (defScope s_times_number) .none kV20 dc20 pm20 an20 cd20 ct20),sl20⟩) (c20 : PySem.W.codeIn K cd20 "times_number" = true) (k20 : PySem.W.keepIn K (.ref f20) = true)
    (a21 : PySem.W.nsIn K mainGlobals "shared_bottom" = some (some (.ref f21))) (l21 : K.lookup f21 = some ⟨oc21,od21,.func (PySem.W.fnOf "shared_bottom" "shared_bottom" (defArgs s_shared_bottom) (defBody s_shared_bottom) (defScope s_shared_bottom) .none kV21 dc21 pm21 an21 cd21 ct21),sl21⟩) (c21 : PySem.W.codeIn K cd21 "shared_bottom" = true) (k21 : PySem.W.keepIn K (.ref f21) = true)
    (a22 : PySem.W.nsIn K mainGlobals "whole_figures" = some (some (.ref f22))) (l22 : K.lookup f22 = some ⟨oc22,od22,.func (PySem.W.fnOf "whole_figures" "whole_figures" (defArgs s_whole_figures) (defBody s_whole_figures) (defScope s_whole_figures) .none kV22 dc22 pm22 an22 cd22 ct22),sl22⟩) (c22 : PySem.W.codeIn K cd22 "whole_figures" = true) (k22 : PySem.W.keepIn K (.ref f22) = true)
    (a23 : PySem.W.nsIn K mainGlobals "whole_times" = some (some (.ref f23))) (l23 : K.lookup f23 = some ⟨oc23,od23,.func (PySem.W.fnOf "whole_times" "whole_times" (defArgs s_whole_times) (defBody s_whole_times) (defScope s_whole_times) .none kV23 dc23 pm23 an23 cd23 ct23),sl23⟩) (c23 : PySem.W.codeIn K cd23 "whole_times" = true) (k23 : PySem.W.keepIn K (.ref f23) = true)
    (a24 : PySem.W.nsIn K mainGlobals "over_one_bottom" = some (some (.ref f24))) (l24 : K.lookup f24 = some ⟨oc24,od24,.func (PySem.W.fnOf "over_one_bottom" "over_one_bottom" (defArgs s_over_one_bottom) (defBody s_over_one_bottom) (defScope s_over_one_bottom) .none kV24 dc24 pm24 an24 cd24 ct24),sl24⟩) (c24 : PySem.W.codeIn K cd24 "over_one_bottom" = true) (k24 : PySem.W.keepIn K (.ref f24) = true)
    (a25 : PySem.W.nsIn K mainGlobals "in_lowest_terms" = some (some (.ref f25))) (l25 : K.lookup f25 = some ⟨oc25,od25,.func (PySem.W.fnOf "in_lowest_terms" "in_lowest_terms" (defArgs s_in_lowest_terms) (defBody s_in_lowest_terms) (defScope s_in_lowest_terms) .none kV25 dc25 pm25 an25 cd25 ct25),sl25⟩) (c25 : PySem.W.codeIn K cd25 "in_lowest_terms" = true) (k25 : PySem.W.keepIn K (.ref f25) = true)
    (a26 : PySem.W.nsIn K mainGlobals "quotient_at" = some (some (.ref f26))) (l26 : K.lookup f26 = some ⟨oc26,od26,.func (PySem.W.fnOf "quotient_at" "quotient_at" (defArgs s_quotient_at) (defBody s_quotient_at) (defScope s_quotient_at) .none kV26 dc26 pm26 an26 cd26 ct26),sl26⟩) (c26 : PySem.W.codeIn K cd26 "quotient_at" = true) (k26 : PySem.W.keepIn K (.ref f26) = true)
    (a27 : PySem.W.nsIn K mainGlobals "rest_of" = some (some (.ref f27))) (l27 : K.lookup f27 = some ⟨oc27,od27,.func (PySem.W.fnOf "rest_of" "rest_of" (defArgs s_rest_of) (defBody s_rest_of) (defScope s_rest_of) .none kV27 dc27 pm27 an27 cd27 ct27),sl27⟩) (c27 : PySem.W.codeIn K cd27 "rest_of" = true) (k27 : PySem.W.keepIn K (.ref f27) = true)
    (a28 : PySem.W.nsIn K mainGlobals "ladder" = some (some (.ref f28))) (l28 : K.lookup f28 = some ⟨oc28,od28,.func (PySem.W.fnOf "ladder" "ladder" (defArgs s_ladder) (defBody s_ladder) (defScope s_ladder) .none kV28 dc28 pm28 an28 cd28 ct28),sl28⟩) (c28 : PySem.W.codeIn K cd28 "ladder" = true) (k28 : PySem.W.keepIn K (.ref f28) = true)
    (a29 : PySem.W.nsIn K mainGlobals "cord_with" = some (some (.ref f29))) (l29 : K.lookup f29 = some ⟨oc29,od29,.func (PySem.W.fnOf "cord_with" "cord_with" (defArgs s_cord_with) (defBody s_cord_with) (defScope s_cord_with) .none kV29 dc29 pm29 an29 cd29 ct29),sl29⟩) (c29 : PySem.W.codeIn K cd29 "cord_with" = true) (k29 : PySem.W.keepIn K (.ref f29) = true)
    (a30 : PySem.W.nsIn K mainGlobals "with_worths" = some (some (.ref f30))) (l30 : K.lookup f30 = some ⟨oc30,od30,.func (PySem.W.fnOf "with_worths" "with_worths" (defArgs s_with_worths) (defBody s_with_worths) (defScope s_with_worths) .none kV30 dc30 pm30 an30 cd30 ct30),sl30⟩) (c30 : PySem.W.codeIn K cd30 "with_worths" = true) (k30 : PySem.W.keepIn K (.ref f30) = true)
    (a31 : PySem.W.nsIn K mainGlobals "even_about_gap" = some (some (.ref f31))) (l31 : K.lookup f31 = some ⟨oc31,od31,.func (PySem.W.fnOf "even_about_gap" "even_about_gap" (defArgs s_even_about_gap) (defBody s_even_about_gap) (defScope s_even_about_gap) .none kV31 dc31 pm31 an31 cd31 ct31),sl31⟩) (c31 : PySem.W.codeIn K cd31 "even_about_gap" = true) (k31 : PySem.W.keepIn K (.ref f31) = true)
    (a32 : PySem.W.nsIn K mainGlobals "even_about_bead" = some (some (.ref f32))) (l32 : K.lookup f32 = some ⟨oc32,od32,.func (PySem.W.fnOf "even_about_bead" "even_about_bead" (defArgs s_even_about_bead) (defBody s_even_about_bead) (defScope s_even_about_bead) .none kV32 dc32 pm32 an32 cd32 ct32),sl32⟩) (c32 : PySem.W.codeIn K cd32 "even_about_bead" = true) (k32 : PySem.W.keepIn K (.ref f32) = true)
    (a33 : PySem.W.nsIn K mainGlobals "in_turns" = some (some (.ref f33))) (l33 : K.lookup f33 = some ⟨oc33,od33,.func (PySem.W.fnOf "in_turns" "in_turns" (defArgs s_in_turns) (defBody s_in_turns) (defScope s_in_turns) .none kV33 dc33 pm33 an33 cd33 ct33),sl33⟩) (c33 : PySem.W.codeIn K cd33 "in_turns" = true) (k33 : PySem.W.keepIn K (.ref f33) = true)
    (a34 : PySem.W.findIn K (.ref o_Cord) "beads" = some (some (.ref f34))) (i34 : PySem.W.isFn K (.ref f34) = true) (l34 : K.lookup f34 = some ⟨oc34,od34,.func (PySem.W.fnOf "beads" "Cord.beads" (defArgs s_Cord_beads) (defBody s_Cord_beads) (defScope s_Cord_beads) .none kV34 dc34 pm34 an34 cd34 ct34),sl34⟩) (c34 : PySem.W.codeIn K cd34 "Cord.beads" = true) (k34 : PySem.W.keepIn K (.ref f34) = true)
    (a35 : PySem.W.nsIn K mainGlobals "cord_of" = some (some (.ref f35))) (l35 : K.lookup f35 = some ⟨oc35,od35,.func (PySem.W.fnOf "cord_of" "cord_of" (defArgs s_cord_of) (defBody s_cord_of) (defScope s_cord_of) .none kV35 dc35 pm35 an35 cd35 ct35),sl35⟩) (c35 : PySem.W.codeIn K cd35 "cord_of" = true) (k35 : PySem.W.keepIn K (.ref f35) = true)
    (a36 : PySem.W.nsIn K mainGlobals "even" = some (some (.ref f36))) (l36 : K.lookup f36 = some ⟨oc36,od36,.func (PySem.W.fnOf "even" "even" (defArgs s_even) (defBody s_even) (defScope s_even) .none kV36 dc36 pm36 an36 cd36 ct36),sl36⟩) (c36 : PySem.W.codeIn K cd36 "even" = true) (k36 : PySem.W.keepIn K (.ref f36) = true)
    (a37 : PySem.W.nsIn K mainGlobals "_law_cell_at" = some (some (.ref f37))) (l37 : K.lookup f37 = some ⟨oc37,od37,.func (PySem.W.fnOf "_law_cell_at" "_law_cell_at" (defArgs s_law_cell_at) (defBody s_law_cell_at) (defScope s_law_cell_at) .none kV37 dc37 pm37 an37 cd37 ct37),sl37⟩) (c37 : PySem.W.codeIn K cd37 "_law_cell_at" = true) (k37 : PySem.W.keepIn K (.ref f37) = true)
    (a38 : PySem.W.nsIn K mainGlobals "_law_low" = some (some (.ref f38))) (l38 : K.lookup f38 = some ⟨oc38,od38,.func (PySem.W.fnOf "_law_low" "_law_low" (defArgs s_law_low) (defBody s_law_low) (defScope s_law_low) .none kV38 dc38 pm38 an38 cd38 ct38),sl38⟩) (c38 : PySem.W.codeIn K cd38 "_law_low" = true) (k38 : PySem.W.keepIn K (.ref f38) = true)
    (a39 : PySem.W.nsIn K mainGlobals "_law_plus" = some (some (.ref f39))) (l39 : K.lookup f39 = some ⟨oc39,od39,.func (PySem.W.fnOf "_law_plus" "_law_plus" (defArgs s_law_plus) (defBody s_law_plus) (defScope s_law_plus) .none kV39 dc39 pm39 an39 cd39 ct39),sl39⟩) (c39 : PySem.W.codeIn K cd39 "_law_plus" = true) (k39 : PySem.W.keepIn K (.ref f39) = true)
    (a40 : PySem.W.nsIn K mainGlobals "_law_minus" = some (some (.ref f40))) (l40 : K.lookup f40 = some ⟨oc40,od40,.func (PySem.W.fnOf "_law_minus" "_law_minus" (defArgs s_law_minus) (defBody s_law_minus) (defScope s_law_minus) .none kV40 dc40 pm40 an40 cd40 ct40),sl40⟩) (c40 : PySem.W.codeIn K cd40 "_law_minus" = true) (k40 : PySem.W.keepIn K (.ref f40) = true)
    (a41 : PySem.W.nsIn K mainGlobals "_law_rising" = some (some (.ref f41))) (l41 : K.lookup f41 = some ⟨oc41,od41,.func (PySem.W.fnOf "_law_rising" "_law_rising" (defArgs s_law_rising) (defBody s_law_rising) (defScope s_law_rising) .none kV41 dc41 pm41 an41 cd41 ct41),sl41⟩) (c41 : PySem.W.codeIn K cd41 "_law_rising" = true) (k41 : PySem.W.keepIn K (.ref f41) = true)
    (a42 : PySem.W.nsIn K mainGlobals "_law_spoiled" = some (some (.ref f42))) (l42 : K.lookup f42 = some ⟨oc42,od42,.func (PySem.W.fnOf "_law_spoiled" "_law_spoiled" (defArgs s_law_spoiled) (defBody s_law_spoiled) (defScope s_law_spoiled) .none kV42 dc42 pm42 an42 cd42 ct42),sl42⟩) (c42 : PySem.W.codeIn K cd42 "_law_spoiled" = true) (k42 : PySem.W.keepIn K (.ref f42) = true)
    (a43 : PySem.W.nsIn K mainGlobals "_law_rises" = some (some (.ref f43))) (l43 : K.lookup f43 = some ⟨oc43,od43,.func (PySem.W.fnOf "_law_rises" "_law_rises" (defArgs s_law_rises) (defBody s_law_rises) (defScope s_law_rises) .none kV43 dc43 pm43 an43 cd43 ct43),sl43⟩) (c43 : PySem.W.codeIn K cd43 "_law_rises" = true) (k43 : PySem.W.keepIn K (.ref f43) = true)
    (a44 : PySem.W.nsIn K mainGlobals "_law_in_turns" = some (some (.ref f44))) (l44 : K.lookup f44 = some ⟨oc44,od44,.func (PySem.W.fnOf "_law_in_turns" "_law_in_turns" (defArgs s_law_in_turns) (defBody s_law_in_turns) (defScope s_law_in_turns) .none kV44 dc44 pm44 an44 cd44 ct44),sl44⟩) (c44 : PySem.W.codeIn K cd44 "_law_in_turns" = true) (k44 : PySem.W.keepIn K (.ref f44) = true)
    (a45 : PySem.W.nsIn K mainGlobals "_law_asked" = some (some (.ref f45))) (l45 : K.lookup f45 = some ⟨oc45,od45,.func (PySem.W.fnOf "_law_asked" "_law_asked" (defArgs s_law_asked) (defBody s_law_asked) (defScope s_law_asked) .none kV45 dc45 pm45 an45 cd45 ct45),sl45⟩) (c45 : PySem.W.codeIn K cd45 "_law_asked" = true) (k45 : PySem.W.keepIn K (.ref f45) = true)
    (a46 : PySem.W.nsIn K mainGlobals "_law_answer" = some (some (.ref f46))) (l46 : K.lookup f46 = some ⟨oc46,od46,.func (PySem.W.fnOf "_law_answer" "_law_answer" (defArgs s_law_answer) (defBody s_law_answer) (defScope s_law_answer) .none kV46 dc46 pm46 an46 cd46 ct46),sl46⟩) (c46 : PySem.W.codeIn K cd46 "_law_answer" = true) (k46 : PySem.W.keepIn K (.ref f46) = true)
    (a47 : PySem.W.nsIn K mainGlobals "law" = some (some (.ref f47))) (l47 : K.lookup f47 = some ⟨oc47,od47,.func (PySem.W.fnOf "law" "law" (defArgs s_law) (defBody s_law) (defScope s_law) .none kV47 dc47 pm47 an47 cd47 ct47),sl47⟩) (c47 : PySem.W.codeIn K cd47 "law" = true) (k47 : PySem.W.keepIn K (.ref f47) = true)
    (n_NoWorth : PySem.W.nsIn K mainGlobals "NoWorth" = some (some (.ref c_NoWorth)))
    (n_CordError : PySem.W.nsIn K mainGlobals "CordError" = some (some (.ref c_CordError)))
    (n_NoBead : PySem.W.nsIn K mainGlobals "NoBead" = some (some (.ref c_NoBead)))
    (n_NoCord : PySem.W.nsIn K mainGlobals "NoCord" = some (some (.ref c_NoCord)))
    (n_NoFraction : PySem.W.nsIn K mainGlobals "NoFraction" = some (some (.ref c_NoFraction)))
    (n_NoName : PySem.W.nsIn K mainGlobals "NoName" = some (some (.ref c_NoName)))
    (n_NoText : PySem.W.nsIn K mainGlobals "NoText" = some (some (.ref c_NoText)))
    (o_NoWorth : PySem.W.excIn K c_NoWorth veMro "ValueError.__new__" = true) (i_NoWorth : PySem.W.isIn K (.ref c_NoWorth) c_NoWorth = true) (x_NoWorth : PySem.W.kitOne K (.ref c_NoWorth) (.ref c_CordError) = some true) (y_NoWorth : (Value.ref c_NoWorth == .ref c_CordError) = false)
    (eis_NoWorth : PySem.W.isClsIn K c_NoWorth = true)
    (ega_NoWorth : PySem.W.findIn K (.ref c_NoWorth) "__getattribute__" = some (some (.builtin "BaseException.__getattribute__")))
    (eno_NoWorth : PySem.W.findIn K (.ref c_NoWorth) "__getattr__" = some none)
    (ecl_NoWorth : PySem.W.findIn K (.ref c_NoWorth) "__class__" = some (some (.builtin "object.__class__")))
    (emb_NoWorth : PySem.W.mroIn K c_NoWorth (.type "BaseException") = some true)
    (emo_NoWorth : PySem.W.mroIn K c_NoWorth (.type "object") = some true)
    (ka_NoWorth : PySem.W.kitAny K (.ref c_NoWorth) [.ref c_NoBead,.ref c_NoCord,.ref c_NoFraction,.ref c_NoName,.ref c_NoText] = some false)
    (om_Cord : PySem.W.nsIn K mainGlobals "Cord" = some (some (.ref o_Cord))) (pg_Cord : PySem.W.plainGet K o_Cord Str.empty = true) (hd_Cord : PySem.W.hasDictIn K o_Cord = true) (po_Cord : PySem.W.plainOver K o_Cord = true) (sa_Cord : PySem.W.findIn K (.ref o_Cord) "__setattr__" = some (some (.builtin "object.__setattr__"))) (mk_Cord : PySem.W.makesIn K o_Cord = true) (kc_Cord : PySem.W.keepIn K (.ref o_Cord) = true)
    (d1_Cord : PySem.W.findIn K (.ref o_Cord) "__class__" = some (some (.builtin "object.__class__"))) (d2_Cord : PySem.W.specialIn K (.builtin "object.__class__") "__get__" = some (some (.builtin "getset_descriptor.__get__"))) (d3_Cord : PySem.W.takesIn K (.builtin "object.__class__") = some true) (d4_Cord : PySem.W.mroIn K o_Cord (.type "object") = some true) (ks_Cord : PySem.W.kitOne K (.ref o_Cord) (.ref o_Cord) = some true)
    (nf_Cord_kept_gaps : PySem.W.findIn K (.ref o_Cord) "kept_gaps" = some none)
    (nf_Cord_kept_weights : PySem.W.findIn K (.ref o_Cord) "kept_weights" = some none)
    (k_NoWorth_NoWorth : PySem.W.kitOne K (.ref c_NoWorth) (.ref c_NoWorth) = some true)
    (k_NoWorth_ValueError : PySem.W.kitOne K (.ref c_NoWorth) (.type "ValueError") = some true)
    (b_CordError : PySem.W.subIn K (.ref c_CordError) (.type "BaseException") = some true)
    (z_abs : PySem.W.nsIn K mainGlobals "abs" = some none) (z_len : PySem.W.nsIn K mainGlobals "len" = some none) (z_isinstance : PySem.W.nsIn K mainGlobals "isinstance" = some none) (z_int : PySem.W.nsIn K mainGlobals "int" = some none) (z_bool : PySem.W.nsIn K mainGlobals "bool" = some none) (z_tuple : PySem.W.nsIn K mainGlobals "tuple" = some none) (z_range : PySem.W.nsIn K mainGlobals "range" = some none) (z_list : PySem.W.nsIn K mainGlobals "list" = some none) (z_min : PySem.W.nsIn K mainGlobals "min" = some none) (z_max : PySem.W.nsIn K mainGlobals "max" = some none) (z_zip : PySem.W.nsIn K mainGlobals "zip" = some none) (z_all : PySem.W.nsIn K mainGlobals "all" = some none) (z_reversed : PySem.W.nsIn K mainGlobals "reversed" = some none) (z_enumerate : PySem.W.nsIn K mainGlobals "enumerate" = some none) (z_ValueError : PySem.W.nsIn K mainGlobals "ValueError" = some none) {qt_MOST_BEADS : Tok} (q_MOST_BEADS : PySem.W.nsIn K mainGlobals "MOST_BEADS" = some (some (.int 12 qt_MOST_BEADS))) :
    ∃ fd : FuncData,(∀ (s : Shared) (v : Value),BindsTo s fd ⟨[v],[]⟩ [("_law_script",v)]) ∧ ∀ base : Heap,K.In base→base.Ns mainGlobals mg→FnOk l.prog w K mg base CX0 10 fa fd ["_law_script"] (sp_law K):=by
  have e:=hfa.symm.trans (PySem.W.mg_of X G a47)
  cases e
  have T : Txt mg:=⟨PySem.W.mg_none_of X G z_abs,PySem.W.mg_none_of X G z_len,PySem.W.mg_none_of X G z_isinstance,PySem.W.mg_none_of X G z_int,PySem.W.mg_none_of X G z_bool,PySem.W.mg_none_of X G z_tuple,PySem.W.mg_none_of X G z_range,PySem.W.mg_none_of X G z_list,PySem.W.mg_none_of X G z_min,PySem.W.mg_none_of X G z_max,PySem.W.mg_none_of X G z_zip,PySem.W.mg_none_of X G z_all,PySem.W.mg_none_of X G z_reversed,PySem.W.mg_none_of X G z_enumerate,PySem.W.mg_none_of X G z_ValueError,⟨_,PySem.W.mg_of X G q_MOST_BEADS⟩⟩
  have R : Errs K mg c_NoWorth c_CordError c_NoBead c_NoCord c_NoFraction c_NoName c_NoText:=⟨PySem.W.mg_of X G n_NoWorth,PySem.W.mg_of X G n_CordError,PySem.W.mg_of X G n_NoBead,PySem.W.mg_of X G n_NoCord,PySem.W.mg_of X G n_NoFraction,PySem.W.mg_of X G n_NoName,PySem.W.mg_of X G n_NoText,o_NoWorth,i_NoWorth,exm_of b_CordError x_NoWorth y_NoWorth,⟨eis_NoWorth,ega_NoWorth,eno_NoWorth,ecl_NoWorth,emb_NoWorth,emo_NoWorth⟩,ka_NoWorth,k_NoWorth_NoWorth,k_NoWorth_ValueError⟩
  have O : OwnCord K mg o_Cord:=⟨PySem.W.mg_of X G om_Cord,⟨pg_Cord,hd_Cord,po_Cord,sa_Cord⟩,d1_Cord,d2_Cord,d3_Cord,d4_Cord,ks_Cord,nf_Cord_kept_gaps,nf_Cord_kept_weights⟩
  have F1:=fun_mk (st:=s_divisor) l1 c1 k1
  have b1:=F1.binds (ps:=["one","other"]) fun _ _ _ _ _ _ us hl => by
    obtain ⟨u0,u1,rfl⟩:=la2 hl
    rfl
  have F2:=fun_mk (st:=s_is_whole) l2 c2 k2
  have b2:=F2.binds (ps:=["thing"]) fun _ _ _ _ _ _ us hl => by
    obtain ⟨u0,rfl⟩:=la1 hl
    rfl
  have F3:=fun_mk (st:=s_is_fraction) l3 c3 k3
  have b3:=F3.binds (ps:=["thing"]) fun _ _ _ _ _ _ us hl => by
    obtain ⟨u0,rfl⟩:=la1 hl
    rfl
  have F5:=fun_mk (st:=s_plus) l5 c5 k5
  have b5:=F5.binds (ps:=["one","other"]) fun _ _ _ _ _ _ us hl => by
    obtain ⟨u0,u1,rfl⟩:=la2 hl
    rfl
  have F6:=fun_mk (st:=s_minus) l6 c6 k6
  have b6:=F6.binds (ps:=["one","other"]) fun _ _ _ _ _ _ us hl => by
    obtain ⟨u0,u1,rfl⟩:=la2 hl
    rfl
  have F7:=fun_mk (st:=s_times) l7 c7 k7
  have b7:=F7.binds (ps:=["one","other"]) fun _ _ _ _ _ _ us hl => by
    obtain ⟨u0,u1,rfl⟩:=la2 hl
    rfl
  have F8:=fun_mk (st:=s_over) l8 c8 k8
  have b8:=F8.binds (ps:=["one","other"]) fun _ _ _ _ _ _ us hl => by
    obtain ⟨u0,u1,rfl⟩:=la2 hl
    rfl
  have F9:=fun_mk (st:=s_is_under) l9 c9 k9
  have b9:=F9.binds (ps:=["one","other"]) fun _ _ _ _ _ _ us hl => by
    obtain ⟨u0,u1,rfl⟩:=la2 hl
    rfl
  have F10:=fun_mk (st:=s_side) l10 c10 k10
  have b10:=F10.binds (ps:=["one"]) fun _ _ _ _ _ _ us hl => by
    obtain ⟨u0,rfl⟩:=la1 hl
    rfl
  have F11:=fun_mk (st:=s_is_rising) l11 c11 k11
  have b11:=F11.binds (ps:=["row"]) fun _ _ _ _ _ _ us hl => by
    obtain ⟨u0,rfl⟩:=la1 hl
    rfl
  have F12:=fun_mk (st:=s_is_row_above) l12 c12 k12
  have b12:=F12.binds (ps:=["thing"]) fun _ _ _ _ _ _ us hl => by
    obtain ⟨u0,rfl⟩:=la1 hl
    rfl
  have F13:=fun_mk (st:=s_Cord_init) l13 c13 k13
  have b13:=F13.binds (ps:=["self","gaps","weights"]) fun _ _ _ _ _ _ us hl => by
    obtain ⟨u0,u1,u2,rfl⟩:=la3 hl
    rfl
  have F14:=fun_mk (st:=s_Cord_gaps) l14 c14 k14
  have b14:=F14.binds (ps:=["self"]) fun _ _ _ _ _ _ us hl => by
    obtain ⟨u0,rfl⟩:=la1 hl
    rfl
  have F15:=fun_mk (st:=s_Cord_weights) l15 c15 k15
  have b15:=F15.binds (ps:=["self"]) fun _ _ _ _ _ _ us hl => by
    obtain ⟨u0,rfl⟩:=la1 hl
    rfl
  have F16:=fun_mk (st:=s_figure_at) l16 c16 k16
  have b16:=F16.binds (ps:=["one","power"]) fun _ _ _ _ _ _ us hl => by
    obtain ⟨u0,u1,rfl⟩:=la2 hl
    rfl
  have F17:=fun_mk (st:=s_poly) l17 c17 k17
  have b17:=F17.binds (ps:=["figures"]) fun _ _ _ _ _ _ us hl => by
    obtain ⟨u0,rfl⟩:=la1 hl
    rfl
  have F18:=fun_mk (st:=s_poly_plus) l18 c18 k18
  have b18:=F18.binds (ps:=["one","other"]) fun _ _ _ _ _ _ us hl => by
    obtain ⟨u0,u1,rfl⟩:=la2 hl
    rfl
  have F19:=fun_mk (st:=s_scaled) l19 c19 k19
  have b19:=F19.binds (ps:=["one","number"]) fun _ _ _ _ _ _ us hl => by
    obtain ⟨u0,u1,rfl⟩:=la2 hl
    rfl
  have F20:=fun_mk (st:=s_times_number) l20 c20 k20
  have b20:=F20.binds (ps:=["one"]) fun _ _ _ _ _ _ us hl => by
    obtain ⟨u0,rfl⟩:=la1 hl
    rfl
  have F21:=fun_mk (st:=s_shared_bottom) l21 c21 k21
  have b21:=F21.binds (ps:=["figures"]) fun _ _ _ _ _ _ us hl => by
    obtain ⟨u0,rfl⟩:=la1 hl
    rfl
  have F22:=fun_mk (st:=s_whole_figures) l22 c22 k22
  have b22:=F22.binds (ps:=["one","bottom"]) fun _ _ _ _ _ _ us hl => by
    obtain ⟨u0,u1,rfl⟩:=la2 hl
    rfl
  have F23:=fun_mk (st:=s_whole_times) l23 c23 k23
  have b23:=F23.binds (ps:=["one","other"]) fun _ _ _ _ _ _ us hl => by
    obtain ⟨u0,u1,rfl⟩:=la2 hl
    rfl
  have F24:=fun_mk (st:=s_over_one_bottom) l24 c24 k24
  have b24:=F24.binds (ps:=["one"]) fun _ _ _ _ _ _ us hl => by
    obtain ⟨u0,rfl⟩:=la1 hl
    rfl
  have F25:=fun_mk (st:=s_in_lowest_terms) l25 c25 k25
  have b25:=F25.binds (ps:=["figures","bottom"]) fun _ _ _ _ _ _ us hl => by
    obtain ⟨u0,u1,rfl⟩:=la2 hl
    rfl
  have F26:=fun_mk (st:=s_quotient_at) l26 c26 k26
  have b26:=F26.binds (ps:=["place","one","other"]) fun _ _ _ _ _ _ us hl => by
    obtain ⟨u0,u1,u2,rfl⟩:=la3 hl
    rfl
  have F27:=fun_mk (st:=s_rest_of) l27 c27 k27
  have b27:=F27.binds (ps:=["one","other"]) fun _ _ _ _ _ _ us hl => by
    obtain ⟨u0,u1,rfl⟩:=la2 hl
    rfl
  have F28:=fun_mk (st:=s_ladder) l28 c28 k28
  have b28:=F28.binds (ps:=["upper","lower"]) fun _ _ _ _ _ _ us hl => by
    obtain ⟨u0,u1,rfl⟩:=la2 hl
    rfl
  have F29:=fun_mk (st:=s_cord_with) l29 c29 k29
  have b29:=F29.binds (ps:=["upper","lower"]) fun _ _ _ _ _ _ us hl => by
    obtain ⟨u0,u1,rfl⟩:=la2 hl
    rfl
  have F30:=fun_mk (st:=s_with_worths) l30 c30 k30
  have b30:=F30.binds (ps:=["worths","first"]) fun _ _ _ _ _ _ us hl => by
    obtain ⟨u0,u1,rfl⟩:=la2 hl
    rfl
  have F31:=fun_mk (st:=s_even_about_gap) l31 c31 k31
  have b31:=F31.binds (ps:=["half"]) fun _ _ _ _ _ _ us hl => by
    obtain ⟨u0,rfl⟩:=la1 hl
    rfl
  have F32:=fun_mk (st:=s_even_about_bead) l32 c32 k32
  have b32:=F32.binds (ps:=["half","middle"]) fun _ _ _ _ _ _ us hl => by
    obtain ⟨u0,u1,rfl⟩:=la2 hl
    rfl
  have F33:=fun_mk (st:=s_in_turns) l33 c33 k33
  have b33:=F33.binds (ps:=["firsts","seconds"]) fun _ _ _ _ _ _ us hl => by
    obtain ⟨u0,u1,rfl⟩:=la2 hl
    rfl
  have F34:=fun_mk (st:=s_Cord_beads) l34 c34 k34
  have b34:=F34.binds (ps:=["self"]) fun _ _ _ _ _ _ us hl => by
    obtain ⟨u0,rfl⟩:=la1 hl
    rfl
  have F35:=fun_mk (st:=s_cord_of) l35 c35 k35
  have b35:=F35.binds (ps:=["helds","looses","length"]) fun _ _ _ _ _ _ us hl => by
    obtain ⟨u0,u1,u2,rfl⟩:=la3 hl
    rfl
  have F36:=fun_mk (st:=s_even) l36 c36 k36
  have b36:=F36.binds (ps:=["helds","length"]) fun _ _ _ _ _ _ us hl => by
    obtain ⟨u0,u1,rfl⟩:=la2 hl
    rfl
  have F37:=fun_mk (st:=s_law_cell_at) l37 c37 k37
  have b37:=F37.binds (ps:=["_law_script","_law_k"]) fun _ _ _ _ _ _ us hl => by
    obtain ⟨u0,u1,rfl⟩:=la2 hl
    rfl
  have F38:=fun_mk (st:=s_law_low) l38 c38 k38
  have b38:=F38.binds (ps:=["_law_top","_law_bottom"]) fun _ _ _ _ _ _ us hl => by
    obtain ⟨u0,u1,rfl⟩:=la2 hl
    rfl
  have F39:=fun_mk (st:=s_law_plus) l39 c39 k39
  have b39:=F39.binds (ps:=["_law_one","_law_other"]) fun _ _ _ _ _ _ us hl => by
    obtain ⟨u0,u1,rfl⟩:=la2 hl
    rfl
  have F40:=fun_mk (st:=s_law_minus) l40 c40 k40
  have b40:=F40.binds (ps:=["_law_one","_law_other"]) fun _ _ _ _ _ _ us hl => by
    obtain ⟨u0,u1,rfl⟩:=la2 hl
    rfl
  have F41:=fun_mk (st:=s_law_rising) l41 c41 k41
  have b41:=F41.binds (ps:=["_law_script","_law_many"]) fun _ _ _ _ _ _ us hl => by
    obtain ⟨u0,u1,rfl⟩:=la2 hl
    rfl
  have F42:=fun_mk (st:=s_law_spoiled) l42 c42 k42
  have b42:=F42.binds (ps:=["_law_row","_law_way","_law_at","_law_cell"]) fun _ _ _ _ _ _ us hl => by
    obtain ⟨u0,u1,u2,u3,rfl⟩:=la4 hl
    rfl
  have F43:=fun_mk (st:=s_law_rises) l43 c43 k43
  have b43:=F43.binds (ps:=["_law_row"]) fun _ _ _ _ _ _ us hl => by
    obtain ⟨u0,rfl⟩:=la1 hl
    rfl
  have F44:=fun_mk (st:=s_law_in_turns) l44 c44 k44
  have b44:=F44.binds (ps:=["_law_looses","_law_helds"]) fun _ _ _ _ _ _ us hl => by
    obtain ⟨u0,u1,rfl⟩:=la2 hl
    rfl
  have F45:=fun_mk (st:=s_law_asked) l45 c45 k45
  have b45:=F45.binds (ps:=["_law_helds","_law_looses","_law_length"]) fun _ _ _ _ _ _ us hl => by
    obtain ⟨u0,u1,u2,rfl⟩:=la3 hl
    rfl
  have F46:=fun_mk (st:=s_law_answer) l46 c46 k46
  have b46:=F46.binds (ps:=["_law_helds","_law_looses","_law_length"]) fun _ _ _ _ _ _ us hl => by
    obtain ⟨u0,u1,u2,rfl⟩:=la3 hl
    rfl
  have F47:=fun_mk (st:=s_law) l47 c47 k47
  refine ⟨PySem.W.fnOf "law" "law" (defArgs s_law) (defBody s_law) (defScope s_law) .none kV47 dc47 pm47 an47 cd47 ct47,fun s v => .of_eq rfl,fun base _ _ => ?_⟩
  have C_divisor : Cal l.prog w K mg base "divisor" 1 ["one","other"] (sp_div):=⟨_,_,ok_divisor F1 T,b1,k1,PySem.W.mg_of X G a1⟩
  have C_is_whole : Cal l.prog w K mg base "is_whole" 1 ["thing"] (sp_whole):=⟨_,_,ok_is_whole F2 T,b2,k2,PySem.W.mg_of X G a2⟩
  have C_is_fraction : Cal l.prog w K mg base "is_fraction" 2 ["thing"] (sp_frac):=⟨_,_,ok_is_fraction F3 T C_is_whole C_divisor,b3,k3,PySem.W.mg_of X G a3⟩
  have O_fraction:=ok_fraction (P:=l.prog) (w:=w) (base:=base) (dV:=.ref dt4) ⟨_,_,_,_,_,_,_,_,_,rfl,l4,c4⟩ T C_is_whole C_divisor
  have bd4_0 : Binds K (PySem.W.fnOf "fraction" "fraction" (defArgs s_fraction) (defBody s_fraction) (defScope s_fraction) (.ref dt4) kV4 dc4 pm4 an4 cd4 ct4) ["top","bottom"] []:=fun s us KI hl => by
    simp only [List.length_append,List.length_cons,List.length_nil] at hl
    rcases us with _ | ⟨u0,_ | ⟨u1,_ | ⟨ux,us⟩⟩⟩
    · simp only [List.length_cons,List.length_nil] at hl; (first | lia | omega)
    · simp only [List.length_cons,List.length_nil] at hl; (first | lia | omega)
    · exact PySem.W.binds_K KI rfl d4 rfl rfl rfl
    · simp only [List.length_cons] at hl; (first | lia | omega)
  have C_fraction_d0 : CalD l.prog w K mg base "fraction" 2 ["top","bottom"] [] [] (sp_fracN):=⟨⟨_,_,O_fraction,bd4_0,k4,PySem.W.mg_of X G a4⟩,.nil⟩
  have bd4_1 : Binds K (PySem.W.fnOf "fraction" "fraction" (defArgs s_fraction) (defBody s_fraction) (defScope s_fraction) (.ref dt4) kV4 dc4 pm4 an4 cd4 ct4) ["top","bottom"] [.int 1 dtk4_0]:=fun s us KI hl => by
    simp only [List.length_append,List.length_cons,List.length_nil] at hl
    rcases us with _ | ⟨u0,_ | ⟨ux,us⟩⟩
    · simp only [List.length_cons,List.length_nil] at hl; (first | lia | omega)
    · exact PySem.W.binds_K KI rfl d4 rfl rfl rfl
    · simp only [List.length_cons] at hl; (first | lia | omega)
  have C_fraction_d1 : CalD l.prog w K mg base "fraction" 2 ["top","bottom"] [.int 1 dtk4_0] [(.int 1 : V)] (sp_fracN):=⟨⟨_,_,O_fraction,bd4_1,k4,PySem.W.mg_of X G a4⟩,(.cons ⟨_,rfl⟩ .nil)⟩
  have C_plus : Cal l.prog w K mg base "plus" 2 ["one","other"] (sp_plus):=⟨_,_,ok_plus F5 T C_divisor,b5,k5,PySem.W.mg_of X G a5⟩
  have C_minus : Cal l.prog w K mg base "minus" 3 ["one","other"] (sp_bin 8000 (· - ·)):=⟨_,_,ok_minusQ F6 T C_plus,b6,k6,PySem.W.mg_of X G a6⟩
  have C_times : Cal l.prog w K mg base "times" 2 ["one","other"] (sp_bin 8000 (· * ·)):=⟨_,_,ok_timesQ F7 T C_divisor,b7,k7,PySem.W.mg_of X G a7⟩
  have C_over : Cal l.prog w K mg base "over" 3 ["one","other"] (sp_overN):=⟨_,_,ok_over F8 T C_times C_fraction_d0,b8,k8,PySem.W.mg_of X G a8⟩
  have C_is_under : Cal l.prog w K mg base "is_under" 1 ["one","other"] (sp_under):=⟨_,_,ok_is_under F9 T,b9,k9,PySem.W.mg_of X G a9⟩
  have C_side : Cal l.prog w K mg base "side" 1 ["one"] (sp_side):=⟨_,_,ok_side F10 T,b10,k10,PySem.W.mg_of X G a10⟩
  have C_is_rising : Cal l.prog w K mg base "is_rising" 2 ["row"] (sp_rising):=⟨_,_,ok_is_rising F11 T C_is_under,b11,k11,PySem.W.mg_of X G a11⟩
  have C_is_row_above : Cal l.prog w K mg base "is_row_above" 3 ["thing"] (sp_row_above):=⟨_,_,ok_is_row_above F12 T C_is_fraction C_side,b12,k12,PySem.W.mg_of X G a12⟩
  have C_Cord_init : CalC l.prog w K mg base "Cord" o_Cord 4 ["self","gaps","weights"] (sp_init0 o_Cord):=⟨_,_,ok_Cord_init0 F13 T O C_is_row_above,b13,⟨mk_Cord,a13,i13,kc_Cord⟩,O.m⟩
  have C_Cord_gaps : CalM l.prog w K mg base o_Cord "gaps" 1 ["self"] (sp_gaps o_Cord):=⟨_,_,ok_Cord_gaps F14 T O,b14,⟨a14,i14,k14⟩,O.cl⟩
  have C_Cord_weights : CalM l.prog w K mg base o_Cord "weights" 1 ["self"] (sp_weights o_Cord):=⟨_,_,ok_Cord_weights F15 T O,b15,⟨a15,i15,k15⟩,O.cl⟩
  have C_figure_at : Cal l.prog w K mg base "figure_at" 1 ["one","power"] (sp_atQ):=⟨_,_,ok_figure_at F16 T,b16,k16,PySem.W.mg_of X G a16⟩
  have C_poly : Cal l.prog w K mg base "poly" 2 ["figures"] (sp_stripQ):=⟨_,_,ok_poly F17 T C_side,b17,k17,PySem.W.mg_of X G a17⟩
  have C_poly_plus : Cal l.prog w K mg base "poly_plus" 4 ["one","other"] (sp_pbin Po.padd):=⟨_,_,ok_poly_plus F18 T C_figure_at (C_plus.imp bin_plus) C_poly,b18,k18,PySem.W.mg_of X G a18⟩
  have C_scaled : Cal l.prog w K mg base "scaled" 4 ["one","number"] (sp_scaled):=⟨_,_,ok_scaled F19 T C_times C_poly,b19,k19,PySem.W.mg_of X G a19⟩
  have C_times_number : Cal l.prog w K mg base "times_number" 3 ["one"] (sp_shift):=⟨_,_,ok_times_number F20 T C_poly,b20,k20,PySem.W.mg_of X G a20⟩
  have C_shared_bottom : Cal l.prog w K mg base "shared_bottom" 2 ["figures"] (sp_shb4):=⟨_,_,ok_shared_bottom F21 T C_divisor,b21,k21,PySem.W.mg_of X G a21⟩
  have C_whole_figures : Cal l.prog w K mg base "whole_figures" 1 ["one","bottom"] (sp_whf4):=⟨_,_,ok_whole_figures F22 T,b22,k22,PySem.W.mg_of X G a22⟩
  have C_whole_times : Cal l.prog w K mg base "whole_times" 1 ["one","other"] (sp_wht):=⟨_,_,ok_whole_times F23 T,b23,k23,PySem.W.mg_of X G a23⟩
  have C_over_one_bottom : Cal l.prog w K mg base "over_one_bottom" 3 ["one"] (sp_oob):=⟨_,_,ok_over_one_bottom F24 T C_shared_bottom C_whole_figures,b24,k24,PySem.W.mg_of X G a24⟩
  have C_in_lowest_terms : Cal l.prog w K mg base "in_lowest_terms" 2 ["figures","bottom"] (sp_ilt):=⟨_,_,ok_in_lowest_terms F25 T C_divisor,b25,k25,PySem.W.mg_of X G a25⟩
  have C_quotient_at : Cal l.prog w K mg base "quotient_at" 4 ["place","one","other"] (sp_quot):=⟨_,_,ok_quotient_at F26 T C_fraction_d0 C_minus,b26,k26,PySem.W.mg_of X G a26⟩
  have C_rest_of : Cal l.prog w K mg base "rest_of" 3 ["one","other"] (sp_rest):=⟨_,_,ok_rest_of F27 T C_in_lowest_terms,b27,k27,PySem.W.mg_of X G a27⟩
  have C_ladder : Cal l.prog w K mg base "ladder" 5 ["upper","lower"] (sp_ladderO):=⟨_,_,ok_ladder F28 T C_over_one_bottom C_quotient_at C_side C_rest_of,b28,k28,PySem.W.mg_of X G a28⟩
  have C_cord_with : Cal l.prog w K mg base "cord_with" 6 ["upper","lower"] (sp_cwO o_Cord):=⟨_,_,ok_cord_with F29 T C_ladder C_Cord_init,b29,k29,PySem.W.mg_of X G a29⟩
  have C_with_worths : Cal l.prog w K mg base "with_worths" 3 ["worths","first"] (sp_wths):=⟨_,_,ok_with_worths F30 T C_whole_times C_fraction_d0,b30,k30,PySem.W.mg_of X G a30⟩
  have C_even_about_gap : Cal l.prog w K mg base "even_about_gap" 6 ["half"] (sp_eag o_Cord):=⟨_,_,ok_even_about_gap F31 T C_times C_Cord_gaps C_Cord_weights C_Cord_init,b31,k31,PySem.W.mg_of X G a31⟩
  have C_even_about_bead : Cal l.prog w K mg base "even_about_bead" 6 ["half","middle"] (sp_eab o_Cord):=⟨_,_,ok_even_about_bead F32 T C_Cord_gaps C_Cord_weights C_Cord_init,b32,k32,PySem.W.mg_of X G a32⟩
  have C_in_turns : Cal l.prog w K mg base "in_turns" 1 ["firsts","seconds"] (sp_inturns):=⟨_,_,ok_in_turns F33 T,b33,k33,PySem.W.mg_of X G a33⟩
  have C_Cord_beads : CalM l.prog w K mg base o_Cord "beads" 1 ["self"] (sp_beads o_Cord):=⟨_,_,ok_Cord_beads F34 T O,b34,⟨a34,i34,k34⟩,O.cl⟩
  have O_cord_of:=ok_cord_of (P:=l.prog) (w:=w) (base:=base) F35.ex T R C_is_rising C_in_turns C_side C_with_worths C_cord_with
  have C_cord_of : CalX l.prog w K mg base "cord_of" 7 ["helds","looses","length"] [] [] (sp_cordofX o_Cord c_NoWorth):=⟨⟨_,_,O_cord_of,b35,k35,PySem.W.mg_of X G a35⟩,.nil⟩
  have O_even:=ok_even (P:=l.prog) (w:=w) (base:=base) F36.ex T R C_is_rising C_side C_with_worths C_over C_minus C_times C_poly_plus C_scaled C_times_number C_cord_with C_even_about_gap C_even_about_bead
  have C_even : CalX l.prog w K mg base "even" 7 ["helds","length"] [] [] (sp_evenX o_Cord c_NoWorth):=⟨⟨_,_,O_even,b36,k36,PySem.W.mg_of X G a36⟩,.nil⟩
  have C_law_cell_at : Cal l.prog w K mg base "_law_cell_at" 1 ["_law_script","_law_k"] (sp_cell0 K):=⟨_,_,ok_law_cell_at F37 T,b37,k37,PySem.W.mg_of X G a37⟩
  have C_law_low : Cal l.prog w K mg base "_law_low" 1 ["_law_top","_law_bottom"] (sp_lowQ):=⟨_,_,ok_law_low F38 T,b38,k38,PySem.W.mg_of X G a38⟩
  have C_law_plus : Cal l.prog w K mg base "_law_plus" 2 ["_law_one","_law_other"] (sp_bin 3900 (· + ·)):=⟨_,_,ok_law_plus F39 T C_law_low,b39,k39,PySem.W.mg_of X G a39⟩
  have C_law_minus : Cal l.prog w K mg base "_law_minus" 2 ["_law_one","_law_other"] (sp_bin 3900 (· - ·)):=⟨_,_,ok_law_minus F40 T C_law_low,b40,k40,PySem.W.mg_of X G a40⟩
  have C_law_rising : Cal l.prog w K mg base "_law_rising" 3 ["_law_script","_law_many"] (sp_ris56 K):=⟨_,_,ok_law_rising F41 T C_law_cell_at C_law_low C_law_plus,b41,k41,PySem.W.mg_of X G a41⟩
  have C_law_spoiled : Cal l.prog w K mg base "_law_spoiled" 3 ["_law_row","_law_way","_law_at","_law_cell"] (sp_spoiled):=⟨_,_,ok_law_spoiled F42 T C_law_low C_law_plus C_law_minus,b42,k42,PySem.W.mg_of X G a42⟩
  have C_law_rises : Cal l.prog w K mg base "_law_rises" 1 ["_law_row"] (sp_rises56):=⟨_,_,ok_law_rises F43 T,b43,k43,PySem.W.mg_of X G a43⟩
  have C_law_in_turns : Cal l.prog w K mg base "_law_in_turns" 1 ["_law_looses","_law_helds"] (sp_inturns):=⟨_,_,ok_law_in_turns F44 T,b44,k44,PySem.W.mg_of X G a44⟩
  have O_law_asked:=ok_law_asked (P:=l.prog) (w:=w) (base:=base) F45.ex T C_even C_cord_of
  have C_law_asked : CalX l.prog w K mg base "_law_asked" 8 ["_law_helds","_law_looses","_law_length"] [] [] (sp_asked56 o_Cord c_NoWorth):=⟨⟨_,_,O_law_asked,b45,k45,PySem.W.mg_of X G a45⟩,.nil⟩
  have C_law_answer : Cal l.prog w K mg base "_law_answer" 9 ["_law_helds","_law_looses","_law_length"] (sp_answer56 o_Cord):=⟨_,_,ok_law_answer F46 T R C_law_asked C_Cord_beads,b46,k46,PySem.W.mg_of X G a46⟩
  exact ok_law F47 T C_law_cell_at C_law_low C_law_rising C_law_spoiled C_law_rises C_law_in_turns C_law_answer
theorem walk {l : PySem.W.OpenLaw} {q : Program} {loose : List Str} {XP : (Str→Option Value)→Heap→Prop} {YP : World→Heap→Prop} {d : DefRec} {K : Params→PySem.W.Frag} (hn : l.most = some 63) (hdf : d.params.defaults = [])
    (hY : ∀ (w : World) (h : Heap),YP w h→(K w.params).In h)
    (F : ∀ (w : World) (mg : Str→Option Value) (fa : Addr) (h : Heap),(K w.params).In h→h.Ns mainGlobals mg→mg d.name = some (.ref fa) →
      ∃ fd : FuncData,(∀ (s : Shared) (u : Value),BindsTo s fd ⟨[u],[]⟩ [("_law_script",u)]) ∧ ∀ base : Heap,(K w.params).In base→base.Ns mainGlobals mg→FnOk l.prog w (K w.params) mg base CX0 10 fa fd ["_law_script"] (sp_law (K w.params))) :
    PySem.W.WalkO q loose XP YP l.row.toRowW d [] (fun f vs => PySem.call f vs) :=
  L2.walk_of (n:=63) (k:=10) (x:="_law_script") (CX:=fun _ => CX0) (sp:=fun w => sp_law (K w.params)) hn (by decide) hdf ⟨rfl,by decide,by decide⟩ hY F (fun _ _ a ns hl _ hS => ⟨a,ns,rfl,hS,hl,fun _ => rfl⟩) fun _ _ _ _ _ z => z
end My
namespace My
open PySem PySem.W L2
noncomputable abbrev tp : Program:=PySem.Challenge.pw_tautcord_k56_no_worths
noncomputable abbrev ke (P : Params) (x : Str) (n : Nat) (v : Value) : DictEntry:={ hash:=PyData.keyHash P x,key:=.str x n,val:=v }
noncomputable abbrev fo (x y : Str) (s : Stmt) (g : Addr) (m c : Value) : Obj:={ cls:=.type "function",data:=.func { name:=x,qualname:=y,params:=defArgs s,body:=.stmts (defBody s),scope:=defScope s,globals:=g,closure:=[],defaults:=.none,kwdefaults:=.none,pyModule:=m,code:=c } }
noncomputable abbrev tE : Obj:={ cls:=.type "tuple",data:=.seq #[] }
noncomputable abbrev fE : Obj:={ cls:=.none,data:=.fields #[] }
noncomputable def tL : Nat→List Str→List Value
  | _,[] => []
  | n,x :: xs => .str x n :: tL (n + 1) xs
noncomputable abbrev tS (n : Nat) (xs : List Str) : Obj:={ cls:=.type "tuple",data:=.seq (Array.mk (tL n xs)) }
noncomputable abbrev pF (x y : Str) (s : Stmt) : Obj:={ cls:=.none,dict:=none,data:=.func { name:=x,qualname:=y,params:=defArgs s,body:=.stmts (defBody s),scope:=defScope s,globals:=0,closure:=[],defaults:=.none,kwdefaults:=.none,doc:=.none,pyModule:=.none,annotations:=none,code:=.none,closureTuple:=.none,builtins:=0 },slots:=#[] }
noncomputable abbrev cO (x y : Str) (k l a b r m z : Nat) : Obj:={ cls:=.type "code",data:=.fields #[.str x k,.str y (k + 1),.str "/claim/cut.py" (k + 2),.int l 0,.int a 0,.int 0 0,.int 0 0,.int b 0,.ref r,.bool Bool.true,.int 181 0,.ref (r + 1),.none,.ref (r + 2),.ref (r + 3),.ref (r + 4),.int m 0,.int l 0,.str "/claim/cut.py" z] }
noncomputable abbrev lf (o : Obj) : BT:=.node o .nil .nil
noncomputable def q : Program:=view tp [0,2,3,4,5,6,7,8,10,11,13,15,16,17,18,19,20,21,23,24,25,27,28,29,30,31,32,33,35,36,37,38,39,41,43,44,45,46,47,48,49,51,52,53,54,55,56,57,58,59,60,61]
noncomputable def bE : List Stmt:=behindTheImports tp
noncomputable def eE : Env:={ scope:=tp.main.scope,locals:=mainNs,globals:=mainNs,cells:=[],code:=.ref 13,frame:=some 14 }
noncomputable abbrev cE : Code:=.body bE eE
noncomputable def u11_a (P : Params) : Obj:=tE
noncomputable def u12_a (P : Params) : Obj:=fE
noncomputable def u13_a (P : Params) : Obj:={ cls:=.type "code",data:=.fields #[.str "<module>" 182,.str "<module>" 183,.str "/claim/cut.py" 184,.int 1 0,.int 0 0,.int 0 0,.int 0 0,.int 0 0,.ref 11,.bool Bool.false,.int 181 0,.ref 12,.none,.none,.none,.none,.int 185 0,.int 1 0,.str "/claim/cut.py" 186] }
noncomputable def u14_a (P : Params) : Obj:={ cls:=.type "frame",slots:=#[some (.ref 13),some (.ref 3),some (.ref 3),none,some (.str "__main__" 164),none,some (.ref 0)] }
noncomputable def u3_1 (P : Params) : Obj:={ cls:=.type "dict",data:=.dict #[ke P "__name__" 165 (.str "tautcord.errors" 194),ke P "__doc__" 166 .none,ke P "__package__" 167 .none,ke P "__loader__" 168 (.builtin "__main__.__loader__#opaque"),ke P "__spec__" 169 .none,ke P "__annotations__" 170 (.ref 6),ke P "__builtins__" 171 (.ref 4),ke P "__file__" 173 (.str "/claim/cut.py" 172),ke P "__cached__" 174 .none,ke P "_wall" 193 (.ref 21),ke P "CordError" 213 (.ref 31),ke P "NoFraction" 229 (.ref 44),ke P "NoCord" 254 (.ref 63),ke P "NoWorth" 270 (.ref 75)] 14 }
noncomputable def u12_1 (P : Params) : Obj:={ cls:=.none,data:=.fields #[.int 1 0,.int 0 0,.ref 20,.int 5 0,.int 0 0,.ref 27,.int 7 0,.int 0 0,.ref 40,.int 9 0,.int 0 0,.ref 52,.int 13 0,.int 0 0,.ref 71] }
noncomputable def u15_1 (P : Params) : Obj:=tE
noncomputable def u16_1 (P : Params) : Obj:=fE
noncomputable def u17_1 (P : Params) : Obj:=tS 190 ["k"]
noncomputable def u18_1 (P : Params) : Obj:=tE
noncomputable def u19_1 (P : Params) : Obj:=pF "_wall" "_wall" (top 0)
noncomputable def u20_1 (P : Params) : Obj:=cO "_wall" "_wall" 187 1 1 3 15 191 192
noncomputable def u21_1 (P : Params) : Obj:=fo "_wall" "_wall" (top 0) 3 (.str "__main__" 164) (.ref 20)
noncomputable def u22_1 (P : Params) : Obj:={ cls:=.type "tuple",data:=.seq #[.type "ValueError"] }
noncomputable def u23_1 (P : Params) : Obj:={ cls:=.type "builtin_function_or_method",data:=.fields #[.builtin "type.__prepare__",.type "type"] }
noncomputable def u24_1 (P : Params) : Obj:={ cls:=.type "dict",data:=.dict #[ke P "__module__" 203 (.str "tautcord.errors" 194),ke P "__qualname__" 205 (.str "CordError" 204),ke P "__firstlineno__" 207 (.int 5 206),ke P "__static_attributes__" 208 (.ref 29)] 4 }
noncomputable def u25_1 (P : Params) : Obj:=tE
noncomputable def u26_1 (P : Params) : Obj:=fE
noncomputable def u27_1 (P : Params) : Obj:={ cls:=.type "code",data:=.fields #[.str "CordError" 198,.str "CordError" 199,.str "/claim/cut.py" 200,.int 5 0,.int 0 0,.int 0 0,.int 0 0,.int 0 0,.ref 25,.bool Bool.false,.int 181 0,.ref 26,.none,.none,.none,.none,.int 201 0,.int 5 0,.str "/claim/cut.py" 202] }
noncomputable def u28_1 (P : Params) : Obj:={ cls:=.type "frame",slots:=#[some (.ref 27),some (.ref 3),some (.ref 24),none,some (.str "tautcord.errors" 194),none,some (.ref 0)] }
noncomputable def u29_1 (P : Params) : Obj:=tE
noncomputable def u30_1 (P : Params) : Obj:={ cls:=.type "dict",data:=.dict #[ke P "__module__" 203 (.str "tautcord.errors" 194),ke P "__firstlineno__" 207 (.int 5 206),ke P "__static_attributes__" 208 (.ref 29),ke P "__weakref__" 210 (.ref 32),ke P "__doc__" 211 .none] 3 }
noncomputable def u31_1 (P : Params) : Obj:={ cls:=.type "type",data:=.cls { name:="CordError",bases:=[.type "ValueError"],mro:=[.ref 31,.type "ValueError",.type "Exception",.type "BaseException",.type "object"],ns:=30,qualname:="CordError",subclasses:=[.ref 44,.ref 63,.ref 75] },slots:=#[some (.ref 22),none,some (.str "CordError" 196),some (.str "CordError" 204),some (.builtin "ValueError.__new__"),some (.bool Bool.true)] }
noncomputable def u32_1 (P : Params) : Obj:={ cls:=.type "getset_descriptor",data:=.fields #[.str "__weakref__" 209,.ref 31,.builtin "ExceptionGroup.__weakref__",.none] }
noncomputable def u33_1 (P : Params) : Obj:={ cls:=.type "super",data:=.fields #[.ref 31,.ref 31,.ref 31] }
noncomputable def u34_1 (P : Params) : Obj:={ cls:=.type "builtin_function_or_method",data:=.fields #[.builtin "object.__init_subclass__",.ref 31] }
noncomputable def u35_1 (P : Params) : Obj:={ cls:=.type "tuple",data:=.seq #[.ref 31] }
noncomputable def u36_1 (P : Params) : Obj:={ cls:=.type "builtin_function_or_method",data:=.fields #[.builtin "type.__prepare__",.type "type"] }
noncomputable def u37_1 (P : Params) : Obj:={ cls:=.type "dict",data:=.dict #[ke P "__module__" 221 (.str "tautcord.errors" 194),ke P "__qualname__" 223 (.str "NoFraction" 222),ke P "__firstlineno__" 225 (.int 7 224),ke P "__static_attributes__" 226 (.ref 42)] 4 }
noncomputable def u38_1 (P : Params) : Obj:=tE
noncomputable def u39_1 (P : Params) : Obj:=fE
noncomputable def u40_1 (P : Params) : Obj:={ cls:=.type "code",data:=.fields #[.str "NoFraction" 216,.str "NoFraction" 217,.str "/claim/cut.py" 218,.int 7 0,.int 0 0,.int 0 0,.int 0 0,.int 0 0,.ref 38,.bool Bool.false,.int 181 0,.ref 39,.none,.none,.none,.none,.int 219 0,.int 7 0,.str "/claim/cut.py" 220] }
noncomputable def u41_1 (P : Params) : Obj:={ cls:=.type "frame",slots:=#[some (.ref 40),some (.ref 3),some (.ref 37),none,some (.str "tautcord.errors" 194),none,some (.ref 0)] }
noncomputable def u42_1 (P : Params) : Obj:=tE
noncomputable def u43_1 (P : Params) : Obj:={ cls:=.type "dict",data:=.dict #[ke P "__module__" 221 (.str "tautcord.errors" 194),ke P "__firstlineno__" 225 (.int 7 224),ke P "__static_attributes__" 226 (.ref 42),ke P "__doc__" 227 .none] 2 }
noncomputable def u44_1 (P : Params) : Obj:={ cls:=.type "type",data:=.cls { name:="NoFraction",bases:=[.ref 31],mro:=[.ref 44,.ref 31,.type "ValueError",.type "Exception",.type "BaseException",.type "object"],ns:=43,qualname:="NoFraction" },slots:=#[some (.ref 35),none,some (.str "NoFraction" 214),some (.str "NoFraction" 222),some (.builtin "ValueError.__new__"),some (.bool Bool.true)] }
noncomputable def u45_1 (P : Params) : Obj:={ cls:=.type "super",data:=.fields #[.ref 44,.ref 44,.ref 44] }
noncomputable def u46_1 (P : Params) : Obj:={ cls:=.type "builtin_function_or_method",data:=.fields #[.builtin "object.__init_subclass__",.ref 44] }
noncomputable def u47_1 (P : Params) : Obj:={ cls:=.type "tuple",data:=.seq #[.ref 31] }
noncomputable def u48_1 (P : Params) : Obj:={ cls:=.type "builtin_function_or_method",data:=.fields #[.builtin "type.__prepare__",.type "type"] }
noncomputable def u49_1 (P : Params) : Obj:={ cls:=.type "dict",data:=.dict #[ke P "__module__" 237 (.str "tautcord.errors" 194),ke P "__qualname__" 239 (.str "NoCord" 238),ke P "__firstlineno__" 241 (.int 9 240),ke P "__init__" 249 (.ref 60),ke P "__static_attributes__" 251 (.ref 61)] 5 }
noncomputable def u50_1 (P : Params) : Obj:=tE
noncomputable def u51_1 (P : Params) : Obj:={ cls:=.none,data:=.fields #[.int 11 0,.int 4 0,.ref 59] }
noncomputable def u52_1 (P : Params) : Obj:={ cls:=.type "code",data:=.fields #[.str "NoCord" 232,.str "NoCord" 233,.str "/claim/cut.py" 234,.int 9 0,.int 0 0,.int 0 0,.int 0 0,.int 0 0,.ref 50,.bool Bool.false,.int 181 0,.ref 51,.none,.none,.none,.none,.int 235 0,.int 9 0,.str "/claim/cut.py" 236] }
noncomputable def u53_1 (P : Params) : Obj:={ cls:=.type "frame",slots:=#[some (.ref 52),some (.ref 3),some (.ref 49),none,some (.str "tautcord.errors" 194),none,some (.ref 0)] }
noncomputable def u54_1 (P : Params) : Obj:=tE
noncomputable def u55_1 (P : Params) : Obj:=fE
noncomputable def u56_1 (P : Params) : Obj:=tS 245 ["self","place"]
noncomputable def u57_1 (P : Params) : Obj:=tE
noncomputable def u58_1 (P : Params) : Obj:=pF "__init__" "NoCord.__init__" (inClass (top 4) 0)
noncomputable def u59_1 (P : Params) : Obj:=cO "__init__" "NoCord.__init__" 242 11 2 3 54 247 248
noncomputable def u60_1 (P : Params) : Obj:=fo "__init__" "NoCord.__init__" (inClass (top 4) 0) 3 (.str "tautcord.errors" 194) (.ref 59)
noncomputable def u61_1 (P : Params) : Obj:=tS 250 ["place"]
noncomputable def u62_1 (P : Params) : Obj:={ cls:=.type "dict",data:=.dict #[ke P "__module__" 237 (.str "tautcord.errors" 194),ke P "__firstlineno__" 241 (.int 9 240),ke P "__init__" 249 (.ref 60),ke P "__static_attributes__" 251 (.ref 61),ke P "__doc__" 252 .none] 2 }
noncomputable def u63_1 (P : Params) : Obj:={ cls:=.type "type",data:=.cls { name:="NoCord",bases:=[.ref 31],mro:=[.ref 63,.ref 31,.type "ValueError",.type "Exception",.type "BaseException",.type "object"],ns:=62,qualname:="NoCord" },slots:=#[some (.ref 47),none,some (.str "NoCord" 230),some (.str "NoCord" 238),some (.builtin "ValueError.__new__"),some (.bool Bool.true)] }
noncomputable def u64_1 (P : Params) : Obj:={ cls:=.type "super",data:=.fields #[.ref 63,.ref 63,.ref 63] }
noncomputable def u65_1 (P : Params) : Obj:={ cls:=.type "builtin_function_or_method",data:=.fields #[.builtin "object.__init_subclass__",.ref 63] }
noncomputable def u66_1 (P : Params) : Obj:={ cls:=.type "tuple",data:=.seq #[.ref 31] }
noncomputable def u67_1 (P : Params) : Obj:={ cls:=.type "builtin_function_or_method",data:=.fields #[.builtin "type.__prepare__",.type "type"] }
noncomputable def u68_1 (P : Params) : Obj:={ cls:=.type "dict",data:=.dict #[ke P "__module__" 262 (.str "tautcord.errors" 194),ke P "__qualname__" 264 (.str "NoWorth" 263),ke P "__firstlineno__" 266 (.int 13 265),ke P "__static_attributes__" 267 (.ref 73)] 4 }
noncomputable def u69_1 (P : Params) : Obj:=tE
noncomputable def u70_1 (P : Params) : Obj:=fE
noncomputable def u71_1 (P : Params) : Obj:={ cls:=.type "code",data:=.fields #[.str "NoWorth" 257,.str "NoWorth" 258,.str "/claim/cut.py" 259,.int 13 0,.int 0 0,.int 0 0,.int 0 0,.int 0 0,.ref 69,.bool Bool.false,.int 181 0,.ref 70,.none,.none,.none,.none,.int 260 0,.int 13 0,.str "/claim/cut.py" 261] }
noncomputable def u72_1 (P : Params) : Obj:={ cls:=.type "frame",slots:=#[some (.ref 71),some (.ref 3),some (.ref 68),none,some (.str "tautcord.errors" 194),none,some (.ref 0)] }
noncomputable def u73_1 (P : Params) : Obj:=tE
noncomputable def u74_1 (P : Params) : Obj:={ cls:=.type "dict",data:=.dict #[ke P "__module__" 262 (.str "tautcord.errors" 194),ke P "__firstlineno__" 266 (.int 13 265),ke P "__static_attributes__" 267 (.ref 73),ke P "__doc__" 268 .none] 2 }
noncomputable def u75_1 (P : Params) : Obj:={ cls:=.type "type",data:=.cls { name:="NoWorth",bases:=[.ref 31],mro:=[.ref 75,.ref 31,.type "ValueError",.type "Exception",.type "BaseException",.type "object"],ns:=74,qualname:="NoWorth" },slots:=#[some (.ref 66),none,some (.str "NoWorth" 255),some (.str "NoWorth" 263),some (.builtin "ValueError.__new__"),some (.bool Bool.true)] }
noncomputable def u76_1 (P : Params) : Obj:={ cls:=.type "super",data:=.fields #[.ref 75,.ref 75,.ref 75] }
noncomputable def u77_1 (P : Params) : Obj:={ cls:=.type "builtin_function_or_method",data:=.fields #[.builtin "object.__init_subclass__",.ref 75] }
noncomputable def u3_2 (P : Params) : Obj:={ cls:=.type "dict",data:=.dict #[ke P "__name__" 165 (.str "tautcord.ratios" 339),ke P "__doc__" 166 .none,ke P "__package__" 167 .none,ke P "__loader__" 168 (.builtin "__main__.__loader__#opaque"),ke P "__spec__" 169 .none,ke P "__annotations__" 170 (.ref 6),ke P "__builtins__" 171 (.ref 4),ke P "__file__" 173 (.str "/claim/cut.py" 172),ke P "__cached__" 174 .none,ke P "_wall" 193 (.ref 21),ke P "CordError" 213 (.ref 31),ke P "NoFraction" 229 (.ref 44),ke P "NoCord" 254 (.ref 63),ke P "NoWorth" 270 (.ref 75),ke P "NoBead" 286 (.ref 87),ke P "NoText" 302 (.ref 99),ke P "NoName" 318 (.ref 111),ke P "is_whole" 327 (.ref 120),ke P "divisor" 338 (.ref 127),ke P "is_fraction" 347 (.ref 134),ke P "fraction" 357 (.ref 142),ke P "plus" 368 (.ref 149),ke P "minus" 376 (.ref 156),ke P "times" 386 (.ref 163),ke P "over" 394 (.ref 170),ke P "is_under" 402 (.ref 177),ke P "side" 409 (.ref 184),ke P "is_rising" 418 (.ref 191)] 28 }
noncomputable def u12_2 (P : Params) : Obj:={ cls:=.none,data:=.fields #[.int 1 0,.int 0 0,.ref 20,.int 5 0,.int 0 0,.ref 27,.int 7 0,.int 0 0,.ref 40,.int 9 0,.int 0 0,.ref 52,.int 13 0,.int 0 0,.ref 71,.int 15 0,.int 0 0,.ref 83,.int 17 0,.int 0 0,.ref 95,.int 19 0,.int 0 0,.ref 107,.int 22 0,.int 0 0,.ref 119,.int 24 0,.int 0 0,.ref 126,.int 33 0,.int 0 0,.ref 133,.int 39 0,.int 0 0,.ref 141,.int 48 0,.int 0 0,.ref 148,.int 53 0,.int 0 0,.ref 155,.int 55 0,.int 0 0,.ref 162,.int 59 0,.int 0 0,.ref 169,.int 63 0,.int 0 0,.ref 176,.int 65 0,.int 0 0,.ref 183,.int 71 0,.int 0 0,.ref 190] }
noncomputable def u31_2 (P : Params) : Obj:={ cls:=.type "type",data:=.cls { name:="CordError",bases:=[.type "ValueError"],mro:=[.ref 31,.type "ValueError",.type "Exception",.type "BaseException",.type "object"],ns:=30,qualname:="CordError",subclasses:=[.ref 44,.ref 63,.ref 75,.ref 87,.ref 99,.ref 111] },slots:=#[some (.ref 22),none,some (.str "CordError" 196),some (.str "CordError" 204),some (.builtin "ValueError.__new__"),some (.bool Bool.true)] }
noncomputable def u78_2 (P : Params) : Obj:={ cls:=.type "tuple",data:=.seq #[.ref 31] }
noncomputable def u79_2 (P : Params) : Obj:={ cls:=.type "builtin_function_or_method",data:=.fields #[.builtin "type.__prepare__",.type "type"] }
noncomputable def u80_2 (P : Params) : Obj:={ cls:=.type "dict",data:=.dict #[ke P "__module__" 278 (.str "tautcord.errors" 194),ke P "__qualname__" 280 (.str "NoBead" 279),ke P "__firstlineno__" 282 (.int 15 281),ke P "__static_attributes__" 283 (.ref 85)] 4 }
noncomputable def u81_2 (P : Params) : Obj:=tE
noncomputable def u82_2 (P : Params) : Obj:=fE
noncomputable def u83_2 (P : Params) : Obj:={ cls:=.type "code",data:=.fields #[.str "NoBead" 273,.str "NoBead" 274,.str "/claim/cut.py" 275,.int 15 0,.int 0 0,.int 0 0,.int 0 0,.int 0 0,.ref 81,.bool Bool.false,.int 181 0,.ref 82,.none,.none,.none,.none,.int 276 0,.int 15 0,.str "/claim/cut.py" 277] }
noncomputable def u84_2 (P : Params) : Obj:={ cls:=.type "frame",slots:=#[some (.ref 83),some (.ref 3),some (.ref 80),none,some (.str "tautcord.errors" 194),none,some (.ref 0)] }
noncomputable def u85_2 (P : Params) : Obj:=tE
noncomputable def u86_2 (P : Params) : Obj:={ cls:=.type "dict",data:=.dict #[ke P "__module__" 278 (.str "tautcord.errors" 194),ke P "__firstlineno__" 282 (.int 15 281),ke P "__static_attributes__" 283 (.ref 85),ke P "__doc__" 284 .none] 2 }
noncomputable def u87_2 (P : Params) : Obj:={ cls:=.type "type",data:=.cls { name:="NoBead",bases:=[.ref 31],mro:=[.ref 87,.ref 31,.type "ValueError",.type "Exception",.type "BaseException",.type "object"],ns:=86,qualname:="NoBead" },slots:=#[some (.ref 78),none,some (.str "NoBead" 271),some (.str "NoBead" 279),some (.builtin "ValueError.__new__"),some (.bool Bool.true)] }
noncomputable def u88_2 (P : Params) : Obj:={ cls:=.type "super",data:=.fields #[.ref 87,.ref 87,.ref 87] }
noncomputable def u89_2 (P : Params) : Obj:={ cls:=.type "builtin_function_or_method",data:=.fields #[.builtin "object.__init_subclass__",.ref 87] }
noncomputable def u90_2 (P : Params) : Obj:={ cls:=.type "tuple",data:=.seq #[.ref 31] }
noncomputable def u91_2 (P : Params) : Obj:={ cls:=.type "builtin_function_or_method",data:=.fields #[.builtin "type.__prepare__",.type "type"] }
noncomputable def u92_2 (P : Params) : Obj:={ cls:=.type "dict",data:=.dict #[ke P "__module__" 294 (.str "tautcord.errors" 194),ke P "__qualname__" 296 (.str "NoText" 295),ke P "__firstlineno__" 298 (.int 17 297),ke P "__static_attributes__" 299 (.ref 97)] 4 }
noncomputable def u93_2 (P : Params) : Obj:=tE
noncomputable def u94_2 (P : Params) : Obj:=fE
noncomputable def u95_2 (P : Params) : Obj:={ cls:=.type "code",data:=.fields #[.str "NoText" 289,.str "NoText" 290,.str "/claim/cut.py" 291,.int 17 0,.int 0 0,.int 0 0,.int 0 0,.int 0 0,.ref 93,.bool Bool.false,.int 181 0,.ref 94,.none,.none,.none,.none,.int 292 0,.int 17 0,.str "/claim/cut.py" 293] }
noncomputable def u96_2 (P : Params) : Obj:={ cls:=.type "frame",slots:=#[some (.ref 95),some (.ref 3),some (.ref 92),none,some (.str "tautcord.errors" 194),none,some (.ref 0)] }
noncomputable def u97_2 (P : Params) : Obj:=tE
noncomputable def u98_2 (P : Params) : Obj:={ cls:=.type "dict",data:=.dict #[ke P "__module__" 294 (.str "tautcord.errors" 194),ke P "__firstlineno__" 298 (.int 17 297),ke P "__static_attributes__" 299 (.ref 97),ke P "__doc__" 300 .none] 2 }
noncomputable def u99_2 (P : Params) : Obj:={ cls:=.type "type",data:=.cls { name:="NoText",bases:=[.ref 31],mro:=[.ref 99,.ref 31,.type "ValueError",.type "Exception",.type "BaseException",.type "object"],ns:=98,qualname:="NoText" },slots:=#[some (.ref 90),none,some (.str "NoText" 287),some (.str "NoText" 295),some (.builtin "ValueError.__new__"),some (.bool Bool.true)] }
noncomputable def u100_2 (P : Params) : Obj:={ cls:=.type "super",data:=.fields #[.ref 99,.ref 99,.ref 99] }
noncomputable def u101_2 (P : Params) : Obj:={ cls:=.type "builtin_function_or_method",data:=.fields #[.builtin "object.__init_subclass__",.ref 99] }
noncomputable def u102_2 (P : Params) : Obj:={ cls:=.type "tuple",data:=.seq #[.ref 31] }
noncomputable def u103_2 (P : Params) : Obj:={ cls:=.type "builtin_function_or_method",data:=.fields #[.builtin "type.__prepare__",.type "type"] }
noncomputable def u104_2 (P : Params) : Obj:={ cls:=.type "dict",data:=.dict #[ke P "__module__" 310 (.str "tautcord.errors" 194),ke P "__qualname__" 312 (.str "NoName" 311),ke P "__firstlineno__" 314 (.int 19 313),ke P "__static_attributes__" 315 (.ref 109)] 4 }
noncomputable def u105_2 (P : Params) : Obj:=tE
noncomputable def u106_2 (P : Params) : Obj:=fE
noncomputable def u107_2 (P : Params) : Obj:={ cls:=.type "code",data:=.fields #[.str "NoName" 305,.str "NoName" 306,.str "/claim/cut.py" 307,.int 19 0,.int 0 0,.int 0 0,.int 0 0,.int 0 0,.ref 105,.bool Bool.false,.int 181 0,.ref 106,.none,.none,.none,.none,.int 308 0,.int 19 0,.str "/claim/cut.py" 309] }
noncomputable def u108_2 (P : Params) : Obj:={ cls:=.type "frame",slots:=#[some (.ref 107),some (.ref 3),some (.ref 104),none,some (.str "tautcord.errors" 194),none,some (.ref 0)] }
noncomputable def u109_2 (P : Params) : Obj:=tE
noncomputable def u110_2 (P : Params) : Obj:={ cls:=.type "dict",data:=.dict #[ke P "__module__" 310 (.str "tautcord.errors" 194),ke P "__firstlineno__" 314 (.int 19 313),ke P "__static_attributes__" 315 (.ref 109),ke P "__doc__" 316 .none] 2 }
noncomputable def u111_2 (P : Params) : Obj:={ cls:=.type "type",data:=.cls { name:="NoName",bases:=[.ref 31],mro:=[.ref 111,.ref 31,.type "ValueError",.type "Exception",.type "BaseException",.type "object"],ns:=110,qualname:="NoName" },slots:=#[some (.ref 102),none,some (.str "NoName" 303),some (.str "NoName" 311),some (.builtin "ValueError.__new__"),some (.bool Bool.true)] }
noncomputable def u112_2 (P : Params) : Obj:={ cls:=.type "super",data:=.fields #[.ref 111,.ref 111,.ref 111] }
noncomputable def u113_2 (P : Params) : Obj:={ cls:=.type "builtin_function_or_method",data:=.fields #[.builtin "object.__init_subclass__",.ref 111] }
noncomputable def u114_2 (P : Params) : Obj:=tE
noncomputable def u115_2 (P : Params) : Obj:=fE
noncomputable def u116_2 (P : Params) : Obj:=tS 324 ["thing"]
noncomputable def u117_2 (P : Params) : Obj:=tE
noncomputable def u118_2 (P : Params) : Obj:=pF "is_whole" "is_whole" (top 10)
noncomputable def u119_2 (P : Params) : Obj:=cO "is_whole" "is_whole" 321 22 1 3 114 325 326
noncomputable def u120_2 (P : Params) : Obj:=fo "is_whole" "is_whole" (top 10) 3 (.str "tautcord.wholes" 319) (.ref 119)
noncomputable def u121_2 (P : Params) : Obj:=tE
noncomputable def u122_2 (P : Params) : Obj:=fE
noncomputable def u123_2 (P : Params) : Obj:=tS 331 ["one","other","first","second","rest"]
noncomputable def u124_2 (P : Params) : Obj:=tE
noncomputable def u125_2 (P : Params) : Obj:=pF "divisor" "divisor" (top 11)
noncomputable def u126_2 (P : Params) : Obj:=cO "divisor" "divisor" 328 24 2 3 121 336 337
noncomputable def u127_2 (P : Params) : Obj:=fo "divisor" "divisor" (top 11) 3 (.str "tautcord.wholes" 319) (.ref 126)
noncomputable def u128_2 (P : Params) : Obj:=tE
noncomputable def u129_2 (P : Params) : Obj:=fE
noncomputable def u130_2 (P : Params) : Obj:=tS 344 ["thing"]
noncomputable def u131_2 (P : Params) : Obj:=tE
noncomputable def u132_2 (P : Params) : Obj:=pF "is_fraction" "is_fraction" (top 13)
noncomputable def u133_2 (P : Params) : Obj:=cO "is_fraction" "is_fraction" 341 33 1 3 128 345 346
noncomputable def u134_2 (P : Params) : Obj:=fo "is_fraction" "is_fraction" (top 13) 3 (.str "tautcord.ratios" 339) (.ref 133)
noncomputable def u135_2 (P : Params) : Obj:={ cls:=.type "tuple",data:=.seq #[.int 1 348] }
noncomputable def u136_2 (P : Params) : Obj:=tE
noncomputable def u137_2 (P : Params) : Obj:=fE
noncomputable def u138_2 (P : Params) : Obj:=tS 352 ["top","bottom","shared"]
noncomputable def u139_2 (P : Params) : Obj:=tE
noncomputable def u140_2 (P : Params) : Obj:=pF "fraction" "fraction" (top 14)
noncomputable def u141_2 (P : Params) : Obj:=cO "fraction" "fraction" 349 39 2 3 136 355 356
noncomputable def u142_2 (P : Params) : Obj:={ cls:=.type "function",dict:=none,data:=.func { name:="fraction",qualname:="fraction",params:=defArgs (top 14),body:=.stmts (defBody (top 14)),scope:=defScope (top 14),globals:=3,closure:=[],defaults:=.ref 135,kwdefaults:=.none,doc:=.none,pyModule:=.str "tautcord.ratios" 339,annotations:=none,code:=.ref 141,closureTuple:=.none,builtins:=0 },slots:=#[] }
noncomputable def u143_2 (P : Params) : Obj:=tE
noncomputable def u144_2 (P : Params) : Obj:=fE
noncomputable def u145_2 (P : Params) : Obj:=tS 361 ["one","other","shared","top","left"]
noncomputable def u146_2 (P : Params) : Obj:=tE
noncomputable def u147_2 (P : Params) : Obj:=pF "plus" "plus" (top 15)
noncomputable def u148_2 (P : Params) : Obj:=cO "plus" "plus" 358 48 2 3 143 366 367
noncomputable def u149_2 (P : Params) : Obj:=fo "plus" "plus" (top 15) 3 (.str "tautcord.ratios" 339) (.ref 148)
noncomputable def u150_2 (P : Params) : Obj:=tE
noncomputable def u151_2 (P : Params) : Obj:=fE
noncomputable def u152_2 (P : Params) : Obj:=tS 372 ["one","other"]
noncomputable def u153_2 (P : Params) : Obj:=tE
noncomputable def u154_2 (P : Params) : Obj:=pF "minus" "minus" (top 16)
noncomputable def u155_2 (P : Params) : Obj:=cO "minus" "minus" 369 53 2 3 150 374 375
noncomputable def u156_2 (P : Params) : Obj:=fo "minus" "minus" (top 16) 3 (.str "tautcord.ratios" 339) (.ref 155)
noncomputable def u157_2 (P : Params) : Obj:=tE
noncomputable def u158_2 (P : Params) : Obj:=fE
noncomputable def u159_2 (P : Params) : Obj:=tS 380 ["one","other","first","second"]
noncomputable def u160_2 (P : Params) : Obj:=tE
noncomputable def u161_2 (P : Params) : Obj:=pF "times" "times" (top 17)
noncomputable def u162_2 (P : Params) : Obj:=cO "times" "times" 377 55 2 3 157 384 385
noncomputable def u163_2 (P : Params) : Obj:=fo "times" "times" (top 17) 3 (.str "tautcord.ratios" 339) (.ref 162)
noncomputable def u164_2 (P : Params) : Obj:=tE
noncomputable def u165_2 (P : Params) : Obj:=fE
noncomputable def u166_2 (P : Params) : Obj:=tS 390 ["one","other"]
noncomputable def u167_2 (P : Params) : Obj:=tE
noncomputable def u168_2 (P : Params) : Obj:=pF "over" "over" (top 18)
noncomputable def u169_2 (P : Params) : Obj:=cO "over" "over" 387 59 2 3 164 392 393
noncomputable def u170_2 (P : Params) : Obj:=fo "over" "over" (top 18) 3 (.str "tautcord.ratios" 339) (.ref 169)
noncomputable def u171_2 (P : Params) : Obj:=tE
noncomputable def u172_2 (P : Params) : Obj:=fE
noncomputable def u173_2 (P : Params) : Obj:=tS 398 ["one","other"]
noncomputable def u174_2 (P : Params) : Obj:=tE
noncomputable def u175_2 (P : Params) : Obj:=pF "is_under" "is_under" (top 19)
noncomputable def u176_2 (P : Params) : Obj:=cO "is_under" "is_under" 395 63 2 3 171 400 401
noncomputable def u177_2 (P : Params) : Obj:=fo "is_under" "is_under" (top 19) 3 (.str "tautcord.ratios" 339) (.ref 176)
noncomputable def u178_2 (P : Params) : Obj:=tE
noncomputable def u179_2 (P : Params) : Obj:=fE
noncomputable def u180_2 (P : Params) : Obj:=tS 406 ["one"]
noncomputable def u181_2 (P : Params) : Obj:=tE
noncomputable def u182_2 (P : Params) : Obj:=pF "side" "side" (top 20)
noncomputable def u183_2 (P : Params) : Obj:=cO "side" "side" 403 65 1 3 178 407 408
noncomputable def u184_2 (P : Params) : Obj:=fo "side" "side" (top 20) 3 (.str "tautcord.ratios" 339) (.ref 183)
noncomputable def u185_2 (P : Params) : Obj:=tE
noncomputable def u186_2 (P : Params) : Obj:=fE
noncomputable def u187_2 (P : Params) : Obj:=tS 413 ["row","last","one"]
noncomputable def u188_2 (P : Params) : Obj:=tE
noncomputable def u189_2 (P : Params) : Obj:=pF "is_rising" "is_rising" (top 21)
noncomputable def u190_2 (P : Params) : Obj:=cO "is_rising" "is_rising" 410 71 1 3 185 416 417
noncomputable def u191_2 (P : Params) : Obj:=fo "is_rising" "is_rising" (top 21) 3 (.str "tautcord.ratios" 339) (.ref 190)
noncomputable def u3_3 (P : Params) : Obj:={ cls:=.type "dict",data:=.dict #[ke P "__name__" 165 (.str "tautcord.found" 612),ke P "__doc__" 166 .none,ke P "__package__" 167 .none,ke P "__loader__" 168 (.builtin "__main__.__loader__#opaque"),ke P "__spec__" 169 .none,ke P "__annotations__" 170 (.ref 6),ke P "__builtins__" 171 (.ref 4),ke P "__file__" 173 (.str "/claim/cut.py" 172),ke P "__cached__" 174 .none,ke P "_wall" 193 (.ref 21),ke P "CordError" 213 (.ref 31),ke P "NoFraction" 229 (.ref 44),ke P "NoCord" 254 (.ref 63),ke P "NoWorth" 270 (.ref 75),ke P "NoBead" 286 (.ref 87),ke P "NoText" 302 (.ref 99),ke P "NoName" 318 (.ref 111),ke P "is_whole" 327 (.ref 120),ke P "divisor" 338 (.ref 127),ke P "is_fraction" 347 (.ref 134),ke P "fraction" 357 (.ref 142),ke P "plus" 368 (.ref 149),ke P "minus" 376 (.ref 156),ke P "times" 386 (.ref 163),ke P "over" 394 (.ref 170),ke P "is_under" 402 (.ref 177),ke P "side" 409 (.ref 184),ke P "is_rising" 418 (.ref 191),ke P "MOST_BEADS" 422 (.int 12 421),ke P "is_row_above" 428 (.ref 196),ke P "Cord" 496 (.ref 248),ke P "poly" 506 (.ref 259),ke P "figure_at" 514 (.ref 266),ke P "poly_plus" 520 (.ref 271),ke P "scaled" 526 (.ref 276),ke P "shared_bottom" 535 (.ref 283),ke P "whole_figures" 541 (.ref 288),ke P "whole_times" 554 (.ref 295),ke P "ladder" 570 (.ref 302),ke P "over_one_bottom" 578 (.ref 309),ke P "quotient_at" 590 (.ref 316),ke P "rest_of" 596 (.ref 321),ke P "in_lowest_terms" 602 (.ref 326),ke P "times_number" 611 (.ref 333),ke P "cord_with" 623 (.ref 340),ke P "cord_of" 632 (.ref 347),ke P "even" 643 (.ref 354),ke P "even_about_gap" 653 (.ref 361)] 48 }
noncomputable def u12_3 (P : Params) : Obj:={ cls:=.none,data:=.fields #[.int 1 0,.int 0 0,.ref 20,.int 5 0,.int 0 0,.ref 27,.int 7 0,.int 0 0,.ref 40,.int 9 0,.int 0 0,.ref 52,.int 13 0,.int 0 0,.ref 71,.int 15 0,.int 0 0,.ref 83,.int 17 0,.int 0 0,.ref 95,.int 19 0,.int 0 0,.ref 107,.int 22 0,.int 0 0,.ref 119,.int 24 0,.int 0 0,.ref 126,.int 33 0,.int 0 0,.ref 133,.int 39 0,.int 0 0,.ref 141,.int 48 0,.int 0 0,.ref 148,.int 53 0,.int 0 0,.ref 155,.int 55 0,.int 0 0,.ref 162,.int 59 0,.int 0 0,.ref 169,.int 63 0,.int 0 0,.ref 176,.int 65 0,.int 0 0,.ref 183,.int 71 0,.int 0 0,.ref 190,.int 80 0,.int 0 0,.ref 195,.int 84 0,.int 0 0,.ref 202,.int 112 0,.int 0 0,.ref 258,.int 117 0,.int 0 0,.ref 265,.int 121 0,.int 0 0,.ref 270,.int 124 0,.int 0 0,.ref 275,.int 126 0,.int 0 0,.ref 282,.int 131 0,.int 0 0,.ref 287,.int 133 0,.int 0 0,.ref 294,.int 142 0,.int 0 0,.ref 301,.int 159 0,.int 0 0,.ref 308,.int 162 0,.int 0 0,.ref 315,.int 171 0,.int 0 0,.ref 320,.int 178 0,.int 0 0,.ref 325,.int 184 0,.int 0 0,.ref 332,.int 187 0,.int 0 0,.ref 339,.int 193 0,.int 0 0,.ref 346,.int 199 0,.int 0 0,.ref 353,.int 211 0,.int 0 0,.ref 360] }
noncomputable def u192_3 (P : Params) : Obj:=tE
noncomputable def u193_3 (P : Params) : Obj:=fE
noncomputable def u194_3 (P : Params) : Obj:=pF "is_row_above" "is_row_above" (top 24)
noncomputable def u195_3 (P : Params) : Obj:={ cls:=.type "code",data:=.fields #[.str "is_row_above" 423,.str "is_row_above" 424,.str "/claim/cut.py" 425,.int 80 0,.int 1 0,.int 0 0,.int 0 0,.int 3 0,.ref 192,.bool Bool.true,.int 181 0,.ref 193,.none,.none,.none,.ref 194,.int 426 0,.int 80 0,.str "/claim/cut.py" 427] }
noncomputable def u196_3 (P : Params) : Obj:=fo "is_row_above" "is_row_above" (top 24) 3 (.str "tautcord.cords" 419) (.ref 195)
noncomputable def u197_3 (P : Params) : Obj:=tE
noncomputable def u198_3 (P : Params) : Obj:={ cls:=.type "builtin_function_or_method",data:=.fields #[.builtin "type.__prepare__",.type "type"] }
noncomputable def u199_3 (P : Params) : Obj:={ cls:=.type "dict",data:=.dict #[ke P "__module__" 436 (.str "tautcord.cords" 419),ke P "__qualname__" 438 (.str "Cord" 437),ke P "__firstlineno__" 440 (.int 84 439),ke P "__init__" 449 (.ref 210),ke P "gaps" 456 (.ref 217),ke P "weights" 463 (.ref 224),ke P "beads" 470 (.ref 231),ke P "length" 479 (.ref 238),ke P "turned" 486 (.ref 245),ke P "__static_attributes__" 489 (.ref 246)] 10 }
noncomputable def u200_3 (P : Params) : Obj:=tE
noncomputable def u201_3 (P : Params) : Obj:={ cls:=.none,data:=.fields #[.int 86 0,.int 4 0,.ref 209,.int 94 0,.int 4 0,.ref 216,.int 97 0,.int 4 0,.ref 223,.int 100 0,.int 4 0,.ref 230,.int 103 0,.int 4 0,.ref 237,.int 109 0,.int 4 0,.ref 244] }
noncomputable def u202_3 (P : Params) : Obj:={ cls:=.type "code",data:=.fields #[.str "Cord" 431,.str "Cord" 432,.str "/claim/cut.py" 433,.int 84 0,.int 0 0,.int 0 0,.int 0 0,.int 0 0,.ref 200,.bool Bool.false,.int 181 0,.ref 201,.none,.none,.none,.none,.int 434 0,.int 84 0,.str "/claim/cut.py" 435] }
noncomputable def u203_3 (P : Params) : Obj:={ cls:=.type "frame",slots:=#[some (.ref 202),some (.ref 3),some (.ref 199),none,some (.str "tautcord.cords" 419),none,some (.ref 0)] }
noncomputable def u204_3 (P : Params) : Obj:=tE
noncomputable def u205_3 (P : Params) : Obj:=fE
noncomputable def u206_3 (P : Params) : Obj:=tS 444 ["self","gaps","weights"]
noncomputable def u207_3 (P : Params) : Obj:=tE
noncomputable def u208_3 (P : Params) : Obj:=pF "__init__" "Cord.__init__" (inClass (top 25) 0)
noncomputable def u209_3 (P : Params) : Obj:=cO "__init__" "Cord.__init__" 441 86 3 3 204 447 448
noncomputable def u210_3 (P : Params) : Obj:=fo "__init__" "Cord.__init__" (inClass (top 25) 0) 3 (.str "tautcord.cords" 419) (.ref 209)
noncomputable def u211_3 (P : Params) : Obj:=tE
noncomputable def u212_3 (P : Params) : Obj:=fE
noncomputable def u213_3 (P : Params) : Obj:=tS 453 ["self"]
noncomputable def u214_3 (P : Params) : Obj:=tE
noncomputable def u215_3 (P : Params) : Obj:=pF "gaps" "Cord.gaps" (inClass (top 25) 1)
noncomputable def u216_3 (P : Params) : Obj:=cO "gaps" "Cord.gaps" 450 94 1 3 211 454 455
noncomputable def u217_3 (P : Params) : Obj:=fo "gaps" "Cord.gaps" (inClass (top 25) 1) 3 (.str "tautcord.cords" 419) (.ref 216)
noncomputable def u218_3 (P : Params) : Obj:=tE
noncomputable def u219_3 (P : Params) : Obj:=fE
noncomputable def u220_3 (P : Params) : Obj:=tS 460 ["self"]
noncomputable def u221_3 (P : Params) : Obj:=tE
noncomputable def u222_3 (P : Params) : Obj:=pF "weights" "Cord.weights" (inClass (top 25) 2)
noncomputable def u223_3 (P : Params) : Obj:=cO "weights" "Cord.weights" 457 97 1 3 218 461 462
noncomputable def u224_3 (P : Params) : Obj:=fo "weights" "Cord.weights" (inClass (top 25) 2) 3 (.str "tautcord.cords" 419) (.ref 223)
noncomputable def u225_3 (P : Params) : Obj:=tE
noncomputable def u226_3 (P : Params) : Obj:=fE
noncomputable def u227_3 (P : Params) : Obj:=tS 467 ["self"]
noncomputable def u228_3 (P : Params) : Obj:=tE
noncomputable def u229_3 (P : Params) : Obj:=pF "beads" "Cord.beads" (inClass (top 25) 3)
noncomputable def u230_3 (P : Params) : Obj:=cO "beads" "Cord.beads" 464 100 1 3 225 468 469
noncomputable def u231_3 (P : Params) : Obj:=fo "beads" "Cord.beads" (inClass (top 25) 3) 3 (.str "tautcord.cords" 419) (.ref 230)
noncomputable def u232_3 (P : Params) : Obj:=tE
noncomputable def u233_3 (P : Params) : Obj:=fE
noncomputable def u234_3 (P : Params) : Obj:=tS 474 ["self","whole","gap"]
noncomputable def u235_3 (P : Params) : Obj:=tE
noncomputable def u236_3 (P : Params) : Obj:=pF "length" "Cord.length" (inClass (top 25) 4)
noncomputable def u237_3 (P : Params) : Obj:=cO "length" "Cord.length" 471 103 1 3 232 477 478
noncomputable def u238_3 (P : Params) : Obj:=fo "length" "Cord.length" (inClass (top 25) 4) 3 (.str "tautcord.cords" 419) (.ref 237)
noncomputable def u239_3 (P : Params) : Obj:=tE
noncomputable def u240_3 (P : Params) : Obj:=fE
noncomputable def u241_3 (P : Params) : Obj:=tS 483 ["self"]
noncomputable def u242_3 (P : Params) : Obj:=tE
noncomputable def u243_3 (P : Params) : Obj:=pF "turned" "Cord.turned" (inClass (top 25) 5)
noncomputable def u244_3 (P : Params) : Obj:=cO "turned" "Cord.turned" 480 109 1 3 239 484 485
noncomputable def u245_3 (P : Params) : Obj:=fo "turned" "Cord.turned" (inClass (top 25) 5) 3 (.str "tautcord.cords" 419) (.ref 244)
noncomputable def u246_3 (P : Params) : Obj:=tS 487 ["kept_gaps","kept_weights"]
noncomputable def u247_3 (P : Params) : Obj:={ cls:=.type "dict",data:=.dict #[ke P "__module__" 436 (.str "tautcord.cords" 419),ke P "__firstlineno__" 440 (.int 84 439),ke P "__init__" 449 (.ref 210),ke P "gaps" 456 (.ref 217),ke P "weights" 463 (.ref 224),ke P "beads" 470 (.ref 231),ke P "length" 479 (.ref 238),ke P "turned" 486 (.ref 245),ke P "__static_attributes__" 489 (.ref 246),ke P "__dict__" 491 (.ref 249),ke P "__weakref__" 493 (.ref 250),ke P "__doc__" 494 .none] 4 }
noncomputable def u248_3 (P : Params) : Obj:={ cls:=.type "type",data:=.cls { name:="Cord",bases:=[.type "object"],mro:=[.ref 248,.type "object"],ns:=247,qualname:="Cord" },slots:=#[none,none,some (.str "Cord" 429),some (.str "Cord" 437),some (.builtin "object.__new__"),some (.bool Bool.true)] }
noncomputable def u249_3 (P : Params) : Obj:={ cls:=.type "getset_descriptor",data:=.fields #[.str "__dict__" 490,.ref 248,.builtin "function.__dict__",.builtin "function.__dict__#set"] }
noncomputable def u250_3 (P : Params) : Obj:={ cls:=.type "getset_descriptor",data:=.fields #[.str "__weakref__" 492,.ref 248,.builtin "ExceptionGroup.__weakref__",.none] }
noncomputable def u251_3 (P : Params) : Obj:={ cls:=.type "super",data:=.fields #[.ref 248,.ref 248,.ref 248] }
noncomputable def u252_3 (P : Params) : Obj:={ cls:=.type "builtin_function_or_method",data:=.fields #[.builtin "object.__init_subclass__",.ref 248] }
noncomputable def u253_3 (P : Params) : Obj:=tE
noncomputable def u254_3 (P : Params) : Obj:=fE
noncomputable def u255_3 (P : Params) : Obj:=tS 502 ["figures","most"]
noncomputable def u256_3 (P : Params) : Obj:=tE
noncomputable def u257_3 (P : Params) : Obj:=pF "poly" "poly" (top 27)
noncomputable def u258_3 (P : Params) : Obj:=cO "poly" "poly" 499 112 1 3 253 504 505
noncomputable def u259_3 (P : Params) : Obj:=fo "poly" "poly" (top 27) 3 (.str "tautcord.polys" 497) (.ref 258)
noncomputable def u260_3 (P : Params) : Obj:=tE
noncomputable def u261_3 (P : Params) : Obj:=fE
noncomputable def u262_3 (P : Params) : Obj:=tS 510 ["one","power"]
noncomputable def u263_3 (P : Params) : Obj:=tE
noncomputable def u264_3 (P : Params) : Obj:=pF "figure_at" "figure_at" (top 28)
noncomputable def u265_3 (P : Params) : Obj:=cO "figure_at" "figure_at" 507 117 2 3 260 512 513
noncomputable def u266_3 (P : Params) : Obj:=fo "figure_at" "figure_at" (top 28) 3 (.str "tautcord.polys" 497) (.ref 265)
noncomputable def u267_3 (P : Params) : Obj:=tE
noncomputable def u268_3 (P : Params) : Obj:=fE
noncomputable def u269_3 (P : Params) : Obj:=pF "poly_plus" "poly_plus" (top 29)
noncomputable def u270_3 (P : Params) : Obj:={ cls:=.type "code",data:=.fields #[.str "poly_plus" 515,.str "poly_plus" 516,.str "/claim/cut.py" 517,.int 121 0,.int 2 0,.int 0 0,.int 0 0,.int 3 0,.ref 267,.bool Bool.true,.int 181 0,.ref 268,.none,.none,.none,.ref 269,.int 518 0,.int 121 0,.str "/claim/cut.py" 519] }
noncomputable def u271_3 (P : Params) : Obj:=fo "poly_plus" "poly_plus" (top 29) 3 (.str "tautcord.polys" 497) (.ref 270)
noncomputable def u272_3 (P : Params) : Obj:=tE
noncomputable def u273_3 (P : Params) : Obj:=fE
noncomputable def u274_3 (P : Params) : Obj:=pF "scaled" "scaled" (top 30)
noncomputable def u275_3 (P : Params) : Obj:={ cls:=.type "code",data:=.fields #[.str "scaled" 521,.str "scaled" 522,.str "/claim/cut.py" 523,.int 124 0,.int 2 0,.int 0 0,.int 0 0,.int 3 0,.ref 272,.bool Bool.true,.int 181 0,.ref 273,.none,.none,.none,.ref 274,.int 524 0,.int 124 0,.str "/claim/cut.py" 525] }
noncomputable def u276_3 (P : Params) : Obj:=fo "scaled" "scaled" (top 30) 3 (.str "tautcord.polys" 497) (.ref 275)
noncomputable def u277_3 (P : Params) : Obj:=tE
noncomputable def u278_3 (P : Params) : Obj:=fE
noncomputable def u279_3 (P : Params) : Obj:=tS 530 ["figures","bottom","figure"]
noncomputable def u280_3 (P : Params) : Obj:=tE
noncomputable def u281_3 (P : Params) : Obj:=pF "shared_bottom" "shared_bottom" (top 31)
noncomputable def u282_3 (P : Params) : Obj:=cO "shared_bottom" "shared_bottom" 527 126 1 3 277 533 534
noncomputable def u283_3 (P : Params) : Obj:=fo "shared_bottom" "shared_bottom" (top 31) 3 (.str "tautcord.polys" 497) (.ref 282)
noncomputable def u284_3 (P : Params) : Obj:=tE
noncomputable def u285_3 (P : Params) : Obj:=fE
noncomputable def u286_3 (P : Params) : Obj:=pF "whole_figures" "whole_figures" (top 32)
noncomputable def u287_3 (P : Params) : Obj:={ cls:=.type "code",data:=.fields #[.str "whole_figures" 536,.str "whole_figures" 537,.str "/claim/cut.py" 538,.int 131 0,.int 2 0,.int 0 0,.int 0 0,.int 3 0,.ref 284,.bool Bool.true,.int 181 0,.ref 285,.none,.none,.none,.ref 286,.int 539 0,.int 131 0,.str "/claim/cut.py" 540] }
noncomputable def u288_3 (P : Params) : Obj:=fo "whole_figures" "whole_figures" (top 32) 3 (.str "tautcord.polys" 497) (.ref 287)
noncomputable def u289_3 (P : Params) : Obj:=tE
noncomputable def u290_3 (P : Params) : Obj:=fE
noncomputable def u291_3 (P : Params) : Obj:=tS 545 ["one","other","product","power","figure","further","factor"]
noncomputable def u292_3 (P : Params) : Obj:=tE
noncomputable def u293_3 (P : Params) : Obj:=pF "whole_times" "whole_times" (top 33)
noncomputable def u294_3 (P : Params) : Obj:=cO "whole_times" "whole_times" 542 133 2 3 289 552 553
noncomputable def u295_3 (P : Params) : Obj:=fo "whole_times" "whole_times" (top 33) 3 (.str "tautcord.polys" 497) (.ref 294)
noncomputable def u296_3 (P : Params) : Obj:=tE
noncomputable def u297_3 (P : Params) : Obj:=fE
noncomputable def u298_3 (P : Params) : Obj:=tS 560 ["upper","lower","one","other","quotients","place","quotient","rest"]
noncomputable def u299_3 (P : Params) : Obj:=tE
noncomputable def u300_3 (P : Params) : Obj:=pF "ladder" "ladder" (top 35)
noncomputable def u301_3 (P : Params) : Obj:=cO "ladder" "ladder" 557 142 2 3 296 568 569
noncomputable def u302_3 (P : Params) : Obj:=fo "ladder" "ladder" (top 35) 3 (.str "tautcord.ladders" 555) (.ref 301)
noncomputable def u303_3 (P : Params) : Obj:=tE
noncomputable def u304_3 (P : Params) : Obj:=fE
noncomputable def u305_3 (P : Params) : Obj:=tS 574 ["one","bottom"]
noncomputable def u306_3 (P : Params) : Obj:=tE
noncomputable def u307_3 (P : Params) : Obj:=pF "over_one_bottom" "over_one_bottom" (top 36)
noncomputable def u308_3 (P : Params) : Obj:=cO "over_one_bottom" "over_one_bottom" 571 159 1 3 303 576 577
noncomputable def u309_3 (P : Params) : Obj:=fo "over_one_bottom" "over_one_bottom" (top 36) 3 (.str "tautcord.ladders" 555) (.ref 308)
noncomputable def u310_3 (P : Params) : Obj:=tE
noncomputable def u311_3 (P : Params) : Obj:=fE
noncomputable def u312_3 (P : Params) : Obj:=tS 582 ["place","one","other","last","divided_by","quotient"]
noncomputable def u313_3 (P : Params) : Obj:=tE
noncomputable def u314_3 (P : Params) : Obj:=pF "quotient_at" "quotient_at" (top 37)
noncomputable def u315_3 (P : Params) : Obj:=cO "quotient_at" "quotient_at" 579 162 3 3 310 588 589
noncomputable def u316_3 (P : Params) : Obj:=fo "quotient_at" "quotient_at" (top 37) 3 (.str "tautcord.ladders" 555) (.ref 315)
noncomputable def u317_3 (P : Params) : Obj:=tE
noncomputable def u318_3 (P : Params) : Obj:=fE
noncomputable def u319_3 (P : Params) : Obj:=pF "rest_of" "rest_of" (top 38)
noncomputable def u320_3 (P : Params) : Obj:={ cls:=.type "code",data:=.fields #[.str "rest_of" 591,.str "rest_of" 592,.str "/claim/cut.py" 593,.int 171 0,.int 2 0,.int 0 0,.int 0 0,.int 3 0,.ref 317,.bool Bool.true,.int 181 0,.ref 318,.none,.none,.none,.ref 319,.int 594 0,.int 171 0,.str "/claim/cut.py" 595] }
noncomputable def u321_3 (P : Params) : Obj:=fo "rest_of" "rest_of" (top 38) 3 (.str "tautcord.ladders" 555) (.ref 320)
noncomputable def u322_3 (P : Params) : Obj:=tE
noncomputable def u323_3 (P : Params) : Obj:=fE
noncomputable def u324_3 (P : Params) : Obj:=pF "in_lowest_terms" "in_lowest_terms" (top 39)
noncomputable def u325_3 (P : Params) : Obj:={ cls:=.type "code",data:=.fields #[.str "in_lowest_terms" 597,.str "in_lowest_terms" 598,.str "/claim/cut.py" 599,.int 178 0,.int 2 0,.int 0 0,.int 0 0,.int 3 0,.ref 322,.bool Bool.true,.int 181 0,.ref 323,.none,.none,.none,.ref 324,.int 600 0,.int 178 0,.str "/claim/cut.py" 601] }
noncomputable def u326_3 (P : Params) : Obj:=fo "in_lowest_terms" "in_lowest_terms" (top 39) 3 (.str "tautcord.ladders" 555) (.ref 325)
noncomputable def u327_3 (P : Params) : Obj:=tE
noncomputable def u328_3 (P : Params) : Obj:=fE
noncomputable def u329_3 (P : Params) : Obj:=tS 608 ["one"]
noncomputable def u330_3 (P : Params) : Obj:=tE
noncomputable def u331_3 (P : Params) : Obj:=pF "times_number" "times_number" (top 41)
noncomputable def u332_3 (P : Params) : Obj:=cO "times_number" "times_number" 605 184 1 3 327 609 610
noncomputable def u333_3 (P : Params) : Obj:=fo "times_number" "times_number" (top 41) 3 (.str "tautcord.tones" 603) (.ref 332)
noncomputable def u334_3 (P : Params) : Obj:=tE
noncomputable def u335_3 (P : Params) : Obj:=fE
noncomputable def u336_3 (P : Params) : Obj:=tS 617 ["upper","lower","told","steps"]
noncomputable def u337_3 (P : Params) : Obj:=tE
noncomputable def u338_3 (P : Params) : Obj:=pF "cord_with" "cord_with" (top 43)
noncomputable def u339_3 (P : Params) : Obj:=cO "cord_with" "cord_with" 614 187 2 3 334 621 622
noncomputable def u340_3 (P : Params) : Obj:=fo "cord_with" "cord_with" (top 43) 3 (.str "tautcord.found" 612) (.ref 339)
noncomputable def u341_3 (P : Params) : Obj:=tE
noncomputable def u342_3 (P : Params) : Obj:=fE
noncomputable def u343_3 (P : Params) : Obj:=tS 627 ["helds","looses","length"]
noncomputable def u344_3 (P : Params) : Obj:=tE
noncomputable def u345_3 (P : Params) : Obj:=pF "cord_of" "cord_of" (top 44)
noncomputable def u346_3 (P : Params) : Obj:=cO "cord_of" "cord_of" 624 193 3 3 341 630 631
noncomputable def u347_3 (P : Params) : Obj:=fo "cord_of" "cord_of" (top 44) 3 (.str "tautcord.found" 612) (.ref 346)
noncomputable def u348_3 (P : Params) : Obj:=tE
noncomputable def u349_3 (P : Params) : Obj:=fE
noncomputable def u350_3 (P : Params) : Obj:=tS 636 ["helds","length","upper","lower","weight"]
noncomputable def u351_3 (P : Params) : Obj:=tE
noncomputable def u352_3 (P : Params) : Obj:=pF "even" "even" (top 45)
noncomputable def u353_3 (P : Params) : Obj:=cO "even" "even" 633 199 2 3 348 641 642
noncomputable def u354_3 (P : Params) : Obj:=fo "even" "even" (top 45) 3 (.str "tautcord.found" 612) (.ref 353)
noncomputable def u355_3 (P : Params) : Obj:=tE
noncomputable def u356_3 (P : Params) : Obj:=fE
noncomputable def u357_3 (P : Params) : Obj:=tS 647 ["half","gaps","weights","middle"]
noncomputable def u358_3 (P : Params) : Obj:=tE
noncomputable def u359_3 (P : Params) : Obj:=pF "even_about_gap" "even_about_gap" (top 46)
noncomputable def u360_3 (P : Params) : Obj:=cO "even_about_gap" "even_about_gap" 644 211 1 3 355 651 652
noncomputable def u361_3 (P : Params) : Obj:=fo "even_about_gap" "even_about_gap" (top 46) 3 (.str "tautcord.found" 612) (.ref 360)
noncomputable def u3_4 (P : Params) : Obj:={ cls:=.type "dict",data:=.dict #[ke P "__name__" 165 (.str "law_tautcord_k56_no_worths" 681),ke P "__doc__" 166 .none,ke P "__package__" 167 .none,ke P "__loader__" 168 (.builtin "__main__.__loader__#opaque"),ke P "__spec__" 169 .none,ke P "__annotations__" 170 (.ref 6),ke P "__builtins__" 171 (.ref 4),ke P "__file__" 173 (.str "/claim/cut.py" 172),ke P "__cached__" 174 .none,ke P "_wall" 193 (.ref 21),ke P "CordError" 213 (.ref 31),ke P "NoFraction" 229 (.ref 44),ke P "NoCord" 254 (.ref 63),ke P "NoWorth" 270 (.ref 75),ke P "NoBead" 286 (.ref 87),ke P "NoText" 302 (.ref 99),ke P "NoName" 318 (.ref 111),ke P "is_whole" 327 (.ref 120),ke P "divisor" 338 (.ref 127),ke P "is_fraction" 347 (.ref 134),ke P "fraction" 357 (.ref 142),ke P "plus" 368 (.ref 149),ke P "minus" 376 (.ref 156),ke P "times" 386 (.ref 163),ke P "over" 394 (.ref 170),ke P "is_under" 402 (.ref 177),ke P "side" 409 (.ref 184),ke P "is_rising" 418 (.ref 191),ke P "MOST_BEADS" 422 (.int 12 421),ke P "is_row_above" 428 (.ref 196),ke P "Cord" 496 (.ref 248),ke P "poly" 506 (.ref 259),ke P "figure_at" 514 (.ref 266),ke P "poly_plus" 520 (.ref 271),ke P "scaled" 526 (.ref 276),ke P "shared_bottom" 535 (.ref 283),ke P "whole_figures" 541 (.ref 288),ke P "whole_times" 554 (.ref 295),ke P "ladder" 570 (.ref 302),ke P "over_one_bottom" 578 (.ref 309),ke P "quotient_at" 590 (.ref 316),ke P "rest_of" 596 (.ref 321),ke P "in_lowest_terms" 602 (.ref 326),ke P "times_number" 611 (.ref 333),ke P "cord_with" 623 (.ref 340),ke P "cord_of" 632 (.ref 347),ke P "even" 643 (.ref 354),ke P "even_about_gap" 653 (.ref 361),ke P "even_about_bead" 663 (.ref 368),ke P "in_turns" 674 (.ref 375),ke P "with_worths" 680 (.ref 380),ke P "_law_cell_at" 690 (.ref 387),ke P "_law_low" 701 (.ref 394),ke P "_law_plus" 709 (.ref 401),ke P "_law_minus" 717 (.ref 408),ke P "_law_rising" 730 (.ref 415),ke P "_law_spoiled" 743 (.ref 422),ke P "_law_rises" 752 (.ref 429),ke P "_law_in_turns" 763 (.ref 436),ke P "_law_asked" 772 (.ref 443),ke P "_law_answer" 783 (.ref 450),ke P "law" 789 (.ref 455)] 62 }
noncomputable def u12_4 (P : Params) : Obj:={ cls:=.none,data:=.fields #[.int 1 0,.int 0 0,.ref 20,.int 5 0,.int 0 0,.ref 27,.int 7 0,.int 0 0,.ref 40,.int 9 0,.int 0 0,.ref 52,.int 13 0,.int 0 0,.ref 71,.int 15 0,.int 0 0,.ref 83,.int 17 0,.int 0 0,.ref 95,.int 19 0,.int 0 0,.ref 107,.int 22 0,.int 0 0,.ref 119,.int 24 0,.int 0 0,.ref 126,.int 33 0,.int 0 0,.ref 133,.int 39 0,.int 0 0,.ref 141,.int 48 0,.int 0 0,.ref 148,.int 53 0,.int 0 0,.ref 155,.int 55 0,.int 0 0,.ref 162,.int 59 0,.int 0 0,.ref 169,.int 63 0,.int 0 0,.ref 176,.int 65 0,.int 0 0,.ref 183,.int 71 0,.int 0 0,.ref 190,.int 80 0,.int 0 0,.ref 195,.int 84 0,.int 0 0,.ref 202,.int 112 0,.int 0 0,.ref 258,.int 117 0,.int 0 0,.ref 265,.int 121 0,.int 0 0,.ref 270,.int 124 0,.int 0 0,.ref 275,.int 126 0,.int 0 0,.ref 282,.int 131 0,.int 0 0,.ref 287,.int 133 0,.int 0 0,.ref 294,.int 142 0,.int 0 0,.ref 301,.int 159 0,.int 0 0,.ref 308,.int 162 0,.int 0 0,.ref 315,.int 171 0,.int 0 0,.ref 320,.int 178 0,.int 0 0,.ref 325,.int 184 0,.int 0 0,.ref 332,.int 187 0,.int 0 0,.ref 339,.int 193 0,.int 0 0,.ref 346,.int 199 0,.int 0 0,.ref 353,.int 211 0,.int 0 0,.ref 360,.int 216 0,.int 0 0,.ref 367,.int 220 0,.int 0 0,.ref 374,.int 226 0,.int 0 0,.ref 379,.int 234 0,.int 0 0,.ref 386,.int 238 0,.int 0 0,.ref 393,.int 248 0,.int 0 0,.ref 400,.int 250 0,.int 0 0,.ref 407,.int 252 0,.int 0 0,.ref 414,.int 265 0,.int 0 0,.ref 421,.int 276 0,.int 0 0,.ref 428,.int 283 0,.int 0 0,.ref 435,.int 288 0,.int 0 0,.ref 442,.int 292 0,.int 0 0,.ref 449,.int 300 0,.int 0 0,.ref 454] }
noncomputable def u362_4 (P : Params) : Obj:=tE
noncomputable def u363_4 (P : Params) : Obj:=fE
noncomputable def u364_4 (P : Params) : Obj:=tS 657 ["half","middle","gaps","weights"]
noncomputable def u365_4 (P : Params) : Obj:=tE
noncomputable def u366_4 (P : Params) : Obj:=pF "even_about_bead" "even_about_bead" (top 47)
noncomputable def u367_4 (P : Params) : Obj:=cO "even_about_bead" "even_about_bead" 654 216 2 3 362 661 662
noncomputable def u368_4 (P : Params) : Obj:=fo "even_about_bead" "even_about_bead" (top 47) 3 (.str "tautcord.found" 612) (.ref 367)
noncomputable def u369_4 (P : Params) : Obj:=tE
noncomputable def u370_4 (P : Params) : Obj:=fE
noncomputable def u371_4 (P : Params) : Obj:=tS 667 ["firsts","seconds","row","first","second"]
noncomputable def u372_4 (P : Params) : Obj:=tE
noncomputable def u373_4 (P : Params) : Obj:=pF "in_turns" "in_turns" (top 48)
noncomputable def u374_4 (P : Params) : Obj:=cO "in_turns" "in_turns" 664 220 2 3 369 672 673
noncomputable def u375_4 (P : Params) : Obj:=fo "in_turns" "in_turns" (top 48) 3 (.str "tautcord.found" 612) (.ref 374)
noncomputable def u376_4 (P : Params) : Obj:=tE
noncomputable def u377_4 (P : Params) : Obj:=fE
noncomputable def u378_4 (P : Params) : Obj:=pF "with_worths" "with_worths" (top 49)
noncomputable def u379_4 (P : Params) : Obj:={ cls:=.type "code",data:=.fields #[.str "with_worths" 675,.str "with_worths" 676,.str "/claim/cut.py" 677,.int 226 0,.int 2 0,.int 0 0,.int 0 0,.int 3 0,.ref 376,.bool Bool.true,.int 181 0,.ref 377,.none,.none,.none,.ref 378,.int 678 0,.int 226 0,.str "/claim/cut.py" 679] }
noncomputable def u380_4 (P : Params) : Obj:=fo "with_worths" "with_worths" (top 49) 3 (.str "tautcord.found" 612) (.ref 379)
noncomputable def u381_4 (P : Params) : Obj:=tE
noncomputable def u382_4 (P : Params) : Obj:=fE
noncomputable def u383_4 (P : Params) : Obj:=tS 686 ["_law_script","_law_k"]
noncomputable def u384_4 (P : Params) : Obj:=tE
noncomputable def u385_4 (P : Params) : Obj:=pF "_law_cell_at" "_law_cell_at" (top 51)
noncomputable def u386_4 (P : Params) : Obj:=cO "_law_cell_at" "_law_cell_at" 683 234 2 3 381 688 689
noncomputable def u387_4 (P : Params) : Obj:=fo "_law_cell_at" "_law_cell_at" (top 51) 3 (.str "law_tautcord_k56_no_worths" 681) (.ref 386)
noncomputable def u388_4 (P : Params) : Obj:=tE
noncomputable def u389_4 (P : Params) : Obj:=fE
noncomputable def u390_4 (P : Params) : Obj:=tS 694 ["_law_top","_law_bottom","_law_one","_law_other","_law_rest"]
noncomputable def u391_4 (P : Params) : Obj:=tE
noncomputable def u392_4 (P : Params) : Obj:=pF "_law_low" "_law_low" (top 52)
noncomputable def u393_4 (P : Params) : Obj:=cO "_law_low" "_law_low" 691 238 2 3 388 699 700
noncomputable def u394_4 (P : Params) : Obj:=fo "_law_low" "_law_low" (top 52) 3 (.str "law_tautcord_k56_no_worths" 681) (.ref 393)
noncomputable def u395_4 (P : Params) : Obj:=tE
noncomputable def u396_4 (P : Params) : Obj:=fE
noncomputable def u397_4 (P : Params) : Obj:=tS 705 ["_law_one","_law_other"]
noncomputable def u398_4 (P : Params) : Obj:=tE
noncomputable def u399_4 (P : Params) : Obj:=pF "_law_plus" "_law_plus" (top 53)
noncomputable def u400_4 (P : Params) : Obj:=cO "_law_plus" "_law_plus" 702 248 2 3 395 707 708
noncomputable def u401_4 (P : Params) : Obj:=fo "_law_plus" "_law_plus" (top 53) 3 (.str "law_tautcord_k56_no_worths" 681) (.ref 400)
noncomputable def u402_4 (P : Params) : Obj:=tE
noncomputable def u403_4 (P : Params) : Obj:=fE
noncomputable def u404_4 (P : Params) : Obj:=tS 713 ["_law_one","_law_other"]
noncomputable def u405_4 (P : Params) : Obj:=tE
noncomputable def u406_4 (P : Params) : Obj:=pF "_law_minus" "_law_minus" (top 54)
noncomputable def u407_4 (P : Params) : Obj:=cO "_law_minus" "_law_minus" 710 250 2 3 402 715 716
noncomputable def u408_4 (P : Params) : Obj:=fo "_law_minus" "_law_minus" (top 54) 3 (.str "law_tautcord_k56_no_worths" 681) (.ref 407)
noncomputable def u409_4 (P : Params) : Obj:=tE
noncomputable def u410_4 (P : Params) : Obj:=fE
noncomputable def u411_4 (P : Params) : Obj:=tS 721 ["_law_script","_law_many","_law_row","_law_last","_law_rest","_law_k","_law_cell"]
noncomputable def u412_4 (P : Params) : Obj:=tE
noncomputable def u413_4 (P : Params) : Obj:=pF "_law_rising" "_law_rising" (top 55)
noncomputable def u414_4 (P : Params) : Obj:=cO "_law_rising" "_law_rising" 718 252 2 3 409 728 729
noncomputable def u415_4 (P : Params) : Obj:=fo "_law_rising" "_law_rising" (top 55) 3 (.str "law_tautcord_k56_no_worths" 681) (.ref 414)
noncomputable def u416_4 (P : Params) : Obj:=tE
noncomputable def u417_4 (P : Params) : Obj:=fE
noncomputable def u418_4 (P : Params) : Obj:=tS 734 ["_law_row","_law_way","_law_at","_law_cell","_law_made","_law_ahead","_law_more"]
noncomputable def u419_4 (P : Params) : Obj:=tE
noncomputable def u420_4 (P : Params) : Obj:=pF "_law_spoiled" "_law_spoiled" (top 56)
noncomputable def u421_4 (P : Params) : Obj:=cO "_law_spoiled" "_law_spoiled" 731 265 4 3 416 741 742
noncomputable def u422_4 (P : Params) : Obj:=fo "_law_spoiled" "_law_spoiled" (top 56) 3 (.str "law_tautcord_k56_no_worths" 681) (.ref 421)
noncomputable def u423_4 (P : Params) : Obj:=tE
noncomputable def u424_4 (P : Params) : Obj:=fE
noncomputable def u425_4 (P : Params) : Obj:=tS 747 ["_law_row","_law_last","_law_worth"]
noncomputable def u426_4 (P : Params) : Obj:=tE
noncomputable def u427_4 (P : Params) : Obj:=pF "_law_rises" "_law_rises" (top 57)
noncomputable def u428_4 (P : Params) : Obj:=cO "_law_rises" "_law_rises" 744 276 1 3 423 750 751
noncomputable def u429_4 (P : Params) : Obj:=fo "_law_rises" "_law_rises" (top 57) 3 (.str "law_tautcord_k56_no_worths" 681) (.ref 428)
noncomputable def u430_4 (P : Params) : Obj:=tE
noncomputable def u431_4 (P : Params) : Obj:=fE
noncomputable def u432_4 (P : Params) : Obj:=tS 756 ["_law_looses","_law_helds","_law_row","_law_one","_law_other"]
noncomputable def u433_4 (P : Params) : Obj:=tE
noncomputable def u434_4 (P : Params) : Obj:=pF "_law_in_turns" "_law_in_turns" (top 58)
noncomputable def u435_4 (P : Params) : Obj:=cO "_law_in_turns" "_law_in_turns" 753 283 2 3 430 761 762
noncomputable def u436_4 (P : Params) : Obj:=fo "_law_in_turns" "_law_in_turns" (top 58) 3 (.str "law_tautcord_k56_no_worths" 681) (.ref 435)
noncomputable def u437_4 (P : Params) : Obj:=tE
noncomputable def u438_4 (P : Params) : Obj:=fE
noncomputable def u439_4 (P : Params) : Obj:=tS 767 ["_law_helds","_law_looses","_law_length"]
noncomputable def u440_4 (P : Params) : Obj:=tE
noncomputable def u441_4 (P : Params) : Obj:=pF "_law_asked" "_law_asked" (top 59)
noncomputable def u442_4 (P : Params) : Obj:=cO "_law_asked" "_law_asked" 764 288 3 3 437 770 771
noncomputable def u443_4 (P : Params) : Obj:=fo "_law_asked" "_law_asked" (top 59) 3 (.str "law_tautcord_k56_no_worths" 681) (.ref 442)
noncomputable def u444_4 (P : Params) : Obj:=tE
noncomputable def u445_4 (P : Params) : Obj:=fE
noncomputable def u446_4 (P : Params) : Obj:=tS 776 ["_law_helds","_law_looses","_law_length","_law_cord","e"]
noncomputable def u447_4 (P : Params) : Obj:=tE
noncomputable def u448_4 (P : Params) : Obj:=pF "_law_answer" "_law_answer" (top 60)
noncomputable def u449_4 (P : Params) : Obj:=cO "_law_answer" "_law_answer" 773 292 3 3 444 781 782
noncomputable def u450_4 (P : Params) : Obj:=fo "_law_answer" "_law_answer" (top 60) 3 (.str "law_tautcord_k56_no_worths" 681) (.ref 449)
noncomputable def u451_4 (P : Params) : Obj:=tE
noncomputable def u452_4 (P : Params) : Obj:=fE
noncomputable def u453_4 (P : Params) : Obj:=pF "law" "law" (top 61)
noncomputable def u454_4 (P : Params) : Obj:={ cls:=.type "code",data:=.fields #[.str "law" 784,.str "law" 785,.str "/claim/cut.py" 786,.int 300 0,.int 1 0,.int 0 0,.int 0 0,.int 3 0,.ref 451,.bool Bool.true,.int 181 0,.ref 452,.none,.none,.none,.ref 453,.int 787 0,.int 300 0,.str "/claim/cut.py" 788] }
noncomputable def u455_4 (P : Params) : Obj:=fo "law" "law" (top 61) 3 (.str "law_tautcord_k56_no_worths" 681) (.ref 454)
noncomputable def tr_0 (P : Params) : BT:=(.node (boot_o_0 P) (.node (boot_o_1 P) (.node (boot_o_3 P) (lf (boot_o_7 P)) (lf (u11_a P))) (.node (boot_o_5 P) (lf (boot_o_9 P)) (lf (u13_a P)))) (.node (boot_o_2 P) (.node (boot_o_4 P) (lf (boot_o_8 P)) (lf (u12_a P))) (.node (boot_o_6 P) (lf (boot_o_10 P)) (lf (u14_a P)))))
noncomputable def tr_1 (P : Params) : BT:=(.node (boot_o_0 P) (.node (boot_o_1 P) (.node (u3_1 P) (.node (boot_o_7 P) (.node (u15_1 P) (.node (u31_1 P) (lf (u63_1 P)) .nil) (lf (u47_1 P))) (.node (u23_1 P) (.node (u39_1 P) (lf (u71_1 P)) .nil) (lf (u55_1 P)))) (.node (u11_a P) (.node (u19_1 P) (.node (u35_1 P) (lf (u67_1 P)) .nil) (lf (u51_1 P))) (.node (u27_1 P) (.node (u43_1 P) (lf (u75_1 P)) .nil) (lf (u59_1 P))))) (.node (boot_o_5 P) (.node (boot_o_9 P) (.node (u17_1 P) (.node (u33_1 P) (lf (u65_1 P)) .nil) (lf (u49_1 P))) (.node (u25_1 P) (.node (u41_1 P) (lf (u73_1 P)) .nil) (lf (u57_1 P)))) (.node (u13_a P) (.node (u21_1 P) (.node (u37_1 P) (lf (u69_1 P)) .nil) (lf (u53_1 P))) (.node (u29_1 P) (.node (u45_1 P) (lf (u77_1 P)) .nil) (lf (u61_1 P)))))) (.node (boot_o_2 P) (.node (boot_o_4 P) (.node (boot_o_8 P) (.node (u16_1 P) (.node (u32_1 P) (lf (u64_1 P)) .nil) (lf (u48_1 P))) (.node (u24_1 P) (.node (u40_1 P) (lf (u72_1 P)) .nil) (lf (u56_1 P)))) (.node (u12_1 P) (.node (u20_1 P) (.node (u36_1 P) (lf (u68_1 P)) .nil) (lf (u52_1 P))) (.node (u28_1 P) (.node (u44_1 P) (lf (u76_1 P)) .nil) (lf (u60_1 P))))) (.node (boot_o_6 P) (.node (boot_o_10 P) (.node (u18_1 P) (.node (u34_1 P) (lf (u66_1 P)) .nil) (lf (u50_1 P))) (.node (u26_1 P) (.node (u42_1 P) (lf (u74_1 P)) .nil) (lf (u58_1 P)))) (.node (u14_a P) (.node (u22_1 P) (.node (u38_1 P) (lf (u70_1 P)) .nil) (lf (u54_1 P))) (.node (u30_1 P) (lf (u46_1 P)) (lf (u62_1 P)))))))
noncomputable def tr_2 (P : Params) : BT:=(.node (boot_o_0 P) (.node (boot_o_1 P) (.node (u3_2 P) (.node (boot_o_7 P) (.node (u15_1 P) (.node (u31_2 P) (.node (u63_1 P) (lf (u127_2 P)) (lf (u191_2 P))) (.node (u95_2 P) (lf (u159_2 P)) .nil)) (.node (u47_1 P) (.node (u79_2 P) (lf (u143_2 P)) .nil) (.node (u111_2 P) (lf (u175_2 P)) .nil))) (.node (u23_1 P) (.node (u39_1 P) (.node (u71_1 P) (lf (u135_2 P)) .nil) (.node (u103_2 P) (lf (u167_2 P)) .nil)) (.node (u55_1 P) (.node (u87_2 P) (lf (u151_2 P)) .nil) (.node (u119_2 P) (lf (u183_2 P)) .nil)))) (.node (u11_a P) (.node (u19_1 P) (.node (u35_1 P) (.node (u67_1 P) (lf (u131_2 P)) .nil) (.node (u99_2 P) (lf (u163_2 P)) .nil)) (.node (u51_1 P) (.node (u83_2 P) (lf (u147_2 P)) .nil) (.node (u115_2 P) (lf (u179_2 P)) .nil))) (.node (u27_1 P) (.node (u43_1 P) (.node (u75_1 P) (lf (u139_2 P)) .nil) (.node (u107_2 P) (lf (u171_2 P)) .nil)) (.node (u59_1 P) (.node (u91_2 P) (lf (u155_2 P)) .nil) (.node (u123_2 P) (lf (u187_2 P)) .nil))))) (.node (boot_o_5 P) (.node (boot_o_9 P) (.node (u17_1 P) (.node (u33_1 P) (.node (u65_1 P) (lf (u129_2 P)) .nil) (.node (u97_2 P) (lf (u161_2 P)) .nil)) (.node (u49_1 P) (.node (u81_2 P) (lf (u145_2 P)) .nil) (.node (u113_2 P) (lf (u177_2 P)) .nil))) (.node (u25_1 P) (.node (u41_1 P) (.node (u73_1 P) (lf (u137_2 P)) .nil) (.node (u105_2 P) (lf (u169_2 P)) .nil)) (.node (u57_1 P) (.node (u89_2 P) (lf (u153_2 P)) .nil) (.node (u121_2 P) (lf (u185_2 P)) .nil)))) (.node (u13_a P) (.node (u21_1 P) (.node (u37_1 P) (.node (u69_1 P) (lf (u133_2 P)) .nil) (.node (u101_2 P) (lf (u165_2 P)) .nil)) (.node (u53_1 P) (.node (u85_2 P) (lf (u149_2 P)) .nil) (.node (u117_2 P) (lf (u181_2 P)) .nil))) (.node (u29_1 P) (.node (u45_1 P) (.node (u77_1 P) (lf (u141_2 P)) .nil) (.node (u109_2 P) (lf (u173_2 P)) .nil)) (.node (u61_1 P) (.node (u93_2 P) (lf (u157_2 P)) .nil) (.node (u125_2 P) (lf (u189_2 P)) .nil)))))) (.node (boot_o_2 P) (.node (boot_o_4 P) (.node (boot_o_8 P) (.node (u16_1 P) (.node (u32_1 P) (.node (u64_1 P) (lf (u128_2 P)) .nil) (.node (u96_2 P) (lf (u160_2 P)) .nil)) (.node (u48_1 P) (.node (u80_2 P) (lf (u144_2 P)) .nil) (.node (u112_2 P) (lf (u176_2 P)) .nil))) (.node (u24_1 P) (.node (u40_1 P) (.node (u72_1 P) (lf (u136_2 P)) .nil) (.node (u104_2 P) (lf (u168_2 P)) .nil)) (.node (u56_1 P) (.node (u88_2 P) (lf (u152_2 P)) .nil) (.node (u120_2 P) (lf (u184_2 P)) .nil)))) (.node (u12_2 P) (.node (u20_1 P) (.node (u36_1 P) (.node (u68_1 P) (lf (u132_2 P)) .nil) (.node (u100_2 P) (lf (u164_2 P)) .nil)) (.node (u52_1 P) (.node (u84_2 P) (lf (u148_2 P)) .nil) (.node (u116_2 P) (lf (u180_2 P)) .nil))) (.node (u28_1 P) (.node (u44_1 P) (.node (u76_1 P) (lf (u140_2 P)) .nil) (.node (u108_2 P) (lf (u172_2 P)) .nil)) (.node (u60_1 P) (.node (u92_2 P) (lf (u156_2 P)) .nil) (.node (u124_2 P) (lf (u188_2 P)) .nil))))) (.node (boot_o_6 P) (.node (boot_o_10 P) (.node (u18_1 P) (.node (u34_1 P) (.node (u66_1 P) (lf (u130_2 P)) .nil) (.node (u98_2 P) (lf (u162_2 P)) .nil)) (.node (u50_1 P) (.node (u82_2 P) (lf (u146_2 P)) .nil) (.node (u114_2 P) (lf (u178_2 P)) .nil))) (.node (u26_1 P) (.node (u42_1 P) (.node (u74_1 P) (lf (u138_2 P)) .nil) (.node (u106_2 P) (lf (u170_2 P)) .nil)) (.node (u58_1 P) (.node (u90_2 P) (lf (u154_2 P)) .nil) (.node (u122_2 P) (lf (u186_2 P)) .nil)))) (.node (u14_a P) (.node (u22_1 P) (.node (u38_1 P) (.node (u70_1 P) (lf (u134_2 P)) .nil) (.node (u102_2 P) (lf (u166_2 P)) .nil)) (.node (u54_1 P) (.node (u86_2 P) (lf (u150_2 P)) .nil) (.node (u118_2 P) (lf (u182_2 P)) .nil))) (.node (u30_1 P) (.node (u46_1 P) (.node (u78_2 P) (lf (u142_2 P)) .nil) (.node (u110_2 P) (lf (u174_2 P)) .nil)) (.node (u62_1 P) (.node (u94_2 P) (lf (u158_2 P)) .nil) (.node (u126_2 P) (lf (u190_2 P)) .nil)))))))
noncomputable def tr_3 (P : Params) : BT:=(.node (boot_o_0 P) (.node (boot_o_1 P) (.node (u3_3 P) (.node (boot_o_7 P) (.node (u15_1 P) (.node (u31_2 P) (.node (u63_1 P) (.node (u127_2 P) (lf (u255_3 P)) .nil) (.node (u191_2 P) (lf (u319_3 P)) .nil)) (.node (u95_2 P) (.node (u159_2 P) (lf (u287_3 P)) .nil) (.node (u223_3 P) (lf (u351_3 P)) .nil))) (.node (u47_1 P) (.node (u79_2 P) (.node (u143_2 P) (lf (u271_3 P)) .nil) (.node (u207_3 P) (lf (u335_3 P)) .nil)) (.node (u111_2 P) (.node (u175_2 P) (lf (u303_3 P)) .nil) (lf (u239_3 P))))) (.node (u23_1 P) (.node (u39_1 P) (.node (u71_1 P) (.node (u135_2 P) (lf (u263_3 P)) .nil) (.node (u199_3 P) (lf (u327_3 P)) .nil)) (.node (u103_2 P) (.node (u167_2 P) (lf (u295_3 P)) .nil) (.node (u231_3 P) (lf (u359_3 P)) .nil))) (.node (u55_1 P) (.node (u87_2 P) (.node (u151_2 P) (lf (u279_3 P)) .nil) (.node (u215_3 P) (lf (u343_3 P)) .nil)) (.node (u119_2 P) (.node (u183_2 P) (lf (u311_3 P)) .nil) (lf (u247_3 P)))))) (.node (u11_a P) (.node (u19_1 P) (.node (u35_1 P) (.node (u67_1 P) (.node (u131_2 P) (lf (u259_3 P)) .nil) (.node (u195_3 P) (lf (u323_3 P)) .nil)) (.node (u99_2 P) (.node (u163_2 P) (lf (u291_3 P)) .nil) (.node (u227_3 P) (lf (u355_3 P)) .nil))) (.node (u51_1 P) (.node (u83_2 P) (.node (u147_2 P) (lf (u275_3 P)) .nil) (.node (u211_3 P) (lf (u339_3 P)) .nil)) (.node (u115_2 P) (.node (u179_2 P) (lf (u307_3 P)) .nil) (lf (u243_3 P))))) (.node (u27_1 P) (.node (u43_1 P) (.node (u75_1 P) (.node (u139_2 P) (lf (u267_3 P)) .nil) (.node (u203_3 P) (lf (u331_3 P)) .nil)) (.node (u107_2 P) (.node (u171_2 P) (lf (u299_3 P)) .nil) (lf (u235_3 P)))) (.node (u59_1 P) (.node (u91_2 P) (.node (u155_2 P) (lf (u283_3 P)) .nil) (.node (u219_3 P) (lf (u347_3 P)) .nil)) (.node (u123_2 P) (.node (u187_2 P) (lf (u315_3 P)) .nil) (lf (u251_3 P))))))) (.node (boot_o_5 P) (.node (boot_o_9 P) (.node (u17_1 P) (.node (u33_1 P) (.node (u65_1 P) (.node (u129_2 P) (lf (u257_3 P)) .nil) (.node (u193_3 P) (lf (u321_3 P)) .nil)) (.node (u97_2 P) (.node (u161_2 P) (lf (u289_3 P)) .nil) (.node (u225_3 P) (lf (u353_3 P)) .nil))) (.node (u49_1 P) (.node (u81_2 P) (.node (u145_2 P) (lf (u273_3 P)) .nil) (.node (u209_3 P) (lf (u337_3 P)) .nil)) (.node (u113_2 P) (.node (u177_2 P) (lf (u305_3 P)) .nil) (lf (u241_3 P))))) (.node (u25_1 P) (.node (u41_1 P) (.node (u73_1 P) (.node (u137_2 P) (lf (u265_3 P)) .nil) (.node (u201_3 P) (lf (u329_3 P)) .nil)) (.node (u105_2 P) (.node (u169_2 P) (lf (u297_3 P)) .nil) (.node (u233_3 P) (lf (u361_3 P)) .nil))) (.node (u57_1 P) (.node (u89_2 P) (.node (u153_2 P) (lf (u281_3 P)) .nil) (.node (u217_3 P) (lf (u345_3 P)) .nil)) (.node (u121_2 P) (.node (u185_2 P) (lf (u313_3 P)) .nil) (lf (u249_3 P)))))) (.node (u13_a P) (.node (u21_1 P) (.node (u37_1 P) (.node (u69_1 P) (.node (u133_2 P) (lf (u261_3 P)) .nil) (.node (u197_3 P) (lf (u325_3 P)) .nil)) (.node (u101_2 P) (.node (u165_2 P) (lf (u293_3 P)) .nil) (.node (u229_3 P) (lf (u357_3 P)) .nil))) (.node (u53_1 P) (.node (u85_2 P) (.node (u149_2 P) (lf (u277_3 P)) .nil) (.node (u213_3 P) (lf (u341_3 P)) .nil)) (.node (u117_2 P) (.node (u181_2 P) (lf (u309_3 P)) .nil) (lf (u245_3 P))))) (.node (u29_1 P) (.node (u45_1 P) (.node (u77_1 P) (.node (u141_2 P) (lf (u269_3 P)) .nil) (.node (u205_3 P) (lf (u333_3 P)) .nil)) (.node (u109_2 P) (.node (u173_2 P) (lf (u301_3 P)) .nil) (lf (u237_3 P)))) (.node (u61_1 P) (.node (u93_2 P) (.node (u157_2 P) (lf (u285_3 P)) .nil) (.node (u221_3 P) (lf (u349_3 P)) .nil)) (.node (u125_2 P) (.node (u189_2 P) (lf (u317_3 P)) .nil) (lf (u253_3 P)))))))) (.node (boot_o_2 P) (.node (boot_o_4 P) (.node (boot_o_8 P) (.node (u16_1 P) (.node (u32_1 P) (.node (u64_1 P) (.node (u128_2 P) (lf (u256_3 P)) .nil) (.node (u192_3 P) (lf (u320_3 P)) .nil)) (.node (u96_2 P) (.node (u160_2 P) (lf (u288_3 P)) .nil) (.node (u224_3 P) (lf (u352_3 P)) .nil))) (.node (u48_1 P) (.node (u80_2 P) (.node (u144_2 P) (lf (u272_3 P)) .nil) (.node (u208_3 P) (lf (u336_3 P)) .nil)) (.node (u112_2 P) (.node (u176_2 P) (lf (u304_3 P)) .nil) (lf (u240_3 P))))) (.node (u24_1 P) (.node (u40_1 P) (.node (u72_1 P) (.node (u136_2 P) (lf (u264_3 P)) .nil) (.node (u200_3 P) (lf (u328_3 P)) .nil)) (.node (u104_2 P) (.node (u168_2 P) (lf (u296_3 P)) .nil) (.node (u232_3 P) (lf (u360_3 P)) .nil))) (.node (u56_1 P) (.node (u88_2 P) (.node (u152_2 P) (lf (u280_3 P)) .nil) (.node (u216_3 P) (lf (u344_3 P)) .nil)) (.node (u120_2 P) (.node (u184_2 P) (lf (u312_3 P)) .nil) (lf (u248_3 P)))))) (.node (u12_3 P) (.node (u20_1 P) (.node (u36_1 P) (.node (u68_1 P) (.node (u132_2 P) (lf (u260_3 P)) .nil) (.node (u196_3 P) (lf (u324_3 P)) .nil)) (.node (u100_2 P) (.node (u164_2 P) (lf (u292_3 P)) .nil) (.node (u228_3 P) (lf (u356_3 P)) .nil))) (.node (u52_1 P) (.node (u84_2 P) (.node (u148_2 P) (lf (u276_3 P)) .nil) (.node (u212_3 P) (lf (u340_3 P)) .nil)) (.node (u116_2 P) (.node (u180_2 P) (lf (u308_3 P)) .nil) (lf (u244_3 P))))) (.node (u28_1 P) (.node (u44_1 P) (.node (u76_1 P) (.node (u140_2 P) (lf (u268_3 P)) .nil) (.node (u204_3 P) (lf (u332_3 P)) .nil)) (.node (u108_2 P) (.node (u172_2 P) (lf (u300_3 P)) .nil) (lf (u236_3 P)))) (.node (u60_1 P) (.node (u92_2 P) (.node (u156_2 P) (lf (u284_3 P)) .nil) (.node (u220_3 P) (lf (u348_3 P)) .nil)) (.node (u124_2 P) (.node (u188_2 P) (lf (u316_3 P)) .nil) (lf (u252_3 P))))))) (.node (boot_o_6 P) (.node (boot_o_10 P) (.node (u18_1 P) (.node (u34_1 P) (.node (u66_1 P) (.node (u130_2 P) (lf (u258_3 P)) .nil) (.node (u194_3 P) (lf (u322_3 P)) .nil)) (.node (u98_2 P) (.node (u162_2 P) (lf (u290_3 P)) .nil) (.node (u226_3 P) (lf (u354_3 P)) .nil))) (.node (u50_1 P) (.node (u82_2 P) (.node (u146_2 P) (lf (u274_3 P)) .nil) (.node (u210_3 P) (lf (u338_3 P)) .nil)) (.node (u114_2 P) (.node (u178_2 P) (lf (u306_3 P)) .nil) (lf (u242_3 P))))) (.node (u26_1 P) (.node (u42_1 P) (.node (u74_1 P) (.node (u138_2 P) (lf (u266_3 P)) .nil) (.node (u202_3 P) (lf (u330_3 P)) .nil)) (.node (u106_2 P) (.node (u170_2 P) (lf (u298_3 P)) .nil) (lf (u234_3 P)))) (.node (u58_1 P) (.node (u90_2 P) (.node (u154_2 P) (lf (u282_3 P)) .nil) (.node (u218_3 P) (lf (u346_3 P)) .nil)) (.node (u122_2 P) (.node (u186_2 P) (lf (u314_3 P)) .nil) (lf (u250_3 P)))))) (.node (u14_a P) (.node (u22_1 P) (.node (u38_1 P) (.node (u70_1 P) (.node (u134_2 P) (lf (u262_3 P)) .nil) (.node (u198_3 P) (lf (u326_3 P)) .nil)) (.node (u102_2 P) (.node (u166_2 P) (lf (u294_3 P)) .nil) (.node (u230_3 P) (lf (u358_3 P)) .nil))) (.node (u54_1 P) (.node (u86_2 P) (.node (u150_2 P) (lf (u278_3 P)) .nil) (.node (u214_3 P) (lf (u342_3 P)) .nil)) (.node (u118_2 P) (.node (u182_2 P) (lf (u310_3 P)) .nil) (lf (u246_3 P))))) (.node (u30_1 P) (.node (u46_1 P) (.node (u78_2 P) (.node (u142_2 P) (lf (u270_3 P)) .nil) (.node (u206_3 P) (lf (u334_3 P)) .nil)) (.node (u110_2 P) (.node (u174_2 P) (lf (u302_3 P)) .nil) (lf (u238_3 P)))) (.node (u62_1 P) (.node (u94_2 P) (.node (u158_2 P) (lf (u286_3 P)) .nil) (.node (u222_3 P) (lf (u350_3 P)) .nil)) (.node (u126_2 P) (.node (u190_2 P) (lf (u318_3 P)) .nil) (lf (u254_3 P)))))))))
noncomputable def tr_4 (P : Params) : BT:=(.node (boot_o_0 P) (.node (boot_o_1 P) (.node (u3_4 P) (.node (boot_o_7 P) (.node (u15_1 P) (.node (u31_2 P) (.node (u63_1 P) (.node (u127_2 P) (lf (u255_3 P)) (lf (u383_4 P))) (.node (u191_2 P) (lf (u319_3 P)) (lf (u447_4 P)))) (.node (u95_2 P) (.node (u159_2 P) (lf (u287_3 P)) (lf (u415_4 P))) (.node (u223_3 P) (lf (u351_3 P)) .nil))) (.node (u47_1 P) (.node (u79_2 P) (.node (u143_2 P) (lf (u271_3 P)) (lf (u399_4 P))) (.node (u207_3 P) (lf (u335_3 P)) .nil)) (.node (u111_2 P) (.node (u175_2 P) (lf (u303_3 P)) (lf (u431_4 P))) (.node (u239_3 P) (lf (u367_4 P)) .nil)))) (.node (u23_1 P) (.node (u39_1 P) (.node (u71_1 P) (.node (u135_2 P) (lf (u263_3 P)) (lf (u391_4 P))) (.node (u199_3 P) (lf (u327_3 P)) (lf (u455_4 P)))) (.node (u103_2 P) (.node (u167_2 P) (lf (u295_3 P)) (lf (u423_4 P))) (.node (u231_3 P) (lf (u359_3 P)) .nil))) (.node (u55_1 P) (.node (u87_2 P) (.node (u151_2 P) (lf (u279_3 P)) (lf (u407_4 P))) (.node (u215_3 P) (lf (u343_3 P)) .nil)) (.node (u119_2 P) (.node (u183_2 P) (lf (u311_3 P)) (lf (u439_4 P))) (.node (u247_3 P) (lf (u375_4 P)) .nil))))) (.node (u11_a P) (.node (u19_1 P) (.node (u35_1 P) (.node (u67_1 P) (.node (u131_2 P) (lf (u259_3 P)) (lf (u387_4 P))) (.node (u195_3 P) (lf (u323_3 P)) (lf (u451_4 P)))) (.node (u99_2 P) (.node (u163_2 P) (lf (u291_3 P)) (lf (u419_4 P))) (.node (u227_3 P) (lf (u355_3 P)) .nil))) (.node (u51_1 P) (.node (u83_2 P) (.node (u147_2 P) (lf (u275_3 P)) (lf (u403_4 P))) (.node (u211_3 P) (lf (u339_3 P)) .nil)) (.node (u115_2 P) (.node (u179_2 P) (lf (u307_3 P)) (lf (u435_4 P))) (.node (u243_3 P) (lf (u371_4 P)) .nil)))) (.node (u27_1 P) (.node (u43_1 P) (.node (u75_1 P) (.node (u139_2 P) (lf (u267_3 P)) (lf (u395_4 P))) (.node (u203_3 P) (lf (u331_3 P)) .nil)) (.node (u107_2 P) (.node (u171_2 P) (lf (u299_3 P)) (lf (u427_4 P))) (.node (u235_3 P) (lf (u363_4 P)) .nil))) (.node (u59_1 P) (.node (u91_2 P) (.node (u155_2 P) (lf (u283_3 P)) (lf (u411_4 P))) (.node (u219_3 P) (lf (u347_3 P)) .nil)) (.node (u123_2 P) (.node (u187_2 P) (lf (u315_3 P)) (lf (u443_4 P))) (.node (u251_3 P) (lf (u379_4 P)) .nil)))))) (.node (boot_o_5 P) (.node (boot_o_9 P) (.node (u17_1 P) (.node (u33_1 P) (.node (u65_1 P) (.node (u129_2 P) (lf (u257_3 P)) (lf (u385_4 P))) (.node (u193_3 P) (lf (u321_3 P)) (lf (u449_4 P)))) (.node (u97_2 P) (.node (u161_2 P) (lf (u289_3 P)) (lf (u417_4 P))) (.node (u225_3 P) (lf (u353_3 P)) .nil))) (.node (u49_1 P) (.node (u81_2 P) (.node (u145_2 P) (lf (u273_3 P)) (lf (u401_4 P))) (.node (u209_3 P) (lf (u337_3 P)) .nil)) (.node (u113_2 P) (.node (u177_2 P) (lf (u305_3 P)) (lf (u433_4 P))) (.node (u241_3 P) (lf (u369_4 P)) .nil)))) (.node (u25_1 P) (.node (u41_1 P) (.node (u73_1 P) (.node (u137_2 P) (lf (u265_3 P)) (lf (u393_4 P))) (.node (u201_3 P) (lf (u329_3 P)) .nil)) (.node (u105_2 P) (.node (u169_2 P) (lf (u297_3 P)) (lf (u425_4 P))) (.node (u233_3 P) (lf (u361_3 P)) .nil))) (.node (u57_1 P) (.node (u89_2 P) (.node (u153_2 P) (lf (u281_3 P)) (lf (u409_4 P))) (.node (u217_3 P) (lf (u345_3 P)) .nil)) (.node (u121_2 P) (.node (u185_2 P) (lf (u313_3 P)) (lf (u441_4 P))) (.node (u249_3 P) (lf (u377_4 P)) .nil))))) (.node (u13_a P) (.node (u21_1 P) (.node (u37_1 P) (.node (u69_1 P) (.node (u133_2 P) (lf (u261_3 P)) (lf (u389_4 P))) (.node (u197_3 P) (lf (u325_3 P)) (lf (u453_4 P)))) (.node (u101_2 P) (.node (u165_2 P) (lf (u293_3 P)) (lf (u421_4 P))) (.node (u229_3 P) (lf (u357_3 P)) .nil))) (.node (u53_1 P) (.node (u85_2 P) (.node (u149_2 P) (lf (u277_3 P)) (lf (u405_4 P))) (.node (u213_3 P) (lf (u341_3 P)) .nil)) (.node (u117_2 P) (.node (u181_2 P) (lf (u309_3 P)) (lf (u437_4 P))) (.node (u245_3 P) (lf (u373_4 P)) .nil)))) (.node (u29_1 P) (.node (u45_1 P) (.node (u77_1 P) (.node (u141_2 P) (lf (u269_3 P)) (lf (u397_4 P))) (.node (u205_3 P) (lf (u333_3 P)) .nil)) (.node (u109_2 P) (.node (u173_2 P) (lf (u301_3 P)) (lf (u429_4 P))) (.node (u237_3 P) (lf (u365_4 P)) .nil))) (.node (u61_1 P) (.node (u93_2 P) (.node (u157_2 P) (lf (u285_3 P)) (lf (u413_4 P))) (.node (u221_3 P) (lf (u349_3 P)) .nil)) (.node (u125_2 P) (.node (u189_2 P) (lf (u317_3 P)) (lf (u445_4 P))) (.node (u253_3 P) (lf (u381_4 P)) .nil))))))) (.node (boot_o_2 P) (.node (boot_o_4 P) (.node (boot_o_8 P) (.node (u16_1 P) (.node (u32_1 P) (.node (u64_1 P) (.node (u128_2 P) (lf (u256_3 P)) (lf (u384_4 P))) (.node (u192_3 P) (lf (u320_3 P)) (lf (u448_4 P)))) (.node (u96_2 P) (.node (u160_2 P) (lf (u288_3 P)) (lf (u416_4 P))) (.node (u224_3 P) (lf (u352_3 P)) .nil))) (.node (u48_1 P) (.node (u80_2 P) (.node (u144_2 P) (lf (u272_3 P)) (lf (u400_4 P))) (.node (u208_3 P) (lf (u336_3 P)) .nil)) (.node (u112_2 P) (.node (u176_2 P) (lf (u304_3 P)) (lf (u432_4 P))) (.node (u240_3 P) (lf (u368_4 P)) .nil)))) (.node (u24_1 P) (.node (u40_1 P) (.node (u72_1 P) (.node (u136_2 P) (lf (u264_3 P)) (lf (u392_4 P))) (.node (u200_3 P) (lf (u328_3 P)) .nil)) (.node (u104_2 P) (.node (u168_2 P) (lf (u296_3 P)) (lf (u424_4 P))) (.node (u232_3 P) (lf (u360_3 P)) .nil))) (.node (u56_1 P) (.node (u88_2 P) (.node (u152_2 P) (lf (u280_3 P)) (lf (u408_4 P))) (.node (u216_3 P) (lf (u344_3 P)) .nil)) (.node (u120_2 P) (.node (u184_2 P) (lf (u312_3 P)) (lf (u440_4 P))) (.node (u248_3 P) (lf (u376_4 P)) .nil))))) (.node (u12_4 P) (.node (u20_1 P) (.node (u36_1 P) (.node (u68_1 P) (.node (u132_2 P) (lf (u260_3 P)) (lf (u388_4 P))) (.node (u196_3 P) (lf (u324_3 P)) (lf (u452_4 P)))) (.node (u100_2 P) (.node (u164_2 P) (lf (u292_3 P)) (lf (u420_4 P))) (.node (u228_3 P) (lf (u356_3 P)) .nil))) (.node (u52_1 P) (.node (u84_2 P) (.node (u148_2 P) (lf (u276_3 P)) (lf (u404_4 P))) (.node (u212_3 P) (lf (u340_3 P)) .nil)) (.node (u116_2 P) (.node (u180_2 P) (lf (u308_3 P)) (lf (u436_4 P))) (.node (u244_3 P) (lf (u372_4 P)) .nil)))) (.node (u28_1 P) (.node (u44_1 P) (.node (u76_1 P) (.node (u140_2 P) (lf (u268_3 P)) (lf (u396_4 P))) (.node (u204_3 P) (lf (u332_3 P)) .nil)) (.node (u108_2 P) (.node (u172_2 P) (lf (u300_3 P)) (lf (u428_4 P))) (.node (u236_3 P) (lf (u364_4 P)) .nil))) (.node (u60_1 P) (.node (u92_2 P) (.node (u156_2 P) (lf (u284_3 P)) (lf (u412_4 P))) (.node (u220_3 P) (lf (u348_3 P)) .nil)) (.node (u124_2 P) (.node (u188_2 P) (lf (u316_3 P)) (lf (u444_4 P))) (.node (u252_3 P) (lf (u380_4 P)) .nil)))))) (.node (boot_o_6 P) (.node (boot_o_10 P) (.node (u18_1 P) (.node (u34_1 P) (.node (u66_1 P) (.node (u130_2 P) (lf (u258_3 P)) (lf (u386_4 P))) (.node (u194_3 P) (lf (u322_3 P)) (lf (u450_4 P)))) (.node (u98_2 P) (.node (u162_2 P) (lf (u290_3 P)) (lf (u418_4 P))) (.node (u226_3 P) (lf (u354_3 P)) .nil))) (.node (u50_1 P) (.node (u82_2 P) (.node (u146_2 P) (lf (u274_3 P)) (lf (u402_4 P))) (.node (u210_3 P) (lf (u338_3 P)) .nil)) (.node (u114_2 P) (.node (u178_2 P) (lf (u306_3 P)) (lf (u434_4 P))) (.node (u242_3 P) (lf (u370_4 P)) .nil)))) (.node (u26_1 P) (.node (u42_1 P) (.node (u74_1 P) (.node (u138_2 P) (lf (u266_3 P)) (lf (u394_4 P))) (.node (u202_3 P) (lf (u330_3 P)) .nil)) (.node (u106_2 P) (.node (u170_2 P) (lf (u298_3 P)) (lf (u426_4 P))) (.node (u234_3 P) (lf (u362_4 P)) .nil))) (.node (u58_1 P) (.node (u90_2 P) (.node (u154_2 P) (lf (u282_3 P)) (lf (u410_4 P))) (.node (u218_3 P) (lf (u346_3 P)) .nil)) (.node (u122_2 P) (.node (u186_2 P) (lf (u314_3 P)) (lf (u442_4 P))) (.node (u250_3 P) (lf (u378_4 P)) .nil))))) (.node (u14_a P) (.node (u22_1 P) (.node (u38_1 P) (.node (u70_1 P) (.node (u134_2 P) (lf (u262_3 P)) (lf (u390_4 P))) (.node (u198_3 P) (lf (u326_3 P)) (lf (u454_4 P)))) (.node (u102_2 P) (.node (u166_2 P) (lf (u294_3 P)) (lf (u422_4 P))) (.node (u230_3 P) (lf (u358_3 P)) .nil))) (.node (u54_1 P) (.node (u86_2 P) (.node (u150_2 P) (lf (u278_3 P)) (lf (u406_4 P))) (.node (u214_3 P) (lf (u342_3 P)) .nil)) (.node (u118_2 P) (.node (u182_2 P) (lf (u310_3 P)) (lf (u438_4 P))) (.node (u246_3 P) (lf (u374_4 P)) .nil)))) (.node (u30_1 P) (.node (u46_1 P) (.node (u78_2 P) (.node (u142_2 P) (lf (u270_3 P)) (lf (u398_4 P))) (.node (u206_3 P) (lf (u334_3 P)) .nil)) (.node (u110_2 P) (.node (u174_2 P) (lf (u302_3 P)) (lf (u430_4 P))) (.node (u238_3 P) (lf (u366_4 P)) .nil))) (.node (u62_1 P) (.node (u94_2 P) (.node (u158_2 P) (lf (u286_3 P)) (lf (u414_4 P))) (.node (u222_3 P) (lf (u350_3 P)) .nil)) (.node (u126_2 P) (.node (u190_2 P) (lf (u318_3 P)) (lf (u446_4 P))) (.node (u254_3 P) (lf (u382_4 P)) .nil))))))))
noncomputable def ha (P : Params) : Heap:=⟨Array.mk [boot_o_0 P,boot_o_1 P,boot_o_2 P,boot_o_3 P,boot_o_4 P,boot_o_5 P,boot_o_6 P,boot_o_7 P,boot_o_8 P,boot_o_9 P,boot_o_10 P,u11_a P,u12_a P,u13_a P,u14_a P],{}⟩
noncomputable abbrev st_0 (w : World) (os : OsState) : SharedT:=⟨tr_0 w.params,15,{},Array.mk [],{},187,os⟩
noncomputable abbrev st_1 (w : World) (os : OsState) : SharedT:=⟨tr_1 w.params,78,{},Array.mk [],{},271,os⟩
noncomputable def l_1 : List Stmt:=(bE.drop 0).take 6
noncomputable abbrev st_2 (w : World) (os : OsState) : SharedT:=⟨tr_2 w.params,192,{},Array.mk [],{},419,os⟩
noncomputable def l_2 : List Stmt:=(bE.drop 6).take 16
noncomputable abbrev st_3 (w : World) (os : OsState) : SharedT:=⟨tr_3 w.params,362,{},Array.mk [],{},654,os⟩
noncomputable def l_3 : List Stmt:=(bE.drop 22).take 25
noncomputable abbrev st_4 (w : World) (os : OsState) : SharedT:=⟨tr_4 w.params,456,{},Array.mk [],{},790,os⟩
noncomputable def l_4 : List Stmt:=(bE.drop 47).take 15
noncomputable def hf (P : Params) : Heap:=⟨Array.mk [boot_o_0 P,boot_o_1 P,boot_o_2 P,u3_4 P,boot_o_4 P,boot_o_5 P,boot_o_6 P,boot_o_7 P,boot_o_8 P,boot_o_9 P,boot_o_10 P,u11_a P,u12_4 P,u13_a P,u14_a P,u15_1 P,u16_1 P,u17_1 P,u18_1 P,u19_1 P,u20_1 P,u21_1 P,u22_1 P,u23_1 P,u24_1 P,u25_1 P,u26_1 P,u27_1 P,u28_1 P,u29_1 P,u30_1 P,u31_2 P,u32_1 P,u33_1 P,u34_1 P,u35_1 P,u36_1 P,u37_1 P,u38_1 P,u39_1 P,u40_1 P,u41_1 P,u42_1 P,u43_1 P,u44_1 P,u45_1 P,u46_1 P,u47_1 P,u48_1 P,u49_1 P,u50_1 P,u51_1 P,u52_1 P,u53_1 P,u54_1 P,u55_1 P,u56_1 P,u57_1 P,u58_1 P,u59_1 P,u60_1 P,u61_1 P,u62_1 P,u63_1 P,u64_1 P,u65_1 P,u66_1 P,u67_1 P,u68_1 P,u69_1 P,u70_1 P,u71_1 P,u72_1 P,u73_1 P,u74_1 P,u75_1 P,u76_1 P,u77_1 P,u78_2 P,u79_2 P,u80_2 P,u81_2 P,u82_2 P,u83_2 P,u84_2 P,u85_2 P,u86_2 P,u87_2 P,u88_2 P,u89_2 P,u90_2 P,u91_2 P,u92_2 P,u93_2 P,u94_2 P,u95_2 P,u96_2 P,u97_2 P,u98_2 P,u99_2 P,u100_2 P,u101_2 P,u102_2 P,u103_2 P,u104_2 P,u105_2 P,u106_2 P,u107_2 P,u108_2 P,u109_2 P,u110_2 P,u111_2 P,u112_2 P,u113_2 P,u114_2 P,u115_2 P,u116_2 P,u117_2 P,u118_2 P,u119_2 P,u120_2 P,u121_2 P,u122_2 P,u123_2 P,u124_2 P,u125_2 P,u126_2 P,u127_2 P,u128_2 P,u129_2 P,u130_2 P,u131_2 P,u132_2 P,u133_2 P,u134_2 P,u135_2 P,u136_2 P,u137_2 P,u138_2 P,u139_2 P,u140_2 P,u141_2 P,u142_2 P,u143_2 P,u144_2 P,u145_2 P,u146_2 P,u147_2 P,u148_2 P,u149_2 P,u150_2 P,u151_2 P,u152_2 P,u153_2 P,u154_2 P,u155_2 P,u156_2 P,u157_2 P,u158_2 P,u159_2 P,u160_2 P,u161_2 P,u162_2 P,u163_2 P,u164_2 P,u165_2 P,u166_2 P,u167_2 P,u168_2 P,u169_2 P,u170_2 P,u171_2 P,u172_2 P,u173_2 P,u174_2 P,u175_2 P,u176_2 P,u177_2 P,u178_2 P,u179_2 P,u180_2 P,u181_2 P,u182_2 P,u183_2 P,u184_2 P,u185_2 P,u186_2 P,u187_2 P,u188_2 P,u189_2 P,u190_2 P,u191_2 P,u192_3 P,u193_3 P,u194_3 P,u195_3 P,u196_3 P,u197_3 P,u198_3 P,u199_3 P,u200_3 P,u201_3 P,u202_3 P,u203_3 P,u204_3 P,u205_3 P,u206_3 P,u207_3 P,u208_3 P,u209_3 P,u210_3 P,u211_3 P,u212_3 P,u213_3 P,u214_3 P,u215_3 P,u216_3 P,u217_3 P,u218_3 P,u219_3 P,u220_3 P,u221_3 P,u222_3 P,u223_3 P,u224_3 P,u225_3 P,u226_3 P,u227_3 P,u228_3 P,u229_3 P,u230_3 P,u231_3 P,u232_3 P,u233_3 P,u234_3 P,u235_3 P,u236_3 P,u237_3 P,u238_3 P,u239_3 P,u240_3 P,u241_3 P,u242_3 P,u243_3 P,u244_3 P,u245_3 P,u246_3 P,u247_3 P,u248_3 P,u249_3 P,u250_3 P,u251_3 P,u252_3 P,u253_3 P,u254_3 P,u255_3 P,u256_3 P,u257_3 P,u258_3 P,u259_3 P,u260_3 P,u261_3 P,u262_3 P,u263_3 P,u264_3 P,u265_3 P,u266_3 P,u267_3 P,u268_3 P,u269_3 P,u270_3 P,u271_3 P,u272_3 P,u273_3 P,u274_3 P,u275_3 P,u276_3 P,u277_3 P,u278_3 P,u279_3 P,u280_3 P,u281_3 P,u282_3 P,u283_3 P,u284_3 P,u285_3 P,u286_3 P,u287_3 P,u288_3 P,u289_3 P,u290_3 P,u291_3 P,u292_3 P,u293_3 P,u294_3 P,u295_3 P,u296_3 P,u297_3 P,u298_3 P,u299_3 P,u300_3 P,u301_3 P,u302_3 P,u303_3 P,u304_3 P,u305_3 P,u306_3 P,u307_3 P,u308_3 P,u309_3 P,u310_3 P,u311_3 P,u312_3 P,u313_3 P,u314_3 P,u315_3 P,u316_3 P,u317_3 P,u318_3 P,u319_3 P,u320_3 P,u321_3 P,u322_3 P,u323_3 P,u324_3 P,u325_3 P,u326_3 P,u327_3 P,u328_3 P,u329_3 P,u330_3 P,u331_3 P,u332_3 P,u333_3 P,u334_3 P,u335_3 P,u336_3 P,u337_3 P,u338_3 P,u339_3 P,u340_3 P,u341_3 P,u342_3 P,u343_3 P,u344_3 P,u345_3 P,u346_3 P,u347_3 P,u348_3 P,u349_3 P,u350_3 P,u351_3 P,u352_3 P,u353_3 P,u354_3 P,u355_3 P,u356_3 P,u357_3 P,u358_3 P,u359_3 P,u360_3 P,u361_3 P,u362_4 P,u363_4 P,u364_4 P,u365_4 P,u366_4 P,u367_4 P,u368_4 P,u369_4 P,u370_4 P,u371_4 P,u372_4 P,u373_4 P,u374_4 P,u375_4 P,u376_4 P,u377_4 P,u378_4 P,u379_4 P,u380_4 P,u381_4 P,u382_4 P,u383_4 P,u384_4 P,u385_4 P,u386_4 P,u387_4 P,u388_4 P,u389_4 P,u390_4 P,u391_4 P,u392_4 P,u393_4 P,u394_4 P,u395_4 P,u396_4 P,u397_4 P,u398_4 P,u399_4 P,u400_4 P,u401_4 P,u402_4 P,u403_4 P,u404_4 P,u405_4 P,u406_4 P,u407_4 P,u408_4 P,u409_4 P,u410_4 P,u411_4 P,u412_4 P,u413_4 P,u414_4 P,u415_4 P,u416_4 P,u417_4 P,u418_4 P,u419_4 P,u420_4 P,u421_4 P,u422_4 P,u423_4 P,u424_4 P,u425_4 P,u426_4 P,u427_4 P,u428_4 P,u429_4 P,u430_4 P,u431_4 P,u432_4 P,u433_4 P,u434_4 P,u435_4 P,u436_4 P,u437_4 P,u438_4 P,u439_4 P,u440_4 P,u441_4 P,u442_4 P,u443_4 P,u444_4 P,u445_4 P,u446_4 P,u447_4 P,u448_4 P,u449_4 P,u450_4 P,u451_4 P,u452_4 P,u453_4 P,u454_4 P,u455_4 P],{}⟩
theorem t_pre (w : World) (os : OsState) : topGo treeTable tp w 11 (some (.ref 6)) 12 ⟨boot_heap w.params,Array.mk [],boot_drawn,boot_toks,os⟩ (topStub tp) = some (⟨ha w.params,Array.mk [],{},187,os⟩,Thread.mk (denote treeTable cE) cE ⟨0,0,0,0⟩ [topFrame ⟨0,0,0,0⟩]):=by kernel_rfl
theorem t_blk (w : World) (os : OsState) : segRun treeTable tp w 11 (some (.ref 6)) 1 1 ⟨ha w.params,Array.mk [],{},187,os⟩ (blockOf bE eE cE ⟨0,0,0,0⟩ [topFrame ⟨0,0,0,0⟩]) = some (.next,(st_0 w os).abs,cE,⟨0,0,0,0⟩):=by kernel_rfl
theorem t_1 (w : World) (os : OsState) : segRunT treeTable tp w 11 (some (.ref 6)) 1 896 (st_0 w os) (piecesOf l_1 eE cE ⟨0,0,0,0⟩ [topFrame ⟨0,0,0,0⟩]) = some (.next,st_1 w os,cE,⟨13,0,14,8⟩):=by kernel_rfl
theorem t_2 (w : World) (os : OsState) : segRunT treeTable tp w 11 (some (.ref 6)) 1 997 (st_1 w os) (piecesOf l_2 eE cE ⟨13,0,14,8⟩ [topFrame ⟨0,0,0,0⟩]) = some (.next,st_2 w os,cE,⟨71,0,77,15⟩):=by kernel_rfl
theorem t_3 (w : World) (os : OsState) : segRunT treeTable tp w 11 (some (.ref 6)) 1 975 (st_2 w os) (piecesOf l_3 eE cE ⟨71,0,77,15⟩ [topFrame ⟨0,0,0,0⟩]) = some (.next,st_3 w os,cE,⟨211,0,215,90⟩):=by kernel_rfl
theorem t_4 (w : World) (os : OsState) : segRunT treeTable tp w 11 (some (.ref 6)) 1 448 (st_3 w os) (piecesOf l_4 eE cE ⟨211,0,215,90⟩ [topFrame ⟨0,0,0,0⟩]) = some (.next,st_4 w os,cE,⟨300,0,326,51⟩):=by kernel_rfl
theorem t_fin (w : World) (os : OsState) : topRun treeTable tp w 11 (some (.ref 6)) 2 (st_4 w os).abs ⟨doneF .next,cE,⟨300,0,326,51⟩,[topFrame ⟨0,0,0,0⟩]⟩ = some ⟨hf w.params,Array.mk [],{},790,os⟩:=by kernel_rfl
theorem l_all : l_1 ++ (l_2 ++ (l_3 ++ (l_4 ++ ([])))) = bE:=by kernel_rfl
theorem run0 (w : World) (os : OsState) : topRun treeTable tp w 11 (some (.ref 6)) (896 + (997 + (975 + (448 + (2))))) (st_0 w os).abs (restOf (l_1 ++ (l_2 ++ (l_3 ++ (l_4 ++ ([]))))) eE cE ⟨0,0,0,0⟩ [topFrame ⟨0,0,0,0⟩]) = some ⟨hf w.params,Array.mk [],{},790,os⟩:=piece_app (segRun_of (t_1 w os)) (piece_app (segRun_of (t_2 w os)) (piece_app (segRun_of (t_3 w os)) (piece_app (segRun_of (t_4 w os)) (piece_nil (t_fin w os)))))
theorem run (w : World) (os : OsState) : topRun treeTable tp w 11 (some (.ref 6)) (12 + (1 + (896 + (997 + (975 + (448 + (2))))))) ⟨boot_heap w.params,Array.mk [],boot_drawn,boot_toks,os⟩ (topStub tp) = some ⟨hf w.params,Array.mk [],{},790,os⟩:=by
  have k:=run0 w os
  rw [l_all] at k
  exact go_top (t_pre w os) (piece_block (t_blk w os) k)
noncomputable def KK (P : Params) : Frag :=
  (nat_lit 2,boot_o_2 P) :: (nat_lit 3,u3_4 P) :: (nat_lit 20,u20_1 P) :: (nat_lit 21,u21_1 P) :: (nat_lit 30,u30_1 P) :: (nat_lit 31,u31_2 P) :: (nat_lit 32,u32_1 P) :: (nat_lit 43,u43_1 P) :: (nat_lit 44,u44_1 P) :: (nat_lit 59,u59_1 P) :: (nat_lit 60,u60_1 P) :: (nat_lit 62,u62_1 P) :: (nat_lit 63,u63_1 P) :: (nat_lit 74,u74_1 P) :: (nat_lit 75,u75_1 P) :: (nat_lit 86,u86_2 P) :: (nat_lit 87,u87_2 P) :: (nat_lit 98,u98_2 P) :: (nat_lit 99,u99_2 P) :: (nat_lit 110,u110_2 P) :: (nat_lit 111,u111_2 P) :: (nat_lit 119,u119_2 P) :: (nat_lit 120,u120_2 P) :: (nat_lit 126,u126_2 P) :: (nat_lit 127,u127_2 P) :: (nat_lit 133,u133_2 P) :: (nat_lit 134,u134_2 P) :: (nat_lit 135,u135_2 P) :: (nat_lit 141,u141_2 P) :: (nat_lit 142,u142_2 P) :: (nat_lit 148,u148_2 P) :: (nat_lit 149,u149_2 P) :: (nat_lit 155,u155_2 P) :: (nat_lit 156,u156_2 P) :: (nat_lit 162,u162_2 P) :: (nat_lit 163,u163_2 P) :: (nat_lit 169,u169_2 P) :: (nat_lit 170,u170_2 P) :: (nat_lit 176,u176_2 P) :: (nat_lit 177,u177_2 P) :: (nat_lit 183,u183_2 P) :: (nat_lit 184,u184_2 P) :: (nat_lit 190,u190_2 P) :: (nat_lit 191,u191_2 P) :: (nat_lit 195,u195_3 P) :: (nat_lit 196,u196_3 P) :: (nat_lit 209,u209_3 P) :: (nat_lit 210,u210_3 P) :: (nat_lit 216,u216_3 P) :: (nat_lit 217,u217_3 P) :: (nat_lit 223,u223_3 P) :: (nat_lit 224,u224_3 P) :: (nat_lit 230,u230_3 P) :: (nat_lit 231,u231_3 P) :: (nat_lit 237,u237_3 P) :: (nat_lit 238,u238_3 P) :: (nat_lit 244,u244_3 P) :: (nat_lit 245,u245_3 P) :: (nat_lit 247,u247_3 P) :: (nat_lit 248,u248_3 P) :: (nat_lit 249,u249_3 P) :: (nat_lit 250,u250_3 P) :: (nat_lit 258,u258_3 P) :: (nat_lit 259,u259_3 P) :: (nat_lit 265,u265_3 P) :: (nat_lit 266,u266_3 P) :: (nat_lit 270,u270_3 P) :: (nat_lit 271,u271_3 P) :: (nat_lit 275,u275_3 P) :: (nat_lit 276,u276_3 P) :: (nat_lit 282,u282_3 P) :: (nat_lit 283,u283_3 P) :: (nat_lit 287,u287_3 P) :: (nat_lit 288,u288_3 P) :: (nat_lit 294,u294_3 P) :: (nat_lit 295,u295_3 P) :: (nat_lit 301,u301_3 P) :: (nat_lit 302,u302_3 P) :: (nat_lit 308,u308_3 P) :: (nat_lit 309,u309_3 P) :: (nat_lit 315,u315_3 P) :: (nat_lit 316,u316_3 P) :: (nat_lit 320,u320_3 P) :: (nat_lit 321,u321_3 P) :: (nat_lit 325,u325_3 P) :: (nat_lit 326,u326_3 P) :: (nat_lit 332,u332_3 P) :: (nat_lit 333,u333_3 P) :: (nat_lit 339,u339_3 P) :: (nat_lit 340,u340_3 P) :: (nat_lit 346,u346_3 P) :: (nat_lit 347,u347_3 P) :: (nat_lit 353,u353_3 P) :: (nat_lit 354,u354_3 P) :: (nat_lit 360,u360_3 P) :: (nat_lit 361,u361_3 P) :: (nat_lit 367,u367_4 P) :: (nat_lit 368,u368_4 P) :: (nat_lit 374,u374_4 P) :: (nat_lit 375,u375_4 P) :: (nat_lit 379,u379_4 P) :: (nat_lit 380,u380_4 P) :: (nat_lit 386,u386_4 P) :: (nat_lit 387,u387_4 P) :: (nat_lit 393,u393_4 P) :: (nat_lit 394,u394_4 P) :: (nat_lit 400,u400_4 P) :: (nat_lit 401,u401_4 P) :: (nat_lit 407,u407_4 P) :: (nat_lit 408,u408_4 P) :: (nat_lit 414,u414_4 P) :: (nat_lit 415,u415_4 P) :: (nat_lit 421,u421_4 P) :: (nat_lit 422,u422_4 P) :: (nat_lit 428,u428_4 P) :: (nat_lit 429,u429_4 P) :: (nat_lit 435,u435_4 P) :: (nat_lit 436,u436_4 P) :: (nat_lit 442,u442_4 P) :: (nat_lit 443,u443_4 P) :: (nat_lit 449,u449_4 P) :: (nat_lit 450,u450_4 P) :: (nat_lit 454,u454_4 P) :: (nat_lit 455,u455_4 P) :: []
theorem KK_as (P : Params) : [2,3,20,21,30,31,32,43,44,59,60,62,63,74,75,86,87,98,99,110,111,119,120,126,127,133,134,135,141,142,148,149,155,156,162,163,169,170,176,177,183,184,190,191,195,196,209,210,216,217,223,224,230,231,237,238,244,245,247,248,249,250,258,259,265,266,270,271,275,276,282,283,287,288,294,295,301,302,308,309,315,316,320,321,325,326,332,333,339,340,346,347,353,354,360,361,367,368,374,375,379,380,386,387,393,394,400,401,407,408,414,415,421,422,428,429,435,436,442,443,449,450,454,455] = (KK P).map (·.1):=by kernel_rfl
noncomputable abbrev hook : Hook:=kHook KK [2,3,20,21,30,31,32,43,44,59,60,62,63,74,75,86,87,98,99,110,111,119,120,126,127,133,134,135,141,142,148,149,155,156,162,163,169,170,176,177,183,184,190,191,195,196,209,210,216,217,223,224,230,231,237,238,244,245,247,248,249,250,258,259,265,266,270,271,275,276,282,283,287,288,294,295,301,302,308,309,315,316,320,321,325,326,332,333,339,340,346,347,353,354,360,361,367,368,374,375,379,380,386,387,393,394,400,401,407,408,414,415,421,422,428,429,435,436,442,443,449,450,454,455] KK_as
theorem left : LeftO tp q [("fraction" : Str)] (fun s => xlAt q [] s && recOk [] s) hook.obs hook.val 7632 :=
  LeftO.of_pieces (boot_open (by kernel_rfl) (by decide) (fun s => by kernel_rfl)) (fun w => by kernel_rfl) run (by decide) (fun w => by kernel_rfl)
theorem said : OpenLaw.wellSaid PySem.Challenge.rw_tautcord_k56_no_worths = true:=by kernel_rfl
end My
open PySem PySem.W PyProof.Rows
set_option maxRecDepth 100000 in
set_option maxHeartbeats 0 in
theorem PySem.Challenge.cw_tautcord_k56_no_worths_holds : PySem.Challenge.rw_tautcord_k56_no_worths.Holds := by
  refine holds_law My.said fun said => ?_
  refine holds_open (q:=My.q) (loose:=[("fraction" : Str)]) (Xt:=fun s => xlAt My.q [] s && recOk [] s) (XP:=XL My.q []) (Yf:=Hook.obs My.hook) (Ya:=Hook.val My.hook) (YP:=Hook.says My.hook) (N:=7632) My.left (Hook.of My.hook) (Hook.keeps My.hook) (fun s e => xl_of s (Bool.and_eq_true_iff.mp e).1) XL.keeps (by rfl) (by rfl) (by rfl) (fun s e => recFacts_of (Bool.and_eq_true_iff.mp e).2) (by rfl) said (by decide +kernel) ⟨rfl,rfl,rfl,rfl,rfl,by decide +kernel⟩ ?hw ?hc
  case hw => w_witness2
  delta My.hook
  k_fill
  refine My.walk (l:=PySem.Challenge.rw_tautcord_k56_no_worths) rfl rfl (fun w h Y => PySem.W.kIn_of Y) ?F
  case F =>
    intro w mg fa h KX G hmg
    refine' My.all_mk KX G hmg ?a1 ?l1 ?c1 ?k1 ?a2 ?l2 ?c2 ?k2 ?a3 ?l3 ?c3 ?k3 ?a4 ?l4 ?c4 ?k4 ?d4 ?a5 ?l5 ?c5 ?k5 ?a6 ?l6 ?c6 ?k6 ?a7 ?l7 ?c7 ?k7 ?a8 ?l8 ?c8 ?k8 ?a9 ?l9 ?c9 ?k9 ?a10 ?l10 ?c10 ?k10 ?a11 ?l11 ?c11 ?k11 ?a12 ?l12 ?c12 ?k12 ?a13 ?i13 ?l13 ?c13 ?k13 ?a14 ?i14 ?l14 ?c14 ?k14 ?a15 ?i15 ?l15 ?c15 ?k15 ?a16 ?l16 ?c16 ?k16 ?a17 ?l17 ?c17 ?k17 ?a18 ?l18 ?c18 ?k18 ?a19 ?l19 ?c19 ?k19 ?a20 ?l20 ?c20 ?k20 ?a21 ?l21 ?c21 ?k21 ?a22 ?l22 ?c22 ?k22 ?a23 ?l23 ?c23 ?k23 ?a24 ?l24 ?c24 ?k24 ?a25 ?l25 ?c25 ?k25 ?a26 ?l26 ?c26 ?k26 ?a27 ?l27 ?c27 ?k27 ?a28 ?l28 ?c28 ?k28 ?a29 ?l29 ?c29 ?k29 ?a30 ?l30 ?c30 ?k30 ?a31 ?l31 ?c31 ?k31 ?a32 ?l32 ?c32 ?k32 ?a33 ?l33 ?c33 ?k33 ?a34 ?i34 ?l34 ?c34 ?k34 ?a35 ?l35 ?c35 ?k35 ?a36 ?l36 ?c36 ?k36 ?a37 ?l37 ?c37 ?k37 ?a38 ?l38 ?c38 ?k38 ?a39 ?l39 ?c39 ?k39 ?a40 ?l40 ?c40 ?k40 ?a41 ?l41 ?c41 ?k41 ?a42 ?l42 ?c42 ?k42 ?a43 ?l43 ?c43 ?k43 ?a44 ?l44 ?c44 ?k44 ?a45 ?l45 ?c45 ?k45 ?a46 ?l46 ?c46 ?k46 ?a47 ?l47 ?c47 ?k47 ?n_NoWorth ?n_CordError ?n_NoBead ?n_NoCord ?n_NoFraction ?n_NoName ?n_NoText ?o_NoWorth ?i_NoWorth ?x_NoWorth ?y_NoWorth ?eis_NoWorth ?ega_NoWorth ?eno_NoWorth ?ecl_NoWorth ?emb_NoWorth ?emo_NoWorth ?ka_NoWorth ?om_Cord ?pg_Cord ?hd_Cord ?po_Cord ?sa_Cord ?mk_Cord ?kc_Cord ?d1_Cord ?d2_Cord ?d3_Cord ?d4_Cord ?ks_Cord ?nf_Cord_kept_gaps ?nf_Cord_kept_weights ?k_NoWorth_NoWorth ?k_NoWorth_ValueError ?b_CordError ?z_abs ?z_len ?z_isinstance ?z_int ?z_bool ?z_tuple ?z_range ?z_list ?z_min ?z_max ?z_zip ?z_all ?z_reversed ?z_enumerate ?z_ValueError ?q_MOST_BEADS
    (case om_Cord => k_is); (case a1 => k_is); (case l1 => k_is); (case c1 => k_is)
    (case k1 => k_is); (case a2 => k_is); (case l2 => k_is); (case c2 => k_is)
    (case k2 => k_is); (case a3 => k_is); (case l3 => k_is); (case c3 => k_is)
    (case k3 => k_is); (case a4 => k_is); (case l4 => k_is); (case c4 => k_is)
    (case k4 => k_is); (case d4 => k_is); (case a5 => k_is); (case l5 => k_is)
    (case c5 => k_is); (case k5 => k_is); (case a6 => k_is); (case l6 => k_is)
    (case c6 => k_is); (case k6 => k_is); (case a7 => k_is); (case l7 => k_is)
    (case c7 => k_is); (case k7 => k_is); (case a8 => k_is); (case l8 => k_is)
    (case c8 => k_is); (case k8 => k_is); (case a9 => k_is); (case l9 => k_is)
    (case c9 => k_is); (case k9 => k_is); (case a10 => k_is); (case l10 => k_is)
    (case c10 => k_is); (case k10 => k_is); (case a11 => k_is); (case l11 => k_is)
    (case c11 => k_is); (case k11 => k_is); (case a12 => k_is); (case l12 => k_is)
    (case c12 => k_is); (case k12 => k_is); (case a13 => k_is); (case i13 => k_is)
    (case l13 => k_is); (case c13 => k_is); (case k13 => k_is); (case a14 => k_is)
    (case i14 => k_is); (case l14 => k_is); (case c14 => k_is); (case k14 => k_is)
    (case a15 => k_is); (case i15 => k_is); (case l15 => k_is); (case c15 => k_is)
    (case k15 => k_is); (case a16 => k_is); (case l16 => k_is); (case c16 => k_is)
    (case k16 => k_is); (case a17 => k_is); (case l17 => k_is); (case c17 => k_is)
    (case k17 => k_is); (case a18 => k_is); (case l18 => k_is); (case c18 => k_is)
    (case k18 => k_is); (case a19 => k_is); (case l19 => k_is); (case c19 => k_is)
    (case k19 => k_is); (case a20 => k_is); (case l20 => k_is); (case c20 => k_is)
    (case k20 => k_is); (case a21 => k_is); (case l21 => k_is); (case c21 => k_is)
    (case k21 => k_is); (case a22 => k_is); (case l22 => k_is); (case c22 => k_is)
    (case k22 => k_is); (case a23 => k_is); (case l23 => k_is); (case c23 => k_is)
    (case k23 => k_is); (case a24 => k_is); (case l24 => k_is); (case c24 => k_is)
    (case k24 => k_is); (case a25 => k_is); (case l25 => k_is); (case c25 => k_is)
    (case k25 => k_is); (case a26 => k_is); (case l26 => k_is); (case c26 => k_is)
    (case k26 => k_is); (case a27 => k_is); (case l27 => k_is); (case c27 => k_is)
    (case k27 => k_is); (case a28 => k_is); (case l28 => k_is); (case c28 => k_is)
    (case k28 => k_is); (case a29 => k_is); (case l29 => k_is); (case c29 => k_is)
    (case k29 => k_is); (case a30 => k_is); (case l30 => k_is); (case c30 => k_is)
    (case k30 => k_is); (case a31 => k_is); (case l31 => k_is); (case c31 => k_is)
    (case k31 => k_is); (case a32 => k_is); (case l32 => k_is); (case c32 => k_is)
    (case k32 => k_is); (case a33 => k_is); (case l33 => k_is); (case c33 => k_is)
    (case k33 => k_is); (case a34 => k_is); (case i34 => k_is); (case l34 => k_is)
    (case c34 => k_is); (case k34 => k_is); (case a35 => k_is); (case l35 => k_is)
    (case c35 => k_is); (case k35 => k_is); (case a36 => k_is); (case l36 => k_is)
    (case c36 => k_is); (case k36 => k_is); (case a37 => k_is); (case l37 => k_is)
    (case c37 => k_is); (case k37 => k_is); (case a38 => k_is); (case l38 => k_is)
    (case c38 => k_is); (case k38 => k_is); (case a39 => k_is); (case l39 => k_is)
    (case c39 => k_is); (case k39 => k_is); (case a40 => k_is); (case l40 => k_is)
    (case c40 => k_is); (case k40 => k_is); (case a41 => k_is); (case l41 => k_is)
    (case c41 => k_is); (case k41 => k_is); (case a42 => k_is); (case l42 => k_is)
    (case c42 => k_is); (case k42 => k_is); (case a43 => k_is); (case l43 => k_is)
    (case c43 => k_is); (case k43 => k_is); (case a44 => k_is); (case l44 => k_is)
    (case c44 => k_is); (case k44 => k_is); (case a45 => k_is); (case l45 => k_is)
    (case c45 => k_is); (case k45 => k_is); (case a46 => k_is); (case l46 => k_is)
    (case c46 => k_is); (case k46 => k_is); (case a47 => k_is); (case l47 => k_is)
    (case c47 => k_is); (case k47 => k_is); (case n_NoWorth => k_is); (case n_CordError => k_is)
    (case n_NoBead => k_is); (case n_NoCord => k_is); (case n_NoFraction => k_is); (case n_NoName => k_is)
    (case n_NoText => k_is); (case o_NoWorth => k_exc); (case i_NoWorth => k_is); (case x_NoWorth => kit_is)
    (case y_NoWorth => rfl); (case eis_NoWorth => k_is); (case ega_NoWorth => k_is); (case eno_NoWorth => k_is)
    (case ecl_NoWorth => k_is); (case emb_NoWorth => k_is); (case emo_NoWorth => k_is); (case ka_NoWorth => kit_is)
    (case pg_Cord => k_is); (case hd_Cord => k_is); (case po_Cord => k_is); (case sa_Cord => k_is)
    (case mk_Cord => k_is); (case kc_Cord => k_is); (case d1_Cord => k_is); (case d2_Cord => k_is)
    (case d3_Cord => k_is); (case d4_Cord => k_is); (case ks_Cord => kit_is); (case nf_Cord_kept_gaps => k_is)
    (case nf_Cord_kept_weights => k_is); (case k_NoWorth_NoWorth => kit_is); (case k_NoWorth_ValueError => kit_is); (case b_CordError => k_is)
    (case z_abs => k_is); (case z_len => k_is); (case z_isinstance => k_is); (case z_int => k_is)
    (case z_bool => k_is); (case z_tuple => k_is); (case z_range => k_is); (case z_list => k_is)
    (case z_min => k_is); (case z_max => k_is); (case z_zip => k_is); (case z_all => k_is)
    (case z_reversed => k_is); (case z_enumerate => k_is); (case z_ValueError => k_is); (case q_MOST_BEADS => k_is)
