import PyProof.Rows.All
import Wide.All
import OpenK.AllK
import Wide.FinOn
import Lean
import PyProof.EqAt
import PyProof.EqKinds
import PyProof.TupleCall
import PySem.Challenge.RW_tautcord_k84_a_desk_of_cords
noncomputable section
set_option Elab.async false
set_option linter.all false
set_option maxRecDepth 100000
open PySem PySem.W in
set_option maxHeartbeats 0 in
theorem My.said:OpenLaw.wellSaid PySem.Challenge.rw_tautcord_k84_a_desk_of_cords=true:=by
 unfold OpenLaw.wellSaid OpenRow.wellSaid OpenRow.partSaid looksOpen
 repeat' with_reducible refine Bool.and_eq_true_iff.mpr ⟨?_,?_⟩
 all_goals decide +kernel
namespace L2
open PySem PySem.Spec PyProof.Rows
abbrev Key:=Sum Int Str
def Ou:Key→Value→Bool
 | .inl k,v=>Value.isInt k v
 | .inr x,v=>Value.isStrOf x v
def AJp(w:World):Key→Int
 | .inl k=>hashInt k
 | .inr x=>hashStr w x
theorem Ce:∀{k:Key} {v:Value},Ou k v=true→(∃i t,k=Sum.inl i∧v=Value.int i t)∨(∃x t,k=Sum.inr x∧v=Value.str x t)
 | .inl i,v,h=>by
  obtain ⟨t,e⟩:=Value.isInt_shape (k:=i) (v:=v) h
  exact .inl ⟨i,t,rfl,e⟩
 | .inr x,v,h=>by
  obtain ⟨t,e⟩:=Value.isStrOf_shape (x:=x) (v:=v) h
  exact .inr ⟨x,t,rfl,e⟩
theorem Wj(i:Int)(t:Tok):Ou (.inl i) (.int i t)=true:=by simp [Ou,Value.isInt]
theorem Vs(x:Str)(t:Tok):Ou (.inr x) (.str x t)=true:=by simp [Ou,Value.isStrOf]
theorem ABy(a b:Int):decide ((Sum.inl a:Key)=Sum.inl b)=(a==b):=by
 by_cases e:a=b
 ·subst e;simp
 ·have h:¬(Sum.inl a:Key)=Sum.inl b:=fun q=>e (Sum.inl.inj q)
  rw [decide_eq_false h]
  exact (beq_eq_false_iff_ne.mpr e).symm
theorem ABQ(a b:Str):decide ((Sum.inr a:Key)=Sum.inr b)=decide (a=b):=by
 by_cases e:a=b
 ·subst e;simp
 ·have h:¬(Sum.inr a:Key)=Sum.inr b:=fun q=>e (Sum.inr.inj q)
  rw [decide_eq_false h,decide_eq_false e]
theorem ABR(a:Int)(b:Str):decide ((Sum.inl a:Key)=Sum.inr b)=false:=decide_eq_false (fun q=>nomatch q)
theorem ABt(a:Str)(b:Int):decide ((Sum.inr a:Key)=Sum.inl b)=false:=decide_eq_false (fun q=>nomatch q)
def Bv(prog:Program)(w:World):PySem.KeyKind prog w Key where
 is:=Ou
 hash:=AJp w
 inj:=fun v a b ha hb=>by
  rcases Ce ha with ⟨i,t,rfl,rfl⟩ | ⟨x,t,rfl,rfl⟩
  ·rcases Ce hb with ⟨j,u,rfl,e⟩ | ⟨y,u,rfl,e⟩
   ·injection e with e1 _;rw [e1]
   ·exact nomatch e
  ·rcases Ce hb with ⟨j,u,rfl,e⟩ | ⟨y,u,rfl,e⟩
   ·exact nomatch e
   ·injection e with e1 _;rw [e1]
 byValue:=fun k v h=>by
  rcases Ce h with ⟨i,t,rfl,rfl⟩ | ⟨x,t,rfl,rfl⟩ <;> rfl
 pyHash:=fun hv h=>by
  rcases Ce hv with ⟨i,t,rfl,rfl⟩ | ⟨x,t,rfl,rfl⟩
  ·exact wpAny_pyHash_int h
  ·exact wpAny_pyHash_str h
 eqBool:=fun hu hv h=>by
  rcases Ce hu with ⟨i,t,rfl,rfl⟩ | ⟨x,t,rfl,rfl⟩
  ·rcases Ce hv with ⟨j,u,rfl,rfl⟩ | ⟨y,u,rfl,rfl⟩
   ·rw [ABy] at h;exact wpAny_eqBool_int h
   ·rw [ABR] at h;exact SeqAt.EqAt.int_str i t y u _ _ _ _ h
  ·rcases Ce hv with ⟨j,u,rfl,rfl⟩ | ⟨y,u,rfl,rfl⟩
   ·rw [ABt] at h;exact SeqAt.EqAt.str_int x t j u _ _ _ _ h
   ·rw [ABQ] at h;exact wpAny_eqBool_str h
 «strs»:=fun k x t v h=>by
  rcases Ce h with ⟨i,u,rfl,e⟩ | ⟨y,u,rfl,e⟩
  ·exact nomatch e
  ·injection e with e1 _
   subst e1
   cases v <;> rfl
theorem R9(prog:Program)(w:World)(i:Int)(t:Tok):(Bv prog w).is (.inl i) (.int i t)=true:=Wj i t
theorem Hl(prog:Program)(w:World)(x:Str)(t:Tok):(Bv prog w).is (.inr x) (.str x t)=true:=Vs x t
end L2
namespace L2
open PySem PySem.Spec PyProof.Rows
inductive V where
 | non | bl (b:Bool) | int (i:Int) | str (x:Str) | byt (b:Array UInt8) | flt (b:UInt64) | ref (a:Addr) | ty (n:String)
 deriving DecidableEq
def Bb:V→Value→Prop
 | .non,u=>u=Value.none
 | .bl b,u=>u=Value.bool b
 | .int i,u=>∃t,u=Value.int i t
 | .str x,u=>∃t,u=Value.str x t
 | .byt b,u=>∃t,u=Value.bytes b t
 | .flt b,u=>∃t,u=Value.float b t
 | .ref a,u=>u=Value.ref a
 | .ty n,u=>u=Value.type n
abbrev BW:List V→List Value→Prop:=Paired Bb
theorem BW.length{xs:List V}{us:List Value}(r:BW xs us):xs.length=us.length:=Paired.length r
theorem BW.get:∀{xs:List V} {us:List Value} {i:Nat} {x:V},BW xs us→xs[i]?=some x→∃u,us[i]?=some u∧Bb x u
 | _,_,_,_,.nil,e=>by simp at e
 | _,_,0,_,.cons r _,e=>by simp at e;subst e;exact ⟨_,rfl,r⟩
 | _,_,i+1,x,.cons _ t,e=>by
  obtain ⟨u,h1,h2⟩:=BW.get (i:=i) (x:=x) t (by simpa using e)
  exact ⟨u,by simpa using h1,h2⟩
theorem BW.set{x:V}{u:Value}(r:Bb x u):∀{xs:List V} {us:List Value} (i:Nat),BW xs us→BW (xs.set i x) (us.set i u)
 | _,_,_,.nil=>.nil
 | _,_,0,.cons _ t=>.cons r t
 | _,_,i+1,.cons q t=>.cons q (BW.set r i t)
theorem BW.append:∀{xs ys:List V} {us ws:List Value},BW xs us→BW ys ws→BW (xs++ys) (us++ws)
 | _,_,_,_,.nil,s=>s
 | _,_,_,_,.cons r t,s=>.cons r (BW.append t s)
theorem BW.take:∀{xs:List V} {us:List Value} (n:Nat),BW xs us→BW (xs.take n) (us.take n)
 | _,_,0,_=>.nil
 | _,_,_+1,.nil=>.nil
 | _,_,n+1,.cons r t=>.cons r (BW.take n t)
theorem BW.drop:∀{xs:List V} {us:List Value} (n:Nat),BW xs us→BW (xs.drop n) (us.drop n)
 | _,_,0,r=>r
 | _,_,_+1,.nil=>.nil
 | _,_,n+1,.cons _ t=>BW.drop n t
def Gs:Option V→Option Value→Prop
 | some v,some u=>Bb v u
 | none,none=>True
 | _,_=>False
def KV{κ:Type}:List (κ×V)→List (κ×Value)→Prop:=Paired fun (p:κ×V) (q:κ×Value)=>p.1=q.1∧Bb p.2 q.2
def kV:Key→V
 | .inl i=>.int i
 | .inr x=>.str x
inductive HO where
 | lst (xs:List V)
 | tup (xs:List V)
 | dK (aG:List (Key×V)) | dT (aG:List (List Key×V))
 | set (S:Int→Bool) (n:Nat)
 | ins (C dx:Addr) (fs:List (Str×V))
 | own (x:Addr)
 | xd (fs:List (Str×V))
 | met (f x:Addr)
 | rng (lo hi:Int)
 | frz (o:Obj) (u:HO)
 | tbl (ps:Array Value)
 | ext (φ:Heap→Prop)
abbrev Hp:=Addr→Option HO
def upd(H:Hp)(a:Addr)(o:HO):Hp:=fun b=>if b=a then some o else H b
theorem Ad{H:Hp}{a:Addr}{o:HO}:upd H a o a=some o:=by unfold upd;rw [if_pos rfl]
theorem Ai{H:Hp}{a b:Addr}{o:HO}(h:b≠a):upd H a o b=H b:=by unfold upd;rw [if_neg h]
theorem GZ{H:Hp}{a b:Addr}{o u:HO}(h:H a=some o)(h':H b=some u)(d:o≠u):a≠b:=by
 intro e;subst e;rw [h] at h';exact d (Option.some.inj h')
theorem Av{H:Hp}{a b:Addr}{o:HO}(h:H a=some o)(h':H b=none):a≠b:=by
 intro e;subst e;rw [h] at h';cases h'
section
variable (P:Program)(w:World)
def Bl(H:Hp)(h:Heap)(a:Addr):HO→Prop
 | .lst xs=>xs.length≤sizeLine∧∃(its:List Value) (n:Nat),BW xs its∧h.get? a=some { cls:=.type "list",data:=.seq its.toArray n }
 | .tup xs=>xs.length≤sizeLine∧∃its:List Value,BW xs its∧IsTup h a its.toArray
 | .dK aG=>aG.length≤sizeLine∧(a==sysModules)=false∧∃vs,KV aG vs∧h.DictOf (Bv P w) a vs
 | .dT aG=>aG.length≤sizeLine∧(a==sysModules)=false∧∃xs:List (List Key×Addr×Value),
   Paired (fun (p:List Key×V) (q:List Key×Addr×Value)=>p.1=q.1∧H q.2.1=some (.tup (p.1.map kV))∧Bb p.2 q.2.2) aG xs ∧
   ∃o es ep,h.get? a=some o∧o.ExactDict∧o.data=.dict es ep∧es.toList=xs.map (entryOfKey (tupleKind (Bv P w)))∧(xs.map (·.1)).Nodup
 | .set S n=>h.SetOf (intKind P w) a S n
 | .ins C dx fs=>H dx=some (.own a)∧fs.length≤1000∧dx≠a∧h.get? a=some (PySem.W.instObj C dx) ∧
   ∃mA,h.Ns1 dx mA∧(∀f,Gs (fs.lookup f) (mA f))∧PySem.Within mA (fs.map (·.1))
 | .own _=>∃o,h.get? a=some o
 | .xd fs=>∃mA,h.Ns1 a mA∧∀f,Gs (fs.lookup f) (mA f)
 | .rng lo hi=>∃t u v,h.get? a=some { cls:=.type "range",data:=.fields #[.int lo t,.int hi u,.int 1 v] }
 | .frz o u=>h.get? a=some o∧Bl H h a u
 | .tbl ps=>h.get? a=some { cls:=.none,data:=.fields ps }
 | .met f x=>h.get? a=some (PySem.W.methodObj (.ref f) (.ref x))
 | .ext φ=>φ h∧(∃o,h.get? a=some o)∧∀h1 h2:Heap,φ h1→(∀o,h1.get? a=some o→h2.get? a=some o)→φ h2
def HOk(H:Hp)(h:Heap):Prop:=∀a o,H a=some o→Bl P w H h a o
end
section
variable {P:Program}{w:World}{H H':Hp}{h h':Heap}{a:Addr}{o:HO}
theorem Bl.lt(x:Bl P w H h a o):a<h.objs.size:=by
 cases o with
 | lst xs=>obtain ⟨_,_,_,_,e⟩:=x;exact Heap.lt_size e
 | tup xs=>obtain ⟨_,_,_,p⟩:=x;exact p.lt
 | dK aG=>obtain ⟨_,_,_,_,o,_,_,e,_⟩:=x;exact Heap.lt_size e
 | dT aG=>obtain ⟨_,_,_,_,o,_,_,e,_⟩:=x;exact Heap.lt_size e
 | set S n=>obtain ⟨o,_,_,_,e,_⟩:=x;exact Heap.lt_size e
 | ins C dx fs=>obtain ⟨_,_,_,e,_⟩:=x;exact Heap.lt_size e
 | own y=>obtain ⟨_,e⟩:=x;exact Heap.lt_size e
 | xd fs=>obtain ⟨_,⟨_,_,_,e,_⟩,_⟩:=x;exact Heap.lt_size e
 | rng lo hi=>obtain ⟨_,_,_,e⟩:=x;exact Heap.lt_size e
 | frz ob u=>obtain ⟨e,_⟩:=x;exact Heap.lt_size e
 | tbl ps=>exact Heap.lt_size (show h.get? a=some _ from x)
 | met f y=>exact Heap.lt_size (show h.get? a=some _ from x)
 | ext φ=>obtain ⟨_,⟨_,e⟩,_⟩:=x;exact Heap.lt_size e
theorem Paired.mapP{α β:Type}{F G:α→β→Prop}:∀{l₁:List α} {l₂:List β},Paired F l₁ l₂→(∀a b,F a b→G a b)→Paired G l₁ l₂
 | _,_,.nil,_=>.nil
 | _,_,.cons r t,f=>.cons (f _ _ r) (Paired.mapP t f)
theorem Paired.imp'{α β:Type}{F G:α→β→Prop}(f:∀a b,F a b→G a b){l₁:List α}{l₂:List β}(r:Paired F l₁ l₂):Paired G l₁ l₂:=Paired.mapP r f
theorem Bl.stay(x:Bl P w H h a o)(k:∀b u,(b=a∨H b=some (.own a))→h.get? b=some u→h'.get? b=some u)
  (ho:∀b,H b=some (.own a)→H' b=some (.own a)) (ht:∀b xs,H b=some (.tup xs)→H' b=some (.tup xs)):Bl P w H' h' a o:=by
 induction o with
 | lst xs=>obtain ⟨z,its,n,r,e⟩:=x;exact ⟨z,its,n,r,k _ _ (.inl rfl) e⟩
 | tup xs=>obtain ⟨z,its,r,ob,e,c⟩:=x;exact ⟨z,its,r,ob,k _ _ (.inl rfl) e,c⟩
 | dK aG=>obtain ⟨z,y,vs,r,ob,es,ep,e,c⟩:=x;exact ⟨z,y,vs,r,ob,es,ep,k _ _ (.inl rfl) e,c⟩
 | dT aG =>
  obtain ⟨z,y,xs,r,ob,es,ep,e,c⟩:=x
  exact ⟨z,y,xs,Paired.mapP r fun p q z=>⟨z.1,ht _ _ z.2.1,z.2.2⟩,ob,es,ep,k _ _ (.inl rfl) e,c⟩
 | set S n=>obtain ⟨ob,es,ep,t,e,c⟩:=x;exact ⟨ob,es,ep,t,k _ _ (.inl rfl) e,c⟩
 | ins C dx fs =>
  obtain ⟨d,z,ne,e,mA,⟨od,es,ep,e2,c⟩,r⟩:=x
  exact ⟨ho _ d,z,ne,k _ _ (.inl rfl) e,mA,⟨od,es,ep,k _ _ (.inr d) e2,c⟩,r⟩
 | own y=>obtain ⟨ob,e⟩:=x;exact ⟨ob,k _ _ (.inl rfl) e⟩
 | xd fs=>obtain ⟨mA,⟨od,es,ep,e,c⟩,r⟩:=x;exact ⟨mA,⟨od,es,ep,k _ _ (.inl rfl) e,c⟩,r⟩
 | rng lo hi=>obtain ⟨t,u,v,e⟩:=x;exact ⟨t,u,v,k _ _ (.inl rfl) e⟩
 | frz ob u ih=>obtain ⟨e,q⟩:=x;exact ⟨k _ _ (.inl rfl) e,ih q⟩
 | tbl ps =>
  have e:h.get? a=some { cls:=.none,data:=.fields ps }:=x
  show h'.get? a=some { cls:=.none,data:=.fields ps }
  exact k a _ (.inl rfl) e
 | met f y =>
  have e:h.get? a=some (PySem.W.methodObj (.ref f) (.ref y)):=x
  show h'.get? a=some (PySem.W.methodObj (.ref f) (.ref y))
  exact k a _ (.inl rfl) e
 | ext φ=>obtain ⟨p,⟨o,e⟩,st⟩:=x;exact ⟨st _ _ p fun o q=>k _ _ (.inl rfl) q,⟨o,k _ _ (.inl rfl) e⟩,st⟩
theorem HOk.lt(x:HOk P w H h)(e:H a=some o):a<h.objs.size:=(x a o e).lt
theorem HOk.fresh(x:HOk P w H h)(e:h.objs.size≤a):H a=none:=by
 cases q:H a with
 | none=>rfl
 | some u=>exact absurd (Nat.lt_of_lt_of_le (x.lt q) e) (Nat.lt_irrefl _)
theorem HOk.kept(x:HOk P w H h)(k:∀b u,h.get? b=some u→h'.get? b=some u):HOk P w H h':=fun a o e =>
 (x a o e).stay (fun b u _ q=>k b u q) (fun _ q=>q) fun _ _ q=>q
theorem HOk.laid(x:HOk P w H h)(k:∀b u,h.get? b=some u→h'.get? b=some u)(hp:h.objs.size≤a)(new:Bl P w (upd H a o) h' a o):HOk P w (upd H a o) h':=fun b u e=>by
 have hn:=x.fresh hp
 by_cases hb:b=a
 ·subst hb;rw [Ad] at e;cases e;exact new
 ·rw [Ai hb] at e
  exact (x b u e).stay (fun c v _ q=>k c v q) (fun c q=>by rw [Ai (Av q hn)];exact q) fun c xs q=>by rw [Ai (Av q hn)];exact q
end
def Rd(H:Hp)(a:Addr)(u:HO):Prop:=H a=some u∨∃o,H a=some (.frz o u)
theorem Rd.ok{P:Program}{w:World}{H:Hp}{h:Heap}{a:Addr}{u:HO}(r:Rd H a u)(x:HOk P w H h):Bl P w H h a u:=by
 rcases r with r | ⟨o,r⟩
 ·exact x a u r
 ·obtain ⟨_,q⟩:=x a _ r
  exact q
def Mut:Option HO→Prop
 | some (.lst _)=>True
 | some (.dK _)=>True
 | some (.dT _)=>True
 | some (.set _ _)=>True
 | some (.ins _ _ _)=>True
 | some (.ext _)=>True
 | _=>False
section
variable {P:Program}{w:World}{H:Hp}{h h':Heap}{x e:Addr}{o':HO}
theorem HOk.write(ok:HOk P w H h)(mu:Mut (H x))(he:e=x∨H e=some (.own x))(k:∀b u,b≠e→h.get? b=some u→h'.get? b=some u)(heo:∃u,h'.get? e=some u)
  (new:Bl P w (upd H x o') h' x o'):HOk P w (upd H x o') h':=fun b u q=>by
 have nown:∀c y,H c=some (.own y)→c≠x:=fun c y r z=>by subst z;rw [r] at mu;exact mu
 have ntup:∀c xs,H c=some (.tup xs)→c≠x:=fun c xs r z=>by subst z;rw [r] at mu;exact mu
 by_cases hb:b=x
 ·subst hb;rw [Ad] at q;cases q;exact new
 ·rw [Ai hb] at q
  by_cases hbe:b=e
  ·have q':H b=some (.own x):=by
    rcases he with z | z
    ·exact absurd (hbe.trans z) hb
    ·rw [hbe];exact z
   rw [q] at q';cases q'
   obtain ⟨v,hv⟩:=heo
   exact ⟨v,by rw [hbe];exact hv⟩
  ·refine (ok b u q).stay (fun c v hc r=>k c v ?_ r) (fun c r=>by rw [Ai (nown c b r)];exact r) fun c xs r=>by rw [Ai (ntup c xs r)];exact r
   rcases hc with rfl | hc
   ·exact hbe
   ·rintro rfl
    rcases he with z | z
    ·exact nown c b hc z
    ·rw [hc] at z;cases z;exact hb rfl
end
structure Un(fs ex:List Addr)(H H':Hp)(h h':Heap):Prop where
 keep:∀b o,h.get? b=some o→H b=none→b∉fs→b∉ex→h'.get? b=some o
 slot:∀b o,h.get? b=some o→H b=none→b∈fs→b∉ex→∃sl,h'.get? b=some { o with slots:=sl }
 free:∀b o,h.get? b=some o→H b=none→b∉ex→H' b=none
 there:∀b o,h.get? b=some o→b∉ex→∃o',h'.get? b=some o'
 tups:∀b xs,H b=some (.tup xs)→H' b=some (.tup xs)
 frzs:∀b o u,H b=some (.frz o u)→H' b=some (.frz o u)
 tbls:∀b ps,H b=some (.tbl ps)→∃more,H' b=some (.tbl (ps++more))
section
variable {fs fs' ex ex':List Addr}{H H1 H2:Hp}{h h1 h2 h':Heap}{a x e:Addr}{o:HO}
theorem Un.any(u:Un fs ex H H1 h h1){b:Addr}{ob:Obj}(q:h.get? b=some ob)(n:H b=none)(hx:b∉ex):∃sl,h1.get? b=some { ob with slots:=sl }:=by
 by_cases hb:b∈fs
 ·exact u.slot b ob q n hb hx
 ·exact ⟨ob.slots,u.keep b ob q n hb hx⟩
theorem Un.kept(k:∀b u,h.get? b=some u→h'.get? b=some u):Un fs ex H H h h' :=
 ⟨fun b ob q _ _ _=>k b ob q,fun b ob q _ _ _=>⟨ob.slots,k b ob q⟩,fun _ _ _ n _=>n,fun b ob q _=>⟨ob,k b ob q⟩,fun _ _ q=>q,fun _ _ _ q=>q,fun _ ps q=>⟨#[],by rw [q];simp⟩⟩
theorem Un.refl:Un fs ex H H h h:=Un.kept fun _ _ q=>q
theorem Un.laid(k:∀b u,h.get? b=some u→h'.get? b=some u)(hp:h.objs.size≤a)(hn:H a=none):Un fs ex H (upd H a o) h h' where
 keep:=fun b u q _ _ _=>k b u q
 slot:=fun b u q _ _ _=>⟨u.slots,k b u q⟩
 free:=fun b u q n _=>by rw [Ai (Nat.ne_of_lt (Nat.lt_of_lt_of_le (Heap.lt_size q) hp))];exact n
 there:=fun b u q _=>⟨u,k b u q⟩
 tups:=fun b xs q=>by rw [Ai (Av q hn)];exact q
 frzs:=fun b u xs q=>by rw [Ai (Av q hn)];exact q
 tbls:=fun b ps q=>⟨#[],by rw [Ai (Av q hn),q];simp⟩
theorem Un.write(mu:Mut (H x))(he:e=x∨H e=some (.own x))(k:∀b u,b≠e→h.get? b=some u→h'.get? b=some u)(heo:∃u,h'.get? e=some u):Un fs ex H (upd H x o) h h':=by
 have hx:∀b,H b=none→b≠x:=fun b n z=>by subst z;rw [n] at mu;exact mu
 have hb:∀b,H b=none→b≠e:=fun b n z=>by
  subst z
  rcases he with r | r
  ·exact hx b n r
  ·rw [n] at r;cases r
 have hm:∀b u,H b=some u→¬Mut (some u)→b≠x:=fun b u q nm z=>by subst z;rw [q] at mu;exact nm mu
 refine ⟨fun b u q n _ _=>k b u (hb b n) q,fun b u q n _ _=>⟨u.slots,k b u (hb b n) q⟩,fun b u q n _=>by rw [Ai (hx b n)];exact n,fun b u q _=>?_,
  fun b xs q=>by rw [Ai (hm b _ q fun z=>z)];exact q,fun b u xs q=>by rw [Ai (hm b _ q fun z=>z)];exact q,fun b ps q=>⟨#[],by rw [Ai (hm b _ q fun z=>z),q];simp⟩⟩
 by_cases hbe:b=e
 ·subst hbe;exact heo
 ·exact ⟨u,k b u hbe q⟩
theorem Un.mono(u:Un fs ex H H1 h h1)(hs:∀b∈fs,b∈fs')(hx:∀b∈ex,b∈ex'):Un fs' ex' H H1 h h1 :=
 ⟨fun b ob q n hb he=>u.keep b ob q n (fun z=>hb (hs b z)) fun z=>he (hx b z),fun _ _ q n _ he=>u.any q n fun z=>he (hx _ z),fun b ob q n he=>u.free b ob q n fun z=>he (hx b z),fun b ob q he=>u.there b ob q fun z=>he (hx b z),u.tups,u.frzs,u.tbls⟩
end
def trk(h:Heap)(H:Hp):List Addr:=(List.range h.objs.size).filter fun a=>(H a).isSome
def Pz(h:Heap)(H:Hp):Heap:=PySem.W.hideAll h (trk h H)
theorem Vz(h:Heap)(H:Hp):(Pz h H).objs.size=h.objs.size:=PySem.W.hideAll_size _ _
theorem Yb{h:Heap}{H:Hp}{b:Addr}{o:Obj}(e:h.get? b=some o)(n:H b=none):(Pz h H).get? b=some o :=
 PySem.W.hideAll_get _ e fun hm=>by
  have q:(H b).isSome=true:=(List.mem_filter.mp hm).2
  rw [n] at q;simp at q
theorem Zb{h:Heap}{H:Hp}{b:Addr}{o:Obj}(e:(Pz h H).get? b=some o):h.get? b=some o∧H b=none:=by
 have e':h.get? b=some o:=PySem.W.of_hideAll (trk h H) e
 refine ⟨e',?_⟩
 cases q:H b with
 | none=>rfl
 | some x =>
  have hm:b∈trk h H:=List.mem_filter.mpr ⟨List.mem_range.mpr (Heap.lt_size e'),by simp [q]⟩
  have z:(Pz h H).get? b=none:=PySem.W.hideAll_none (trk h H) hm
  rw [z] at e;cases e
def Yr(g h:Heap)(L:Addr):List (Addr×Obj):=(List.range h.objs.size).filterMap fun a=>if a=L∨(g.get? a).isSome=true then none else (h.get? a).map fun o=>(a,o)
def Bh(g h:Heap)(L d:Addr):List (Addr×Obj):=(Yr g h L).filter fun p=>decide (p.1≠d)
end L2
namespace L2
open PySem PySem.Spec PyProof.Rows
structure Mod(K:PySem.W.Frag)(mg:Str→Option Value)(base:Heap):Prop where
 kin:K.In base
 glob:base.Ns mainGlobals mg
 blt:∃mb,base.Ns builtinsNs mb∧∀x:Str,x≠"__name__"→mb x=bootBuiltins x
 nolimit:base.NoLimit
structure Cx where
 prog:Program
 w:World
 K:PySem.W.Frag
 mg:Str→Option Value
 base:Heap
 A:Around
 N:List Str
 s₀:Shared
 H₀:Hp
 env:Env
 outer:List Env
 stack:List Env
 ex:List Addr
 fn:Str→Bool
 calm:Bool
 pn:List (Addr×Obj)
 xe:Value→Shared→Prop
def frs(l:List Env):List Addr:=l.filterMap (·.frame)
abbrev Cx.fs(X:Cx):List Addr:=frs X.outer
def Vis(sc:Scope)(x:Str):Prop:=sc.names.lookup x=some .local∨sc.names.lookup x=some .cell∨sc.names.lookup x=some .free
def Loc(sc:Scope)(x:Str):Prop:=sc.names.lookup x=some .local∨sc.names.lookup x=some .cell
def AHa(env:Env)(h:Heap)(m:Str→Option Value)(x:Str)(u:Value):Prop :=
 (env.kindOf x=some .local∧m x=some u)∨((env.kindOf x=some .cell∨env.kindOf x=some .free)∧∃c,env.cells.lookup x=some c∧h.IsCell c (some u))
structure Cx.Ok(X:Cx):Prop where
 mod:Mod X.K X.mg X.base
 kind:X.env.scope.kind=.function
 glob:X.env.globals=mainGlobals
 blt:X.env.builtins=builtinsNs
 above:X.s₀.heap.objs.size≤X.env.locals
 inj:∀x y c,X.env.cells.lookup x=some c→X.env.cells.lookup y=some c→x=y
 has:∀x,(X.env.kindOf x=some .cell∨X.env.kindOf x=some .free)→∃c,X.env.cells.lookup x=some c
 cab:∀x c,X.fn x=true→X.env.cells.lookup x=some c→X.s₀.heap.objs.size≤c
 hd:X.calm=true→X.A.handled=none
 frames:X.A.frames=some X.stack
 stk:X.stack=X.outer∨(X.stack=X.env::X.outer∧X.env.frame=some X.env.locals)
 exf:∀b∈X.ex,b≠X.env.locals∧∀x c,X.env.cells.lookup x=some c→c≠b
 bs:∀b o,X.base.get? b=some o→X.s₀.heap.get? b=some o∧X.H₀ b=none
 bsz:X.base.objs.size≤X.s₀.heap.objs.size
 noex:∀b o,X.base.get? b=some o→b∉X.ex
 exfs:∀b∈X.ex,b∉X.fs
 funs:X.s₀.heap.FunFrames X.base X.outer
 frf:∀b∈X.fs,X.H₀ b=none
structure Inv(X:Cx)(aA:List (Addr×Obj))(σ:List (Option V))(H:Hp)(s:Shared):Prop where
 ok:X.Ok
 os:s.os=X.s₀.os
 bare:AllBare s.gens
 base:Un X.fs X.ex X.H₀ H X.s₀.heap s.heap
 loc:∃m,s.heap.Ns X.env.locals m∧∀(i:Nat) (x:Str) (v:V),X.N[i]?=some x→σ[i]?=some (some v)→Vis X.env.scope x→∃u,Bb v u∧AHa X.env s.heap m x u
 cell:∀x c,X.env.cells.lookup x=some c→∃v,s.heap.IsCell c v
 free:H X.env.locals=none
 freeC:∀x c,X.env.cells.lookup x=some c→H c=none
 pin:∀p∈X.pn++aA,s.heap.get? p.1=some p.2∧H p.1=none∧p.1≠X.env.locals∧p.1∉X.fs∧∀v,p.2.data≠.cell v
 hok:HOk X.prog X.w H s.heap
 len:σ.length=X.N.length
section
variable {X:Cx}{aA:List (Addr×Obj)}{σ:List (Option V)}{H H':Hp}{s:Shared}{h':Heap}
theorem Cx.Ok.nofr(ok:X.Ok){b:Addr}{o:Obj}(e:X.base.get? b=some o):b∉X.fs:=fun hb=>by
 have:=(ok.funs.mem hb).1
 rw [e] at this;cases this
theorem Inv.bs(I:Inv X aA σ H s):∀b o,X.base.get? b=some o→s.heap.get? b=some o∧H b=none:=fun b o e =>
 ⟨I.base.keep b o (I.ok.bs b o e).1 (I.ok.bs b o e).2 (I.ok.nofr e) (I.ok.noex b o e),I.base.free b o (I.ok.bs b o e).1 (I.ok.bs b o e).2 (I.ok.noex b o e)⟩
theorem Inv.bk(I:Inv X aA σ H s):∀b o,X.base.get? b=some o→s.heap.get? b=some o:=fun b o e=>(I.bs b o e).1
theorem Inv.mod(I:Inv X aA σ H s):Mod X.K X.mg X.base:=I.ok.mod
theorem Inv.kIn(I:Inv X aA σ H s):X.K.In s.heap:=I.ok.mod.kin.keeps I.bk
theorem Inv.lt(I:Inv X aA σ H s):X.env.locals<s.heap.objs.size:=let ⟨_,hn,_⟩:=I.loc;hn.lt
theorem Inv.sz(I:Inv X aA σ H s):X.s₀.heap.objs.size≤s.heap.objs.size:=Nat.le_trans I.ok.above (Nat.le_of_lt I.lt)
theorem Inv.nofs(I:Inv X aA σ H s){a:Addr}(h:s.heap.objs.size≤a):a∉X.fs:=fun hb=>by
 obtain ⟨_,o,ho,_⟩:=I.ok.funs.mem hb
 exact absurd (Nat.lt_of_lt_of_le (Heap.lt_size ho) (Nat.le_trans I.sz h)) (Nat.lt_irrefl _)
theorem Inv.cne(I:Inv X aA σ H s):∀x c,X.env.cells.lookup x=some c→c≠X.env.locals:=fun x c e z=>by
 obtain ⟨v,o,ho,hd⟩:=I.cell x c e
 obtain ⟨m,⟨o',es,ep,ho',hd',_⟩,_⟩:=I.loc
 rw [z,ho'] at ho;cases ho;rw [hd'] at hd;cases hd
theorem Inv.funs(I:Inv X aA σ H s):s.heap.FunFrames X.base X.outer:=by
 have all:∀(l:List Env),(∀b∈frs l,b∈X.fs)→X.s₀.heap.FunFrames X.base l→s.heap.FunFrames X.base l:=by
  intro l
  induction l with
  | nil=>intro _ _;trivial
  | cons env r ih =>
   intro hs hl
   obtain ⟨hk,⟨L,o,hf,hn,ho,hd⟩,hr⟩:=hl
   have hL:L∈X.fs:=hs L (by unfold frs;rw [List.filterMap_cons,hf];exact List.mem_cons_self)
   obtain ⟨sl,e⟩:=I.base.slot L o ho (I.ok.frf L hL) hL fun z=>I.ok.exfs L z hL
   exact ⟨hk,⟨L,_,hf,hn,e,hd⟩,ih (fun b hb=>hs b (by unfold frs;rw [List.filterMap_cons,hf];exact List.mem_cons_of_mem _ hb)) hr⟩
 exact all X.outer (fun _ hb=>hb) I.ok.funs
theorem Inv.stack(I:Inv X aA σ H s):s.heap.FunFrames X.base X.stack:=by
 rcases I.ok.stk with e | ⟨e,hf⟩
 ·rw [e];exact I.funs
 ·rw [e]
  obtain ⟨m,hn,_⟩:=I.loc
  refine .cons (by rw [I.ok.kind];decide) hf hn ?_ I.funs
  exact Heap.get?_none_of_le (Nat.le_trans I.ok.bsz I.ok.above)
theorem Inv.stkSub(I:Inv X aA σ H s):∀b∈frs X.stack,b∈X.env.locals::X.fs:=fun b hb=>by
 rcases I.ok.stk with e | ⟨e,hf⟩
 ·rw [e] at hb;exact List.mem_cons_of_mem _ hb
 ·rw [e] at hb
  unfold frs at hb
  rw [List.filterMap_cons,hf] at hb
  exact hb
theorem Inv.stkFree(I:Inv X aA σ H s):∀b∈frs X.stack,H b=none:=fun b hb=>by
 rcases List.mem_cons.mp (I.stkSub b hb) with e | hb
 ·rw [e];exact I.free
 ·obtain ⟨_,o,ho,_⟩:=I.ok.funs.mem hb
  exact I.base.free b o ho (I.ok.frf b hb) fun z=>I.ok.exfs b z hb
theorem Inv.step{g':Array GenState}{t':Nat}{d':Drawn}{ch:List Addr}(I:Inv X aA σ H s)
  (hch:∀b∈ch,(b∈X.ex∨X.s₀.heap.objs.size≤b)∧b≠X.env.locals∧(∀x c,X.env.cells.lookup x=some c→c≠b)∧∀p∈X.pn++aA,p.1≠b)
  (keep:∀b o,b≠X.env.locals→b∉X.fs→b∉ch→s.heap.get? b=some o→H b=none→h'.get? b=some o)
  (slot:∀b o,b≠X.env.locals→b∈X.fs→b∉ch→s.heap.get? b=some o→H b=none→∃sl,h'.get? b=some { o with slots:=sl }) (free:∀b o,b∉ch→s.heap.get? b=some o→H b=none→H' b=none)
  (there:∀b o,b∉ch→s.heap.get? b=some o→∃o',h'.get? b=some o')
  (tups:∀b xs,H b=some (.tup xs)→H' b=some (.tup xs)) (frzs:∀b o u,H b=some (.frz o u)→H' b=some (.frz o u)) (tbls:∀b ps,H b=some (.tbl ps)→∃more,H' b=some (.tbl (ps++more)))
  (ns:∀m,s.heap.Ns X.env.locals m→h'.Ns X.env.locals m) (hok:HOk X.prog X.w H' h') (hg:AllBare g') :
  Inv X aA σ H' { s with heap:=h',gens:=g',drawn:=d',toks:=t' }:=by
 have neL:∀b o,X.s₀.heap.get? b=some o→b≠X.env.locals:=fun b o e=>Nat.ne_of_lt (Nat.lt_of_lt_of_le (Heap.lt_size e) I.ok.above)
 have neC:∀b o,X.s₀.heap.get? b=some o→b∉X.ex→b∉ch:=fun b o e hx hb=>by
  rcases (hch b hb).1 with z | z
  ·exact hx z
  ·exact absurd (Nat.lt_of_lt_of_le (Heap.lt_size e) z) (Nat.lt_irrefl _)
 have cellK:∀x c,X.env.cells.lookup x=some c→∀v,s.heap.IsCell c v→h'.IsCell c v:=fun x c e v ⟨o,ho,hd⟩=>by
  have nch:c∉ch:=fun z=>(hch c z).2.2.1 x c e rfl
  by_cases hc:c∈X.fs
  ·obtain ⟨sl,q⟩:=slot c o (I.cne x c e) hc nch ho (I.freeC x c e)
   exact ⟨_,q,hd⟩
  ·exact ⟨o,keep c o (I.cne x c e) hc nch ho (I.freeC x c e),hd⟩
 refine ⟨I.ok,I.os,hg,⟨fun b o e n hb hx=>?_,fun b o e n hb hx=>?_,fun b o e n hx=>?_,fun b o e hx=>?_,fun b xs e=>tups b xs (I.base.tups b xs e),fun b o xs e=>frzs b o xs (I.base.frzs b o xs e),fun b ps e=>?_⟩,?_,fun x c e=>?_,?_,fun x c e=>?_,fun p hp=>?_,hok,I.len⟩
 ·exact keep b o (neL b o e) hb (neC b o e hx) (I.base.keep b o e n hb hx) (I.base.free b o e n hx)
 ·obtain ⟨sl,e1⟩:=I.base.slot b o e n hb hx
  obtain ⟨sl',e2⟩:=slot b _ (neL b o e) hb (neC b o e hx) e1 (I.base.free b o e n hx)
  exact ⟨sl',e2⟩
 ·obtain ⟨o',e1⟩:=I.base.there b o e hx
  exact free b o' (neC b o e hx) e1 (I.base.free b o e n hx)
 ·obtain ⟨o',e1⟩:=I.base.there b o e hx
  exact there b o' (neC b o e hx) e1
 ·obtain ⟨m1,e1⟩:=I.base.tbls b ps e
  obtain ⟨m2,e2⟩:=tbls b _ e1
  exact ⟨m1++m2,by rw [e2,Array.append_assoc]⟩
 ·obtain ⟨m,hn,hl⟩:=I.loc
  refine ⟨m,ns m hn,fun i x v e1 e2 e3=>?_⟩
  obtain ⟨u,r,l⟩:=hl i x v e1 e2 e3
  refine ⟨u,r,?_⟩
  rcases l with l | ⟨k,c,e,z⟩
  ·exact .inl l
  ·exact .inr ⟨k,c,e,cellK x c e _ z⟩
 ·obtain ⟨v,z⟩:=I.cell x c e
  exact ⟨v,cellK x c e v z⟩
 ·obtain ⟨m,⟨o,_,_,ho,_⟩,_⟩:=I.loc
  exact free _ o (fun z=>(hch _ z).2.1 rfl) ho I.free
 ·obtain ⟨v,o,ho,hd⟩:=I.cell x c e
  exact free c o (fun z=>(hch c z).2.2.1 x c e rfl) ho (I.freeC x c e)
 ·obtain ⟨e,n,ne,nf,d⟩:=I.pin p hp
  have nch:p.1∉ch:=fun z=>(hch p.1 z).2.2.2 p hp rfl
  exact ⟨keep p.1 p.2 ne nf nch e n,free p.1 p.2 nch e n,ne,nf,d⟩
theorem Inv.un{t':Nat}(I:Inv X aA σ H s)(u:Un X.fs [] H H' s.heap h')(hok:HOk X.prog X.w H' h'):Inv X aA σ H' { s with heap:=h',toks:=t' }:=by
 obtain ⟨m,⟨o,es,ep,ho,r⟩,_⟩:=id I.loc
 obtain ⟨sl,hL⟩:=u.any ho I.free (by simp)
 exact I.step (g':=s.gens) (d':=s.drawn) (ch:=[]) (fun _ z=>nomatch z) (fun b o _ hb _ e n=>u.keep b o e n hb (by simp)) (fun b o _ hb _ e n=>u.slot b o e n hb (by simp)) (fun b o _ e n=>u.free b o e n (by simp)) (fun b o _ e=>u.there b o e (by simp)) u.tups u.frzs u.tbls (fun m' hm=>by
  obtain ⟨o',es',ep',ho',r'⟩:=hm
  rw [ho] at ho';cases ho'
  exact ⟨_,es',ep',hL,r'⟩) hok I.bare
theorem Inv.call{g':Array GenState}{t':Nat}{d':Drawn}{ch:List Addr}(I:Inv X aA σ H s)(u:Un (frs X.stack) ch H H' s.heap h')(hok:HOk X.prog X.w H' h')(hg:AllBare g')
  (hch:∀b∈ch,(b∈X.ex∨X.s₀.heap.objs.size≤b)∧b≠X.env.locals∧(∀x c,X.env.cells.lookup x=some c→c≠b)∧∀p∈X.pn++aA,p.1≠b) :
  Inv X aA σ H' { s with heap:=h',gens:=g',drawn:=d',toks:=t' }:=by
 obtain ⟨m,⟨o,es,ep,ho,r⟩,_⟩:=id I.loc
 obtain ⟨sl,hL⟩:=u.any ho I.free fun z=>(hch _ z).2.1 rfl
 exact I.step (ch:=ch) hch (fun b o hL hb hc e n=>u.keep b o e n (fun z=>(List.mem_cons.mp (I.stkSub b z)).elim hL hb) hc) (fun b o _ _ hc e n=>u.any e n hc) (fun b o hc e n=>u.free b o e n hc) (fun b o hc e=>u.there b o e hc) u.tups u.frzs u.tbls (fun m' hm=>by
  obtain ⟨o',es',ep',ho',r'⟩:=hm
  rw [ho] at ho';cases ho'
  exact ⟨_,es',ep',hL,r'⟩) hok hg
theorem Inv.turned{t':Nat}{it:Addr}(I:Inv X aA σ H s)(k:∀b o,b≠it→s.heap.get? b=some o→h'.get? b=some o)(hn:H it=none)(hL:it≠X.env.locals)
  (h1:it∈X.ex∨X.s₀.heap.objs.size≤it) (h2:∀x c,X.env.cells.lookup x=some c→c≠it) (h3:∀p∈X.pn++aA,p.1≠it):Inv X aA σ H { s with heap:=h',toks:=t' }:=by
 have nit:∀b u,H b=some u→b≠it:=fun b u e z=>by rw [z,hn] at e;cases e
 refine I.step (g':=s.gens) (d':=s.drawn) (ch:=[it]) (fun b hb=>?_) (fun b o _ _ hc e _=>k b o (fun z=>hc (by simp [z])) e) (fun b o _ _ hc e _=>⟨o.slots,k b o (fun z=>hc (by simp [z])) e⟩) (fun _ _ _ _ n=>n)
  (fun b o hc e=>⟨o,k b o (fun z=>hc (by simp [z])) e⟩) (fun _ _ e=>e) (fun _ _ _ e=>e) (fun b ps e=>⟨#[],by rw [e];simp⟩) (fun m hm=>?_) (fun b u e=>?_) I.bare
 ·have e:b=it:=by simpa using hb
  subst e
  exact ⟨h1,hL,h2,h3⟩
 ·obtain ⟨o,es,ep,ho,r⟩:=hm
  exact ⟨o,es,ep,k _ o (Ne.symm hL) ho,r⟩
 ·refine (I.hok b u e).stay (fun c v hc q=>k c v ?_ q) (fun _ q=>q) fun _ _ q=>q
  rcases hc with z | z
  ·rw [z];exact nit b u e
  ·exact nit c _ z
theorem Inv.tok(I:Inv X aA σ H s)(t:Nat):Inv X aA σ H { s with toks:=t }:=I.un (h':=s.heap) (t':=t) Un.refl I.hok
theorem Inv.kept{t':Nat}(I:Inv X aA σ H s)(k:∀b u,s.heap.get? b=some u→h'.get? b=some u):Inv X aA σ H { s with heap:=h',toks:=t' }:=I.un (Un.kept k) (I.hok.kept k)
theorem Inv.laid{a:Addr}{o:HO}{t':Nat}(I:Inv X aA σ H s)(k:∀b u,s.heap.get? b=some u→h'.get? b=some u)(hp:s.heap.objs.size≤a)(new:Bl X.prog X.w (upd H a o) h' a o) :
  Inv X aA σ (upd H a o) { s with heap:=h',toks:=t' }:=I.un (Un.laid k hp (I.hok.fresh hp)) (I.hok.laid k hp new)
theorem Inv.write{x e:Addr}{o:HO}{t':Nat}(I:Inv X aA σ H s)(mu:Mut (H x))(he:e=x∨H e=some (.own x))(k:∀b u,b≠e→s.heap.get? b=some u→h'.get? b=some u)(heo:∃u,h'.get? e=some u)
  (new:Bl X.prog X.w (upd H x o) h' x o):Inv X aA σ (upd H x o) { s with heap:=h',toks:=t' }:=I.un (Un.write mu he k heo) (I.hok.write mu he k heo new)
theorem Inv.weak{σ':List (Option V)}(I:Inv X aA σ H s)(hl:σ'.length=σ.length)(w:∀(i:Nat) v,σ'[i]?=some (some v)→σ[i]?=some (some v)):Inv X aA σ' H s :=
 ⟨I.ok,I.os,I.bare,I.base,let ⟨m,hn,hl'⟩:=I.loc;⟨m,hn,fun i x v e1 e2 e3=>hl' i x v e1 (w i v e2) e3⟩,I.cell,I.free,I.freeC,I.pin,I.hok,hl.trans I.len⟩
theorem Inv.pins_of{pins':List (Addr×Obj)}(I:Inv X aA σ H s)(h:∀p∈pins',s.heap.get? p.1=some p.2∧H p.1=none∧p.1≠X.env.locals∧p.1∉X.fs∧∀v,p.2.data≠.cell v):Inv X pins' σ H s :=
 ⟨I.ok,I.os,I.bare,I.base,I.loc,I.cell,I.free,I.freeC,fun p hp=>(List.mem_append.mp hp).elim (fun z=>I.pin p (List.mem_append_left _ z)) (h p),I.hok,I.len⟩
theorem Ml{N:List Str}(hN:N.Nodup){i j:Nat}{x:Str}(a:N[i]?=some x)(b:N[j]?=some x):i=j:=by
 obtain ⟨h1,e1⟩:=List.getElem?_eq_some_iff.mp a
 obtain ⟨h2,e2⟩:=List.getElem?_eq_some_iff.mp b
 exact (List.getElem_inj hN).mp (e1.trans e2.symm)
theorem Vp{M:Model}{A:Around}{E:Value→Shared→Prop}{i:Nat}{x:Str}{v:V}{u:Value}{Q:Unit→Shared→Prop}(I:Inv X aA σ H s)(hN:X.N.Nodup)(hi:X.N[i]?=some x)(hx:Loc X.env.scope x)(r:Bb v u)
  (h:∀s',Inv X aA (σ.set i (some v)) H s'→(∃a,Heap.SameBut a s.heap s'.heap∧(a=X.env.locals∨X.env.cells.lookup x=some a))→Q () s') (hf:X.fn x=true∨X.env.scope.names.lookup x=some .local:=by first | exact .inl rfl | exact .inr rfl | assumption):wpAny M A (storeName X.env x u) Q E s:=by
 obtain ⟨m,hn,hl⟩:=id I.loc
 have hcls:(X.env.scope.kind==.class || (X.env.scope.kind==.module&&X.env.locals != X.env.globals))=false:=by rw [I.ok.kind];rfl
 have hiσ:i<σ.length:=by rw [I.len];exact (List.getElem?_eq_some_iff.mp hi).1
 have cne:=I.cne
 have tracked:∀{a:Addr} {h':Heap},(∃o,s.heap.get? a=some o∧H a=none)→Heap.SameBut a s.heap h'→HOk X.prog X.w H h':=fun {a h'} ha hs b ob e=>by
  obtain ⟨_,_,hfree⟩:=ha
  refine (I.hok b ob e).stay (fun c w' hc q=>(hs.2 c ?_).trans q) (fun _ q=>q) fun _ _ q=>q
  rintro rfl
  rcases hc with rfl | hc
  ·rw [hfree] at e;cases e
  ·rw [hfree] at hc;cases hc
 rcases hx with hk | hk
 ·refine wpAny_storeName_local hk hn (fun h' hn' hs=>?_) hcls
  obtain ⟨oL,_,_,hoL,_⟩:=id hn
  refine h _ ⟨I.ok,I.os,I.bare,⟨fun b o e n hb hx=>?_,fun b o e n hb hx=>?_,I.base.free,fun b o e hx=>?_,I.base.tups,I.base.frzs,I.base.tbls⟩,⟨_,hn',fun j y v' e1 e2 e3=>?_⟩,fun y c e=>?_,I.free,I.freeC,fun p hp=>?_,tracked ⟨oL,hoL,I.free⟩ hs,by simpa using I.len⟩ ⟨_,hs,.inl rfl⟩
  ·exact (hs.2 b (Nat.ne_of_lt (Nat.lt_of_lt_of_le (Heap.lt_size e) I.ok.above))).trans (I.base.keep b o e n hb hx)
  ·obtain ⟨sl,e1⟩:=I.base.slot b o e n hb hx
   exact ⟨sl,(hs.2 b (Nat.ne_of_lt (Nat.lt_of_lt_of_le (Heap.lt_size e) I.ok.above))).trans e1⟩
  ·obtain ⟨o',e1⟩:=I.base.there b o e hx
   exact ⟨o',(hs.2 b (Nat.ne_of_lt (Nat.lt_of_lt_of_le (Heap.lt_size e) I.ok.above))).trans e1⟩
  ·by_cases hj:j=i
   ·subst hj
    rw [hi] at e1;cases e1
    rw [List.getElem?_set_self hiσ] at e2
    cases e2
    exact ⟨u,r,.inl ⟨hk,by simp⟩⟩
   ·rw [List.getElem?_set_ne (Ne.symm hj)] at e2
    obtain ⟨u',r',q⟩:=hl j y v' e1 e2 e3
    refine ⟨u',r',?_⟩
    rcases q with ⟨k,e⟩ | ⟨k,c,e,z⟩
    ·refine .inl ⟨k,?_⟩
     have:y≠x:=fun e=>hj (Ml hN e1 (e ▸ hi))
     simp [this,e]
    ·exact .inr ⟨k,c,e,z.sameBut hs (cne y c e)⟩
  ·obtain ⟨w',z⟩:=I.cell y c e
   exact ⟨w',z.sameBut hs (cne y c e)⟩
  ·obtain ⟨e,n,ne,nf,d⟩:=I.pin p hp
   exact ⟨(hs.2 p.1 ne).trans e,n,ne,nf,d⟩
 ·have hfn:X.fn x=true:=by
   rcases hf with z | z
   ·exact z
   ·rw [z] at hk;cases hk
  obtain ⟨c,hc⟩:=I.ok.has x (.inl hk)
  obtain ⟨w',z⟩:=I.cell x c hc
  refine wpAny_storeName_cell I.ok.kind hk hc z (fun h' hc' hs=>?_)
  obtain ⟨oc,hoc,hocd⟩:=id z
  refine h { s with heap:=h' } ⟨I.ok,I.os,I.bare,⟨fun b o e n hb hx=>?_,fun b o e n hb hx=>?_,I.base.free,fun b o e hx=>?_,I.base.tups,I.base.frzs,I.base.tbls⟩,⟨m,hn.sameBut hs (Ne.symm (cne x c hc)),fun j y v' e1 e2 e3=>?_⟩,fun y c' e=>?_,I.free,I.freeC,fun p hp=>?_,tracked ⟨oc,hoc,I.freeC x c hc⟩ hs,by simpa using I.len⟩ ⟨c,hs,.inr hc⟩
  ·exact (hs.2 b (Nat.ne_of_lt (Nat.lt_of_lt_of_le (Heap.lt_size e) (I.ok.cab x c hfn hc)))).trans (I.base.keep b o e n hb hx)
  ·obtain ⟨sl,e1⟩:=I.base.slot b o e n hb hx
   exact ⟨sl,(hs.2 b (Nat.ne_of_lt (Nat.lt_of_lt_of_le (Heap.lt_size e) (I.ok.cab x c hfn hc)))).trans e1⟩
  ·obtain ⟨o',e1⟩:=I.base.there b o e hx
   exact ⟨o',(hs.2 b (Nat.ne_of_lt (Nat.lt_of_lt_of_le (Heap.lt_size e) (I.ok.cab x c hfn hc)))).trans e1⟩
  ·by_cases hj:j=i
   ·subst hj
    rw [hi] at e1;cases e1
    rw [List.getElem?_set_self hiσ] at e2
    cases e2
    exact ⟨u,r,.inr ⟨.inl hk,c,hc,hc'⟩⟩
   ·rw [List.getElem?_set_ne (Ne.symm hj)] at e2
    obtain ⟨u',r',q⟩:=hl j y v' e1 e2 e3
    refine ⟨u',r',?_⟩
    rcases q with q | ⟨k,c',e,z'⟩
    ·exact .inl q
    ·refine .inr ⟨k,c',e,z'.sameBut hs ?_⟩
     rintro rfl
     exact hj (Ml hN e1 (I.ok.inj _ _ _ e hc ▸ hi))
  ·by_cases hcc:c'=c
   ·subst hcc;exact ⟨_,hc'⟩
   ·obtain ⟨w2,z2⟩:=I.cell y c' e
    exact ⟨w2,z2.sameBut hs hcc⟩
  ·obtain ⟨e,n,ne,nf,d⟩:=I.pin p hp
   refine ⟨(hs.2 p.1 ?_).trans e,n,ne,nf,d⟩
   intro q
   rw [q,hoc] at e
   have q':oc=p.2:=Option.some.inj e
   exact d w' (by rw [←q'];exact hocd)
theorem Hw{M:Model}{A:Around}{E:Value→Shared→Prop}{i:Nat}{x:Str}{v:V}{u:Value}{Q:Unit→Shared→Prop}(I:Inv X aA σ H s)(hN:X.N.Nodup)(hi:X.N[i]?=some x)(hx:Loc X.env.scope x)(r:Bb v u)
  (h:∀s',Inv X aA (σ.set i (some v)) H s'→Q () s') (hf:X.fn x=true∨X.env.scope.names.lookup x=some .local:=by first | exact .inl rfl | exact .inr rfl | assumption):wpAny M A (storeName X.env x u) Q E s :=
 Vp I hN hi hx r (fun s' I' _=>h s' I') hf
theorem Inv.call'{s':Shared}{ch:List Addr}(I:Inv X aA σ H s)(ho:s'.os=s.os)(u:Un (frs X.stack) ch H H' s.heap s'.heap)(hok:HOk X.prog X.w H' s'.heap)(hg:AllBare s'.gens)
  (hch:∀b∈ch,(b∈X.ex∨X.s₀.heap.objs.size≤b)∧b≠X.env.locals∧(∀x c,X.env.cells.lookup x=some c→c≠b)∧∀p∈X.pn++aA,p.1≠b):Inv X aA σ H' s':=by
 obtain ⟨h',g',d',t',o'⟩:=s'
 have e:o'=s.os:=ho
 subst e
 exact I.call (g':=g') (t':=t') (d':=d') u hok hg hch
end
abbrev XK:=Value→Option Addr→Hp→Prop
abbrev St:=List (Option V)
abbrev VK:=V→Hp→Prop
abbrev TE:=St→Hp→VK→Prop
abbrev TT:=St→Hp→(Bool→Hp→Prop)→Prop
abbrev TA:=St→Hp→(List V→Hp→Prop)→Prop
structure K1 where
 nx:St→Hp→Prop
 rt:VK
 bk:St→Hp→Prop:=fun _ _=>False
 ct:St→Hp→Prop:=fun _ _=>False
abbrev TS:=K1→St→Hp→Prop
def EP(X:Cx)(aA:List (Addr×Obj))(σ:St)(Q:VK)(u:Value)(s':Shared):Prop:=∃v H',Inv X aA σ H' s'∧Bb v u∧Q v H'
def TP(X:Cx)(aA:List (Addr×Obj))(σ:St)(Q:Bool→Hp→Prop)(b:Bool)(s':Shared):Prop:=∃H',Inv X aA σ H' s'∧Q b H'
def AP(X:Cx)(aA:List (Addr×Obj))(σ:St)(Q:List V→Hp→Prop)(us:List Value)(s':Shared):Prop:=∃vs H',Inv X aA σ H' s'∧BW vs us∧Q vs H'
def SP(X:Cx)(aA:List (Addr×Obj))(D:K1)(f:Flow)(s':Shared):Prop :=
 match f with
 | .next=>∃σ' H',Inv X aA σ' H' s'∧D.nx σ' H'
 | .brk=>∃σ' H',Inv X aA σ' H' s'∧D.bk σ' H'
 | .cont=>∃σ' H',Inv X aA σ' H' s'∧D.ct σ' H'
 | .ret u=>∃v σ' H',Inv X aA σ' H' s'∧Bb v u∧D.rt v H'
def PE(X:Cx)(e:Expr)(t:TE):Prop :=
 ∀(aA:List (Addr×Obj)) (s:Shared) (σ:St) (H:Hp) (Q:VK),Inv X aA σ H s→t σ H Q→wpAny (model X.prog X.w) X.A (eval e X.env) (EP X aA σ Q) X.xe s
def PT(X:Cx)(e:Expr)(t:TT):Prop :=
 ∀(aA:List (Addr×Obj)) (s:Shared) (σ:St) (H:Hp) (Q:Bool→Hp→Prop),Inv X aA σ H s→t σ H Q→wpAny (model X.prog X.w) X.A (isTrue e X.env (eval e X.env)) (TP X aA σ Q) X.xe s
def PW(X:Cx)(e:Expr)(t:TT):Prop :=
 ∀(whole:Sem Value) (aA:List (Addr×Obj)) (s:Shared) (σ:St) (H:Hp) (Q:Bool→Hp→Prop),Inv X aA σ H s→t σ H Q→wpAny (model X.prog X.w) X.A (isTrue e X.env whole) (TP X aA σ Q) X.xe s
theorem PW.pt{X:Cx}{e:Expr}{t:TT}(h:PW X e t):PT X e t:=h _
def PA(X:Cx)(es:List Expr)(t:TA):Prop :=
 ∀(pos:Pos) (aA:List (Addr×Obj)) (s:Shared) (σ:St) (H:Hp) (Q:List V→Hp→Prop),Inv X aA σ H s→t σ H Q→wpAny (model X.prog X.w) X.A (spliced (backTo pos (starEach es X.env))) (AP X aA σ Q) X.xe s
def PS(X:Cx)(st:Stmt)(t:TS):Prop :=
 ∀(aA:List (Addr×Obj)) (s:Shared) (σ:St) (H:Hp) (D:K1),Inv X aA σ H s→t D σ H→wpAny (model X.prog X.w) X.A (exec st X.env) (SP X aA D) X.xe s
def PSs(X:Cx)(st:List Stmt)(t:TS):Prop :=
 ∀(aA:List (Addr×Obj)) (s:Shared) (σ:St) (H:Hp) (D:K1),Inv X aA σ H s→t D σ H→wpAny (model X.prog X.w) X.A (execs st X.env) (SP X aA D) X.xe s
theorem thn{α:Type}{t:Sem α}{Q Q':α→Shared→Prop}{M:Model}{A:Around}{E:Value→Shared→Prop}{s:Shared}(h:wpAny M A t Q E s)(hQ:∀a s,Q a s→Q' a s):wpAny M A t Q' E s:=wpAny_mono h hQ fun _ _ x=>x
end L2
namespace L2
open PySem PySem.Spec PyProof.Rows
section
variable {X:Cx}
def ACn(i:Nat):TE:=fun σ H Q=>∃v,σ[i]?=some (some v)∧Q v H
def tC(v:V):TE:=fun _ H Q=>Q v H
theorem ABm{i:Nat}{x:Str}{pos:Pos}(hN:X.N[i]?=some x)(hv:Vis X.env.scope x)(hd:(x==("__debug__":Str))=false:=by decide)(hcd:(x==("__classdict__":Str))=false:=by decide):PE X (.Name x pos) (ACn i):=by
 intro aA s σ H Q I h
 obtain ⟨v,e,h⟩:=h
 obtain ⟨m,hn,hl⟩:=I.loc
 obtain ⟨u,r,l⟩:=hl i x v hN e hv
 have fin:EP X aA σ Q u s:=⟨v,H,I,r,h⟩
 rcases l with ⟨hk,hm⟩ | ⟨hk,c,hc,hcell⟩
 ·exact wpAny_Name (wpAny_loadName_local I.ok.kind hk hn hm fin) hd
 ·rcases hk with hk | hk
  ·exact wpAny_Name (wpAny_loadName_cell I.ok.kind hk hc hcell fin) hd
  ·exact wpAny_Name (wpAny_loadName_free I.ok.kind hk hc hcell fin hcd) hd
theorem Af{i j pos}:PE X (.Constant (.int i) j pos) (tC (.int i)):=fun _ _ _ H _ I h=>wpAny_Constant_int ⟨.int i,H,I.tok _,⟨_,rfl⟩,h⟩
theorem Jo{b j pos}:PE X (.Constant (.bool b) j pos) (tC (.bl b)):=fun _ _ _ H _ I h=>Constant_bool ⟨.bl b,H,I,rfl,h⟩
theorem Gp{j pos}:PE X (.Constant .none j pos) (tC .non):=fun _ _ _ H _ I h=>Constant_none ⟨.non,H,I,rfl,h⟩
theorem Aq{x j pos}:PE X (.Constant (.str x) j pos) (tC (.str x)):=fun _ _ _ H _ I h=>Calls.Constant_str ⟨.str x,H,I.tok _,⟨_,rfl⟩,h⟩
def Gl(X:Cx)(x:Str):Prop:=X.env.kindOf x=some .globalImplicit
theorem Ha{E:Value→Shared→Prop}{aA:List (Addr×Obj)}{s:Shared}{σ:St}{H:Hp}{x:Str}{u:Value}{pos:Pos}{Q:Value→Shared→Prop}(I:Inv X aA σ H s)(hg:Gl X x)(hm:X.mg x=some u)(h:Q u s)
  (hd:(x==("__debug__":Str))=false:=by decide):wpAny (model X.prog X.w) X.A (eval (.Name x pos) X.env) Q E s :=
 Calls.Name_function_global I.ok.kind hg (Calls.loadGlobal_global (by rw [I.ok.glob];exact I.mod.glob.keeps I.bk) hm h) hd
theorem HR{E:Value→Shared→Prop}{aA:List (Addr×Obj)}{s:Shared}{σ:St}{H:Hp}{x:Str}{u:Value}{pos:Pos}{Q:Value→Shared→Prop}(I:Inv X aA σ H s)(hg:Gl X x)(hm:X.mg x=none)(hv:bootBuiltins x=some u)(h:Q u s)
  (hn:x≠"__name__":=by decide) (hd:(x==("__debug__":Str))=false:=by decide):wpAny (model X.prog X.w) X.A (eval (.Name x pos) X.env) Q E s:=by
 obtain ⟨mb,h1,h2⟩:=I.mod.blt
 exact Calls.Name_function_global I.ok.kind hg (Calls.loadGlobal_builtin (by rw [I.ok.glob];exact I.mod.glob.keeps I.bk) hm (by rw [I.ok.blt];exact h1.keeps I.bk) ((h2 x hn).trans hv) h) hd
theorem Et{x:Str}{v:V}{u:Value}{pos:Pos}(hg:Gl X x)(hm:X.mg x=some u)(r:Bb v u)(hd:(x==("__debug__":Str))=false:=by decide):PE X (.Name x pos) (tC v) :=
 fun _ _ _ H _ I h=>Ha I hg hm ⟨v,H,I,r,h⟩ hd
theorem HY{x:Str}{v:V}{u:Value}{pos:Pos}(hg:Gl X x)(hm:X.mg x=none)(hv:bootBuiltins x=some u)(r:Bb v u)(hn:x≠"__name__":=by decide)(hd:(x==("__debug__":Str))=false:=by decide):PE X (.Name x pos) (tC v) :=
 fun _ _ _ H _ I h=>HR I hg hm hv ⟨v,H,I,r,h⟩ hn hd
def t2I(ta tb:TE)(k:Int→Int→Hp→Prop):St→Hp→Prop:=fun σ H=>ta σ H fun x H1=>tb σ H1 fun y H2=>∃i j,x=.int i∧y=.int j∧k i j H2
def AKI(ta tb:TE):TE:=fun σ H Q=>t2I ta tb (fun i j H2=>Q (.int (i+j)) H2) σ H
def AKh(ta tb:TE):TE:=fun σ H Q=>t2I ta tb (fun i j H2=>Q (.int (i-j)) H2) σ H
def AKk(ta tb:TE):TE:=fun σ H Q=>t2I ta tb (fun i j H2=>(-(2^64)<i∧i<2^64)∧Q (.int (i*j)) H2) σ H
variable {a b:Expr}{ta tb:TE}{pos:Pos}
def PC(X:Cx)(op:CmpOp)(a b:Expr)(t:TE):Prop :=
 ∀(aA:List (Addr×Obj)) (s:Shared) (σ:St) (H:Hp) (Q:VK),Inv X aA σ H s→t σ H Q →
  wpAny (model X.prog X.w) X.A (eval a X.env) (fun v s₁=>wpAny (model X.prog X.w) X.A (eval b X.env) (fun u s₂=>wpAny (model X.prog X.w) X.A (compareOp op v u) (EP X aA σ Q) X.xe s₂) X.xe s₁) X.xe s
def WL(p:Int→Int→Bool)(ta tb:TE):TE:=fun σ H Q=>t2I ta tb (fun i j H2=>Q (.bl (p i j)) H2) σ H
abbrev tLt:TE→TE→TE:=WL fun i j=>decide (i<j)
abbrev tLe:TE→TE→TE:=WL fun i j=>decide (i≤j)
abbrev tGt:TE→TE→TE:=WL fun i j=>decide (j<i)
abbrev tGe:TE→TE→TE:=WL fun i j=>decide (j≤i)
abbrev AKU:TE→TE→TE:=WL fun i j=>decide (i=j)
abbrev AKL:TE→TE→TE:=WL fun i j=>!decide (i=j)
def AKl(ta:TE):TE:=fun σ H Q=>ta σ H fun x H1=>Q (.bl (decide (x=.non))) H1
def AJ2(ta:TE):TE:=fun σ H Q=>ta σ H fun x H1=>Q (.bl (!decide (x=.non))) H1
def tB(t:TE):TT:=fun σ H Q=>t σ H fun x H1=>∃c,x=.bl c∧Q c H1
theorem Hg{op:CmpOp}{t:TE}(h:PC X op a b t)(h1:behindInMarks op b=false:=by first | exact nobehind _ (by decide) (by decide) | rfl):PT X (.Compare a [op] [b] pos) (tB t):=by
 intro aA s σ H Q I hw
 refine wpAny_isTrue_Compare1 (thn (h aA s σ H _ I hw) fun v s1 h1=>thn h1 fun u s2 h2=>thn h2 fun c s3 ⟨x,H1,I1,r1,q1⟩=>?_) h1
 obtain ⟨d,rfl,q⟩:=q1
 cases r1
 exact wpAny_truthy_bool ⟨H1,I1,q⟩
theorem Cz{e:Expr}{t:TE}(h:PE X e t)(he:∀whole,isTrue e X.env whole=(do let v ←whole;standAt e.pos;holding [v] (truthy v)):=by intro _;rfl):PT X e (tB t):=by
 intro aA s σ H Q I hw
 refine isTrue_plain (thn (h aA s σ H _ I hw) fun v s1 ⟨x,H1,I1,r1,q1⟩=>?_) (he _)
 obtain ⟨d,rfl,q⟩:=q1
 cases r1
 exact wpAny_truthy_bool ⟨H1,I1,q⟩
variable {tA tB':TT}{Bh:List Expr}
def AI6(t u:TT):TT:=fun σ H Q=>t σ H fun c H1=>if c=true then u σ H1 Q else Q false H1
def tOr(t u:TT):TT:=fun σ H Q=>t σ H fun c H1=>if c=true then Q true H1 else u σ H1 Q
def AJF(t:TT):TT:=fun σ H Q=>t σ H fun c H1=>Q (!c) H1
theorem VG(ha:PT X a tA):PW X (.BoolOp .And [a] pos) tA:=by
 intro wh aA s σ H Q I h
 refine isTrue_and (thn (ha aA s σ H Q I h) fun c s1 e=>?_)
 cases c with
 | true=>exact isTrue_and_nil e
 | false=>exact e
theorem Dw(ha:PT X a tA):PW X (.BoolOp .Or [a] pos) tA:=by
 intro wh aA s σ H Q I h
 refine isTrue_or (thn (ha aA s σ H Q I h) fun c s1 e=>?_)
 cases c with
 | false=>exact isTrue_or_nil e
 | true=>exact e
theorem Xo(ha:PT X a tA)(hb:PW X (.BoolOp .And (b::Bh) pos) tB'):PW X (.BoolOp .And (a::b::Bh) pos) (AI6 tA tB'):=by
 intro wh aA s σ H Q I h
 refine isTrue_and (thn (ha aA s σ H _ I h) fun c s1 ⟨H1,I1,q1⟩=>?_)
 cases c with
 | true=>exact hb wh aA s1 σ H1 Q I1 q1
 | false=>exact ⟨H1,I1,q1⟩
theorem GQ(ha:PT X a tA)(hb:PW X (.BoolOp .Or (b::Bh) pos) tB'):PW X (.BoolOp .Or (a::b::Bh) pos) (tOr tA tB'):=by
 intro wh aA s σ H Q I h
 refine isTrue_or (thn (ha aA s σ H _ I h) fun c s1 ⟨H1,I1,q1⟩=>?_)
 cases c with
 | true=>exact ⟨H1,I1,q1⟩
 | false=>exact hb wh aA s1 σ H1 Q I1 q1
theorem Di(ha:PT X a tA):PT X (.UnaryOp .Not a pos) (AJF tA):=by
 intro aA s σ H Q I h
 exact isTrue_not (ha aA s σ H (fun c H1=>Q (!c) H1) I h)
def ADt(ta tb:TE):TE:=fun σ H Q=>ta σ H fun x H1=>∃c,x=.bl c∧if c=true then tb σ H1 Q else Q (.bl false) H1
def AKX(ta tb:TE):TE:=fun σ H Q=>ta σ H fun x H1=>∃c,x=.bl c∧if c=true then Q (.bl true) H1 else tb σ H1 Q
def AFV(ta:TE):TE:=fun σ H Q=>ta σ H fun x H1=>∃c,x=.bl c∧Q (.bl (!c)) H1
theorem Tz{op}{t:TE}(h:PE X a t):PE X (.BoolOp op [a] pos) t:=fun aA s σ H Q I hw=>BoolOp_one (h aA s σ H Q I hw)
theorem Ur(ha:PE X a ta)(hb:PE X (.BoolOp .And (b::Bh) pos) tb):PE X (.BoolOp .And (a::b::Bh) pos) (ADt ta tb):=by
 intro aA s σ H Q I h
 refine BoolOp_and (thn (ha aA s σ H _ I h) fun v s1 ⟨x,H1,I1,r1,q1⟩=>?_)
 obtain ⟨c,rfl,q1⟩:=q1
 cases r1
 refine wpAny_truthy_bool ?_
 cases c with
 | true=>exact hb aA s1 σ H1 Q I1 q1
 | false=>exact ⟨.bl false,H1,I1,rfl,q1⟩
theorem ABl(ha:PE X a ta):PE X (.UnaryOp .Not a pos) (AFV ta):=by
 intro aA s σ H Q I h
 refine UnaryOp_ (thn (ha aA s σ H _ I h) fun v s1 ⟨x,H1,I1,r1,q1⟩=>?_)
 obtain ⟨c,rfl,q1⟩:=q1
 cases r1
 exact not_of (wpAny_truthy_bool ⟨.bl (!c),H1,I1,rfl,q1⟩)
def tIf(t:TT)(ta tb:TE):TE:=fun σ H Q=>t σ H fun c H1=>if c=true then ta σ H1 Q else tb σ H1 Q
theorem SQ{c:Expr}(hc:PT X c tA)(ha:PE X a ta)(hb:PE X b tb):PE X (.IfExp c a b pos) (tIf tA ta tb):=by
 intro aA s σ H Q I h
 refine wpAny_IfExp (thn (hc aA s σ H _ I h) fun d s1 ⟨H1,I1,q1⟩=>?_)
 cases d with
 | true=>exact ha aA s1 σ H1 Q I1 q1
 | false=>exact hb aA s1 σ H1 Q I1 q1
end
end L2
namespace L2
open PySem PySem.Spec PyProof.Rows
def SqL(K:PySem.W.Frag)(H:Hp)(a:Addr)(xs:List V):Prop :=
 Rd H a (.lst xs) ∨
  ∃(o:Obj) (its:Array Value) (n:Nat),K.lookup a=some o∧o.cls=.type "list"∧o.dict=none∧o.data=.seq its n∧its.size≤sizeLine∧BW xs its.toList
def SqT(K:PySem.W.Frag)(H:Hp)(a:Addr)(xs:List V):Prop :=
 Rd H a (.tup xs) ∨
  ∃(o:Obj) (its:Array Value) (n:Nat),K.lookup a=some o∧o.cls=.type "tuple"∧o.data=.seq its n∧its.size≤sizeLine∧BW xs its.toList
def AI8:Value→Option V
 | .none=>some .non
 | .bool b=>some (.bl b)
 | .int i _=>some (.int i)
 | .str x _=>some (.str x)
 | .bytes b _=>some (.byt b)
 | .float b _=>some (.flt b)
 | .ref a=>some (.ref a)
 | .type n=>some (.ty n)
 | _=>none
theorem Bb.abs{x:V}{u:Value}(r:Bb x u):AI8 u=some x:=by
 cases x with
 | non=>cases r;rfl
 | bl _=>cases r;rfl
 | int _=>obtain ⟨t,rfl⟩:=r;rfl
 | str _=>obtain ⟨t,rfl⟩:=r;rfl
 | byt _=>obtain ⟨t,rfl⟩:=r;rfl
 | flt _=>obtain ⟨t,rfl⟩:=r;rfl
 | ref _=>cases r;rfl
 | ty _=>cases r;rfl
theorem Bb.inj{x y:V}{u:Value}(r:Bb x u)(q:Bb y u):x=y:=Option.some.inj (r.abs.symm.trans q.abs)
theorem BW.inj:∀{xs ys:List V} {us:List Value},BW xs us→BW ys us→xs=ys
 | _,_,_,.nil,.nil=>rfl
 | _,_,_,.cons r t,.cons r' t'=>by rw [r.inj r',BW.inj t t']
section
variable {X:Cx}{aA:List (Addr×Obj)}{σ:St}{H:Hp}{s:Shared}{a:Addr}{xs ys:List V}
theorem SqL.of{K:PySem.W.Frag}(h:H a=some (.lst xs)):SqL K H a xs:=.inl (.inl h)
theorem SqT.of{K:PySem.W.Frag}(h:H a=some (.tup xs)):SqT K H a xs:=.inl (.inl h)
theorem Inv.list(I:Inv X aA σ H s)(h:SqL X.K H a xs):∃its:List Value,BW xs its∧PlainL s.heap a its.toArray∧xs.length≤sizeLine:=by
 rcases h with h | ⟨o,its,n,hk,hc,hd,hs,hz,r⟩
 ·obtain ⟨z,its,n,r,e⟩:=h.ok I.hok
  exact ⟨its,r,⟨_,n,e,rfl,rfl,rfl⟩,z⟩
 ·refine ⟨its.toList,r,⟨o,n,I.kIn a o hk,hc,hd,by simpa using hs⟩,?_⟩
  have e:=r.length
  simp only [Array.length_toList] at e
  omega
theorem Inv.tuple(I:Inv X aA σ H s)(h:SqT X.K H a xs):∃its:List Value,BW xs its∧IsTup s.heap a its.toArray∧xs.length≤sizeLine:=by
 rcases h with h | ⟨o,its,n,hk,hc,hs,hz,r⟩
 ·obtain ⟨z,its,r,p⟩:=h.ok I.hok
  exact ⟨its,r,p,z⟩
 ·refine ⟨its.toList,r,⟨o,I.kIn a o hk,hc,n,by simpa using hs⟩,?_⟩
  have e:=r.length
  simp only [Array.length_toList] at e
  omega
theorem Inv.list_inj(I:Inv X aA σ H s)(h:SqL X.K H a xs)(h':SqL X.K H a ys):xs=ys:=by
 obtain ⟨its,r,⟨o,n,e,_,_,d⟩,_⟩:=I.list h
 obtain ⟨its',r',⟨o',n',e',_,_,d'⟩,_⟩:=I.list h'
 rw [e] at e';cases e'
 rw [d] at d'
 injection d' with d1 _
 have:its=its':=by simpa using congrArg Array.toList d1
 subst this
 exact r.inj r'
theorem Inv.tuple_inj(I:Inv X aA σ H s)(h:SqT X.K H a xs)(h':SqT X.K H a ys):xs=ys:=by
 obtain ⟨its,r,⟨o,e,_,n,d⟩,_⟩:=I.tuple h
 obtain ⟨its',r',⟨o',e',_,n',d'⟩,_⟩:=I.tuple h'
 rw [e] at e';cases e'
 rw [d] at d'
 injection d' with d1 _
 have:its=its':=by simpa using congrArg Array.toList d1
 subst this
 exact r.inj r'
end
abbrev Cx.wish(X:Cx)(E:Value→Shared→Prop):Cx:={ X with xe:=E }
abbrev Cx.nox(X:Cx):Cx:=X.wish fun _ _=>False
theorem Cx.Ok.wish{X:Cx}(ok:X.Ok)(E:Value→Shared→Prop):(X.wish E).Ok :=
 ⟨ok.mod,ok.kind,ok.glob,ok.blt,ok.above,ok.inj,ok.has,ok.cab,ok.hd,ok.frames,ok.stk,ok.exf,ok.bs,ok.bsz,ok.noex,ok.exfs,ok.funs,ok.frf⟩
theorem Cx.Ok.unwish{X:Cx}{E:Value→Shared→Prop}(ok:(X.wish E).Ok):X.Ok :=
 ⟨ok.mod,ok.kind,ok.glob,ok.blt,ok.above,ok.inj,ok.has,ok.cab,ok.hd,ok.frames,ok.stk,ok.exf,ok.bs,ok.bsz,ok.noex,ok.exfs,ok.funs,ok.frf⟩
section
variable {X:Cx}{aA:List (Addr×Obj)}{σ:St}{H:Hp}{s:Shared}{E:Value→Shared→Prop}
theorem Inv.wish(I:Inv X aA σ H s)(E:Value→Shared→Prop):Inv (X.wish E) aA σ H s:=⟨I.ok.wish E,I.os,I.bare,I.base,I.loc,I.cell,I.free,I.freeC,I.pin,I.hok,I.len⟩
theorem Inv.unwish(I:Inv (X.wish E) aA σ H s):Inv X aA σ H s:=⟨I.ok.unwish,I.os,I.bare,I.base,I.loc,I.cell,I.free,I.freeC,I.pin,I.hok,I.len⟩
theorem SP.unwish{D:K1}{f:Flow}{s':Shared}(h:SP (X.wish E) aA D f s'):SP X aA D f s':=by
 cases f with
 | next=>obtain ⟨σ',H',I,q⟩:=h;exact ⟨σ',H',I.unwish,q⟩
 | brk=>obtain ⟨σ',H',I,q⟩:=h;exact ⟨σ',H',I.unwish,q⟩
 | cont=>obtain ⟨σ',H',I,q⟩:=h;exact ⟨σ',H',I.unwish,q⟩
 | ret u=>obtain ⟨v,σ',H',I,r,q⟩:=h;exact ⟨v,σ',H',I.unwish,r,q⟩
theorem PSs.nox{st:List Stmt}{t:TS}(h:PSs X.nox st t):PSs X st t:=fun aA s σ H D I hw =>
 wpAny_mono (h aA s σ H D (I.wish _) hw) (fun _ _ q=>q.unwish) fun _ _ z=>False.elim z
end
section
variable {X:Cx}{st:Stmt}{Bh:List Stmt}{t u:TS}{e:Expr}{te:TE}{pos:Pos}
def AAe:TS:=fun D σ H=>D.nx σ H
def AEw(t u:TS):TS:=fun D σ H=>t { D with nx:=u D } σ H
theorem Am:PSs X [] AAe:=fun _ _ σ H _ I h=>wpAny_execs_nil ⟨σ,H,I,h⟩
theorem Ab(h1:PS X st t)(h2:PSs X Bh u):PSs X (st::Bh) (AEw t u):=by
 intro aA s σ H D I h
 refine wpAny_execs_cons (thn (h1 aA s σ H { D with nx:=u D } I h) fun f s1 q=>?_)
 cases f with
 | next =>
  obtain ⟨σ',H',I',q⟩:=q
  exact h2 aA s1 σ' H' D I' q
 | ret v=>exact q
 | brk=>exact q
 | cont=>exact q
theorem Ah(h1:PS X st t):PSs X [st] t:=by
 intro aA s σ H D I h
 refine wpAny_execs_cons (thn (h1 aA s σ H D I h) fun f s1 q=>?_)
 cases f with
 | next=>exact wpAny_execs_nil q
 | ret v=>exact q
 | brk=>exact q
 | cont=>exact q
def AI2:TS:=fun D σ H=>D.bk σ H
def AJ6:TS:=fun D σ H=>D.ct σ H
theorem Inv.quiet{aA:List (Addr×Obj)}{σ:St}{H:Hp}{s:Shared}(I:Inv X aA σ H s):interactive X.env=false:=by simp [interactive,I.ok.kind]
def AGK(te:TE):TS:=fun D σ H=>te σ H fun _ H1=>D.nx σ H1
theorem Ep(he:PE X e te)(hs:swapsWith e none pos.line X.env=pure false:=by rfl):PS X (.Expr e pos) (AGK te):=by
 intro aA s σ H D I h
 exact wpAny_Expr_any (thn (he aA s σ H _ I h) fun v s1 ⟨x,H1,I1,r1,q1⟩=>⟨σ,H1,I1,q1⟩) I.quiet hs
def AFT(te:TE):TS:=fun D σ H=>te σ H D.rt
theorem Al(he:PE X e te):PS X (.Return (some e) pos) (AFT te):=by
 intro aA s σ H D I h
 exact wpAny_Return_some (thn (he aA s σ H _ I h) fun v s1 ⟨x,H1,I1,r1,q1⟩=>⟨x,σ,H1,I1,r1,q1⟩)
def AJ3:TS:=fun D _ H=>D.rt .non H
def ADu(c:TT)(t u:TS):TS:=fun D σ H=>c σ H fun b H1=>if b=true then t D σ H1 else u D σ H1
theorem BL{c:Expr}{a b:List Stmt}{tc:TT}(hc:PT X c tc)(ha:PSs X a t)(hb:PSs X b u):PS X (.If c a b pos) (ADu tc t u):=by
 intro aA s σ H D I h
 refine wpAny_If (thn (hc aA s σ H _ I h) fun d s1 ⟨H1,I1,q1⟩=>?_)
 cases d with
 | true=>exact ha aA s1 σ H1 D I1 q1
 | false=>exact hb aA s1 σ H1 D I1 q1
def ABY:TS:=fun _ _ _=>False
theorem Be:PS X st ABY:=fun _ _ _ _ _ _ h=>h.elim
end
abbrev TG:=V→St→Hp→(St→Hp→Prop)→Prop
abbrev TGs:=List V→St→Hp→(St→Hp→Prop)→Prop
def PG(X:Cx)(target:Expr)(t:TG):Prop :=
 ∀(aA:List (Addr×Obj)) (s:Shared) (σ:St) (H:Hp) (v:V) (u:Value) (Q:St→Hp→Prop),Inv X aA σ H s→Bb v u→t v σ H Q →
  wpAny (model X.prog X.w) X.A (assign target X.env u) (fun _ s'=>∃σ' H',Inv X aA σ' H' s'∧Q σ' H') X.xe s
def PGs(X:Cx)(ts:List Expr)(t:TGs):Prop :=
 ∀(aA:List (Addr×Obj)) (s:Shared) (σ:St) (H:Hp) (vs:List V) (us:List Value) (Q:St→Hp→Prop),Inv X aA σ H s→BW vs us→t vs σ H Q →
  wpAny (model X.prog X.w) X.A (assignInOrder ((assignEach ts X.env).map (·.2)) us) (fun _ s'=>∃σ' H',Inv X aA σ' H' s'∧Q σ' H') X.xe s
abbrev Yl:=V→V→V→Hp→(Hp→Prop)→Prop
def ACs(X:Cx)(t:Yl):Prop :=
 ∀(aA:List (Addr×Obj)) (s:Shared) (σ:St) (H:Hp) (o i v:V) (ov iv u:Value) (Q:Hp→Prop),Inv X aA σ H s→Bb o ov→Bb i iv→Bb v u→t o i v H Q →
  wpAny (model X.prog X.w) X.A (setItem ov iv u) (fun _ s'=>∃H',Inv X aA σ H' s'∧Q H') X.xe s
abbrev TIp:=V→V→Hp→VK→Prop
def PIp(X:Cx)(op:Operator)(t:TIp):Prop :=
 ∀(aA:List (Addr×Obj)) (s:Shared) (σ:St) (H:Hp) (x y:V) (v u:Value) (Q:VK),Inv X aA σ H s→Bb x v→Bb y u→t x y H Q →
  wpAny (model X.prog X.w) X.A (inplaceOp op v u) (EP X aA σ Q) X.xe s
section
variable {X:Cx}{pos:Pos}
def Iw(i:Nat):TG:=fun v σ H Q=>Q (σ.set i (some v)) H
theorem CZ{i:Nat}{x:Str}(hN:X.N.Nodup)(hi:X.N[i]?=some x)(hx:Loc X.env.scope x)(hf:X.fn x=true∨X.env.scope.names.lookup x=some .local:=by first | exact .inl rfl | exact .inr rfl | assumption):PG X (.Name x pos) (Iw i):=by
 intro aA s σ H v u Q I r h
 exact wpAny_assign_Name (Hw I hN hi hx r (fun s' I'=>⟨_,H,I',h⟩) hf)
def ABu:TGs:=fun vs σ H Q=>vs=[]∧Q σ H
def R0(t:TG)(u:TGs):TGs:=fun vs σ H Q=>∃v r,vs=v::r∧t v σ H fun σ' H'=>u r σ' H' Q
theorem Ie:PGs X [] ABu:=by
 intro aA s σ H vs us Q I r h
 obtain ⟨e,h⟩:=h
 subst e
 cases r
 exact assignInOrder_nil ⟨σ,H,I,h⟩
theorem CT{e:Expr}{es:List Expr}{t:TG}{u:TGs}(h1:PG X e t)(h2:PGs X es u)
  (hs:(assignEach (e::es) X.env).map (·.2)=assign e X.env::(assignEach es X.env).map (·.2):=by rfl):PGs X (e::es) (R0 t u):=by
 intro aA s σ H vs us Q I r h
 obtain ⟨v,vr,e1,h⟩:=h
 subst e1
 cases r with
 | cons r rr =>
  rw [hs]
  refine assignInOrder_cons (thn (h1 aA s σ H _ _ _ I r h) fun _ s1 ⟨σ1,H1,I1,q1⟩=>?_)
  exact h2 aA s1 σ1 H1 _ _ Q I1 rr q1
def ABg(K:PySem.W.Frag)(n:Nat)(t:TGs):TG:=fun v σ H Q=>∃a xs,v=.ref a∧SqT K H a xs∧xs.length=n∧t xs σ H Q
theorem MP{es:List Expr}{k:Nat}{t:TGs}{n:Nat}(hc:X.calm=true)(h:PGs X es t)
  (hn:(assignEach es X.env).length=n:=by rfl) (hst:(assignEach es X.env).findIdx? (·.1)=none:=by rfl):PG X (.Tuple es k pos) (ABg X.K n t):=by
 intro aA s σ H v u Q I r hw
 obtain ⟨a,xs,e1,hq,hl,hw⟩:=hw
 subst e1
 cases r
 obtain ⟨its,rv,ht,hz⟩:=I.tuple hq
 refine assign_Tuple_tuple (I.ok.hd hc) ht (by simp [hn,←hl,rv.length]) hst fun h' hx=>?_
 have I1:Inv X aA σ H { s with heap:=h' }:=I.kept (t':=s.toks) fun b o e=>hx b o (Nat.ne_of_lt (Heap.lt_size e)) e
 exact h aA _ σ H xs _ Q I1 (by simpa using rv) hw
def AJj(to ti:TE)(t:Yl):TG:=fun v σ H Q=>to σ H fun o H1=>ti σ H1 fun i H2=>t o i v H2 fun H3=>Q σ H3
theorem YL{o i:Expr}{to ti:TE}{t:Yl}(ho:PE X o to)(hi:PE X i ti)(hs:ACs X t)
  (ha:∀v,assign (.Subscript o i pos) X.env v=(do
   let ov ←holding [v] (eval o X.env)
   let iv ←holding [v,ov] (eval i X.env)
   standAt pos
   holding [v,ov,iv] (setItem ov iv v)
   release [v,ov,iv] []):=by intro _;rfl):PG X (.Subscript o i pos) (AJj to ti t):=by
 intro aA s σ H v u Q I r h
 rw [ha]
 refine wpAny_bind (wpAny_holding (thn (ho aA s σ H _ I h) fun ov s1 ⟨x,H1,I1,r1,q1⟩=>?_))
 refine wpAny_bind (wpAny_holding (thn (hi aA s1 σ H1 _ I1 q1) fun iv s2 ⟨y,H2,I2,r2,q2⟩=>?_))
 refine wpAny_bind (wpAny_standAt (wpAny_bind (wpAny_holding (thn (hs aA s2 σ H2 x y v ov iv u _ I2 r1 r2 r q2) fun _ s3 ⟨H3,I3,q3⟩=>?_))))
 exact wpAny_release ⟨σ,H3,I3,q3⟩
def ZM(te:TE)(g:TG):TS:=fun D σ H=>te σ H fun x H1=>g x σ H1 D.nx
theorem Jx{tg e:Expr}{te:TE}{g:TG}(he:PE X e te)(hg:PG X tg g)(hs:swapsWithSole [tg] e pos.line X.env=pure false:=by rfl)(hw:swappedStores [tg] e X.env=pure none:=by rfl)
  (h1:(assignEach [tg] X.env).map (·.2)=[assign tg X.env]:=by rfl):PS X (.Assign [tg] e pos) (ZM te g):=by
 intro aA s σ H D I h
 refine wpAny_Assign_stores (thn (he aA s σ H _ I h) fun v s1 ⟨x,H1,I1,r1,q1⟩=>?_) hs hw
 rw [h1]
 exact thn (hg aA s1 σ H1 x v _ I1 r1 q1) fun _ s2 q=>q
theorem Ay{i:Nat}{x:Str}{e:Expr}{te:TE}{pos':Pos}(hN:X.N.Nodup)(hi:X.N[i]?=some x)(hx:Loc X.env.scope x)(he:PE X e te)(hs:swapsWith e (some (.Name x pos')) pos.line X.env=pure false:=by rfl)(hf:X.fn x=true∨X.env.scope.names.lookup x=some .local:=by first | exact .inl rfl | exact .inr rfl | assumption) :
  PS X (.Assign [.Name x pos'] e pos) (ZM te (Iw i)):=by
 intro aA s σ H D I h
 refine wpAny_Assign_Name (thn (he aA s σ H _ I h) fun v s1 ⟨y,H1,I1,r1,q1⟩=>?_) hs
 exact Hw I1 hN hi hx r1 (fun s2 I2=>⟨_,H1,I2,q1⟩) hf
def AKC(i j:Nat)(ta:TA):TS:=fun D σ H=>ta σ H fun vs H1=>∃v w,vs=[v,w]∧D.nx ((σ.set i (some v)).set j (some w)) H1
def AKG(i:Nat)(te:TE)(ti:TIp):TS:=fun D σ H=>∃x,σ[i]?=some (some x)∧te σ H fun y H1=>ti x y H1 fun z H2=>D.nx (σ.set i (some z)) H2
def AJ5(to ti te:TE)(tget:V→V→Hp→VK→Prop)(tip:TIp)(tset:Yl):TS:=fun D σ H=>to σ H fun o H1=>ti σ H1 fun i H2=>tget o i H2 fun x H3=>te σ H3 fun y H4=>tip x y H4 fun z H5=>tset o i z H5 fun H6=>D.nx σ H6
def AKW(X:Cx)(t:V→V→Hp→VK→Prop):Prop :=
 ∀(aA:List (Addr×Obj)) (s:Shared) (σ:St) (H:Hp) (o i:V) (ov iv:Value) (Q:VK),Inv X aA σ H s→Bb o ov→Bb i iv→t o i H Q →
  wpAny (model X.prog X.w) X.A (getItem ov iv) (EP X aA σ Q) X.xe s
def ipI(f:Int→Int→Int):TIp:=fun x y H Q=>∃i j,x=.int i∧y=.int j∧Q (.int (f i j)) H
end
section
variable {X:Cx}{pos:Pos}
def AAu(c:TT)(tb:TS):TS:=fun D σ H=>∃W:Nat→St→Hp→Prop,(∃m,W m σ H)∧∀m σ H,W m σ H →
 c σ H fun b H1=>if b=true then ∃N:St→Hp→Prop,(∀σ' H',N σ' H'→∃m',m'<m∧W m' σ' H')∧tb { D with nx:=N,ct:=N,bk:=D.nx } σ H1 else D.nx σ H1
theorem Rz{c:Expr}{body:List Stmt}{tc:TT}{tb:TS}(hp:PassesOwn (model X.prog X.w) X.A X.env X.xe)(hc:PT X c tc)(hb:PSs X body tb):PS X (.While c body [] pos) (AAu tc tb):=by
 intro aA s σ H D I h
 obtain ⟨W,⟨m0,w0⟩,turn⟩:=h
 refine wpAny_While (codeAny_whileLoop (fun n s'=>∃σ' H',Inv X aA σ' H' s'∧W n σ' H') ?_ m0 ⟨σ,H,I,w0⟩)
 rintro n s1 ⟨σ1,H1,I1,w1⟩
 refine wpAny_passesOwn hp (thn (hc aA s1 σ1 H1 _ I1 (turn n σ1 H1 w1)) fun b s2 ⟨H2,I2,q2⟩=>?_)
 cases b with
 | true =>
  obtain ⟨N,hN,q2⟩:=q2
  rw [if_pos rfl]
  refine wpAny_passesOwn hp (thn (hb aA s2 σ1 H2 _ I2 q2) fun f s3 q3=>?_)
  cases f with
  | next =>
   obtain ⟨σ3,H3,I3,n3⟩:=q3
   obtain ⟨m',hm,w3⟩:=hN σ3 H3 n3
   exact ⟨m',hm,σ3,H3,I3,w3⟩
  | cont =>
   obtain ⟨σ3,H3,I3,n3⟩:=q3
   obtain ⟨m',hm,w3⟩:=hN σ3 H3 n3
   exact ⟨m',hm,σ3,H3,I3,w3⟩
  | brk=>exact q3
  | ret v=>exact q3
 | false =>
  rw [if_neg Bool.false_ne_true]
  exact wpAny_execs_nil ⟨σ1,H2,I2,q2⟩
end
structure It where
 go:Nat→Hp→Prop
 yld:Nat→Hp→V→Hp→Prop
 stop:Nat→Hp→Prop
def Gv(X:Cx)(aA:List (Addr×Obj))(H:Hp)(b:Addr):Prop :=
 H b=none∧b≠X.env.locals∧b∉X.fs∧(b∈X.ex∨X.s₀.heap.objs.size≤b)∧(∀x c,X.env.cells.lookup x=some c→c≠b)∧∀p∈X.pn++aA,p.1≠b
theorem Inv.fpOk{X:Cx}{aA:List (Addr×Obj)}{σ:St}{H H':Hp}{s:Shared}{b:Addr}(I:Inv X aA σ H s)(hb:s.heap.objs.size≤b)(hn:H' b=none):Gv X aA H' b:=by
 refine ⟨hn,Nat.ne_of_gt (Nat.lt_of_lt_of_le I.lt hb),I.nofs hb,.inr (Nat.le_trans I.sz hb),fun x c e z=>?_,fun p hp z=>?_⟩
 ·obtain ⟨v,q⟩:=I.cell x c e
  exact absurd (Nat.lt_of_lt_of_le q.lt (by rw [z];exact hb)) (Nat.lt_irrefl _)
 ·exact absurd (Nat.lt_of_lt_of_le (Heap.lt_size (I.pin p hp).1) (by rw [z];exact hb)) (Nat.lt_irrefl _)
structure Turn(P:Program)(w:World)(K:PySem.W.Frag)(tg:Expr)(J:It)(fp:List Addr)(it:Addr)(tn:Nat→Heap→Prop):Prop where
 mem:it∈fp
 obj:∀i h,tn i h→∀b∈fp,∃o,h.get? b=some o∧∀v,o.data≠.cell v
 keep:∀i h h',tn i h→(∀b∈fp,∀o,h.get? b=some o→h'.get? b=some o)→tn i h'
 item:∀(X:Cx),X.prog=P→X.w=w→X.K=K→X.calm=true→∀(i:Nat) (aA:List (Addr×Obj)) (s:Shared) (σ:St) (H:Hp) (E:Value→Shared→Prop),Inv X aA σ H s→(∀b∈fp,Gv X aA H b)→tn i s.heap→J.go i H →
  wpAny (model P w) X.A (pyNext (.ref it)) (fun r s1=>∃u,r=some u ∧
   wpAny (model P w) X.A (letOwnedTupleGo tg (.ref it) u) (fun _ s2=>∃x H',Inv X aA σ H' s2∧Bb x u∧J.yld i H x H'∧tn (i+1) s2.heap∧∀b∈fp,H' b=none) E s1) E s
 done:∀(X:Cx),X.prog=P→X.w=w→X.K=K→X.calm=true→∀(i:Nat) (aA:List (Addr×Obj)) (s:Shared) (σ:St) (H:Hp) (E:Value→Shared→Prop),Inv X aA σ H s→(∀b∈fp,Gv X aA H b)→tn i s.heap→J.stop i H →
  wpAny (model P w) X.A (pyNext (.ref it)) (fun r s1=>r=none∧Inv X aA σ H s1) E s
 self:∀(A:Around) (i:Nat) (s:Shared) (Q:Value→Shared→Prop) (E:Value→Shared→Prop),tn i s.heap→Q (.ref it) s→wpAny (model P w) A (pyIter (.ref it)) Q E s
abbrev TI:=St→Hp→(It→Hp→Prop)→Prop
def PIE(X:Cx)(aA:List (Addr×Obj))(σ:St)(tg:Expr)(R:It→Hp→Prop)(itv:Value)(s2:Shared):Prop :=
 ∃(it:Addr) (fp:List Addr) (tn:Nat→Heap→Prop) (J:It) (H':Hp),itv=.ref it∧Inv X aA σ H' s2∧Turn X.prog X.w X.K tg J fp it tn∧tn 0 s2.heap∧(∀b∈fp,Gv X aA H' b)∧R J H'
def PI(X:Cx)(tg iter:Expr)(wi:TI):Prop :=
 ∀(aA:List (Addr×Obj)) (s:Shared) (σ:St) (H:Hp) (R:It→Hp→Prop),Inv X aA σ H s→wi σ H R →
  wpAny (model X.prog X.w) X.A (eval iter X.env) (fun v s1=>wpAny (model X.prog X.w) X.A (pyIter v) (PIE X aA σ tg R) X.xe s1) X.xe s
theorem Vh{M:Model}{A:Around}{E:Value→Shared→Prop}{s:Shared}{tg:Expr}{it:Addr}{u:Value}{o:Obj}{n:String}{vs:Array Value}{Q:Unit→Shared→Prop}(ho:s.heap.get? it=some o)(hc:o.cls=.type n)(hd:o.data=.fields vs)
  (hn:["enumerate","zip","dict_itemiterator","dict_reverseitemiterator","odict_iterator","itertools.zip_longest","itertools.pairwise"].contains n=false) (hQ:Q () s):wpAny M A (letOwnedTupleGo tg (.ref it) u) Q E s:=by
 unfold letOwnedTupleGo
 cases tg <;> first
  | exact wpAny_pure hQ
  | (cases u <;> first
    | exact wpAny_pure hQ
    | (refine wpAny_bind (wpAny_load ho ?_)
       rw [hc,hd]
       show wpAny M A (if (["enumerate","zip","dict_itemiterator","dict_reverseitemiterator","odict_iterator","itertools.zip_longest","itertools.pairwise"].contains n&&vs[0]?==some (rawInt _))=true then _ else _) Q E s
       rw [if_neg (by intro h;rw [hn,Bool.false_and] at h;cases h)]
       exact wpAny_pure hQ))
def Itl(K:PySem.W.Frag)(a:Addr):It :=
 ⟨fun i H=>∃xs x,SqL K H a xs∧xs[i]?=some x,fun i H x H'=>H'=H∧∀xs,SqL K H a xs→xs[i]?=some x,fun i H=>∃xs,SqL K H a xs∧xs.length≤i⟩
def Itt(K:PySem.W.Frag)(a:Addr):It :=
 ⟨fun i H=>∃xs x,SqT K H a xs∧xs[i]?=some x,fun i H x H'=>H'=H∧∀xs,SqT K H a xs→xs[i]?=some x,fun i H=>∃xs,SqT K H a xs∧xs.length≤i⟩
def Itr(lo:Int)(n:Nat):It:=⟨fun i _=>i<n,fun i H x H'=>H'=H∧x=.int (lo+i),fun i _=>n≤i⟩
theorem Wq{P:Program}{w:World}{K:PySem.W.Frag}{tg:Expr}(a it:Addr):Turn P w K tg (Itl K a) [it] it (fun i h=>h.IsListIter it a i) where
 mem:=by simp
 obj:=fun i h st b hb=>by
  have e:b=it:=by simpa using hb
  subst e
  obtain ⟨o,e,c,d⟩:=st
  exact ⟨o,e,fun v z=>by rw [d] at z;cases z⟩
 keep:=fun i h h' st k=>st.at fun o e=>k it (by simp) o e
 item:=by
  intro X hP hw hK hc i aA s σ H E I hf st hg
  subst hP hw hK
  obtain ⟨xs,x,hq,hx⟩:=hg
  obtain ⟨its,rv,p,hz⟩:=I.list hq
  obtain ⟨u,hu,ru⟩:=rv.get hx
  obtain ⟨f0,f1,f2,f3,f4,f5⟩:=hf it (by simp)
  refine wpAny_pyNext_list_item st p.isList (x:=u) (by simpa using hu) fun h' st' sb=>?_
  have I1:Inv X aA σ H { s with heap:=h' }:=I.turned (t':=s.toks) (fun b o hb e=>(sb.2 b hb).trans e) f0 f1 f3 f4 f5
  obtain ⟨o,e,c,d⟩:=id st'
  exact ⟨u,rfl,Vh (s:={ s with heap:=h' }) e c d (by decide) ⟨x,H,I1,ru,⟨rfl,fun ys hy=>by rw [I.list_inj hy hq];exact hx⟩,st',fun b hb=>(hf b hb).1⟩⟩
 done:=by
  intro X hP hw hK hc i aA s σ H E I hf st hg
  subst hP hw hK
  obtain ⟨xs,hq,hx⟩:=hg
  obtain ⟨its,rv,p,hz⟩:=I.list hq
  obtain ⟨f0,f1,f2,f3,f4,f5⟩:=hf it (by simp)
  have hl:=rv.length
  exact wpAny_pyNext_list_end (I.ok.hd hc) st p.isList (by simp;omega) fun h' eb=>⟨rfl,I.turned (t':=s.toks) (fun b o hb e=>eb b o hb e) f0 f1 f3 f4 f5⟩
 self:=fun _ _ _ _ _ st h=>wpAny_pyIter_listiter st h
theorem Tp{P:Program}{w:World}{K:PySem.W.Frag}{tg:Expr}(it:Addr)(lo:Int)(n:Nat):Turn P w K tg (Itr lo n) [it] it (fun i h=>IsRangeIter h it (lo+(i:Nat)*1) ((n:Int)-(i:Nat)) 1) where
 mem:=by simp
 obj:=fun i h st b hb=>by
  have e:b=it:=by simpa using hb
  subst e
  exact ⟨_,st,fun v z=>by
   have z':Data.fields _=Data.cell v:=z
   cases z'⟩
 keep:=fun i h h' st k=>k it (by simp) _ st
 item:=by
  intro X hP hw hK hc i aA s σ H E I hf st hg
  subst hP hw hK
  obtain ⟨f0,f1,f2,f3,f4,f5⟩:=hf it (by simp)
  have W:=Walks.range (prog:=X.prog) (w:=X.w) (I.ok.hd hc) it lo 1 n
  refine W.item i s _ _ hg st fun v h' tk hv st' kk=>?_
  obtain ⟨t,rfl⟩:=hv
  have I1:Inv X aA σ H { s with heap:=h',toks:=tk }:=I.turned (fun b o hb e=>kk b o (by simpa using hb) e) f0 f1 f3 f4 f5
  refine ⟨_,rfl,Vh (s:={ s with heap:=h',toks:=tk }) (n:="range_iterator") st' rfl rfl (by decide) ⟨.int (lo+i),H,I1,⟨t,?_⟩,⟨rfl,rfl⟩,st',fun b hb=>(hf b hb).1⟩⟩
  rw [Int.mul_one]
 done:=by
  intro X hP hw hK hc i aA s σ H E I hf st hg
  subst hP hw hK
  obtain ⟨f0,f1,f2,f3,f4,f5⟩:=hf it (by simp)
  exact wpAny_pyNext_range_end (I.ok.hd hc) st (by have:n≤i:=hg;omega) fun h' eb=>⟨rfl,I.turned (t':=s.toks) (fun b o hb e=>eb b o hb e) f0 f1 f3 f4 f5⟩
 self:=fun _ _ _ _ _ st h=>wpAny_pyIter_rangeiter st h
end L2
namespace L2
open PySem PySem.Spec PyProof.Rows
section
variable {X:Cx}{tg:Expr}
def ACz(K:PySem.W.Frag)(tl:TE):TI:=fun σ H R=>tl σ H fun x H1=>∃a,x=.ref a∧(∃xs,SqL K H1 a xs)∧R (Itl K a) H1
def AKO(K:PySem.W.Frag)(tl:TE):TI:=fun σ H R=>tl σ H fun x H1=>∃a,x=.ref a∧(∃xs,SqT K H1 a xs)∧R (Itt K a) H1
theorem IV{l:Expr}{tl:TE}(hl:PE X l tl):PI X tg l (ACz X.K tl):=by
 intro aA s σ H R I h
 refine thn (hl aA s σ H _ I h) fun v s1 ⟨x,H1,I1,r1,q1⟩=>?_
 obtain ⟨a,e,⟨xs,hq⟩,q⟩:=q1
 subst e
 cases r1
 obtain ⟨its,rv,p,hz⟩:=I1.list hq
 refine wpAny_pyIter_list p.isList ?_
 refine ⟨s1.heap.objs.size,[s1.heap.objs.size],_,_,H1,rfl,I1.kept (t':=s1.toks) fun b o e=>Heap.get?_push_of_some _ e,Wq a _,⟨_,Heap.get?_push_size _ rfl,rfl,rfl⟩,fun b hb=>?_,q⟩
 have e:b=s1.heap.objs.size:=by simpa using hb
 subst e
 exact I1.fpOk (Nat.le_refl _) (I1.hok.fresh (Nat.le_refl _))
theorem Wy{aA:List (Addr×Obj)}{σ:St}{H:Hp}{s:Shared}{R:It→Hp→Prop}{E:Value→Shared→Prop}{lo hi:Int}{t u v:Tok}{tk:Nat}(I:Inv X aA σ H s)(h1:-(2^62)≤lo)(h2:lo<2^62)(h3:-(2^62)≤hi)(h4:hi<2^62)
  (q:R (Itr lo (hi-lo).toNat) H):wpAny (model X.prog X.w) X.A (pyIter (.ref s.heap.objs.size)) (PIE X aA σ tg R) E { s with heap:=s.heap.push { cls:=.type "range",data:=.fields #[.int lo t,.int hi u,.int 1 v] },toks:=tk }:=by
 refine wpAny_pyIter_range (IsRange.new ..) (small_one h1 h2 h3 h4) ?_
 have I1:Inv X aA σ H { s with heap:=s.heap.push { cls:=.type "range",data:=.fields #[.int lo t,.int hi u,.int 1 v] },toks:=tk }:=I.kept fun b o e=>Heap.get?_push_of_some _ e
 refine ⟨(s.heap.push { cls:=.type "range",data:=.fields #[.int lo t,.int hi u,.int 1 v] }).objs.size,[(s.heap.push { cls:=.type "range",data:=.fields #[.int lo t,.int hi u,.int 1 v] }).objs.size],_,_,H,rfl,
  I1.kept (t':=tk) fun b o e=>Heap.get?_push_of_some _ e,Tp _ lo (hi-lo).toNat,?_,fun b hb=>?_,q⟩
 ·have e1:lo+((0:Nat):Int)*1=lo:=by simp
  have e2:(((hi-lo).toNat:Nat):Int)-((0:Nat):Int)=Builtin.Range.rangeSize lo hi 1:=by rw [rangeSize_one];split <;> omega
  show IsRangeIter _ _ (lo+((0:Nat):Int)*1) ((((hi-lo).toNat:Nat):Int)-((0:Nat):Int)) 1
  rw [e1,e2]
  exact Heap.get?_push_size _ rfl
 ·have e:b=(s.heap.push { cls:=.type "range",data:=.fields #[.int lo t,.int hi u,.int 1 v] }).objs.size:=by simpa using hb
  subst e
  exact I1.fpOk (Nat.le_refl _) (I1.hok.fresh (Nat.le_refl _))
def AIM(ta:TA):TI:=fun σ H R=>ta σ H fun vs H1=>∃j:Int,vs=[.int j]∧-(2^62)≤j∧j<2^62∧R (Itr 0 j.toNat) H1
def AJ9(ta:TA):TI:=fun σ H R=>ta σ H fun vs H1=>∃i j:Int,vs=[.int i,.int j]∧(-(2^62)≤i∧i<2^62∧-(2^62)≤j∧j<2^62)∧R (Itr i (j-i).toNat) H1
theorem Ib{a:Expr}{ta:TA}{p pos:Pos}(hg:Gl X "range")(hm:X.mg "range"=none)(ha:PA X [a] ta)(hs:starEach [a] X.env=[(false,eval a X.env)]:=by rfl):PI X tg (.Call (.Name "range" p) [a] [] pos) (AIM ta):=by
 intro aA s σ H R I h
 refine Call_ (HR I hg hm boot_range (PyProof.Rows.callWith_type1 (thn (ha pos aA s σ H _ I h) fun us s1 ⟨vs,H1,I1,r1,q1⟩=>?_) hs rfl))
 obtain ⟨j,e,q1,q2,q⟩:=q1
 subst e
 cases r1 with
 | cons r rr =>
  cases rr
  obtain ⟨t,rfl⟩:=r
  exact call_range_1 (Wy I1 (by omega) (by omega) q1 q2 (by simpa using q))
def AJl(wi:TI)(g:TG)(tb:TS):TS:=fun D σ H=>wi σ H fun J H1=>∃W:Nat→Nat→St→Hp→Prop,(∃m,W 0 m σ H1)∧∀i m σ H,W i m σ H →
 (J.stop i H∧D.nx σ H)∨(J.go i H∧∃N:St→Hp→Prop,(∀σ' H',N σ' H'→∃m',m'<m∧W (i+1) m' σ' H')∧∀x H',J.yld i H x H'→g x σ H' fun σ2 H2=>tb { D with nx:=N,ct:=N,bk:=D.nx } σ2 H2)
def Jz(fp:List Addr)(h:Heap):List (Addr×Obj):=fp.filterMap fun b=>(h.get? b).map fun o=>(b,o)
theorem Ed{fp:List Addr}{h:Heap}{b:Addr}{o:Obj}(hb:b∈fp)(e:h.get? b=some o):(b,o)∈Jz fp h:=List.mem_filterMap.mpr ⟨b,hb,by rw [e];rfl⟩
theorem Wf{fp:List Addr}{h:Heap}{p:Addr×Obj}(hp:p∈Jz fp h):p.1∈fp∧h.get? p.1=some p.2:=by
 obtain ⟨b,hb,e⟩:=List.mem_filterMap.mp hp
 cases q:h.get? b with
 | none=>rw [q] at e;cases e
 | some o =>
  rw [q] at e
  have e':(b,o)=p:=Option.some.inj e
  subst e'
  exact ⟨hb,q⟩
theorem Inv.pinned{aA:List (Addr×Obj)}{σ:St}{H:Hp}{s:Shared}{fp:List Addr}(I:Inv X aA σ H s)(hf:∀b∈fp,Gv X aA H b)(ho:∀b∈fp,∃o,s.heap.get? b=some o∧∀v,o.data≠.cell v):Inv X (aA++Jz fp s.heap) σ H s :=
 I.pins_of fun p hp=>(List.mem_append.mp hp).elim (fun z=>I.pin p (List.mem_append_right _ z)) fun z=>by
  obtain ⟨hb,e⟩:=Wf z
  obtain ⟨f0,f1,f2,_⟩:=hf p.1 hb
  obtain ⟨o,e',d⟩:=ho p.1 hb
  rw [e] at e';cases e'
  exact ⟨e,f0,f1,f2,d⟩
theorem Inv.unpinned{aA pl:List (Addr×Obj)}{σ:St}{H:Hp}{s:Shared}(I:Inv X (aA++pl) σ H s):Inv X aA σ H s:=I.pins_of fun p hp=>I.pin p (List.mem_append_right _ (List.mem_append_left _ hp))
theorem MJ{iter:Expr}{body:List Stmt}{wi:TI}{g:TG}{tb:TS}{pos:Pos}(hp:PassesOwn (model X.prog X.w) X.A X.env X.xe)(hc:X.calm=true)(hi:PI X tg iter wi)(hg:PG X tg g)(hb:PSs X body tb)
  (hs:∀x,foldedSetIterable iter X.env x=pure x:=by intro _;rfl):PS X (.For tg iter body [] pos) (AJl wi g tb):=by
 intro aA s σ H D I h
 refine wpAny_For (thn (hi aA s σ H _ I h) fun v s1 h1=>thn h1 fun itv s2 h2=>?_) hs
 obtain ⟨it,fp,tn,J,H2,e,I2,T,st2,f2,W,⟨m0,w0⟩,turn⟩:=h2
 subst e
 have stat:∀{H':Hp},(∀b∈fp,H' b=none)→∀b∈fp,Gv X aA H' b:=fun hn b hb=>⟨hn b hb,(f2 b hb).2⟩
 refine codeAny_forLoop_any (fun n s'=>∃i σ' H',Inv X aA σ' H' s'∧tn i s'.heap∧(∀b∈fp,H' b=none)∧W i n σ' H') ?_ m0 ⟨0,σ,H2,I2,st2,fun b hb=>(f2 b hb).1,w0⟩
 rintro n s3 ⟨i,σ3,H3,I3,st3,fr3,w3⟩
 rcases turn i n σ3 H3 w3 with ⟨stop,qn⟩ | ⟨go,N,hN,step⟩
 ·refine wpAny_passesOwn hp (thn (T.done X rfl rfl rfl hc i aA s3 σ3 H3 X.xe I3 (stat fr3) st3 stop) fun r s4 ⟨hr,I4⟩=>?_)
  subst hr
  exact wpAny_execs_nil ⟨σ3,H3,I4,qn⟩
 ·refine wpAny_passesOwn hp (thn (T.item X rfl rfl rfl hc i aA s3 σ3 H3 X.xe I3 (stat fr3) st3 go) fun r s4 ⟨u,hr,h4⟩=>?_)
  subst hr
  refine wpAny_passesOwn hp (thn h4 fun _ s5 ⟨x,H5,I5,r5,y5,st5,fr5⟩=>?_)
  have I5':=I5.pinned (stat fr5) (T.obj _ _ st5)
  refine wpAny_passesOwn hp (thn (hg _ s5 σ3 H5 x u _ I5' r5 (step x H5 y5)) fun _ s6 ⟨σ6,H6,I6,q6⟩=>?_)
  refine wpAny_passesOwn hp (thn (hb _ s6 σ6 H6 _ I6 q6) fun f s7 q7=>?_)
  have again:∀{σ7:St} {H7:Hp},Inv X (aA++Jz fp s5.heap) σ7 H7 s7→N σ7 H7→∃m,m<n∧∃i σ' H',Inv X aA σ' H' s7∧tn i s7.heap∧(∀b∈fp,H' b=none)∧W i m σ' H':=fun {σ7 H7} I7 n7=>by
   obtain ⟨m',hm,w7⟩:=hN σ7 H7 n7
   refine ⟨m',hm,i+1,σ7,H7,I7.unpinned,T.keep _ _ _ st5 fun b hb o e=>(I7.pin (b,o) (List.mem_append_right _ (List.mem_append_right _ (Ed hb e)))).1,fun b hb=>?_,w7⟩
   obtain ⟨o,e,d⟩:=T.obj _ _ st5 b hb
   exact (I7.pin (b,o) (List.mem_append_right _ (List.mem_append_right _ (Ed hb e)))).2.1
  cases f with
  | next=>obtain ⟨σ7,H7,I7,n7⟩:=q7;exact again I7 n7
  | cont=>obtain ⟨σ7,H7,I7,n7⟩:=q7;exact again I7 n7
  | brk=>obtain ⟨σ7,H7,I7,q7⟩:=q7;exact ⟨σ7,H7,I7.unpinned,q7⟩
  | ret v=>obtain ⟨x7,σ7,H7,I7,r7,q7⟩:=q7;exact ⟨x7,σ7,H7,I7.unpinned,r7,q7⟩
end
theorem Rb{K:PySem.W.Frag}{a:Addr}{xs:List V}{g:TG}{tb:TS}{D:K1}{σ:St}{H:Hp}(Pv:Nat→St→Hp→Prop)(h0:Pv 0 σ H)(hl:∀i σ H,i≤xs.length→Pv i σ H→SqL K H a xs)
  (hs:∀i x σ H,xs[i]?=some x→Pv i σ H→g x σ H fun σ2 H2=>tb { D with nx:=Pv (i+1),ct:=Pv (i+1),bk:=D.nx } σ2 H2) (hd:∀σ H,Pv xs.length σ H→D.nx σ H) :
  ∃W:Nat→Nat→St→Hp→Prop,(∃m,W 0 m σ H)∧∀i m σ H,W i m σ H →
   ((Itl K a).stop i H∧D.nx σ H)∨((Itl K a).go i H∧∃N:St→Hp→Prop,(∀σ' H',N σ' H'→∃m',m'<m∧W (i+1) m' σ' H')∧∀x H',(Itl K a).yld i H x H'→g x σ H' fun σ2 H2=>tb { D with nx:=N,ct:=N,bk:=D.nx } σ2 H2):=by
 refine ⟨fun i m σ H=>m=xs.length-i∧i≤xs.length∧Pv i σ H,⟨xs.length,by simp,Nat.zero_le _,h0⟩,?_⟩
 rintro i m σ H ⟨rfl,hi,p⟩
 have q:=hl i σ H hi p
 by_cases hlt:i<xs.length
 ·refine .inr ⟨⟨xs,xs[i],q,by simp [hlt]⟩,Pv (i+1),fun σ' H' p'=>⟨xs.length-(i+1),by omega,rfl,hlt,p'⟩,fun x H' y=>?_⟩
  obtain ⟨e,y⟩:=y
  subst e
  exact hs i x σ _ (y xs q) p
 ·have e:i=xs.length:=by omega
  subst e
  exact .inl ⟨⟨xs,q,Nat.le_refl _⟩,hd σ H p⟩
theorem Oz{lo:Int}{n:Nat}{g:TG}{tb:TS}{D:K1}{σ:St}{H:Hp}(Pv:Nat→St→Hp→Prop)(h0:Pv 0 σ H)
  (hs:∀i σ H,i<n→Pv i σ H→g (.int (lo+i)) σ H fun σ2 H2=>tb { D with nx:=Pv (i+1),ct:=Pv (i+1),bk:=D.nx } σ2 H2) (hd:∀σ H,Pv n σ H→D.nx σ H) :
  ∃W:Nat→Nat→St→Hp→Prop,(∃m,W 0 m σ H)∧∀i m σ H,W i m σ H →
   ((Itr lo n).stop i H∧D.nx σ H)∨((Itr lo n).go i H∧∃N:St→Hp→Prop,(∀σ' H',N σ' H'→∃m',m'<m∧W (i+1) m' σ' H')∧∀x H',(Itr lo n).yld i H x H'→g x σ H' fun σ2 H2=>tb { D with nx:=N,ct:=N,bk:=D.nx } σ2 H2):=by
 refine ⟨fun i m σ H=>m=n-i∧i≤n∧Pv i σ H,⟨n,by simp,Nat.zero_le _,h0⟩,?_⟩
 rintro i m σ H ⟨rfl,hi,p⟩
 by_cases hlt:i<n
 ·refine .inr ⟨hlt,Pv (i+1),fun σ' H' p'=>⟨n-(i+1),by omega,rfl,hlt,p'⟩,fun x H' y=>?_⟩
  obtain ⟨e,y⟩:=y
  subst e y
  exact hs i σ _ hlt p
 ·have e:i=n:=by omega
  subst e
  exact .inl ⟨Nat.le_refl _,hd σ H p⟩
end L2
namespace L2
open PySem PySem.Spec PyProof.Rows
abbrev R2:=V→V→Hp→VK→Prop
def OpR(X:Cx)(f:Value→Value→Sem Value)(r:R2):Prop :=
 ∀(aA:List (Addr×Obj)) (s:Shared) (σ:St) (H:Hp) (x y:V) (v u:Value) (Q:VK),Inv X aA σ H s→Bb x v→Bb y u→r x y H Q →
  wpAny (model X.prog X.w) X.A (f v u) (EP X aA σ Q) X.xe s
def UnR(X:Cx)(f:Value→Sem Value)(r:V→Hp→VK→Prop):Prop :=
 ∀(aA:List (Addr×Obj)) (s:Shared) (σ:St) (H:Hp) (x:V) (v:Value) (Q:VK),Inv X aA σ H s→Bb x v→r x H Q →
  wpAny (model X.prog X.w) X.A (f v) (EP X aA σ Q) X.xe s
def Gz(X:Cx)(f:Value)(r:List V→Hp→VK→Prop):Prop :=
 ∀(aA:List (Addr×Obj)) (s:Shared) (σ:St) (H:Hp) (xs:List V) (us:List Value) (Q:VK),Inv X aA σ H s→BW xs us→r xs H Q →
  wpAny (model X.prog X.w) X.A (call f us) (EP X aA σ Q) X.xe s
def AKR(X:Cx)(r:V→Hp→(Bool→Hp→Prop)→Prop):Prop :=
 ∀(aA:List (Addr×Obj)) (s:Shared) (σ:St) (H:Hp) (x:V) (v:Value) (Q:Bool→Hp→Prop),Inv X aA σ H s→Bb x v→r x H Q →
  wpAny (model X.prog X.w) X.A (truthy v) (TP X aA σ Q) X.xe s
def tOp(r:R2)(ta tb:TE):TE:=fun σ H Q=>ta σ H fun x H1=>tb σ H1 fun y H2=>r x y H2 Q
def tUn(r:V→Hp→VK→Prop)(ta:TE):TE:=fun σ H Q=>ta σ H fun x H1=>r x H1 Q
def rI(C:Int→Int→Prop)(g:Int→Int→V):R2:=fun x y H Q=>∃i j,x=.int i∧y=.int j∧C i j∧Q (g i j) H
def rI0(g:Int→Int→V):R2:=fun x y H Q=>∃i j,x=.int i∧y=.int j∧Q (g i j) H
def rU(g:Int→V):V→Hp→VK→Prop:=fun x H Q=>∃i,x=.int i∧Q (g i) H
section
variable {X:Cx}{a b c:Expr}{ta tb tc:TE}{pos:Pos}
theorem ABp(ha:PE X a ta)(hb:PE X b tb){aA:List (Addr×Obj)}{s:Shared}{σ:St}{H:Hp}{R:V→V→Hp→Prop}(I:Inv X aA σ H s)
  (h:ta σ H fun x H1=>tb σ H1 fun y H2=>R x y H2) {Q:Value→Shared→Prop} {f:Value→Value→Sem Value}
  (hf:∀v u s2 x y H2,Inv X aA σ H2 s2→Bb x v→Bb y u→R x y H2→wpAny (model X.prog X.w) X.A (f v u) Q X.xe s2) :
  wpAny (model X.prog X.w) X.A (eval a X.env) (fun v s₁=>wpAny (model X.prog X.w) X.A (eval b X.env) (fun u s₂=>wpAny (model X.prog X.w) X.A (f v u) Q X.xe s₂) X.xe s₁) X.xe s:=by
 refine thn (ha aA s σ H _ I h) fun v s1 ⟨x,H1,I1,r1,q1⟩=>?_
 refine thn (hb aA s1 σ H1 _ I1 q1) fun u s2 ⟨y,H2,I2,r2,q2⟩=>?_
 exact hf v u s2 x y H2 I2 r1 r2 q2
theorem Ax{op:Operator}{r:R2}(ho:OpR X (binaryOp op) r)(ha:PE X a ta)(hb:PE X b tb):PE X (.BinOp a op b pos) (tOp r ta tb):=by
 intro aA s σ H Q I h
 exact wpAny_BinOp (ABp ha hb I h fun v u s2 x y H2 I2 rx ry q=>ho aA s2 σ H2 x y v u Q I2 rx ry q)
theorem Mt{op:UnaryOp}{r:V→Hp→VK→Prop}(ho:UnR X (unaryOp op) r)(ha:PE X a ta):PE X (.UnaryOp op a pos) (tUn r ta):=by
 intro aA s σ H Q I h
 exact UnaryOp_ (thn (ha aA s σ H _ I h) fun v s1 ⟨x,H1,I1,r1,q1⟩=>ho aA s1 σ H1 x v Q I1 r1 q1)
theorem opI{f:Value→Value→Sem Value}{C:Int→Int→Prop}{g:Int→Int→Int}
  (rule:∀(i j:Int) (t u:Tok) (s:Shared) (Q:Value→Shared→Prop) (E:Value→Shared→Prop),C i j→Q (.int (g i j) s.toks) { s with toks:=s.toks+1 }→wpAny (model X.prog X.w) X.A (f (.int i t) (.int j u)) Q E s) :
  OpR X f (rI C fun i j=>.int (g i j)):=by
 intro aA s σ H x y v u Q I rx ry h
 obtain ⟨i,j,rfl,rfl,hc,q⟩:=h
 obtain ⟨t,rfl⟩:=rx
 obtain ⟨t',rfl⟩:=ry
 exact rule i j t t' s _ _ hc ⟨.int (g i j),H,I.tok _,⟨_,rfl⟩,q⟩
theorem AFU{f:Value→Value→Sem Value}{g:Int→Int→Int}
  (rule:∀(i j:Int) (t u:Tok) (s:Shared) (Q:Value→Shared→Prop) (E:Value→Shared→Prop),Q (.int (g i j) s.toks) { s with toks:=s.toks+1 }→wpAny (model X.prog X.w) X.A (f (.int i t) (.int j u)) Q E s) :
  OpR X f (rI0 fun i j=>.int (g i j)):=by
 intro aA s σ H x y v u Q I rx ry h
 obtain ⟨i,j,rfl,rfl,q⟩:=h
 obtain ⟨t,rfl⟩:=rx
 obtain ⟨t',rfl⟩:=ry
 exact rule i j t t' s _ _ ⟨.int (g i j),H,I.tok _,⟨_,rfl⟩,q⟩
theorem Ys{f:Value→Value→Sem Value}{g:Int→Int→Bool}
  (rule:∀(i j:Int) (t u:Tok) (s:Shared) (Q:Value→Shared→Prop) (E:Value→Shared→Prop),Q (.bool (g i j)) s→wpAny (model X.prog X.w) X.A (f (.int i t) (.int j u)) Q E s) :
  OpR X f (rI0 fun i j=>.bl (g i j)):=by
 intro aA s σ H x y v u Q I rx ry h
 obtain ⟨i,j,rfl,rfl,q⟩:=h
 obtain ⟨t,rfl⟩:=rx
 obtain ⟨t',rfl⟩:=ry
 exact rule i j t t' s _ _ ⟨.bl (g i j),H,I,rfl,q⟩
def AKa(i j:Int):Prop:=0<j∧j<1073741824
def AKA(i j:Int):Prop:=j≠0∧j.natAbs<1073741824
def AIm(i j:Int):Prop:=0≤j∧j≤1000000∧i.natAbs<2^64
def X7(i j:Int):Prop:=(-(2^64)<i∧i<2^64)∨(-(2^64)<j∧j<2^64)
theorem X7.ok{i j:Int}(h:X7 i j):IntMulOk i j:=by
 rcases h with ⟨h1,h2⟩ | ⟨h1,h2⟩
 ·exact .of_left (intBits_le_64 h1 h2)
 ·exact .of_right (intBits_le_64 h1 h2)
theorem DX:OpR X (binaryOp .Add) (rI0 fun i j=>.int (i+j)):=AFU fun _ _ _ _ _ _ _ q=>add_int q
theorem J9:OpR X (binaryOp .Sub) (rI0 fun i j=>.int (i-j)):=AFU fun _ _ _ _ _ _ _ q=>sub_int q
theorem Dd:OpR X (binaryOp .Mod) (rI (fun _ j=>0<j) fun i j=>.int (i%j)):=opI fun i j _ _ _ _ _ hc q=>by
 have h1:(0:Int)<j:=hc
 exact mod_int' (by omega) (by rw [Int.fmod_eq_emod_of_nonneg i (by omega)];exact q)
theorem unI{f:Value→Sem Value}{g:Int→Int}
  (rule:∀(i:Int) (t:Tok) (s:Shared) (Q:Value→Shared→Prop) (E:Value→Shared→Prop),Q (.int (g i) s.toks) { s with toks:=s.toks+1 }→wpAny (model X.prog X.w) X.A (f (.int i t)) Q E s) :
  UnR X f (rU fun i=>.int (g i)):=by
 intro aA s σ H x v Q I rx h
 obtain ⟨i,rfl,q⟩:=h
 obtain ⟨t,rfl⟩:=rx
 exact rule i t s _ _ ⟨.int (g i),H,I.tok _,⟨_,rfl⟩,q⟩
theorem JB:UnR X (unaryOp .USub) (rU fun i=>.int (-i)):=unI fun _ _ _ _ _ q=>neg_int q
end
def AFO:V→V→Bool
 | .non,.non=>true | .non,.int _=>true | .int _,.non=>true | .non,.bl _=>true | .bl _,.non=>true | .non,.str _=>true | .str _,.non=>true
 | .int _,.int _=>true | .bl _,.bl _=>true | .str _,.str _=>true | .byt _,.byt _=>true
 | .int _,.str _=>true | .str _,.int _=>true | .bl _,.str _=>true | .str _,.bl _=>true
 | _,_=>false
def rEq:R2:=fun x y H Q=>AFO x y=true∧Q (.bl (decide (x=y))) H
def rNe:R2:=fun x y H Q=>AFO x y=true∧Q (.bl (!decide (x=y))) H
theorem VB{i j:Int}:decide (V.int i=V.int j)=(i==j):=by
 rw [Bool.eq_iff_iff]
 simp
theorem Yd{i j:Bool}:decide (V.bl i=V.bl j)=(i==j):=by
 rw [Bool.eq_iff_iff]
 simp
theorem Vl{i j:Str}:decide (V.str i=V.str j)=(i==j):=by
 rw [Bool.eq_iff_iff]
 simp
theorem U9{i j:Array UInt8}:decide (V.byt i=V.byt j)=(i.toList==j.toList):=by
 rw [Bool.eq_iff_iff]
 cases i
 cases j
 simp
section
variable {X:Cx}{a b c:Expr}{ta tb tc:TE}{pos:Pos}
theorem Bc{aA:List (Addr×Obj)}{σ:St}{H:Hp}{s:Shared}{Q:VK}{k k':Bool}(I:Inv X aA σ H s)(q:Q (.bl k) H)(e:k=k'):EP X aA σ Q (.bool k') s:=by
 subst e
 exact ⟨.bl k,H,I,rfl,q⟩
theorem Bo:OpR X (compareOp .Eq) rEq:=by
 intro aA s σ H x y v u Q I rx ry h
 obtain ⟨hs,q⟩:=h
 cases x with
 | non =>
  cases rx
  cases y with
  | non=>cases ry;exact PySem.EqNone.eq_none_none (Bc I q (by simp))
  | bl j=>cases ry;exact PySem.EqNone.eq_none_bool (Bc I q (by simp))
  | int j=>obtain ⟨t',rfl⟩:=ry;exact PySem.EqNone.eq_none_int (Bc I q (by simp))
  | str j=>obtain ⟨t',rfl⟩:=ry;exact PySem.EqNone.eq_none_str (Bc I q (by simp))
  | _=>exact absurd (show false=true from hs) Bool.false_ne_true
 | bl i =>
  cases rx
  cases y with
  | non=>cases ry;exact PySem.EqNone.eq_bool_none (Bc I q (by simp))
  | bl j=>cases ry;exact eq_bool (Bc I q Yd)
  | str j=>obtain ⟨t',rfl⟩:=ry;exact PySem.EqMixed.eq_bool_str (Bc I q (by simp))
  | _=>exact absurd (show false=true from hs) Bool.false_ne_true
 | int i =>
  obtain ⟨t,rfl⟩:=rx
  cases y with
  | non=>cases ry;exact PySem.EqNone.eq_int_none (Bc I q (by simp))
  | int j=>obtain ⟨t',rfl⟩:=ry;exact eq_int (Bc I q VB)
  | str j=>obtain ⟨t',rfl⟩:=ry;exact PySem.EqMixed.eq_int_str (Bc I q (by simp))
  | _=>exact absurd (show false=true from hs) Bool.false_ne_true
 | str i =>
  obtain ⟨t,rfl⟩:=rx
  cases y with
  | non=>cases ry;exact PySem.EqNone.eq_str_none (Bc I q (by simp))
  | bl j=>cases ry;exact PySem.EqMixed.eq_str_bool (Bc I q (by simp))
  | int j=>obtain ⟨t',rfl⟩:=ry;exact PySem.EqMixed.eq_str_int (Bc I q (by simp))
  | str j=>obtain ⟨t',rfl⟩:=ry;exact eq_str (Bc I q Vl)
  | _=>exact absurd (show false=true from hs) Bool.false_ne_true
 | byt i =>
  obtain ⟨t,rfl⟩:=rx
  cases y with
  | byt j=>obtain ⟨t',rfl⟩:=ry;exact PySem.W.eq_bytes (Bc I q U9)
  | _=>exact absurd (show false=true from hs) Bool.false_ne_true
 | _=>cases y <;> exact absurd (show false=true from hs) Bool.false_ne_true
theorem Jp:OpR X (compareOp .NotEq) rNe:=by
 intro aA s σ H x y v u Q I rx ry h
 obtain ⟨hs,q⟩:=h
 cases x with
 | non =>
  cases rx
  cases y with
  | non=>cases ry;exact PySem.EqNone.ne_none_none (Bc I q (by simp))
  | bl j=>cases ry;exact PySem.EqNone.ne_none_bool (Bc I q (by simp))
  | int j=>obtain ⟨t',rfl⟩:=ry;exact PySem.EqNone.ne_none_int (Bc I q (by simp))
  | str j=>obtain ⟨t',rfl⟩:=ry;exact PySem.EqNone.ne_none_str (Bc I q (by simp))
  | _=>exact absurd (show false=true from hs) Bool.false_ne_true
 | bl i =>
  cases rx
  cases y with
  | non=>cases ry;exact PySem.EqNone.ne_bool_none (Bc I q (by simp))
  | bl j=>cases ry;exact ne_bool (Bc I q (congrArg not Yd))
  | str j=>obtain ⟨t',rfl⟩:=ry;exact PySem.EqMixed.ne_bool_str (Bc I q (by simp))
  | _=>exact absurd (show false=true from hs) Bool.false_ne_true
 | int i =>
  obtain ⟨t,rfl⟩:=rx
  cases y with
  | non=>cases ry;exact PySem.EqNone.ne_int_none (Bc I q (by simp))
  | int j=>obtain ⟨t',rfl⟩:=ry;exact ne_int (Bc I q (congrArg not VB))
  | str j=>obtain ⟨t',rfl⟩:=ry;exact PySem.EqMixed.ne_int_str (Bc I q (by simp))
  | _=>exact absurd (show false=true from hs) Bool.false_ne_true
 | str i =>
  obtain ⟨t,rfl⟩:=rx
  cases y with
  | non=>cases ry;exact PySem.EqNone.ne_str_none (Bc I q (by simp))
  | bl j=>cases ry;exact PySem.EqMixed.ne_str_bool (Bc I q (by simp))
  | int j=>obtain ⟨t',rfl⟩:=ry;exact PySem.EqMixed.ne_str_int (Bc I q (by simp))
  | str j=>obtain ⟨t',rfl⟩:=ry;exact ne_str (Bc I q (congrArg not Vl))
  | _=>exact absurd (show false=true from hs) Bool.false_ne_true
 | byt i =>
  obtain ⟨t,rfl⟩:=rx
  cases y with
  | byt j=>obtain ⟨t',rfl⟩:=ry;exact PySem.W.ne_bytes (Bc I q (congrArg not U9))
  | _=>exact absurd (show false=true from hs) Bool.false_ne_true
 | _=>cases y <;> exact absurd (show false=true from hs) Bool.false_ne_true
theorem Hk:OpR X (compareOp .Lt) (rI0 fun i j=>.bl (decide (i<j))):=Ys fun _ _ _ _ _ _ _ q=>lt_int q
theorem AFv:OpR X (compareOp .LtE) (rI0 fun i j=>.bl (decide (i≤j))):=Ys fun _ _ _ _ _ _ _ q=>le_int q
theorem JX:OpR X (compareOp .Gt) (rI0 fun i j=>.bl (decide (j<i))):=Ys fun _ _ _ _ _ _ _ q=>gt_int q
theorem AAf:OpR X (compareOp .GtE) (rI0 fun i j=>.bl (decide (j≤i))):=Ys fun _ _ _ _ _ _ _ q=>ge_int q
theorem Oo:OpR X (compareOp .In) (fun x y H Q=>∃i j,x=.str i∧y=.str j∧Q (.bl (!(Builtin.Str.occurrences j i 0 j.length 1).isEmpty)) H):=by
 intro aA s σ H x y v u Q I rx ry h
 obtain ⟨i,j,rfl,rfl,q⟩:=h
 obtain ⟨t,rfl⟩:=rx
 obtain ⟨t',rfl⟩:=ry
 exact in_str (Bc I q rfl)
theorem AAx:OpR X (compareOp .Is) (fun x y H Q=>y=.non∧Q (.bl (decide (x=.non))) H):=by
 intro aA s σ H x y v u Q I rx ry h
 obtain ⟨rfl,q⟩:=h
 cases ry
 refine is_none_gen (Bc I q ?_)
 cases x <;> first
  | (cases rx;rfl)
  | (obtain ⟨t,rfl⟩:=rx;rfl)
def AJw:HO→Bool
 | .lst _=>true
 | .ins _ _ _=>true
 | _=>false
theorem Ar(b:Expr){op:CmpOp}(h:op≠.In:=by decide)(h2:op≠.NotIn:=by decide):behindInMarks op b=false:=by
 have e1:(op==CmpOp.In)=false:=by cases op <;> first | rfl | exact absurd rfl h
 have e2:(op==CmpOp.NotIn)=false:=by cases op <;> first | rfl | exact absurd rfl h2
 cases b <;> simp [behindInMarks,e1,e2]
theorem Eo{op:CmpOp}{r:R2}(ho:OpR X (compareOp op) r)(ha:PE X a ta)(hb:PE X b tb)(hm:behindInMarks op b=false):PE X (.Compare a [op] [b] pos) (tOp r ta tb):=by
 intro aA s σ H Q I h
 exact wpAny_Compare1 (ABp ha hb I h fun v u s2 x y H2 I2 rx ry q=>ho aA s2 σ H2 x y v u Q I2 rx ry q) hm
def AIK(t:TE):TT:=fun σ H Q=>t σ H fun x H'=>∃k,x=.bl k∧Q k H'
theorem Ao{op:CmpOp}{r:R2}(ho:OpR X (compareOp op) r)(ha:PE X a ta)(hb:PE X b tb)(hm:behindInMarks op b=false):PT X (.Compare a [op] [b] pos) (AIK (tOp r ta tb)):=by
 intro aA s σ H Q I h
 refine wpAny_isTrue_Compare1 (thn (ha aA s σ H _ I h) fun v s1 ⟨x,H1,I1,r1,q1⟩=>thn (hb aA s1 σ H1 _ I1 q1) fun u s2 ⟨y,H2,I2,r2,q2⟩ =>
  thn (ho aA s2 σ H2 x y v u _ I2 r1 r2 q2) fun c s3 ⟨z,H3,I3,r3,k,e,q3⟩=>?_) hm
 subst e
 cases r3
 exact wpAny_truthy_bool ⟨H3,I3,q3⟩
def AJs(r r':R2)(ta tb tc:TE):TE:=fun σ H Q=>ta σ H fun x H1=>tb σ H1 fun y H2=>r x y H2 fun z H3=>∃k,z=.bl k ∧
 (if k=true then tc σ H3 fun w' H4=>r' y w' H4 Q else Q (.bl false) H3)
def AKE(K:PySem.W.Frag)(x:V)(H:Hp)(k:Bool):Prop :=
 match x with
 | .non=>k=false
 | .bl b=>k=b
 | .int i=>k=(i != 0)
 | .str y=>y.length≤sizeLine∧k=((y.length:Int) != 0)
 | .byt y=>y.size≤sizeLine∧k=((y.size:Int) != 0)
 | .ref p=>(∃xs,SqL K H p xs∧k=!xs.isEmpty)∨(∃xs,SqT K H p xs∧k=!xs.isEmpty)∨∃aG,H p=some (.dK aG)∧k=!aG.isEmpty
 | _=>False
theorem Jr:(sizeLine:Nat)<2^63:=by rw [sizeLine_eq];decide
theorem Dh:OpR X (binaryOp .Add) (fun x y H Q=>∃i j,x=.str i∧y=.str j∧i.length+j.length≤sizeLine∧Q (.str (i++j)) H):=by
 intro aA s σ H x y v u Q I rx ry h
 obtain ⟨i,j,rfl,rfl,hz,q⟩:=h
 obtain ⟨t,rfl⟩:=rx
 obtain ⟨t',rfl⟩:=ry
 exact add_str (fun t' tk=>⟨.str (i++j),H,I.tok _,⟨_,rfl⟩,q⟩) hz
def AEd(b:Expr):Prop:=∀o i,subscripted b false o i=operate [o,i] (getItem o i)
theorem Ga{x:V}{us:List Value}(r:BW [x] us):∃u,us=[u]∧Bb x u:=by
 cases r with
 | cons r1 r2=>cases r2;exact ⟨_,rfl,r1⟩
theorem Xc{x y:V}{us:List Value}(r:BW [x,y] us):∃u w',us=[u,w']∧Bb x u∧Bb y w':=by
 cases r with
 | cons r1 r2 =>
  cases r2 with
  | cons r3 r4=>cases r4;exact ⟨_,_,rfl,r1,r3⟩
theorem JV:Gz X (.builtin "abs") (fun xs H Q=>∃i,xs=[.int i]∧Q (.int (if i<0 then -i else i)) H):=by
 intro aA s σ H xs us Q I r h
 obtain ⟨i,rfl,q⟩:=h
 obtain ⟨u,rfl,t,rfl⟩:=Ga r
 exact call_abs_int fun u tk=>⟨.int (if i<0 then -i else i),H,I.tok _,⟨_,rfl⟩,q⟩
theorem Gg:Gz X (.type "str") (fun xs H Q=>∃i,xs=[.int i]∧i.natAbs.log2<1920∧Q (.str (toString i)) H):=by
 intro aA s σ H xs us Q I r h
 obtain ⟨i,rfl,hz,q⟩:=h
 obtain ⟨u,rfl,t,rfl⟩:=Ga r
 exact PySem.P.str_of_int hz ⟨.str _,H,I.tok _,⟨_,rfl⟩,q⟩
def AKe(K:PySem.W.Frag)(x:V)(H:Hp)(n:Nat):Prop :=
 match x with
 | .str y=>y.length≤sizeLine∧n=y.length
 | .byt y=>y.size≤sizeLine∧n=y.size
 | .ref p=>(∃xs,SqL K H p xs∧n=xs.length)∨∃xs,SqT K H p xs∧n=xs.length
 | _=>False
end
end L2
namespace L2
open PySem PySem.Spec PyProof.Rows
structure Uk(h:Heap)(x dx C:Addr)(mA:Str→Option Value):Prop where
 obj:h.get? x=some (PySem.W.instObj C dx)
 ns:h.Ns1 dx mA
 ne:dx≠x
theorem Og{h:Heap}{dx:Addr}{mA:Str→Option Value}(n:h.Ns1 dx mA):∃od,h.get? dx=some od∧∀name,PySem.W.lookIn name od=some (mA name):=by
 obtain ⟨o,es,ep,ho,hd,hk,_,hm⟩:=n
 refine ⟨o,ho,fun name=>?_⟩
 have e:=hm name
 unfold nsFind findBy at e
 rw [←Array.find?_toList] at e
 unfold PySem.W.lookIn
 rw [hd]
 dsimp only
 split
 ·rename_i y q
  rw [q] at e
  exact congrArg some e
 ·rename_i q
  rw [q] at e
  have a:es.toList.any (·.refKey)=false:=by
   rw [List.any_eq_false]
   intro y hy
   obtain ⟨z,t,hkey⟩:=hk y (Array.mem_toList_iff.mp hy)
   simp [DictEntry.refKey,hkey]
  have a':¬es.toList.any (·.refKey)=true:=by rw [a];exact Bool.false_ne_true
  rw [if_neg a']
  exact congrArg some e
theorem Uk.look{h:Heap}{x dx C:Addr}{mA:Str→Option Value}(I:Uk h x dx C mA):∃od,PySem.W.InstAt h x (PySem.W.instObj C dx) C (some od)∧∀name,PySem.W.lookIn name od=some (mA name) :=
 let ⟨od,ho,hl⟩:=Og I.ns
 ⟨od,⟨I.obj,rfl,rfl,ho⟩,hl⟩
section
variable {prog:Program}{w:World}{A:Around}{E:Value→Shared→Prop}{s:Shared}{K:PySem.W.Frag}{x dx C f:Addr}{mA:Str→Option Value}{name:Str}{v:Value}
theorem Y0{expr:Bool}{Q:Value→Shared→Prop}(X:K.In s.heap)(I:Uk s.heap x dx C mA)(hg:PySem.W.plainGet K C name=true)(hh:PySem.W.hasDictIn K C=true)
  (ha:PySem.W.findIn K (.ref C) name=some none) (hv:mA name=some v) (hv':PySem.W.handedIn v=true) (h:Q v { s with toks:=s.toks+1 }) :
  wpAny (model prog w) A (getAttr (.ref x) name expr) Q E s:=by
 obtain ⟨od,J,hl⟩:=I.look
 exact PySem.W.get_value X J (PySem.W.plainGet_of hg).1 (PySem.W.findObj_own hh ha rfl (by rw [hl,hv])) hv' h
theorem Xx{pl:Sem Bool}{Q:Value×List Value→Shared→Prop}(X:K.In s.heap)(I:Uk s.heap x dx C mA)(hg:PySem.W.plainGet K C name=true)
  (hf:PySem.W.findIn K (.ref C) name=some (some (.ref f))) (ht:PySem.W.isFn K (.ref f)=true) (hv:mA name=none) (h:Q (.ref f,[.ref x]) s) :
  wpAny (model prog w) A (getMethod (.ref x) name pl) Q E s:=by
 obtain ⟨od,J,hl⟩:=I.look
 exact PySem.W.method_fn X J (PySem.W.plainGet_of hg).1 (PySem.W.plainGet_of hg).2 hf (beq_iff_eq.mp ht) (by show (PySem.W.lookIn name od).map (·.isSome)=some false;rw [hl,hv];rfl) h
theorem Y7{ns:List Str}{Q:Unit→Shared→Prop}(X:K.In s.heap)(I:Uk s.heap x dx C mA)
  (hs:PySem.W.findIn K (.ref C) "__setattr__"=some (some (.builtin "object.__setattr__"))) (hp:PySem.W.plainOver K C=true) (ht:PySem.W.takerIn K C name=some none) (hh:PySem.W.hasDictIn K C=true)
  (hw:PySem.Within mA ns) (hsz:ns.length≤sizeLine)
  (h:∀h',Uk h' x dx C (fun y=>if y=name then some v else mA y)→Heap.SameBut dx s.heap h'→Q () { s with heap:=h',toks:=s.toks+2 }) :
  wpAny (model prog w) A (setAttr (.ref x) name v) Q E s:=by
 obtain ⟨od,J,hl⟩:=I.look
 refine PySem.W.set_plain X J hs (PySem.W.osa_open (s:={ s with toks:=s.toks+1 }) (r:=none) X J hp ht fun b=>?_)
 obtain ⟨cd,hc,hd'⟩:=PySem.W.any_some hh
 have hx:s.heap.get? x=some ⟨.ref C,some dx,.plain,#[]⟩:=I.obj
 refine wpAny_bind (wpAny_pure (wpAny_bind (wpAny_bind (wpAny_loadPart hx (wpAny_bind (PySem.W.Looks.here (s:={ s with toks:=s.toks+1 }) (PySem.W.looks_clsIn X hc) ?_))))))
 rw [hd']
 refine wpAny_pure (a:=some dx) (wpAny_bind (wpAny_pure (wpAny_bind ?_)))
 refine wpAny_nsSet1 (s:={ s with toks:=s.toks+1 }) I.ns fun h' hn2 hs2=>?_
 obtain ⟨oD,esD,epD,hoD,hdD,hcD⟩:=hn2.count (PySem.Within.cons name v hw)
 refine wpAny_bind (wpAny_lookBehind hoD (by rw [hdD];exact pastItsLine_dict (Nat.le_trans hcD (by rw [List.length_cons];omega))) ?_)
 exact wpAny_pure (h _ ⟨(hs2.2 _ (Ne.symm I.ne)).trans I.obj,hn2,I.ne⟩ hs2)
theorem Xp{R:Result→Shared→Prop}{vs:List Value}{kw:List (Str×Value)}(X:K.In s.heap)(hm:PySem.W.makesIn K C=true)
  (hi:PySem.W.findIn K (.ref C) "__init__"=some (some (.ref f))) (hf:PySem.W.typeIn K (.ref f)=some (.type "function"))
  (h:codeAny (model prog w) (A.under (.builtin "type.__call__" ⟨.ref C::vs,kw⟩)) (.call (.ref f) ⟨.ref (s.heap.objs.size+1)::vs,kw⟩) (PySem.W.InitBack (s.heap.objs.size+1) R)
   { s with heap:=(s.heap.push PySem.W.emptyDict).push (PySem.W.instObj C s.heap.objs.size) }) :
  codeAny (model prog w) A (.call (.ref C) ⟨vs,kw⟩) R s:=by
 obtain ⟨hh,g,d,t,os⟩:=s
 exact PySem.W.make_core (PySem.W.makes_of X hm) (PySem.W.looks_findIn X hi) (fun self=>PySem.W.bind_fn X self hf) (.inl rfl) h
end
def Hh(f:Str)(v:V):List (Str×V)→List (Str×V)
 | []=>[(f,v)]
 | (g,x)::r=>if g=f then (g,v)::r else (g,x)::Hh f v r
theorem Ku(f g:Str)(v:V):∀fs:List (Str×V),(Hh f v fs).lookup g=if g=f then some v else fs.lookup g
 | []=>by
  show List.lookup g [(f,v)]=_
  by_cases h:g=f
  ·have hb:(g==f)=true:=beq_iff_eq.mpr h
   simp only [List.lookup,hb,if_pos h]
  ·have hb:(g==f)=false:=beq_eq_false_iff_ne.mpr h
   simp only [List.lookup,hb,if_neg h]
 | (k,x)::r=>by
  have ih:=Ku f g v r
  rw [show Hh f v ((k,x)::r)=(if k=f then (k,v)::r else (k,x)::Hh f v r) from rfl]
  by_cases hk:k=f
  ·rw [if_pos hk]
   by_cases h:g=k
   ·have hb:(g==k)=true:=beq_iff_eq.mpr h
    simp only [List.lookup,hb,if_pos (h.trans hk)]
   ·have hb:(g==k)=false:=beq_eq_false_iff_ne.mpr h
    simp only [List.lookup,hb,if_neg (fun e:g=f=>h (e.trans hk.symm))]
  ·rw [if_neg hk]
   by_cases h:g=k
   ·have hb:(g==k)=true:=beq_iff_eq.mpr h
    simp only [List.lookup,hb,if_neg (fun e:g=f=>hk (h.symm.trans e))]
   ·have hb:(g==k)=false:=beq_eq_false_iff_ne.mpr h
    simp only [List.lookup,hb]
    exact ih
theorem Jw(f:Str)(v:V):∀fs:List (Str×V),f∈(Hh f v fs).map (·.1)∧∀g,g∈fs.map (·.1)→g∈(Hh f v fs).map (·.1)
 | []=>⟨by simp [Hh],fun g h=>by simp at h⟩
 | (k,x)::r=>by
  obtain ⟨i1,i2⟩:=Jw f v r
  rw [show Hh f v ((k,x)::r)=(if k=f then (k,v)::r else (k,x)::Hh f v r) from rfl]
  by_cases hk:k=f
  ·rw [if_pos hk]
   subst hk
   exact ⟨by simp,fun g h=>by simpa using h⟩
  ·rw [if_neg hk]
   refine ⟨?_,fun g h=>?_⟩
   ·rw [List.map_cons]
    exact List.mem_cons_of_mem _ i1
   ·rw [List.map_cons] at h ⊢
    rcases List.mem_cons.mp h with e | e
    ·exact List.mem_cons.mpr (.inl e)
    ·exact List.mem_cons_of_mem _ (i2 g e)
theorem Ks(f:Str)(v:V):∀fs:List (Str×V),(Hh f v fs).length≤fs.length+1
 | []=>by simp [Hh]
 | (k,x)::r=>by
  have ih:=Ks f v r
  rw [show Hh f v ((k,x)::r)=(if k=f then (k,v)::r else (k,x)::Hh f v r) from rfl]
  by_cases hk:k=f
  ·rw [if_pos hk,List.length_cons,List.length_cons];omega
  ·rw [if_neg hk,List.length_cons,List.length_cons];omega
theorem Gs.some_of{v:V}{o:Option Value}(r:Gs (some v) o):∃u,o=some u∧Bb v u:=by
 cases o with
 | none=>exact (show False from r).elim
 | some u=>exact ⟨u,rfl,r⟩
theorem Gs.none_of{o:Option Value}(r:Gs none o):o=none:=by
 cases o with
 | none=>rfl
 | some u=>exact (show False from r).elim
theorem Ox{v:V}{u:Value}(r:Bb v u):PySem.W.handedIn u=true:=by
 cases v with
 | non=>cases (show u=Value.none from r);rfl
 | bl b=>cases (show u=Value.bool b from r);rfl
 | int i=>obtain ⟨t,e⟩:=(show ∃t,u=Value.int i t from r);cases e;rfl
 | str x=>obtain ⟨t,e⟩:=(show ∃t,u=Value.str x t from r);cases e;rfl
 | byt b=>obtain ⟨t,e⟩:=(show ∃t,u=Value.bytes b t from r);cases e;rfl
 | flt b=>obtain ⟨t,e⟩:=(show ∃t,u=Value.float b t from r);cases e;rfl
 | ref a=>cases (show u=Value.ref a from r);rfl
 | ty n=>cases (show u=Value.type n from r);rfl
section
variable {P:Program}{w:World}{H H':Hp}{h h':Heap}{a C dx:Addr}{fs fs':List (Str×V)}
theorem LC(hok:HOk P w H h)(e:H a=some (.ins C dx fs)):∃mA,Uk h a dx C mA∧(∀f,Gs (fs.lookup f) (mA f))∧PySem.Within mA (fs.map (·.1))∧fs.length≤1000∧H dx=some (.own a):=by
 obtain ⟨d,z,ne,ob,mA,n,r,q⟩:=(show Bl P w H h a (.ins C dx fs) from hok a _ e)
 exact ⟨mA,⟨ob,n,ne⟩,r,q,z,d⟩
end
structure Cls(K:PySem.W.Frag)(C:Addr):Prop where
 pg:PySem.W.plainGet K C Str.empty=true
 hd:PySem.W.hasDictIn K C=true
 po:PySem.W.plainOver K C=true
 sa:PySem.W.findIn K (.ref C) "__setattr__"=some (some (.builtin "object.__setattr__"))
theorem Cls.get{K:PySem.W.Frag}{C:Addr}(c:Cls K C)(f:Str):PySem.W.plainGet K C f=true:=c.pg
def Ff(K:PySem.W.Frag)(C:Addr)(f:Str):Prop:=PySem.W.findIn K (.ref C) f=some none
theorem Ff.taker{K:PySem.W.Frag}{C:Addr}{f:Str}(n:Ff K C f):PySem.W.takerIn K C f=some none:=by
 unfold PySem.W.takerIn
 rw [show PySem.W.findIn K (.ref C) f=some none from n]
 rfl
structure Con(K:PySem.W.Frag)(C:Addr)(f:Str)(v:V)(u:Value):Prop where
 at_:PySem.W.findIn K (.ref C) f=some (some u)
 rel:Bb v u
 get:PySem.W.specialIn K u "__get__"=some none
 cp:PySem.W.copiedNames.contains f=false
structure W4(K:PySem.W.Frag)(C:Addr)(m:Str)(f:Addr):Prop where
 at_:PySem.W.findIn K (.ref C) m=some (some (.ref f))
 fn:PySem.W.isFn K (.ref f)=true
 kp:PySem.W.keepIn K (.ref f)=true
section
variable {X:Cx}{aA:List (Addr×Obj)}{σ:St}{H:Hp}{s:Shared}{a C dx:Addr}{fs:List (Str×V)}{f:Str}{v:V}{A:Around}{E:Value→Shared→Prop}
theorem S8{b:Bool}{Q:Value→Shared→Prop}(I:Inv X aA σ H s)(e:H a=some (.ins C dx fs))(c:Cls X.K C)(n:Ff X.K C f)(l:fs.lookup f=some v)
  (h:∀u s',Inv X aA σ H s'→Bb v u→Q u s'):wpAny (model X.prog X.w) A (getAttr (.ref a) f b) Q E s:=by
 obtain ⟨mA,O,r,_,_,_⟩:=LC I.hok e
 obtain ⟨u,hu,ru⟩:=Gs.some_of (v:=v) (o:=mA f) (by rw [←l];exact r f)
 exact Y0 I.kIn O (c.get f) c.hd n hu (Ox ru) (h u _ (I.tok _) ru)
theorem JP{m:Str}{g:Addr}{pl:Sem Bool}{Q:Value×List Value→Shared→Prop}(I:Inv X aA σ H s)(e:H a=some (.ins C dx fs))(c:Cls X.K C)(k:W4 X.K C m g)(l:fs.lookup m=none)
  (h:Q (.ref g,[.ref a]) s):wpAny (model X.prog X.w) A (getMethod (.ref a) m pl) Q E s:=by
 obtain ⟨mA,O,r,_,_,_⟩:=LC I.hok e
 have hn:mA m=none:=Gs.none_of (by rw [←l];exact r m)
 exact Xx I.kIn O (c.get m) k.at_ k.fn hn h
theorem TY{y:V}{u:Value}{Q:Unit→Shared→Prop}(I:Inv X aA σ H s)(e:H a=some (.ins C dx fs))(c:Cls X.K C)(n:Ff X.K C f)(hl:fs.length<1000)(ry:Bb y u)
  (h:∀s',Inv X aA σ (upd H a (.ins C dx (Hh f y fs))) s'→Q () s'):wpAny (model X.prog X.w) A (setAttr (.ref a) f u) Q E s:=by
 obtain ⟨mA,O,r,wi,_,ho⟩:=LC I.hok e
 have hz:(fs.map (·.1)).length≤sizeLine:=by rw [List.length_map,sizeLine_eq];omega
 refine Y7 I.kIn O c.sa c.po n.taker c.hd wi hz fun h' O' sb=>h _ ?_
 have hd:∃o,h'.get? dx=some o:=let ⟨o,_,_,e',_⟩:=O'.ns;⟨o,e'⟩
 refine I.write (x:=a) (e:=dx) (by rw [e];exact True.intro) (.inr ho) (fun b q hb z=>(sb.2 b hb).trans z) hd ?_
 refine ⟨by rw [Ai O.ne];exact ho,?_,O.ne,O'.obj,_,O'.ns,fun g=>?_,fun g hg=>?_⟩
 ·have:=Ks f y fs;omega
 ·show Gs ((Hh f y fs).lookup g) (if g=f then some u else mA g)
  rw [Ku]
  by_cases q:g=f
  ·rw [if_pos q,if_pos q];exact ry
  ·rw [if_neg q,if_neg q];exact r g
 ·by_cases q:g=f
  ·rw [q];exact (Jw f y fs).1
  ·refine (Jw f y fs).2 g (wi g fun z=>hg ?_)
   show (if g=f then some u else mA g)=none
   rw [if_neg q];exact z
theorem Inv.made(I:Inv X aA σ H s):Inv X aA σ (upd (upd H s.heap.objs.size (.own (s.heap.objs.size+1))) (s.heap.objs.size+1) (.ins C s.heap.objs.size []))
  { s with heap:=(s.heap.push PySem.W.emptyDict).push (PySem.W.instObj C s.heap.objs.size) }:=by
 have e1:(s.heap.push PySem.W.emptyDict).get? s.heap.objs.size=some PySem.W.emptyDict:=Heap.get?_push_size s.heap rfl
 have e2:((s.heap.push PySem.W.emptyDict).push (PySem.W.instObj C s.heap.objs.size)).get? (s.heap.objs.size+1)=some (PySem.W.instObj C s.heap.objs.size):=by
  have:=Heap.get?_push_size (s.heap.push PySem.W.emptyDict) (o:=PySem.W.instObj C s.heap.objs.size) rfl
  rwa [Heap.size_push] at this
 have e3:(s.heap.push PySem.W.emptyDict).Ns s.heap.objs.size (fun _=>none):=⟨PySem.W.emptyDict,#[],_,e1,rfl,(fun e he=>absurd he (by simp)),fun _=>rfl⟩
 have I1:=I.laid (a:=s.heap.objs.size) (o:=.own (s.heap.objs.size+1)) (h':=s.heap.push PySem.W.emptyDict) (t':=s.toks) (fun b u q=>Heap.get?_push_of_some _ q) (Nat.le_refl _) ⟨_,e1⟩
 refine I1.laid (a:=s.heap.objs.size+1) (o:=.ins C s.heap.objs.size []) (t':=s.toks) (fun b u q=>Heap.get?_push_of_some _ q) (Nat.le_of_eq (Heap.size_push _ _)) ?_
 have ne:s.heap.objs.size≠s.heap.objs.size+1:=Nat.ne_of_lt (Nat.lt_succ_self _)
 refine ⟨by rw [Ai ne,Ad],Nat.zero_le _,ne,e2,fun _=>none,(Heap.Ns1.of_empty e3).at fun o q=>Heap.get?_push_of_some _ q,fun _=>True.intro,fun y hy=>absurd rfl hy⟩
theorem VP{prog:Program}{w:World}{env:Env}{e:Expr}{f:Str}{pos:Pos}{s:Shared}{Q:Value→Shared→Prop}(hb:attributeBase e f env (eval e env)=eval e env)
  (h:wpAny (model prog w) A (eval e env) (fun o s₁=>wpAny (model prog w) A (getAttr o f true) Q E s₁) E s):wpAny (model prog w) A (eval (.Attribute e f pos) env) Q E s :=
 Attribute_any_ h (by rw [arm_eval_Attribute,hb])
end
def AJg(K:PySem.W.Frag)(ta:TE)(f:Str):TE:=fun σ H Q=>ta σ H fun x H1=>∃a C dx fs v,x=.ref a∧H1 a=some (.ins C dx fs)∧Cls K C∧Ff K C f∧fs.lookup f=some v∧Q v H1
def AKi(K:PySem.W.Frag)(ta:TE)(f:Str):TE:=fun σ H Q=>ta σ H fun x H1=>∃a C dx fs v u,x=.ref a∧H1 a=some (.ins C dx fs)∧Cls K C∧Con K C f v u∧fs.lookup f=none∧Q v H1
def AI4(K:PySem.W.Frag)(ta tv:TE)(f:Str):TS:=fun D σ H=>tv σ H fun y H1=>ta σ H1 fun x H2=>∃a C dx fs,x=.ref a∧H2 a=some (.ins C dx fs)∧Cls K C∧Ff K C f∧fs.length<1000 ∧
 D.nx σ (upd H2 a (.ins C dx (Hh f y fs)))
def AKj(X:Cx)(op:Operator)(rd:V→V→Hp→VK→Prop):Prop :=
 ∀(aA:List (Addr×Obj)) (s:Shared) (σ:St) (H:Hp) (x y:V) (u v:Value) (Q:VK),Inv X aA σ H s→Bb x u→Bb y v→rd x y H Q→wpAny (model X.prog X.w) X.A (inplaceOp op u v) (EP X aA σ Q) X.xe s
def AIj(K:PySem.W.Frag)(ta tv:TE)(rd:V→V→Hp→VK→Prop)(f:Str):TS:=fun D σ H=>ta σ H fun x H1=>∃a C dx fs v,x=.ref a∧H1 a=some (.ins C dx fs)∧Cls K C∧Ff K C f∧fs.lookup f=some v ∧
 tv σ H1 fun y H2=>rd v y H2 fun z H3=>∃dx' fs',H3 a=some (.ins C dx' fs')∧fs'.length<1000∧D.nx σ (upd H3 a (.ins C dx' (Hh f z fs')))
section
variable {X:Cx}{o e value:Expr}{f:Str}{pos pos' tpos:Pos}{ta tv:TE}
theorem HX(he:PE X e ta)(hb:attributeBase e f X.env (eval e X.env)=eval e X.env):PE X (.Attribute e f pos) (AJg X.K ta f):=by
 intro aA s σ H Q I h
 refine VP hb (thn (he aA s σ H _ I h) fun u s1 ⟨x,H1,I1,rx,a,C,dx,fs,v,ex,ea,c,n,l,q⟩=>?_)
 subst ex
 obtain rfl:u=Value.ref a:=rx
 exact S8 I1 ea c n l fun u' s2 I2 ru=>⟨v,H1,I2,ru,q⟩
theorem Tt(ha:PE X o ta)(hv:PE X value tv)(hs:swapsWith value (some (.Attribute o f pos')) pos.line X.env=pure false):PS X (.Assign [.Attribute o f pos'] value pos) (AI4 X.K ta tv f):=by
 intro aA s σ H D I h
 refine plainObj_wpAny_Assign_Attribute (thn (hv aA s σ H _ I h) fun u s1 ⟨y,H1,I1,ry,q⟩=>thn (ha aA s1 σ H1 _ I1 q) fun ov s2 ⟨x,H2,I2,rx,a,C,dx,fs,ex,ea,c,n,l,q2⟩=>?_) hs
 subst ex
 obtain rfl:ov=Value.ref a:=rx
 exact TY I2 ea c n l ry fun s3 I3=>⟨σ,_,I3,q2⟩
def AKc:V→V→Hp→VK→Prop:=fun x y H Q=>∃i j,x=.int i∧y=.int j∧Q (.int (i+j)) H
def AKd:V→V→Hp→VK→Prop:=fun x y H Q=>∃i j,x=.int i∧y=.int j∧Q (.int (i-j)) H
end
section
variable {X:Cx}{aA:List (Addr×Obj)}{σ:St}{H:Hp}{s:Shared}{A:Around}{E:Value→Shared→Prop}{Q:Value→Shared→Prop}{c:Value}{b:Bool}
inductive Gx(K:PySem.W.Frag)(H:Hp):V→Value→Prop where
 | non:Gx K H .non (.type "NoneType")
 | bl (x:Bool):Gx K H (.bl x) (.type "bool")
 | int (i:Int):Gx K H (.int i) (.type "int")
 | str (x:Str):Gx K H (.str x) (.type "str")
 | flt (x:UInt64):Gx K H (.flt x) (.type "float")
 | lst {a:Addr} {xs:List V} (e:H a=some (.lst xs)):Gx K H (.ref a) (.type "list")
 | frz {a:Addr} {o:Obj} {xs:List V} (e:H a=some (.frz o (.lst xs))):Gx K H (.ref a) (.type "list")
 | tup {a:Addr} {xs:List V} (e:H a=some (.tup xs)):Gx K H (.ref a) (.type "tuple")
 | dK {a:Addr} {aG:List (Key×V)} (e:H a=some (.dK aG)):Gx K H (.ref a) (.type "dict")
 | dT {a:Addr} {aG:List (List Key×V)} (e:H a=some (.dT aG)):Gx K H (.ref a) (.type "dict")
 | ins {a C dx:Addr} {fs:List (Str×V)} (e:H a=some (.ins C dx fs)) (cl:Cls K C) (ha:PySem.W.findIn K (.ref C) "__class__"=some (some (.builtin "object.__class__")))
   (hn:PySem.W.specialIn K (.builtin "object.__class__") "__get__"=some (some (.builtin "getset_descriptor.__get__"))) (htk:PySem.W.takesIn K (.builtin "object.__class__")=some true)
   (hm:PySem.W.mroIn K C (.type "object")=some true):Gx K H (.ref a) (.ref C)
theorem Wk{x:V}{u t:Value}(I:Inv X aA σ H s)(rx:Bb x u)(ty:Gx X.K H x t)(e:PySem.W.kitOne X.K t c=some b)(h:∀tk,Q (.bool b) { s with toks:=tk }) :
  wpAny (model X.prog X.w) A (call (.builtin "isinstance") [u,c]) Q E s:=by
 cases ty with
 | non=>cases (show u=Value.none from rx);exact PySem.W.kia_one PySem.W.kitx_none I.kIn True.intro e (fun z=>nomatch z) h
 | bl y=>cases (show u=Value.bool y from rx);exact PySem.W.kia_one PySem.W.kitx_bool I.kIn True.intro e (fun z=>nomatch z) h
 | int i=>obtain ⟨t,q⟩:=(show ∃t,u=Value.int i t from rx);cases q;exact PySem.W.kia_one PySem.W.kitx_int I.kIn True.intro e (fun z=>nomatch z) h
 | str y=>obtain ⟨t,q⟩:=(show ∃t,u=Value.str y t from rx);cases q;exact PySem.W.kia_one PySem.W.kitx_str I.kIn True.intro e (fun z=>nomatch z) h
 | flt y=>obtain ⟨t,q⟩:=(show ∃t,u=Value.float y t from rx);cases q;exact PySem.W.kia_one PySem.W.kitx_float I.kIn True.intro e (fun z=>nomatch z) h
 | @lst a xs ea =>
  cases (show u=Value.ref a from rx)
  obtain ⟨_,_,n,_,h1⟩:=(show Bl X.prog X.w H s.heap a (.lst xs) from I.hok a _ ea)
  exact PySem.W.kia_one PySem.W.kitx_list I.kIn ⟨_,h1,rfl⟩ e (fun z=>nomatch z) h
 | @frz a ob xs ea =>
  cases (show u=Value.ref a from rx)
  obtain ⟨_,_,_,n,_,h1⟩:=(show Bl X.prog X.w H s.heap a (.frz ob (.lst xs)) from I.hok a _ ea)
  exact PySem.W.kia_one PySem.W.kitx_list I.kIn ⟨_,h1,rfl⟩ e (fun z=>nomatch z) h
 | @tup a xs ea =>
  cases (show u=Value.ref a from rx)
  obtain ⟨_,_,_,p⟩:=(show Bl X.prog X.w H s.heap a (.tup xs) from I.hok a _ ea)
  obtain ⟨o,h1,h2,_⟩:=p
  exact PySem.W.kia_one PySem.W.kitx_tuple I.kIn ⟨o,h1,h2⟩ e (fun z=>nomatch z) h
 | @dK a aG ea =>
  cases (show u=Value.ref a from rx)
  obtain ⟨_,_,vs,_,p⟩:=(show Bl X.prog X.w H s.heap a (.dK aG) from I.hok a _ ea)
  obtain ⟨o,es,ep,h1,h2,_⟩:=p
  exact PySem.W.kia_one PySem.W.kitx_dict I.kIn ⟨o,h1,h2.1⟩ e (fun z=>nomatch z) h
 | @dT a aG ea =>
  cases (show u=Value.ref a from rx)
  obtain ⟨_,_,xs,_,o,es,ep,h1,h2,_⟩:=(show Bl X.prog X.w H s.heap a (.dT aG) from I.hok a _ ea)
  exact PySem.W.kia_one PySem.W.kitx_dict I.kIn ⟨o,h1,h2.1⟩ e (fun z=>nomatch z) h
 | @ins a C dx fs ea cl ha hn htk hm =>
  cases (show u=Value.ref a from rx)
  obtain ⟨mA,O,_⟩:=LC I.hok ea
  obtain ⟨od,J,_⟩:=O.look
  exact PySem.W.kia_one (PySem.W.kitx_own (cl.get _) cl.hd ha hn htk hm) I.kIn J e (fun z=>nomatch z) h
end
end L2
namespace L2
open PySem PySem.Spec PyProof.Rows
structure Df(k:Nat)(A:Around):Prop where
 hd:A.handled=none
 dp:A.depth+3*k+5<recursionLimit
 un:A.units+16*k+200<cLine
theorem Df.mono{j k:Nat}{A:Around}(r:Df k A)(h:j≤k):Df j A:=⟨r.hd,by have:=r.dp;omega,by have:=r.un;omega⟩
theorem Df.deeper{k:Nat}{A:Around}(r:Df (k+1) A)(env:Env):Df k (A.deeper env) :=
 ⟨r.hd,by have:=r.dp;show A.depth+1+3*k+5<_;omega,by have:=r.un;show A.units+3+16*k+200<_;omega⟩
theorem TJ{A:Around}{C:Addr}{us:List Value}{kw:List (Str×Value)}:(A.under (.builtin "type.__call__" ⟨.ref C::us,kw⟩)).depth=A.depth+1:=by
 first | rfl | simp [Around.under,Code.weight,Code.isCreation,Code.isGuard,Code.isCaller,Code.frames,Code.isFrame,guardIds]
theorem UL{A:Around}{C:Addr}{us:List Value}{kw:List (Str×Value)}:(A.under (.builtin "type.__call__" ⟨.ref C::us,kw⟩)).units=A.units+1:=by
 first | rfl | simp [Around.under,Code.cUnits,Code.frames,Code.isFrame]
theorem Df.make{k:Nat}{A:Around}(r:Df (k+1) A)(C:Addr)(us:List Value)(kw:List (Str×Value)):Df k (A.under (.builtin "type.__call__" ⟨.ref C::us,kw⟩)) :=
 ⟨r.hd,by have:=r.dp;rw [TJ];omega,by have:=r.un;rw [UL];omega⟩
theorem Df.depth{k:Nat}{A:Around}(r:Df k A):A.depth<recursionLimit:=by have:=r.dp;omega
def Rf:TA:=fun _ H Q=>Q [] H
def Mh(ta:TE)(tr:TA):TA:=fun σ H Q=>ta σ H fun x H1=>tr σ H1 fun xs H2=>Q (x::xs) H2
section
variable {X:Cx}{e:Expr}{es:List Expr}{te:TE}{t:TA}{pos:Pos}
theorem Ae:PA X [] Rf:=fun _ _ _ _ H Q I h=>Calls.spliced_nil ⟨[],H,I,.nil,h⟩
theorem Aa(ha:PE X e te)(hr:PA X es t)(hs:starEach (e::es) X.env=(false,eval e X.env)::starEach es X.env:=by rfl):PA X (e::es) (Mh te t):=by
 intro pos aA s σ H Q I h
 rw [hs]
 show wpAny _ _ (spliced ((false,eval e X.env)::backTo pos (starEach es X.env))) _ _ s
 refine Calls.spliced_cons (thn (ha aA s σ H _ I h) fun u s1 ⟨x,H1,I1,r1,q1⟩=>?_)
 exact thn (hr pos aA s1 σ H1 _ I1 q1) fun us s2 ⟨xs,H2,I2,r2,q2⟩=>⟨x::xs,H2,I2,.cons r1 r2,q2⟩
def ACU(t:TA):TE:=fun σ H Q=>t σ H fun xs H1=>xs.length≤sizeLine∧∀p,H1 p=none→Q (.ref p) (upd H1 p (.tup xs))
def AAy(t:TA):TE:=fun σ H Q=>t σ H fun xs H1=>xs.length≤sizeLine∧∀p,H1 p=none→Q (.ref p) (upd H1 p (.lst xs))
theorem Dc{x1}(h:PA X es t):PE X (.Tuple es x1 pos) (ACU t):=by
 intro aA s σ H Q I hq
 refine wpAny_Tuple_spliced (thn (h pos aA s σ H _ I hq) fun us s1 ⟨xs,H1,I1,r,z,q⟩=>⟨by rw [←r.length];exact z,?_⟩)
 have hf:H1 s1.heap.objs.size=none:=I1.hok.fresh (Nat.le_refl _)
 refine ⟨.ref s1.heap.objs.size,upd H1 s1.heap.objs.size (.tup xs),I1.laid (t':=s1.toks) (fun b u e=>Heap.get?_push_of_some _ e) (Nat.le_refl _) ?_,rfl,q _ hf⟩
 exact ⟨z,us,r,⟨_,Heap.get?_push_size _ rfl,rfl,_,rfl⟩⟩
theorem Er(h:PA X es t):PE X (.List es pos) (AAy t):=by
 intro aA s σ H Q I hq
 refine wpAny_List_spliced (thn (h pos aA s σ H _ I hq) fun us s1 ⟨xs,H1,I1,r,z,q⟩=>⟨by rw [←r.length];exact z,?_⟩)
 have hf:H1 s1.heap.objs.size=none:=I1.hok.fresh (Nat.le_refl _)
 refine ⟨.ref s1.heap.objs.size,upd H1 s1.heap.objs.size (.lst xs),I1.laid (t':=s1.toks) (fun b u e=>Heap.get?_push_of_some _ e) (Nat.le_refl _) ?_,rfl,q _ hf⟩
 exact ⟨z,us,0,r,Heap.get?_push_size _ rfl⟩
end
abbrev Sp:=List V→Hp→VK→XK→Prop
abbrev CXT:=List Env→Hp→Shared→XK→Value→Shared→Prop
structure T3(P:Program)(w:World)(K:PySem.W.Frag)(mg:Str→Option Value)(base:Heap)(A:Around)(outer:List Env)(s:Shared)(H:Hp):Prop where
 frames:A.frames=some outer
 mod:Mod K mg base
 bs:∀b o,base.get? b=some o→s.heap.get? b=some o∧H b=none
 bsz:base.objs.size≤s.heap.objs.size
 funs:s.heap.FunFrames base outer
 frf:∀b∈frs outer,H b=none
 hok:HOk P w H s.heap
 bare:AllBare s.gens
def CE(outer:List Env)(P:Program)(w:World)(H:Hp)(s:Shared)(Q:VK)(u:Value)(s':Shared):Prop :=
 ∃v H',s'.os=s.os∧AllBare s'.gens∧Un (frs outer) [] H H' s.heap s'.heap∧HOk P w H' s'.heap∧Bb v u∧Q v H'
def CR(CX:CXT)(outer:List Env)(P:Program)(w:World)(H:Hp)(s:Shared)(Q:VK)(E:XK)(r:Result)(s':Shared):Prop :=
 match r with
 | .ok (.ret u)=>CE outer P w H s Q u s'
 | .ok _=>False
 | .error e=>CX outer H s E e s'
structure BZ(P:Program)(w:World)(K:PySem.W.Frag)(mg:Str→Option Value)(base:Heap)(CX:CXT)(k:Nat)(f:Addr)(fd:FuncData)(ps:List Str)(sp:Sp):Prop where
 len:∀vs H Q E,sp vs H Q E→vs.length=ps.length
 run:∀(A:Around) (outer:List Env) (s:Shared) (H:Hp) (args:Args) (us:List Value) (vs:List V) (Q:VK) (E:XK),Df k A→T3 P w K mg base A outer s H→BindsTo s fd args (ps.zip us)→BW vs us→sp vs H Q E →
  codeAny (model P w) A (.call (.ref f) args) (CR CX outer P w H s Q E) s
theorem BZ.imp{P:Program}{w:World}{K:PySem.W.Frag}{mg:Str→Option Value}{base:Heap}{CX:CXT}{k:Nat}{f:Addr}{fd:FuncData}{ps:List Str}{sp sp':Sp}(F:BZ P w K mg base CX k f fd ps sp)
  (h:∀vs H Q E,sp' vs H Q E→sp vs H Q E):BZ P w K mg base CX k f fd ps sp' :=
 ⟨fun vs H Q E q=>F.len vs H Q E (h _ _ _ _ q),fun A outer s H args us vs Q E hr he hb hv hs=>F.run A outer s H args us vs Q E hr he hb hv (h _ _ _ _ hs)⟩
theorem T3.make{P:Program}{w:World}{K:PySem.W.Frag}{mg:Str→Option Value}{base:Heap}{A:Around}{outer:List Env}{s:Shared}{H:Hp}(e:T3 P w K mg base A outer s H)(C:Addr)(us:List Value)(kw:List (Str×Value)) :
  T3 P w K mg base (A.under (.builtin "type.__call__" ⟨.ref C::us,kw⟩)) outer s H:=⟨by first | exact e.frames | (simpa [Around.under,Code.envs,Code.isFrame,pushEnvs] using e.frames),e.mod,e.bs,e.bsz,e.funs,e.frf,e.hok,e.bare⟩
section
variable {X:Cx}{aA:List (Addr×Obj)}{σ:St}{H:Hp}{s s':Shared}
theorem Inv.env0(I:Inv X aA σ H s):T3 X.prog X.w X.K X.mg X.base X.A X.stack s H :=
 ⟨I.ok.frames,I.ok.mod,I.bs,Nat.le_trans I.ok.bsz I.sz,I.stack,I.stkFree,I.hok,I.bare⟩
theorem Inv.after{Q:VK}{u:Value}(I:Inv X aA σ H s)(h:CE X.stack X.prog X.w H s Q u s'):EP X aA σ Q u s':=by
 obtain ⟨v,H',os,bare,un,hok,r,q⟩:=h
 obtain ⟨hh,g,d,t,os'⟩:=s'
 obtain rfl:os'=s.os:=os
 exact ⟨v,H',I.call (h':=hh) (g':=g) (d':=d) (t':=t) (ch:=[]) un hok bare (fun b z=>absurd z (by simp)),r,q⟩
end
def VM(sp:Sp)(dvs:List V)(E:XK)(t:TA):TE:=fun σ H Q=>t σ H fun vs H1=>sp (vs++dvs) H1 Q E
def Uz(C:Addr)(m:Str)(sp:Sp)(dvs:List V)(E:XK)(ta:TE)(t:TA):TE:=fun σ H Q=>ta σ H fun x H1=>∃a dx fs,x=.ref a∧H1 a=some (.ins C dx fs)∧fs.lookup m=none ∧
 t σ H1 fun vs H2=>sp (x::(vs++dvs)) H2 Q E
def Rg(C:Addr)(sp:Sp)(dvs:List V)(E:XK)(t:TA):TE:=fun σ H Q=>t σ H fun vs H1=>∀x dx,H1 x=none→H1 dx=none→dx≠x →
 sp (.ref x::(vs++dvs)) (upd (upd H1 dx (.own x)) x (.ins C dx [])) (fun v H2=>v=.non∧Q (.ref x) H2) E
def En(K:PySem.W.Frag)(fd:FuncData)(ps:List Str)(ds:List Value):Prop :=
 ∀(s:Shared) (us:List Value),K.In s.heap→(us++ds).length=ps.length→BindsTo s fd ⟨us,[]⟩ (ps.zip (us++ds))
theorem En.all{K:PySem.W.Frag}{fd:FuncData}{ps:List Str}(h:∀us:List Value,us.length=ps.length→bindArgs fd ⟨us,[]⟩=pure (ps.zip us)):En K fd ps []:=fun s us _ hl=>by
 rw [List.append_nil] at hl ⊢
 exact .of_eq (h us hl)
def Dy(CX:CXT)(X:Cx)(E:XK):Prop:=∀(aA:List (Addr×Obj)) (σ:St) (H:Hp) (s:Shared) (e:Value) (s':Shared),Inv X aA σ H s→CX X.stack H s E e s'→X.xe e s'
section
variable {X:Cx}{CX:CXT}{k:Nat}{f C:Addr}{fd:FuncData}{ps:List Str}{sp:Sp}{dvs:List V}{ds:List Value}{E:XK}{x m:Str}{p pos aF:Pos}{e o:Expr}{es:List Expr}{ta:TE}{t:TA}
theorem TV{aA:List (Addr×Obj)}{σ:St}{H:Hp}{s:Shared}{Q:VK}{us:List Value}{vs:List V}(F:BZ X.prog X.w X.K X.mg X.base CX k f fd ps sp)(hr:Df k X.A)(hb:En X.K fd ps ds)(hd:BW dvs ds)(hx:Dy CX X E)
  (I:Inv X aA σ H s) (r:BW vs us) (h:sp (vs++dvs) H Q E):wpAny (model X.prog X.w) X.A (call (.ref f) us) (EP X aA σ Q) X.xe s:=by
 have r2:BW (vs++dvs) (us++ds):=r.append hd
 have hl:(us++ds).length=ps.length:=by rw [←r2.length];exact F.len _ _ _ _ h
 refine wpAny_call (codeAny_mono (F.run X.A X.stack s H ⟨us,[]⟩ (us++ds) (vs++dvs) Q E hr I.env0 (hb s us I.kIn hl) r2 h) fun r s' hq=>?_)
 cases r with
 | error e=>exact hx aA σ H s e s' I hq
 | ok fl =>
  cases fl with
  | ret u=>exact I.after hq
  | next=>exact False.elim hq
  | brk=>exact False.elim hq
  | cont=>exact False.elim hq
theorem U6(F:BZ X.prog X.w X.K X.mg X.base CX k f fd ps sp)(hr:Df k X.A)(hg:Gl X x)(hm:X.mg x=some (.ref f))(hk:PySem.W.keepIn X.K (.ref f)=true)(hb:En X.K fd ps ds)(hd:BW dvs ds)(hx:Dy CX X E)
  (ha:PA X (e::es) t) (hdb:(x==("__debug__":Str))=false:=by decide) (he:starEach (e::es) X.env=(false,eval e X.env)::starEach es X.env:=by rfl) (hpl:(backTo pos (starEach es X.env)).any (·.1)=false:=by rfl) :
  PE X (.Call (.Name x p) (e::es) [] pos) (VM sp dvs E t):=by
 intro aA s σ H Q I h
 refine wpAny_Call_Name_kw (Ha I hg hm ?_ hdb)
 refine PySem.W.callWith_K (h₀:=X.base) I.ok.mod.kin hk (thn (ha pos aA s σ H _ I h) fun us s1 ⟨vs,H1,I1,r,q⟩=>⟨I1.kIn,?_⟩) he hpl
 exact TV F hr hb hd hx I1 r q
theorem Yx{pl:Sem Bool}(he:PE X o ta)(c:Cls X.K C)(hm:W4 X.K C m f)(F:BZ X.prog X.w X.K X.mg X.base CX k f fd ps sp)(hr:Df k X.A)(hb:En X.K fd ps ds)(hd:BW dvs ds)(hx:Dy CX X E)(ha:PA X (e::es) t)
  (hst:starEach (e::es) X.env=(false,eval e X.env)::starEach es X.env:=by rfl) (hpl:(backTo pos (starEach es X.env)).any (·.1)=false:=by rfl)
  (ht:eval (.Call (.Attribute o m aF) (e::es) [] pos) X.env=(do
   let ov ←eval o X.env
   standAt aF.atName
   let (f,first) ←holding [ov] (getMethod ov m pl)
   callWith pos f first (backTo pos (starEach (e::es) X.env)) (backToKw pos (keywordEach [] X.env))):=by rfl) :
  PE X (.Call (.Attribute o m aF) (e::es) [] pos) (Uz C m sp dvs E ta t):=by
 intro aA s σ H Q I h
 refine PySem.W.methodCall_KW (pl:=pl) (thn (he aA s σ H _ I h) fun u s1 ⟨x,H1,I1,rx,a,dx,fs,ex,ea,l,q⟩=>?_) ht
 subst ex
 obtain rfl:u=Value.ref a:=rx
 refine JP I1 ea c hm l ?_
 refine PySem.W.callWith_K (first:=[.ref a]) (h₀:=X.base) I.ok.mod.kin hm.kp (thn (ha pos aA s1 σ H1 _ I1 q) fun us s2 ⟨vs,H2,I2,r,q2⟩=>⟨I2.kIn,?_⟩) hst hpl
 exact TV (us:=.ref a::us) (vs:=.ref a::vs) F hr hb hd hx I2 (.cons rfl r) q2
theorem Wz{pl:Sem Bool}(he:PE X o ta)(c:Cls X.K C)(hm:W4 X.K C m f)(F:BZ X.prog X.w X.K X.mg X.base CX k f fd ps sp)(hr:Df k X.A)(hb:En X.K fd ps ds)(hd:BW dvs ds)(hx:Dy CX X E)
  (ht:eval (.Call (.Attribute o m aF) [] [] pos) X.env=(do
   let ov ←eval o X.env
   standAt aF.atName
   let (f,first) ←holding [ov] (getMethod ov m pl)
   callWith pos f first (backTo pos (starEach [] X.env)) (backToKw pos (keywordEach [] X.env))):=by rfl) :
  PE X (.Call (.Attribute o m aF) [] [] pos) (Uz C m sp dvs E ta Rf):=by
 intro aA s σ H Q I h
 refine PySem.W.methodCall_KW (pl:=pl) (thn (he aA s σ H _ I h) fun u s1 ⟨x,H1,I1,rx,a,dx,fs,ex,ea,l,q⟩=>?_) ht
 subst ex
 obtain rfl:u=Value.ref a:=rx
 refine JP I1 ea c hm l ?_
 exact PySem.W.callWith_K0 (first:=[.ref a]) I1.kIn hm.kp (TV (us:=[.ref a]) (vs:=[.ref a]) F hr hb hd hx I1 (.cons rfl .nil) q)
structure Mk(K:PySem.W.Frag)(C f:Addr):Prop where
 makes:PySem.W.makesIn K C=true
 init:PySem.W.findIn K (.ref C) "__init__"=some (some (.ref f))
 fn:PySem.W.isFn K (.ref f)=true
 kp:PySem.W.keepIn K (.ref C)=true
theorem RW{aA:List (Addr×Obj)}{σ:St}{H:Hp}{s:Shared}{Q:VK}{us:List Value}{vs:List V}(M:Mk X.K C f)(F:BZ X.prog X.w X.K X.mg X.base CX k f fd ps sp)(hr:Df (k+1) X.A)(hb:En X.K fd ps ds)(hd:BW dvs ds)
  (hx:Dy CX X E) (I:Inv X aA σ H s) (r:BW vs us)
  (h:∀x dx,H x=none→H dx=none→dx≠x→sp (.ref x::(vs++dvs)) (upd (upd H dx (.own x)) x (.ins C dx [])) (fun v H2=>v=.non∧Q (.ref x) H2) E) :
  wpAny (model X.prog X.w) X.A (call (.ref C) us) (EP X aA σ Q) X.xe s:=by
 have hq:=h (s.heap.objs.size+1) s.heap.objs.size (I.hok.fresh (Nat.le_succ _)) (I.hok.fresh (Nat.le_refl _)) (Nat.ne_of_lt (Nat.lt_succ_self _))
 have I2:=Inv.made (C:=C) I
 have r2:BW (V.ref (s.heap.objs.size+1)::(vs++dvs)) (Value.ref (s.heap.objs.size+1)::(us++ds)):=.cons rfl (r.append hd)
 have hl:(Value.ref (s.heap.objs.size+1)::us++ds).length=ps.length:=by
  have e:=r2.length
  rw [F.len _ _ _ _ hq] at e
  exact e.symm
 refine wpAny_call (Xp (f:=f) I.kIn M.makes M.init (beq_iff_eq.mp M.fn) (codeAny_mono (F.run _ X.stack _ _ ⟨Value.ref (s.heap.objs.size+1)::us,[]⟩ (Value.ref (s.heap.objs.size+1)::(us++ds)) _ _ E (hr.make C us [])
  (I2.env0.make C us []) (hb _ (Value.ref (s.heap.objs.size+1)::us) I2.kIn hl) r2 hq) fun r s' hq'=>?_))
 cases r with
 | error e=>exact hx aA σ _ _ e s' I2 hq'
 | ok fl =>
  cases fl with
  | ret u =>
   obtain ⟨v,H',I3,rv,ev,q3⟩:=I2.after hq'
   subst ev
   exact ⟨rv,⟨V.ref (s.heap.objs.size+1),H',I3,rfl,q3⟩⟩
  | next=>exact False.elim hq'
  | brk=>exact False.elim hq'
  | cont=>exact False.elim hq'
theorem U5(M:Mk X.K C f)(F:BZ X.prog X.w X.K X.mg X.base CX k f fd ps sp)(hr:Df (k+1) X.A)(hg:Gl X x)(hm:X.mg x=some (.ref C))(hb:En X.K fd ps ds)(hd:BW dvs ds)(hx:Dy CX X E)
  (ha:PA X (e::es) t) (hdb:(x==("__debug__":Str))=false:=by decide) (he:starEach (e::es) X.env=(false,eval e X.env)::starEach es X.env:=by rfl) (hpl:(backTo pos (starEach es X.env)).any (·.1)=false:=by rfl) :
  PE X (.Call (.Name x p) (e::es) [] pos) (Rg C sp dvs E t):=by
 intro aA s σ H Q I h
 refine wpAny_Call_Name_kw (Ha I hg hm ?_ hdb)
 refine PySem.W.callWith_K (h₀:=X.base) I.ok.mod.kin M.kp (thn (ha pos aA s σ H _ I h) fun us s1 ⟨vs,H1,I1,r,q⟩=>⟨I1.kIn,?_⟩) he hpl
 exact RW M F hr hb hd hx I1 r q
theorem XN(M:Mk X.K C f)(F:BZ X.prog X.w X.K X.mg X.base CX k f fd ps sp)(hr:Df (k+1) X.A)(hg:Gl X x)(hm:X.mg x=some (.ref C))(hb:En X.K fd ps ds)(hd:BW dvs ds)(hx:Dy CX X E)
  (hdb:(x==("__debug__":Str))=false:=by decide):PE X (.Call (.Name x p) [] [] pos) (Rg C sp dvs E Rf):=by
 intro aA s σ H Q I h
 refine wpAny_Call_Name_kw (Ha I hg hm ?_ hdb)
 exact PySem.W.callWith_K0 I.kIn M.kp (RW (us:=[]) M F hr hb hd hx I .nil h)
end
def PK(X:Cx)(kws:List Keyword)(t:TA):Prop :=
 ∀(pos:Pos) (aA:List (Addr×Obj)) (s:Shared) (σ:St) (H:Hp) (Q:List V→Hp→Prop),Inv X aA σ H s→t σ H Q→wpAny (model X.prog X.w) X.A (evalAll ((backToKw pos (keywordEach kws X.env)).map (·.2))) (AP X aA σ Q) X.xe s
section
variable {X:Cx}{CX:CXT}{k:Nat}{f C:Addr}{fd:FuncData}{ps ks:List Str}{sp:Sp}{E:XK}{x m:Str}{p pos aF kpos:Pos}{e o:Expr}{es:List Expr}{kws:List Keyword}{te ta:TE}{t tk:TA}{nm:Option Str}
structure AAl(K:PySem.W.Frag)(fd:FuncData)(ps ks:List Str)(g:List Value→List Value→List Value)(gV:List V→List V→List V):Prop where
 to:∀(s:Shared) (us ws:List Value),K.In s.heap→(g us ws).length=ps.length→BindsTo s fd ⟨us,ks.zip ws⟩ (ps.zip (g us ws))
 rel:∀{vs:List V} {us:List Value} {zs:List V} {ws:List Value},BW vs us→BW zs ws→BW (gV vs zs) (g us ws)
def AI7(sp:Sp)(gV:List V→List V→List V)(E:XK)(t tk:TA):TE:=fun σ H Q=>t σ H fun vs H1=>tk σ H1 fun zs H2=>sp (gV vs zs) H2 Q E
variable {g:List Value→List Value→List Value}{gV:List V→List V→List V}
end
structure Aw(N P:List Str)(sc:Scope):Prop where
 kind:sc.kind=.function
 co:sc.isCoroutine=false
 gen:sc.isGenerator=false
 nd:N.Nodup
 pre:N.take P.length=P
 par:∀x∈P,sc.names.lookup x=some .local∨sc.names.lookup x=some .cell
 nofree:∀y∈sc.names,y.2≠.free
theorem PJ{kindOf:Str→Option NameKind}{x:Str}:∀{binds:List (Str×Value)} {m:Str→Option Value},(∀v,(x,v)∉binds)→bindL kindOf binds m x=m x
 | [],_,_=>rfl
 | (n,v)::r,m,h=>by
  unfold bindL
  rw [PJ fun w hw=>h w (List.mem_cons_of_mem _ hw)]
  split
  ·have:x≠n:=by rintro rfl;exact h v List.mem_cons_self
   simp [this]
  ·rfl
theorem PN{kindOf:Str→Option NameKind}{x:Str}:∀{binds:List (Str×Value)} {m:Str→Option Value},(∀v,(x,v)∉binds)→bindC kindOf binds m x=m x
 | [],_,_=>rfl
 | (n,v)::r,m,h=>by
  unfold bindC
  rw [PN fun w hw=>h w (List.mem_cons_of_mem _ hw)]
  split
  ·rfl
  ·have:x≠n:=by rintro rfl;exact h v List.mem_cons_self
   simp [this]
theorem Pb{kindOf:Str→Option NameKind}{x:Str}{v:Value}:∀{P:List Str} {vs:List Value} {i:Nat} {m:Str→Option Value},P.Nodup→P[i]?=some x→vs[i]?=some v→kindOf x=some .local →
  bindL kindOf (P.zip vs) m x=some v
 | [],_,_,_,_,h,_,_=>by simp at h
 | _::_,[],_,_,_,_,h,_=>by simp at h
 | p::P,w::vs,0,m,nd,h1,h2,hk=>by
  simp at h1 h2;subst h1;subst h2
  show bindL kindOf ((p,w)::P.zip vs) m p=_
  unfold bindL
  rw [PJ fun v hv=>(List.nodup_cons.mp nd).1 (List.of_mem_zip hv).1,if_pos hk]
  simp
 | p::P,w::vs,i+1,m,nd,h1,h2,hk=>by
  show bindL kindOf ((p,w)::P.zip vs) m x=_
  unfold bindL
  exact Pb (i:=i) (List.nodup_cons.mp nd).2 (by simpa using h1) (by simpa using h2) hk
theorem PQ{kindOf:Str→Option NameKind}{x:Str}{v:Value}:∀{P:List Str} {vs:List Value} {i:Nat} {m:Str→Option Value},P.Nodup→P[i]?=some x→vs[i]?=some v→kindOf x≠some .local →
  bindC kindOf (P.zip vs) m x=some v
 | [],_,_,_,_,h,_,_=>by simp at h
 | _::_,[],_,_,_,_,h,_=>by simp at h
 | p::P,w::vs,0,m,nd,h1,h2,hk=>by
  simp at h1 h2;subst h1;subst h2
  show bindC kindOf ((p,w)::P.zip vs) m p=_
  unfold bindC
  rw [PN fun v hv=>(List.nodup_cons.mp nd).1 (List.of_mem_zip hv).1,if_neg hk]
  simp
 | p::P,w::vs,i+1,m,nd,h1,h2,hk=>by
  show bindC kindOf ((p,w)::P.zip vs) m x=_
  unfold bindC
  exact PQ (i:=i) (List.nodup_cons.mp nd).2 (by simpa using h1) (by simpa using h2) hk
def Jk(N:List Str)(vs:List V):St:=vs.map some++List.replicate (N.length-vs.length) none
def Bp(CX:CXT)(P:Program)(w:World)(K:PySem.W.Frag)(mg:Str→Option Value)(base:Heap)(N:List Str)(qual:Str)(scope:Scope)(f:Addr)(cd:Value)(A:Around)(outer:List Env)(s:Shared)(H:Hp)(E:XK):Cx where
 prog:=P
 w:=w
 K:=K
 mg:=mg
 base:=base
 A:=A.deeper (envOfC qual scope s.heap.objs.size f cd)
 N:=N
 s₀:=s
 H₀:=H
 env:=envOfC qual scope s.heap.objs.size f cd
 outer:=outer
 stack:=envOfC qual scope s.heap.objs.size f cd::outer
 ex:=[]
 calm:=true
 fn:=fun _=>true
 pn:=[]
 xe:=fun e s'=>wpAny (model P w) (A.deeper (envOfC qual scope s.heap.objs.size f cd)) (leaving (envOfC qual scope s.heap.objs.size f cd) e) (fun _ s''=>CX outer H s E e s'') (fun e' s''=>CX outer H s E e' s'') s'
theorem Rn{sc:Scope}{n:Nat}{x:Str}(h:sc.names.lookup x=some .cell):∃c,(cellsFrom n sc.names []).lookup x=some c:=by
 have q:=PySem.W.cellsFrom_some sc.names n [] (.inl h)
 exact Option.isSome_iff_exists.mp q
theorem Vv{CX:CXT}{P:Program}{w:World}{K:PySem.W.Frag}{mg:Str→Option Value}{base:Heap}{N ps:List Str}{qual:Str}{scope:Scope}{f:Addr}{cd:Value}{A:Around}{outer:List Env}{s s1:Shared}{H:Hp}{E:XK}{us:List Value}{vs:List V}
  (S:Aw N ps scope) (hd:A.handled=none) (e0:T3 P w K mg base A outer s H) (hl:vs.length=ps.length) (r:BW vs us)
  (x:InCallC s s.heap.objs.size (bindL (envOfC qual scope s.heap.objs.size f cd).kindOf (ps.zip us) fun _=>none) (cellsFrom (s.heap.objs.size+1) scope.names []) (bindC (envOfC qual scope s.heap.objs.size f cd).kindOf (ps.zip us) fun _=>none) s1) :
  Inv (Bp CX P w K mg base N qual scope f cd A outer s H E) [] (Jk N vs) H s1:=by
 have hpl:ps.length≤N.length:=by have:=congrArg List.length S.pre;rw [List.length_take] at this;omega
 obtain ⟨h1,tk,rfl,hk⟩:=x.done
 have noA:∀b:Addr,b∉(Bp CX P w K mg base N qual scope f cd A outer s H E).ex:=fun b z=>absurd (show b∈([]:List Addr) from z) (by simp)
 refine ⟨⟨e0.mod,S.kind,rfl,rfl,Nat.le_refl _,fun y z c h1 h2=>?_,fun y hy=>?_,fun y c _ h=>?_,fun _=>hd,Around.frames_deeper e0.frames,.inr ⟨rfl,rfl⟩,fun b z=>absurd z (noA b),e0.bs,e0.bsz,fun b _ _=>noA b,fun b z=>absurd z (noA b),e0.funs,e0.frf⟩,
  rfl,e0.bare,Un.kept hk,⟨_,x.toInCall.ns,fun i y v h1 h2 h3=>?_⟩,fun y c h=>⟨_,x.cell y c h⟩,e0.hok.fresh (Nat.le_refl _),fun y c h=>?_,fun p hp=>absurd (show p∈([]:List (Addr×Obj)) from hp) (by simp),e0.hok.kept hk,?_⟩
 ·exact name_of_addr x.apart (PySem.mem_of_lookup h1) (PySem.mem_of_lookup h2)
 ·have hy:scope.names.lookup y=some .cell∨scope.names.lookup y=some .free:=hy
  rcases hy with hy | hy
  ·exact Rn hy
  ·exact absurd rfl (S.nofree _ (PySem.mem_of_lookup hy))
 ·exact Nat.le_of_lt (x.above y c (PySem.mem_of_lookup h))
 ·have hi:i<vs.length:=by
   unfold Jk at h2
   by_cases hi:i<vs.length
   ·exact hi
   ·rw [List.getElem?_append_right (by simpa using hi)] at h2
    rw [List.getElem?_replicate] at h2
    split at h2 <;> cases h2
  have ha:vs[i]?=some v:=by
   unfold Jk at h2
   rw [List.getElem?_append_left (by simpa using hi),List.getElem?_map] at h2
   cases e:vs[i]? with
   | none=>rw [e] at h2;cases h2
   | some a=>rw [e] at h2;cases h2;rfl
  obtain ⟨u,hu,rv⟩:=r.get ha
  have hp:ps[i]?=some y:=by
   rw [←S.pre,List.getElem?_take_of_lt (by omega)];exact h1
  have ndP:ps.Nodup:=by rw [←S.pre];exact S.nd.sublist (List.take_sublist _ _)
  refine ⟨u,rv,?_⟩
  rcases S.par y (List.mem_of_getElem? hp) with k | k
  ·exact .inl ⟨k,Pb ndP hp hu k⟩
  ·obtain ⟨c,e⟩:=Rn (n:=s.heap.objs.size+1) k
   refine .inr ⟨.inl k,c,e,?_⟩
   have q:=x.cell y c e
   rw [PQ ndP hp hu (by show scope.names.lookup y≠_;rw [k];decide)] at q
   exact q
 ·exact e0.hok.fresh (Nat.le_of_lt (x.above y c (PySem.mem_of_lookup h)))
 ·unfold Jk
  show _=N.length
  rw [List.length_append,List.length_map,List.length_replicate]
  omega
theorem AAg{CX:CXT}{P:Program}{w:World}{K:PySem.W.Frag}{mg:Str→Option Value}{base:Heap}{k:Nat}{f:Addr}{name qual:Str}{params:Arguments}{body:List Stmt}{scope:Scope}{dV kV doc pm cdv ct oc:Value}{an od:Option Addr}
  {osl:Array (Option Value)} {N ps:List Str} {sp:Sp} (lk:K.lookup f=some ⟨oc,od,.func (PySem.W.fnOf name qual params body scope dV kV doc pm an cdv ct),osl⟩) (hcd:PySem.W.codeIn K cdv qual=true) (S:Aw N ps scope)
  (len:∀vs H Q E,sp vs H Q E→vs.length=ps.length)
  (hbody:∀(A:Around) (outer:List Env) (s:Shared) (H:Hp) (vs:List V) (Q:VK) (E:XK),Df k (A.deeper (envOfC qual scope s.heap.objs.size f cdv))→sp vs H Q E →
   ∃t,PSs (Bp CX P w K mg base N qual scope f cdv A outer s H E) body t∧t { nx:=fun _ H'=>Q .non H',rt:=Q } (Jk N vs) H) :
  BZ P w K mg base CX (k+1) f (PySem.W.fnOf name qual params body scope dV kV doc pm an cdv ct) ps sp:=by
 refine ⟨len,fun A outer s H args us vs Q E hr e0 hb r hsp=>?_⟩
 have hl:=len _ _ _ _ hsp
 have KX:K.In s.heap:=e0.mod.kin.keeps fun b o e=>(e0.bs b o e).1
 have lim:s.heap.NoLimit:=e0.mod.nolimit.keeps fun b o e=>(e0.bs b o e).1
 have hkind:∀y∈ps.zip us,scope.names.lookup y.1=some .local∨(scope.names.lookup y.1=some .cell∧((cellsFrom (s.heap.objs.size+1) scope.names []).lookup y.1).isSome=true):=fun ⟨n,v⟩ hy=>by
  rcases S.par n (List.of_mem_zip hy).1 with q | q
  ·exact .inl q
  ·exact .inr ⟨q,PySem.W.cellsFrom_some _ _ _ (.inl q)⟩
 refine codeAny_call_function hr.depth (KX _ _ lk) rfl S.co S.gen rfl (PySem.W.codeRec_of KX hcd) (hb _ _ _ _ ?_)
 refine wpAny_newFunctionEnv_cells S.kind hkind fun env he s1 x=>?_
 subst he
 refine ⟨lim.keeps x.toInCall.keep,codeAny_func ?_⟩
 obtain ⟨t,ht,hq⟩:=hbody A outer s H vs Q E (hr.deeper _) hsp
 have I:Inv (Bp CX P w K mg base N qual scope f cdv A outer s H E) [] (Jk N vs) H s1:=Vv S hr.hd e0 hl r x
 refine wpAny_mono (ht [] s1 (Jk N vs) H _ I hq) (fun fl s' hs=>?_) fun e s' hs=>hs
 have fin:∀{σ':St} {H':Hp} {v:V} {u:Value},Inv (Bp CX P w K mg base N qual scope f cdv A outer s H E) [] σ' H' s'→Bb v u→Q v H'→CE outer P w H s Q u s' :=
  fun {σ' H' v u} J rv q=>⟨v,H',J.os,J.bare,J.base,J.hok,rv,q⟩
 cases fl with
 | ret u =>
  obtain ⟨v,σ',H',J,rv,q⟩:=hs
  exact fin J rv q
 | next =>
  obtain ⟨σ',H',J,q⟩:=hs
  exact fin (v:=V.non) (u:=Value.none) J rfl q
 | brk =>
  obtain ⟨_,_,_,q⟩:=hs
  exact False.elim q
 | cont =>
  obtain ⟨_,_,_,q⟩:=hs
  exact False.elim q
end L2
namespace L2
open PySem PySem.Spec PyProof.Rows
section
variable {X:Cx}{x:Str}{p pos:Pos}{e:Expr}{es:List Expr}{t:TA}{id T:String}{r:List V→Hp→VK→Prop}
def tCB(r:List V→Hp→VK→Prop)(t:TA):TE:=fun σ H Q=>t σ H fun vs H1=>r vs H1 Q
theorem BJ(hc:Gz X (.builtin id) r)(hg:Gl X x)(hm:X.mg x=none)(hv:bootBuiltins x=some (.builtin id))(ha:PA X (e::es) t)(hn:x≠"__name__":=by decide)(hdb:(x==("__debug__":Str))=false:=by decide)
  (he:starEach (e::es) X.env=(false,eval e X.env)::starEach es X.env:=by rfl) (hpl:(backTo pos (starEach es X.env)).any (·.1)=false:=by rfl):PE X (.Call (.Name x p) (e::es) [] pos) (tCB r t):=by
 intro aA s σ H Q I h
 refine wpAny_Call_Name_kw (HR I hg hm hv ?_ hn hdb)
 exact PyProof.Rows.callWith_builtin1 (thn (ha pos aA s σ H _ I h) fun us s1 ⟨vs,H1,I1,r1,q1⟩=>hc aA s1 σ H1 vs us Q I1 r1 q1) he hpl
theorem Bj(hc:Gz X (.type T) r)(hg:Gl X x)(hm:X.mg x=none)(hv:bootBuiltins x=some (.type T))(ha:PA X (e::es) t)(hn:x≠"__name__":=by decide)(hdb:(x==("__debug__":Str))=false:=by decide)
  (he:starEach (e::es) X.env=(false,eval e X.env)::starEach es X.env:=by rfl) (hpl:(backTo pos (starEach es X.env)).any (·.1)=false:=by rfl):PE X (.Call (.Name x p) (e::es) [] pos) (tCB r t):=by
 intro aA s σ H Q I h
 refine wpAny_Call_Name_kw (HR I hg hm hv ?_ hn hdb)
 exact PyProof.Rows.callWith_type1 (thn (ha pos aA s σ H _ I h) fun us s1 ⟨vs,H1,I1,r1,q1⟩=>hc aA s1 σ H1 vs us Q I1 r1 q1) he hpl
end
end L2
namespace HT
open PySem PyProof.Rows
def lexLt:List Int→List Int→Bool
 | [],[]=>false
 | [],_::_=>true
 | _::_,[]=>false
 | x::xs,y::ys=>if x=y then lexLt xs ys else decide (x<y)
section
open PySem.SeqAt
open PySem.AutoSeq1 (wpAny_loadPart')
open PySem.MeetsSeq PySem.MeetsSeq2 PySem.MeetsSeq3
end
section
variable {prog:Program}{w:World}{A:Around}{E:Value→Shared→Prop}{s:Shared}
def sIx(n d:Nat):Option Int→Nat
 | none=>d
 | some v=>if v<0 then (v+(n:Int)).toNat else min v.toNat n
theorem sIx_none(n d:Nat):sIx n d none=d:=rfl
theorem sIx_nat(n d k:Nat):sIx n d (some (k:Int))=min k n:=by
 show (if (k:Int)<0 then ((k:Int)+(n:Int)).toNat else min (k:Int).toNat n)=min k n
 rw [if_neg (by omega),Int.toNat_natCast]
end
end HT
namespace L2
open PySem PySem.Spec PyProof.Rows
abbrev TO:=St→Hp→(Option Int→Hp→Prop)→Prop
def PO(X:Cx)(e:Option Expr)(t:TO):Prop :=
 ∀(aA:List (Addr×Obj)) (s:Shared) (σ:St) (H:Hp) (Q:Option Int→Hp→Prop),Inv X aA σ H s→t σ H Q →
  wpAny (model X.prog X.w) X.A (evalPart e X.env) (fun u s'=>∃o H',Inv X aA σ H' s'∧IsPart u o∧Q o H') X.xe s
def Za:TO:=fun _ H Q=>Q none H
def AFf(t:TE):TO:=fun σ H Q=>t σ H fun x H1=>∃i,x=.int i∧Q (some i) H1
section
variable {X:Cx}{e:Expr}{te:TE}{lo hi:Option Expr}{tl th:TO}{pos p2:Pos}
theorem Do:PO X none Za:=by
 intro aA s σ H Q I h
 rw [evalPart_none]
 exact wpAny_pure ⟨none,H,I,.none,h⟩
theorem CQ(h:PE X e te):PO X (some e) (AFf te):=by
 intro aA s σ H Q I hw
 rw [evalPart_some]
 refine thn (h aA s σ H _ I hw) fun u s1 ⟨x,H1,I1,r1,q1⟩=>?_
 obtain ⟨i,rfl,q⟩:=q1
 obtain ⟨t,rfl⟩:=r1
 exact ⟨some i,H1,I1,.int i t,q⟩
def SlR(X:Cx)(r:V→Option Int→Option Int→Hp→VK→Prop):Prop :=
 ∀(aA:List (Addr×Obj)) (s:Shared) (σ:St) (H:Hp) (x:V) (v vl vu:Value) (lo hi:Option Int) (sl:Addr) (Q:VK),Inv X aA σ H s→Bb x v→s.heap.IsSliceOf sl vl vu .none→IsPart vl lo→IsPart vu hi→r x lo hi H Q →
  ∃T id,typeLookup (.type T) "__getitem__"=pure (some (.builtin id))∧s.TypeIs v T∧wpAny (model X.prog X.w) X.A (getItem v (.ref sl)) (EP X aA σ Q) X.xe s
def tSl(r:V→Option Int→Option Int→Hp→VK→Prop)(te:TE)(tl th:TO):TE:=fun σ H Q=>te σ H fun x H1=>tl σ H1 fun l H2=>th σ H2 fun u H3=>r x l u H3 Q
theorem CV{r:V→Option Int→Option Int→Hp→VK→Prop}(hr:SlR X r)(he:PE X e te)(hl:PO X lo tl)(hu:PO X hi th):PE X (.Subscript e (.Slice lo hi none p2) pos) (tSl r te tl th):=by
 intro aA s σ H Q I h
 refine Subscript_ (thn (he aA s σ H _ I h) fun v s1 ⟨x,H1,I1,r1,q1⟩=>?_)
 refine wpAny_Slice (thn (hl aA s1 σ H1 _ I1 q1) fun vl s2 ⟨l,H2,I2,pl,q2⟩=>thn (hu aA s2 σ H2 _ I2 q2) fun vu s3 ⟨u,H3,I3,pu,q3⟩=>?_)
 rw [evalPart_none]
 refine wpAny_pure ?_
 have I4:Inv X aA σ H3 { s3 with heap:=s3.heap.push { cls:=.type "slice",data:=.fields #[vl,vu,.none] } }:=I3.kept (t':=s3.toks) fun b ob q=>Heap.get?_push_of_some _ q
 obtain ⟨T,id,hT,ht,hg⟩:=hr aA { s3 with heap:=s3.heap.push { cls:=.type "slice",data:=.fields #[vl,vu,.none] } } σ H3 x v vl vu l u s3.heap.objs.size Q I4 r1 (Heap.IsSliceOf.new ..) pl pu q3
 show wpAny (model X.prog X.w) X.A (subscriptTail e (.Slice lo hi none p2) v (.ref s3.heap.objs.size)) (EP X aA σ Q) X.xe { s3 with heap:=s3.heap.push { cls:=.type "slice",data:=.fields #[vl,vu,.none] } }
 exact tail_any (ops:=[.ref s3.heap.objs.size,v]) ht hT hg (by with_unfolding_all rfl)
def Cj(xs:List V)(lo hi:Option Int):List V:=(xs.drop (HT.sIx xs.length 0 lo)).take (HT.sIx xs.length xs.length hi-HT.sIx xs.length 0 lo)
theorem Sg(xs:List V)(lo hi:Option Int):(Cj xs lo hi).length≤xs.length:=by
 unfold Cj
 rw [List.length_take,List.length_drop]
 omega
def AKT(K:PySem.W.Frag):V→Option Int→Option Int→Hp→VK→Prop:=fun x lo hi H Q=>∃a xs,x=.ref a∧SqT K H a xs ∧
 ¬(HT.sIx xs.length 0 lo=0∧HT.sIx xs.length xs.length hi=xs.length)∧∀p,H p=none→Q (.ref p) (upd H p (.tup (Cj xs lo hi)))
def AKB(K:PySem.W.Frag):R2:=fun x y H Q=>∃a b ns ms,x=.ref a∧y=.ref b∧SqT K H a (ns.map V.int)∧SqT K H b (ms.map V.int)∧Q (.bl (HT.lexLt ns ms)) H
def ADi(K:PySem.W.Frag):R2:=fun x y H Q=>∃a b xs ys,x=.ref a∧y=.ref b∧SqT K H a xs∧SqT K H b ys∧xs≠[]∧xs.length+ys.length≤sizeLine ∧
 (ys=[]→Q (.ref a) H)∧(ys≠[]→∀p,H p=none→Q (.ref p) (upd H p (.tup (xs++ys))))
end
end L2
namespace L2
open PySem PySem.Spec PyProof.Rows
def ixN(n:Nat)(i:Int):Option Nat:=if 0≤i then (if i<n then some i.toNat else none) else if -(n:Int)≤i then some (i+n).toNat else none
def atI{α:Type}(xs:List α)(i:Int):Option α:=(ixN xs.length i).bind fun j=>xs[j]?
theorem Vg{n:Nat}{i:Int}{j:Nat}(h:ixN n i=some j):seqIndex? i n=some j∧j<n∧-(n:Int)≤i∧i<n:=by
 unfold ixN at h
 by_cases h0:0≤i
 ·rw [if_pos h0] at h
  by_cases h1:i<n
  ·rw [if_pos h1] at h
   have e:i.toNat=j:=Option.some.inj h
   exact ⟨by rw [seqIndex_of h0 h1,e],by omega,by omega,h1⟩
  ·rw [if_neg h1] at h;cases h
 ·rw [if_neg h0] at h
  by_cases h1:-(n:Int)≤i
  ·rw [if_pos h1] at h
   have e:(i+n).toNat=j:=Option.some.inj h
   exact ⟨by rw [seqIndex_neg (by omega) h1,e],by omega,h1,by omega⟩
  ·rw [if_neg h1] at h;cases h
theorem Qv{α:Type}{xs:List α}{i:Int}{v:α}(h:atI xs i=some v):∃j,seqIndex? i xs.length=some j∧xs[j]?=some v∧j<xs.length∧-(xs.length:Int)≤i∧i<xs.length:=by
 unfold atI at h
 cases e:ixN xs.length i with
 | none=>rw [e] at h;cases h
 | some j =>
  rw [e] at h
  obtain ⟨h1,h2,h3,h4⟩:=Vg e
  exact ⟨j,h1,h,h2,h3,h4⟩
theorem Dr{α:Type}{xs:List α}{j:Nat}{v:α}(h:xs[j]?=some v):atI xs (j:Int)=some v:=by
 have hj:j<xs.length:=(List.getElem?_eq_some_iff.mp h).1
 have e:ixN xs.length (j:Int)=some j:=by
  unfold ixN
  rw [if_pos (by omega),if_pos (by omega)];simp
 unfold atI;rw [e];exact h
theorem YC{α:Type}(xs:List α)(v:α):atI (xs++[v]) (-1)=some v:=by
 have hl:(xs++[v]).length=xs.length+1:=by simp
 have e:ixN (xs++[v]).length (-1)=some xs.length:=by
  unfold ixN
  rw [hl,if_neg (by decide),if_pos (by omega)]
  congr 1
  omega
 unfold atI
 rw [e]
 show (xs++[v])[xs.length]?=some v
 simp
def ZS(b:Expr):Prop:=∀o i,subscripted b false o i=operate [o,i] (getItem o i)
def IxR(X:Cx)(r:R2):Prop :=
 ∀(value slice:Expr) (aA:List (Addr×Obj)) (s:Shared) (σ:St) (H:Hp) (x y:V) (v u:Value) (Q:VK),Inv X aA σ H s→Bb x v→Bb y u→r x y H Q →
  subscripted slice false v u=operate [v,u] (getItem v u)→wpAny (model X.prog X.w) X.A (subscriptTail value slice v u) (EP X aA σ Q) X.xe s
def MtR(X:Cx)(id:String)(r:V→List V→Hp→VK→Prop):Prop :=
 ∀(aA:List (Addr×Obj)) (s:Shared) (σ:St) (H:Hp) (x:V) (xs:List V) (v:Value) (us:List Value) (Q:VK),Inv X aA σ H s→Bb x v→BW xs us→r x xs H Q →
  wpAny (model X.prog X.w) X.A (call (.builtin id) (v::us)) (EP X aA σ Q) X.xe s
section
variable {X:Cx}{a b:Expr}{ta tb:TE}{pos:Pos}
theorem Az{r:R2}(hr:IxR X r)(ha:PE X a ta)(hb:PE X b tb)(hs:ZS b):PE X (.Subscript a b pos) (tOp r ta tb):=by
 intro aA s σ H Q I h
 exact Subscript_ (ABp ha hb I h fun v u s2 x y H2 I2 rx ry q=>hr a b aA s2 σ H2 x y v u Q I2 rx ry q (hs _ _))
def AGI(K:PySem.W.Frag):R2:=fun x y H Q=>∃p xs i v,x=.ref p∧y=.int i∧SqL K H p xs∧atI xs i=some v∧Q v H
def AFi(K:PySem.W.Frag):R2:=fun x y H Q=>∃p xs i v,x=.ref p∧y=.int i∧SqT K H p xs∧atI xs i=some v∧Q v H
def ADq:R2:=fun x y H Q=>∃z i c,x=.str z∧y=.int i∧z.length≤sizeLine∧atI z.cps.toList i=some c∧Q (.str ⟨#[c]⟩) H
theorem Ba:IxR X (AGI X.K):=by
 intro value slice aA s σ H x y v u Q I rx ry h hs
 obtain ⟨p,xs,i,z,rfl,rfl,hq,he,q⟩:=h
 cases rx
 obtain ⟨t,rfl⟩:=ry
 obtain ⟨its,r,pl,hz⟩:=I.list hq
 obtain ⟨j,h1,h2,h3,h4,h5⟩:=Qv he
 obtain ⟨w,ew,rw'⟩:=r.get h2
 have hl:=r.length
 have hn:=Jr
 have fin:EP X aA σ Q w s:=⟨z,H,I,rw',q⟩
 by_cases h0:0≤i
 ·have hj:i.toNat=j:=by
   rw [seqIndex_of h0 h5] at h1
   exact Option.some.inj h1
  exact item_listR pl.isList h0 (by omega) (by rw [hj];simpa using ew) fin hs
 ·have hj:(i+(its.toArray.size:Int)).toNat=j:=by
   rw [seqIndex_neg (by omega) h4] at h1
   rw [List.size_toArray,←hl]
   exact Option.some.inj h1
  exact subscriptTail_builtinR (x:=w) pl.isList.typeIs slot_list_getitem.lookup
   (wpAny_getItem_list_neg (Q:=fun r s'=>r=w∧EP X aA σ Q r s') pl.isList (by omega) (by rw [List.size_toArray] <;> omega) (by omega) (by rw [hj];simpa using ew) ⟨rfl,fin⟩) hs
theorem BP:IxR X (AFi X.K):=by
 intro value slice aA s σ H x y v u Q I rx ry h hs
 obtain ⟨p,xs,i,z,rfl,rfl,hq,he,q⟩:=h
 cases rx
 obtain ⟨t,rfl⟩:=ry
 obtain ⟨its,r,pl,hz⟩:=I.tuple hq
 obtain ⟨j,h1,h2,h3,h4,h5⟩:=Qv he
 obtain ⟨w,ew,rw'⟩:=r.get h2
 have hl:=r.length
 have hn:=Jr
 have fin:EP X aA σ Q w s:=⟨z,H,I,rw',q⟩
 exact subscriptTail_builtinR (x:=w) pl.typeIs slot_tuple_getitem.lookup
  (getItem_tuple (j:=j) (Q:=fun r s'=>r=w∧EP X aA σ Q r s') pl (by omega) (by omega) (by rw [List.size_toArray,←hl];exact h1) (by simpa using ew) ⟨rfl,fin⟩) hs
theorem UG:IxR X ADq:=by
 intro value slice aA s σ H x y v u Q I rx ry h hs
 obtain ⟨z,i,c,rfl,rfl,hz,he,q⟩:=h
 obtain ⟨t,rfl⟩:=rx
 obtain ⟨t',rfl⟩:=ry
 obtain ⟨j,h1,h2,h3,h4,h5⟩:=Qv he
 have hl:z.cps.toList.length=z.length:=by simp [Str.length]
 rw [hl] at h1 h4 h5
 have hn:=Jr
 exact tail_any (typeIs_str s z t) slot_str_getitem.lookup (getItem_str (c:=c) (by
  have e1:decide (i < -(2^63:Int))=false:=decide_eq_false (by omega)
  have e2:decide (i ≥ 2^63)=false:=decide_eq_false (by omega)
  rw [e1,e2,Bool.or_false]) (by rw [h1];simpa using h2) ⟨.str ⟨#[c]⟩,H,I.tok _,⟨_,rfl⟩,q⟩) hs
def rIx(K:PySem.W.Frag):R2:=fun x y H Q=>AGI K x y H Q∨AFi K x y H Q∨ADq x y H Q
theorem Uh(its:List Value)(n j:Nat)(u:Value):Obj.mapSeq (·.setIfInBounds j u) { cls:=.type "list",data:=.seq its.toArray n }={ cls:=.type "list",data:=.seq (its.set j u).toArray n }:=by
 simp [Obj.mapSeq]
theorem Inv.lst{aA:List (Addr×Obj)}{σ:St}{H:Hp}{s:Shared}{p:Addr}{xs:List V}(I:Inv X aA σ H s)(h:H p=some (.lst xs)) :
  ∃(its:List Value) (n:Nat),BW xs its∧s.heap.get? p=some { cls:=.type "list",data:=.seq its.toArray n }∧xs.length≤sizeLine:=by
 obtain ⟨z,its,n,r,e⟩:=I.hok p _ h
 exact ⟨its,n,r,e,z⟩
theorem Inv.lstUpd{aA:List (Addr×Obj)}{σ:St}{H:Hp}{s:Shared}{p:Addr}{xs ys:List V}{its its':List Value}{n n':Nat}{f:Obj→Obj}(I:Inv X aA σ H s)(h:H p=some (.lst xs))
  (ho:s.heap.get? p=some { cls:=.type "list",data:=.seq its.toArray n }) (hf:f { cls:=.type "list",data:=.seq its.toArray n }={ cls:=.type "list",data:=.seq its'.toArray n' }) (r:BW ys its') (hz:ys.length≤sizeLine) (t:Nat) :
  Inv X aA σ (upd H p (.lst ys)) { s with heap:=s.heap.update p f,toks:=t }:=by
 have e:(s.heap.update p f).get? p=some { cls:=.type "list",data:=.seq its'.toArray n' }:=by
  rw [Heap.get?_update_self f ho (by rw [hf] <;> rfl),hf]
 refine I.write (x:=p) (e:=p) (by rw [h];trivial) (.inl rfl) (fun b u hb q=>(Heap.get?_update_other _ _ (Ne.symm hb)).trans q) ⟨_,e⟩ ?_
 exact ⟨hz,its',n',r,e⟩
def ACZ:V→V→V→Hp→(Hp→Prop)→Prop:=fun o i v H Q=>∃p xs k j,o=.ref p∧i=.int k∧H p=some (.lst xs)∧ixN xs.length k=some j∧Q (upd H p (.lst (xs.set j v)))
theorem Rh:ACs X ACZ:=by
 intro aA s σ H o i v ov iv u Q I ro ri rv h
 obtain ⟨p,xs,k,j,rfl,rfl,hp,hj,q⟩:=h
 cases ro
 obtain ⟨t,rfl⟩:=ri
 obtain ⟨its,n,r,ho,hz⟩:=I.lst hp
 obtain ⟨h1,h2,h3,h4⟩:=Vg hj
 have hl:=r.length
 have hn:=Jr
 have I':Inv X aA σ (upd H p (.lst (xs.set j v))) { s with heap:=s.heap.update p (Obj.mapSeq (·.setIfInBounds j u)) } :=
  I.lstUpd hp ho (Uh its n j u) (r.set rv j) (by rw [List.length_set];exact hz) s.toks
 by_cases h0:0≤k
 ·have hk:k.toNat=j:=by
   rw [seqIndex_of h0 h4] at h1
   exact Option.some.inj h1
  exact PySem.W.ki_setAt ho h0 (by omega) (by rw [List.size_toArray,←hl];exact h4) (by rw [hk];exact ⟨_,I',q⟩)
 ·have hk:(k+(its.toArray.size:Int)).toNat=j:=by
   rw [seqIndex_neg (by omega) h3] at h1
   rw [List.size_toArray,←hl]
   exact Option.some.inj h1
  exact PySem.W.ki_setBack ho (by omega) (by rw [List.size_toArray,←hl];exact h3) (by omega) (by rw [hk];exact ⟨_,I',q⟩)
theorem Q5(lo hi:Option Int)(n:Nat):(sliceBounds lo hi none n).1=((HT.sIx n 0 lo:Nat):Int)∧(sliceBounds lo hi none n).2.1=((HT.sIx n n hi:Nat):Int)∧(sliceBounds lo hi none n).2.2=1:=by
 refine ⟨?_,?_,rfl⟩
 ·cases lo with
  | none=>simp [sliceBounds,HT.sIx]
  | some i =>
   simp only [sliceBounds,HT.sIx,Option.getD_none,show (1:Int) > 0 by decide,if_true]
   by_cases h:i<0
   ·simp only [h,if_true] <;> omega
   ·simp only [h,if_false] <;> omega
 ·cases hi with
  | none=>simp [sliceBounds,HT.sIx]
  | some i =>
   simp only [sliceBounds,HT.sIx,Option.getD_none,show (1:Int) > 0 by decide,if_true]
   by_cases h:i<0
   ·simp only [h,if_true] <;> omega
   ·simp only [h,if_false] <;> omega
theorem Nq(its:List Value)(lo hi:Option Int):slicePick its.toArray lo hi none=((its.drop (HT.sIx its.length 0 lo)).take (HT.sIx its.length its.length hi-HT.sIx its.length 0 lo)).toArray:=by
 obtain ⟨h1,h2,h3⟩:=Q5 lo hi its.toArray.size
 unfold slicePick
 rw [h1,h2,h3]
 simp only [sliceRange_one,pick_run,List.size_toArray] <;> rfl
def AJr(K:PySem.W.Frag):V→Option Int→Option Int→Hp→VK→Prop:=fun x lo hi H Q=>∃a xs,x=.ref a∧SqL K H a xs∧∀p,H p=none→Q (.ref p) (upd H p (.lst (Cj xs lo hi)))
theorem Es:SlR X (AJr X.K):=by
 intro aA s σ H x v vl vu lo hi sl Q I rx hs pl pu h
 obtain ⟨a,xs,rfl,hx,q⟩:=h
 cases rx
 obtain ⟨its,r,ht,hz⟩:=I.list hx
 have aB:=r.length
 refine ⟨"list",_,slot_list_getitem.lookup,ht.isList.typeIs,?_⟩
 refine wpAny_getItem_list_slice ht.isList hs pl pu .none (by simp) ?_ (by rw [List.size_toArray] <;> omega)
 rw [Nq,←aB]
 refine ⟨.ref s.heap.objs.size,_,I.laid (t':=s.toks) (o:=.lst (Cj xs lo hi)) (fun b ob q=>Heap.get?_push_of_some _ q) (Nat.le_refl _) ?_,rfl,q _ (I.hok.fresh (Nat.le_refl _))⟩
 exact ⟨Nat.le_trans (Sg xs lo hi) hz,_,0,(r.drop (HT.sIx xs.length 0 lo)).take (HT.sIx xs.length xs.length hi-HT.sIx xs.length 0 lo),Heap.get?_push_size _ rfl⟩
def Hs:V→Bool
 | .non=>true
 | .bl _=>true
 | .int _=>true
 | .str _=>true
 | _=>false
def eqV:V→V→Bool
 | .non,.non=>true
 | .bl a,.bl b=>a==b
 | .bl a,.int b=>(if a then 1 else 0)==b
 | .int a,.bl b=>a==(if b then 1 else 0)
 | .int a,.int b=>a==b
 | .str a,.str b=>a==b
 | _,_=>false
theorem ABo{A:Around}{s:Shared}{y x:V}{u v:Value}(ry:Bb y u)(rx:Bb x v)(fy:Hs y=true)(fx:Hs x=true):SeqAt.EqAt A s u v (eqV y x):=by
 cases y with
 | non =>
  cases ry
  cases x with
  | non=>cases rx;exact SeqAt.EqAt.same _
  | bl b=>cases rx;exact SeqAt.EqAt.none_bool b
  | int b=>obtain ⟨t,rfl⟩:=rx;exact SeqAt.EqAt.none_int b t
  | str b=>obtain ⟨t,rfl⟩:=rx;exact SeqAt.EqAt.none_str b t
  | _=>exact absurd (show false=true from fx) Bool.false_ne_true
 | bl a =>
  cases ry
  cases x with
  | non=>cases rx;exact SeqAt.EqAt.bool_none a
  | bl b=>cases rx;exact SeqAt.EqAt.bool_bool a b
  | int b=>obtain ⟨t,rfl⟩:=rx;exact SeqAt.EqAt.bool_int a b t
  | str b=>obtain ⟨t,rfl⟩:=rx;exact SeqAt.EqAt.bool_str a b t
  | _=>exact absurd (show false=true from fx) Bool.false_ne_true
 | int a =>
  obtain ⟨t',rfl⟩:=ry
  cases x with
  | non=>cases rx;exact SeqAt.EqAt.int_none a t'
  | bl b=>cases rx;exact SeqAt.EqAt.int_bool a t' b
  | int b=>obtain ⟨t,rfl⟩:=rx;exact SeqAt.EqAt.int_int a t' b t
  | str b=>obtain ⟨t,rfl⟩:=rx;exact SeqAt.EqAt.int_str a t' b t
  | _=>exact absurd (show false=true from fx) Bool.false_ne_true
 | str a =>
  obtain ⟨t',rfl⟩:=ry
  cases x with
  | non=>cases rx;exact SeqAt.EqAt.str_none a t'
  | bl b=>cases rx;exact SeqAt.EqAt.str_bool a t' b
  | int b=>obtain ⟨t,rfl⟩:=rx;exact SeqAt.EqAt.str_int a t' b t
  | str b=>obtain ⟨t,rfl⟩:=rx;exact SeqAt.EqAt.str_str a t' b t
  | _=>exact absurd (show false=true from fx) Bool.false_ne_true
 | _=>exact absurd (show false=true from fy) Bool.false_ne_true
def eqU(x:V)(u:Value):Bool:=match u with
 | .none=>eqV .non x
 | .bool b=>eqV (.bl b) x
 | .int i _=>eqV (.int i) x
 | .str z _=>eqV (.str z) x
 | _=>false
theorem Xd{x y:V}{u:Value}(r:Bb y u)(f:Hs y=true):eqU x u=eqV y x:=by
 cases y with
 | non=>cases r;rfl
 | bl b=>cases r;rfl
 | int i=>obtain ⟨t,rfl⟩:=r;rfl
 | str z=>obtain ⟨t,rfl⟩:=r;rfl
 | _=>exact absurd (show false=true from f) Bool.false_ne_true
theorem Qt{x:V}:∀{xs:List V} {us:List Value},BW xs us→xs.all Hs=true→us.any (eqU x)=xs.any fun y=>eqV y x
 | _,_,.nil,_=>rfl
 | y::xs,u::us,.cons r t,f=>by
  rw [List.all_cons,Bool.and_eq_true] at f
  rw [List.any_cons,List.any_cons,Xd r f.1,Qt t f.2]
theorem Mg{A:Around}{s:Shared}{x:V}{v:Value}(rx:Bb x v)(fx:Hs x=true):∀{xs:List V} {us:List Value},BW xs us→xs.all Hs=true→∀u∈us,SeqAt.EqAt A s u v (eqU x u)
 | _,_,.nil,_=>fun u hu=>by cases hu
 | y::xs,u::us,.cons r t,f=>fun u' hu=>by
  rw [List.all_cons,Bool.and_eq_true] at f
  rcases List.mem_cons.mp hu with rfl | hu
  ·rw [Xd r f.1];exact ABo r rx f.1 fx
  ·exact Mg rx fx t f.2 u' hu
def inV(x:V)(xs:List V):Bool:=xs.any fun y=>eqV y x
def rIn(K:PySem.W.Frag)(neg:Bool):R2:=fun x y H Q=>∃p xs,y=.ref p∧(SqL K H p xs∨SqT K H p xs)∧Hs x=true∧xs.all Hs=true∧Q (.bl (if neg then !inV x xs else inV x xs)) H
theorem V9:OpR X (compareOp .In) (rIn X.K false):=by
 intro aA s σ H x y v u Q I rx ry h
 obtain ⟨p,xs,rfl,hq,fx,fs,q⟩:=h
 cases ry
 rcases hq with hq | hq
 ·obtain ⟨its,r,pl,hz⟩:=I.list hq
  refine SeqAt.in_listAt (eqU x) pl.isList (fun w hw=>Mg rx fx r fs w (by simpa using hw)) ⟨.bl _,H,I,rfl,?_⟩
  rw [show its.toArray.any (eqU x)=its.any (eqU x) by simp,Qt r fs]
  exact q
 ·obtain ⟨its,r,pl,hz⟩:=I.tuple hq
  refine SeqAt.in_tupleAt (eqU x) pl (fun w hw=>Mg rx fx r fs w (by simpa using hw)) ⟨.bl _,H,I,rfl,?_⟩
  rw [show its.toArray.any (eqU x)=its.any (eqU x) by simp,Qt r fs]
  exact q
theorem Bd:Gz X (.builtin "len") (fun xs H Q=>∃p ys,xs=[.ref p]∧(SqL X.K H p ys∨SqT X.K H p ys)∧Q (.int ys.length) H):=by
 intro aA s σ H xs us Q I r h
 obtain ⟨p,ys,rfl,hq,q⟩:=h
 obtain ⟨u,rfl,rx⟩:=Ga r
 cases rx
 have hn:=Jr
 rcases hq with hq | hq
 ·obtain ⟨its,r',pl,hz⟩:=I.list hq
  have aB:=r'.length
  exact Calls.call_len_list pl.isList (by simp only [List.size_toArray] <;> omega) ⟨.int ys.length,H,I.tok _,⟨s.toks+1,by rw [List.size_toArray,aB]⟩,q⟩
 ·obtain ⟨its,r',pl,hz⟩:=I.tuple hq
  have aB:=r'.length
  exact len_tuple pl (by simp only [List.size_toArray] <;> omega) ⟨.int ys.length,H,I.tok _,⟨s.toks+1,by rw [List.size_toArray,aB]⟩,q⟩
theorem Gb:Gz X (.builtin "len") (fun xs H Q=>∃z,xs=[.str z]∧z.length≤sizeLine∧Q (.int z.length) H):=by
 intro aA s σ H xs us Q I r h
 obtain ⟨z,rfl,hz,q⟩:=h
 obtain ⟨u,rfl,t,rfl⟩:=Ga r
 have hn:=Jr
 exact len_str (by omega) ⟨.int z.length,H,I.tok _,⟨_,rfl⟩,q⟩
theorem Dp:Gz X (.type "list") (fun xs H Q=>∃p ys,xs=[.ref p]∧(SqL X.K H p ys∨SqT X.K H p ys)∧∀l,H l=none→Q (.ref l) (upd H l (.lst ys))):=by
 intro aA s σ H xs us Q I r h
 obtain ⟨p,ys,rfl,hq,q⟩:=h
 obtain ⟨u,rfl,rx⟩:=Ga r
 cases rx
 have fin:∀(its:List Value),BW ys its→ys.length≤sizeLine→∀(h':Heap) (c':Nat),(∀b o',s.heap.get? b=some o'→h'.get? b=some o') →
   h'.get? s.heap.objs.size=some { cls:=.type "list",dict:=none,data:=.seq its.toArray c',slots:=#[] }→EP X aA σ Q (.ref s.heap.objs.size) { s with heap:=h' }:=fun its r' hz h' c' kp e =>
  ⟨.ref s.heap.objs.size,_,I.laid (t':=s.toks) kp (Nat.le_refl _) (show Bl X.prog X.w _ h' _ (.lst ys) from ⟨hz,its,c',r',e⟩),rfl,q _ (I.hok.fresh (Nat.le_refl _))⟩
 rcases hq with hq | hq
 ·obtain ⟨its,r',pl,hz⟩:=I.list hq
  have aB:=r'.length
  obtain ⟨o,ho,hc,n,hd⟩:=pl.isList
  exact call_list_seq p (.inl rfl) ho hc hd (fun h' c' kp e=>fin its r' hz h' c' kp e) (by simp only [List.size_toArray] <;> omega)
 ·obtain ⟨its,r',pl,hz⟩:=I.tuple hq
  have aB:=r'.length
  obtain ⟨o,ho,hc,n,hd⟩:=pl
  exact call_list_seq p (.inr rfl) ho hc hd (fun h' c' kp e=>fin its r' hz h' c' kp e) (by simp only [List.size_toArray] <;> omega)
def tyV(K:PySem.W.Frag)(T:String)(x:V)(H:Hp):Prop:=match x with
 | .str _=>T="str"
 | .int _=>T="int"
 | .ref p=>(T="list"∧∃xs,SqL K H p xs)∨(T="tuple"∧∃o,K.lookup p=some o∧o.cls=.type "tuple"∧o.dict=none) ∨
   (T="dict"∧((∃aG,H p=some (.dK aG))∨∃aG,H p=some (.dT aG)))∨(T="set"∧∃S n,H p=some (.set S n))
 | _=>False
theorem ABL{aA:List (Addr×Obj)}{σ:St}{H:Hp}{s:Shared}{T:String}{x:V}{v:Value}(I:Inv X aA σ H s)(r:Bb x v)(ty:tyV X.K T x H) :
  s.TypeIs v T∧∀a,v=.ref a→∃ob,s.heap.get? a=some ob∧ob.dict=none:=by
 cases x with
 | str z =>
  obtain ⟨t,rfl⟩:=r
  cases (show T="str" from ty)
  exact ⟨typeIs_str s z t,fun _ e=>nomatch e⟩
 | int i =>
  obtain ⟨t,rfl⟩:=r
  cases (show T="int" from ty)
  exact ⟨typeIs_int s i t,fun _ e=>nomatch e⟩
 | ref p =>
  cases r
  rcases ty with ⟨rfl,xs,hq⟩ | ⟨rfl,o,hk,hc,hd⟩ | ⟨rfl,hk⟩ | ⟨rfl,S,n,hk⟩
  ·obtain ⟨its,_,pl,_⟩:=I.list hq
   refine ⟨pl.isList.typeIs,fun a e=>?_⟩
   cases e
   obtain ⟨o,n,e,c,hd,_⟩:=pl
   exact ⟨o,e,hd⟩
  ·refine ⟨⟨o,I.kIn p o hk,hc⟩,fun a e=>?_⟩
   cases e
   exact ⟨o,I.kIn _ o hk,hd⟩
  ·have z:∃o,s.heap.get? p=some o∧o.ExactDict:=by
    rcases hk with ⟨aG,hk⟩ | ⟨aG,hk⟩
    ·obtain ⟨_,_,_,_,o,_,_,e,ex,_⟩:=I.hok p _ hk
     exact ⟨o,e,ex⟩
    ·obtain ⟨_,_,_,_,o,_,_,e,ex,_⟩:=I.hok p _ hk
     exact ⟨o,e,ex⟩
   obtain ⟨o,e,ex⟩:=z
   refine ⟨⟨o,e,ex.1⟩,fun a e2=>?_⟩
   cases e2
   exact ⟨o,e,ex.2.1⟩
  ·obtain ⟨o,_,_,_,e,ex,_⟩:=I.hok p _ hk
   refine ⟨⟨o,e,ex.1⟩,fun a e2=>?_⟩
   cases e2
   exact ⟨o,e,ex.2.1⟩
 | _=>exact False.elim ty
def AKM(K:PySem.W.Frag)(T:String)(r:V→List V→Hp→VK→Prop)(to:TE):TE:=fun σ H Q=>to σ H fun x H1=>tyV K T x H1∧r x [] H1 Q
def tBM(K:PySem.W.Frag)(T:String)(r:V→List V→Hp→VK→Prop)(to:TE)(t:TA):TE:=fun σ H Q=>to σ H fun x H1=>tyV K T x H1∧t σ H1 fun xs H2=>r x xs H2 Q
variable {o e:Expr}{es:List Expr}{to:TE}{t:TA}{name:Str}{aF aD:Pos}{T id:String}{r:V→List V→Hp→VK→Prop}
theorem FP(pa:PlainAttrs T)(slot:Slot T name id)(hty:typeOf (.builtin id)=pure (.type "method_descriptor"))(hm:MtR X id r)(ho:PE X o to)(ha:PA X (e::es) t)
  (hbase:attributeBase o name X.env (eval o X.env)=eval o X.env:=by rfl)
  (hfew:((backTo aD (starEach (e::es) X.env)).all (fun x=>!x.1)&&(backToKw aD (keywordEach [] X.env)).all (fun x=>x.1.isSome)
    &&decide ((e::es).length+([]:List Keyword).length+(if ([]:List Keyword).isEmpty then 0 else 1)<30))=true:=by rfl)
  (hline:(aF.endLine==aD.line)=true:=by rfl) (hs:starEach (e::es) X.env=(false,eval e X.env)::starEach es X.env:=by rfl) (hplain:(backTo aD (starEach es X.env)).any (·.1)=false:=by rfl) :
  PE X (.Call (.Attribute o name aF) (e::es) [] aD) (tBM X.K T r to t):=by
 intro aA s σ H Q I h
 refine wpAny_Call_method_late hbase hfew hline rfl (thn (ho aA s σ H _ I h) fun v s1 ⟨x,H1,I1,r1,ty,q1⟩=>?_)
 obtain ⟨h1,h2⟩:=ABL I1 r1 ty
 refine ⟨T,id,pa,slot,hty,h1,h2,?_⟩
 have hA:=ha aD aA s1 σ H1 _ I1 q1
 rw [hs] at hA ⊢
 refine Calls.callWith_builtin (by show (false || (backTo aD (starEach es X.env)).any (·.1))=false;rw [hplain] <;> rfl) (Calls.evalArgs_plain ?_)
 exact thn hA fun us s2 ⟨vs,H2,I2,r2,q2⟩=>hm aA s2 σ H2 x vs v us Q I2 r1 r2 q2
end
end L2
namespace L2
open PySem PySem.Spec PyProof.Rows
def MtM(X:Cx)(id:String)(r:V→List V→Hp→VK→Prop):Prop :=
 ∀(aA:List (Addr×Obj)) (s:Shared) (σ:St) (H:Hp) (x:V) (xs:List V) (v:Value) (us:List Value) (Q:VK),Inv X aA σ H s→Bb x v→BW xs us→r x xs H Q →
  wpAny (model X.prog X.w) X.A (call (.builtin id) (v::us)) (EP X aA σ Q) X.xe s
theorem BW.one:∀{x:V} {us:List Value},BW [x] us→∃u,us=[u]∧Bb x u
 | _,_,.cons r .nil=>⟨_,rfl,r⟩
theorem BW.reverse{xs:List V}{us:List Value}(h:BW xs us):BW xs.reverse us.reverse:=by
 induction h with
 | nil=>exact .nil
 | cons r t ih=>rw [List.reverse_cons,List.reverse_cons];exact BW.append ih (.cons r .nil)
section
variable {X:Cx}{aA:List (Addr×Obj)}{σ:St}{H:Hp}{s:Shared}{l b:Addr}{xs ys zs:List V}
theorem Inv.lset{its its':List Value}{n:Nat}{f:Array Value→Array Value}{t':Nat}(I:Inv X aA σ H s)(hH:H l=some (.lst xs))
  (e:s.heap.get? l=some { cls:=.type "list",data:=.seq its.toArray n }) (hf:f its.toArray=its'.toArray) (hv:BW ys its') (hz:ys.length≤sizeLine) :
  Inv X aA σ (upd H l (.lst ys)) { s with heap:=s.heap.update l (Obj.mapSeq f),toks:=t' }:=by
 have q:=PySem.IsL.update e f
 rw [hf] at q
 refine I.write (x:=l) (e:=l) (by rw [hH];exact trivial) (.inl rfl) (fun b' u hb hu=>(Heap.get?_update_other s.heap (Obj.mapSeq f) (Ne.symm hb)).trans hu) ⟨_,q⟩ ?_
 exact ⟨hz,its',_,hv,q⟩
theorem Inv.lnew{its:List Value}{t':Nat}(I:Inv X aA σ H s)(hv:BW ys its)(hz:ys.length≤sizeLine) :
  Inv X aA σ (upd H s.heap.objs.size (.lst ys)) { s with heap:=s.heap.push { cls:=.type "list",data:=.seq its.toArray },toks:=t' } :=
 I.laid (fun _ _ q=>Heap.get?_push_of_some _ q) (Nat.le_refl _) ⟨hz,its,0,hv,Heap.get?_push_size _ rfl⟩
theorem Inv.fresh(I:Inv X aA σ H s):H s.heap.objs.size=none:=I.hok.fresh (Nat.le_refl _)
theorem Inv.lstM(I:Inv X aA σ H s)(hH:H l=some (.lst xs)):xs.length≤sizeLine∧∃(its:List Value) (n:Nat),BW xs its∧xs.length=its.length∧s.heap.get? l=some { cls:=.type "list",data:=.seq its.toArray n }:=by
 obtain ⟨z,its,n,r,e⟩:=I.hok l _ hH
 exact ⟨z,its,n,r,r.length,e⟩
end
section
variable {X:Cx}
def rAppend:V→List V→Hp→VK→Prop:=fun x vs H Q=>∃l xs y,x=.ref l∧vs=[y]∧H l=some (.lst xs)∧xs.length<sizeLine∧Q .non (upd H l (.lst (xs++[y])))
theorem Fp:MtM X "list.append" rAppend:=by
 intro aA s σ H x vs v us Q I rx rv h
 obtain ⟨l,xs,y,rfl,rfl,hH,hz,q⟩:=h
 cases rx
 obtain ⟨u,rfl,ru⟩:=rv.one
 obtain ⟨z,its,n,r,hl,e⟩:=I.lstM hH
 refine call_meets F.slot_list_append ⟨_,e,rfl⟩ F.entry_list_append (F.args_list_append_2 _ _) (PySem.list_append l its.toArray n u (by rw [List.size_toArray];omega)) ⟨e,?_⟩
 refine ⟨.non,_,I.lset (its':=its++[u]) hH e (by simp) (r.append (.cons ru .nil)) ?_,rfl,q⟩
 rw [List.length_append,List.length_singleton]
 omega
def AIT:V→List V→Hp→VK→Prop:=fun x vs H Q=>∃l b xs zs,x=.ref l∧vs=[.ref b]∧H l=some (.lst xs)∧H b=some (.lst zs)∧xs.length+zs.length≤sizeLine∧Q .non (upd H l (.lst (xs++zs)))
def AKF:V→List V→Hp→VK→Prop:=fun x vs H Q=>∃l xs y,x=.ref l∧vs=[]∧H l=some (.lst xs)∧xs[xs.length-1]?=some y∧Q y (upd H l (.lst xs.dropLast))
def AI3:V→List V→Hp→VK→Prop:=fun x vs H Q=>∃l xs i k y,x=.ref l∧vs=[.int i]∧H l=some (.lst xs)∧-(2^63)≤i∧i<2^63∧seqIndex? i xs.length=some k∧xs[k]?=some y∧Q y (upd H l (.lst (xs.eraseIdx k)))
def ACa:V→List V→Hp→VK→Prop:=fun x vs H Q=>∃l xs,x=.ref l∧vs=[]∧H l=some (.lst xs)∧Q .non (upd H l (.lst xs.reverse))
def AJA:V→List V→Hp→VK→Prop:=fun x vs H Q=>∃l xs,x=.ref l∧vs=[]∧H l=some (.lst xs)∧Q .non (upd H l (.lst []))
def AIy:R2:=fun x y H Q=>∃l b xs zs,x=.ref l∧y=.ref b∧H l=some (.lst xs)∧H b=some (.lst zs)∧xs.length+zs.length≤sizeLine∧∀p,H p=none→Q (.ref p) (upd H p (.lst (xs++zs)))
theorem Hi:OpR X (binaryOp .Add) AIy:=by
 intro aA s σ H x y v u Q I rx ry h
 obtain ⟨l,b,xs,zs,rfl,rfl,hH,hB,hz,q⟩:=h
 cases rx
 cases ry
 obtain ⟨z,its,n,r,hl,e⟩:=I.lstM hH
 obtain ⟨z2,its2,n2,r2,hl2,e2⟩:=I.lstM hB
 refine PySem.P.add_list e e2 ?_ (by rw [List.size_toArray,List.size_toArray];omega)
 have ea:its.toArray++its2.toArray=(its++its2).toArray:=by simp
 rw [ea]
 exact ⟨.ref _,_,I.lnew (t':=s.toks) (r.append r2) (by rw [List.length_append];omega),rfl,q _ I.fresh⟩
def AKf:R2:=fun x y H Q=>∃l k xs,x=.ref l∧y=.int k∧H l=some (.lst xs)∧-(2^63)≤k∧k<2^63∧xs.length*k.toNat≤sizeLine ∧
 ∀p,H p=none→Q (.ref p) (upd H p (.lst (List.replicate k.toNat xs).flatten))
end
section
variable {prog:Program}{w:World}{A:Around}{E:Value→Shared→Prop}{s:Shared}
set_option maxRecDepth 100000 in
end
section
variable {X:Cx}
end
end L2
namespace Att
open PySem PySem.W PySem.Calls PyProof.Rows
theorem K3{P:Params}{h:Heap}:∀(ns:List Int) (vs:List Value),WellAll P h vs (ns.map WData.int)→IntsAre vs ns:=by
 intro ns
 induction ns with
 | nil =>
  intro vs w
  rw [List.map_nil] at w
  cases w
  exact .nil
 | cons n ns ih =>
  intro vs w
  rw [List.map_cons] at w
  cases w with
  | cons a b =>
   cases a
   exact .cons _ _ (ih _ b)
theorem WP{l:OpenLaw}{n:Nat}(hn:l.most=some n){P:Params}{h:Heap}{args:List WData}{vals:List Value}
  (hpre:l.row.toRowW.claim.pre args=true) (hwl:WellAll P h vals args) :
  ∃a vs ns,vals=[Value.ref a]∧args=[WData.list (ns.map WData.int)]∧h.get? a=some { cls:=.type "list",data:=.seq vs.toArray }∧IntsAre vs ns∧ns.length≤n:=by
 have hsh:WShape.hasAll [] args [.list .int]=true:=(pre_splitW hpre).1
 have hc:l.pre.holds [] { args:=args }=true:=(pre_splitW hpre).2
 obtain ⟨d,r,rfl,h1,h2⟩:=hasAllW_cons hsh
 obtain rfl:=hasAllW_nil h2
 obtain ⟨xs,rfl,h3⟩:=hasW_list h1
 obtain ⟨ns,rfl⟩:=items_int h3
 have aB:ns.length≤n:=by
  unfold OpenLaw.pre at hc
  have h4:(WTm.not (.lt (.lit (.int (n:Int))) (.len (.arg 0)))).holds [] { args:=[.list (ns.map .int)] }=true:=by
   have h4:=(holds_andW hc).1
   rw [hn] at h4
   exact h4
  have h5:=condW_of h4 (w_not (w_lt w_lit (w_len_list (w_arg rfl))))
  rw [List.length_map] at h5
  refine Nat.le_of_not_lt fun q=>?_
  have q':(n:Int)<((ns.length:Nat):Int):=by omega
  first
   | (rw [decide_eq_true q'] at h5;exact absurd h5 (by decide))
   | (simp at h5;omega)
 cases hwl with
 | cons w1 w2 =>
  cases w2
  cases w1 with
  | list ho hall=>exact ⟨_,_,ns,rfl,rfl,ho,K3 ns _ hall,aB⟩
theorem Vx(l:OpenLaw)(args:List WData):l.row.toRowW.claim.post args (.bool true) args=true :=
 postW_of (r:=l.row.toRowW) (X:=(true==true))
  (show WShape.has [] (.bool true) .bool=true by first | rfl | decide | simp [WShape.has,WShape.arms,WShape.armsAll])
  (show (WTm.eq .res (.lit (.bool true))).value [] { args:=args,res:=some (.bool true),after:=args }=some (.bool (true==true)) from w_eq_bool (w_res rfl) w_lit) rfl
theorem attach_call{l:OpenLaw}{n:Nat}{q:Program}{loose:List Str}{XP:(Str→Option Value)→Heap→Prop}{YP:World→Heap→Prop}{d:DefRec}
  (hn:l.most=some n) (hdf:d.params.defaults=[])
  (call:∀(w:World) (s₀ s₁:Shared) (mg mb:Str→Option Value) (fa:Addr) (o:Obj) (pm cd doc:Value) (a:Addr) (vs:List Value) (ns:List Int),
   Ground q loose [] XP w s₀ mg mb s₁.heap→YP w s₁.heap →
   s₁.heap.get? fa=some o→o.data=.func (docDef d.name d.params d.body d.scope pm cd doc)→s₁.heap.CodeRec cd d.name→mg d.name=some (.ref fa) →
   s₁.heap.get? a=some { cls:=.type "list",data:=.seq vs.toArray }→IntsAre vs ns→ns.length≤n→s₁.gens=#[] →
   codeAny (model l.prog w) callerA (.call (.ref fa) ⟨[.ref a],[]⟩) (fun r s'=>r=.ok (.ret (.bool true))∧OldK s₁.heap s'.heap∧s'.os=s₁.os∧AllBare s'.gens) s₁) :
  WalkO q loose XP YP l.row.toRowW d [] (fun f vs=>PySem.call f vs):=by
 intro w s₀ s₁ mg mb G Y fa o pm cd doc dV kV ho hd hcd hD hmg hg args vals as hpre hlay hrd hwl hlo
 obtain rfl:dV=.none:=Dflts.none hD hdf
 obtain rfl:kV=.none:=Dflts.noKw hD
 obtain ⟨a,vs,ns,rfl,rfl,hobj,hints,aB⟩:=WP hn hpre hwl
 refine enter_call (codeAny_mono (call w s₀ s₁ mg mb fa o pm cd doc a vs ns G Y ho (fd_plain hd) hcd hmg hobj hints aB hg) fun r s' hq=>?_)
 obtain ⟨rfl,h2,h3,h4⟩:=hq
 exact ⟨.inl ⟨.bool true,.bool true,[],rfl,fun _=>rfl,.bool true,Vx l _,fun _=>⟨List.Pairwise.nil,fun _ hm=>(nomatch hm)⟩⟩,h2,h3,h4⟩
section
variable {prog:Program}{w:World}{A:Around}{E:Value→Shared→Prop}{s:Shared}{K:Frag}
def AI1(h:Heap):Heap:={ h with objs:=#[] }
def AJC(h:Heap)(L d:Addr):List (Addr×Obj):=(List.range h.objs.size).filterMap fun a=>if a=L∨a=d then none else (h.get? a).map fun o=>(a,o)
end
end Att
namespace L2
open PySem PySem.Spec PyProof.Rows
theorem O7:∀{vs:List Value} {ns:List Int},IntsAre vs ns→BW (ns.map V.int) vs
 | _,_,.nil=>.nil
 | _,_,.cons n t h=>.cons ⟨t,rfl⟩ (O7 h)
def ABw(H:Hp):Prop:=∀b,H b=none∨∃o xs,H b=some (.frz o (.lst xs))
theorem Xl{P:Program}{w:World}{K:PySem.W.Frag}{mg mb:Str→Option Value}{CX:CXT}{k:Nat}{fa a:Addr}{fd:FuncData}{x:Str}{sp:Sp}{s₁:Shared}{vs:List Value}{ns:List Int}
  (KX:K.In s₁.heap) (hns:s₁.heap.Ns mainGlobals mg) (hb:s₁.heap.Ns builtinsNs mb) (hbb:∀x:Str,x≠"__name__"→mb x=bootBuiltins x) (hlim:s₁.heap.NoLimit) (hg:s₁.gens=#[])
  (ha:s₁.heap.get? a=some { cls:=.type "list",data:=.seq vs.toArray }) (hi:IntsAre vs ns) (hl:ns.length≤sizeLine) (hr:Df k callerA)
  (F:∀base:Heap,K.In base→base.Ns mainGlobals mg→BZ P w K mg base CX k fa fd [x] sp) (hbind:∀(s:Shared) (u:Value),BindsTo s fd ⟨[u],[]⟩ [(x,u)])
  (hsp:∀H:Hp,ABw H→SqL K H a (ns.map V.int)→sp [.ref a] H (fun v _=>v=.bl true) fun _ _ _=>False)
  (hCX:∀H e s',CX [] H s₁ (fun _ _ _=>False) e s'→False) :
  codeAny (model P w) callerA (.call (.ref fa) ⟨[.ref a],[]⟩) (fun r s'=>r=.ok (.ret (.bool true))∧OldK s₁.heap s'.heap∧s'.os=s₁.os∧AllBare s'.gens) s₁:=by
 have rv:=O7 hi
 have lenV:=hi.length
 have core:∀H:Hp,ABw H→SqL K H a (ns.map V.int)→HOk P w H s₁.heap→(∀b,H b≠none→b=a)→(H a≠none→K.lookup a=none) →
   codeAny (model P w) callerA (.call (.ref fa) ⟨[.ref a],[]⟩) (fun r s'=>r=.ok (.ret (.bool true))∧OldK s₁.heap s'.heap∧s'.os=s₁.os∧AllBare s'.gens) s₁:=by
  intro H hO hS hok hA hK
  have base_of:∀{b:Addr} {o:Obj},s₁.heap.get? b=some o→H b=none→(Pz s₁.heap H).get? b=some o:=fun e n=>Yb e n
  have noA:∀{b:Addr} {o:Obj} {es:Array DictEntry} {ep:Nat},s₁.heap.get? b=some o→o.data=.dict es ep→H b=none:=fun {b o es ep} e d=>by
   cases q:H b with
   | none=>rfl
   | some u =>
    have e':b=a:=hA b (by rw [q];simp)
    subst e'
    rw [ha] at e;cases e
    have d':Data.seq vs.toArray _=Data.dict es ep:=d
    cases d'
  have nsK:∀{b:Addr} {m:Str→Option Value},s₁.heap.Ns b m→(Pz s₁.heap H).Ns b m:=fun {b m} ⟨o,es,ep,e,d,r⟩=>⟨o,es,ep,base_of e (noA e d),d,r⟩
  have hKb:K.In (Pz s₁.heap H):=fun b o e=>base_of (KX b o e) (by
   cases q:H b with
   | none=>rfl
   | some u =>
    have e':b=a:=hA b (by rw [q];simp)
    subst e'
    rw [hK (by rw [q];simp)] at e;cases e)
  have hM:Mod K mg (Pz s₁.heap H):=⟨hKb,nsK hns,⟨mb,nsK hb,hbb⟩,let ⟨mc,h1,h2⟩:=hlim;⟨mc,nsK h1,h2⟩⟩
  have e0:T3 P w K mg (Pz s₁.heap H) callerA [] s₁ H:=⟨rfl,hM,fun b o e=>Zb e,Nat.le_of_eq (Vz _ _),trivial,fun b hb=>absurd (show b∈([]:List Addr) from hb) (by simp),hok,.of_eq hg⟩
  refine codeAny_mono ((F _ hKb (nsK hns)).run callerA [] s₁ H ⟨[.ref a],[]⟩ [.ref a] [.ref a] _ _ hr e0 (hbind s₁ (.ref a)) (.cons rfl .nil) (hsp H hO hS)) fun r s' h=>?_
  cases r with
  | error e=>exact (hCX H e s' h).elim
  | ok fl =>
   cases fl with
   | next=>exact False.elim h
   | brk=>exact False.elim h
   | cont=>exact False.elim h
   | ret u =>
    obtain ⟨v,H',os,bare,un,hok',r',q⟩:=h
    have q':v=.bl true:=q
    subst q'
    obtain rfl:u=Value.bool true:=r'
    refine ⟨rfl,OldK.of_keep fun b o e=>?_,os,bare⟩
    cases q:H b with
    | none=>exact un.keep b o e q (by intro z;exact absurd (show b∈([]:List Addr) from z) (by simp)) (by simp)
    | some u =>
     rcases hO b with z | ⟨ob,xs,z⟩
     ·rw [q] at z;cases z
     ·have z2:=un.frzs b ob _ z
      obtain ⟨e1,_⟩:=hok b _ z
      obtain ⟨e2,_⟩:=hok' b _ z2
      rw [e] at e1;cases e1
      exact e2
 cases hk:K.lookup a with
 | some o =>
  have e:=KX a o hk
  rw [ha] at e
  cases e
  refine core (fun _=>none) (fun _=>.inl rfl) (.inr ⟨_,vs.toArray,_,hk,rfl,rfl,rfl,by rw [List.size_toArray,lenV];exact hl,by simpa using rv⟩) (fun b u z=>by have z':(none:Option HO)=some u:=z;cases z') (fun b z=>absurd rfl z) fun z=>absurd rfl z
 | none =>
  refine core (fun b=>if b=a then some (.frz { cls:=.type "list",data:=.seq vs.toArray } (.lst (ns.map V.int))) else none) (fun b=>?_) (.inl (.inr ⟨{ cls:=.type "list",data:=.seq vs.toArray },if_pos rfl⟩)) (fun b u z=>?_) (fun b z=>?_) fun _=>hk
  ·by_cases hb:b=a
   ·exact .inr ⟨_,_,if_pos hb⟩
   ·exact .inl (if_neg hb)
  ·by_cases hb:b=a
   ·have z':=(if_pos hb).symm.trans z
    cases z'
    subst hb
    exact ⟨ha,by rw [List.length_map];exact hl,vs,_,rv,ha⟩
   ·have z':=(if_neg hb).symm.trans z
    cases z'
  ·by_cases hb:b=a
   ·exact hb
   ·exact absurd (if_neg hb) z
end L2
namespace L2
open PySem PySem.Spec PyProof.Rows
abbrev KOf{K:PySem.W.Frag}{h:Heap}(_:K.In h):PySem.W.Frag:=K
theorem walk_of{l:PySem.W.OpenLaw}{n k:Nat}{q:Program}{loose:List Str}{XP:(Str→Option Value)→Heap→Prop}{YP:World→Heap→Prop}{d:DefRec}{K:Params→PySem.W.Frag}{CX:World→CXT}{sp:World→Sp}{x:Str}
  (hn:l.most=some n) (hn2:n≤sizeLine) (hdf:d.params.defaults=[]) (hr:Df k callerA)
  (hY:∀(w:World) (h:Heap),YP w h→(K w.params).In h)
  (F:∀(w:World) (mg:Str→Option Value) (fa:Addr) (h:Heap),(K w.params).In h→h.Ns mainGlobals mg→mg d.name=some (.ref fa) →
   ∃fd:FuncData,(∀(s:Shared) (u:Value),BindsTo s fd ⟨[u],[]⟩ [(x,u)]) ∧
    ∀base:Heap,(K w.params).In base→base.Ns mainGlobals mg→BZ l.prog w (K w.params) mg base (CX w) k fa fd [x] (sp w))
  (hsp:∀(w:World) (H:Hp) (a:Addr) (ns:List Int),ns.length≤n→ABw H→SqL (K w.params) H a (ns.map V.int)→sp w [.ref a] H (fun v _=>v=.bl true) fun _ _ _=>False)
  (hCX:∀(w:World) (H:Hp) (s:Shared) (e:Value) (s':Shared),CX w [] H s (fun _ _ _=>False) e s'→False) :
  PySem.W.WalkO q loose XP YP l.row.toRowW d [] (fun f vs=>PySem.call f vs):=by
 refine Att.attach_call hn hdf fun w s₀ s₁ mg mb fa o pm cd doc a vs ns G Y ho hd hcd hmg hobj hints aB hg=>?_
 have KX:=hY w _ Y
 obtain ⟨fd,hb,hF⟩:=F w mg fa _ KX G.T.g hmg
 exact Xl KX G.T.g G.T.b G.T.builtins G.T.nolimit hg hobj hints (Nat.le_trans aB hn2) hr hF hb (fun H hO hS=>hsp w H a ns aB hO hS) fun H e s'=>hCX w H s₁ e s'
end L2
namespace L2
open PySem PySem.Spec PyProof.Rows
def BV(s:Stmt)(j:Nat):Stmt:=match s with
 | .ClassDef _ _ _ body _ _ _ _ _ _ _=>body.getD j (.Pass ⟨0,0,0,0⟩)
 | _=>.Pass ⟨0,0,0,0⟩
def An(s:Stmt):Arguments:=match s with
 | .FunctionDef _ a _ _ _ _ _ _ _ _=>a
 | _=>{ posonlyargs:=[],args:=[],vararg:=none,kwonlyargs:=[],kw_defaults:=[],kwarg:=none,defaults:=[] }
def Ak(s:Stmt):List Stmt:=match s with
 | .FunctionDef _ _ b _ _ _ _ _ _ _=>b
 | _=>[]
def Ac(s:Stmt):Scope:=match s with
 | .FunctionDef _ _ _ _ _ _ sc _ _ _=>sc
 | _=>{ kind:=.function,names:=[],isGenerator:=false,isCoroutine:=false }
abbrev CX0:CXT:=fun _ _ _ _ _ _=>False
abbrev E0:XK:=fun _ _ _=>False
theorem Xa{X:Cx}:Dy CX0 X E0:=fun _ _ _ _ _ _ _ h=>h.elim
structure Fun(K:PySem.W.Frag)(x qual:Str)(st:Stmt)(f:Addr)(fd:FuncData):Prop where
 ex:∃(oc:Value) (od:Option Addr) (kV doc pm:Value) (an:Option Addr) (cdv ct:Value) (osl:Array (Option Value)),
  fd=PySem.W.fnOf x qual (An st) (Ak st) (Ac st) .none kV doc pm an cdv ct∧K.lookup f=some ⟨oc,od,.func fd,osl⟩∧PySem.W.codeIn K cdv qual=true
 kp:PySem.W.keepIn K (.ref f)=true
section
variable {P:Program}{w:World}{K:PySem.W.Frag}{mg:Str→Option Value}{base:Heap}
theorem Fun.ok{x qual:Str}{st:Stmt}{f:Addr}{fd:FuncData}{N ps:List Str}{k:Nat}{sp:Sp}(F:Fun K x qual st f fd)(S:Aw N ps (Ac st))(len:∀vs H Q E,sp vs H Q E→vs.length=ps.length)
  (hbody:∀(cdv:Value) (A:Around) (outer:List Env) (s:Shared) (H:Hp) (vs:List V) (Q:VK) (E:XK),Df k (A.deeper (envOfC qual (Ac st) s.heap.objs.size f cdv))→sp vs H Q E →
   ∃t,PSs (Bp CX0 P w K mg base N qual (Ac st) f cdv A outer s H E).nox (Ak st) t∧t { nx:=fun _ H'=>Q .non H',rt:=Q } (Jk N vs) H):BZ P w K mg base CX0 (k+1) f fd ps sp:=by
 obtain ⟨oc,od,kV,doc,pm,an,cdv,ct,osl,rfl,lk,hcd⟩:=F.ex
 refine AAg lk hcd S len fun A outer s H vs Q E hr hsp=>?_
 obtain ⟨t,h,q⟩:=hbody cdv A outer s H vs Q E hr hsp
 exact ⟨t,h.nox,q⟩
theorem Fun.binds{x qual:Str}{st:Stmt}{f:Addr}{fd:FuncData}{ps:List Str}(F:Fun K x qual st f fd)
  (h:∀(kV doc pm:Value) (an:Option Addr) (cdv ct:Value) (us:List Value),us.length=ps.length→bindArgs (PySem.W.fnOf x qual (An st) (Ak st) (Ac st) .none kV doc pm an cdv ct) ⟨us,[]⟩=pure (ps.zip us)):En K fd ps []:=by
 obtain ⟨oc,od,kV,doc,pm,an,cdv,ct,osl,rfl,lk,hcd⟩:=F.ex
 exact .all (h kV doc pm an cdv ct)
theorem BK{x qual:Str}{st:Stmt}{f:Addr}{oc:Value}{od an:Option Addr}{osl:Array (Option Value)}{kV doc pm cdv ct:Value}(l:K.lookup f=some ⟨oc,od,.func (PySem.W.fnOf x qual (An st) (Ak st) (Ac st) .none kV doc pm an cdv ct),osl⟩)
  (c:PySem.W.codeIn K cdv qual=true) (k:PySem.W.keepIn K (.ref f)=true):Fun K x qual st f (PySem.W.fnOf x qual (An st) (Ak st) (Ac st) .none kV doc pm an cdv ct):=⟨⟨oc,od,kV,doc,pm,an,cdv,ct,osl,rfl,l,c⟩,k⟩
end
section
variable {X:Cx}
theorem pv(i:Nat){x:Str}{pos:Pos}(hN:X.N[i]?=some x:=by rfl)(hv:Vis X.env.scope x:=by first | exact Or.inl rfl | exact Or.inr (Or.inl rfl) | exact Or.inr (Or.inr rfl))(hd:(x==("__debug__":Str))=false:=by decide)
  (hcd:(x==("__classdict__":Str))=false:=by decide):PE X (.Name x pos) (ACn i):=ABm hN hv hd hcd
end
theorem DY{A B:Prop}(h:B):if false=true then A else B:=by
 rw [if_neg Bool.false_ne_true]
 exact h
theorem FN{A B:Prop}(h:A):if true=true then A else B:=by
 rw [if_pos rfl]
 exact h
theorem Jt{c A B:Prop}[Decidable c](h1:c→A)(h2:¬c→B):if c then A else B:=by
 by_cases h:c
 ·rw [if_pos h]
  exact h1 h
 ·rw [if_neg h]
  exact h2 h
theorem Hj{c A B:Prop}[Decidable c](hc:c)(h:B):if (!decide c)=true then A else B:=by
 rw [decide_eq_true hc]
 exact DY h
def Aj(H H':Hp):Prop:=∀b o,H b=some o→H' b=some o
theorem Aj.refl(H:Hp):Aj H H:=fun _ _ h=>h
theorem Aj.trans{H H1 H2:Hp}(a:Aj H H1)(b:Aj H1 H2):Aj H H2:=fun c o h=>b c o (a c o h)
theorem Aj.free{H H':Hp}(e:Aj H H'){l:Addr}(h:H' l=Option.none):H l=Option.none:=by
 cases q:H l with
 | none=>rfl
 | some o =>
  rw [e l o q] at h
  cases h
end L2
namespace L2
open PySem PySem.Spec PyProof.Rows
section
variable {κ:Type}[DecidableEq κ]
def Ck(aG:List (κ×V))(k:κ):Option V:=(aG.find? fun kv=>decide (kv.1=k)).map (·.2)
def Gw(aG:List (κ×V))(k:κ)(v:V):List (κ×V) :=
 if (aG.any fun kv=>decide (kv.1=k))=true then aG.map (fun kv=>if kv.1=k then (kv.1,v) else kv) else aG++[(k,v)]
def G5(aG:List (κ×V))(k:κ):List (κ×V):=aG.filter fun kv=>decide (kv.1≠k)
theorem Cd{p:κ×V}{r:List (κ×V)}{k:κ}(e:p.1=k):Ck (p::r) k=some p.2:=by simp [Ck,List.find?_cons,e]
theorem Bx{p:κ×V}{r:List (κ×V)}{k:κ}(e:¬p.1=k):Ck (p::r) k=Ck r k:=by simp [Ck,List.find?_cons,e]
theorem Ja(k:κ):∀aG:List (κ×V),(aG.any fun kv=>decide (kv.1=k))=(Ck aG k).isSome
 | []=>rfl
 | p::r=>by
  rw [List.any_cons]
  by_cases e:p.1=k
  ·simp only [Cd e,decide_eq_true e,Bool.true_or,Option.isSome_some]
  ·rw [Bx e,decide_eq_false e,Bool.false_or];exact Ja k r
theorem RT(k j:κ)(y:V):∀aG:List (κ×V),Ck (aG.map fun kv=>if kv.1=k then (kv.1,y) else kv) j=(Ck aG j).map fun x=>if j=k then y else x
 | []=>rfl
 | p::r=>by
  have ih:=RT k j y r
  rw [List.map_cons]
  by_cases h:p.1=k
  ·rw [if_pos h]
   by_cases e:p.1=j
   ·rw [Cd (p:=(p.1,y)) e,Cd e,Option.map_some,if_pos (e.symm.trans h)]
   ·rw [Bx (p:=(p.1,y)) e,Bx e,ih]
  ·rw [if_neg h]
   by_cases e:p.1=j
   ·rw [Cd (p:=p) e,Cd e,Option.map_some,if_neg (fun z=>h (e.trans z))]
   ·rw [Bx (p:=p) e,Bx e,ih]
theorem PX(k j:κ)(y:V):∀aG:List (κ×V),Ck aG k=none→Ck (aG++[(k,y)]) j=if j=k then some y else Ck aG j
 | [],_=>by
  by_cases e:k=j
  ·rw [if_pos e.symm];exact Cd (p:=(k,y)) e
  ·rw [if_neg (fun z=>e z.symm)];exact Bx (p:=(k,y)) e
 | p::r,hn=>by
  rw [List.cons_append]
  have hk:¬p.1=k:=fun z=>by rw [Cd z] at hn;cases hn
  rw [Bx hk] at hn
  have ih:=PX k j y r hn
  by_cases e:p.1=j
  ·rw [Cd e,Cd e,if_neg (fun z=>hk (e.trans z))]
  ·rw [Bx e,Bx e,ih]
theorem Ru(aG:List (κ×V))(k j:κ)(y:V):Ck (Gw aG k y) j=if j=k then some y else Ck aG j:=by
 unfold Gw
 by_cases a:(aG.any fun kv=>decide (kv.1=k))=true
 ·rw [if_pos a,RT]
  rw [Ja] at a
  by_cases e:j=k
  ·obtain ⟨x,hx⟩:=Option.isSome_iff_exists.mp a
   rw [if_pos e,e,hx,Option.map_some,if_pos rfl]
  ·rw [if_neg e]
   cases Ck aG j with
   | none=>rfl
   | some x=>rw [Option.map_some,if_neg e]
 ·rw [if_neg a]
  refine PX k j y aG ?_
  rw [Ja] at a
  cases q:Ck aG k with
  | none=>rfl
  | some x=>rw [q] at a;exact (a rfl).elim
theorem Kp(aG:List (κ×V))(k:κ)(v:V):(Gw aG k v).length≤aG.length+1:=by
 unfold Gw
 split
 ·rw [List.length_map];omega
 ·rw [List.length_append,List.length_cons,List.length_nil];omega
theorem Gs.isSome_eq{o:Option V}{u:Option Value}(r:Gs o u):o.isSome=u.isSome:=by
 cases o with
 | none=>cases u with
  | none=>rfl
  | some _=>exact (show False from r).elim
 | some _=>cases u with
  | none=>exact (show False from r).elim
  | some _=>rfl
theorem KV.val{aG:List (κ×V)}{vs:List (κ×Value)}(r:KV aG vs)(k:κ):Gs (Ck aG k) (valueAt vs k):=by
 unfold KV at r
 induction r with
 | nil=>exact True.intro
 | @cons p q ps qs h t ih =>
  obtain ⟨h1,h2⟩:=h
  by_cases e:p.1=k
  ·have e':q.1=k:=h1.symm.trans e
   have b:valueAt (q::qs) k=some q.2:=by simp [valueAt,List.find?_cons,e']
   rw [Cd e,b];exact h2
  ·have e':¬q.1=k:=fun z=>e (h1.trans z)
   have b:valueAt (q::qs) k=valueAt qs k:=by simp [valueAt,List.find?_cons,e']
   rw [Bx e,b];exact ih
theorem KV.any{aG:List (κ×V)}{vs:List (κ×Value)}(r:KV aG vs)(k:κ):(aG.any fun kv=>decide (kv.1=k))=vs.any fun kv=>decide (kv.1=k):=by
 unfold KV at r
 induction r with
 | nil=>rfl
 | cons h t ih=>rw [List.any_cons,List.any_cons,ih,h.1]
theorem KV.repl{aG:List (κ×V)}{vs:List (κ×Value)}(r:KV aG vs)(k:κ){y:V}{u:Value}(ry:Bb y u) :
  KV (aG.map fun kv=>if kv.1=k then (kv.1,y) else kv) (vs.map fun kv=>if kv.1=k then (kv.1,u) else kv):=by
 unfold KV at r ⊢
 induction r with
 | nil=>exact .nil
 | @cons p q ps qs h t ih =>
  rw [List.map_cons,List.map_cons]
  refine .cons ?_ ih
  obtain ⟨h1,h2⟩:=h
  by_cases e:p.1=k
  ·rw [if_pos e,if_pos (h1.symm.trans e)];exact ⟨h1,ry⟩
  ·rw [if_neg e,if_neg (fun z=>e (h1.trans z))];exact ⟨h1,h2⟩
theorem KV.put{aG:List (κ×V)}{vs:List (κ×Value)}(r:KV aG vs)(k:κ){y:V}{u:Value}(ry:Bb y u):KV (Gw aG k y) (stored vs k u):=by
 unfold Gw stored
 rw [r.any k]
 by_cases e:(vs.any fun kv=>decide (kv.1=k))=true
 ·rw [if_pos e,if_pos e];exact r.repl k ry
 ·rw [if_neg e,if_neg e];exact Paired.snoc r ⟨rfl,ry⟩
theorem KV.drop{aG:List (κ×V)}{vs:List (κ×Value)}(r:KV aG vs)(k:κ):KV (G5 aG k) (without vs k):=by
 unfold KV at r ⊢
 unfold G5 without
 induction r with
 | nil=>exact .nil
 | @cons p q ps qs h t ih =>
  obtain ⟨h1,h2⟩:=h
  rw [List.filter_cons,List.filter_cons]
  by_cases e:p.1=k
  ·have a:¬decide (p.1≠k)=true:=by simp [e]
   have b:¬decide (q.1≠k)=true:=by simp [h1.symm.trans e]
   rw [if_neg a,if_neg b];exact ih
  ·have e':¬q.1=k:=fun z=>e (h1.trans z)
   have a:decide (p.1≠k)=true:=by simp [e]
   have b:decide (q.1≠k)=true:=by simp [e']
   rw [if_pos a,if_pos b];exact .cons ⟨h1,h2⟩ ih
theorem KV.length{aG:List (κ×V)}{vs:List (κ×Value)}(r:KV aG vs):aG.length=vs.length:=Paired.length r
theorem MF(aG:List (κ×V))(k:κ):(G5 aG k).length≤aG.length:=List.length_filter_le _ _
end
theorem Km{P:Program}{w:World}{k:Key}{u:Value}(r:Bb (kV k) u):(Bv P w).is k u=true:=by
 cases k with
 | inl i=>obtain ⟨t,e⟩:=(show ∃t,u=Value.int i t from r);subst e;exact R9 P w i t
 | inr x=>obtain ⟨t,e⟩:=(show ∃t,u=Value.str x t from r);subst e;exact Hl P w x t
theorem Pa{P:Program}{w:World}:∀{ks:List Key} {us:List Value},BW (ks.map kV) us→ItemsAre (Bv P w) ks us
 | [],_,r=>by rw [List.map_nil] at r;cases r;exact .nil
 | k::ks,_,r=>by
  rw [List.map_cons] at r
  cases r with
  | cons h t=>exact .cons (Km h) (Pa t)
abbrev KT(H:Hp):List (List Key×V)→List (List Key×Addr×Value)→Prop:=Paired fun p q=>p.1=q.1∧H q.2.1=some (.tup (p.1.map kV))∧Bb p.2 q.2.2
theorem KT.val{H:Hp}{aG:List (List Key×V)}{xs:List (List Key×Addr×Value)}(r:KT H aG xs)(k:List Key):Gs (Ck aG k) ((atKey xs k).map (·.2)):=by
 induction r with
 | nil=>exact True.intro
 | @cons p q ps qs h t ih =>
  obtain ⟨h1,_,h2⟩:=h
  by_cases e:p.1=k
  ·have e':q.1=k:=h1.symm.trans e
   have b:atKey (q::qs) k=some q.2:=by simp [atKey,List.find?_cons,e']
   rw [Cd e,b];exact h2
  ·have e':¬q.1=k:=fun z=>e (h1.trans z)
   have b:atKey (q::qs) k=atKey qs k:=by simp [atKey,List.find?_cons,e']
   rw [Bx e,b];exact ih
theorem KT.repl{H:Hp}{aG:List (List Key×V)}{xs:List (List Key×Addr×Value)}(r:KT H aG xs)(k:List Key){y:V}{u:Value}(ry:Bb y u) :
  KT H (aG.map fun kv=>if kv.1=k then (kv.1,y) else kv) (xs.map (putAt k u)):=by
 induction r with
 | nil=>exact .nil
 | @cons p q ps qs h t ih =>
  rw [List.map_cons,List.map_cons]
  refine .cons ?_ ih
  obtain ⟨h1,h2,h3⟩:=h
  unfold putAt
  by_cases e:p.1=k
  ·rw [if_pos e,if_pos (h1.symm.trans e)];exact ⟨h1,h2,ry⟩
  ·rw [if_neg e,if_neg (fun z=>e (h1.trans z))];exact ⟨h1,h2,h3⟩
theorem KT.put{H:Hp}{aG:List (List Key×V)}{xs:List (List Key×Addr×Value)}(r:KT H aG xs)(k:List Key){b:Addr}{y:V}{u:Value}(hb:H b=some (.tup (k.map kV)))(ry:Bb y u) :
  KT H (Gw aG k y) (storedH xs k b u):=by
 have e:(aG.any fun kv=>decide (kv.1=k))=(atKey xs k).isSome:=by
  rw [Ja,(r.val k).isSome_eq,Option.isSome_map]
 unfold Gw storedH
 rw [e]
 by_cases q:(atKey xs k).isSome=true
 ·rw [if_pos q,if_pos q];exact r.repl k ry
 ·rw [if_neg q,if_neg q];exact Paired.snoc r ⟨rfl,hb,ry⟩
theorem KT.keeps{H H':Hp}{aG:List (List Key×V)}{xs:List (List Key×Addr×Value)}(r:KT H aG xs)(ht:∀b ys,H b=some (.tup ys)→H' b=some (.tup ys)):KT H' aG xs :=
 Paired.mapP r fun _ _ z=>⟨z.1,ht _ _ z.2.1,z.2.2⟩
section
variable {P:Program}{w:World}{H:Hp}{h:Heap}{a:Addr}
theorem Z1{u:HO}(ok:HOk P w H h)(e:Rd H a u):Bl P w H h a u:=e.ok ok
theorem O1{aG:List (Key×V)}(ok:HOk P w H h)(e:Rd H a (.dK aG)):aG.length≤sizeLine∧(a==sysModules)=false∧∃vs,KV aG vs∧h.DictOf (Bv P w) a vs :=
 show Bl P w H h a (.dK aG) from Z1 ok e
theorem Z7{aG:List (Key×V)}(ok:HOk P w H h)(e:H a=some (.dK aG)):aG.length≤sizeLine∧(a==sysModules)=false∧∃vs,KV aG vs∧h.DictOf (Bv P w) a vs:=O1 ok (.inl e)
theorem Mv{ks:List Key}(ok:HOk P w H h)(e:H a=some (.tup (ks.map kV))):(tupleKind (Bv P w)).is h ks a:=by
 obtain ⟨_,its,r,o,h1,h2,n,h3⟩:=(show Bl P w H h a (.tup (ks.map kV)) from ok a _ e)
 exact ⟨o,its.toArray,n,h1,h2,h3,by simpa using Pa r⟩
theorem Oe{aG:List (List Key×V)}(ok:HOk P w H h)(e:Rd H a (.dT aG)):aG.length≤sizeLine∧(a==sysModules)=false ∧
  ∃xs,KT H aG xs∧h.DictOfH (tupleKind (Bv P w)) a xs:=by
 obtain ⟨z,y,xs,r,o,es,ep,h1,h2,h3,h4,h5⟩:=(show Bl P w H h a (.dT aG) from Z1 ok e)
 refine ⟨z,y,xs,r,o,es,ep,h1,h2,h3,h4,fun x hx=>?_,h5⟩
 have all:∀{l:List (List Key×V)} {m:List (List Key×Addr×Value)},KT H l m→∀x∈m,(tupleKind (Bv P w)).is h x.1 x.2.1:=by
  intro l m q
  induction q with
  | nil=>intro x hx;exact nomatch hx
  | @cons p q ps qs hq t ih =>
   intro x hx
   rcases List.mem_cons.mp hx with e | hx
   ·subst e
    exact Mv ok (by rw [←hq.1];exact hq.2.1)
   ·exact ih x hx
 exact all r x hx
theorem ADV{aG:List (List Key×V)}(ok:HOk P w H h)(e:H a=some (.dT aG)):aG.length≤sizeLine∧(a==sysModules)=false ∧
  ∃xs,KT H aG xs∧h.DictOfH (tupleKind (Bv P w)) a xs:=Oe ok (.inl e)
end
def Dk(H:Hp)(a:Addr)(y:V)(r:Option V):Prop :=
 (∃aG k,Rd H a (.dK aG)∧y=kV k∧r=Ck aG k)∨∃aG k b,Rd H a (.dT aG)∧y=.ref b∧H b=some (.tup (k.map kV))∧r=Ck aG k
def Ut(H:Hp)(a:Addr)(y v:V)(H':Hp):Prop :=
 (∃aG k,H a=some (.dK aG)∧y=kV k∧aG.length<sizeLine∧H'=upd H a (.dK (Gw aG k v))) ∨
 ∃aG k b,H a=some (.dT aG)∧y=.ref b∧H b=some (.tup (k.map kV))∧aG.length<sizeLine∧H'=upd H a (.dT (Gw aG k v))
theorem Dk.k{H:Hp}{a:Addr}{aG:List (Key×V)}{k:Key}(e:H a=some (.dK aG)):Dk H a (kV k) (Ck aG k):=.inl ⟨aG,k,.inl e,rfl,rfl⟩
theorem Ut.k{H:Hp}{a:Addr}{aG:List (Key×V)}{k:Key}{v:V}(e:H a=some (.dK aG))(hl:aG.length<sizeLine):Ut H a (kV k) v (upd H a (.dK (Gw aG k v))):=.inl ⟨aG,k,e,rfl,hl,rfl⟩
section
variable {X:Cx}{aA:List (Addr×Obj)}{σ:St}{H:Hp}{s:Shared}{a:Addr}{y v:V}{u r:Value}{o:Option V}{A:Around}{E:Value→Shared→Prop}
theorem Inv.big(I:Inv X aA σ H s):sysModules<s.heap.objs.size:=by
 have h:mainGlobals<s.heap.objs.size:=(I.mod.glob.keeps I.bk).lt
 exact Nat.lt_trans (by decide) h
theorem Wm{Q:Value→Shared→Prop}(hu:A.units+1<cLine)(I:Inv X aA σ H s)(g:Dk H a y (some v))(ry:Bb y u)(h:∀w' s',Inv X aA σ H s'→Bb v w'→Q w' s') :
  wpAny (model X.prog X.w) A (getItem (.ref a) u) Q E s:=by
 rcases g with ⟨aG,k,e,ey,l⟩ | ⟨aG,k,b,e,ey,eb,l⟩
 ·subst ey
  obtain ⟨z,hd,vs,rel,dd⟩:=O1 I.hok e
  obtain ⟨w',hw,rw'⟩:=Gs.some_of (v:=v) (o:=valueAt vs k) (by rw [l];exact rel.val k)
  exact wpAny_getItem_of (Km ry) dd.mapOf hw (h w' _ (I.tok _) rw')
 ·subst ey
  cases (show u=Value.ref b from ry)
  obtain ⟨z,hd,xs,rel,dd⟩:=Oe I.hok e
  obtain ⟨w',hw,rw'⟩:=Gs.some_of (v:=v) (o:=(atKey xs k).map (·.2)) (by rw [l];exact rel.val k)
  obtain ⟨p,hp,hp2⟩:=Option.map_eq_some_iff.mp hw
  refine wpAny_getItem_heap (tupleKind_room_in1 hu) (Mv I.hok eb) dd hp ?_
  rw [hp2]
  exact h w' _ (I.tok _) rw'
theorem AJH{Q:Value→Shared→Prop}(hu:A.units+1<cLine)(I:Inv X aA σ H s)(g:Dk H a y o)(ry:Bb y u)(h:∀s',Inv X aA σ H s'→Q (.bool o.isSome) s') :
  wpAny (model X.prog X.w) A (compareOp .In u (.ref a)) Q E s:=by
 rcases g with ⟨aG,k,e,ey,l⟩ | ⟨aG,k,b,e,ey,eb,l⟩
 ·subst ey
  obtain ⟨z,hd,vs,rel,dd⟩:=O1 I.hok e
  refine wpAny_in_of (Km ry) hd dd.mapOf ?_
  rw [←(rel.val k).isSome_eq,←l]
  exact h _ (I.tok _)
 ·subst ey
  cases (show u=Value.ref b from ry)
  obtain ⟨z,hd,xs,rel,dd⟩:=Oe I.hok e
  refine wpAny_in_heap (tupleKind_room_in1 hu) (Mv I.hok eb) hd dd ?_
  have q:=(rel.val k).isSome_eq
  rw [Option.isSome_map] at q
  rw [←q,←l]
  exact h _ (I.tok _)
theorem ZF{Q:Value→Shared→Prop}(hu:A.units+1<cLine)(I:Inv X aA σ H s)(g:Dk H a y o)(ry:Bb y u)(h:∀s',Inv X aA σ H s'→Q (.bool (!o.isSome)) s') :
  wpAny (model X.prog X.w) A (compareOp .NotIn u (.ref a)) Q E s:=by
 rcases g with ⟨aG,k,e,ey,l⟩ | ⟨aG,k,b,e,ey,eb,l⟩
 ·subst ey
  obtain ⟨z,hd,vs,rel,dd⟩:=O1 I.hok e
  refine wpAny_notIn_of (Km ry) hd dd.mapOf ?_
  rw [←(rel.val k).isSome_eq,←l]
  exact h _ (I.tok _)
 ·subst ey
  cases (show u=Value.ref b from ry)
  obtain ⟨z,hd,xs,rel,dd⟩:=Oe I.hok e
  refine wpAny_notIn_heap (tupleKind_room_in1 hu) (Mv I.hok eb) hd dd ?_
  have q:=(rel.val k).isSome_eq
  rw [Option.isSome_map] at q
  rw [←q,←l]
  exact h _ (I.tok _)
theorem Qy{h':Heap}{t':Nat}{ob:HO}(I:Inv X aA σ H s)(mu:Mut (H a))(hs:Heap.SameBut a s.heap h')(he:∃q,h'.get? a=some q)(new:Bl X.prog X.w (upd H a ob) h' a ob) :
  Inv X aA σ (upd H a ob) { s with heap:=h',toks:=t' } :=
 I.write (x:=a) (e:=a) mu (.inl rfl) (fun b q hb z=>(hs.2 b hb).trans z) he new
theorem YK{P:Program}{w:World}{H':Hp}{h':Heap}{aG:List (Key×V)}{vs:List (Key×Value)}(z:aG.length≤sizeLine)(hd:(a==sysModules)=false)(rel:KV aG vs)(dd:h'.DictOf (Bv P w) a vs) :
  Bl P w H' h' a (.dK aG):=⟨z,hd,vs,rel,dd⟩
theorem Vu{H':Hp}{Q:Unit→Shared→Prop}(hu:A.units+1<cLine)(I:Inv X aA σ H s)(g:Ut H a y v H')(ry:Bb y u)(rv:Bb v r)(h:∀s',Inv X aA σ H' s'→Q () s') :
  wpAny (model X.prog X.w) A (setItem (.ref a) u r) Q E s:=by
 rcases g with ⟨aG,k,e,ey,l,eH⟩ | ⟨aG,k,b,e,ey,eb,l,eH⟩
 ·subst ey eH
  obtain ⟨z,hd,vs,rel,dd⟩:=Z7 I.hok e
  have hz:vs.length≤sizeLine:=by rw [←rel.length];exact z
  have hl:(Gw aG k v).length≤sizeLine:=by have:=Kp aG k v;omega
  refine wpAny_setItem_pairs (hsz:=hz) (Km ry) dd fun h' dd' hs=>h _ ?_
  have he:∃q,h'.get? a=some q:=let ⟨q,_,_,hq,_⟩:=dd';⟨q,hq⟩
  exact Qy I (by rw [e];exact True.intro) hs he (YK hl hd (rel.put k rv) dd')
 ·subst ey eH
  cases (show u=Value.ref b from ry)
  obtain ⟨z,hd,xs,rel,dd⟩:=ADV I.hok e
  have hz:xs.length≤sizeLine:=by rw [←Paired.length rel];exact z
  have hl:(Gw aG k v).length≤sizeLine:=by have:=Kp aG k v;omega
  refine wpAny_setItem_heap (hsz:=hz) (tupleKind_room_in1 hu) (Mv I.hok eb) dd fun h' dd' hs=>h _ ?_
  obtain ⟨q,es,ep,hq,h2,h3,h4,_,h5⟩:=dd'
  refine Qy I (by rw [e];exact True.intro) hs ⟨q,hq⟩ ⟨hl,hd,_,(rel.put k eb rv).keeps fun c ys ec=>?_,q,es,ep,hq,h2,h3,h4,h5⟩
  rw [Ai (GZ ec e (fun z=>nomatch z))]
  exact ec
end
section
variable {X:Cx}{aA:List (Addr×Obj)}{σ:St}{H:Hp}{s:Shared}{a:Addr}{aG:List (Key×V)}{k:Key}{u:Value}{A:Around}{E:Value→Shared→Prop}
theorem AG2{v:V}{more:List Value}{Q:Value→Shared→Prop}(I:Inv X aA σ H s)(e:H a=some (.dK aG))(ry:Bb (kV k) u)(l:Ck aG k=some v)(hm:more=[]∨∃x,more=[x])
  (h:∀w' s',Inv X aA σ (upd H a (.dK (G5 aG k))) s'→Bb v w'→Q w' s'):wpAny (model X.prog X.w) A (call (.builtin "dict.pop") (.ref a::u::more)) Q E s:=by
 obtain ⟨z,hd,vs,rel,dd⟩:=Z7 I.hok e
 obtain ⟨w',hw,rw'⟩:=Gs.some_of (v:=v) (o:=valueAt vs k) (by rw [←l];exact rel.val k)
 have hp:(keyPart u).isSome=true:=by
  cases k with
  | inl i=>obtain ⟨t,q⟩:=(show ∃t,u=Value.int i t from ry);subst q;rfl
  | inr x=>obtain ⟨t,q⟩:=(show ∃t,u=Value.str x t from ry);subst q;rfl
 have ha:argsOk "dict.pop" ⟨.ref a::u::more,[]⟩:=by
  rcases hm with q | ⟨x,q⟩
  ·subst q;exact PySem.F.args_dict_pop_2 _ _
  ·subst q;exact PySem.F.args_dict_pop_3 _ _ _
 refine call_meetsIn PySem.F.slot_dict_pop dd.typeIs PySem.F.entry_dict_pop ha (meets_dict_pop_there (Bv X.prog X.w) a (Km ry) more hm hp)
  ⟨vs,w',dd,by rw [←rel.length];exact z,hw,fun h' dd' hs=>h w' _ ?_ rw'⟩
 have he:∃q,h'.get? a=some q:=let ⟨q,_,_,hq,_⟩:=dd';⟨q,hq⟩
 exact Qy I (by rw [e];exact True.intro) hs he (YK (Nat.le_trans (MF aG k) z) hd (rel.drop k) dd')
end
def ABa(i:Expr):Prop:=∀ov iv,subscripted i false ov iv=operate [ov,iv] (getItem ov iv)
theorem U4{prog:Program}{w:World}{A:Around}{E:Value→Shared→Prop}{s:Shared}{env:Env}{value slice:Expr}{pos:Pos}{T id:String}{Q:Value→Shared→Prop}
  (hl:typeLookup (.type T) "__getitem__"=pure (some (.builtin id))) (hs:ABa slice)
  (h:wpAny (model prog w) A (eval value env) (fun o s₁=>wpAny (model prog w) A (eval slice env) (fun i s₂=>s₂.TypeIs o T∧wpAny (model prog w) A (getItem o i) Q E s₂) E s₁) E s) :
  wpAny (model prog w) A (eval (.Subscript value slice pos) env) Q E s:=by
 refine Subscript_ (wpAny_mono h (fun o s₁ h₁=>wpAny_mono h₁ (fun i s₂ h₂=>?_) fun _ _ x=>x) fun _ _ x=>x)
 obtain ⟨hT,h₂⟩:=h₂
 unfold subscriptTail
 refine wpAny_bind ?_
 rw [getitemInPython_of_ne hT.not_modules]
 refine wpAny_bind (wpAny_specialOf hT hl ?_)
 have fin:wpAny (model prog w) A (subscripted slice false o i) (fun r s₃=>wpAny (model prog w) A (letTemporaryGo value o r >>= fun _=>pure r) Q E s₃) E s₂:=by
  rw [hs o i]
  exact wpAny_operating (wpAny_mono h₂ (fun r s₃ h₃=>wpAny_bind (wpAny_letTemporaryGo (wpAny_pure h₃))) fun _ _ x=>x)
 first
  | exact wpAny_pure (wpAny_bind fin)
  | exact wpAny_bind (wpAny_pure (wpAny_bind fin))
  | exact wpAny_bind fin
theorem Sh{X:Cx}{aA:List (Addr×Obj)}{σ:St}{H:Hp}{s:Shared}{a:Addr}{y:V}{o:Option V}(I:Inv X aA σ H s)(g:Dk H a y o):s.TypeIs (.ref a) "dict":=by
 rcases g with ⟨aG,k,e,_,_⟩ | ⟨aG,k,b,e,_,_,_⟩
 ·obtain ⟨_,_,vs,_,dd⟩:=O1 I.hok e
  exact dd.typeIs
 ·obtain ⟨_,_,xs,_,dd⟩:=Oe I.hok e
  exact dd.typeIs
def AHF(td ty:TE):TE:=fun σ H Q=>td σ H fun x H1=>ty σ H1 fun y H2=>∃a v,x=.ref a∧Dk H2 a y (some v)∧Q v H2
def AIq(ty td:TE):TE:=fun σ H Q=>ty σ H fun y H1=>td σ H1 fun x H2=>∃a o,x=.ref a∧Dk H2 a y o∧Q (.bl o.isSome) H2
def Zm(ty td:TE):TE:=fun σ H Q=>ty σ H fun y H1=>td σ H1 fun x H2=>∃a o,x=.ref a∧Dk H2 a y o∧Q (.bl (!o.isSome)) H2
def ADY(td ty tv:TE):TS:=fun D σ H=>tv σ H fun v H1=>td σ H1 fun x H2=>ty σ H2 fun y H3=>∃a H4,x=.ref a∧Ut H3 a y v H4∧D.nx σ H4
def AJ0(td ty tv:TE)(rd:V→V→Hp→VK→Prop):TS:=fun D σ H=>td σ H fun x H1=>ty σ H1 fun y H2=>∃a v,x=.ref a∧Dk H2 a y (some v) ∧
 tv σ H2 fun y2 H3=>rd v y2 H3 fun z H4=>∃H5,Ut H4 a y z H5∧D.nx σ H5
def AJu(td ty:TE):TS:=fun D σ H=>td σ H fun x H1=>ty σ H1 fun y H2=>∃a aG k,x=.ref a∧H2 a=some (.dK aG)∧y=kV k∧(Ck aG k).isSome=true∧D.nx σ (upd H2 a (.dK (G5 aG k)))
section
variable {X:Cx}{o i e value:Expr}{pos pos' tpos:Pos}{td ty tv:TE}
theorem Dz(hu:X.A.units+1<cLine)(ho:PE X o td)(hi:PE X i ty)(hs:ABa i):PE X (.Subscript o i pos) (AHF td ty):=by
 intro aA s σ H Q I h
 refine U4 PySem.F.slot_dict_getitem.lookup hs (thn (ho aA s σ H _ I h) fun u s1 ⟨x,H1,I1,rx,q1⟩=>thn (hi aA s1 σ H1 _ I1 q1) fun iv s2 ⟨y,H2,I2,ry,a,v,ex,g,q2⟩=>?_)
 subst ex
 obtain rfl:u=Value.ref a:=rx
 exact ⟨Sh I2 g,Wm hu I2 g ry fun w' s3 I3 rw'=>⟨v,H2,I3,rw',q2⟩⟩
theorem AAm(hu:X.A.units+1<cLine)(hi:PE X i ty)(ho:PE X o td):PC X .In i o (AIq ty td):=by
 intro aA s σ H Q I h
 refine thn (hi aA s σ H _ I h) fun iv s1 ⟨y,H1,I1,ry,q1⟩=>thn (ho aA s1 σ H1 _ I1 q1) fun u s2 ⟨x,H2,I2,rx,a,ov,ex,g,q2⟩=>?_
 subst ex
 obtain rfl:u=Value.ref a:=rx
 exact AJH hu I2 g ry fun s3 I3=>⟨.bl ov.isSome,H2,I3,rfl,q2⟩
theorem FT(hu:X.A.units+1<cLine)(hi:PE X i ty)(ho:PE X o td):PC X .NotIn i o (Zm ty td):=by
 intro aA s σ H Q I h
 refine thn (hi aA s σ H _ I h) fun iv s1 ⟨y,H1,I1,ry,q1⟩=>thn (ho aA s1 σ H1 _ I1 q1) fun u s2 ⟨x,H2,I2,rx,a,ov,ex,g,q2⟩=>?_
 subst ex
 obtain rfl:u=Value.ref a:=rx
 exact ZF hu I2 g ry fun s3 I3=>⟨.bl (!ov.isSome),H2,I3,rfl,q2⟩
theorem U0(hu:X.A.units+1<cLine)(ho:PE X o td)(hi:PE X i ty)(hv:PE X value tv)(hs:swapsWith value (some (.Subscript o i pos')) pos.line X.env=pure false) :
  PS X (.Assign [.Subscript o i pos'] value pos) (ADY td ty tv):=by
 intro aA s σ H D I h
 refine wpAny_Assign_Subscript (thn (hv aA s σ H _ I h) fun r s1 ⟨v,H1,I1,rv,q1⟩=>thn (ho aA s1 σ H1 _ I1 q1) fun u s2 ⟨x,H2,I2,rx,q2⟩=>thn (hi aA s2 σ H2 _ I2 q2) fun iv s3 ⟨y,H3,I3,ry,a,H4,ex,g,q3⟩=>?_) hs
 subst ex
 obtain rfl:u=Value.ref a:=rx
 exact Vu hu I3 g ry rv fun s4 I4=>⟨σ,H4,I4,q3⟩
end
theorem Wv{P:Program}{w:World}{H:Hp}(h:Heap)(hb:sysModules<h.objs.size):Bl P w H (h.push { cls:=.type "dict",data:=.dict #[] }) h.objs.size (.dK []) :=
 ⟨Nat.zero_le _,beq_eq_false_iff_ne.mpr (Ne.symm (Nat.ne_of_lt hb)),[],.nil,Heap.DictOf.new h⟩
def ABW:TE:=fun _ H Q=>∀p,H p=none→Q (.ref p) (upd H p (.dK []))
def AJG:TE:=fun _ H Q=>∀p,H p=none→Q (.ref p) (upd H p (.dT []))
section
variable {X:Cx}{pos:Pos}
theorem Rx:PE X (.Dict [] [] pos) ABW:=fun aA s σ H Q I h =>
 wpAny_Dict_empty ⟨.ref s.heap.objs.size,_,I.laid (a:=s.heap.objs.size) (o:=.dK []) (t':=s.toks) (fun _ _ q=>Heap.get?_push_of_some _ q) (Nat.le_refl _) (Wv s.heap I.big),rfl,h _ (I.hok.fresh (Nat.le_refl _))⟩
end
def Um:List (TE×TE)→St→Hp→(List (V×V)→Hp→Prop)→Prop
 | [],_,H,Q=>Q [] H
 | (tk,tv)::r,σ,H,Q=>tk σ H fun x H1=>tv σ H1 fun y H2=>Um r σ H2 fun ps H3=>Q ((x,y)::ps) H3
abbrev VV:List (V×V)→List (Value×Value)→Prop:=Paired fun p q=>Bb p.1 q.1∧Bb p.2 q.2
def PPs(X:Cx)(pos:Pos)(keys:List (Option Expr))(values:List Expr)(trs:List (TE×TE)):Prop :=
 ∀(aA:List (Addr×Obj)) (s:Shared) (σ:St) (H:Hp) (Q:List (V×V)→Hp→Prop),Inv X aA σ H s→Um trs σ H Q →
  wpAny (model X.prog X.w) X.A (evalPairs (pairTrees keys values X.env pos)) (fun vs s'=>∃ps H',Inv X aA σ H' s'∧VV ps vs∧Q ps H') X.xe s
def AB4(aG more:List (Key×V)):List (Key×V):=more.foldl (fun acc kv=>Gw acc kv.1 kv.2) aG
def AJt(trs:List (TE×TE)):TE:=fun σ H Q=>∀p,H p=none→Um trs σ (upd H p (.dK [])) fun ps H2=>H2 p=some (.dK [])∧∃aG:List (Key×V),ps=aG.map (fun kv=>(kV kv.1,kv.2))∧aG.length≤15∧Q (.ref p) (upd H2 p (.dK (AB4 [] aG)))
structure M1(X:Cx)(o:Expr)(m:Str)(aF:Pos)(e:Expr)(aD:Pos):Prop where
 base:attributeBase o m X.env (eval o X.env)=eval o X.env
 few:((backTo aD (starEach [e] X.env)).all (fun x=>!x.1)&&(backToKw aD (keywordEach [] X.env)).all (fun x=>x.1.isSome)
   &&decide (([e]:List Expr).length+([]:List Keyword).length+(if ([]:List Keyword).isEmpty then 0 else 1)<30))=true
 line:(aF.endLine==aD.line)=true
 trees:backTo aD (starEach [e] X.env)=[(false,eval e X.env)]
structure M2(X:Cx)(o:Expr)(m:Str)(aF:Pos)(e f:Expr)(aD:Pos):Prop where
 base:attributeBase o m X.env (eval o X.env)=eval o X.env
 few:((backTo aD (starEach [e,f] X.env)).all (fun x=>!x.1)&&(backToKw aD (keywordEach [] X.env)).all (fun x=>x.1.isSome)
   &&decide (([e,f]:List Expr).length+([]:List Keyword).length+(if ([]:List Keyword).isEmpty then 0 else 1)<30))=true
 line:(aF.endLine==aD.line)=true
 trees:backTo aD (starEach [e,f] X.env)=[(false,eval e X.env),(false,eval f X.env)]
def IsD(H:Hp)(a:Addr):Prop:=(∃aG,Rd H a (.dK aG))∨∃aG,Rd H a (.dT aG)
theorem ABU{X:Cx}{aA:List (Addr×Obj)}{σ:St}{H:Hp}{s:Shared}{a:Addr}(I:Inv X aA σ H s)(d:IsD H a) :
  s.TypeIs (.ref a) "dict"∧(∀b,Value.ref a=.ref b→∃ob,s.heap.get? b=some ob∧ob.dict=none)∧(a==sysModules)=false:=by
 rcases d with ⟨aG,e⟩ | ⟨aG,e⟩
 ·obtain ⟨_,hd,vs,_,dd⟩:=O1 I.hok e
  refine ⟨dd.typeIs,fun b q=>?_,hd⟩
  cases q
  obtain ⟨ob,_,_,h1,h2,_⟩:=dd
  exact ⟨ob,h1,h2.2.1⟩
 ·obtain ⟨_,hd,xs,_,dd⟩:=Oe I.hok e
  refine ⟨dd.typeIs,fun b q=>?_,hd⟩
  cases q
  obtain ⟨ob,_,_,h1,h2,_⟩:=dd
  exact ⟨ob,h1,h2.2.1⟩
section
variable {X:Cx}{aA:List (Addr×Obj)}{σ:St}{H:Hp}{s:Shared}{a:Addr}{y d:V}{u r:Value}{o:Option V}{A:Around}{E:Value→Shared→Prop}
end
def AJJ(td ty:TE):TE:=fun σ H Q=>td σ H fun x H1=>∃a,x=.ref a∧IsD H1 a∧ty σ H1 fun y H2=>∃o,Dk H2 a y o∧Q (o.getD .non) H2
def AJq(td ty tx:TE):TE:=fun σ H Q=>td σ H fun x H1=>∃a,x=.ref a∧IsD H1 a∧ty σ H1 fun y H2=>tx σ H2 fun z H3=>∃o,Dk H3 a y o∧Q (o.getD z) H3
def ABn(td ty:TE):TE:=fun σ H Q=>td σ H fun x H1=>∃a,x=.ref a∧IsD H1 a∧ty σ H1 fun y H2=>∃aG k v,H2 a=some (.dK aG)∧y=kV k∧Ck aG k=some v∧Q v (upd H2 a (.dK (G5 aG k)))
def AJV(td ty tx:TE):TE:=fun σ H Q=>td σ H fun x H1=>∃a,x=.ref a∧IsD H1 a∧ty σ H1 fun y H2=>tx σ H2 fun z H3=>∃aG k,H3 a=some (.dK aG)∧y=kV k ∧
 (∀v,Ck aG k=some v→Q v (upd H3 a (.dK (G5 aG k))))∧(Ck aG k=none→Q z H3)
section
variable {X:Cx}{o e f:Expr}{aF aD:Pos}{td ty tx:TE}
theorem RQ(ho:PE X o td)(he:PE X e ty)(m:M1 X o "pop" aF e aD):PE X (.Call (.Attribute o "pop" aF) [e] [] aD) (ABn td ty):=by
 intro aA s σ H Q I h
 refine wpAny_Call_method m.base m.few m.line PySem.F.plainAttrs_dict PySem.F.slot_dict_pop PySem.F.type_dict_pop (thn (ho aA s σ H _ I h) fun u s1 ⟨x,H1,I1,rx,a,ex,d,q1⟩=>?_)
 subst ex
 obtain rfl:u=Value.ref a:=rx
 obtain ⟨t1,t2,_⟩:=ABU I1 d
 refine ⟨t1,t2,?_⟩
 rw [m.trees]
 refine Calls.callWith_builtin rfl (Calls.evalArgs_plain (Calls.spliced_cons (thn (he aA s1 σ H1 _ I1 q1) fun iv s2 ⟨y,H2,I2,ry,aG,k,v,ea,ey,l,q2⟩=>Calls.spliced_nil ?_)))
 subst ey
 exact AG2 I2 ea ry l (.inl rfl) fun w' s3 I3 rw'=>⟨v,_,I3,rw',q2⟩
end
section
variable {X:Cx}{aA:List (Addr×Obj)}{σ:St}{H:Hp}{s:Shared}{a:Addr}{aG:List (Key×V)}{A:Around}{E:Value→Shared→Prop}
end
section
variable {X:Cx}{aA:List (Addr×Obj)}{σ:St}{H:Hp}{s:Shared}{a:Addr}{y:V}{u:Value}{A:Around}{E:Value→Shared→Prop}
end
end L2
namespace Ra
def Bt(n:Nat)(x:Int):Prop:=x.natAbs<2^n
theorem Bt.mono{m n:Nat}{x:Int}(h:Bt m x)(l:m≤n):Bt n x:=Nat.lt_of_lt_of_le h (Nat.pow_le_pow_right (by decide) l)
theorem Bt.mul{m n:Nat}{x y:Int}(h:Bt m x)(k:Bt n y):Bt (m+n) (x*y):=by
 unfold Bt at *
 rw [Int.natAbs_mul,Nat.pow_add]
 exact Nat.mul_lt_mul'' h k
theorem Bt.of_le{n:Nat}{x y:Int}(h:Bt n x)(k:y.natAbs≤x.natAbs):Bt n y:=Nat.lt_of_le_of_lt k h
theorem Bt.ediv{n:Nat}{x y:Int}(h:Bt n x):Bt n (x/y):=h.of_le (Int.natAbs_ediv_le_natAbs x y)
theorem Bt.zero{n:Nat}:Bt n 0:=Nat.pow_pos (by decide)
theorem Bt.between{n:Nat}{x:Int}(h:-(2^n:Int)<x)(k:x<(2^n:Int)):Bt n x:=by
 unfold Bt
 have e:((2^n:Nat):Int)=(2:Int)^n:=by push_cast;rfl
 omega
def g(a b:Int):Int:=(Int.gcd a b:Nat)
theorem Jm(a b:Int):0≤g a b:=Int.natCast_nonneg _
theorem M4(a b:Int):g a b ∣ a:=Int.gcd_dvd_left a b
theorem GD(a b:Int):g a b ∣ b:=Int.gcd_dvd_right a b
theorem O8{a b:Int}(h:b≠0):0<g a b:=by
 have h1:0<Int.gcd a b:=Int.gcd_pos_of_ne_zero_right a h
 unfold g
 omega
structure Fq(a b:Int):Prop where
 pos:0<b
 one:Int.gcd a b=1
theorem Qw{a b c:Int}(h:Int.gcd a b=1)(k:Int.gcd a c=1):Int.gcd a (b*c)=1:=by
 show Nat.gcd a.natAbs (b*c).natAbs=1
 rw [Int.natAbs_mul]
 exact Nat.Coprime.mul_right h k
theorem RN{a b c:Int}(h:Int.gcd a c=1)(k:Int.gcd b c=1):Int.gcd (a*b) c=1:=by
 rw [Int.gcd_comm]
 exact Qw (by rw [Int.gcd_comm];exact h) (by rw [Int.gcd_comm];exact k)
theorem Qa{a b c:Int}(h:Int.gcd a b=1)(d:c ∣ a):Int.gcd c b=1:=by
 have hd:c.natAbs ∣ a.natAbs:=Int.natAbs_dvd_natAbs.mpr d
 exact Nat.Coprime.coprime_dvd_left hd h
theorem Ro{a b c:Int}(h:Int.gcd a b=1)(d:c ∣ b):Int.gcd a c=1:=by
 rw [Int.gcd_comm]
 exact Qa (by rw [Int.gcd_comm];exact h) d
theorem Ql{a b:Int}(h:b≠0):Int.gcd (a/g a b) (b/g a b)=1:=by
 have hp:0<Int.gcd a b:=Int.gcd_pos_of_ne_zero_right a h
 exact Int.gcd_ediv_gcd_ediv_gcd hp
theorem Vi{a b k:Int}(h:Int.gcd a b=1):Int.gcd (a+k*b) b=1:=by
 rw [Int.gcd_add_mul_right_left]
 exact h
theorem XH{a b:Int}:g a b*(a/g a b)=a:=Int.mul_ediv_cancel' (M4 a b)
theorem Uc{a b:Int}:g a b*(b/g a b)=b:=Int.mul_ediv_cancel' (GD a b)
theorem ABH{t b:Int}(hb:0<b):Fq (t/g t b) (b/g t b)∧(t/g t b)*b=t*(b/g t b):=by
 have hg:0<g t b:=O8 (by omega)
 refine ⟨⟨?_,Ql (by omega)⟩,?_⟩
 ·exact Int.ediv_pos_of_pos_of_dvd hb (Int.le_of_lt hg) (GD t b)
 ·have e1:=@XH t b
  have e2:=@Uc t b
  generalize t/g t b=x at *
  generalize b/g t b=y at *
  calc x*b=x*(g t b*y):=by rw [e2]
   _=(g t b*x)*y:=by rw [←Int.mul_assoc,Int.mul_comm x]
   _=t*y:=by rw [e1]
def T6(a b c d:Int):Int:=a*(d/g b d)+c*(b/g b d)
def UW(a b c d:Int):Int:=T6 a b c d/g (T6 a b c d) (g b d)
def T9(a b c d:Int):Int:=(b/g b d)*(d/g (T6 a b c d) (g b d))
theorem ABK{a b c d:Int}(h:Fq a b)(k:Fq c d):Fq (UW a b c d) (T9 a b c d)∧UW a b c d*(b*d)=(a*d+c*b)*T9 a b c d:=by
 have hs:0<g b d:=O8 (by have:=k.pos;omega)
 obtain ⟨s,hs'⟩:∃s,s=g b d:=⟨_,rfl⟩
 obtain ⟨x,hx⟩:∃x,x=b/g b d:=⟨_,rfl⟩
 obtain ⟨y,hy⟩:∃y,y=d/g b d:=⟨_,rfl⟩
 obtain ⟨t,ht⟩:∃t,t=a*y+c*x:=⟨_,rfl⟩
 have et:T6 a b c d=t:=by rw [ht,hx,hy];rfl
 have eb:s*x=b:=by rw [hs',hx];exact XH
 have ed:s*y=d:=by rw [hs',hy];exact Uc
 have cxy:Int.gcd x y=1:=by rw [hx,hy];exact Ql (by have:=k.pos;omega)
 have hx0:0<x:=by rw [hx];exact Int.ediv_pos_of_pos_of_dvd h.pos (Jm _ _) (M4 _ _)
 have hy0:0<y:=by rw [hy];exact Int.ediv_pos_of_pos_of_dvd k.pos (Jm _ _) (GD _ _)
 rw [←hs'] at hs
 obtain ⟨l,hl⟩:∃l,l=g t s:=⟨_,rfl⟩
 have hl0:0<l:=by rw [hl];exact O8 (by omega)
 obtain ⟨T,hT⟩:∃T,T=t/g t s:=⟨_,rfl⟩
 obtain ⟨S,hS⟩:∃S,S=s/g t s:=⟨_,rfl⟩
 have eT:l*T=t:=by rw [hl,hT];exact XH
 have eS:l*S=s:=by rw [hl,hS];exact Uc
 have cTS:Int.gcd T S=1:=by rw [hT,hS];exact Ql (by omega)
 have hS0:0<S:=by rw [hS];exact Int.ediv_pos_of_pos_of_dvd hs (Jm _ _) (GD _ _)
 have eN:UW a b c d=T:=by unfold UW;rw [et,←hs',hT]
 have eD:T9 a b c d=x*(S*y):=by
  unfold T9
  have hdl:d/g t s=S*y:=by rw [←hl,←ed,←eS,Int.mul_assoc,Int.mul_ediv_cancel_left _ (by omega)]
  rw [et,←hx,←hs',hdl]
 have cax:Int.gcd a x=1:=Ro h.one ⟨s,by rw [←eb,Int.mul_comm]⟩
 have ccy:Int.gcd c y=1:=Ro k.one ⟨s,by rw [←ed,Int.mul_comm]⟩
 have ctx:Int.gcd t x=1:=by
  rw [ht]
  exact Vi (RN cax (by rw [Int.gcd_comm];exact cxy))
 have cty:Int.gcd t y=1:=by
  rw [ht,Int.add_comm]
  exact Vi (RN ccy cxy)
 have dT:T ∣ t:=⟨l,by rw [←eT,Int.mul_comm]⟩
 rw [eN,eD]
 refine ⟨⟨Int.mul_pos hx0 (Int.mul_pos hS0 hy0),Qw (Qa ctx dT) (Qw cTS (Qa cty dT))⟩,?_⟩
 have e1:a*d+c*b=s*t:=by
  rw [←ed,←eb,ht,Int.mul_add]
  simp [Int.mul_comm,Int.mul_left_comm,Int.mul_assoc]
 rw [e1,←eT,←ed,←eb,←eS]
 simp [Int.mul_comm,Int.mul_left_comm,Int.mul_assoc]
def AHm(a b c d:Int):Int:=(a/g a d)*(c/g c b)
def AGp(a b c d:Int):Int:=(b/g c b)*(d/g a d)
theorem XX{a b:Int}(ha:0≤a)(hb:0<b):g b (a%b)=g a b:=by
 unfold g
 rw [Int.gcd_comm a b]
 exact congrArg _ (by rw [Int.emod_def,Int.sub_eq_add_neg,←Int.mul_neg,Int.gcd_add_mul_left_right])
theorem AAi{a:Int}(ha:0≤a):g a 0=a:=by
 unfold g
 rw [Int.gcd_zero_right]
 omega
theorem AAG(a b:Int):g (if a<0 then -a else a) (if b<0 then -b else b)=g a b:=by
 unfold g
 split <;> split <;> simp
end Ra
namespace Ra
def sh(t b:Int):Int:=if b<0 then -(g t b) else g t b
def frN(t b:Int):Int:=t.fdiv (sh t b)
def frD(t b:Int):Int:=b.fdiv (sh t b)
def sgn(a:Int):Int:=if a > 0 then 1 else if a<0 then -1 else 0
def ab(a:Int):Int:=if a<0 then -a else a
end Ra
namespace Rq
open Ra
theorem den_pos(q:Rat):(0:Int)<(q.den:Int):=by have:=q.den_pos;omega
theorem Qo(q:Rat):((q.den:Int):Rat)≠0:=fun h=>by
 have:=den_pos q
 have h2:(q.den:Int)=0:=Rat.intCast_eq_zero_iff.mp h
 omega
theorem fq(q:Rat):Fq q.num q.den:=⟨den_pos q,q.reduced⟩
theorem Vy(q:Rat):(q.num:Rat)/((q.den:Int):Rat)=q:=by
 rw [←Rat.divInt_eq_div]
 exact Rat.num_divInt_den q
theorem X3{N D T M:Int}(f:Fq N D)(hM:M≠0)(e:N*M=T*D){q:Rat}(hq:q=(T:Rat)/(M:Rat)):q.num=N∧(q.den:Int)=D:=by
 have hD:=f.pos
 have hd:D.toNat≠0:=by omega
 have ed:((D.toNat:Nat):Int)=D:=by omega
 have hr:N.natAbs.Coprime D.toNat:=by
  have h:=f.one
  have e2:D.natAbs=D.toNat:=by omega
  rw [←e2]
  exact h
 have key:q=(⟨N,D.toNat,hd,hr⟩:Rat):=by
  rw [hq,←Rat.divInt_eq_div,Rat.mk_eq_divInt,ed]
  exact (Rat.divInt_eq_divInt_iff hM (by omega)).mpr e.symm
 rw [key]
 exact ⟨rfl,ed⟩
theorem ABM(p q:Rat):(((p.num*q.den+q.num*p.den:Int)):Rat)/((p.den*q.den:Int):Rat)=p+q:=by
 have e1:=Vy p
 have e2:=Vy q
 have n1:=Qo p
 have n2:=Qo q
 simp only [Rat.intCast_add,Rat.intCast_mul]
 generalize (p.num:Rat)=a at *
 generalize ((p.den:Int):Rat)=b at *
 generalize (q.num:Rat)=c at *
 generalize ((q.den:Int):Rat)=d at *
 subst e1 e2
 grind
theorem AAc(p q:Rat):UW p.num p.den q.num q.den=(p+q).num∧T9 p.num p.den q.num q.den=((p+q).den:Int):=by
 obtain ⟨f,e⟩:=ABK (fq p) (fq q)
 have h1:=den_pos p
 have h2:=den_pos q
 obtain ⟨a,b⟩:=X3 (q:=p+q) f (Int.ne_of_gt (Int.mul_pos h1 h2)) e (by
  have e1:=Vy p
  have e2:=Vy q
  have n1:=Qo p
  have n2:=Qo q
  simp only [Rat.intCast_add,Rat.intCast_mul]
  generalize (p.num:Rat)=a at *
  generalize ((p.den:Int):Rat)=b at *
  generalize (q.num:Rat)=c at *
  generalize ((q.den:Int):Rat)=d at *
  subst e1 e2
  grind)
 exact ⟨a.symm,b.symm⟩
theorem AAH{t b:Int}(hb:0<b):t/g t b=((t:Rat)/(b:Rat)).num∧b/g t b=(((t:Rat)/(b:Rat)).den:Int):=by
 obtain ⟨f,e⟩:=ABH (t:=t) hb
 obtain ⟨a,b⟩:=X3 f (by omega) e rfl
 exact ⟨a.symm,b.symm⟩
def Bq(n:Nat)(q:Rat):Prop:=Bt n q.num∧Bt n (q.den:Int)
theorem Bq.mono{m n:Nat}{q:Rat}(h:Bq m q)(l:m≤n):Bq n q:=⟨h.1.mono l,h.2.mono l⟩
theorem AAz{T M:Int}{q:Rat}(hM:M≠0)(hq:q=(T:Rat)/(M:Rat)):q.num ∣ T∧(q.den:Int) ∣ M:=by
 have e:q.num*M=T*q.den:=by
  have e1:(q.num:Rat)/((q.den:Int):Rat)=(T:Rat)/(M:Rat):=(Vy q).trans hq
  rw [←Rat.divInt_eq_div,←Rat.divInt_eq_div] at e1
  exact (Rat.divInt_eq_divInt_iff (by have:=den_pos q;omega) hM).mp e1
 have c:=(fq q).one
 constructor
 ·have d:q.num ∣ T*q.den:=⟨M,e.symm⟩
  have d':=Int.natAbs_dvd_natAbs.mpr d
  rw [Int.natAbs_mul] at d'
  exact Int.natAbs_dvd_natAbs.mp (Nat.Coprime.dvd_of_dvd_mul_right c d')
 ·have d:(q.den:Int) ∣ q.num*M:=⟨T,by rw [e,Int.mul_comm]⟩
  have d':=Int.natAbs_dvd_natAbs.mpr d
  rw [Int.natAbs_mul] at d'
  exact Int.natAbs_dvd_natAbs.mp (Nat.Coprime.dvd_of_dvd_mul_left (Nat.Coprime.symm c) d')
theorem AAd{n:Nat}{T M:Int}{q:Rat}(hM:M≠0)(hq:q=(T:Rat)/(M:Rat))(bT:Bt n T)(bM:Bt n M):Bq n q:=by
 obtain ⟨d1,d2⟩:=AAz hM hq
 refine ⟨?_,bM.of_le (Nat.le_of_dvd (by omega) (Int.natAbs_dvd_natAbs.mpr d2))⟩
 by_cases h:T=0
 ·subst h
  have:q=0:=by rw [hq];simp [Rat.div_def]
  rw [this]
  exact Bt.zero
 ·exact bT.of_le (Nat.le_of_dvd (by omega) (Int.natAbs_dvd_natAbs.mpr d1))
end Rq
namespace Po
open Ra Rq
def strip:List Rat→List Rat
 | []=>[]
 | q::qs=>match strip qs with
  | []=>if q=0 then [] else [q]
  | r::rs=>q::r::rs
def ev:List Rat→Rat→Rat
 | [],_=>0
 | q::qs,x=>q+x*ev qs x
def AIE(ps qs:List Rat):List Rat:=strip ((List.range (max ps.length qs.length)).map fun k=>ps.getD k 0+qs.getD k 0)
def AJY(ps qs:List Rat):List Rat:=strip ((List.range (max ps.length qs.length)).map fun k=>ps.getD k 0-qs.getD k 0)
def TF(qs:List Rat)(x:Rat):List Rat:=strip (qs.map (·*x))
def AJQ(qs:List Rat):List Rat:=(List.range (qs.length-1)).map fun k=>qs.getD (k+1) 0*(((1:Int)+(k:Int):Int):Rat)
def sm(f:Nat→Rat)(n:Nat):Rat:=(List.range n).foldl (fun acc i=>acc+f i) 0
def conv(ps qs:List Rat)(k:Nat):Rat:=sm (fun i=>ps.getD i 0*qs.getD (k-i) 0) (k+1)
def AKS(ps qs:List Rat):List Rat:=strip ((List.range (ps.length+qs.length)).map (conv ps qs))
def Rep(n:Nat)(v:Rat)(T M:Int):Prop:=M≠0∧v=(T:Rat)/(M:Rat)∧Bt n T∧Bt n M
def lsum(qs:List Rat):Rat:=qs.foldl (·+·) 0
end Po
namespace Po
open Ra Rq
def stp(gs ws:List Rat)(t h0 l0:Rat):Nat→Rat×Rat
 | 0=>(h0+gs.getD 0 0*l0,l0)
 | k+1=>((stp gs ws t h0 l0 k).1+gs.getD (k+1) 0*((stp gs ws t h0 l0 k).2-t*ws.getD k 0*(stp gs ws t h0 l0 k).1),(stp gs ws t h0 l0 k).2-t*ws.getD k 0*(stp gs ws t h0 l0 k).1)
def AJ1(gs ws:List Rat)(t h0 l0:Rat):List (Rat×Rat):=(List.range gs.length).map (stp gs ws t h0 l0)
structure R3(n:Nat)(h l:Rat)(th tl m:Int):Prop where
 pos:0<m
 eh:h=(th:Rat)/(m:Rat)
 el:l=(tl:Rat)/(m:Rat)
 bh:Bt n th
 bl:Bt n tl
 bm:Bt n m
end Po
namespace Po
open Ra Rq
def lst(xs:List Rat):Rat:=xs.getD (xs.length-1) 0
def AAL(rs qs:List Rat)(f:Rat):List Rat:=rs.take (rs.length-qs.length)++(List.range (qs.length-1)).map fun k=>rs.getD (rs.length-qs.length+k) 0-f*qs.getD k 0
def dv(qs:List Rat):Nat→List Rat→List Rat×List Rat
 | 0,rs=>([],rs)
 | s+1,rs=>if rs.length<qs.length then ([],rs) else ((dv qs s (AAL rs qs (lst rs/lst qs))).1++[lst rs/lst qs],(dv qs s (AAL rs qs (lst rs/lst qs))).2)
def Ov(n:Nat)(M:Int)(q:Rat):Prop:=∃T:Int,Bt n T∧q*(M:Rat)=(T:Rat)
end Po
namespace Po
open Ra Rq
def dif(c:Rat):List Rat→List Rat
 | []=>[]
 | q::qs=>c*q::dif (2*c+1) qs
def AAQ(l h:List Rat)(w:Rat):List Rat:=AJY l (strip (0::TF h w))
def pst(gs ws:List Rat)(h0 l0:List Rat):Nat→List Rat×List Rat
 | 0=>(AIE h0 (TF l0 (gs.getD 0 0)),l0)
 | k+1=>(AIE (pst gs ws h0 l0 k).1 (TF (AAQ (pst gs ws h0 l0 k).2 (pst gs ws h0 l0 k).1 (ws.getD k 0)) (gs.getD (k+1) 0)),AAQ (pst gs ws h0 l0 k).2 (pst gs ws h0 l0 k).1 (ws.getD k 0))
structure O2(n:Nat)(h l:List Rat)(M:Int):Prop where
 ne:M≠0
 bm:Bt n M
 oh:∀q∈h,Ov n M q
 ol:∀q∈l,Ov n M q
end Po
namespace Po
open Ra Rq
end Po
namespace Po
open Ra Rq
end Po
namespace Po
open Ra Rq
end Po
namespace Po
open Ra Rq
def AJy(qs:List Rat):Rat:=qs.foldl (·*·) 1
def AKD(gs:List Rat)(k:Nat):Rat:=sm (fun i=>gs.getD i 0) (k+1)
theorem getD_in{qs:List Rat}{k:Nat}(h:k<qs.length):qs.getD k 0=qs[k]:=by rw [List.getD_eq_getElem?_getD,List.getElem?_eq_getElem h];rfl
def sg(n:Nat):Rat:=((1-2*((n:Int)%2):Int):Rat)
end Po
namespace PySem
open PyProof.Rows
theorem AEi:typeLookup (.type "str") "__int__"=pure none:=by rw [typeLookup_type,builtinLookup_eq_fast];kernel_rfl
theorem ZC:typeLookup (.type "str") "__index__"=pure none:=by rw [typeLookup_type,builtinLookup_eq_fast];kernel_rfl
theorem Y4:typeLookup (.type "str") "__trunc__"=pure none:=by rw [typeLookup_type,builtinLookup_eq_fast];kernel_rfl
def IK(c:Nat):Prop:=48≤c∧c≤57
theorem Hd{F:Array Nat×Bool→Nat→Option (Array Nat×Bool)}(hF:∀acc b c,IK c→F (acc,b) c=some (acc.push (c-48),true)):∀(t:List Nat) (acc:Array Nat) (b:Bool),(∀c∈t,IK c)→t.foldlM F (acc,b)=some (t.foldl (fun a c=>a.push (c-48)) acc,b || !t.isEmpty)
 | [],acc,b,_=>by simp
 | c::t,acc,b,h=>by
  rw [List.foldlM_cons,hF acc b c (h c (by simp))]
  show t.foldlM F (acc.push (c-48),true)=_
  rw [Hd hF t _ _ fun d hd=>h d (by simp [hd])]
  simp
theorem Js(p:Nat→Bool)(t:List Nat)(h:∀c∈t,p c=false):List.dropWhile p t.reverse=t.reverse:=by
 cases e:t.reverse with
 | nil=>rfl
 | cons c r =>
  have:c∈t:=by rw [←List.mem_reverse,e];simp
  rw [List.dropWhile_cons,h c this]
  rfl
theorem S6(p:Nat→Bool)(c:Nat)(r:List Nat)(h:p c=false):List.dropWhile p (c::r)=c::r:=by
 rw [List.dropWhile_cons,h]
 rfl
theorem IK.cases{c:Nat}{P:Nat→Prop}(h:IK c)(h0:P 48)(h1:P 49)(h2:P 50)(h3:P 51)(h4:P 52)(h5:P 53)(h6:P 54)(h7:P 55)(h8:P 56)(h9:P 57):P c:=by
 obtain ⟨a,b⟩:=h
 have:c=48∨c=49∨c=50∨c=51∨c=52∨c=53∨c=54∨c=55∨c=56∨c=57:=by omega
 rcases this with rfl | rfl | rfl | rfl | rfl | rfl | rfl | rfl | rfl | rfl <;> assumption
def dgv(t:List Nat):Nat:=t.foldl (fun n c=>n*10+(c-48)) 0
def dga(t:List Nat):Array Nat:=t.foldl (fun a c=>a.push (c-48)) #[]
theorem Ni:∀(t:List Nat) (a:Array Nat),(t.foldl (fun a c=>a.push (c-48)) a).toList=a.toList++t.map (·-48)
 | [],a=>by simp
 | c::t,a=>by rw [List.foldl_cons,Ni t];simp
theorem Xr(t:List Nat):(dga t).size=t.length:=by
 have:=congrArg List.length (Ni t #[])
 simpa [dga] using this
theorem Zd(t:List Nat):Array.foldl (fun acc d=>acc*10+d) 0 (dga t)=dgv t:=by
 rw [←Array.foldl_toList]
 have:=Ni t #[]
 unfold dga dgv
 rw [this]
 simp [List.foldl_map]
theorem XM(p:Nat→Bool):∀t:List Nat,(∀c∈t,p c=true)→t.takeWhile p=t
 | [],_=>rfl
 | c::t,h=>by rw [List.takeWhile_cons,if_pos (h c (by simp)),XM p t fun d hd=>h d (by simp [hd])]
theorem Hb{p:Nat→Bool}(h:p 48=false∧p 49=false∧p 50=false∧p 51=false∧p 52=false∧p 53=false∧p 54=false∧p 55=false∧p 56=false∧p 57=false){c:Nat}(hc:IK c):p c=false:=by
 obtain ⟨h0,h1,h2,h3,h4,h5,h6,h7,h8,h9⟩:=h
 exact hc.cases (P:=fun c=>p c=false) h0 h1 h2 h3 h4 h5 h6 h7 h8 h9
theorem W6{t:List Nat}(ht:t≠[])(hd:∀c∈t,IK c):t=[48]∨(∃c r,(c=48∨c=49∨c=50∨c=51∨c=52∨c=53∨c=54∨c=55∨c=56∨c=57)∧t=48::c::r)∨∃c r,(c=49∨c=50∨c=51∨c=52∨c=53∨c=54∨c=55∨c=56∨c=57)∧t=c::r:=by
 match t,ht,hd with
 | [c],_,hd =>
  have h:=hd c (by simp)
  unfold IK at h
  by_cases e:c=48
  ·subst e;exact .inl rfl
  ·exact .inr (.inr ⟨c,[],by omega,rfl⟩)
 | c::d::r,_,hd =>
  have h:=hd c (by simp)
  have h':=hd d (by simp)
  unfold IK at h h'
  by_cases e:c=48
  ·subst e;exact .inr (.inl ⟨d,r,by omega,rfl⟩)
  ·exact .inr (.inr ⟨c,d::r,by omega,rfl⟩)
set_option maxHeartbeats 20000000 in
theorem MT(x:Str)(u:Tok)(neg:Bool)(t:List Nat)(ht:t≠[])(hd:∀c∈t,IK c)(hl:t.length≤600)(hx:x.cps.toList=if neg then 45::t else t):Gives (Builtin.«int.__new__» ⟨[.type "int",.str x u],[]⟩) (.int (if neg then -(dgv t:Int) else dgv t)) :=
 .of_wp fun M A E s Q h=>by
  have hs:x.cps.all (·<128)=true:=by
   rw [←Array.all_toList,hx,List.all_eq_true]
   intro c hc
   have:c=45∨c∈t:=by cases neg <;> simp_all
   rcases this with z | z
   ·rw [z];rfl
   ·have:=(hd c z).2
    exact decide_eq_true (by omega)
  have hz:x.cps.toList.takeWhile (· != 0)=x.cps.toList:=XM _ _ fun c hc=>by
   rw [hx] at hc
   have:c=45∨c∈t:=by cases neg <;> simp_all
   rcases this with z | z
   ·rw [z];rfl
   ·have:=(hd c z).1
    simp
    omega
  have hl':x.cps.toList.length≤640:=by
   rw [hx]
   cases neg <;> simp <;> omega
  obtain ⟨hp,g,d,tk,os⟩:=s
  have f1:=F.conv_sub_int
  have f2:=F.madeHere_int
  have f3:=AEi
  iterate 31 (first | assumption | wp_step)
  refine wpAny_specialOf_val (T:="str") rfl ZC ?_
  dsimp only [Option.isSome]
  rw [if_neg (by decide)]
  refine wpAny_bind (wpAny_specialOf_val (T:="str") rfl Y4 ?_)
  dsimp only
  refine wpAny_bind (wpAny_of_eq (?e:_=pure (some x.cps.toList)) ?_)
  case e =>
   show (pure (some (ite _ _ _)):Sem _)=_
   rw [if_pos hs]
  dsimp only
  wp_step
  rw [hz,if_pos hl',hx]
  refine wpAny_bind (wpAny_pure ?_)
  dsimp only
  clear hs hz hl' hx f1 f2 f3
  have fin:∀(ds:Array Nat),ds=dga t→ds.size≤6000∧Array.foldl (fun acc d=>acc*10+d) 0 ds=dgv t:=fun ds e=>by
   rw [e]
   exact ⟨by rw [Xr];omega,Zd t⟩
  have sh:=W6 ht hd
  cases neg
  ·rw [if_neg (show ¬(false=true) by decide)] at h ⊢
   rcases sh with rfl | ⟨c,r,rfl | rfl | rfl | rfl | rfl | rfl | rfl | rfl | rfl | rfl,rfl⟩ | ⟨c,r,rfl | rfl | rfl | rfl | rfl | rfl | rfl | rfl | rfl,rfl⟩
   ·split
    case h_1 n heq =>
     conv at heq=>lhs;whnf
     cases heq
    case h_2 heq =>
     conv at heq=>lhs;whnf
     cases heq
    case h_3 i heq =>
     conv at heq=>lhs;whnf
     cases heq
     rw [if_pos (by simp)]
     exact wpAny_mkInt' (wpAny_ite_true rfl (wpAny_pure ⟨_,rfl,h⟩))
    case h_4 heq =>
     conv at heq=>lhs;whnf
     cases heq
   all_goals
    split
    case h_1 n heq =>
     conv at heq=>lhs;whnf
     split at heq
     next hn=>cases heq
     next ds hn =>
      rw [if_neg (by simp)] at heq
      split at heq
      next=>cases heq
      next=>cases heq
    case h_2 heq =>
     conv at heq=>lhs;whnf
     split at heq
     next hn=>cases heq
     next ds hn =>
      conv at hn=>lhs;whnf
      rw [S6 _ _ _ (Hb ⟨rfl,rfl,rfl,rfl,rfl,rfl,rfl,rfl,rfl,rfl⟩ (hd _ (by simp))),Js _ _ (fun c hc=>Hb ⟨rfl,rfl,rfl,rfl,rfl,rfl,rfl,rfl,rfl,rfl⟩ (hd c hc)),List.reverse_reverse,Hd (fun acc b c hc=>hc.cases (P:=fun c=>_=some (acc.push (c-48),true)) rfl rfl rfl rfl rfl rfl rfl rfl rfl rfl) _ _ _ hd] at hn
      have hn':=(fin ds (Option.some.inj hn).symm).1
      rw [if_neg (by simp),if_neg (by simp;omega)] at heq
      cases heq
    case h_3 i heq =>
     conv at heq=>lhs;whnf
     split at heq
     next hn=>cases heq
     next ds hn =>
      conv at hn=>lhs;whnf
      rw [S6 _ _ _ (Hb ⟨rfl,rfl,rfl,rfl,rfl,rfl,rfl,rfl,rfl,rfl⟩ (hd _ (by simp))),Js _ _ (fun c hc=>Hb ⟨rfl,rfl,rfl,rfl,rfl,rfl,rfl,rfl,rfl,rfl⟩ (hd c hc)),List.reverse_reverse,Hd (fun acc b c hc=>hc.cases (P:=fun c=>_=some (acc.push (c-48),true)) rfl rfl rfl rfl rfl rfl rfl rfl rfl rfl) _ _ _ hd] at hn
      obtain ⟨hn',hv⟩:=fin ds (Option.some.inj hn).symm
      rw [if_neg (by simp),if_neg (by simp;omega)] at heq
      dsimp only at heq
      rw [hv] at heq
      rw [if_pos (by simp)]
      cases heq
      exact wpAny_mkInt' (wpAny_ite_true rfl (wpAny_pure ⟨_,rfl,h⟩))
    case h_4 heq =>
     conv at heq=>lhs;whnf
     split at heq
     next hn =>
      conv at hn=>lhs;whnf
      rw [S6 _ _ _ (Hb ⟨rfl,rfl,rfl,rfl,rfl,rfl,rfl,rfl,rfl,rfl⟩ (hd _ (by simp))),Js _ _ (fun c hc=>Hb ⟨rfl,rfl,rfl,rfl,rfl,rfl,rfl,rfl,rfl,rfl⟩ (hd c hc)),List.reverse_reverse,Hd (fun acc b c hc=>hc.cases (P:=fun c=>_=some (acc.push (c-48),true)) rfl rfl rfl rfl rfl rfl rfl rfl rfl rfl) _ _ _ hd] at hn
      cases hn
     next ds hn =>
      rw [if_neg (by simp)] at heq
      split at heq
      next=>cases heq
      next=>cases heq
  ·rw [if_pos rfl] at h ⊢
   rcases sh with rfl | ⟨c,r,rfl | rfl | rfl | rfl | rfl | rfl | rfl | rfl | rfl | rfl,rfl⟩ | ⟨c,r,rfl | rfl | rfl | rfl | rfl | rfl | rfl | rfl | rfl,rfl⟩
   ·split
    case h_1 n heq =>
     conv at heq=>lhs;whnf
     cases heq
    case h_2 heq =>
     conv at heq=>lhs;whnf
     cases heq
    case h_3 i heq =>
     conv at heq=>lhs;whnf
     cases heq
     rw [if_pos (by simp)]
     exact wpAny_mkInt' (wpAny_ite_true rfl (wpAny_pure ⟨_,rfl,h⟩))
    case h_4 heq =>
     conv at heq=>lhs;whnf
     cases heq
   all_goals
    split
    case h_1 n heq =>
     conv at heq=>lhs;whnf
     split at heq
     next hn=>cases heq
     next ds hn =>
      rw [if_neg (by simp)] at heq
      split at heq
      next=>cases heq
      next=>cases heq
    case h_2 heq =>
     conv at heq=>lhs;whnf
     split at heq
     next hn=>cases heq
     next ds hn =>
      conv at hn=>lhs;whnf
      rw [Js _ _ (fun c hc=>Hb ⟨rfl,rfl,rfl,rfl,rfl,rfl,rfl,rfl,rfl,rfl⟩ (hd c hc)),List.reverse_reverse,Hd (fun acc b c hc=>hc.cases (P:=fun c=>_=some (acc.push (c-48),true)) rfl rfl rfl rfl rfl rfl rfl rfl rfl rfl) _ _ _ hd] at hn
      have hn':=(fin ds (Option.some.inj hn).symm).1
      rw [if_neg (by simp),if_neg (by simp;omega)] at heq
      cases heq
    case h_3 i heq =>
     conv at heq=>lhs;whnf
     split at heq
     next hn=>cases heq
     next ds hn =>
      conv at hn=>lhs;whnf
      rw [Js _ _ (fun c hc=>Hb ⟨rfl,rfl,rfl,rfl,rfl,rfl,rfl,rfl,rfl,rfl⟩ (hd c hc)),List.reverse_reverse,Hd (fun acc b c hc=>hc.cases (P:=fun c=>_=some (acc.push (c-48),true)) rfl rfl rfl rfl rfl rfl rfl rfl rfl rfl) _ _ _ hd] at hn
      obtain ⟨hn',hv⟩:=fin ds (Option.some.inj hn).symm
      rw [if_neg (by simp),if_neg (by simp;omega)] at heq
      dsimp only at heq
      rw [hv] at heq
      rw [if_pos (by simp)]
      cases heq
      exact wpAny_mkInt' (wpAny_ite_true rfl (wpAny_pure ⟨_,rfl,h⟩))
    case h_4 heq =>
     conv at heq=>lhs;whnf
     split at heq
     next hn =>
      conv at hn=>lhs;whnf
      rw [Js _ _ (fun c hc=>Hb ⟨rfl,rfl,rfl,rfl,rfl,rfl,rfl,rfl,rfl,rfl⟩ (hd c hc)),List.reverse_reverse,Hd (fun acc b c hc=>hc.cases (P:=fun c=>_=some (acc.push (c-48),true)) rfl rfl rfl rfl rfl rfl rfl rfl rfl rfl) _ _ _ hd] at hn
      cases hn
     next ds hn =>
      rw [if_neg (by simp)] at heq
      split at heq
      next=>cases heq
      next=>cases heq
end PySem
namespace L3
open PySem PySem.Spec PyProof.Rows L2 Ra
theorem Zu{j:Int}(h:Bt 9000 j):j.natAbs.log2<9000:=by
 by_cases h0:j.natAbs=0
 ·rw [h0];decide
 ·exact (Nat.log2_lt h0).mpr h
theorem Hf{i j:Int}{m n:Nat}(h:Bt m i)(k:Bt n j)(l:m+n≤134217728):IntMulOk i j :=
 PySem.IntMulOk.of_le (PySem.intBits_le_iff.mpr h) (PySem.intBits_le_iff.mpr k) l
section
variable {X:Cx}{a b c:Expr}{ta tb tc:TE}{pos:Pos}
theorem DK:OpR X (binaryOp .FloorDiv) (rI (fun _ j=>0<j∧Bt 9000 j) fun i j=>.int (i/j)):=opI fun i j _ _ _ _ _ hc q=>by
 have h1:(0:Int)<j:=hc.1
 exact floordiv_int (by omega) (by rw [Int.fdiv_eq_ediv_of_nonneg i (by omega)];exact q) (.inl (PyProof.noPylong_of_log2 (Zu hc.2)))
theorem Ea:OpR X (binaryOp .Mult) (rI IntMulOk fun i j=>.int (i*j)):=opI fun _ _ _ _ _ _ _ hc q=>mul_int q hc
theorem G4:Gz X (.builtin "isinstance") (fun xs H Q=>∃x T t b,xs=[x,.ty T]∧Gx X.K H x t∧PySem.W.kitOne X.K t (.type T)=some b∧Q (.bl b) H):=by
 intro aA s σ H xs us Q I r h
 obtain ⟨x,T,t,b,rfl,ty,e,q⟩:=h
 obtain ⟨u,w',rfl,rx,rt⟩:=Xc r
 cases rt
 exact Wk I rx ty e fun tk=>⟨.bl b,H,I.tok _,rfl,q⟩
end
section
variable {X:Cx}{K:PySem.W.Frag}
end
theorem G6{c A B:Prop}[Decidable c](h:c)(k:A):if decide c=true then A else B:=by
 rw [decide_eq_true h]
 exact FN k
theorem Du{c A B:Prop}[Decidable c](h:¬c)(k:B):if decide c=true then A else B:=by
 rw [decide_eq_false h]
 exact DY k
theorem Vf{c A B:Prop}[Decidable c](hc:¬c)(h:A):if (!decide c)=true then A else B:=by
 rw [decide_eq_false hc]
 exact FN h
theorem AF6{b:Bool}{A B:Prop}(h:b=true)(k:B):if (!b)=true then A else B:=by
 rw [h]
 exact DY k
structure Cal(P:Program)(w:World)(K:PySem.W.Frag)(mg:Str→Option Value)(base:Heap)(x:Str)(k:Nat)(ps:List Str)(sp:Sp):Prop where
 ex:∃f fd,BZ P w K mg base CX0 k f fd ps sp∧En K fd ps []∧PySem.W.keepIn K (.ref f)=true∧mg x=some (.ref f)
theorem Cal.imp{P:Program}{w:World}{K:PySem.W.Frag}{mg:Str→Option Value}{base:Heap}{x:Str}{k:Nat}{ps:List Str}{sp sp':Sp}(C:Cal P w K mg base x k ps sp)(h:∀{vs:List V} {H:Hp} {Q:VK} {E:XK},sp' vs H Q E→sp vs H Q E):Cal P w K mg base x k ps sp':=by
 obtain ⟨f,fd,F,b,kp,m⟩:=C.ex
 exact ⟨f,fd,F.imp fun _ _ _ _ z=>h z,b,kp,m⟩
theorem BR{X:Cx}{x:Str}{k j:Nat}{ps:List Str}{sp:Sp}{e:Expr}{es:List Expr}{t:TA}{p pos:Pos}(C:Cal X.prog X.w X.K X.mg X.base x k ps sp)(hr:Df j X.A)(ha:PA X (e::es) t)(hkj:k≤j:=by decide)(hg:Gl X x:=by rfl)
  (hdb:(x==("__debug__":Str))=false:=by decide) (he:starEach (e::es) X.env=(false,eval e X.env)::starEach es X.env:=by rfl) (hpl:(backTo pos (starEach es X.env)).any (·.1)=false:=by rfl) :
  PE X (.Call (.Name x p) (e::es) [] pos) (VM sp [] E0 t):=by
 obtain ⟨f,fd,F,b,kp,m⟩:=C.ex
 exact U6 F (hr.mono hkj) hg m kp b .nil Xa ha hdb he hpl
theorem Ag{H:Hp}{p:Addr}(h:H p=none)(o:HO):Aj H (upd H p o):=fun b u q=>by rw [Ai (Av q h)];exact q
def Pr(H:Hp)(p:Addr)(x y:Int):Prop:=H p=some (.tup [.int x,.int y])
theorem Pr.sq{K:PySem.W.Frag}{H:Hp}{p:Addr}{x y:Int}(h:Pr H p x y):SqT K H p [.int x,.int y]:=SqT.of h
theorem Pr.new{H:Hp}{p:Addr}{x y:Int}:Pr (upd H p (.tup [.int x,.int y])) p x y:=Ad
def AGc(ns:List Int)(k:Nat):Int:=ns.getD k (2*(k:Int)+1)
def ADj(c k:Int):Int:=if c%2=0∧10^18<c then c/2 else ((c/2)%10^60+k*k)*6364136223846793013+(k+1)*1442695040888963407
def ABA(n:Int):Int:=if n%2=0 then n/2 else -1-n/2
end L3
namespace L3
open PySem PySem.Spec PyProof.Rows L2 Ra
section
variable {X:Cx}
theorem Jb:Gz X (.type "int") (fun xs H Q=>∃(x:Str) (neg:Bool) (t:List Nat),xs=[.str x]∧t≠[]∧(∀c∈t,IK c)∧t.length≤600∧x.cps.toList=(if neg then 45::t else t)∧Q (.int (if neg then -(dgv t:Int) else dgv t)) H):=by
 intro aA s σ H xs us Q I r h
 obtain ⟨x,neg,t,rfl,h1,h2,h3,h4,q⟩:=h
 obtain ⟨u,rfl,rx⟩:=Ga r
 obtain ⟨tk,rfl⟩:=rx
 exact call_int_1 (MT x tk neg t h1 h2 h3 h4).meets ⟨rfl,.int _,H,I.tok _,⟨_,rfl⟩,q⟩
theorem Oj:MtR X "str.startswith" (fun x xs H Q=>∃a b,x=.str a∧xs=[.str b]∧Q (.bl (Txt.startswith a b)) H):=by
 intro aA s σ H x xs v us Q I rx rs h
 obtain ⟨a,b,rfl,rfl,q⟩:=h
 obtain ⟨t,rfl⟩:=rx
 obtain ⟨u,rfl,ru⟩:=Ga rs
 obtain ⟨t',rfl⟩:=ru
 exact SC.startswith ⟨.bl _,H,I,rfl,q⟩
theorem ZW:MtR X "str.endswith" (fun x xs H Q=>∃a b,x=.str a∧xs=[.str b]∧Q (.bl (Txt.endswith a b)) H):=by
 intro aA s σ H x xs v us Q I rx rs h
 obtain ⟨a,b,rfl,rfl,q⟩:=h
 obtain ⟨t,rfl⟩:=rx
 obtain ⟨u,rfl,ru⟩:=Ga rs
 obtain ⟨t',rfl⟩:=ru
 exact SC.endswith ⟨.bl _,H,I,rfl,q⟩
theorem O9:∀{ts:List Str} {its:List Value},BW (ts.map V.str) its→∃l,its=strValues l∧l.map (·.1)=ts
 | [],_,.nil=>⟨[],rfl,rfl⟩
 | x::ts,_,.cons h r=>by
  obtain ⟨t,rfl⟩:=h
  obtain ⟨l,rfl,e⟩:=O9 r
  exact ⟨(x,t)::l,rfl,by rw [List.map_cons,e]⟩
theorem Lb:MtR X "str.join" (fun x xs H Q=>∃a p ts,x=.str a∧xs=[.ref p]∧SqL X.K H p (ts.map V.str)∧JoinOk a ts=true∧Q (.str (Txt.join a ts)) H):=by
 intro aA s σ H x xs v us Q I rx rs h
 obtain ⟨a,p,ts,rfl,rfl,hq,ok,q⟩:=h
 obtain ⟨t,rfl⟩:=rx
 obtain ⟨u,rfl,ru⟩:=Ga rs
 cases ru
 obtain ⟨its,r',pl,hz⟩:=I.list hq
 obtain ⟨l,rfl,e⟩:=O9 r'
 exact SC.join pl.isList e ok fun t' k=>⟨.str _,H,I.tok _,⟨_,rfl⟩,q⟩
def Eb(x y:Str):List Str:=match Builtin.Str.occurrences x y 0 x.length 1 with
 | i::_=>[Builtin.Str.strSub x 0 i,y,Builtin.Str.strSub x (i+y.length) x.length]
 | []=>[x,Str.empty,Str.empty]
theorem U3:MtR X "str.partition" (fun x xs H Q=>∃a b,x=.str a∧xs=[.str b]∧b.length≠0∧a.length≤sizeLine∧∀p,H p=none→Q (.ref p) (upd H p (.tup ((Eb a b).map V.str)))):=by
 intro aA s σ H x xs v us Q I rx rs h
 obtain ⟨a,b,rfl,rfl,hb,ha,q⟩:=h
 obtain ⟨t,rfl⟩:=rx
 obtain ⟨u,rfl,ru⟩:=Ga rs
 obtain ⟨t',rfl⟩:=ru
 refine call_meets F.slot_str_partition (typeIs_str _ _ _) F.entry_str_partition (F.args_str_partition_2 _ _) (meets_str_partition a b t t' (by simpa using hb) ha) ?_
 have q':=q s.heap.objs.size (I.hok.fresh (Nat.le_refl _))
 unfold Eb at q'
 cases ho:Builtin.Str.occurrences a b 0 a.length 1 with
 | nil =>
  rw [ho] at q'
  refine ⟨.ref s.heap.objs.size,_,I.laid (t':=s.toks+1) (o:=.tup [.str a,.str Str.empty,.str Str.empty]) (fun b ob q=>Heap.get?_push_of_some _ q) (Nat.le_refl _) ?_,rfl,q'⟩
  exact ⟨by show 3≤sizeLine;decide,_,.cons ⟨_,rfl⟩ (.cons ⟨_,rfl⟩ (.cons ⟨_,rfl⟩ .nil)),⟨_,Heap.get?_push_size _ rfl,rfl,_,rfl⟩⟩
 | cons i r =>
  rw [ho] at q'
  refine ⟨.ref s.heap.objs.size,_,I.laid (t':=s.toks+1+1) (o:=.tup [.str (Builtin.Str.strSub a 0 i),.str b,.str (Builtin.Str.strSub a (i+b.length) a.length)]) (fun b ob q=>Heap.get?_push_of_some _ q) (Nat.le_refl _) ?_,rfl,q'⟩
  exact ⟨by show 3≤sizeLine;decide,_,.cons ⟨_,rfl⟩ (.cons ⟨_,rfl⟩ (.cons ⟨_,rfl⟩ .nil)),⟨_,Heap.get?_push_size _ rfl,rfl,_,rfl⟩⟩
theorem Jv:∀(k:Nat) (ts:List Str),BW (ts.map V.str) (strsFrom k ts)
 | _,[]=>.nil
 | k,x::ts=>.cons ⟨k,rfl⟩ (Jv (k+1) ts)
theorem Xe:MtR X "str.split" (fun x xs H Q=>∃a b,x=.str a∧xs=[.str b]∧b.length≠0∧a.length≤sizeLine∧(Txt.split a b).length≤sizeLine∧∀p,H p=none→Q (.ref p) (upd H p (.lst ((Txt.split a b).map V.str)))):=by
 intro aA s σ H x xs v us Q I rx rs h
 obtain ⟨a,b,rfl,rfl,hb,ha,hn,q⟩:=h
 obtain ⟨t,rfl⟩:=rx
 obtain ⟨u,rfl,ru⟩:=Ga rs
 obtain ⟨t',rfl⟩:=ru
 have hb':(b.length==0)=false:=by simpa using hb
 have q':=q s.heap.objs.size (I.hok.fresh (Nat.le_refl _))
 have fin:∀(k:Nat) (ts:List Str) (its:List Value),Txt.split a b=ts→BW (ts.map V.str) its→EP X aA σ Q (.ref s.heap.objs.size) { s with toks:=k,heap:=s.heap.push { cls:=.type "list",data:=.seq its.toArray } }:=fun k ts its e r=>by
  rw [e] at q' hn
  refine ⟨.ref s.heap.objs.size,_,I.laid (t':=k) (o:=.lst (ts.map V.str)) (fun b ob q=>Heap.get?_push_of_some _ q) (Nat.le_refl _) ?_,rfl,q'⟩
  exact ⟨by rw [List.length_map];exact hn,its,_,r,Heap.get?_push_size _ rfl⟩
 cases h1:(decide (a.length<b.length) || decide (Builtin.Str.strKind a<Builtin.Str.strKind b)) with
 | true =>
  have e:Txt.split a b=[a]:=by unfold Txt.split;rw [if_pos h1]
  exact call_meets F.slot_str_split (typeIs_str _ _ _) F.entry_str_split (F.args_str_split_2 _ _) (meets_str_split_cannot_occur a b t t' h1) (fin s.toks [a] [.str a t] e (.cons ⟨_,rfl⟩ .nil))
 | false =>
  cases hf:(Builtin.Str.occurrences a b 0 a.length (a.length+1)).isEmpty with
  | true =>
   have e:Txt.split a b=[a]:=by unfold Txt.split;rw [h1,hf];rfl
   exact call_meets F.slot_str_split (typeIs_str _ _ _) F.entry_str_split (F.args_str_split_2 _ _) (meets_str_split_not_found a b t t' h1 hb' hf) (fin s.toks [a] [.str a t] e (.cons ⟨_,rfl⟩ .nil))
  | false =>
   have e:Txt.split a b=Builtin.Str.partsBetween a (Builtin.Str.occurrences a b 0 a.length (a.length+1)) b.length:=by unfold Txt.split;rw [h1,hf];rfl
   exact call_meets F.slot_str_split (typeIs_str _ _ _) F.entry_str_split (F.args_str_split_2 _ _) (meets_str_split_sep a b t t' h1 hb' hf ha (by rw [←e];exact hn)) (fin _ _ _ e (Jv s.toks _))
def AJU:V→Option Int→Option Int→Hp→VK→Prop:=fun x lo hi H Q=>∃z,x=.str z∧z.length≤sizeLine∧Q (.str (Txt.slice z lo hi)) H
theorem UJ:SlR X AJU:=by
 intro aA s σ H x v vl vu lo hi sl Q I rx hs pl pu h
 obtain ⟨z,rfl,hz,q⟩:=h
 obtain ⟨t,rfl⟩:=rx
 have pv:∀{v:Value} {o:Option Int},IsPart v o→∃l:Option (Int×Tok),v=partValue l∧o=l.map (·.1):=fun {v o} h=>by
  cases h with
  | none=>exact ⟨none,rfl,rfl⟩
  | int i t=>exact ⟨some (i,t),rfl,rfl⟩
 obtain ⟨l,rfl,rfl⟩:=pv pl
 obtain ⟨u,rfl,rfl⟩:=pv pu
 exact ⟨"str",_,F.slot_str_getitem.lookup,typeIs_str _ _ _,wpAny_getItem_str_slice (l:=l) (u:=u) (st:=none) hs rfl (post_val_or_str ⟨Nat.le_trans (Txt.slice_le z _ _) hz,fun t' k=>⟨.str _,H,I.tok _,⟨_,rfl⟩,q⟩⟩)⟩
def Its(z:Str):L2.It:=⟨fun i _=>i<z.cps.size,fun i H x H'=>H'=H∧∃c,z.cps[i]?=some c∧x=.str ⟨#[c]⟩,fun i _=>z.cps.size≤i⟩
theorem XC{P:Program}{w:World}{K:PySem.W.Frag}{tg:Expr}(z:Str)(t:Tok)(it:Addr):L2.Turn P w K tg (Its z) [it] it (fun i h=>h.IsStrIter it "str_ascii_iterator" z t i) where
 mem:=by simp
 obj:=fun i h st b hb=>by
  have e:b=it:=by simpa using hb
  subst e
  obtain ⟨o,e,c,d⟩:=st
  exact ⟨o,e,fun v z=>by rw [d] at z;cases z⟩
 keep:=fun i h h' st k=>by
  obtain ⟨o,e,r⟩:=st
  exact ⟨o,k it (by simp) o e,r⟩
 item:=by
  intro X hP hw hK hc i aA s σ H E I hf st hg
  subst hP hw hK
  obtain ⟨f0,f1,f2,f3,f4,f5⟩:=hf it (by simp)
  have hi:i<z.cps.size:=hg
  refine wpAny_pyNext_ascii_item st (c:=z.cps[i]) (by simp [hi]) fun h' st' sb=>?_
  have I1:Inv X aA σ H { s with heap:=h',toks:=s.toks+1 }:=I.turned (t':=s.toks+1) (fun b o hb e=>(sb.2 b hb).trans e) f0 f1 f3 f4 f5
  obtain ⟨o,e,c,d⟩:=id st'
  exact ⟨_,rfl,Vh (s:={ s with heap:=h',toks:=s.toks+1 }) e c d (by decide) ⟨.str ⟨#[z.cps[i]]⟩,H,I1,⟨_,rfl⟩,⟨rfl,_,by simp [hi],rfl⟩,st',fun b hb=>(hf b hb).1⟩⟩
 done:=by
  intro X hP hw hK hc i aA s σ H E I hf st hg
  subst hP hw hK
  obtain ⟨f0,f1,f2,f3,f4,f5⟩:=hf it (by simp)
  have hi:z.cps.size≤i:=hg
  exact wpAny_pyNext_ascii_end (I.ok.hd hc) st (by simp [hi]) fun h' eb=>⟨rfl,I.turned (t':=s.toks) (fun b o hb e=>eb b o hb e) f0 f1 f3 f4 f5⟩
 self:=fun _ _ _ _ _ st h=>wpAny_pyIter_striter_ascii st h
def AJo(tl:TE):L2.TI:=fun σ H R=>tl σ H fun x H1=>∃z,x=.str z∧z.cps.all (·<128)=true∧R (Its z) H1
theorem Xj{tg l:Expr}{tl:TE}(hl:PE X l tl):L2.PI X tg l (AJo tl):=by
 intro aA s σ H R I h
 refine thn (hl aA s σ H _ I h) fun v s1 ⟨x,H1,I1,r1,q1⟩=>?_
 obtain ⟨z,e,ha,q⟩:=q1
 subst e
 obtain ⟨t,rfl⟩:=r1
 refine wpAny_pyIter_ascii ha ?_
 refine ⟨s1.heap.objs.size,[s1.heap.objs.size],_,_,H1,rfl,I1.kept (t':=s1.toks) fun b o e=>Heap.get?_push_of_some _ e,XC z t _,⟨_,Heap.get?_push_size _ rfl,rfl,rfl⟩,fun b hb=>?_,q⟩
 have e:b=s1.heap.objs.size:=by simpa using hb
 subst e
 exact I1.fpOk (Nat.le_refl _) (I1.hok.fresh (Nat.le_refl _))
def rTx:V→Hp→VK→Prop:=fun x H Q=>∃i:Int,x=.int i∧i.natAbs.log2<1920∧Q (.str (Str.ofString (toString i))) H
theorem Ui{a:Expr}{ta:TE}{p:Pos}(ha:PE X a ta):PE X (.FormattedValue a (-1) none p) (tUn rTx ta):=by
 intro aA s σ H Q I h
 refine FormattedValue_plain (thn (ha aA s σ H _ I h) fun v s1 ⟨x,H1,I1,r1,q1⟩=>?_)
 obtain ⟨i,rfl,hi,q⟩:=q1
 obtain ⟨t,rfl⟩:=r1
 exact formatField_int_small hi ⟨.str _,H1,I1.tok _,⟨_,rfl⟩,q⟩
theorem ABO{a:Expr}{ta:TE}{p:Pos}(ha:PE X a ta):PE X (.JoinedStr [a] p) ta:=fun aA s σ H Q I h=>JoinedStr_one (ha aA s σ H Q I h)
def AJd(ta tb tc:TE):TE:=fun σ H Q=>ta σ H fun x H1=>∃a,x=.str a∧a.length≤sizeLine∧tb σ H1 fun y H2=>∃b,y=.str b∧a.length+b.length≤sizeLine∧tc σ H2 fun z H3=>∃c,z=.str c∧a.length+b.length+c.length≤sizeLine∧Q (.str (a++b++c)) H3
theorem Sq(a b:Str):(a++b).length=a.length+b.length:=by
 show (a++b).cps.size=_
 rw [Str.cps_append,Array.size_append]
 rfl
theorem ABV{a b c:Expr}{ta tb tc:TE}{p:Pos}(ha:PE X a ta)(hb:PE X b tb)(hc:PE X c tc):PE X (.JoinedStr [a,b,c] p) (AJd ta tb tc):=by
 intro aA s σ H Q I h
 have e0:∀y:Str,Str.empty++y=y:=fun y=>Str.append_left_empty rfl
 refine wpAny_JoinedStr (Joins_cons (thn (ha aA s σ H _ I h) fun v s1 ⟨x,H1,I1,r1,q1⟩=>?_))
 obtain ⟨a',rfl,l1,q1⟩:=q1
 obtain ⟨t1,rfl⟩:=r1
 refine ⟨a',t1,rfl,by rw [e0];exact l1,Joins_cons (thn (hb aA s1 σ H1 _ I1 q1) fun v s2 ⟨y,H2,I2,r2,q2⟩=>?_)⟩
 obtain ⟨b',rfl,l2,q2⟩:=q2
 obtain ⟨t2,rfl⟩:=r2
 refine ⟨b',t2,rfl,by rw [e0,Sq];exact l2,Joins_cons (thn (hc aA s2 σ H2 _ I2 q2) fun v s3 ⟨z,H3,I3,r3,q3⟩=>?_)⟩
 obtain ⟨c',rfl,l3,q3⟩:=q3
 obtain ⟨t3,rfl⟩:=r3
 refine ⟨c',t3,rfl,by rw [e0,Sq,Sq];exact l3,Joins_nil ?_⟩
 rw [e0]
 exact ⟨by rw [Sq,Sq];exact l3,.str _,H3,I3.tok _,⟨_,rfl⟩,q3⟩
theorem R8{x:Str}{n:Str}{pos:Pos}(hg:Gl X x)(hm:∃t,X.mg x=some (.str n t))(hd:(x==("__debug__":Str))=false:=by decide):PE X (.Name x pos) (tC (.str n)):=by
 obtain ⟨t,hm⟩:=hm
 exact Et hg hm ⟨t,rfl⟩ hd
theorem ZX{st:Stmt}{t:TS}{h0:ExceptHandler}{hs:List ExceptHandler}{pos:Pos}(hb:PS X st t)(hxe:X.xe=(fun _ _=>False):=by rfl):PS X (.Try [st] (h0::hs) [] [] pos) t:=by
 intro aA s σ H D I h
 have hb':=hb aA s σ H D I h
 rw [hxe] at hb'
 refine wpAny_Try_except (wpAny_execs_cons (wpAny_mono hb' (fun fl s1 q=>?_) (fun e s1 z=>False.elim z)))
 cases fl with
 | next=>exact wpAny_execs_nil (wpAny_execs_nil q)
 | ret v=>exact q
 | brk=>exact q
 | cont=>exact q
theorem Kl(K:PySem.W.Frag):PySem.W.kitOne K (.type "str") (.type "str")=some true:=rfl
end
end L3
namespace L3
open PySem PySem.Spec PyProof.Rows Ra Builtin.Str
def sx(l:List Nat):Str:=⟨l.toArray⟩
theorem Ij(l:List Nat):(sx l).cps.toList=l:=rfl
theorem BX(l:List Nat):(sx l).length=l.length:=by
 show l.toArray.size=_
 simp
theorem AEM(x:Str):x=sx x.cps.toList:=Str.ext' (by simp [sx])
theorem Fx(a b:List Nat):sx a++sx b=sx (a++b):=Str.ext' (by rw [Str.cps_append];simp [sx])
theorem KC{a b:List Nat}(h:sx a=sx b):a=b:=by
 have:=congrArg (fun x:Str=>x.cps.toList) h
 exact this
theorem W8(s:String):Str.ofString s=sx (s.toList.map Char.toNat):=Str.ofString_eq_toList s
def dgs(n:Nat):List Nat:=(Nat.toDigits 10 n).map Char.toNat
theorem dch:∀d,d<10→(Nat.digitChar d).toNat=48+d:=by decide
theorem Ik{n:Nat}(h:n<10):dgs n=[48+n]:=by
 unfold dgs
 rw [Nat.toDigits_of_lt_base h,List.map_singleton,dch n h]
theorem Q3{n:Nat}(h:¬n<10):dgs n=dgs (n/10)++[48+n%10]:=by
 have e:n=10*(n/10)+n%10:=by omega
 have h1:=Nat.toDigits_append_toDigits (b:=10) (n:=n/10) (d:=n%10) (by decide) (by omega) (by omega)
 rw [←e] at h1
 have h2:=Ik (n:=n%10) (by omega)
 unfold dgs at h2 ⊢
 rw [←h1,List.map_append,h2]
theorem Hy:∀(n:Nat),∀c∈dgs n,IK c:=fun n=>by
 induction n using Nat.strongRecOn with
 | _ n ih =>
  intro c hc
  by_cases h:n<10
  ·rw [Ik h] at hc
   rw [List.mem_singleton.mp hc]
   exact ⟨by omega,by omega⟩
  ·rw [Q3 h] at hc
   rcases List.mem_append.mp hc with z | z
   ·exact ih (n/10) (by omega) c z
   ·rw [List.mem_singleton.mp z]
    exact ⟨by omega,by omega⟩
theorem Tr(n:Nat):dgs n≠[]:=by
 by_cases h:n<10
 ·rw [Ik h];simp
 ·rw [Q3 h];simp
theorem XJ(t:List Nat)(c:Nat):dgv (t++[c])=dgv t*10+(c-48):=by
 unfold dgv
 rw [List.foldl_append]
 rfl
theorem Ux:∀(n:Nat),dgv (dgs n)=n:=fun n=>by
 induction n using Nat.strongRecOn with
 | _ n ih =>
  by_cases h:n<10
  ·rw [Ik h]
   show 0*10+(48+n-48)=n
   omega
  ·rw [Q3 h,XJ,ih (n/10) (by omega)]
   omega
theorem HW{k n:Nat}(hk:1≤k)(h:n<10^k):(dgs n).length≤k:=by
 unfold dgs
 rw [List.length_map]
 exact digits10_le hk h
def itx(i:Int):List Nat:=if i<0 then 45::dgs i.natAbs else dgs i.natAbs
theorem tos(i:Int):Str.ofString (toString i)=sx (itx i):=by
 cases i with
 | ofNat m =>
  unfold itx
  rw [if_neg (show ¬Int.ofNat m<0 from Int.not_lt.mpr (Int.natCast_nonneg m))]
  exact text_ofNat m
 | negSucc m =>
  unfold itx
  rw [if_pos (by omega)]
  rw [W8]
  have e:toString (Int.negSucc m)="-"++Nat.repr (m+1):=rfl
  have e2:=text_ofNat (m+1)
  rw [W8] at e2
  have e3:(Nat.repr (m+1)).toList.map Char.toNat=(Nat.toDigits 10 (m+1)).map Char.toNat:=KC e2
  rw [e,String.toList_append,List.map_append,e3]
  rfl
def ftx(q:Rat):List Nat:=if q.den=1 then itx q.num else itx q.num++47::dgs q.den
theorem Jf{c:Nat}(h1:c≠45)(h2:¬IK c)(i:Int):c∉itx i:=fun h=>by
 unfold itx at h
 split at h
 ·rcases List.mem_cons.mp h with z | z
  ·exact h1 z
  ·exact h2 (Hy _ c z)
 ·exact h2 (Hy _ c h)
theorem Jj{c:Nat}(h1:c≠45)(h2:¬IK c)(h3:c≠47)(q:Rat):c∉ftx q:=fun h=>by
 unfold ftx at h
 split at h
 ·exact Jf h1 h2 _ h
 ·rcases List.mem_append.mp h with z | z
  ·exact Jf h1 h2 _ z
  ·rcases List.mem_cons.mp z with y | y
   ·exact h3 y
   ·exact h2 (Hy _ c y)
theorem Lr(l:List Nat)(c i:Nat):StrLaws.At (sx l) (sx [c]) (sx l).length i ↔ l[i]?=some c:=StrLaws.subAt_one (sx l) c i
theorem WF{c:Nat}{l:List Nat}(h:c∉l):Eb (sx l) (sx [c])=[sx l,Str.empty,Str.empty]:=by
 unfold Eb
 rcases StrLaws.occ_head (sx l) (sx [c]) 1 (Nat.le_refl 1) with ⟨e,_⟩ | ⟨i,r,e,ha,_⟩
 ·rw [e]
 ·exact absurd (List.mem_of_getElem? ((Lr l c i).mp ha)) h
theorem Ow{c:Nat}{a b:List Nat}(h:c∉a):Eb (sx (a++c::b)) (sx [c])=[sx a,sx [c],sx b]:=by
 unfold Eb
 have at1:StrLaws.At (sx (a++c::b)) (sx [c]) (sx (a++c::b)).length a.length:=(Lr _ c _).mpr (by simp)
 rcases StrLaws.occ_head (sx (a++c::b)) (sx [c]) 1 (Nat.le_refl 1) with ⟨_,hn⟩ | ⟨i,r,e,ha,hm⟩
 ·exact absurd at1 (hn _)
 ·have hi:i=a.length:=by
   rcases Nat.lt_trichotomy i a.length with z | z | z
   ·exfalso
    have:=(Lr _ c i).mp ha
    rw [List.getElem?_append_left z] at this
    exact h (List.mem_of_getElem? this)
   ·exact z
   ·exact absurd at1 (hm _ z)
  rw [e,hi]
  have e1:strSub (sx (a++c::b)) 0 a.length=sx a:=Str.ext' (by simp [strSub,sx])
  have e2:strSub (sx (a++c::b)) (a.length+(sx [c]).length) (sx (a++c::b)).length=sx b:=Str.ext' (by
   simp [strSub,sx,Str.length]
   exact List.take_of_length_le (by omega))
  show [strSub _ _ _,_,strSub _ _ _]=_
  rw [e1,e2]
def jn(c:Nat):List (List Nat)→List Nat
 | []=>[]
 | [w]=>w
 | w::v::r=>w++c::jn c (v::r)
theorem XD{c:Nat}:∀{a b a' b':List Nat},c∉a→c∉a'→a++c::b=a'++c::b'→a=a'∧b=b'
 | [],_,[],_,_,_,e=>⟨rfl,by simpa using e⟩
 | [],_,x::a',_,_,h',e=>by
  have:c=x:=by simpa using (List.cons.inj e).1
  exact absurd (by rw [this];simp) h'
 | x::a,_,[],_,h,_,e=>by
  have:x=c:=by simpa using (List.cons.inj e).1
  exact absurd (by rw [this];simp) h
 | x::a,b,y::a',b',h,h',e=>by
  obtain ⟨e1,e2⟩:=List.cons.inj e
  obtain ⟨i1,i2⟩:=XD (a:=a) (a':=a') (fun z=>h (by simp [z])) (fun z=>h' (by simp [z])) e2
  exact ⟨by rw [e1,i1],i2⟩
theorem XR{c:Nat}{w v:List Nat}{r:List (List Nat)}:c∈jn c (w::v::r):=by
 show c∈w++c::jn c (v::r)
 simp
theorem YF{c:Nat}:∀{ws vs:List (List Nat)},(∀w∈ws,c∉w)→(∀v∈vs,c∉v)→ws≠[]→vs≠[]→jn c ws=jn c vs→ws=vs
 | [w],[v],_,_,_,_,e=>by
  have:w=v:=e
  rw [this]
 | [w],v::v'::r,h,_,_,_,e=>by
  have e':w=jn c (v::v'::r):=e
  exact absurd (by rw [e'];exact XR) (h w (by simp))
 | w::w'::r,[v],_,h',_,_,e=>by
  have e':jn c (w::w'::r)=v:=e
  exact absurd (by rw [←e'];exact XR) (h' v (by simp))
 | w::w'::r,v::v'::s,h,h',_,_,e=>by
  obtain ⟨e1,e2⟩:=XD (h w (by simp)) (h' v (by simp)) e
  have:=YF (ws:=w'::r) (vs:=v'::s) (fun x hx=>h x (List.mem_cons_of_mem _ hx)) (fun x hx=>h' x (List.mem_cons_of_mem _ hx)) (by simp) (by simp) e2
  rw [e1,this]
theorem Lh(c:Nat):∀ws:List (List Nat),Str.join (sx [c]) (ws.map sx)=sx (jn c ws)
 | []=>rfl
 | [w]=>rfl
 | w::v::r=>by
  show sx w++sx [c]++Str.join (sx [c]) ((v::r).map sx)=_
  rw [Lh c (v::r),Fx,Fx]
  show sx (w++[c]++jn c (v::r))=sx (w++c::jn c (v::r))
  rw [List.append_assoc]
  rfl
theorem Xb(x y:Str):Txt.split x y≠[]:=by
 unfold Txt.split
 split
 ·simp
 ·split
  ·simp
  ·rw [StrLaws.partsBetween_eq]
   obtain ⟨p,r,e⟩:=StrLaws.partsFrom_ne x y.length 0 (occurrences x y 0 x.length (x.length+1))
   rw [e]
   simp
theorem SJ{c:Nat}{ws:List (List Nat)}(h:∀w∈ws,c∉w)(hn:ws≠[]):Txt.split (sx (jn c ws)) (sx [c])=ws.map sx:=by
 have e1:=StrLaws.join_split (sx (jn c ws)) (sx [c])
 have e2:Txt.split (sx (jn c ws)) (sx [c])=((Txt.split (sx (jn c ws)) (sx [c])).map fun p=>p.cps.toList).map sx:=by
  rw [List.map_map]
  exact (List.map_id _).symm.trans (List.map_congr_left fun p _=>AEM p)
 have f:=StrLaws.split_free (sx (jn c ws)) c
 have ne:=Xb (sx (jn c ws)) (sx [c])
 rw [e2,Lh] at e1
 have:=YF (c:=c) (fun w hw=>by
  obtain ⟨p,hp,rfl⟩:=List.mem_map.mp hw
  exact f p hp) h (fun z=>ne (List.map_eq_nil_iff.mp z)) hn (KC e1)
 rw [e2,this]
theorem Lq(c:Nat)(ws:List (List Nat)):Txt.join (sx [c]) (ws.map sx)=sx (jn c ws):=by
 unfold Txt.join
 rw [StrLaws.glued_eq_join,Lh]
theorem JC(l:List Nat)(c:Nat):Txt.startswith (sx l) (sx [c])=decide (l[0]?=some c):=by
 have h:=Lr l c 0
 unfold StrLaws.At at h
 unfold Txt.startswith
 by_cases e:l[0]?=some c
 ·rw [decide_eq_true e]
  have:=h.mpr e
  rw [Bool.and_eq_true]
  exact ⟨decide_eq_true this.1,this.2⟩
 ·rw [decide_eq_false e]
  refine Bool.eq_false_iff.mpr fun z=>e (h.mp ?_)
  rw [Bool.and_eq_true] at z
  exact ⟨of_decide_eq_true z.1,z.2⟩
theorem V2(l:List Nat)(c:Nat):Txt.endswith (sx (l++[c])) (sx [c])=true:=by
 have h:=(Lr (l++[c]) c l.length).mpr (by simp)
 unfold StrLaws.At at h
 unfold Txt.endswith
 have e:(sx (l++[c])).length-(sx [c]).length=l.length:=by rw [BX,BX];simp
 rw [e,Bool.and_eq_true]
 refine ⟨decide_eq_true ?_,h.2⟩
 rw [BX,BX]
 simp
theorem Ug{l:List Nat}(h:l≠[]):Txt.slice (sx l) (some 1) none=sx (l.drop 1):=by
 have hl:0<l.length:=List.length_pos_iff.mpr h
 have:=StrLaws.sliceText_from (x:=sx l) (i:=1) ⟨by decide,by rw [Ij];omega⟩
 refine (show Txt.slice (sx l) (some 1) none=_ from this).trans ?_
 rw [Ij]
 unfold sx
 rw [List.take_of_length_le (by rw [List.length_drop];omega)]
 rfl
theorem V3(a b:Nat)(m:List Nat):Txt.slice (sx (a::(m++[b]))) (some 1) (some (-1))=sx m:=by
 have hl:(sx (a::(m++[b]))).length=m.length+2:=by rw [BX];simp
 have e1:=StrLaws.sliceText_neg_hi (sx (a::(m++[b]))) (some 1) (j:=-1) (by decide) (by omega)
 have e2:=StrLaws.sliceText_plain (x:=sx (a::(m++[b]))) (i:=1) (j:=-1+((sx (a::(m++[b]))).length:Int)) ⟨by decide,by omega,by rw [Ij];simp;omega⟩
 refine (show Txt.slice (sx (a::(m++[b]))) (some 1) (some (-1))=_ from e1).trans (e2.trans ?_)
 rw [hl,Ij,show (-1+((m.length+2:Nat):Int)-1).toNat=m.length by omega]
 unfold sx
 congr 1
 show ((m++[b]).take m.length).toArray=_
 rw [List.take_left']
 rfl
theorem YW(l:List Nat)(c:Nat):(!(occurrences (sx l) (sx [c]) 0 (sx l).length 1).isEmpty)=decide (c∈l):=StrLaws.found_one (sx l) c
end L3
namespace L3
open PySem PySem.Spec PyProof.Rows L2 Ra
def clo(sc:Scope)(env:Env):List (Str×Addr):=((sc.names.filter fun y=>y.2==.free).map fun y=>(y.1,(env.cells.lookup y.1).getD 0)).reverse
theorem W3{sc:Scope}{env:Env}{y:Str}{c:Addr}(h:(clo sc env).lookup y=some c):(y,NameKind.free)∈sc.names∧c=(env.cells.lookup y).getD 0:=by
 have m:(y,c)∈clo sc env:=PySem.mem_of_lookup h
 unfold clo at m
 rw [List.mem_reverse,List.mem_map] at m
 obtain ⟨⟨n,k⟩,hm,e⟩:=m
 rw [List.mem_filter] at hm
 have hk:k=.free:=by simpa using hm.2
 subst hk
 cases e
 exact ⟨hm.1,rfl⟩
theorem JS{α:Type}{l:List (Str×α)}{y:Str}{c:α}(h:(y,c)∈l):∃c',l.lookup y=some c':=by
 induction l with
 | nil=>cases h
 | cons p r ih =>
  obtain ⟨n,v⟩:=p
  by_cases e:y=n
  ·subst e
   exact ⟨v,by simp⟩
  ·have hb:(y==n)=false:=by simpa using e
   rw [List.lookup_cons,hb]
   rcases List.mem_cons.mp h with z | z
   ·cases z
    exact absurd rfl e
   ·exact ih z
theorem Lg{sc:Scope}{env:Env}{y:Str}(h:(y,NameKind.free)∈sc.names):∃c,(clo sc env).lookup y=some c:=by
 refine JS (c:=(env.cells.lookup y).getD 0) ?_
 unfold clo
 rw [List.mem_reverse,List.mem_map]
 exact ⟨(y,.free),List.mem_filter.mpr ⟨h,by simp⟩,rfl⟩
theorem Hn{env:Env}:∀(ns:List (Str×NameKind)) (cs:List (Str×Addr)),(∀y∈ns,y.2=.free→∃c,env.cells.lookup y.1=some c) →
  (forIn ns cs fun x r=>(match x with | (name,kind)=>if kind==.free then do let c ←cellOf env name;pure (ForInStep.yield ((name,c)::r)) else pure (ForInStep.yield r):Sem (ForInStep (List (Str×Addr))))) =
   pure (((ns.filter fun y=>y.2==.free).map fun y=>(y.1,(env.cells.lookup y.1).getD 0)).reverse++cs)
 | [],cs,_=>rfl
 | (n,k)::r,cs,h=>by
  have hr:∀y∈r,y.2=.free→∃c,env.cells.lookup y.1=some c:=fun y hy=>h y (List.mem_cons_of_mem _ hy)
  rw [List.forIn_cons]
  by_cases hk:k=.free
  ·subst hk
   obtain ⟨c,hc⟩:=h (n,.free) List.mem_cons_self rfl
   have e:cellOf env n=pure c:=by unfold cellOf;rw [hc]
   have e2:((n,NameKind.free)::r).filter (fun y=>y.2==.free)=(n,.free)::r.filter fun y=>y.2==.free:=by simp
   simp only [beq_self_eq_true,if_true,e,pure_bind]
   rw [Hn r _ hr,e2]
   simp [hc]
  ·have hb:(k==NameKind.free)=false:=by simpa using hk
   have e2:((n,k)::r).filter (fun y=>y.2==.free)=r.filter fun y=>y.2==.free:=by simp [hk]
   simp only [hb,Bool.false_eq_true,if_false,pure_bind]
   rw [Hn r _ hr,e2]
theorem Ls{sc:Scope}{env:Env}(h:∀y∈sc.names,y.2=.free→∃c,env.cells.lookup y.1=some c):closureFor sc env=pure (clo sc env):=by
 have q:=Hn sc.names [] h
 rw [List.append_nil] at q
 unfold closureFor clo
 simp only [pure_bind,bind_pure]
 exact q
theorem Cw{sc:Scope}{env:Env}{y:Str}{k:NameKind}(h:sc.names.lookup y=some k) :
  (relabel sc env).names.lookup y=some (if (k==.free&&env.scope.kind==.function&&env.kindOf y==some .cell) then .cell else k):=by
 unfold relabel
 show (sc.names.map _).lookup y=_
 generalize sc.names=ns at h
 induction ns with
 | nil=>cases h
 | cons p r ih =>
  obtain ⟨n,v⟩:=p
  rw [List.map_cons]
  show List.lookup y ((if (v==.free&&env.scope.kind==.function&&env.kindOf n==some .cell)=true then (n,NameKind.cell) else (n,v))::r.map _)=_
  by_cases e:y=n
  ·subst e
   have ev:v=k:=by simpa using h
   subst ev
   by_cases c:(v==.free&&env.scope.kind==.function&&env.kindOf y==some .cell)=true
   ·rw [if_pos c,if_pos c]
    simp
   ·rw [if_neg c,if_neg c]
    simp
  ·have hb:(y==n)=false:=by simpa using e
   have h':r.lookup y=some k:=by
    rw [List.lookup_cons,hb] at h
    exact h
   by_cases c:(v==.free&&env.scope.kind==.function&&env.kindOf n==some .cell)=true
   ·rw [if_pos c]
    simp only [List.lookup_cons,hb]
    exact ih h'
   ·rw [if_neg c]
    simp only [List.lookup_cons,hb]
    exact ih h'
theorem JW{sc:Scope}{env:Env}{y:Str}(h:sc.names.lookup y=none):(relabel sc env).names.lookup y=none:=by
 unfold relabel
 show (sc.names.map _).lookup y=_
 generalize sc.names=ns at h
 induction ns with
 | nil=>rfl
 | cons p r ih =>
  obtain ⟨n,v⟩:=p
  rw [List.map_cons]
  show List.lookup y ((if (v==.free&&env.scope.kind==.function&&env.kindOf n==some .cell)=true then (n,NameKind.cell) else (n,v))::r.map _)=_
  by_cases e:y=n
  ·subst e
   simp at h
  ·have hb:(y==n)=false:=by simpa using e
   have h':r.lookup y=none:=by
    rw [List.lookup_cons,hb] at h
    exact h
   by_cases c:(v==.free&&env.scope.kind==.function&&env.kindOf n==some .cell)=true
   ·rw [if_pos c]
    simp only [List.lookup_cons,hb]
    exact ih h'
   ·rw [if_neg c]
    simp only [List.lookup_cons,hb]
    exact ih h'
structure S9(fsc csc:Scope)(x:Str)(js:List Nat)(N N':List Str):Prop where
 eqN:N'=x::js.map fun j=>N.getD j x
 nd:N'.Nodup
 fr:∀y∈csc.names,y.2=.free→fsc.names.lookup y.1=some .cell
 cell:∀y∈csc.names,y.2≠.cell
 kind:csc.kind=.function
 nm:∀y∈csc.names,y.2=.local→csc.names.lookup y.1=some .local
 xl:csc.names.lookup x=some .local
 js:∀j∈js,j<N.length∧csc.names.lookup (N.getD j x)=some .free
def blk(X:Cx)(csc:Scope)(N':List Str)(s₀:Shared)(H₀:Hp)(C:Addr)(ex:List Addr):Cx :=
 { X with N:=N',s₀:=s₀,H₀:=H₀,env:=compEnvC csc (clo csc X.env) C X.env,outer:=X.stack,stack:=X.stack,ex:=ex,fn:=fun _=>false,pn:=[],xe:=fun _ _=>False }
def JL(J:It)(te:Shared→Hp→Addr→List Addr→TE)(js:List Nat)(σ:L2.St)(Q:VK)(H1:Hp):Prop:=∀D,H1 D=none→∃W:Nat→Nat→List V→Hp→Prop,(∃m,W 0 m [] (upd H1 D (.lst []))) ∧
 ∀i m ys H,W i m ys H→H D=some (.lst ys)∧((J.stop i H∧Q (.ref D) H)∨(J.go i H∧∀x H',J.yld i H x H'→∀s₀ H₀ C ex,te s₀ H₀ C ex (some x::js.map fun j=>(σ[j]?).join) H' fun y H2 =>
  H2 D=some (.lst ys)∧ys.length<sizeLine∧∃m',m'<m∧W (i+1) m' (ys++[y]) (upd H2 D (.lst (ys++[y])))))
def Xw(wi:TI)(te:Shared→Hp→Addr→List Addr→TE)(js:List Nat):TE:=fun σ H Q=>wi σ H fun J H1=>JL J te js σ Q H1
theorem La{X:Cx}{aA:List (Addr×Obj)}{σ:L2.St}{H:Hp}{s:Shared}{C:Addr}{h7:Heap}(I:Inv X aA σ H s)(f:Gv X aA H C)(sb:Heap.SameBut C s.heap h7):Inv X aA σ H { s with heap:=h7 }:=by
 obtain ⟨g0,g1,g2,g3,g4,g5⟩:=f
 have hne:∀{b:Addr},b∉[C]→b≠C:=fun h z=>h (by rw [z];exact List.mem_cons_self)
 refine I.call' (ch:=[C]) (H':=H) rfl ⟨fun b o e _ _ hx=>(sb.2 b (hne hx)).trans e,fun b o e _ _ hx=>⟨o.slots,(sb.2 b (hne hx)).trans e⟩,fun _ _ _ n _=>n,fun b o e hx=>⟨o,(sb.2 b (hne hx)).trans e⟩,fun _ _ q=>q,fun _ _ _ q=>q,fun _ ps q=>⟨#[],by rw [Array.append_empty];exact q⟩⟩ ?_ I.bare fun b hb=>?_
 ·intro b ob e
  refine (I.hok b ob e).stay (fun c w' hcc q=>(sb.2 c ?_).trans q) (fun _ q=>q) fun _ _ q=>q
  rintro rfl
  rcases hcc with rfl | hcc
  ·rw [g0] at e;cases e
  ·rw [g0] at hcc;cases hcc
 ·have e:b=C:=by simpa using hb
  subst e
  exact ⟨g3,g1,g4,g5⟩
theorem Jd{prog:Program}{w:World}{A:Around}{R:Result→Shared→Prop}{s:Shared}{elt target iter:Expr}{ifs:List Expr}{scope:Scope}{pos:Pos}{it acc:Value}{env:Env}(I:Nat→Shared→Prop)
  (turn:∀n s,I n s→wpAny (model prog w) A (pyNext it) (fun r s₁=>match r with
   | none=>R (.ok .next) s₁
   | some v=>wpAny (model prog w) A (letOwnedTupleGo target it v) (fun _ s₁'=>wpAny (model prog w) A (assign target env v) (fun _ s₂ =>
     wpAny (model prog w) A (forIn ifs true fun c r=>if r=true then do let ok ←isTrue c env (eval c env);pure (ForInStep.yield ok) else pure (ForInStep.yield r)) (fun ok s₃ =>
      if ok=true then wpAny (model prog w) A (eval elt env) (fun x s₄ =>
       wpAny (model prog w) A (call (.builtin "list.append") [acc,x]) (fun _ s₅=>∃m,m<n∧I m s₅) (notedBy (model prog w) A env fun e s'=>R (.error e) s') s₄) (notedBy (model prog w) A env fun e s'=>R (.error e) s') s₃
      else ∃m,m<n∧I m s₃) (notedBy (model prog w) A env fun e s'=>R (.error e) s') s₂) (notedBy (model prog w) A env fun e s'=>R (.error e) s') s₁') (notedBy (model prog w) A env fun e s'=>R (.error e) s') s₁) (notedBy (model prog w) A env fun e s'=>R (.error e) s') s)
  (n:Nat) (h:I n s):codeAny (model prog w) A (.compLoop (.ListComp elt [⟨target,iter,ifs,0⟩] scope pos) 0 it acc env) R s:=by
 refine codeAny_loop rfl I (fun n s hI=>?_) n h
 show wpAny _ A ((compTurn (.ListComp elt [⟨target,iter,ifs,0⟩] scope pos) 0 it acc env).onRaise (fun x=>do noteFrame x env;theTreesLotGoes x)) _ _ s
 refine wpAny_noted ?_
 rw [compTurn_list]
 refine wpAny_bind (wpAny_standAt (wpAny_bind (wpAny_mono (turn n s hI) (fun r s₁ h₁=>?_) fun _ _ h'=>h')))
 cases r with
 | none=>exact wpAny_pure h₁
 | some v =>
  refine wpAny_bind (wpAny_mono h₁ (fun _ s₁' h₁'=>?_) fun _ _ h'=>h')
  refine wpAny_bind (wpAny_mono h₁' (fun _ s₂ h₂=>wpAny_bind (wpAny_mono h₂ (fun ok s₃ h₃=>?_) fun _ _ h'=>h')) fun _ _ h'=>h')
  cases ok with
  | false=>exact wpAny_pure ⟨rfl,h₃⟩
  | true =>
   exact wpAny_bind (wpAny_bind (wpAny_mono h₃ (fun x s₄ h₄=>wpAny_bind (wpAny_mono h₄ (fun _ s₅ h₅=>wpAny_pure (wpAny_pure ⟨rfl,h₅⟩)) fun _ _ h'=>h')) fun _ _ h'=>h'))
def PTs(X:Cx)(ifs:List Expr)(t:TT):Prop :=
 ∀(aA:List (Addr×Obj)) (s:Shared) (σ:L2.St) (H:Hp) (Q:Bool→Hp→Prop),Inv X aA σ H s→t σ H Q →
  wpAny (model X.prog X.w) X.A (forIn ifs true fun c r=>if r=true then do let ok ←isTrue c X.env (eval c X.env);pure (ForInStep.yield ok) else pure (ForInStep.yield r)) (TP X aA σ Q) X.xe s
def LR:TT:=fun _ H Q=>Q true H
theorem QZ{X:Cx}:PTs X [] LR:=fun _ _ _ H _ I h=>wpAny_tests_nil ⟨H,I,h⟩
structure Jl(fsc csc:Scope)(xs:List Str)(js:List Nat)(N N':List Str):Prop where
 eqN:N'=xs++js.map fun j=>N.getD j ""
 fr:∀y∈csc.names,y.2=.free→fsc.names.lookup y.1=some .cell
 cell:∀y∈csc.names,y.2≠.cell
 kind:csc.kind=.function
 nm:∀y∈csc.names,y.2=.local→csc.names.lookup y.1=some .local
 js:∀j∈js,j<N.length∧csc.names.lookup (N.getD j "")=some .free
def VJ(J:It)(tg:TG)(tt:Shared→Hp→Addr→List Addr→TT)(te:Shared→Hp→Addr→List Addr→TE)(nx:Nat)(js:List Nat)(σ:L2.St)(Q:VK)(H1:Hp):Prop:=∀D,H1 D=none→∃W:Nat→Nat→List V→Hp→Prop,(∃m,W 0 m [] (upd H1 D (.lst []))) ∧
 ∀i m ys H,W i m ys H→H D=some (.lst ys)∧((J.stop i H∧Q (.ref D) H)∨(J.go i H∧∀x H',J.yld i H x H'→∀s₀ H₀ C ex (σ0:L2.St),σ0.length=nx→tg x (σ0++js.map fun j=>(σ[j]?).join) H' fun σ1 H2 =>
  (∃σ0':L2.St,σ1=σ0'++(js.map fun j=>(σ[j]?).join)∧σ0'.length=nx)∧tt s₀ H₀ C ex σ1 H2 fun b H3=>if b=true then te s₀ H₀ C ex σ1 H3 fun y H4 =>
   H4 D=some (.lst ys)∧ys.length<sizeLine∧∃m',m'<m∧W (i+1) m' (ys++[y]) (upd H4 D (.lst (ys++[y])))
  else H3 D=some (.lst ys)∧∃m',m'<m∧W (i+1) m' ys H3))
def Q4(wi:TI)(tg:TG)(tt:Shared→Hp→Addr→List Addr→TT)(te:Shared→Hp→Addr→List Addr→TE)(nx:Nat)(js:List Nat):TE:=fun σ H Q=>wi σ H fun J H1=>VJ J tg tt te nx js σ Q H1
theorem Mf{X:Cx}{elt iter target:Expr}{ifs:List Expr}{pos pos':Pos}{csc:Scope}{wi:TI}{tg:TG}{tt:Shared→Hp→Addr→List Addr→TT}{te:Shared→Hp→Addr→List Addr→TE}(xs:List Str)(js:List Nat){N':List Str}{fsc:Scope}{N:List Str}(ok:Jl fsc csc xs js N N')(hi:PI X target iter wi)(hg:∀s₀ H₀ C ex,PG (blk X csc N' s₀ H₀ C ex) target tg)(ht:∀s₀ H₀ C ex,PTs (blk X csc N' s₀ H₀ C ex) ifs (tt s₀ H₀ C ex))
  (he:∀s₀ H₀ C ex,PE (blk X csc N' s₀ H₀ C ex) elt (te s₀ H₀ C ex)) (hc:X.calm=true) (hsc:X.env.scope=fsc) (hXN:X.N=N) (hs:∀x,foldedSetIterable iter X.env x=pure x)
  (use:Option (Value→Sem Unit)) (R:Value→Shared→Prop) {aA:List (Addr×Obj)} {s:Shared} {σ:L2.St} {H:Hp} {Q:VK} (I:Inv X aA σ H s) (h:Q4 wi tg tt te xs.length js σ H Q)
  (hfin:∀(D C:Addr) (s6:Shared) (H5:Hp) (m6:Str→Option Value) (r:Flow),Inv X aA σ H5 s6→Gv X aA H5 C→s6.heap.Ns C m6→Q (.ref D) H5→compPost (model X.prog X.w) X.A X.xe use R (.ref D) C (.ok r) s6) :
  wpAny (model X.prog X.w) X.A (comprehension (.ListComp elt [⟨target,iter,ifs,0⟩] csc pos) csc X.env pos' (newList []) false (eval iter X.env) use) R X.xe s:=by
 have hkX:X.env.scope.kind=.function:=I.ok.kind
 have hfree:∀y∈csc.names,y.2=.free→∃c,X.env.cells.lookup y.1=some c:=fun y hy hk=>I.ok.has y.1 (.inl (by show X.env.scope.names.lookup y.1=_;rw [hsc];exact ok.fr y hy hk))
 have hcl:∀y c,(clo csc X.env).lookup y=some c→X.env.cells.lookup y=some c:=fun y c e=>by
  obtain ⟨m,e2⟩:=W3 e
  obtain ⟨c',e3⟩:=hfree _ m rfl
  rw [e3] at e2
  rw [e3,e2]
  rfl
 refine wpAny_comprehension_free (use:=use) rfl hs (Ls hfree) ok.kind ok.nm ?_
 refine thn (hi aA s σ H _ I h) fun v s1 h1=>thn h1 fun itv s2 h2=>?_
 obtain ⟨it,fp,tn,J,H2,e,I2,T,st2,f2,hw⟩:=h2
 subst e
 have hD:H2 s2.heap.objs.size=none:=I2.hok.fresh (Nat.le_refl _)
 obtain ⟨W,⟨m0,w0⟩,turn⟩:=hw _ hD
 refine wpAny_newObj_type ?_ (by show 0≤sizeLine;decide)
 have I3:Inv X aA σ (upd H2 s2.heap.objs.size (.lst [])) { s2 with heap:=s2.heap.push { cls:=.type "list",data:=.seq ([]:List Value).toArray } }:=I2.lnew (t':=s2.toks) .nil (by show 0≤sizeLine;decide)
 generalize hs3:({ s2 with heap:=s2.heap.push { cls:=.type "list",data:=.seq ([]:List Value).toArray } }:Shared)=s3 at I3 ⊢
 have hsz:s3.heap.objs.size=s2.heap.objs.size+1:=by rw [←hs3,Heap.size_push]
 generalize hDe:s2.heap.objs.size=D at *
 have tn3:tn 0 s3.heap:=T.keep 0 s2.heap _ st2 fun b hb o e=>by rw [←hs3];exact Heap.get?_push_of_some _ e
 have fpD:∀b∈fp,b≠D:=fun b hb z=>by
  obtain ⟨o,e,_⟩:=T.obj 0 _ st2 b hb
  rw [z,←hDe] at e
  exact absurd (Heap.lt_size e) (Nat.lt_irrefl _)
 have f3:∀b∈fp,upd H2 D (.lst []) b=none:=fun b hb=>by rw [Ai (fpD b hb)];exact (f2 b hb).1
 refine wpAny_newFunctionEnv ok.cell (by intro y hy;simp at hy) (fun h4 hns hsb=>?_) ok.kind
 generalize hCe:s3.heap.objs.size=C at *
 have ltC:∀b o,s3.heap.get? b=some o→b<C:=fun b o e=>by
  rw [←hCe]
  exact Heap.lt_size e
 have keep4:∀b o,s3.heap.get? b=some o→h4.get? b=some o:=fun b o e=>by
  rw [hsb.2 b (Nat.ne_of_lt (ltC b o e))]
  exact Heap.get?_push_of_some _ e
 have Xok:(blk X csc N' s3 (upd H2 D (.lst [])) C fp).Ok:=by
  refine ⟨I3.ok.mod,?_,I3.ok.glob,I3.ok.blt,?_,fun y z c h1 h2=>I3.ok.inj y z c (hcl y c h1) (hcl z c h2),fun y hy=>?_,fun y c h1 _=>?_,I3.ok.hd,I3.ok.frames,.inl rfl,fun b hb=>?_,I3.bs,?_,fun b o e hb=>?_,fun b hb hz=>?_,I3.stack,I3.stkFree⟩
  ·exact ok.kind
  ·exact Nat.le_of_eq hCe
  ·have hy':(relabel csc X.env).names.lookup y=some .cell∨(relabel csc X.env).names.lookup y=some .free:=hy
   cases hk:csc.names.lookup y with
   | none =>
    rw [JW hk] at hy'
    rcases hy' with z | z <;> cases z
   | some k =>
    have hm:(y,k)∈csc.names:=PySem.mem_of_lookup hk
    by_cases hkf:k=.free
    ·subst hkf
     exact Lg hm
    ·have hb:(k==NameKind.free)=false:=by simpa using hkf
     rw [Cw hk] at hy'
     simp only [hb,Bool.false_and,Bool.false_eq_true,if_false] at hy'
     rcases hy' with z | z
     ·exact absurd (Option.some.inj z) (ok.cell _ hm)
     ·exact absurd (Option.some.inj z) hkf
  ·exact absurd (show false=true from h1) Bool.false_ne_true
  ·obtain ⟨g0,g1,g2,g3,g4,g5⟩:=f2 b hb
   refine ⟨fun z=>?_,fun y c e=>g4 y c (hcl y c e)⟩
   obtain ⟨o,e,_⟩:=T.obj 0 _ tn3 b hb
   have z':b=C:=z
   have l:=ltC b o e
   rw [z'] at l
   exact absurd l (Nat.lt_irrefl _)
  ·exact Nat.le_trans I3.ok.bsz I3.sz
  ·obtain ⟨g0,g1,g2,g3,g4,g5⟩:=f2 b hb
   rcases g3 with z | z
   ·exact I3.ok.noex b o e z
   ·exact absurd (Nat.lt_of_lt_of_le (Heap.lt_size e) (Nat.le_trans I3.ok.bsz z)) (Nat.lt_irrefl _)
  ·obtain ⟨g0,g1,g2,g3,g4,g5⟩:=f2 b hb
   rcases List.mem_cons.mp (I3.stkSub b hz) with z | z
   ·exact g1 z
   ·exact g2 z
 have hfreeC:H2 C=none∧upd H2 D (.lst []) C=none:=by
  have q:upd H2 D (.lst []) C=none:=I3.hok.fresh (Nat.le_of_eq hCe)
  refine ⟨?_,q⟩
  rw [Ai (by rw [hsz];exact Nat.succ_ne_self D)] at q
  exact q
 have I4:Inv (blk X csc N' s3 (upd H2 D (.lst [])) C fp) [] (List.replicate xs.length none++js.map fun j=>(σ[j]?).join) (upd H2 D (.lst [])) { s3 with heap:=h4,toks:=s3.toks+([]:List (Str×Value)).length }:=by
  refine ⟨Xok,rfl,I3.bare,Un.kept keep4,⟨_,hns,fun i y v h1 h2 h3=>?_⟩,fun y c e=>?_,hfreeC.2,fun y c e=>I3.freeC y c (hcl y c e),fun p hp=>absurd (show p∈([]:List (Addr×Obj)) from hp) (by simp),I3.hok.kept keep4,?_⟩
  ·have h1':(xs++js.map fun j=>N.getD j "")[i]?=some y:=by rw [←ok.eqN];exact h1
   by_cases hi:i<xs.length
   ·rw [List.getElem?_append_left (by rw [List.length_replicate];exact hi),List.getElem?_replicate] at h2
    rw [if_pos hi] at h2
    cases h2
   ·rw [List.getElem?_append_right (by omega),List.getElem?_map] at h1'
    rw [List.getElem?_append_right (by rw [List.length_replicate];omega),List.length_replicate,List.getElem?_map] at h2
    cases ej:js[i-xs.length]? with
    | none=>rw [ej] at h2;cases h2
    | some j =>
     rw [ej] at h1' h2
     obtain ⟨jl,jf⟩:=ok.js j (List.mem_of_getElem? ej)
     have ey:N.getD j ""=y:=Option.some.inj h1'
     have ev:(σ[j]?).join=some v:=Option.some.inj h2
     have ev':σ[j]?=some (some v):=by
      cases q:σ[j]? with
      | none=>rw [q] at ev;cases ev
      | some o=>rw [q] at ev;rw [show o=some v from ev]
     have eN:X.N[j]?=some y:=by rw [hXN,←ey,List.getD_eq_getElem?_getD,List.getElem?_eq_getElem jl];rfl
     rw [ey] at jf
     have kX:X.env.scope.names.lookup y=some .cell:=by rw [hsc];exact ok.fr (y,.free) (PySem.mem_of_lookup jf) rfl
     obtain ⟨m3,n3,l3⟩:=I3.loc
     obtain ⟨u,ru,lk⟩:=l3 j y v eN ev' (.inr (.inl kX))
     refine ⟨u,ru,.inr ⟨?_,?_⟩⟩
     ·left
      show (relabel csc X.env).names.lookup y=some .cell
      rw [Cw jf]
      have k2:X.env.kindOf y=some .cell:=kX
      rw [hkX,k2]
      rfl
     ·rcases lk with ⟨z,_⟩ | ⟨_,c,hc1,hc2⟩
      ·have z':X.env.scope.names.lookup y=some .local:=z
       rw [kX] at z'
       cases z'
      ·obtain ⟨c',e'⟩:=Lg (env:=X.env) (PySem.mem_of_lookup jf)
       have:c'=c:=by
        have q:=hcl y c' e'
        rw [hc1] at q
        exact (Option.some.inj q).symm
       subst this
       obtain ⟨oc,ho,hd⟩:=hc2
       exact ⟨c',e',oc,keep4 _ _ ho,hd⟩
  ·obtain ⟨v,oc,ho,hd⟩:=I3.cell y c (hcl y c e)
   exact ⟨v,oc,keep4 _ _ ho,hd⟩
  ·show (List.replicate xs.length none++js.map _).length=N'.length
   rw [ok.eqN]
   simp
 have stat:∀{H':Hp},(∀b∈fp,H' b=none)→∀b∈fp,Gv (blk X csc N' s3 (upd H2 D (.lst [])) C fp) [] H' b:=fun hn b hb=>by
  obtain ⟨g0,g1,g2,g3,g4,g5⟩:=f2 b hb
  exact ⟨hn b hb,(Xok.exf b hb).1,Xok.exfs b hb,.inl hb,(Xok.exf b hb).2,fun p hp=>absurd (show p∈([]:List (Addr×Obj)) from hp) (by simp)⟩
 have loop:∀s':Shared,Inv (blk X csc N' s3 (upd H2 D (.lst [])) C fp) [] (List.replicate xs.length none++js.map fun j=>(σ[j]?).join) (upd H2 D (.lst [])) s'→tn 0 s'.heap →
   codeAny (model X.prog X.w) X.A (.compLoop (.ListComp elt [⟨target,iter,ifs,0⟩] csc pos) 0 (.ref it) (.ref D) (compEnvC csc (clo csc X.env) C X.env)) (compPost (model X.prog X.w) X.A X.xe use R (.ref D) C) s':=by
  rintro s' I' t0
  refine Jd (fun m s=>∃i ys H',Inv (blk X csc N' s3 (upd H2 D (.lst [])) C fp) [] (List.replicate xs.length none++js.map fun j=>(σ[j]?).join) H' s∧tn i s.heap∧(∀b∈fp,H' b=none)∧W i m ys H') ?_ m0 ⟨0,[],_,I',t0,f3,w0⟩
  rintro m s5 ⟨i,ys,H5,I5,t5,fr5,w5⟩
  obtain ⟨hDl,tt'⟩:=turn i m ys H5 w5
  rcases tt' with ⟨stop,qn⟩ | ⟨go,step⟩
  ·refine thn (T.done (blk X csc N' s3 (upd H2 D (.lst [])) C fp) rfl rfl rfl hc i [] s5 _ H5 _ I5 (stat fr5) t5 stop) fun r s6 ⟨hr,I6⟩=>?_
   subst hr
   obtain ⟨m6,n6,_⟩:=I6.loc
   have I7:Inv X aA σ H5 s6:=I3.call' (s':=s6) I6.os I6.base I6.hok I6.bare fun b hb=>by
    obtain ⟨g0,g1,g2,g3,g4,g5⟩:=f2 b hb
    exact ⟨g3,g1,g4,g5⟩
   exact hfin D C s6 H5 m6 _ I7 (I3.fpOk (Nat.le_of_eq hCe) I6.free) n6 qn
  ·refine thn (T.item (blk X csc N' s3 (upd H2 D (.lst [])) C fp) rfl rfl rfl hc i [] s5 _ H5 _ I5 (stat fr5) t5 go) fun r s6 ⟨u,hr,h6⟩=>?_
   subst hr
   refine thn h6 fun _ s7 ⟨xv,H6,I6,rx,y6,t6,fr6⟩=>?_
   have I6':=I6.pinned (stat fr6) (T.obj _ _ t6)
   have back:∀{H10:Hp} {s10:Shared} {σ1 σ0:L2.St},σ1=σ0++(js.map fun j=>(σ[j]?).join)→σ0.length=xs.length→Inv (blk X csc N' s3 (upd H2 D (.lst [])) C fp) ([]++Jz fp s7.heap) σ1 H10 s10 →
     Inv (blk X csc N' s3 (upd H2 D (.lst [])) C fp) [] (List.replicate xs.length none++js.map fun j=>(σ[j]?).join) H10 s10∧tn (i+1) s10.heap∧∀b∈fp,H10 b=none:=by
    intro H10 s10 σ1 σ0 e1 e2 I10
    subst e1
    refine ⟨(Inv.unpinned (aA:=[]) I10).weak (by simp [e2]) fun k v hk=>?_,T.keep _ _ _ t6 fun b hb o e=>(I10.pin (b,o) (List.mem_append_right _ (List.mem_append_right _ (Ed hb e)))).1,fun b hb=>?_⟩
    ·by_cases hk':k<xs.length
     ·rw [List.getElem?_append_left (by rw [List.length_replicate];exact hk'),List.getElem?_replicate,if_pos hk'] at hk
      cases hk
     ·rw [List.getElem?_append_right (by rw [List.length_replicate];omega),List.length_replicate] at hk
      rw [List.getElem?_append_right (by omega),e2]
      exact hk
    ·obtain ⟨o,e,d⟩:=T.obj _ _ t6 b hb
     exact (I10.pin (b,o) (List.mem_append_right _ (List.mem_append_right _ (Ed hb e)))).2.1
   have st0:=step xv H6 y6 s3 (upd H2 D (.lst [])) C fp (List.replicate xs.length none) (List.length_replicate ..)
   refine wpAny_mono (hg s3 (upd H2 D (.lst [])) C fp _ s7 _ H6 xv u _ I6' rx st0) (fun _ s8 h8=>?_) (fun _ _ z=>False.elim z)
   obtain ⟨σ1,H8,I8,⟨σ0,e1,e2⟩,q8⟩:=h8
   refine wpAny_mono (ht s3 (upd H2 D (.lst [])) C fp _ s8 σ1 H8 _ I8 q8) (fun ok' s9 h9=>?_) (fun _ _ z=>False.elim z)
   obtain ⟨H9,I9,q9⟩:=h9
   cases ok' with
   | false =>
    have q9':=q9
    rw [if_neg Bool.false_ne_true] at q9'
    obtain ⟨hD9,m',hm',w9⟩:=q9'
    show if false=true then _ else _
    rw [if_neg Bool.false_ne_true]
    obtain ⟨I10,t10,f10⟩:=back e1 e2 I9
    exact ⟨m',hm',i+1,ys,H9,I10,t10,f10,w9⟩
   | true =>
    have q9':=q9
    rw [if_pos rfl] at q9'
    show if true=true then _ else _
    rw [if_pos rfl]
    refine wpAny_mono (he s3 (upd H2 D (.lst [])) C fp _ s9 σ1 H9 _ I9 q9') (fun yv s10 h10=>?_) (fun _ _ z=>False.elim z)
    obtain ⟨y,H10,I10,ry,hD10,hlt,m',hm',w10⟩:=h10
    refine wpAny_mono (Fp (X:=blk X csc N' s3 (upd H2 D (.lst [])) C fp) _ s10 _ H10 (.ref D) [y] (.ref D) [yv] (fun _ H11=>H11=upd H10 D (.lst (ys++[y]))) I10 rfl (.cons ry .nil) ⟨D,ys,y,rfl,rfl,hD10,hlt,rfl⟩) (fun v11 s11 h11=>?_) (fun _ _ z=>False.elim z)
    obtain ⟨v12,H12,I12,r12,e12⟩:=h11
    subst e12
    obtain ⟨J1,J2,J3⟩:=back e1 e2 I12
    exact ⟨m',hm',i+1,ys++[y],_,J1,J2,J3,w10⟩
 have tn4:tn 0 h4:=T.keep 0 _ _ tn3 fun b _ o e=>keep4 b o e
 exact codeAny_compStart_list (loop _ I4 tn4) (T.self X.A 0 _ _ _ tn4 (loop _ I4 tn4))
theorem Us{X:Cx}{csc:Scope}{N':List Str}{s₀:Shared}{H₀:Hp}{C:Addr}{ex:List Addr}{i:Nat}{x:Str}{px:Pos}(nd:N'.Nodup)(hi:N'[i]?=some x)(hl:csc.names.lookup x=some .local):PG (blk X csc N' s₀ H₀ C ex) (.Name x px) (Iw i) :=
 CZ (X:=blk X csc N' s₀ H₀ C ex) nd hi (.inl (by
  show (relabel csc X.env).names.lookup x=some .local
  rw [Cw hl]
  rfl)) (.inr (by
  show (relabel csc X.env).names.lookup x=some .local
  rw [Cw hl]
  rfl))
theorem ZP{X:Cx}{tg iter:Expr}{wi:TI}(h:PI X tg iter wi):PI X tg iter (fun σ H R=>∃R':It→Hp→Prop,wi σ H R'∧∀J H1,R' J H1→R J H1):=by
 intro aA s σ H R I hw
 obtain ⟨R',hw,hm⟩:=hw
 refine thn (h aA s σ H R' I hw) fun v s1 h1=>thn h1 fun itv s2 h2=>?_
 obtain ⟨it,fp,tn,J,H2,e,I2,T,st2,f2,hr⟩:=h2
 exact ⟨it,fp,tn,J,H2,e,I2,T,st2,f2,hm J H2 hr⟩
theorem Oh{X:Cx}{elt iter:Expr}{x:Str}{px pos pos':Pos}{csc:Scope}{wi:TI}{te:Shared→Hp→Addr→List Addr→TE}(js:List Nat){N':List Str}{fsc:Scope}{N:List Str}(ok:S9 fsc csc x js N N')(hi:PI X (.Name x px) iter wi)
  (he:∀s₀ H₀ C ex,PE (blk X csc N' s₀ H₀ C ex) elt (te s₀ H₀ C ex)) (hc:X.calm=true) (hsc:X.env.scope=fsc) (hXN:X.N=N) (hs:∀x,foldedSetIterable iter X.env x=pure x)
  (use:Option (Value→Sem Unit)) (R:Value→Shared→Prop) {aA:List (Addr×Obj)} {s:Shared} {σ:L2.St} {H:Hp} {Q:VK} (I:Inv X aA σ H s) (h:Xw wi te js σ H Q)
  (hfin:∀(D C:Addr) (s6:Shared) (H5:Hp) (m6:Str→Option Value) (r:Flow),Inv X aA σ H5 s6→Gv X aA H5 C→s6.heap.Ns C m6→Q (.ref D) H5→compPost (model X.prog X.w) X.A X.xe use R (.ref D) C (.ok r) s6) :
  wpAny (model X.prog X.w) X.A (comprehension (.ListComp elt [⟨.Name x px,iter,[],0⟩] csc pos) csc X.env pos' (newList []) false (eval iter X.env) use) R X.xe s:=by
 have ej:(js.map fun j=>N.getD j x)=js.map fun j=>N.getD j "":=List.map_congr_left fun j hj=>by
  have:=(ok.js j hj).1
  rw [List.getD_eq_getElem?_getD,List.getD_eq_getElem?_getD,List.getElem?_eq_getElem this]
  rfl
 have ok':Jl fsc csc [x] js N N':=⟨by rw [ok.eqN,ej];rfl,ok.fr,ok.cell,ok.kind,ok.nm,fun j hj=>by
  have:=ok.js j hj
  have e:N.getD j x=N.getD j "":=by rw [List.getD_eq_getElem?_getD,List.getD_eq_getElem?_getD,List.getElem?_eq_getElem this.1];rfl
  rw [e] at this
  exact this⟩
 refine Mf (ifs:=[]) (tg:=Iw 0) (tt:=fun _ _ _ _=>LR) (te:=te) [x] js ok' (ZP hi) (fun s₀ H₀ C ex=>Us ok.nd (by rw [ok.eqN];rfl) ok.xl) (fun _ _ _ _=>QZ) he hc hsc hXN hs use R I ?_ hfin
 refine ⟨_,h,fun J H1 hw D hD=>?_⟩
 obtain ⟨W,w0,turn⟩:=hw D hD
 refine ⟨W,w0,fun i m ys H2 w=>?_⟩
 obtain ⟨e,t⟩:=turn i m ys H2 w
 refine ⟨e,t.imp id fun ⟨go,y⟩=>⟨go,fun v H' yl s₀ H₀ C ex σ0 h0=>?_⟩⟩
 obtain ⟨o,rfl⟩:∃o,σ0=[o]:=by
  match σ0,h0 with
  | [o],_=>exact ⟨o,rfl⟩
 exact ⟨⟨[some v],rfl,rfl⟩,y v H' yl s₀ H₀ C ex⟩
theorem IW{X:Cx}{elt iter:Expr}{x:Str}{px pos:Pos}{csc:Scope}{wi:TI}{te:Shared→Hp→Addr→List Addr→TE}(js:List Nat){N':List Str}{fsc:Scope}{N:List Str}(ok:S9 fsc csc x js N N')(hi:PI X (.Name x px) iter wi)
  (he:∀s₀ H₀ C ex,PE (blk X csc N' s₀ H₀ C ex) elt (te s₀ H₀ C ex)) (hc:X.calm=true:=by rfl) (hsc:X.env.scope=fsc:=by rfl) (hXN:X.N=N:=by rfl) (hs:∀x,foldedSetIterable iter X.env x=pure x:=by intro _;rfl) :
  PE X (.ListComp elt [⟨.Name x px,iter,[],0⟩] csc pos) (Xw wi te js):=by
 intro aA s σ H Q I h
 rw [eval_ListComp]
 exact Oh js ok hi he hc hsc hXN hs none _ I h fun D C s6 H5 m6 _ I6 f6 n6 q=>⟨m6,n6,fun h7 sb=>⟨.ref D,H5,La I6 f6 sb,rfl,q⟩⟩
theorem HQ{X:Cx}{elt iter:Expr}{x y:Str}{px py pos spos:Pos}{i:Nat}{csc:Scope}{wi:TI}{te:Shared→Hp→Addr→List Addr→TE}(hN:X.N.Nodup)(hi':X.N[i]?=some y)(hy:Loc X.env.scope y)
  (js:List Nat) {N':List Str} {fsc:Scope} {N:List Str} (ok:S9 fsc csc x js N N') (hi:PI X (.Name x px) iter wi)
  (he:∀s₀ H₀ C ex,PE (blk X csc N' s₀ H₀ C ex) elt (te s₀ H₀ C ex)) (hsw:swapsWith (.ListComp elt [⟨.Name x px,iter,[],0⟩] csc pos) (some (.Name y py)) spos.line X.env=pure true:=by rfl)
  (hc:X.calm=true:=by rfl) (hsc:X.env.scope=fsc:=by rfl) (hXN:X.N=N:=by rfl) (hs:∀x,foldedSetIterable iter X.env x=pure x:=by intro _;rfl)
  (hf:X.fn y=true∨X.env.scope.names.lookup y=some .local:=by first | exact .inl rfl | exact .inr rfl | assumption) :
  PS X (.Assign [.Name y py] (.ListComp elt [⟨.Name x px,iter,[],0⟩] csc pos) spos) (ZM (Xw wi te js) (Iw i)):=by
 intro aA s σ H D I h
 rw [exec_Assign_Name_used _ _ _ _ hsw]
 refine wpAny_bind (wpAny_standAt (wpAny_bind ?_))
 show wpAny _ X.A (do let _ ←comprehension (.ListComp elt [⟨.Name x px,iter,[],0⟩] csc pos) csc X.env _ (newList []) false (eval iter X.env) (some (assign (.Name y py) X.env))) _ _ s
 refine wpAny_bind (wpAny_mono (Oh js ok hi he hc hsc hXN hs (some (assign (.Name y py) X.env)) (fun _ s'=>SP X aA D .next s') I h ?_) (fun _ s' hq=>wpAny_pure (wpAny_pure hq)) fun _ _ e=>e)
 intro D' C s6 H5 m6 r I6 f6 n6 q
 show wpAny _ X.A (assign (.Name y py) X.env (.ref D')) _ _ _
 obtain ⟨o6,es,ep,ho,hd,hrest⟩:=id n6
 have Ip:=I6.pinned (fp:=[C]) (fun b hb=>by
  have e:b=C:=by simpa using hb
  subst e
  exact f6) (fun b hb=>by
  have e:b=C:=by simpa using hb
  subst e
  exact ⟨o6,ho,fun v z=>by rw [hd] at z;cases z⟩)
 refine wpAny_assign_Name (Hw (i:=i) Ip hN hi' hy (v:=.ref D') rfl (fun s7 I7=>?_) hf)
 refine ⟨m6,n6.at fun o e=>(I7.pin (C,o) (List.mem_append_right _ (List.mem_append_right _ (Ed List.mem_cons_self e)))).1,fun h7 sb=>?_⟩
 exact ⟨_,H5,La I7.unpinned f6 sb,q⟩
end L3
namespace L3
open PySem PySem.Spec PyProof.Rows L2 Ra
theorem YZ{X:Cx}{elt iter target:Expr}{ifs:List Expr}{pos:Pos}{csc:Scope}{wi:TI}{tg:TG}{tt:Shared→Hp→Addr→List Addr→TT}{te:Shared→Hp→Addr→List Addr→TE}(xs:List Str)(js:List Nat){N':List Str}{fsc:Scope}{N:List Str}(ok:Jl fsc csc xs js N N')(hi:PI X target iter wi)(hg:∀s₀ H₀ C ex,PG (blk X csc N' s₀ H₀ C ex) target tg)(ht:∀s₀ H₀ C ex,PTs (blk X csc N' s₀ H₀ C ex) ifs (tt s₀ H₀ C ex))
  (he:∀s₀ H₀ C ex,PE (blk X csc N' s₀ H₀ C ex) elt (te s₀ H₀ C ex)) (hc:X.calm=true:=by rfl) (hsc:X.env.scope=fsc:=by rfl) (hXN:X.N=N:=by rfl) (hs:∀x,foldedSetIterable iter X.env x=pure x:=by intro _;rfl) :
  PE X (.ListComp elt [⟨target,iter,ifs,0⟩] csc pos) (Q4 wi tg tt te xs.length js):=by
 intro aA s σ H Q I h
 rw [eval_ListComp]
 exact Mf xs js ok hi hg ht he hc hsc hXN hs none _ I h fun D C s6 H5 m6 _ I6 f6 n6 q=>⟨m6,n6,fun h7 sb=>⟨.ref D,H5,La I6 f6 sb,rfl,q⟩⟩
theorem Va{X:Cx}{csc:Scope}{N':List Str}{s₀:Shared}{H₀:Hp}{C:Addr}{ex:List Addr}{i j:Nat}{x y:Str}{px py pt:Pos}{k}(hc:X.calm=true)(nd:N'.Nodup)(hi:N'[i]?=some x)(hl:csc.names.lookup x=some .local)(hj:N'[j]?=some y)(hl2:csc.names.lookup y=some .local) :
  PG (blk X csc N' s₀ H₀ C ex) (.Tuple [.Name x px,.Name y py] k pt) (ABg X.K 2 (R0 (Iw i) (R0 (Iw j) ABu))) :=
 MP (X:=blk X csc N' s₀ H₀ C ex) hc (CT (Us nd hi hl) (CT (Us nd hj hl2) Ie))
end L3
namespace L3
open PySem PySem.Spec PyProof.Rows L2 Ra
mutual
inductive Dv(H:Hp):V→PyData→Prop
 | non:Dv H .non .none
 | bl (b:Bool):Dv H (.bl b) (.bool b)
 | int (i:Int):Dv H (.int i) (.int i)
 | str (x:Str) (ok:(PyData.str x).canLay0=true):Dv H (.str x) (.str x)
 | lst {a:Addr} {xs:List V} {ds:List PyData}:H a=some (.lst xs)→DvAll H xs ds→Dv H (.ref a) (.list ds)
 | tup {a:Addr} {xs:List V} {ds:List PyData}:H a=some (.tup xs)→DvAll H xs ds→Dv H (.ref a) (.tuple ds)
inductive DvAll(H:Hp):List V→List PyData→Prop
 | nil:DvAll H [] []
 | cons {v:V} {vs:List V} {d:PyData} {ds:List PyData}:Dv H v d→DvAll H vs ds→DvAll H (v::vs) (d::ds)
end
mutual
theorem Dv.keep{H H':Hp}(s:Aj H H'):∀{v:V} {d:PyData},Dv H v d→Dv H' v d
 | _,_,.non=>.non
 | _,_,.bl b=>.bl b
 | _,_,.int i=>.int i
 | _,_,.str x ok=>.str x ok
 | _,_,.lst h r=>.lst (s _ _ h) (DvAll.keep s r)
 | _,_,.tup h r=>.tup (s _ _ h) (DvAll.keep s r)
theorem DvAll.keep{H H':Hp}(s:Aj H H'):∀{vs:List V} {ds:List PyData},DvAll H vs ds→DvAll H' vs ds
 | _,_,.nil=>.nil
 | _,_,.cons h r=>.cons (Dv.keep s h) (DvAll.keep s r)
end
mutual
theorem Dv.can{H:Hp}:∀{v:V} {d:PyData},Dv H v d→d.canLay0=true
 | _,_,.non=>rfl
 | _,_,.bl _=>rfl
 | _,_,.int _=>rfl
 | _,_,.str _ ok=>ok
 | _,_,.lst _ r=>by rw [PyData.canLay0];exact DvAll.can r
 | _,_,.tup _ r=>by rw [PyData.canLay0];exact DvAll.can r
theorem DvAll.can{H:Hp}:∀{vs:List V} {ds:List PyData},DvAll H vs ds→PyData.canLayAll0 ds=true
 | _,_,.nil=>rfl
 | _,_,.cons h r=>by rw [PyData.canLayAll0,Dv.can h,DvAll.can r];rfl
end
section
variable {X:Cx}{aA:List (Addr×Obj)}{σ:L2.St}{H:Hp}{s:Shared}
mutual
theorem Dv.reads(I:Inv X aA σ H s):∀{v:V} {d:PyData} {u:Value},Dv H v d→Bb v u→∃as,Reads s.heap u d as
 | _,_,_,.non,r=>by cases r;exact ⟨_,.none⟩
 | _,_,_,.bl b,r=>by cases r;exact ⟨_,.bool b⟩
 | _,_,_,.int i,r=>by obtain ⟨t,rfl⟩:=r;exact ⟨_,.int i t⟩
 | _,_,_,.str x _,r=>by obtain ⟨t,rfl⟩:=r;exact ⟨_,.str x t⟩
 | _,_,_,.lst h q,r=>by
  cases r
  obtain ⟨its,rv,p,_⟩:=I.list (SqL.of h)
  obtain ⟨o,e,hc,n,hd⟩:=p.isList
  obtain ⟨as,ra⟩:=DvAll.reads I q rv
  exact ⟨_,.list e hc hd ra⟩
 | _,_,_,.tup h q,r=>by
  cases r
  obtain ⟨its,rv,p,_⟩:=I.tuple (SqT.of h)
  obtain ⟨o,e,hc,n,hd⟩:=p
  obtain ⟨as,ra⟩:=DvAll.reads I q rv
  exact ⟨_,.tuple e hc hd ra⟩
theorem DvAll.reads(I:Inv X aA σ H s):∀{vs:List V} {ds:List PyData} {us:List Value},DvAll H vs ds→BW vs us→∃as,ReadsAll s.heap us ds as
 | _,_,_,.nil,.nil=>⟨_,.nil⟩
 | _,_,_,.cons h q,.cons r rs=>by
  obtain ⟨as,ra⟩:=Dv.reads I h r
  obtain ⟨bs,rb⟩:=DvAll.reads I q rs
  exact ⟨_,.cons ra rb⟩
end
end
def AKH(c:Bool→Bool):R2:=fun x y H Q=>∃dx dy,Dv H x dx∧Dv H y dy∧dx.depth≤60∧Q (.bl (c (PyData.eqv dx dy))) H
theorem Kq{α β:Type}{F:α→β→Prop}:∀{xs:List α} {ys:List β} {x:α},Paired F xs ys→x∈xs→∃y,y∈ys∧F x y
 | _,_,_,.nil,h=>by simp at h
 | _,_,_,.cons a r,h=>by
  rcases List.mem_cons.mp h with e | e
  ·exact ⟨_,List.mem_cons_self,by rw [e];exact a⟩
  ·obtain ⟨y,hy,q⟩:=Kq r e
   exact ⟨y,List.mem_cons_of_mem _ hy,q⟩
def Pq(H:Hp)(p:Addr)(q:Rat):Prop:=Pr H p q.num q.den
theorem Pq.keep{H H':Hp}{p:Addr}{q:Rat}(h:Pq H p q)(s:Aj H H'):Pq H' p q:=s _ _ h
theorem Pq.sq{K:PySem.W.Frag}{H:Hp}{p:Addr}{q:Rat}(h:Pq H p q):SqT K H p [.int q.num,.int q.den]:=SqT.of h
theorem Pq.of{H:Hp}{p:Addr}{x y:Int}{q:Rat}(h:Pr H p x y)(e:q.num=x∧(q.den:Int)=y):Pq H p q:=by
 unfold Pq
 rw [e.1,e.2]
 exact h
abbrev Pqs(H:Hp):List Addr→List Rat→Prop:=Paired (Pq H)
theorem Pqs.keep{H H':Hp}{ps:List Addr}{qs:List Rat}(h:Pqs H ps qs)(s:Aj H H'):Pqs H' ps qs:=Paired.imp' (fun _ _ z=>z.keep s) h
def Rw(H:Hp)(a:Addr)(qs:List Rat):Prop:=∃ps:List Addr,H a=some (.lst (ps.map V.ref))∧Pqs H ps qs
theorem Rw.keep{H H':Hp}{a:Addr}{qs:List Rat}(h:Rw H a qs)(s:Aj H H'):Rw H' a qs:=by
 obtain ⟨ps,h1,h2⟩:=h
 exact ⟨ps,s _ _ h1,h2.keep s⟩
theorem Pqs.get:∀{H:Hp} {ps:List Addr} {qs:List Rat} {i:Nat} {q:Rat},Pqs H ps qs→qs[i]?=some q→∃p,(ps.map V.ref)[i]?=some (.ref p)∧Pq H p q
 | _,_,_,0,_,.cons h _,e=>by cases e;exact ⟨_,rfl,h⟩
 | _,_,_,_+1,_,.cons _ r,e=>by
  rw [List.getElem?_cons_succ] at e
  obtain ⟨p,h1,h2⟩:=Pqs.get r e
  exact ⟨p,by rw [List.map_cons,List.getElem?_cons_succ];exact h1,h2⟩
theorem Pqs.take:∀{H:Hp} {ps:List Addr} {qs:List Rat} (n:Nat),Pqs H ps qs→Pqs H (ps.take n) (qs.take n)
 | _,_,_,0,_=>.nil
 | _,_,_,_+1,.nil=>.nil
 | _,_,_,n+1,.cons h r=>.cons h (Pqs.take n r)
theorem Pqs.drop:∀{H:Hp} {ps:List Addr} {qs:List Rat} (n:Nat),Pqs H ps qs→Pqs H (ps.drop n) (qs.drop n)
 | _,_,_,0,h=>h
 | _,_,_,_+1,.nil=>.nil
 | _,_,_,n+1,.cons _ r=>Pqs.drop n r
theorem Pqs.append:∀{H:Hp} {ps rs:List Addr} {qs ts:List Rat},Pqs H ps qs→Pqs H rs ts→Pqs H (ps++rs) (qs++ts)
 | _,_,_,_,_,.nil,k=>k
 | _,_,_,_,_,.cons h r,k=>.cons h (Pqs.append r k)
theorem Pqs.length{H:Hp}{ps:List Addr}{qs:List Rat}(h:Pqs H ps qs):ps.length=qs.length:=Paired.length h
theorem Pqs.set:∀{H:Hp} {ps:List Addr} {qs:List Rat} (n:Nat) {p:Addr} {q:Rat},Pqs H ps qs→Pq H p q→Pqs H (ps.set n p) (qs.set n q)
 | _,_,_,_,_,_,.nil,_=>.nil
 | _,_,_,0,_,_,.cons _ r,k=>.cons k r
 | _,_,_,n+1,_,_,.cons h r,k=>.cons h (Pqs.set n r k)
def dq(q:Rat):PyData:=.tuple [.int q.num,.int q.den]
def dr(qs:List Rat):PyData:=.list (qs.map dq)
theorem Pq.dv{H:Hp}{p:Addr}{q:Rat}(h:Pq H p q):Dv H (.ref p) (dq q):=.tup h (.cons (.int _) (.cons (.int _) .nil))
theorem Rw.updO{H:Hp}{a b:Addr}{xs ys:List V}{qs:List Rat}(h:Rw H b qs)(ha:H a=some (.lst xs))(n:b≠a):Rw (upd H a (.lst ys)) b qs:=by
 obtain ⟨ps,h1,h2⟩:=h
 exact ⟨ps,by rw [Ai n];exact h1,Paired.imp' (fun p q z=>by
  have z':H p=some (.tup [.int q.num,.int q.den]):=z
  show upd H a (.lst ys) p=_
  rw [Ai (GZ z' ha (by intro w;cases w))]
  exact z') h2⟩
theorem Rw.lt{H:Hp}{a:Addr}{qs:List Rat}(h:Rw H a qs):∃xs,H a=some (.lst xs)∧xs.length=qs.length:=by
 obtain ⟨ps,h1,h2⟩:=h
 exact ⟨_,h1,by rw [List.length_map,h2.length]⟩
theorem Rw.app{H H2:Hp}{D p:Addr}{qs:List Rat}{q:Rat}(h:Rw H D qs)(s:Aj H H2)(kp:Pq H2 p q) :
  ∃xs,H2 D=some (.lst xs)∧xs.length=qs.length∧Rw (upd H2 D (.lst (xs++[.ref p]))) D (qs++[q]):=by
 obtain ⟨ps,h1,h2⟩:=h.keep s
 refine ⟨_,h1,by rw [List.length_map,h2.length],ps++[p],by rw [Ad];simp,?_⟩
 have up:∀p q,Pq H2 p q→Pq (upd H2 D (.lst (ps.map V.ref++[.ref p]))) p q:=fun p q z=>by
  have z':H2 p=some (.tup [.int q.num,.int q.den]):=z
  show upd H2 D _ p=_
  rw [Ai (GZ z' h1 (by intro w;cases w))]
  exact z'
 have up2:∀r t,Pq H2 r t→Pq (upd H2 D (.lst (ps.map V.ref++[.ref p]))) r t:=fun r t z=>by
  have z':H2 r=some (.tup [.int t.num,.int t.den]):=z
  show upd H2 D _ r=_
  rw [Ai (GZ z' h1 (by intro w;cases w))]
  exact z'
 exact Pqs.append (Paired.imp' up2 h2) (.cons (up2 _ _ kp) .nil)
theorem AFn{α:Type}{xs:List α}{j:Nat}{v:α}(h:xs[j]?=some v):atI xs (0+(j:Int))=some v:=by
 rw [Int.zero_add]
 exact Dr h
theorem Sd(K:PySem.W.Frag):PySem.W.kitOne K (.type "list") (.type "list")=some true:=rfl
def drr(rss:List (List Rat)):PyData:=.list (rss.map dr)
def Sx(S:List Addr)(H H':Hp):Prop:=∀b o,b∉S→H b=some o→H' b=some o
theorem Rw.copy{H:Hp}{a c:Addr}{qs:List Rat}{xs:List V}(h:Rw H a qs)(e:H a=some (.lst xs))(n:H c=none):Rw (upd H c (.lst xs)) c qs:=by
 obtain ⟨ps,e1,e2⟩:=h
 rw [e] at e1
 have e3:xs=ps.map V.ref:=by
  have:=Option.some.inj e1
  injection this
 exact ⟨ps,by rw [Ad,e3],e2.keep (Ag n _)⟩
theorem Rw.there{H:Hp}{a:Addr}{qs:List Rat}(h:Rw H a qs):∃xs,H a=some (.lst xs)∧xs.length=qs.length:=h.lt
theorem ABJ{α:Type}(f:α→V)(ps:List α)(k:Nat):Cj (ps.map f) none (some (k:Int))=(ps.take k).map f:=by
 unfold Cj
 rw [HT.sIx_none,HT.sIx_nat,List.length_map,List.drop_zero,Nat.sub_zero,List.map_take]
 by_cases h:k≤ps.length
 ·rw [Nat.min_eq_left h]
 ·rw [Nat.min_eq_right (by omega),List.take_of_length_le (by rw [List.length_map];omega),List.take_of_length_le (by rw [List.length_map];omega)]
theorem NK{α:Type}(f:α→V)(ps:List α)(k:Nat):Cj (ps.map f) (some (k:Int)) none=(ps.drop k).map f:=by
 unfold Cj
 rw [HT.sIx_none,HT.sIx_nat,List.length_map,List.map_drop]
 by_cases h:k≤ps.length
 ·rw [Nat.min_eq_left h,List.take_of_length_le (by rw [List.length_drop,List.length_map];omega)]
 ·rw [Nat.min_eq_right (by omega),List.drop_eq_nil_of_le (by rw [List.length_map];omega),List.drop_eq_nil_of_le (by rw [List.length_map];omega)]
  simp
end L3
namespace L3
open PySem PySem.Spec PyProof.Rows L2 Ra
def Itv(K:PySem.W.Frag)(a:Addr)(n:Nat):It :=
 ⟨fun i H=>i<n∧∃xs x,SqL K H a xs∧xs[n-1-i]?=some x,fun i H x H'=>H'=H∧∀xs,SqL K H a xs→xs[n-1-i]?=some x,fun i _=>i=n⟩
theorem X4{P:Program}{w:World}{K:PySem.W.Frag}{tg:Expr}(a it:Addr)(n:Nat):Turn P w K tg (Itv K a n) [it] it (fun i h=>h.IsRevIter it a ((n:Int)-1-(i:Int))) where
 mem:=by simp
 obj:=fun i h st b hb=>by
  have e:b=it:=by simpa using hb
  subst e
  obtain ⟨o,e,c,d⟩:=st
  exact ⟨o,e,fun v z=>by rw [d] at z;cases z⟩
 keep:=fun i h h' st k=>st.at fun o e=>k it (by simp) o e
 item:=by
  intro X hP hw hK hc i aA s σ H E I hf st hg
  subst hP hw hK
  obtain ⟨hi,xs,x,hq,hx⟩:=hg
  obtain ⟨its,rv,p,hz⟩:=I.list hq
  obtain ⟨u,hu,ru⟩:=rv.get hx
  obtain ⟨f0,f1,f2,f3,f4,f5⟩:=hf it (by simp)
  have e:(n:Int)-1-(i:Int)=((n-1-i:Nat):Int):=by omega
  rw [e] at st
  refine wpAny_pyNext_rev_item st p.isList (x:=u) (by simpa using hu) fun h' st' sb=>?_
  have e2:((n-1-i:Nat):Int)-1=(n:Int)-1-((i+1:Nat):Int):=by omega
  rw [e2] at st'
  have I1:Inv X aA σ H { s with heap:=h' }:=I.turned (t':=s.toks) (fun b o hb e=>(sb.2 b hb).trans e) f0 f1 f3 f4 f5
  obtain ⟨o,e,c,d⟩:=id st'
  exact ⟨u,rfl,Vh (s:={ s with heap:=h' }) e c d (by decide) ⟨x,H,I1,ru,⟨rfl,fun ys hy=>by rw [I.list_inj hy hq];exact hx⟩,st',fun b hb=>(hf b hb).1⟩⟩
 done:=by
  intro X hP hw hK hc i aA s σ H E I hf st hg
  subst hP hw hK
  have hi:i=n:=hg
  subst hi
  obtain ⟨f0,f1,f2,f3,f4,f5⟩:=hf it (by simp)
  have e:(i:Int)-1-(i:Int)=-1:=by omega
  rw [e] at st
  exact wpAny_pyNext_rev_end (I.ok.hd hc) st fun h' eb=>⟨rfl,I.turned (t':=s.toks) (fun b o hb e=>eb b o hb e) f0 f1 f3 f4 f5⟩
 self:=fun _ _ _ _ _ st h=>wpAny_pyIter_revIter st h
def AIr(K:PySem.W.Frag)(ta:TA):TI:=fun σ H R=>ta σ H fun vs H1=>∃a xs,vs=[.ref a]∧SqL K H1 a xs∧R (Itv K a xs.length) H1
theorem Xk{X:Cx}{tg:Expr}{a:Expr}{ta:TA}{p pos:Pos}(hg:Gl X "reversed")(hm:X.mg "reversed"=none)(ha:PA X [a] ta)(hs:starEach [a] X.env=[(false,eval a X.env)]:=by rfl):PI X tg (.Call (.Name "reversed" p) [a] [] pos) (AIr X.K ta):=by
 intro aA s σ H R I h
 refine Call_ (HR I hg hm boot_reversed (PyProof.Rows.callWith_type1 (thn (ha pos aA s σ H _ I h) fun us s1 ⟨vs,H1,I1,r1,q1⟩=>?_) hs rfl))
 obtain ⟨l,xs,e,hq,q⟩:=q1
 subst e
 cases r1 with
 | cons r rr =>
  cases rr
  cases r
  obtain ⟨its,rv,pl,hz⟩:=I1.list hq
  have hl:=rv.length
  refine call_reversed_list pl.isList ?_
  have e1:((its.toArray.size:Nat):Int)-1=(xs.length:Int)-1:=by rw [List.size_toArray,←hl]
  rw [e1]
  have I2:Inv X aA σ H1 { s1 with heap:=s1.heap.push (revObj l ((xs.length:Int)-1)) }:=I1.kept (t':=s1.toks) fun b o e=>Heap.get?_push_of_some _ e
  have st:(s1.heap.push (revObj l ((xs.length:Int)-1))).IsRevIter s1.heap.objs.size l ((xs.length:Int)-1):=⟨_,Heap.get?_push_size _ rfl,rfl,rfl⟩
  refine wpAny_pyIter_revIter st ?_
  refine ⟨s1.heap.objs.size,[s1.heap.objs.size],_,_,H1,rfl,I2,X4 l _ xs.length,by simpa using st,fun b hb=>?_,q⟩
  have e:b=s1.heap.objs.size:=by simpa using hb
  subst e
  exact I1.fpOk (Nat.le_refl _) (I1.hok.fresh (Nat.le_refl _))
def AH1(t:TS):TS:=fun D σ H=>∃Mid:L2.St→Hp→Prop,(∀σ' H',Mid σ' H'→D.nx σ' H')∧t { D with nx:=Mid } σ H
theorem AB1{X:Cx}{st:Stmt}{t:TS}(h:PS X st t):PS X st (AH1 t):=by
 intro aA s σ H D I hw
 obtain ⟨Mid,hm,hw⟩:=hw
 refine thn (h aA s σ H _ I hw) fun f s1 q=>?_
 cases f with
 | next =>
  obtain ⟨σ',H',I',q⟩:=q
  exact ⟨σ',H',I',hm _ _ q⟩
 | ret v=>exact q
 | brk=>exact q
 | cont=>exact q
theorem Pq.updL{H:Hp}{D p:Addr}{xs ys:List V}{q:Rat}(h:H D=some (.lst xs))(k:Pq H p q):Pq (upd H D (.lst ys)) p q:=by
 unfold Pq Pr
 rw [Ai (GZ k h (by intro z;cases z))]
 exact k
theorem Pqs.updL{H:Hp}{D:Addr}{xs ys:List V}{ps:List Addr}{qs:List Rat}(h:H D=some (.lst xs))(k:Pqs H ps qs):Pqs (upd H D (.lst ys)) ps qs:=Paired.imp' (fun _ _ z=>z.updL h) k
theorem CK{H1 H:Hp}{D:Addr}(s:Aj H1 H)(hD:H1 D=none)(o:HO):Aj H1 (upd H D o):=fun b u q=>by rw [Ai (Av q hD)];exact s b u q
end L3
namespace L3
open PySem PySem.Spec PyProof.Rows L2 Ra Rq
theorem Nj{z:List Nat}{te:Shared→Hp→Addr→List Addr→TE}{js:List Nat}{σ:L2.St}{H1:Hp}{Q:VK}(hn:z.length≤100000)(f:Nat→Bool)
  (hs:∀s₀ H₀ C ex c H (R:VK),c∈z→Aj H1 H→R (.bl (f c)) H→te s₀ H₀ C ex (some (.str (sx [c]))::js.map fun j=>(σ[j]?).join) H R)
  (hd:∀H D,Aj H1 H→H1 D=none→H D=some (.lst ((z.map f).map V.bl))→Q (.ref D) H):JL (Its (sx z)) te js σ Q H1:=by
 intro D hD
 have hsz:(sx z).cps.size=z.length:=BX z
 refine ⟨fun i m ys H=>m=z.length-i∧i≤z.length∧ys=((z.take i).map f).map V.bl∧Aj H1 H∧H D=some (.lst ys),⟨z.length,by simp,Nat.zero_le _,rfl,Ag hD _,Ad⟩,?_⟩
 rintro i m ys H ⟨rfl,hi,rfl,sm,hDl⟩
 refine ⟨hDl,?_⟩
 by_cases hlt:i<z.length
 ·have eq:z[i]?=some z[i]:=List.getElem?_eq_getElem hlt
  refine .inr ⟨(by show i<(sx z).cps.size;omega),fun x H' y s₀ H₀ C ex=>?_⟩
  obtain ⟨e,c,hc,hx⟩:=y
  subst e hx
  have hc':z[i]?=some c:=by
   have:(sx z).cps[i]?=z[i]?:=by simp [sx]
   rw [←this]
   exact hc
  rw [eq] at hc'
  cases hc'
  refine hs s₀ H₀ C ex _ H' _ (List.getElem_mem hlt) sm ?_
  have hz:(100000:Nat)<sizeLine:=by decide
  refine ⟨hDl,by rw [List.length_map,List.length_map,List.length_take];omega,z.length-(i+1),by omega,rfl,hlt,?_,CK sm hD _,Ad⟩
  rw [List.take_succ,eq,List.map_append,List.map_append]
  rfl
 ·have e:i=z.length:=by omega
  subst e
  rw [List.take_length] at hDl
  exact .inl ⟨(by show (sx z).cps.size≤_;omega),hd H D sm hD hDl⟩
theorem NT{K:PySem.W.Frag}{a:Addr}{qs:List Rat}{te:Shared→Hp→Addr→List Addr→TE}{js:List Nat}{σ:L2.St}{H1:Hp}{Q:VK}(hn:qs.length≤100000)(g:Rat→Str)(ha:H1 a=some (.lst ((qs.map g).map V.str)))
  (hs:∀s₀ H₀ C ex q H (R:VK),q∈qs→Aj H1 H→(∀p' H2,Aj H H2→Pq H2 p' q→R (.ref p') H2)→te s₀ H₀ C ex (some (.str (g q))::js.map fun j=>(σ[j]?).join) H R)
  (hd:∀H D,Aj H1 H→H1 D=none→Rw H D qs→Q (.ref D) H):JL (Itl K a) te js σ Q H1:=by
 intro D hD
 refine ⟨fun i m ys H=>m=qs.length-i∧i≤qs.length∧(∃ps,ys=ps.map V.ref∧Pqs H ps (qs.take i))∧Aj H1 H∧H D=some (.lst ys),⟨qs.length,by simp,Nat.zero_le _,⟨[],rfl,.nil⟩,Ag hD _,Ad⟩,?_⟩
 rintro i m ys H ⟨rfl,hi,⟨ps,rfl,hp⟩,sm,hDl⟩
 refine ⟨hDl,?_⟩
 have hr:=sm _ _ ha
 by_cases hlt:i<qs.length
 ·have eq:qs[i]?=some qs[i]:=List.getElem?_eq_getElem hlt
  have h0:((qs.map g).map V.str)[i]?=some (.str (g qs[i])):=by rw [List.getElem?_map,List.getElem?_map,eq];rfl
  refine .inr ⟨⟨_,_,SqL.of hr,h0⟩,fun x H' y s₀ H₀ C ex=>?_⟩
  obtain ⟨e,y⟩:=y
  subst e
  have ex':=y _ (SqL.of hr)
  rw [h0] at ex'
  cases ex'
  refine hs s₀ H₀ C ex _ H' _ (List.getElem_mem hlt) sm fun p H2 s2 kp=>?_
  have h2:=s2 _ _ hDl
  have hp2:=hp.keep s2
  have hl:=hp.length
  rw [List.length_take] at hl
  have hz:(100000:Nat)<sizeLine:=by decide
  refine ⟨h2,by rw [List.length_map];omega,qs.length-(i+1),by omega,rfl,hlt,⟨ps++[p],by simp,?_⟩,CK (sm.trans s2) hD _,Ad⟩
  rw [List.take_succ,eq]
  exact (hp2.updL h2).append (.cons (kp.updL h2) .nil)
 ·have e:i=qs.length:=by omega
  subst e
  rw [List.take_length] at hp
  exact .inl ⟨⟨_,SqL.of hr,by rw [List.length_map,List.length_map];omega⟩,hd H D sm hD ⟨ps,hDl,hp⟩⟩
end L3
namespace L3
open PySem PySem.Spec PyProof.Rows L2 Ra
def Tq(H:Hp)(r:Addr)(x:Rat×Rat):Prop:=∃p q,H r=some (.tup [.ref p,.ref q])∧Pq H p x.1∧Pq H q x.2
abbrev Tqs(H:Hp):List Addr→List (Rat×Rat)→Prop:=Paired (Tq H)
theorem M5{α β:Type}{F:α→β→Prop}:∀{xs:List α} {ys:List β} {i:Nat} {y:β},Paired F xs ys→ys[i]?=some y→∃x,xs[i]?=some x∧F x y
 | _,_,0,_,.cons h _,e=>by cases e;exact ⟨_,rfl,h⟩
 | _,_,_+1,_,.cons _ r,e=>by
  rw [List.getElem?_cons_succ] at e
  obtain ⟨x,h1,h2⟩:=M5 r e
  exact ⟨x,by rw [List.getElem?_cons_succ];exact h1,h2⟩
def Rp(H:Hp)(a:Addr)(qs:List (Rat×Rat)):Prop:=∃ps:List Addr,H a=some (.lst (ps.map V.ref))∧Tqs H ps qs
end L3
namespace L3
open PySem PySem.Spec PyProof.Rows L2 Ra
theorem K9{X:Cx}{aA:List (Addr×Obj)}{σ:L2.St}{H:Hp}{s:Shared}{h':Heap}{t':Nat}(S:List Addr)(I:Inv X aA σ H s)(k:∀b o,b∉S→s.heap.get? b=some o→h'.get? b=some o)(hS:∀b∈S,Gv X aA H b):Inv X aA σ H { s with heap:=h',toks:=t' }:=by
 have nit:∀b u,H b=some u→b∉S:=fun b u e z=>by rw [(hS b z).1] at e;cases e
 refine I.step (g':=s.gens) (d':=s.drawn) (ch:=S) (fun b hb=>?_) (fun b o _ _ hc e _=>k b o hc e) (fun b o _ _ hc e _=>⟨o.slots,k b o hc e⟩) (fun _ _ _ _ n=>n)
  (fun b o hc e=>⟨o,k b o hc e⟩) (fun _ _ e=>e) (fun _ _ _ e=>e) (fun b ps e=>⟨#[],by rw [e];simp⟩) (fun m hm=>?_) (fun b u e=>?_) I.bare
 ·obtain ⟨h0,hL,_,h1,h2,h3⟩:=hS b hb
  exact ⟨h1,hL,h2,h3⟩
 ·obtain ⟨o,es,ep,ho,r⟩:=hm
  exact ⟨o,es,ep,k _ o (fun z=>(hS _ z).2.1 rfl) ho,r⟩
 ·refine (I.hok b u e).stay (fun c v hc q=>k c v ?_ q) (fun _ q=>q) fun _ _ q=>q
  rcases hc with z | z
  ·rw [z];exact nit b u e
  ·exact nit c _ z
def Itz(K:PySem.W.Frag)(a b:Addr):It :=
 ⟨fun i H=>∃xs ys x y,SqL K H a xs∧SqL K H b ys∧xs[i]?=some x∧ys[i]?=some y,
   fun i H v H'=>∃T x y,v=.ref T∧H T=none∧H'=upd H T (.tup [x,y])∧(∀xs,SqL K H a xs→xs[i]?=some x)∧∀ys,SqL K H b ys→ys[i]?=some y,
   fun i H=>∃xs ys,SqL K H a xs∧SqL K H b ys∧(xs.length≤i∨ys.length≤i)⟩
theorem X5{P:Program}{w:World}{K:PySem.W.Frag}{es:List Expr}{k:Nat}{tp:Pos}(a b z TI TO i1 i2:Addr)(D:ZipApart z TI TO i1 i2 a b):Turn P w K (.Tuple es k tp) (Itz K a b) [z,TI,TO,i1,i2] z
  (fun i h=>IsZip h z TI TO .none∧IsPair h TI (.ref i1) (.ref i2)∧(∃u v,IsPair h TO u v)∧h.IsListIter i1 a i∧h.IsListIter i2 b i) where
 mem:=by simp
 obj:=fun i h st c hc=>by
  obtain ⟨s1,s2,⟨u,v,s3⟩,⟨o4,e4,_,d4⟩,⟨o5,e5,_,d5⟩⟩:=st
  simp only [List.mem_cons,List.not_mem_nil,or_false] at hc
  rcases hc with rfl | rfl | rfl | rfl | rfl
  ·exact ⟨_,s1,fun v z=>by
    have z':Data.fields _=Data.cell v:=z
    cases z'⟩
  ·exact ⟨_,s2,fun v z=>by
    have z':Data.seq _ _=Data.cell v:=z
    cases z'⟩
  ·exact ⟨_,s3,fun v z=>by
    have z':Data.seq _ _=Data.cell v:=z
    cases z'⟩
  ·exact ⟨o4,e4,fun v z=>by rw [d4] at z;cases z⟩
  ·exact ⟨o5,e5,fun v z=>by rw [d5] at z;cases z⟩
 keep:=fun i h h' st kk=>by
  obtain ⟨s1,s2,⟨u,v,s3⟩,s4,s5⟩:=st
  exact ⟨kk z (by simp) _ s1,kk TI (by simp) _ s2,⟨u,v,kk TO (by simp) _ s3⟩,s4.at fun o e=>kk i1 (by simp) o e,s5.at fun o e=>kk i2 (by simp) o e⟩
 item:=by
  intro X hP hw hK hc i aA s σ H E I hf st hg
  subst hP hw hK
  obtain ⟨s1,s2,⟨u0,v0,s3⟩,s4,s5⟩:=st
  obtain ⟨xs,ys,x,y,hqx,hqy,hx,hy⟩:=hg
  obtain ⟨itx,rvx,px,_⟩:=I.list hqx
  obtain ⟨ity,rvy,py,_⟩:=I.list hqy
  obtain ⟨u,hu,ru⟩:=rvx.get hx
  obtain ⟨v,hv,rv⟩:=rvy.get hy
  have ltz:z<s.heap.objs.size:=Heap.lt_size s1
  have ltT:TI<s.heap.objs.size:=Heap.lt_size s2
  have ltO:TO<s.heap.objs.size:=Heap.lt_size s3
  have lt1:i1<s.heap.objs.size:=by obtain ⟨_,e,_⟩:=s4;exact Heap.lt_size e
  have lt2:i2<s.heap.objs.size:=by obtain ⟨_,e,_⟩:=s5;exact Heap.lt_size e
  refine wpAny_pyNext_zip_item D s1 s2 s3 s4 s5 px.isList py.isList (x:=u) (y:=v) (by simpa using hu) (by simpa using hv) fun h1 a1 a2 a3 a4 a5 a6 hk1=>⟨_,rfl,wpAny_letOwnedTupleGo_zip a1 fun h2 b1 sb2=>?_⟩
  replace sb2:Heap.SameBut z h1 h2:=sb2
  have fresh:H s.heap.objs.size=none:=I.hok.fresh (Nat.le_refl _)
  have I1:Inv X aA σ (upd H s.heap.objs.size (.tup [x,y])) { s with heap:=s.heap.push { cls:=.type "tuple",data:=.seq ([u,v]:List Value).toArray },toks:=s.toks } :=
   I.laid (fun b o eb=>Heap.get?_push_of_some _ eb) (Nat.le_refl _) (show Bl X.prog X.w _ _ _ (.tup _) from ⟨(by show 2≤sizeLine;decide),_,.cons ru (.cons rv .nil),IsTup.new _ _⟩)
  have fo:∀b,b<s.heap.objs.size→Gv X aA H b→Gv X aA (upd H s.heap.objs.size (.tup [x,y])) b:=fun b lb fb=>⟨by rw [Ai (Nat.ne_of_lt lb)];exact fb.1,fb.2⟩
  have hfo:∀b∈[z,TI,TO,i1,i2],Gv X aA (upd H s.heap.objs.size (.tup [x,y])) b:=fun b hb=>by
   refine fo b ?_ (hf b hb)
   simp only [List.mem_cons,List.not_mem_nil,or_false] at hb
   rcases hb with rfl | rfl | rfl | rfl | rfl <;> assumption
  have I2:=K9 (h':=h2) (t':=s.toks) [z,TI,TO,i1,i2] I1 (fun b o nb eb=>?_) hfo
  ·refine ⟨.ref s.heap.objs.size,_,I2,rfl,⟨_,x,y,rfl,fresh,rfl,fun zs hz=>by rw [I.list_inj hz hqx];exact hx,fun zs hz=>by rw [I.list_inj hz hqy];exact hy⟩,⟨b1,sb2.extBut _ _ D.TIz (hk1 _ _ D.TIz D.TITO D.TIi1 D.TIi2 s2),⟨_,_,sb2.extBut _ _ D.TOz a2⟩,a3.extBut sb2.extBut D.i1z,a4.extBut sb2.extBut D.i2z⟩,fun b hb=>(hfo b hb).1⟩
  ·have n1:b≠z:=fun q=>nb (by simp [q])
   have n2:b≠TO:=fun q=>nb (by simp [q])
   have n3:b≠i1:=fun q=>nb (by simp [q])
   have n4:b≠i2:=fun q=>nb (by simp [q])
   rcases Heap.get?_push_cases eb with ⟨rfl,rfl⟩ | eb
   ·exact sb2.extBut _ _ n1 a5
   ·exact sb2.extBut _ _ n1 (hk1 b o n1 n2 n3 n4 eb)
 done:=by
  intro X hP hw hK hc i aA s σ H E I hf st hg
  subst hP hw hK
  obtain ⟨s1,s2,⟨u0,v0,s3⟩,s4,s5⟩:=st
  obtain ⟨xs,ys,hqx,hqy,hend⟩:=hg
  obtain ⟨itx,rvx,px,_⟩:=I.list hqx
  obtain ⟨ity,rvy,py,_⟩:=I.list hqy
  have lx:=rvx.length
  have ly:=rvy.length
  refine wpAny_pyNext_zip_end (I.ok.hd hc) D s1 s2 s3 s4 s5 px.isList py.isList ?_ fun h' hk=>⟨rfl,K9 (t':=s.toks) [z,TI,TO,i1,i2] I (fun b o nb e=>hk b o (fun q=>nb (by simp [q])) (fun q=>nb (by simp [q])) (fun q=>nb (by simp [q])) (fun q=>nb (by simp [q])) e) hf⟩
  rcases hend with h | h
  ·exact .inl (by simp;omega)
  ·exact .inr (by simp;omega)
 self:=fun _ _ _ _ _ st h=>wpAny_pyIter_zip st.1 h
def AJM(K:PySem.W.Frag)(ta:TA):TI:=fun σ H R=>ta σ H fun vs H1=>∃a b,vs=[.ref a,.ref b]∧(∃xs,SqL K H1 a xs)∧(∃ys,SqL K H1 b ys)∧R (Itz K a b) H1
theorem ABb{X:Cx}{es:List Expr}{k:Nat}{tp:Pos}{a b:Expr}{ta:TA}{p pos:Pos}(hg:Gl X "zip")(hm:X.mg "zip"=none)(ha:PA X [a,b] ta)(hs:starEach [a,b] X.env=[(false,eval a X.env),(false,eval b X.env)]:=by rfl)(hs2:starEach [b] X.env=[(false,eval b X.env)]:=by rfl) :
  PI X (.Tuple es k tp) (.Call (.Name "zip" p) [a,b] [] pos) (AJM X.K ta):=by
 intro aA s σ H R I h
 refine Call_ (HR I hg hm boot_zip (PyProof.Rows.callWith_type1 (thn (ha pos aA s σ H _ I h) fun us s1 ⟨vs,H1,I1,r1,q1⟩=>?_) (by rw [hs,hs2]) (by rw [hs2];rfl)))
 obtain ⟨l1,l2,rfl,⟨xs,hqx⟩,⟨ys,hqy⟩,q⟩:=q1
 cases r1 with
 | cons r rr =>
  cases rr with
  | cons r' rr =>
   cases rr
   cases r
   cases r'
   obtain ⟨itx,rvx,px,_⟩:=I1.list hqx
   obtain ⟨ity,rvy,py,_⟩:=I1.list hqy
   have a1:l1<s1.heap.objs.size:=by obtain ⟨_,e,_⟩:=px.isList;exact Heap.lt_size e
   have a2:l2<s1.heap.objs.size:=by obtain ⟨_,e,_⟩:=py.isList;exact Heap.lt_size e
   refine call_zip_2 px.isList py.isList fun h' hz hTI hTO hi1 hi2 hsz hk=>wpAny_pyIter_zip hz ?_
   have I2:Inv X aA σ H1 { s1 with heap:=h' }:=I1.kept (t':=s1.toks) hk
   refine ⟨s1.heap.objs.size+4,[s1.heap.objs.size+4,s1.heap.objs.size+2,s1.heap.objs.size+3,s1.heap.objs.size,s1.heap.objs.size+1],_,_,H1,rfl,I2,X5 l1 l2 _ _ _ _ _ (zipApart_new a1 a2),⟨hz,hTI,⟨_,_,hTO⟩,hi1,hi2⟩,fun b hb=>?_,q⟩
   simp only [List.mem_cons,List.not_mem_nil,or_false] at hb
   rcases hb with rfl | rfl | rfl | rfl | rfl
   ·exact I1.fpOk (Nat.le_add_right _ 4) (I1.hok.fresh (Nat.le_add_right _ 4))
   ·exact I1.fpOk (Nat.le_add_right _ 2) (I1.hok.fresh (Nat.le_add_right _ 2))
   ·exact I1.fpOk (Nat.le_add_right _ 3) (I1.hok.fresh (Nat.le_add_right _ 3))
   ·exact I1.fpOk (Nat.le_refl _) (I1.hok.fresh (Nat.le_refl _))
   ·exact I1.fpOk (Nat.le_add_right _ 1) (I1.hok.fresh (Nat.le_add_right _ 1))
theorem ZD{K:PySem.W.Frag}{a b:Addr}{xs ys:List V}{g:TG}{tb:TS}{D:K1}{σ:L2.St}{H:Hp}(n:Nat)(hn:n=min xs.length ys.length)(Pv:Nat→L2.St→Hp→Prop)(h0:Pv 0 σ H)(hl:∀i σ H,i≤n→Pv i σ H→SqL K H a xs∧SqL K H b ys)
  (hs:∀i x y σ H T,xs[i]?=some x→ys[i]?=some y→Pv i σ H→H T=none→g (.ref T) σ (upd H T (.tup [x,y])) fun σ2 H2=>tb { D with nx:=Pv (i+1),ct:=Pv (i+1),bk:=D.nx } σ2 H2) (hd:∀σ H,Pv n σ H→D.nx σ H) :
  ∃W:Nat→Nat→L2.St→Hp→Prop,(∃m,W 0 m σ H)∧∀i m σ H,W i m σ H →
   ((Itz K a b).stop i H∧D.nx σ H)∨((Itz K a b).go i H∧∃N:L2.St→Hp→Prop,(∀σ' H',N σ' H'→∃m',m'<m∧W (i+1) m' σ' H')∧∀x H',(Itz K a b).yld i H x H'→g x σ H' fun σ2 H2=>tb { D with nx:=N,ct:=N,bk:=D.nx } σ2 H2):=by
 refine ⟨fun i m σ H=>m=n-i∧i≤n∧Pv i σ H,⟨n,by simp,Nat.zero_le _,h0⟩,?_⟩
 rintro i m σ H ⟨rfl,hi,p⟩
 obtain ⟨qx,qy⟩:=hl i σ H hi p
 by_cases hlt:i<n
 ·have h1:i<xs.length:=by omega
  have h2:i<ys.length:=by omega
  refine .inr ⟨⟨xs,ys,_,_,qx,qy,List.getElem?_eq_getElem h1,List.getElem?_eq_getElem h2⟩,Pv (i+1),fun σ' H' p'=>⟨n-(i+1),by omega,rfl,hlt,p'⟩,?_⟩
  rintro v H' ⟨T,x,y,rfl,hT,rfl,ex,ey⟩
  exact hs i x y σ H T (ex xs qx) (ey ys qy) p hT
 ·have e:i=n:=by omega
  subst e
  exact .inl ⟨⟨xs,ys,qx,qy,by omega⟩,hd σ H p⟩
end L3
namespace L3
open PySem PySem.W PySem.Calls PySem.Spec PyProof.Rows L2 Ra
end L3
namespace L3
open PySem PySem.Spec PyProof.Rows L2 Ra
structure Im(P:Program)(w:World)(K:PySem.W.Frag)(mg:Str→Option Value)(base:Heap)(C:Addr)(m:Str)(k:Nat)(ps:List Str)(sp:Sp):Prop where
 ex:∃f fd,BZ P w K mg base CX0 k f fd ps sp∧En K fd ps []∧W4 K C m f∧Cls K C
structure AAt(P:Program)(w:World)(K:PySem.W.Frag)(mg:Str→Option Value)(base:Heap)(x:Str)(C:Addr)(k:Nat)(ps:List Str)(sp:Sp):Prop where
 ex:∃f fd,BZ P w K mg base CX0 k f fd ps sp∧En K fd ps []∧Mk K C f∧mg x=some (.ref C)
section
variable {X:Cx}{C:Addr}{m x:Str}{k j:Nat}{ps:List Str}{sp:Sp}{o e:Expr}{es:List Expr}{ta:TE}{t:TA}{p aF pos:Pos}{pl:Sem Bool}
theorem G7(Cm:Im X.prog X.w X.K X.mg X.base C m k ps sp)(hr:Df j X.A)(he:PE X o ta)(hkj:k≤j:=by decide)
  (ht:eval (.Call (.Attribute o m aF) [] [] pos) X.env=(do
   let ov ←eval o X.env
   standAt aF.atName
   let (f,first) ←holding [ov] (getMethod ov m pl)
   callWith pos f first (backTo pos (starEach [] X.env)) (backToKw pos (keywordEach [] X.env))):=by rfl) :
  PE X (.Call (.Attribute o m aF) [] [] pos) (Uz C m sp [] E0 ta Rf):=by
 obtain ⟨f,fd,F,b,hm,cl⟩:=Cm.ex
 exact Wz he cl hm F (hr.mono hkj) b .nil Xa ht
end
structure AKb(P:Program)(w:World)(K:PySem.W.Frag)(mg:Str→Option Value)(base:Heap)(x:Str)(k:Nat)(ps:List Str)(ds:List Value)(dvs:List V)(sp:Sp):Prop where
 ex:∃f fd,BZ P w K mg base CX0 k f fd ps sp∧En K fd ps ds∧PySem.W.keepIn K (.ref f)=true∧mg x=some (.ref f)
 dv:BW dvs ds
structure AKQ(P:Program)(w:World)(K:PySem.W.Frag)(mg:Str→Option Value)(base:Heap)(x:Str)(k:Nat)(ps ks:List Str)(gV:List V→List V→List V)(sp:Sp):Prop where
 ex:∃f fd g,BZ P w K mg base CX0 k f fd ps sp∧AAl K fd ps ks g gV∧PySem.W.keepIn K (.ref f)=true∧mg x=some (.ref f)
abbrev AKK(K:PySem.W.Frag)(x qual:Str)(st:Stmt)(dV:Value)(f:Addr)(fd:FuncData):Prop:=∃(oc:Value) (od:Option Addr) (kV doc pm:Value) (an:Option Addr) (cdv ct:Value) (osl:Array (Option Value)),
   fd=PySem.W.fnOf x qual (An st) (Ak st) (Ac st) dV kV doc pm an cdv ct∧K.lookup f=some ⟨oc,od,.func fd,osl⟩∧PySem.W.codeIn K cdv qual=true
def AJx(K:PySem.W.Frag)(te ts:TE):TE:=fun σ H Q=>te σ H fun x H1=>ts σ H1 fun y H2=>∃a xs,x=.ref a∧y=.int (-1)∧SqL K H2 a xs∧∀p,H2 p=none→Q (.ref p) (upd H2 p (.lst xs.reverse))
end L3
namespace L3
open PySem PySem.Spec PyProof.Rows L2 Ra
theorem MN{X:Cx}{x:Str}{n:Int}{pos:Pos}(hg:Gl X x)(hm:∃t,X.mg x=some (.int n t))(hd:(x==("__debug__":Str))=false:=by decide):PE X (.Name x pos) (tC (.int n)):=by
 obtain ⟨t,hm⟩:=hm
 exact Et hg hm ⟨t,rfl⟩ hd
theorem Lz{X:Cx}(hc:X.calm=true):Gz X (.builtin "all") (fun xs H Q=>∃p bs,xs=[.ref p]∧SqL X.K H p (List.map V.bl bs)∧Q (.bl (bs.all id)) H):=by
 intro aA s σ H xs us Q I r h
 obtain ⟨p,bs,rfl,hq,q⟩:=h
 obtain ⟨u,rfl,rx⟩:=Ga r
 cases rx
 obtain ⟨its,rv,pl,hz⟩:=I.list hq
 have aB:=rv.length
 rw [List.length_map] at aB
 have lt:p<s.heap.objs.size:=by
  obtain ⟨o,ho,_⟩:=pl.isList
  exact Heap.lt_size ho
 refine call_all_walk (wpAny_pyIter_list pl.isList ?_)
 refine ⟨s.heap.objs.size,_,_,_,_,_,(fun i=>(bs[i]?).getD true),rfl,Walks.list (A:=X.A.in1) (I.ok.hd hc) _ p (Nat.ne_of_lt lt) its.toArray,?st,?tr,fun h' tk hk=>?_⟩
 case st=>exact ⟨⟨_,Heap.get?_push_size _ rfl,rfl,rfl⟩,pl.isList.at fun o e=>Heap.get?_push_of_some _ e⟩
 case tr =>
  intro i v s1 Q1 E1 hv q1
  have hv':its[i]?=some v:=by simpa using hv
  have hi:i<bs.length:=by
   have:=(List.getElem?_eq_some_iff.mp hv').1
   omega
  have eb:bs[i]?=some bs[i]:=List.getElem?_eq_getElem hi
  obtain ⟨u,hu,ru⟩:=rv.get (i:=i) (x:=.bl bs[i]) (by rw [List.getElem?_map,eb];rfl)
  rw [hv'] at hu
  cases hu
  cases ru
  have q2:Q1 ((bs[i]?).getD true) s1:=q1
  rw [eb] at q2
  exact wpAny_truthy_bool q2
 ·have e:(List.range its.toArray.size).all (fun i=>(bs[i]?).getD true)=bs.all id:=by
   rw [List.size_toArray,←aB,Bool.eq_iff_iff,List.all_eq_true,List.all_eq_true]
   constructor
   ·intro hh b hb
    obtain ⟨i,hi,rfl⟩:=List.getElem_of_mem hb
    have:=hh i (List.mem_range.mpr hi)
    rw [List.getElem?_eq_getElem hi] at this
    exact this
   ·intro hh i hi
    have hi':=List.mem_range.mp hi
    rw [List.getElem?_eq_getElem hi']
    exact hh _ (List.getElem_mem hi')
  rw [e]
  refine ⟨.bl (bs.all id),H,?_,rfl,q⟩
  exact I.kept (h':=h') (t':=tk) fun b o eb=>hk b o (by
   simp
   exact Nat.ne_of_lt (Heap.lt_size eb)) (Heap.get?_push_of_some _ eb)
theorem Tu{K:PySem.W.Frag}{a:Addr}{xs:List V}{te:Shared→Hp→Addr→List Addr→TE}{js:List Nat}{σ:L2.St}{H1:Hp}{Q:VK}(hn:xs.length≤100000)(ha:H1 a=some (.lst xs))(f:V→Bool)
  (hs:∀s₀ H₀ C ex x H (R:VK),x∈xs→Aj H1 H→(∀H2,Aj H H2→R (.bl (f x)) H2)→te s₀ H₀ C ex (some x::js.map fun j=>(σ[j]?).join) H R)
  (hd:∀H D,Aj H1 H→H1 D=none→H D=some (.lst ((xs.map f).map V.bl))→Q (.ref D) H):JL (Itl K a) te js σ Q H1:=by
 intro D hD
 refine ⟨fun i m ys H=>m=xs.length-i∧i≤xs.length∧ys=((xs.take i).map f).map V.bl∧Aj H1 H∧H D=some (.lst ys),⟨xs.length,by simp,Nat.zero_le _,rfl,Ag hD _,Ad⟩,?_⟩
 rintro i m ys H ⟨rfl,hi,rfl,sm,hDl⟩
 refine ⟨hDl,?_⟩
 have hr:=sm _ _ ha
 by_cases hlt:i<xs.length
 ·have eq:xs[i]?=some xs[i]:=List.getElem?_eq_getElem hlt
  refine .inr ⟨⟨_,_,SqL.of hr,eq⟩,fun x H' y s₀ H₀ C ex=>?_⟩
  obtain ⟨e,y⟩:=y
  subst e
  have ex':=y _ (SqL.of hr)
  rw [eq] at ex'
  cases ex'
  refine hs s₀ H₀ C ex _ H' _ (List.getElem_mem hlt) sm fun H2 s2=>?_
  have h2:=s2 _ _ hDl
  have hz:(100000:Nat)<sizeLine:=by decide
  refine ⟨h2,by rw [List.length_map,List.length_map,List.length_take];omega,xs.length-(i+1),by omega,rfl,hlt,?_,?_,Ad⟩
  ·rw [List.take_succ,eq,List.map_append,List.map_append];rfl
  ·intro b o e
   rw [Ai (Av e hD)]
   exact s2 _ _ (sm _ _ e)
 ·have e:i=xs.length:=by omega
  subst e
  rw [List.take_length] at hDl
  exact .inl ⟨⟨_,SqL.of hr,Nat.le_refl _⟩,hd H D sm hD hDl⟩
structure PEw(X:Cx)(e:Expr)(te:TE):Prop where
 h:PE X e te
structure PAw(X:Cx)(es:List Expr)(t:TA):Prop where
 h:PA X es t
section
variable {X:Cx}{es xs:List Expr}{e e2:Expr}{p p2:Pos}{te te2:TE}{t:TA}{k:Nat}
theorem ADb:PEw X (.Constant .none k p) (tC .non):=⟨Gp⟩
theorem Ir{x:Str}:PEw X (.Constant (.str x) k p) (tC (.str x)):=⟨Aq⟩
theorem O3(h:PAw X es t):PEw X (.Tuple es k p) (ACU t):=⟨Dc h.h⟩
theorem AFj(h:PAw X es t):PEw X (.List es p) (AAy t):=⟨Er h.h⟩
theorem Bm(h:PE X e te):PEw X e te:=⟨h⟩
theorem Ew:PAw X [] Rf:=⟨Ae⟩
theorem Gm{c}(ha:PEw X (.Constant c k p) te)(hr:PAw X es t):PAw X (.Constant c k p::es) (Mh te t):=⟨Aa ha.h hr.h rfl⟩
theorem ABX(ha:PEw X (.Tuple xs k p) te)(hr:PAw X es t):PAw X (.Tuple xs k p::es) (Mh te t):=⟨Aa ha.h hr.h rfl⟩
theorem Gu{f a ks}(ha:PEw X (.Call f a ks p) te)(hr:PAw X es t):PAw X (.Call f a ks p::es) (Mh te t):=⟨Aa ha.h hr.h rfl⟩
theorem Bu{n}(ha:PEw X (.Name n p) te)(hr:PAw X es t):PAw X (.Name n p::es) (Mh te t):=⟨Aa ha.h hr.h rfl⟩
end
structure PSw(X:Cx)(st:Stmt)(t:TS):Prop where
 h:PS X st t
structure S5(X:Cx)(ss:List Stmt)(t:TS):Prop where
 h:PSs X ss t
theorem Wa{X:Cx}{ss:List Stmt}{R:TS→Prop}(h:∃t,S5 X ss t∧R t):∃t,PSs X ss t∧R t:=by
 obtain ⟨t,a,b⟩:=h
 exact ⟨t,a.h,b⟩
section
variable {X:Cx}{a b e:Expr}{pos pos':Pos}{ta tb te:TE}{st:Stmt}{ss:List Stmt}{t u:TS}
theorem MK{i:Nat}{x:Str}(hN:X.N.Nodup)(hi:X.N[i]?=some x)(hx:Loc X.env.scope x)(he:PEw X e te)(hs:swapsWith e (some (.Name x pos')) pos.line X.env=pure false:=by rfl)(hf:X.fn x=true∨X.env.scope.names.lookup x=some .local:=by first | exact .inl rfl | exact .inr rfl) :
  PSw X (.Assign [.Name x pos'] e pos) (ZM te (Iw i)):=⟨Ay hN hi hx he.h hs hf⟩
theorem RG(he:PEw X e te):PSw X (.Return (some e) pos) (AFT te):=⟨Al he.h⟩
theorem M6(h:PSw X st t):S5 X [st] t:=⟨Ah h.h⟩
theorem EY(h:PSw X st t)(k:S5 X ss u):S5 X (st::ss) (AEw t u):=⟨Ab h.h k.h⟩
end
end L3
namespace L3
open PySem PySem.Spec L2 Ra PyProof.Rows
def ev2{α:Type}:List α→List α
 | []=>[]
 | [x]=>[x]
 | x::_::l=>x::ev2 l
theorem ev2_map{α β:Type}(f:α→β):∀l:List α,(ev2 l).map f=ev2 (l.map f)
 | []=>rfl
 | [_]=>rfl
 | x::y::l=>congrArg (f x::·) (ev2_map f l)
theorem Nh{α:Type}:∀l:List α,(ev2 l).length=(l.length+1)/2
 | []=>by simp [ev2]
 | [_]=>by simp [ev2]
 | x::y::l=>by
  show (ev2 l).length+1=(l.length+1+1+1)/2
  rw [Nh l]
  omega
theorem RM{α:Type}:∀l:List α,(List.range ((l.length+1)/2)).filterMap (fun k=>l[2*k]?)=ev2 l
 | []=>by simp [ev2]
 | [_]=>by simp [ev2,List.range_succ]
 | x::y::l=>by
  rw [show ((x::y::l).length+1)/2=(l.length+1)/2+1 by simp only [List.length_cons];omega,List.range_succ_eq_map,List.filterMap_cons]
  show x::List.filterMap (fun k=>(x::y::l)[2*k]?) (List.map Nat.succ (List.range ((l.length+1)/2)))=x::ev2 l
  rw [List.filterMap_map]
  refine congrArg (x::·) ?_
  rw [←RM l]
  rfl
theorem Pk{α β:Type}{f h:α→Option β}:∀{l:List α},(∀x∈l,f x=h x)→l.filterMap f=l.filterMap h
 | [],_=>rfl
 | x::l,e=>by
  rw [List.filterMap_cons,List.filterMap_cons,e x List.mem_cons_self,Pk fun y hy=>e y (List.mem_cons_of_mem _ hy)]
def Z5(lo:Option Int)(n:Nat):Prop:=(lo=none∧n=0)∨lo=some (n:Int)
theorem XQ(its:List Value){lo:Option Int}{n:Nat}(h:Z5 lo n):slicePick its.toArray lo none (some 2)=(ev2 (its.drop n)).toArray:=by
 unfold slicePick
 congr 1
 obtain ⟨m,hm⟩:∃m,m=min n its.length:=⟨_,rfl⟩
 have eb:sliceBounds lo none (some 2) its.toArray.size=((m:Int),(its.length:Int),2):=by
  rw [List.size_toArray]
  rcases h with ⟨rfl,rfl⟩ | rfl
  ·rw [hm,Nat.zero_min];rfl
  ·simp only [sliceBounds,Option.getD_some,show (2:Int) > 0 by decide,if_true]
   refine Prod.ext ?_ rfl
   show max 0 (min (if (n:Int)<0 then (n:Int)+(its.length:Int) else (n:Int)) (its.length:Int))=(m:Int)
   rw [if_neg (by omega)]
   omega
 rw [eb]
 have er:sliceRange (m:Int) (its.length:Int) 2=(List.range (((its.drop n).length+1)/2)).map fun k=>m+2*k:=by
  unfold sliceRange
  have hc:(if (2:Int) > 0 then (if (m:Int)<(its.length:Int) then ((its.length:Int)-(m:Int)+2-1)/2 else 0) else (if (m:Int) > (its.length:Int) then ((m:Int)-(its.length:Int)-2-1)/(-2) else 0)).toNat=((its.drop n).length+1)/2:=by
   rw [if_pos (by decide),List.length_drop]
   by_cases h:(m:Int)<(its.length:Int)
   ·rw [if_pos h];omega
   ·rw [if_neg h];omega
  show (List.range (if (2:Int) > 0 then _ else _:Int).toNat).map _=_
  rw [hc]
  exact List.map_congr_left fun k _=>by omega
 show List.filterMap _ (sliceRange (m:Int) (its.length:Int) 2)=ev2 (its.drop n)
 rw [er,List.filterMap_map,←RM]
 refine Pk fun k hk=>?_
 have hk':=List.mem_range.mp hk
 rw [List.length_drop] at hk'
 show its.toArray[m+2*k]?=(its.drop n)[2*k]?
 rw [List.getElem?_toArray,List.getElem?_drop,show m=n by omega]
theorem R5:∀{xs:List V} {us:List Value},BW xs us→BW (ev2 xs) (ev2 us)
 | _,_,.nil=>.nil
 | _,_,.cons a .nil=>.cons a .nil
 | _,_,.cons a (.cons _ r)=>.cons a (R5 r)
def ABT(K:PySem.W.Frag)(te:TE)(tl:TO)(ts:TE):TE:=fun σ H Q=>te σ H fun x H1=>tl σ H1 fun l H2=>ts σ H2 fun y H3=>∃a xs n,x=.ref a∧y=.int 2∧Z5 l n∧SqL K H3 a xs∧∀p,H3 p=none→Q (.ref p) (upd H3 p (.lst (ev2 (xs.drop n))))
theorem Sv{X:Cx}{e st:Expr}{lo:Option Expr}{te ts:TE}{tl:TO}{p2 pos:Pos}(he:PE X e te)(hl:PO X lo tl)(hs:PE X st ts):PE X (.Subscript e (.Slice lo none (some st) p2) pos) (ABT X.K te tl ts):=by
 intro aA s σ H Q I h
 refine Subscript_ (thn (he aA s σ H _ I h) fun v s1 ⟨x,H1,I1,r1,q1⟩=>?_)
 refine wpAny_Slice (thn (hl aA s1 σ H1 _ I1 q1) fun vl s2 ⟨l,H2,I2,pl,q2⟩=>?_)
 rw [evalPart_none,evalPart_some]
 refine wpAny_pure (thn (hs aA s2 σ H2 _ I2 q2) fun w s3 ⟨y,H3,I3,r3,q3⟩=>?_)
 obtain ⟨a,xs,n,rfl,rfl,hb,hx,q⟩:=q3
 cases r1
 obtain ⟨t,rfl⟩:=r3
 have I4:Inv X aA σ H3 { s3 with heap:=s3.heap.push { cls:=.type "slice",data:=.fields #[vl,.none,.int 2 t] } }:=I3.kept (t':=s3.toks) fun b ob q=>Heap.get?_push_of_some _ q
 obtain ⟨its,rv,ht,hz⟩:=I4.list hx
 have aB:=rv.length
 show wpAny (model X.prog X.w) X.A (subscriptTail e (.Slice lo none (some st) p2) (.ref a) (.ref s3.heap.objs.size)) (EP X aA σ Q) X.xe { s3 with heap:=s3.heap.push { cls:=.type "slice",data:=.fields #[vl,.none,.int 2 t] } }
 refine tail_any (ops:=[.ref a,.ref s3.heap.objs.size]) ht.isList.typeIs slot_list_getitem.lookup ?_ (by with_unfolding_all rfl)
 refine wpAny_getItem_list_slice ht.isList (Heap.IsSliceOf.new ..) pl .none (.int 2 t) (by simp) ?_ (by rw [List.size_toArray] <;> omega)
 rw [XQ its hb]
 refine ⟨.ref _,_,I4.laid (t':=s3.toks) (o:=.lst (ev2 (xs.drop n))) (fun b ob q=>Heap.get?_push_of_some _ q) (Nat.le_refl _) ?_,rfl,q _ (I4.hok.fresh (Nat.le_refl _))⟩
 refine ⟨?_,_,0,R5 (rv.drop n),Heap.get?_push_size _ rfl⟩
 rw [Nh,List.length_drop]
 omega
end L3
namespace L3
open PySem PySem.Spec PyProof.Rows L2 Ra Rq
def cnt(p:Nat→Bool):Nat→Nat
 | 0=>0
 | n+1=>cnt p n+if p n then 1 else 0
end L3
namespace L3
open PySem PySem.Spec PyProof.Rows L2 Ra
theorem hu1{k:Nat}{A:Around}(r:Df k A):A.units+1<cLine:=by have:=r.un;omega
section
variable {prog:Program}{w:World}{A:Around}{E:Value→Shared→Prop}{s:Shared}
end
def Itk(a:Addr)(o:Obj)(aG:List (List Key×V)):It :=
 ⟨fun i H=>H a=some (.frz o (.dT aG))∧i<aG.length,fun i H x H'=>H'=H∧∃b p,aG[i]?=some p∧x=.ref b∧H b=some (.tup (p.1.map kV)),fun i H=>H a=some (.frz o (.dT aG))∧aG.length≤i⟩
def iDT(tl:TE):TI:=fun σ H R=>tl σ H fun x H1=>∃a aG,x=.ref a∧H1 a=some (.dT aG)∧∀o,R (Itk a o aG) (upd H1 a (.frz o (.dT aG)))
section
variable {prog:Program}{w:World}{A:Around}{E:Value→Shared→Prop}{s:Shared}
end
section
variable {prog:Program}{w:World}{A:Around}{E:Value→Shared→Prop}{s:Shared}
end
def AIW(ta:TA):TE:=fun σ H Q=>ta σ H fun vs H1=>∃j:Nat,vs=[.int j]∧j≤1000∧∀p,H1 p=none→Q (.ref p) (upd H1 p (.tup ((List.range j).map fun (i:Nat)=>V.int i)))
def AJ4(K:PySem.W.Frag):V→V→Hp→VK→Prop:=fun x y H Q=>(∃a b ys,x=.ref a∧y=.ref b∧SqT K H a []∧SqT K H b ys∧Q (.ref b) H)∨ADi K x y H Q
def AIw(tk tv:TE):TE:=fun σ H Q=>∀p,H p=none→tk σ (upd H p (.dT [])) fun x H1=>tv σ H1 fun y H2=>∃b ks,x=.ref b∧H2 b=some (.tup (ks.map kV))∧H2 p=some (.dT [])∧Q (.ref p) (upd H2 p (.dT [(ks,y)]))
end L3
namespace L3
open PySem PySem.Spec PyProof.Rows L2 Ra
def UV:Value→Bool
 | .bool b=>b
 | _=>false
theorem Qk:∀{bs:List Bool} {its:List Value},BW (bs.map V.bl) its→its=bs.map Value.bool
 | [],_,h=>by
  cases h
  rfl
 | b::bs,_,h=>by
  cases h with
  | cons r t =>
   cases r
   rw [Qk t]
   rfl
theorem XS{bs:List Bool}(A:Around)(s:Shared):∀y,y∈(bs.map Value.bool).toArray→SeqAt.EqAt A s y (.bool true) (UV y):=fun y hy=>by
 obtain ⟨b,_,rfl⟩:=List.mem_map.mp (List.mem_toArray.mp hy)
 have:=SeqAt.EqAt.bool_bool (A:=A) (s:=s) b true
 rw [show (b==true)=UV (.bool b) from by cases b <;> rfl] at this
 exact this
section
variable {X:Cx}
theorem Wd:MtR X "list.count" (fun x xs H Q=>∃(l:Addr) (bs:List Bool),x=.ref l∧xs=[.bl true]∧H l=some (.lst (bs.map V.bl))∧Q (.int ((bs.countP id:Nat):Int)) H):=by
 intro aA s σ H x xs v us Q I rx rs h
 obtain ⟨l,bs,rfl,rfl,hH,q⟩:=h
 cases rx
 obtain ⟨u,rfl,ru⟩:=Ga rs
 cases ru
 obtain ⟨z,its,n,r,hl,e⟩:=I.lstM hH
 obtain rfl:=Qk r
 refine call_meets F.slot_list_count ⟨_,e,rfl⟩ F.entry_list_count (F.args_list_count_2 _ _) (SeqAt.list_countAt l _ n none #[] (.bool true) UV) ⟨e,XS _ _,?_⟩
 have ec:(bs.map Value.bool).toArray.toList.countP UV=bs.countP id:=by
  rw [List.countP_map]
  rfl
 rw [ec]
 exact ⟨.int ((bs.countP id:Nat):Int),H,I.tok _,⟨_,rfl⟩,q⟩
theorem Vt:MtR X "list.index" (fun x xs H Q=>∃(l:Addr) (bs:List Bool) (j:Nat),x=.ref l∧xs=[.bl true]∧H l=some (.lst (bs.map V.bl))∧j<1000∧bs[j]?=some true∧(∀i,i<j→bs[i]?=some false)∧Q (.int (j:Int)) H):=by
 intro aA s σ H x xs v us Q I rx rs h
 obtain ⟨l,bs,j,rfl,rfl,hH,hj,ht,hf,q⟩:=h
 cases rx
 obtain ⟨u,rfl,ru⟩:=Ga rs
 cases ru
 obtain ⟨z,its,n,r,hl,e⟩:=I.lstM hH
 obtain rfl:=Qk r
 have lj:j<bs.length:=(List.getElem?_eq_some_iff.mp ht).1
 have at_:∀i (hi:i<(bs.map Value.bool).toArray.size),UV (bs.map Value.bool).toArray[i]=(bs[i]?).getD false:=fun i hi=>by
  have hi':i<bs.length:=by simpa using hi
  simp [hi',UV]
 refine call_meets F.slot_list_index ⟨_,e,rfl⟩ F.entry_list_index (F.args_list_index_2 _ _) (SeqAt.list_indexAt l _ n none #[] (.bool true) UV j (by simpa using lj) (by omega) (by rw [at_,ht];rfl) (fun i hi h=>by rw [at_,hf i h];rfl)) ⟨e,XS _ _,?_⟩
 exact ⟨.int (j:Int),H,I.tok _,⟨_,rfl⟩,q⟩
end
end L3
namespace L3
open PySem PySem.Spec PyProof.Rows L2 Ra Builtin.Str
theorem QB(s sub:Str)(hi limit:Nat):∀(l:List Nat) (st:Array Nat×Nat),∃r,(forIn l st (StrLaws.occBody s sub hi limit)).run.fst.toList=st.fst.toList++r
 | [],st=>⟨[],by rw [List.append_nil];rfl⟩
 | a::l,st=>by
  rw [List.forIn_cons]
  unfold StrLaws.occBody
  split
  ·obtain ⟨r,e⟩:=QB s sub hi limit l (st.fst.push a,a+sub.length)
   refine ⟨a::r,?_⟩
   refine (show _=_ from e).trans ?_
   show (st.fst.push a).toList++r=_
   rw [Array.toList_push,List.append_assoc]
   rfl
  ·exact QB s sub hi limit l (st.fst,st.snd)
theorem RP(s sub:Str)(hi k:Nat):∀(l:List Nat) (st:Array Nat×Nat),k≤st.fst.size→(forIn l st (StrLaws.occBody s sub hi k)).run.fst=st.fst
 | [],_,_=>rfl
 | a::l,st,h=>by
  rw [List.forIn_cons]
  unfold StrLaws.occBody
  rw [if_neg (fun z=>by have:=z.1.1.1;omega)]
  exact RP s sub hi k l (st.fst,st.snd) h
theorem Rk(s sub:Str)(hi k M:Nat)(hM:k≤M):∀(l:List Nat) (st:Array Nat×Nat),st.fst.size≤k→(forIn l st (StrLaws.occBody s sub hi k)).run.fst.toList=((forIn l st (StrLaws.occBody s sub hi M)).run.fst.toList).take k
 | [],st,h=>by
  show st.fst.toList=st.fst.toList.take k
  rw [List.take_of_length_le (by simpa using h)]
 | a::l,st,h=>by
  by_cases hk:st.fst.size=k
  ·rw [RP s sub hi k (a::l) st (by omega)]
   obtain ⟨r,e⟩:=QB s sub hi M (a::l) st
   rw [e,List.take_append_of_le_length (by simp;omega),List.take_of_length_le (by simp;omega)]
  ·have ih:=fun st' h'=>Rk s sub hi k M hM l st' h'
   rw [List.forIn_cons,List.forIn_cons]
   unfold StrLaws.occBody at *
   by_cases c:(st.snd≤a∧a+sub.length≤hi)∧subAt s sub a=true
   ·rw [if_pos ⟨⟨⟨by omega,c.1.1⟩,c.1.2⟩,c.2⟩,if_pos ⟨⟨⟨by omega,c.1.1⟩,c.1.2⟩,c.2⟩]
    exact ih (st.fst.push a,a+sub.length) (by simp only [Array.size_push];omega)
   ·rw [if_neg (fun z=>c ⟨⟨z.1.1.2,z.1.2⟩,z.2⟩),if_neg (fun z=>c ⟨⟨z.1.1.2,z.1.2⟩,z.2⟩)]
    exact ih (st.fst,st.snd) h
theorem Od(x:Str)(w:Nat):∀(cuts:List Nat) (a:Nat),(StrLaws.partsFrom x w a cuts).length=cuts.length+1
 | [],_=>rfl
 | c::r,a=>by
  show (_::StrLaws.partsFrom x w (c+w) r).length=_
  rw [List.length_cons,Od x w r,List.length_cons]
theorem M3(x y:Str):∀(cuts:List Nat) (a f k:Nat),StrLaws.ChainTo x y x.length a cuts f→k≤cuts.length→StrLaws.partsFrom x y.length a (cuts.take k)=(StrLaws.partsFrom x y.length a cuts).take k++[Str.join y ((StrLaws.partsFrom x y.length a cuts).drop k)]
 | cuts,a,f,0,h,_=>by
  rw [List.take_zero,List.take_zero,List.drop_zero,StrLaws.join_partsFrom x y cuts a f h]
  rfl
 | [],a,f,k+1,h,hk=>by simp at hk
 | c::r,a,f,k+1,h,hk=>by
  rw [List.take_succ_cons]
  show strSub x a c::StrLaws.partsFrom x y.length (c+y.length) (r.take k)=_
  rw [M3 x y r (c+y.length) f k h.2.2 (by simpa using hk)]
  rfl
theorem WD{c:Nat}{ws:List (List Nat)}{k:Nat}(h:∀w∈ws,c∉w)(h1:1≤k)(hk:k<ws.length):Txt.splitMax (sx (jn c ws)) (sx [c]) (k:Int)=(ws.take k++[jn c (ws.drop k)]).map sx:=by
 have hn:ws≠[]:=fun z=>by rw [z] at hk;simp at hk
 have e:=SJ h hn
 unfold Txt.split at e
 have two:∀z:Str,[z]≠ws.map sx:=fun z q=>by
  have:=congrArg List.length q
  rw [List.length_map,List.length_singleton] at this
  omega
 unfold Txt.splitMax
 split at e
 ·exact absurd e (two _)
 ·rename_i hc
  rw [if_neg hc]
  split at e
  ·exact absurd e (two _)
  ·rw [StrLaws.partsBetween_eq] at e
   obtain ⟨f,ch⟩:=StrLaws.occ_chain (sx (jn c ws)) (sx [c]) ((sx (jn c ws)).length+1)
   have hl:=congrArg List.length e
   rw [Od,List.length_map] at hl
   have hle:=StrLaws.occ_length_le (sx (jn c ws)) (sx [c]) 0 (sx (jn c ws)).length ((sx (jn c ws)).length+1)
   have lim:limitOf (sx (jn c ws)) (k:Int)=k:=by
    unfold limitOf
    rw [if_neg (by omega),Int.toNat_natCast]
   have tk:occurrences (sx (jn c ws)) (sx [c]) 0 (sx (jn c ws)).length k=(occurrences (sx (jn c ws)) (sx [c]) 0 (sx (jn c ws)).length ((sx (jn c ws)).length+1)).take k:=by
    rw [StrLaws.occ_eq,StrLaws.occ_eq]
    exact Rk _ _ _ _ _ (by omega) _ _ (Nat.zero_le _)
   rw [lim,tk]
   generalize occurrences (sx (jn c ws)) (sx [c]) 0 (sx (jn c ws)).length ((sx (jn c ws)).length+1)=cuts at *
   have ne:¬((cuts.take k).isEmpty=true):=fun z=>by
    have:=List.isEmpty_iff.mp z
    have:=congrArg List.length this
    rw [List.length_take,List.length_nil] at this
    omega
   rw [if_neg ne,StrLaws.partsBetween_eq,M3 _ _ cuts 0 f k ch (by omega),e,←List.map_take,←List.map_drop,Lh,List.map_append]
   rfl
section
variable {X:Cx}
theorem V0:MtR X "str.split" (fun x xs H Q=>∃a b,∃k:Nat,x=.str a∧xs=[.str b,.int k]∧b.length≠0∧k<2^62∧a.length≤sizeLine∧(Txt.splitMax a b k).length≤sizeLine∧∀p,H p=none→Q (.ref p) (upd H p (.lst ((Txt.splitMax a b k).map V.str)))):=by
 intro aA s σ H x xs v us Q I rx rs h
 obtain ⟨a,b,k,rfl,rfl,hb,hk,ha,hn,q⟩:=h
 obtain ⟨t,rfl⟩:=rx
 obtain ⟨u,u2,rfl,ru,ru2⟩:=Xc rs
 obtain ⟨t',rfl⟩:=ru
 obtain ⟨t2,rfl⟩:=ru2
 have hb':(b.length==0)=false:=by simpa using hb
 have hk':(decide ((k:Int) < -(2^63:Int)) || decide ((k:Int) ≥ 2^63))=false:=by
  rw [Bool.or_eq_false_iff]
  exact ⟨decide_eq_false (by omega),decide_eq_false (by omega)⟩
 have q':=q s.heap.objs.size (I.hok.fresh (Nat.le_refl _))
 have fin:∀(k':Nat) (ts:List Str) (its:List Value),Txt.splitMax a b k=ts→BW (ts.map V.str) its→EP X aA σ Q (.ref s.heap.objs.size) { s with toks:=k',heap:=s.heap.push { cls:=.type "list",data:=.seq its.toArray } }:=fun k' ts its e r=>by
  rw [e] at q' hn
  refine ⟨.ref s.heap.objs.size,_,I.laid (t':=k') (o:=.lst (ts.map V.str)) (fun b ob q=>Heap.get?_push_of_some _ q) (Nat.le_refl _) ?_,rfl,q'⟩
  exact ⟨by rw [List.length_map];exact hn,its,_,r,Heap.get?_push_size _ rfl⟩
 cases h1:(decide (a.length<b.length) || decide (strKind a<strKind b)) with
 | true =>
  have e:Txt.splitMax a b k=[a]:=by unfold Txt.splitMax;rw [if_pos h1]
  exact call_meets F.slot_str_split (typeIs_str _ _ _) F.entry_str_split (F.args_str_split_3 _ _ _) (meets_str_split_max_cannot_occur a b k t t' t2 hk' h1) (fin s.toks [a] [.str a t] e (.cons ⟨_,rfl⟩ .nil))
 | false =>
  cases hf:(occurrences a b 0 a.length (limitOf a k)).isEmpty with
  | true =>
   have e:Txt.splitMax a b k=[a]:=by unfold Txt.splitMax;rw [h1,hf];rfl
   exact call_meets F.slot_str_split (typeIs_str _ _ _) F.entry_str_split (F.args_str_split_3 _ _ _) (meets_str_split_max_not_found a b k t t' t2 hk' h1 hb' hf) (fin s.toks [a] [.str a t] e (.cons ⟨_,rfl⟩ .nil))
  | false =>
   have e:Txt.splitMax a b k=partsBetween a (occurrences a b 0 a.length (limitOf a k)) b.length:=by unfold Txt.splitMax;rw [h1,hf];rfl
   exact call_meets F.slot_str_split (typeIs_str _ _ _) F.entry_str_split (F.args_str_split_3 _ _ _) (meets_str_split_sep_max a b k t t' t2 hk' h1 hb' hf ha (by rw [←e];exact hn)) (fin _ _ _ e (Jv s.toks _))
theorem RC(c:Nat):∀(k:Nat) (acc:Array Nat),(List.replicate k (#[c]:Array Nat)).foldl (·++·) acc=acc++(List.replicate k c).toArray
 | 0,acc=>by simp
 | k+1,acc=>by
  rw [List.replicate_succ,List.foldl_cons,RC c k,List.replicate_succ]
  apply Array.toList_inj.mp
  simp
theorem Zc:OpR X (binaryOp .Mult) (fun x y H Q=>∃(c:Nat) (n:Int),x=.str (sx [c])∧y=.int n∧1≤n∧n≤1000∧Q (.str (sx (List.replicate n.toNat c))) H):=by
 intro aA s σ H x y v u Q I rx ry h
 obtain ⟨c,n,rfl,rfl,h1,h2,q⟩:=h
 obtain ⟨t,rfl⟩:=rx
 obtain ⟨t',rfl⟩:=ry
 have hz:(100000:Nat)<sizeLine:=by decide
 have hl1:(sx [c]).length=1:=BX [c]
 refine P.mul_str (by rw [decide_eq_false (by omega),decide_eq_false (by omega)];rfl) (fun _ _=>?_) (fun _ _=>?_) ?_
 ·rw [hl1]
  have:1≤(2^63-1)/n:=by
   rw [Int.le_ediv_iff_mul_le (by omega)]
   omega
  show ¬((1:Nat):Int) > _
  omega
 ·rw [hl1]
  exact decide_eq_false (by omega)
 ·rw [if_neg (by omega)]
  by_cases e:n=1
  ·subst e
   rw [if_pos (by rfl)]
   exact ⟨.str (sx [c]),H,I,⟨t,rfl⟩,q⟩
  ·rw [if_neg (by rw [hl1];simp [e])]
   have ef:(⟨(List.replicate n.toNat (sx [c]).cps).foldl (·++·) #[]⟩:Str)=sx (List.replicate n.toNat c):=by
    have:=RC c n.toNat #[]
    show (⟨(List.replicate n.toNat (#[c]:Array Nat)).foldl (·++·) #[]⟩:Str)=_
    rw [this,Array.empty_append]
    rfl
   rw [ef]
   refine ⟨?_,.str (sx (List.replicate n.toNat c)),H,I.tok _,⟨_,rfl⟩,q⟩
   rw [BX,List.length_replicate]
   omega
end
end L3
namespace L3
open PySem PySem.Spec PyProof.Rows L2 Ra
def DcK(P:Program)(w:World)(K:PySem.W.Frag)(a:Addr)(aG:List (Key×V)):Prop:=(a==sysModules)=false∧∃(o:Obj) (vs:List (Key×Value)),K.lookup a=some o∧Obj.IsDictOf (Bv P w) o vs∧KV aG vs
def AAq(P:Program)(w:World)(K:PySem.W.Frag)(a:Addr)(tab:List (Str×List Str)):Prop:=∃aG,DcK P w K a aG∧Paired (fun (p:Key×V) (e:Str×List Str)=>p.1=.inr e.1∧∃t,p.2=.ref t∧∀H,SqT K H t (e.2.map V.str)) aG tab
def De:List (Str×List Str)→Str→Option (List Str)
 | [],_=>none
 | e::r,x=>if e.1=x then some e.2 else De r x
theorem T4{K:PySem.W.Frag}{aG:List (Key×V)}{tab:List (Str×List Str)}(h:Paired (fun (p:Key×V) (e:Str×List Str)=>p.1=.inr e.1∧∃t,p.2=.ref t∧∀H,SqT K H t (e.2.map V.str)) aG tab)(x:Str) :
  (∀row,De tab x=some row→∃t,Ck aG (.inr x)=some (.ref t)∧∀H,SqT K H t (row.map V.str))∧(De tab x=none→Ck aG (.inr x:Key)=none):=by
 induction h with
 | nil=>exact ⟨fun row h=>(nomatch h),fun _=>rfl⟩
 | @cons p e ps es hp _ ih =>
  obtain ⟨e1,t,e2,e3⟩:=hp
  by_cases hx:e.1=x
  ·refine ⟨fun row h=>?_,fun h=>?_⟩
   ·have h':(if e.1=x then some e.2 else De es x)=some row:=h
    rw [if_pos hx] at h'
    cases h'
    exact ⟨t,by rw [Cd (by rw [e1,hx]),e2],e3⟩
   ·have h':(if e.1=x then some e.2 else De es x)=none:=h
    rw [if_pos hx] at h'
    cases h'
  ·have ne:p.1≠.inr x:=fun z=>hx (by rw [e1] at z;exact Sum.inr.inj z)
   have er:De (e::es) x=De es x:=if_neg hx
   rw [er,Bx ne]
   exact ih
section
variable {X:Cx}{aA:List (Addr×Obj)}{σ:L2.St}{H:Hp}{s:Shared}{a:Addr}{tab:List (Str×List Str)}
theorem YG{aG:List (Key×V)}(I:Inv X aA σ H s)(h:DcK X.prog X.w X.K a aG):(a==sysModules)=false∧∃vs,KV aG vs∧s.heap.DictOf (Bv X.prog X.w) a vs:=by
 obtain ⟨h1,o,vs,hk,hd,rel⟩:=h
 exact ⟨h1,vs,rel,Heap.dictOf_iff.mpr ⟨o,I.kIn a o hk,hd⟩⟩
def ABv(P:Program)(w:World)(K:PySem.W.Frag)(td ty:TE):TE:=fun σ H Q=>td σ H fun x H1=>ty σ H1 fun y H2=>∃a tab t row,x=.ref a∧AAq P w K a tab∧y=.str t∧De tab t=some row∧∀p,SqT K H2 p (row.map V.str)→Q (.ref p) H2
def Zi(P:Program)(w:World)(K:PySem.W.Frag)(ty td:TE):TE:=fun σ H Q=>ty σ H fun y H1=>td σ H1 fun x H2=>∃a tab t,x=.ref a∧AAq P w K a tab∧y=.str t∧Q (.bl (!(De tab t).isSome)) H2
theorem R6{o i:Expr}{td ty:TE}{pos:Pos}(ho:PE X o td)(hi:PE X i ty)(hs:ABa i):PE X (.Subscript o i pos) (ABv X.prog X.w X.K td ty):=by
 intro aA s σ H Q I h
 refine U4 PySem.F.slot_dict_getitem.lookup hs (thn (ho aA s σ H _ I h) fun u s1 ⟨x,H1,I1,rx,q1⟩=>thn (hi aA s1 σ H1 _ I1 q1) fun iv s2 ⟨y,H2,I2,ry,a,tab,t,row,ex,⟨aG,dk,pr⟩,ey,er,q2⟩=>?_)
 subst ex ey
 obtain rfl:u=Value.ref a:=rx
 obtain ⟨hd,vs,rel,dd⟩:=YG I2 dk
 obtain ⟨p,hv,hp⟩:=(T4 pr t).1 row er
 obtain ⟨w',hw,rw'⟩:=Gs.some_of (v:=.ref p) (o:=valueAt vs (.inr t)) (by rw [←hv];exact rel.val _)
 exact ⟨dd.typeIs,wpAny_getItem_of (Km (k:=.inr t) ry) dd.mapOf hw ⟨_,H2,I2.tok _,rw',q2 p (hp H2)⟩⟩
theorem Ud{o i:Expr}{td ty:TE}(hi:PE X i ty)(ho:PE X o td):PC X .NotIn i o (Zi X.prog X.w X.K ty td):=by
 intro aA s σ H Q I h
 refine thn (hi aA s σ H _ I h) fun iv s1 ⟨y,H1,I1,ry,q1⟩=>thn (ho aA s1 σ H1 _ I1 q1) fun u s2 ⟨x,H2,I2,rx,a,tab,t,ex,⟨aG,dk,pr⟩,ey,q2⟩=>?_
 subst ex ey
 obtain rfl:u=Value.ref a:=rx
 obtain ⟨hd,vs,rel,dd⟩:=YG I2 dk
 refine wpAny_notIn_of (Km (k:=.inr t) ry) hd dd.mapOf ?_
 have e:(valueAt vs (.inr t:Key)).isSome=(De tab t).isSome:=by
  rw [←(rel.val (.inr t)).isSome_eq]
  cases hr:De tab t with
  | none=>rw [(T4 pr t).2 hr];rfl
  | some row =>
   obtain ⟨p,hv,_⟩:=(T4 pr t).1 row hr
   rw [hv];rfl
 rw [e]
 exact ⟨.bl (!(De tab t).isSome),H2,I2.tok _,rfl,q2⟩
inductive Ens(w:World):List DictEntry→List (Str×Addr)→Prop
 | nil:Ens w [] []
 | cons {x:Str} {t:Tok} {a:Addr} {es:List DictEntry} {ks:List (Str×Addr)}:Ens w es ks→Ens w (⟨PyData.keyHash w.params x,.str x t,.ref a⟩::es) ((x,a)::ks)
theorem Ens.keys{w:World}{P:Program}{es:List DictEntry}{ks:List (Str×Addr)}(h:Ens w es ks):(∀e∈es,∃k,(Bv P w).is k e.key=true∧e.hash=(Bv P w).hash k)∧Pairs (Bv P w) es (ks.map fun p=>((.inr p.1:Key),Value.ref p.2)):=by
 induction h with
 | nil=>exact ⟨fun e h=>by simp at h,.nil⟩
 | @cons x t a es ks _ ih =>
  refine ⟨fun e h=>?_,.cons (Hl P w x t) rfl ih.2⟩
  rcases List.mem_cons.mp h with z | z
  ·rw [z]
   exact ⟨.inr x,Hl P w x t,rfl⟩
  ·exact ih.1 e z
theorem ABG{P:Program}{w:World}{K:PySem.W.Frag}{a:Addr}{es:Array DictEntry}{ep:Nat}{ks:List (Str×Addr)}(hs:(a==sysModules)=false)(hk:K.lookup a=some ⟨.type "dict",none,.dict es ep,#[]⟩)(he:Ens w es.toList ks)(nd:(ks.map (·.1)).Nodup):DcK P w K a (ks.map fun p=>((.inr p.1:Key),V.ref p.2)):=by
 obtain ⟨k1,k2⟩:=he.keys (P:=P)
 refine ⟨hs,_,_,hk,⟨es,ep,⟨rfl,rfl,rfl⟩,rfl,fun e h=>k1 e (by simpa using h),k2,?_⟩,?_⟩
 ·rw [List.map_map]
  have:((fun (x:Key×Value)=>x.1) ∘ fun (p:Str×Addr)=>((.inr p.1:Key),Value.ref p.2))=(fun (x:Str)=>(.inr x:Key)) ∘ (fun (p:Str×Addr)=>p.1):=rfl
  rw [this,←List.map_map]
  exact List.pairwise_map.mpr (nd.imp fun {a b} h z=>h (Sum.inr.inj z))
 ·clear k1 k2 he nd hk
  induction ks with
  | nil=>exact .nil
  | cons p r ih=>exact .cons ⟨rfl,rfl⟩ ih
end
end L3
namespace L3
open PySem PySem.Spec PyProof.Rows L2 Ra
structure Drw(prog:Program)(w:World)(i l:Addr)(xs:Array Value)(S:Nat→Heap→Prop):Prop where
 mv:∀{k:Nat} {h h':Heap} {c:Addr},S k h→Heap.ExtBut c h h'→i≠c→l≠c→S k h'
 ob:∀{k:Nat} {h:Heap},S k h→∃o,h.get? i=some o∧∃vs,o.data=.fields vs
 nx:∀{A:Around} {E:Value→Shared→Prop} {s:Shared} {k:Nat} {x:Value} {Q:Value→Shared→Prop},S k s.heap→xs[k]?=some x→(∀h',S (k+1) h'→Heap.SameBut i s.heap h'→Q x { s with heap:=h' })→wpAny (model prog w) A (Builtin.SmallTypes.nextOf (.ref i)) Q E s
 en:∀{A:Around} {E:Value→Shared→Prop} {s:Shared} {k:Nat} {Q:Value→Shared→Prop},A.handled=none→S k s.heap→xs[k]?=none→(∀h' e,Heap.ExtBut i s.heap h'→(∃o,h'.get? e=some o∧o.cls=.type "StopIteration")→E (.ref e) { s with heap:=h' })→wpAny (model prog w) A (Builtin.SmallTypes.nextOf (.ref i)) Q E s
theorem Rv{prog:Program}{w:World}{i l:Addr}{xs:Array Value}(ne:l≠i):Drw prog w i l xs (fun k h=>h.IsListIter i l k∧h.IsList l xs) where
 mv:=fun ⟨a,b⟩ e n1 n2=>⟨a.extBut e n1,b.extBut e n2⟩
 ob:=fun ⟨⟨o,e,_,d⟩,_⟩=>⟨o,e,_,d⟩
 nx:=fun ⟨a,b⟩ hx q=>wpAny_nextOf_list_item a b hx fun h' a' sb=>q h' ⟨a',b.extBut sb.extBut ne⟩ sb
 en:=fun hh ⟨a,b⟩ hx q=>wpAny_nextOf_list_end hh a b hx fun h' e k o=>q h' e k o
theorem Vj{prog:Program}{w:World}{i l:Addr}{xs:Array Value}(ne:l≠i):Drw prog w i l xs (fun k h=>h.IsTupleIter i l k∧h.IsTuple l xs) where
 mv:=fun ⟨a,b⟩ e n1 n2=>⟨a.extBut e n1,b.extBut e n2⟩
 ob:=fun ⟨⟨o,e,_,d⟩,_⟩=>⟨o,e,_,d⟩
 nx:=fun {A E s k x Q} ⟨a,b⟩ hx q=>by
  obtain ⟨o,ho,hc,hd⟩:=id a
  obtain ⟨ol,hol,_,nl,hdl⟩:=id b
  unfold Builtin.SmallTypes.nextOf
  refine wpAny_bind (wpAny_callSpecial?_slot (name:=Str.ofString "__next__") a.typeIs F.slot_tuple_iterator_next (wpAny_call_entry F.slot_tuple_iterator_next a.typeIs F.entry_tuple_iterator_next ?_ (F.args_tuple_iterator_next_1 _)))
  show wpAny _ _ (field (.ref i) 0 >>= _) _ _ s
  refine wpAny_bind (wpAny_field ho hd (x:=.ref l) rfl ?_)
  rw [if_neg (show ¬((Value.ref l==Value.none)=true) from Bool.false_ne_true)]
  show wpAny _ _ (field (.ref i) 1 >>= _) _ _ s
  refine wpAny_bind (wpAny_field ho hd (x:=.int k 0) rfl ?_)
  show wpAny _ _ (seqItems? (.ref l) >>= _) _ _ s
  refine wpAny_bind (wpAny_seqItems hol hdl ?_)
  simp only [Int.toNat_natCast,hx]
  have sb:=Heap.SameBut.update s.heap i (Obj.mapFields (·.setIfInBounds 1 (rawInt ((k:Int)+1))))
  refine wpAny_bind (wpAny_setField ho hd (by simp) (wpAny_pure ⟨x,rfl,wpAny_pure (q _ ⟨⟨_,Heap.get?_update_self _ ho (Obj.isFreed_of_fields (Obj.data_mapFields hd _)),(Obj.cls_mapFields ..).trans hc,?_⟩,b.extBut sb.extBut ne⟩ sb)⟩))
  rw [Obj.data_mapFields hd]
  simp [rawInt]
 en:=fun {A E s k Q} hh ⟨a,b⟩ hx q=>by
  obtain ⟨o,ho,hc,hd⟩:=id a
  obtain ⟨ol,hol,_,nl,hdl⟩:=id b
  unfold Builtin.SmallTypes.nextOf
  refine wpAny_bind (wpAny_callSpecial?_slot (name:=Str.ofString "__next__") a.typeIs F.slot_tuple_iterator_next (wpAny_call_entry F.slot_tuple_iterator_next a.typeIs F.entry_tuple_iterator_next ?_ (F.args_tuple_iterator_next_1 _)))
  show wpAny _ _ (field (.ref i) 0 >>= _) _ _ s
  refine wpAny_bind (wpAny_field ho hd (x:=.ref l) rfl ?_)
  rw [if_neg (show ¬((Value.ref l==Value.none)=true) from Bool.false_ne_true)]
  show wpAny _ _ (field (.ref i) 1 >>= _) _ _ s
  refine wpAny_bind (wpAny_field ho hd (x:=.int k 0) rfl ?_)
  show wpAny _ _ (seqItems? (.ref l) >>= _) _ _ s
  refine wpAny_bind (wpAny_seqItems hol hdl ?_)
  simp only [Int.toNat_natCast,hx]
  refine wpAny_bind (wpAny_rule (wpAny_bind (wpAny_setField ho hd (by simp) ?_)))
  show wpAny _ _ (newExc (.type "StopIteration") [] >>= _) _ _ _
  refine wpAny_bind ?_
  simp only [newExc,newTuple]
  refine wpAny_bind (wpAny_newObj_type ?_ (by size_fits))
  refine wpAny_bind (m:=firstArgMember _ _) (wpAny_of_eq (a:=Value.none) (by first | rfl | (simp only [firstArgMember];rfl)) ?_)
  refine wpAny_newObj_type ?_ (by size_fits)
  simp only [raiseNew]
  refine wpAny_bind (wpAny_handled ?_)
  first | rw [show A.in1.handled=none from hh] | rw [hh]
  exact wpAny_bind (wpAny_pure (wpAny_throw (q _ _ (((Heap.SameBut.update ..).extBut.push _).push _) ⟨_,Heap.get?_push_size _ rfl,rfl⟩)))
section
variable {prog:Program}{w:World}{A:Around}{E:Value→Shared→Prop}{s:Shared}{z TI TO i1 i2 l1 l2:Addr}{xs ys:Array Value}{S1 S2:Nat→Heap→Prop}{k1 k2:Nat}{a b:Value}
theorem V5{x y:Value}{Q:Value→Shared→Prop}(D:ZipApart z TI TO i1 i2 l1 l2)(d1:Drw prog w i1 l1 xs S1)(d2:Drw prog w i2 l2 ys S2)(hz:IsZip s.heap z TI TO .none)(hTI:IsPair s.heap TI (.ref i1) (.ref i2))(hTO:IsPair s.heap TO a b)(h1:S1 k1 s.heap)(h2:S2 k2 s.heap)(hx:xs[k1]?=some x)(hy:ys[k2]?=some y)
  (hQ:∀h',IsZip h' z TI TO (rawInt s.heap.objs.size)→IsPair h' TO x y→S1 (k1+1) h'→S2 (k2+1) h'→IsPair h' s.heap.objs.size x y→(∀c o,c≠z→c≠TO→c≠i1→c≠i2→s.heap.get? c=some o→h'.get? c=some o)→Q (.ref s.heap.objs.size) { s with heap:=h' }) :
  wpAny (model prog w) A (Builtin.«zip.__next__» ⟨[.ref z],[]⟩) (fun fin s'=>∃v,fin=.done (.ret v)∧Q v s') E s:=by
 show wpAny _ _ (field (.ref z) 2 >>= _) _ _ _
 refine wpAny_bind (wpAny_field hz rfl (x:=.bool false) rfl ?_)
 show wpAny _ _ (field (.ref z) 3 >>= _) _ _ _
 refine wpAny_bind (wpAny_field hz rfl (x:=.ref TI) rfl (wpAny_bind (wpAny_seqItems hTI rfl ?_)))
 show wpAny _ _ (Builtin.SmallTypes.ownedTupleIsFree (.ref z) >>= _) _ _ _
 refine wpAny_bind ?_
 unfold Builtin.SmallTypes.ownedTupleIsFree
 refine wpAny_bind (wpAny_field hz rfl (x:=.none) rfl (wpAny_pure ?_))
 simp only [if_true]
 refine wpAny_bind (wpAny_rule (wpAny_bind (wpAny_field hz rfl (x:=.ref TO) rfl (wpAny_bind (wpAny_setField_rec hz (by simp) fun g1 q1 b1=>wpAny_bind ?_)))))
 have z1:IsZip g1 z TI TO .ellipsis:=q1
 simp only [List.zipIdx_cons,List.zipIdx_nil,List.forIn_cons,List.forIn_nil]
 refine wpAny_bind (wpAny_bind (wpAny_onRaise ?_))
 show wpAny _ _ (Builtin.SmallTypes.nextOf (.ref i1) >>= _) _ _ _
 refine wpAny_bind (d1.nx (s:={ s with heap:=g1 }) (d1.mv h1 b1.extBut D.i1z D.l1z) hx fun g2 t1 b2=>wpAny_pure ?_)
 have p2:IsPair g2 TO a b:=b2.extBut _ _ D.TOi1 (b1.extBut _ _ D.TOz hTO)
 refine wpAny_bind (wpAny_seqItems p2 rfl (wpAny_bind (wpAny_updateSeq_pair p2 fun g3 p3 b3=>wpAny_bind (wpAny_letGo (wpAny_pure ?_)))))
 replace p3:IsPair g3 TO x b:=p3
 refine wpAny_bind (wpAny_bind (wpAny_onRaise ?_))
 show wpAny _ _ (Builtin.SmallTypes.nextOf (.ref i2) >>= _) _ _ _
 refine wpAny_bind (d2.nx (s:={ s with heap:=g3 }) (d2.mv (d2.mv (d2.mv h2 b1.extBut D.i2z D.l2z) b2.extBut D.i12.symm D.l2i1) b3.extBut D.TOi2.symm D.l2TO) hy fun g4 t2 b4=>wpAny_pure ?_)
 have p4:IsPair g4 TO x b:=b4.extBut _ _ D.TOi2 p3
 refine wpAny_bind (wpAny_seqItems p4 rfl (wpAny_bind (wpAny_updateSeq_pair p4 fun g5 p5 b5=>wpAny_bind (wpAny_letGo (wpAny_pure (wpAny_pure ?_))))))
 replace p5:IsPair g5 TO x y:=p5
 refine wpAny_bind (wpAny_seqItems p5 rfl (wpAny_bind (wpAny_newTuple ?_)))
 have hsz:g5.objs.size=s.heap.objs.size:=by rw [b5.1,b4.1,b3.1,b2.1,b1.1]
 have z5:IsZip g5 z TI TO .ellipsis:=b5.extBut _ _ D.TOz.symm (b4.extBut _ _ D.i2z.symm (b3.extBut _ _ D.TOz.symm (b2.extBut _ _ D.i1z.symm z1)))
 have k5:∀c o,c≠z→c≠TO→c≠i1→c≠i2→s.heap.get? c=some o→g5.get? c=some o:=fun c o c1 c2 c3 c4 e=>b5.extBut _ _ c2 (b4.extBut _ _ c4 (b3.extBut _ _ c2 (b2.extBut _ _ c3 (b1.extBut _ _ c1 e))))
 have t15:S1 (k1+1) g5:=d1.mv (d1.mv (d1.mv t1 b3.extBut D.TOi1.symm D.l1TO) b4.extBut D.i12 D.l1i2) b5.extBut D.TOi1.symm D.l1TO
 have t25:S2 (k2+1) g5:=d2.mv t2 b5.extBut D.TOi2.symm D.l2TO
 have ltz:z<g5.objs.size:=Heap.lt_size z5
 show wpAny _ _ (Builtin.SmallTypes.ownedTupleHandOut (.ref z) (.ref g5.objs.size) >>= _) _ _ _
 refine wpAny_bind ?_
 unfold Builtin.SmallTypes.ownedTupleHandOut
 have z6:IsZip (g5.push { cls:=.type "tuple",data:=.seq #[x,y] }) z TI TO .ellipsis:=Heap.get?_push_of_some _ z5
 refine wpAny_bind (wpAny_setField_rec z6 (by simp) fun g7 q7 b7=>?_)
 have z7:IsZip g7 z TI TO (rawInt g5.objs.size):=q7
 refine wpAny_setField_rec z7 (by simp) fun g8 q8 b8=>?_
 have z8:IsZip g8 z TI TO (rawInt g5.objs.size):=q8
 have b78:Heap.ExtBut z (g5.push { cls:=.type "tuple",data:=.seq #[x,y] }) g8:=fun c o c1 e=>b8.extBut _ _ c1 (b7.extBut _ _ c1 e)
 have up:Heap.ExtBut z g5 g8:=fun c o c1 e=>b78 c o c1 (Heap.get?_push_of_some _ e)
 have pT:IsPair g8 g5.objs.size x y:=b78 _ _ (Nat.ne_of_gt ltz) (Heap.get?_push_size _ rfl)
 rw [hsz] at z8 pT
 refine wpAny_pure ⟨_,rfl,?_⟩
 show Q (.ref g5.objs.size) _
 rw [hsz]
 exact hQ g8 z8 (up _ _ D.TOz p5) (d1.mv t15 up D.i1z D.l1z) (d2.mv t25 up D.i2z D.l2z) pT fun c o c1 c2 c3 c4 e=>up c o c1 (k5 c o c1 c2 c3 c4 e)
theorem W5{Q:Fin→Shared→Prop}(hh:A.handled=none)(D:ZipApart z TI TO i1 i2 l1 l2)(d1:Drw prog w i1 l1 xs S1)(d2:Drw prog w i2 l2 ys S2)(hz:IsZip s.heap z TI TO .none)(hTI:IsPair s.heap TI (.ref i1) (.ref i2))(hTO:IsPair s.heap TO a b)(h1:S1 k1 s.heap)(h2:S2 k2 s.heap)(hend:xs[k1]?=none∨ys[k2]?=none)
  (hE:∀h' e,(∀c o,c≠z→c≠TO→c≠i1→c≠i2→s.heap.get? c=some o→h'.get? c=some o)→(∃o,h'.get? e=some o∧o.cls=.type "StopIteration")→E (.ref e) { s with heap:=h' }) :
  wpAny (model prog w) A (Builtin.«zip.__next__» ⟨[.ref z],[]⟩) Q E s:=by
 show wpAny _ _ (field (.ref z) 2 >>= _) _ _ _
 refine wpAny_bind (wpAny_field hz rfl (x:=.bool false) rfl ?_)
 show wpAny _ _ (field (.ref z) 3 >>= _) _ _ _
 refine wpAny_bind (wpAny_field hz rfl (x:=.ref TI) rfl (wpAny_bind (wpAny_seqItems hTI rfl ?_)))
 show wpAny _ _ (Builtin.SmallTypes.ownedTupleIsFree (.ref z) >>= _) _ _ _
 refine wpAny_bind ?_
 unfold Builtin.SmallTypes.ownedTupleIsFree
 refine wpAny_bind (wpAny_field hz rfl (x:=.none) rfl (wpAny_pure ?_))
 simp only [if_true]
 refine wpAny_bind (wpAny_rule (wpAny_bind (wpAny_field hz rfl (x:=.ref TO) rfl (wpAny_bind (wpAny_setField_rec hz (by simp) fun g1 q1 b1=>wpAny_bind ?_)))))
 have z1:IsZip g1 z TI TO .ellipsis:=q1
 have stop:∀{h:Heap} {e:Addr},IsZip h z TI TO .ellipsis→(∃o,h.get? e=some o∧o.cls=.type "StopIteration")→e≠z:=fun q ⟨o,ho,hc⟩ y=>by
  subst y
  rw [q] at ho
  cases ho
  simp at hc
 simp only [List.zipIdx_cons,List.zipIdx_nil,List.forIn_cons,List.forIn_nil]
 refine wpAny_bind (wpAny_bind (wpAny_onRaise ?_))
 show wpAny _ _ (Builtin.SmallTypes.nextOf (.ref i1) >>= _) _ _ _
 have h1g:=d1.mv h1 b1.extBut D.i1z D.l1z
 cases hx:xs[k1]? with
 | none =>
  refine wpAny_bind (d1.en (s:={ s with heap:=g1 }) hh h1g hx fun g2 e b2 he=>?_)
  have z2:IsZip g2 z TI TO .ellipsis:=b2 _ _ D.i1z.symm z1
  have hez:=stop z2 he
  obtain ⟨oe,hoe,hce⟩:=he
  exact wpAny_setField_rec z2 (by simp) fun g3 _ b3=>hE g3 e (fun c o c1 _ c3 _ y=>b3.extBut _ _ c1 (b2 _ _ c3 (b1.extBut _ _ c1 y))) ⟨oe,b3.extBut _ _ hez hoe,hce⟩
 | some x =>
  have hy:ys[k2]?=none:=hend.resolve_left (by rw [hx];exact fun y=>nomatch y)
  refine wpAny_bind (d1.nx (s:={ s with heap:=g1 }) h1g hx fun g2 t1 b2=>wpAny_pure ?_)
  have p2:IsPair g2 TO a b:=b2.extBut _ _ D.TOi1 (b1.extBut _ _ D.TOz hTO)
  refine wpAny_bind (wpAny_seqItems p2 rfl (wpAny_bind (wpAny_updateSeq_pair p2 fun g3 p3 b3=>wpAny_bind (wpAny_letGo (wpAny_pure (wpAny_bind (wpAny_bind (wpAny_onRaise ?_)))))))) 
  show wpAny _ _ (Builtin.SmallTypes.nextOf (.ref i2) >>= _) _ _ _
  refine wpAny_bind (d2.en (s:={ s with heap:=g3 }) hh (d2.mv (d2.mv (d2.mv h2 b1.extBut D.i2z D.l2z) b2.extBut D.i12.symm D.l2i1) b3.extBut D.TOi2.symm D.l2TO) hy fun g4 e b4 he=>?_)
  have z4:IsZip g4 z TI TO .ellipsis:=b4 _ _ D.i2z.symm (b3.extBut _ _ D.TOz.symm (b2.extBut _ _ D.i1z.symm z1))
  have hez:=stop z4 he
  obtain ⟨oe,hoe,hce⟩:=he
  exact wpAny_setField_rec z4 (by simp) fun g5 _ b5=>hE g5 e (fun c o c1 c2 c3 c4 y=>b5.extBut _ _ c1 (b4 _ _ c4 (b3.extBut _ _ c2 (b2.extBut _ _ c3 (b1.extBut _ _ c1 y))))) ⟨oe,b5.extBut _ _ hez hoe,hce⟩
theorem Td{x y:Value}{Q:Option Value→Shared→Prop}(D:ZipApart z TI TO i1 i2 l1 l2)(d1:Drw prog w i1 l1 xs S1)(d2:Drw prog w i2 l2 ys S2)(hz:IsZip s.heap z TI TO .none)(hTI:IsPair s.heap TI (.ref i1) (.ref i2))(hTO:IsPair s.heap TO a b)(h1:S1 k1 s.heap)(h2:S2 k2 s.heap)(hx:xs[k1]?=some x)(hy:ys[k2]?=some y)
  (hQ:∀h',IsZip h' z TI TO (rawInt s.heap.objs.size)→IsPair h' TO x y→S1 (k1+1) h'→S2 (k2+1) h'→IsPair h' s.heap.objs.size x y→(∀c o,c≠z→c≠TO→c≠i1→c≠i2→s.heap.get? c=some o→h'.get? c=some o)→Q (some (.ref s.heap.objs.size)) { s with heap:=h' }) :
  wpAny (model prog w) A (pyNext (.ref z)) Q E s:=by
 have hT:s.TypeIs (.ref z) "zip":=⟨_,hz,rfl⟩
 unfold pyNext
 exact wpAny_bind (wpAny_attempt (wpAny_callSpecial?_slot (name:=Str.ofString "__next__") hT F.slot_zip_next (wpAny_call_entry F.slot_zip_next hT F.entry_zip_next (V5 D d1 d2 hz hTI hTO h1 h2 hx hy fun h' a1 a2 a3 a4 a5 a6=>wpAny_pure (hQ h' a1 a2 a3 a4 a5 a6)) (F.args_zip_next_1 _))))
theorem WM{Q:Option Value→Shared→Prop}(hh:A.handled=none)(D:ZipApart z TI TO i1 i2 l1 l2)(d1:Drw prog w i1 l1 xs S1)(d2:Drw prog w i2 l2 ys S2)(hz:IsZip s.heap z TI TO .none)(hTI:IsPair s.heap TI (.ref i1) (.ref i2))(hTO:IsPair s.heap TO a b)(h1:S1 k1 s.heap)(h2:S2 k2 s.heap)(hend:xs[k1]?=none∨ys[k2]?=none)
  (hQ:∀h',(∀c o,c≠z→c≠TO→c≠i1→c≠i2→s.heap.get? c=some o→h'.get? c=some o)→Q none { s with heap:=h' }):wpAny (model prog w) A (pyNext (.ref z)) Q E s:=by
 have hT:s.TypeIs (.ref z) "zip":=⟨_,hz,rfl⟩
 unfold pyNext
 refine wpAny_bind (wpAny_attempt (wpAny_callSpecial?_slot (name:=Str.ofString "__next__") hT F.slot_zip_next (wpAny_call_entry F.slot_zip_next hT F.entry_zip_next (W5 hh D d1 d2 hz hTI hTO h1 h2 hend fun h' e hk he=>?_) (F.args_zip_next_1 _))))
 obtain ⟨o,ho,hc⟩:=he
 exact wpAny_bind (wpAny_isInstance (T:="StopIteration") (b:=true) ⟨o,ho,hc⟩ isSubtype_stop (wpAny_pure (hQ _ hk)))
end
def ABI(K:PySem.W.Frag)(a b:Addr):It :=
 ⟨fun i H=>∃xs ys x y,SqT K H a xs∧SqL K H b ys∧xs[i]?=some x∧ys[i]?=some y,
   fun i H v H'=>∃T x y,v=.ref T∧H T=none∧H'=upd H T (.tup [x,y])∧(∀xs,SqT K H a xs→xs[i]?=some x)∧∀ys,SqL K H b ys→ys[i]?=some y,
   fun i H=>∃xs ys,SqT K H a xs∧SqL K H b ys∧(xs.length≤i∨ys.length≤i)⟩
theorem Wl{P:Program}{w:World}{K:PySem.W.Frag}{es:List Expr}{k:Nat}{tp:Pos}(a b z TI TO i1 i2:Addr)(D:ZipApart z TI TO i1 i2 a b):Turn P w K (.Tuple es k tp) (ABI K a b) [z,TI,TO,i1,i2] z
  (fun i h=>IsZip h z TI TO .none∧IsPair h TI (.ref i1) (.ref i2)∧(∃u v,IsPair h TO u v)∧h.IsTupleIter i1 a i∧h.IsListIter i2 b i) where
 mem:=by simp
 obj:=fun i h st c hc=>by
  obtain ⟨s1,s2,⟨u,v,s3⟩,⟨o4,e4,_,d4⟩,⟨o5,e5,_,d5⟩⟩:=st
  simp only [List.mem_cons,List.not_mem_nil,or_false] at hc
  rcases hc with rfl | rfl | rfl | rfl | rfl
  ·exact ⟨_,s1,fun v z=>by
    have z':Data.fields _=Data.cell v:=z
    cases z'⟩
  ·exact ⟨_,s2,fun v z=>by
    have z':Data.seq _ _=Data.cell v:=z
    cases z'⟩
  ·exact ⟨_,s3,fun v z=>by
    have z':Data.seq _ _=Data.cell v:=z
    cases z'⟩
  ·exact ⟨o4,e4,fun v z=>by rw [d4] at z;cases z⟩
  ·exact ⟨o5,e5,fun v z=>by rw [d5] at z;cases z⟩
 keep:=fun i h h' st kk=>by
  obtain ⟨s1,s2,⟨u,v,s3⟩,⟨o4,e4,r4⟩,s5⟩:=st
  exact ⟨kk z (by simp) _ s1,kk TI (by simp) _ s2,⟨u,v,kk TO (by simp) _ s3⟩,⟨o4,kk i1 (by simp) o4 e4,r4⟩,s5.at fun o e=>kk i2 (by simp) o e⟩
 item:=by
  intro X hP hw hK hc i aA s σ H E I hf st hg
  subst hP hw hK
  obtain ⟨s1,s2,⟨u0,v0,s3⟩,s4,s5⟩:=st
  obtain ⟨xs,ys,x,y,hqx,hqy,hx,hy⟩:=hg
  obtain ⟨itx,rvx,px,_⟩:=I.tuple hqx
  obtain ⟨ity,rvy,py,_⟩:=I.list hqy
  obtain ⟨u,hu,ru⟩:=rvx.get hx
  obtain ⟨v,hv,rv⟩:=rvy.get hy
  have ltz:z<s.heap.objs.size:=Heap.lt_size s1
  have ltT:TI<s.heap.objs.size:=Heap.lt_size s2
  have ltO:TO<s.heap.objs.size:=Heap.lt_size s3
  have lt1:i1<s.heap.objs.size:=by obtain ⟨_,e,_⟩:=s4;exact Heap.lt_size e
  have lt2:i2<s.heap.objs.size:=by obtain ⟨_,e,_⟩:=s5;exact Heap.lt_size e
  refine Td D (Vj D.l1i1) (Rv D.l2i2) s1 s2 s3 ⟨s4,px⟩ ⟨s5,py.isList⟩ (x:=u) (y:=v) (by simpa using hu) (by simpa using hv) fun h1 a1 a2 a3 a4 a5 hk1=>⟨_,rfl,wpAny_letOwnedTupleGo_zip a1 fun h2 b1 sb2=>?_⟩
  replace sb2:Heap.SameBut z h1 h2:=sb2
  have fresh:H s.heap.objs.size=none:=I.hok.fresh (Nat.le_refl _)
  have I1:Inv X aA σ (upd H s.heap.objs.size (.tup [x,y])) { s with heap:=s.heap.push { cls:=.type "tuple",data:=.seq ([u,v]:List Value).toArray },toks:=s.toks } :=
   I.laid (fun b o eb=>Heap.get?_push_of_some _ eb) (Nat.le_refl _) (show Bl X.prog X.w _ _ _ (.tup _) from ⟨(by show 2≤sizeLine;decide),_,.cons ru (.cons rv .nil),IsTup.new _ _⟩)
  have fo:∀b,b<s.heap.objs.size→Gv X aA H b→Gv X aA (upd H s.heap.objs.size (.tup [x,y])) b:=fun b lb fb=>⟨by rw [Ai (Nat.ne_of_lt lb)];exact fb.1,fb.2⟩
  have hfo:∀b∈[z,TI,TO,i1,i2],Gv X aA (upd H s.heap.objs.size (.tup [x,y])) b:=fun b hb=>by
   refine fo b ?_ (hf b hb)
   simp only [List.mem_cons,List.not_mem_nil,or_false] at hb
   rcases hb with rfl | rfl | rfl | rfl | rfl <;> assumption
  have I2:=K9 (h':=h2) (t':=s.toks) [z,TI,TO,i1,i2] I1 (fun b o nb eb=>?_) hfo
  ·refine ⟨.ref s.heap.objs.size,_,I2,rfl,⟨_,x,y,rfl,fresh,rfl,fun zs hz=>?_,fun zs hz=>by rw [I.list_inj hz hqy];exact hy⟩,⟨b1,sb2.extBut _ _ D.TIz (hk1 _ _ D.TIz D.TITO D.TIi1 D.TIi2 s2),⟨_,_,sb2.extBut _ _ D.TOz a2⟩,a3.1.extBut sb2.extBut D.i1z,a4.1.extBut sb2.extBut D.i2z⟩,fun b hb=>(hfo b hb).1⟩
   rw [I.tuple_inj hz hqx]
   exact hx
  ·have n1:b≠z:=fun q=>nb (by simp [q])
   have n2:b≠TO:=fun q=>nb (by simp [q])
   have n3:b≠i1:=fun q=>nb (by simp [q])
   have n4:b≠i2:=fun q=>nb (by simp [q])
   rcases Heap.get?_push_cases eb with ⟨rfl,rfl⟩ | eb
   ·exact sb2.extBut _ _ n1 a5
   ·exact sb2.extBut _ _ n1 (hk1 b o n1 n2 n3 n4 eb)
 done:=by
  intro X hP hw hK hc i aA s σ H E I hf st hg
  subst hP hw hK
  obtain ⟨s1,s2,⟨u0,v0,s3⟩,s4,s5⟩:=st
  obtain ⟨xs,ys,hqx,hqy,hend⟩:=hg
  obtain ⟨itx,rvx,px,_⟩:=I.tuple hqx
  obtain ⟨ity,rvy,py,_⟩:=I.list hqy
  have lx:=rvx.length
  have ly:=rvy.length
  refine WM (I.ok.hd hc) D (Vj D.l1i1) (Rv D.l2i2) s1 s2 s3 ⟨s4,px⟩ ⟨s5,py.isList⟩ ?_ fun h' hk=>⟨rfl,K9 (t':=s.toks) [z,TI,TO,i1,i2] I (fun b o nb e=>hk b o (fun q=>nb (by simp [q])) (fun q=>nb (by simp [q])) (fun q=>nb (by simp [q])) (fun q=>nb (by simp [q])) e) hf⟩
  rcases hend with h | h
  ·exact .inl (by simp;omega)
  ·exact .inr (by simp;omega)
 self:=fun _ _ _ _ _ st h=>wpAny_pyIter_zip st.1 h
def zt1(h:Heap)(l1:Addr):Heap:=h.push { cls:=.type "tuple_iterator",data:=.fields #[.ref l1,.int 0 0] }
def zt2(h:Heap)(l1 l2:Addr):Heap:=(zt1 h l1).push { cls:=.type "list_iterator",data:=.fields #[.ref l2,.int 0 0] }
def zt3(h:Heap)(l1 l2:Addr):Heap:=(zt2 h l1 l2).push { cls:=.type "tuple",data:=.seq #[.ref h.objs.size,.ref (zt1 h l1).objs.size] }
def zt4(h:Heap)(l1 l2:Addr):Heap:=(zt3 h l1 l2).push { cls:=.type "tuple",data:=.seq #[.none,.none] }
def zt5(h:Heap)(l1 l2:Addr):Heap:=(zt4 h l1 l2).push { cls:=.type "zip",data:=.fields #[.none,.bool false,.bool false,.ref (zt2 h l1 l2).objs.size,.ref (zt3 h l1 l2).objs.size] }
theorem YS(l1 l2:Addr)(xs ys:Array Value) :
  Meets (Builtin.«zip.__new__» ⟨[.type "zip",.ref l1,.ref l2],[]⟩) (fun _ R s=>s.heap.IsTuple l1 xs∧s.heap.IsList l2 ys∧R (.ok (.ret (.ref (zt4 s.heap l1 l2).objs.size))) { s with heap:=zt5 s.heap l1 l2 }) :=
 .of_wp fun prog w A R s h=>by
  obtain ⟨hp,g,d,tk,os⟩:=s
  obtain ⟨hl1,hl2,h⟩:=h
  have hsub:=sub_zip
  have hL1:Heap.IsTuple (Shared.heap ⟨hp,g,d,tk,os⟩) l1 xs:=hl1
  have hL2:Heap.IsList (Shared.heap ⟨hp.push { cls:=.type "tuple_iterator",data:=.fields #[.ref l1,.int 0 0] },g,d,tk,os⟩) l2 ys:=Heap.IsList.push hl2 _
  wp_walk using wpAny_pyIter_tuple hL1,wpAny_pyIter_list hL2
  exact ⟨_,rfl,h⟩
section
variable {prog:Program}{w:World}{A:Around}{E:Value→Shared→Prop}{s:Shared}
theorem V1{l1 l2:Addr}{xs ys:Array Value}{Q:Value→Shared→Prop}(hl1:s.heap.IsTuple l1 xs)(hl2:s.heap.IsList l2 ys)
  (h:∀h',IsZip h' (s.heap.objs.size+4) (s.heap.objs.size+2) (s.heap.objs.size+3) .none→IsPair h' (s.heap.objs.size+2) (.ref s.heap.objs.size) (.ref (s.heap.objs.size+1)) →
   IsPair h' (s.heap.objs.size+3) .none .none→h'.IsTupleIter s.heap.objs.size l1 0→h'.IsListIter (s.heap.objs.size+1) l2 0→(∀c o,s.heap.get? c=some o→h'.get? c=some o)→Q (.ref (s.heap.objs.size+4)) { s with heap:=h' }) :
  wpAny (model prog w) A (call (.type "zip") [.ref l1,.ref l2]) Q E s:=by
 refine callType_new F.called_zip (by decide) (F.typeCall_zip_2 _ _) (F.newCall_zip_2 _ _) (fun obj=>F.args_object_init_3 obj _ _) F.entry_zip_new (YS l1 l2 xs ys) ⟨hl1,hl2,?_⟩
 have z1:(zt1 s.heap l1).objs.size=s.heap.objs.size+1:=Heap.size_push ..
 have z2:(zt2 s.heap l1 l2).objs.size=s.heap.objs.size+2:=(Heap.size_push ..).trans (by rw [z1])
 have z3:(zt3 s.heap l1 l2).objs.size=s.heap.objs.size+3:=(Heap.size_push ..).trans (by rw [z2])
 have z4:(zt4 s.heap l1 l2).objs.size=s.heap.objs.size+4:=(Heap.size_push ..).trans (by rw [z3])
 have u5:∀c o,(zt4 s.heap l1 l2).get? c=some o→(zt5 s.heap l1 l2).get? c=some o:=fun c o e=>Heap.get?_push_of_some _ e
 have u4:∀c o,(zt3 s.heap l1 l2).get? c=some o→(zt5 s.heap l1 l2).get? c=some o:=fun c o e=>u5 c o (Heap.get?_push_of_some _ e)
 have u3:∀c o,(zt2 s.heap l1 l2).get? c=some o→(zt5 s.heap l1 l2).get? c=some o:=fun c o e=>u4 c o (Heap.get?_push_of_some _ e)
 have u2:∀c o,(zt1 s.heap l1).get? c=some o→(zt5 s.heap l1 l2).get? c=some o:=fun c o e=>u3 c o (Heap.get?_push_of_some _ e)
 have u1:∀c o,s.heap.get? c=some o→(zt5 s.heap l1 l2).get? c=some o:=fun c o e=>u2 c o (Heap.get?_push_of_some _ e)
 have g5:(zt5 s.heap l1 l2).get? (zt4 s.heap l1 l2).objs.size=some { cls:=.type "zip",data:=.fields #[.none,.bool false,.bool false,.ref (zt2 s.heap l1 l2).objs.size,.ref (zt3 s.heap l1 l2).objs.size] }:=Heap.get?_push_size _ rfl
 have g4:(zt5 s.heap l1 l2).get? (zt3 s.heap l1 l2).objs.size=some { cls:=.type "tuple",data:=.seq #[.none,.none] }:=u5 _ _ (Heap.get?_push_size _ rfl)
 have g3:(zt5 s.heap l1 l2).get? (zt2 s.heap l1 l2).objs.size=some { cls:=.type "tuple",data:=.seq #[.ref s.heap.objs.size,.ref (zt1 s.heap l1).objs.size] }:=u4 _ _ (Heap.get?_push_size _ rfl)
 have g2:(zt5 s.heap l1 l2).get? (zt1 s.heap l1).objs.size=some { cls:=.type "list_iterator",data:=.fields #[.ref l2,.int 0 0] }:=u3 _ _ (Heap.get?_push_size _ rfl)
 have g1:(zt5 s.heap l1 l2).get? s.heap.objs.size=some { cls:=.type "tuple_iterator",data:=.fields #[.ref l1,.int 0 0] }:=u2 _ _ (Heap.get?_push_size _ rfl)
 show _∧_
 rw [z2,z3,z4] at g5
 rw [z1,z2] at g3
 rw [z3] at g4
 rw [z1] at g2
 rw [z4]
 exact ⟨⟨_,g5,rfl⟩,h _ g5 g3 g4 ⟨_,g1,rfl,rfl⟩ ⟨_,g2,rfl,rfl⟩ u1⟩
end
def AH8(K:PySem.W.Frag)(ta:TA):TI:=fun σ H R=>ta σ H fun vs H1=>∃a b,vs=[.ref a,.ref b]∧(∃xs,SqT K H1 a xs)∧(∃ys,SqL K H1 b ys)∧R (ABI K a b) H1
theorem VN{X:Cx}{es:List Expr}{k:Nat}{tp:Pos}{a b:Expr}{ta:TA}{p pos:Pos}(hg:Gl X "zip")(hm:X.mg "zip"=none)(ha:PA X [a,b] ta)(hs:starEach [a,b] X.env=[(false,eval a X.env),(false,eval b X.env)]:=by rfl)(hs2:starEach [b] X.env=[(false,eval b X.env)]:=by rfl) :
  PI X (.Tuple es k tp) (.Call (.Name "zip" p) [a,b] [] pos) (AH8 X.K ta):=by
 intro aA s σ H R I h
 refine Call_ (HR I hg hm boot_zip (PyProof.Rows.callWith_type1 (thn (ha pos aA s σ H _ I h) fun us s1 ⟨vs,H1,I1,r1,q1⟩=>?_) (by rw [hs,hs2]) (by rw [hs2];rfl)))
 obtain ⟨l1,l2,rfl,⟨xs,hqx⟩,⟨ys,hqy⟩,q⟩:=q1
 cases r1 with
 | cons r rr =>
  cases rr with
  | cons r' rr =>
   cases rr
   cases r
   cases r'
   obtain ⟨itx,rvx,px,_⟩:=I1.tuple hqx
   obtain ⟨ity,rvy,py,_⟩:=I1.list hqy
   have a1:l1<s1.heap.objs.size:=by obtain ⟨_,e,_⟩:=px;exact Heap.lt_size e
   have a2:l2<s1.heap.objs.size:=by obtain ⟨_,e,_⟩:=py.isList;exact Heap.lt_size e
   refine V1 px py.isList fun h' hz hTI hTO hi1 hi2 hk=>wpAny_pyIter_zip hz ?_
   have I2:Inv X aA σ H1 { s1 with heap:=h' }:=I1.kept (t':=s1.toks) hk
   refine ⟨s1.heap.objs.size+4,[s1.heap.objs.size+4,s1.heap.objs.size+2,s1.heap.objs.size+3,s1.heap.objs.size,s1.heap.objs.size+1],_,_,H1,rfl,I2,Wl l1 l2 _ _ _ _ _ (zipApart_new a1 a2),⟨hz,hTI,⟨_,_,hTO⟩,hi1,hi2⟩,fun b hb=>?_,q⟩
   simp only [List.mem_cons,List.not_mem_nil,or_false] at hb
   rcases hb with rfl | rfl | rfl | rfl | rfl
   ·exact I1.fpOk (Nat.le_add_right _ 4) (I1.hok.fresh (Nat.le_add_right _ 4))
   ·exact I1.fpOk (Nat.le_add_right _ 2) (I1.hok.fresh (Nat.le_add_right _ 2))
   ·exact I1.fpOk (Nat.le_add_right _ 3) (I1.hok.fresh (Nat.le_add_right _ 3))
   ·exact I1.fpOk (Nat.le_refl _) (I1.hok.fresh (Nat.le_refl _))
   ·exact I1.fpOk (Nat.le_add_right _ 1) (I1.hok.fresh (Nat.le_add_right _ 1))
theorem Ph{K:PySem.W.Frag}{a b:Addr}{ks ys:List V}{β:Type}{bs:List β}{te:Shared→Hp→Addr→List Addr→TE}{js:List Nat}{σ:L2.St}{H1:Hp}{Q:VK}(G:Addr→Hp→V→β→Prop)(n:Nat)(hn:n≤100000)(hk:ks.length=n)(hy:ys.length=n)(hb:bs.length=n)
  (keep:∀{D H H' v x},G D H v x→Aj H H'→G D H' v x) (put:∀{D H v x xs zs},G D H v x→H D=some (.lst xs)→G D (upd H D (.lst zs)) v x) (ha:∀H,Aj H1 H→SqT K H a ks) (hbl:H1 b=some (.lst ys))
  (hs:∀s₀ H₀ C ex (i:Nat) k y x H D zs (R:VK),ks[i]?=some k→ys[i]?=some y→bs[i]?=some x→Aj H1 H→H1 D=none→H D=some (.lst zs)→(∀v H2,Aj H H2→G D H2 v x→R v H2)→te s₀ H₀ C ex (some k::some y::js.map fun j=>(σ[j]?).join) H R)
  (hd:∀H D vs,Aj H1 H→H1 D=none→H D=some (.lst vs)→Paired (G D H) vs bs→Q (.ref D) H):VJ (ABI K a b) (ABg K 2 (R0 (Iw 0) (R0 (Iw 1) ABu))) (fun _ _ _ _=>LR) te 2 js σ Q H1:=by
 intro D hD
 refine ⟨fun i m vs H=>m=n-i∧i≤n∧Paired (G D H) vs (bs.take i)∧Aj H1 H∧H D=some (.lst vs),⟨n,by simp,Nat.zero_le _,.nil,Ag hD _,Ad⟩,?_⟩
 rintro i m vs H ⟨rfl,hi,pr,sm,hDl⟩
 refine ⟨hDl,?_⟩
 have hrb:=sm _ _ hbl
 have hra:=ha H sm
 by_cases hlt:i<n
 ·have h1:ks[i]?=some (ks[i]'(by omega)):=List.getElem?_eq_getElem (by omega)
  have h2:ys[i]?=some (ys[i]'(by omega)):=List.getElem?_eq_getElem (by omega)
  have h3:bs[i]?=some (bs[i]'(by omega)):=List.getElem?_eq_getElem (by omega)
  refine .inr ⟨⟨_,_,_,_,hra,SqL.of hrb,h1,h2⟩,?_⟩
  rintro v H' ⟨T,x,y,rfl,hT,rfl,ex,ey⟩ s₀ H₀ C ex0 σ0 hσ
  have ex':=ex _ hra
  have ey':=ey _ (SqL.of hrb)
  rw [h1] at ex'
  rw [h2] at ey'
  cases ex'
  cases ey'
  obtain ⟨v1,v2,rfl⟩:∃v1 v2,σ0=[v1,v2]:=by
   match σ0,hσ with
   | [v1,v2],_=>exact ⟨v1,v2,rfl⟩
  have u:=Ag hT (.tup [ks[i]'(by omega),ys[i]'(by omega)])
  refine ⟨T,_,rfl,SqT.of Ad,rfl,_,_,rfl,_,_,rfl,rfl,⟨[some (ks[i]'(by omega)),some (ys[i]'(by omega))],rfl,rfl⟩,?_⟩
  dsimp only [LR]
  refine FN ?_
  have hDl':=u _ _ hDl
  refine hs s₀ H₀ C ex0 i _ _ _ _ D vs _ h1 h2 h3 (sm.trans u) hD hDl' fun v H2 s2 g2=>?_
  have hz:(100000:Nat)<sizeLine:=by decide
  have h2D:=s2 _ _ hDl'
  have lv:vs.length=i:=by
   rw [Paired.length pr,List.length_take]
   omega
  refine ⟨h2D,by omega,n-(i+1),by omega,rfl,hlt,?_,CK ((sm.trans u).trans s2) hD _,Ad⟩
  rw [List.take_succ,h3]
  have app:∀{xs us:List V} {zs ws:List β} {HH:Hp},Paired (G D HH) xs zs→Paired (G D HH) us ws→Paired (G D HH) (xs++us) (zs++ws):=by
   intro xs us zs ws HH h k
   induction h with
   | nil=>exact k
   | cons x _ ih=>exact .cons x ih
  exact app (Paired.imp' (fun _ _ z=>put (keep z (u.trans s2)) h2D) pr) (.cons (put g2 h2D) .nil)
 ·have e:i=n:=by omega
  subst e
  rw [←hb,List.take_length] at pr
  exact .inl ⟨⟨_,_,hra,SqL.of hrb,by omega⟩,hd H D vs sm hD hDl pr⟩
end L3
namespace L3
open PySem PySem.Spec PyProof.Rows L2 Ra
theorem got{P:Program}{w:World}{H:Hp}{h:Heap}{a:Addr}{o:HO}(x:Bl P w H h a o):∃ob,h.get? a=some ob:=by
 induction o with
 | lst xs=>obtain ⟨_,_,_,_,e⟩:=x;exact ⟨_,e⟩
 | tup xs=>obtain ⟨_,_,_,ob,e,_⟩:=x;exact ⟨_,e⟩
 | dK aG=>obtain ⟨_,_,_,_,o,_,_,e,_⟩:=x;exact ⟨_,e⟩
 | dT aG=>obtain ⟨_,_,_,_,o,_,_,e,_⟩:=x;exact ⟨_,e⟩
 | set S n=>obtain ⟨o,_,_,_,e,_⟩:=x;exact ⟨_,e⟩
 | ins C dx fs=>obtain ⟨_,_,_,e,_⟩:=x;exact ⟨_,e⟩
 | own y=>exact x
 | xd fs=>obtain ⟨_,⟨_,_,_,e,_⟩,_⟩:=x;exact ⟨_,e⟩
 | rng lo hi=>obtain ⟨_,_,_,e⟩:=x;exact ⟨_,e⟩
 | frz ob u ih=>obtain ⟨e,_⟩:=x;exact ⟨_,e⟩
 | tbl ps=>exact ⟨_,x⟩
 | met f y=>exact ⟨_,x⟩
 | ext φ=>obtain ⟨_,e,_⟩:=x;exact e
structure Fly(outer:List Env)(H:Hp)(h0:Heap)(a:Addr)(C:Value)(h:Heap):Prop where
 ex:∃B T a0,Heap.FlyingW B outer a C a0 h∧(∀b o,h.get? b=some o→b∉frs outer→b≠a→b≠T→B.get? b=some o)∧H a=none∧H T=none∧h0.get? a=none∧h0.get? T=none
def CXe(P:Program)(w:World):CXT:=fun outer H s E e s'=>∃a C H',e=.ref a∧s'.os=s.os∧AllBare s'.gens∧Un (frs outer) [] H H' s.heap s'.heap∧HOk P w H' s'.heap∧Fly outer H' s.heap a C s'.heap∧E C none H'
section
variable {P:Program}{w:World}{K:PySem.W.Frag}{mg:Str→Option Value}{base:Heap}{N:List Str}{qual:Str}{scope:Scope}{f:Addr}{cd:Value}{A:Around}{outer:List Env}{s:Shared}{H:Hp}{E:XK}
 {aA:List (Addr×Obj)} {σ:L2.St} {H1:Hp} {s1:Shared}
end
abbrev Oi:List Value:=[.type "ValueError",.type "Exception",.type "BaseException",.type "object"]
def KH(K:PySem.W.Frag)(C:Addr):Prop:=PySem.W.excIn K C Oi "ValueError.__new__"=true
theorem KH.parts{K:PySem.W.Frag}{h:Heap}{C:Addr}(X:K.In h)(e:KH K C) :
  ∃bm Nn nm qn bs hd sn sub ab col dd k0 k1 k2 k3 k5 mN,h.get? C=some (excClassObj nm qn C Nn bs bm hd sn sub ab col dd k0 k1 k2 k3 k5 "ValueError.__new__")∧h.Ns Nn mN∧mN "__init__"=none∧OwnTail h Oi bm:=by
 unfold KH PySem.W.excIn at e
 split at e
 ·rename_i d1 c1 l1 look
  split at e
  ·rename_i C1 b1 x0 x1 x2 x3 n1 x5 em es
   simp only [Bool.and_eq_true,beq_iff_eq,Bool.not_eq_true'] at e
   obtain ⟨⟨⟨⟨⟨e1,e2⟩,e3⟩,e4⟩,e5⟩,e6⟩:=e
   subst e1 e2
   obtain ⟨nm,bs,mro,ns,qn,hd,sn,sub,ab,col,del⟩:=c1
   dsimp only at em e3 e5 e6
   subst em e3
   obtain ⟨arr⟩:=l1
   have es':arr=[x0,x1,x2,x3,some (.builtin "ValueError.__new__"),x5]:=es
   subst es'
   exact ⟨b1,ns,nm,qn,bs,hd,sn,sub,ab,col,d1,x0,x1,x2,x3,x5,_,X _ _ look,.of_isNs (PySem.W.isNs_of_in X e5),PySem.W.nsMap_none_of_in X e5 e6,PySem.W.tail_of_in X e4⟩
  ·cases e
 ·cases e
def AAv(E:XK)(C:Addr)(ta:TA):TS:=fun _ σ H=>ta σ H fun vs H1=>vs.length≤sizeLine∧E (.ref C) none H1
section
variable {P:Program}{w:World}{K:PySem.W.Frag}{mg:Str→Option Value}{base:Heap}{N:List Str}{qual:Str}{scope:Scope}{f:Addr}{cd:Value}{A:Around}{outer:List Env}{s:Shared}{H:Hp}{E:XK}
end
end L3
namespace L3
open PySem PySem.Spec PyProof.Rows L2 Ra
structure AKP(P:Program)(w:World)(K:PySem.W.Frag)(mg:Str→Option Value)(base:Heap)(x:Str)(k:Nat)(ps:List Str)(ds:List Value)(dvs:List V)(sp:Sp):Prop where
 ex:∃f fd,BZ P w K mg base (CXe P w) k f fd ps sp∧En K fd ps ds∧PySem.W.keepIn K (.ref f)=true∧mg x=some (.ref f)
 dv:BW dvs ds
def XP(X:Cx)(aA:List (Addr×Obj))(R:Value→L2.St→Hp→Prop)(e:Value)(s':Shared):Prop :=
 ∃a C σ' H' H1 s1,e=.ref a∧Inv X aA σ' H1 s1∧Inv X aA σ' H' s'∧Fly X.stack H' s1.heap a C s'.heap∧R C σ' H'
def PSx(X:Cx)(st:Stmt)(t:(Value→L2.St→Hp→Prop)→TS):Prop :=
 ∀(aA:List (Addr×Obj)) (s:Shared) (σ:L2.St) (H:Hp) (D:K1) (R:Value→L2.St→Hp→Prop),Inv X aA σ H s→t R D σ H→wpAny (model X.prog X.w) X.A (exec st X.env) (SP X aA D) (XP X aA R) s
def AJR(sp:Sp)(dvs:List V)(t:TA):(Value→L2.St→Hp→Prop)→TS:=fun R D σ H=>t σ H fun vs H1=>sp (vs++dvs) H1 (fun _ H2=>D.nx σ H2) fun C _ H2=>R C σ H2
def hdl(X:Cx)(a:Addr):Cx:={ X with A:=X.A.mark (some (.ref a)),calm:=false,xe:=fun _ _=>False }
section
variable {X:Cx}{aA:List (Addr×Obj)}{σ:L2.St}{H:Hp}{s:Shared}
theorem AAZ(I:Inv X aA σ H s)(a:Addr):Inv (hdl X a) aA σ H s :=
 ⟨⟨I.ok.mod,I.ok.kind,I.ok.glob,I.ok.blt,I.ok.above,I.ok.inj,I.ok.has,I.ok.cab,fun z=>absurd (show false=true from z) Bool.false_ne_true,I.ok.frames,I.ok.stk,I.ok.exf,I.ok.bs,I.ok.bsz,I.ok.noex,I.ok.exfs,I.ok.funs,I.ok.frf⟩,
  I.os,I.bare,I.base,I.loc,I.cell,I.free,I.freeC,I.pin,I.hok,I.len⟩
theorem QW{a:Addr}(I:Inv (hdl X a) aA σ H s)(ok:X.Ok):Inv X aA σ H s:=⟨ok,I.os,I.bare,I.base,I.loc,I.cell,I.free,I.freeC,I.pin,I.hok,I.len⟩
def more(X:Cx)(l:List Addr):Cx:={ X with ex:=X.ex++l }
theorem AAw{l:List Addr}(I:Inv X aA σ H s)(hl:∀b∈l,b≠X.env.locals∧(∀x c,X.env.cells.lookup x=some c→c≠b)∧X.base.get? b=none∧b∉X.fs):Inv (more X l) aA σ H s:=by
 refine ⟨⟨I.ok.mod,I.ok.kind,I.ok.glob,I.ok.blt,I.ok.above,I.ok.inj,I.ok.has,I.ok.cab,I.ok.hd,I.ok.frames,I.ok.stk,fun b hb=>?_,I.ok.bs,I.ok.bsz,fun b o e hb=>?_,fun b hb=>?_,I.ok.funs,I.ok.frf⟩,
  I.os,I.bare,I.base.mono (fun _ z=>z) (fun b z=>List.mem_append_left _ z),I.loc,I.cell,I.free,I.freeC,I.pin,I.hok,I.len⟩
 ·rcases List.mem_append.mp hb with z | z
  ·exact I.ok.exf b z
  ·exact ⟨(hl b z).1,(hl b z).2.1⟩
 ·rcases List.mem_append.mp hb with z | z
  ·exact I.ok.noex b o e z
  ·have e':X.base.get? b=some o:=e
   rw [(hl b z).2.2.1] at e'
   cases e'
 ·rcases List.mem_append.mp hb with z | z
  ·exact I.ok.exfs b z
  ·exact (hl b z).2.2.2
theorem Zg{l:List Addr}(I:Inv (more X l) aA σ H s)(ok:X.Ok)(hl:∀b∈l,X.s₀.heap.get? b=none):Inv X aA σ H s:=by
 have nl:∀b o,X.s₀.heap.get? b=some o→b∉X.ex→b∉(more X l).ex:=fun b o q nx z=>by
  rcases List.mem_append.mp z with z | z
  ·exact nx z
  ·rw [hl b z] at q
   cases q
 exact ⟨ok,I.os,I.bare,⟨fun b o q n h1 h2=>I.base.keep b o q n h1 (nl b o q h2),fun b o q n h1 h2=>I.base.slot b o q n h1 (nl b o q h2),fun b o q n h2=>I.base.free b o q n (nl b o q h2),fun b o q h2=>I.base.there b o q (nl b o q h2),I.base.tups,I.base.frzs,I.base.tbls⟩,
  I.loc,I.cell,I.free,I.freeC,I.pin,I.hok,I.len⟩
theorem XF{H1:Hp}{s1:Shared}{a T:Addr}{B h2:Heap}(hex:X.ex=[])(I0:Inv X aA σ H1 s1)(I:Inv X aA σ H s)(h0a:s1.heap.get? a=none)(h0T:s1.heap.get? T=none)(ha:H a=none)(hT:H T=none)
  (cov:∀b o,s.heap.get? b=some o→b∉frs X.stack→b≠a→b≠T→B.get? b=some o) (stay:B.StaysIn h2) (up:s.heap.UpToSlots h2):Inv X aA σ H { s with heap:=h2 }:=by
 have ne1:∀b o,s1.heap.get? b=some o→b≠a∧b≠T:=fun b o q=>⟨(fun z=>by rw [z,h0a] at q;cases q),(fun z=>by rw [z,h0T] at q;cases q)⟩
 have cond:∀b∈[a,T],b≠X.env.locals∧(∀x c,X.env.cells.lookup x=some c→c≠b)∧X.base.get? b=none∧b∉X.fs:=fun b hb=>by
  have hb':b=a∨b=T:=by simpa using hb
  have nb:∀c o,s1.heap.get? c=some o→c≠b:=fun c o q=>by
   rcases hb' with rfl | rfl
   ·exact (ne1 c o q).1
   ·exact (ne1 c o q).2
  refine ⟨?_,fun x c e=>?_,?_,fun z=>?_⟩
  ·obtain ⟨m,⟨o,_,_,q,_⟩,_⟩:=I0.loc
   exact (nb _ o q).symm
  ·obtain ⟨v,o,q,_⟩:=I0.cell x c e
   exact nb c o q
  ·cases q:X.base.get? b with
   | none=>rfl
   | some o=>exact absurd rfl (nb b o (I0.bk b o q))
  ·obtain ⟨_,o,q,_⟩:=I0.funs.mem z
   exact absurd rfl (nb b o q)
 have tr:∀c u,H c=some u→c∉frs X.stack∧c≠a∧c≠T:=fun c u e=>by
  refine ⟨fun z=>?_,fun z=>?_,fun z=>?_⟩
  ·have:=I.stkFree c z
   rw [e] at this
   cases this
  ·rw [z,ha] at e
   cases e
  ·rw [z,hT] at e
   cases e
 have ks:∀b o,s.heap.get? b=some o→b∈frs X.stack→∃sl,h2.get? b=some { o with slots:=sl }:=fun b o q hb=>by
  obtain ⟨_,o',q',hd⟩:=I.stack.mem hb
  rw [q] at q'
  cases q'
  exact up b o q hd
 have U:Un (frs X.stack) [a,T] H H s.heap h2:=by
  refine ⟨fun b o q _ h1 h3=>stay b o (cov b o q h1 (fun z=>h3 (by simp [z])) fun z=>h3 (by simp [z])),fun b o q _ h1 _=>ks b o q h1,fun _ _ _ n _=>n,fun b o q h3=>?_,fun _ _ q=>q,fun _ _ _ q=>q,fun b ps q=>⟨#[],by rw [q];simp⟩⟩
  by_cases hb:b∈frs X.stack
  ·obtain ⟨sl,q2⟩:=ks b o q hb
   exact ⟨_,q2⟩
  ·exact ⟨o,stay b o (cov b o q hb (fun z=>h3 (by simp [z])) fun z=>h3 (by simp [z]))⟩
 have hok:HOk X.prog X.w H h2:=fun b ob q=>by
  refine (I.hok b ob q).stay (fun c u hc qc=>?_) (fun _ z=>z) fun _ _ z=>z
  have t:c∉frs X.stack∧c≠a∧c≠T:=by
   rcases hc with rfl | hc
   ·exact tr c ob q
   ·exact tr c _ hc
  exact stay c u (cov c u qc t.1 t.2.1 t.2.2)
 have I2:=(AAw I cond).call' (s':={ s with heap:=h2 }) (ch:=[a,T]) rfl U hok I.bare (fun b hb=>⟨.inl (List.mem_append_right _ hb),(cond b hb).1,(cond b hb).2.1,fun p hp z=>?_⟩)
 ·refine Zg I2 I.ok fun b hb=>?_
  have hb':b=a∨b=T:=by simpa using hb
  cases q:X.s₀.heap.get? b with
  | none=>rfl
  | some o =>
   obtain ⟨o',q1⟩:=I0.base.there b o q (by rw [hex];simp)
   rcases hb' with rfl | rfl
   ·exact absurd rfl (ne1 _ _ q1).1
   ·exact absurd rfl (ne1 _ _ q1).2
 ·have hb':b=a∨b=T:=by simpa using hb
  have q:=(I0.pin p hp).1
  rcases hb' with rfl | rfl
  ·exact (ne1 _ _ q).1 z
  ·exact (ne1 _ _ q).2 z
def Z9(a:Addr)(C:Value)(h:Heap):Prop:=∃o,h.get? a=some o∧o.cls=C
theorem ZR{i:Nat}{n:Str}{v:Option Value}{m:Str→Option Value}{h2:Heap}{tk:Nat}(I:Inv X aA σ H s)(hN:X.N.Nodup)(hi:X.N[i]?=some n)
  (hl:∀(j:Nat) (x:Str) (y:V),X.N[j]?=some x→σ[j]?=some (some y)→Vis X.env.scope x→∃u,Bb y u∧AHa X.env s.heap m x u)
  (n2:h2.Ns X.env.locals (fun x=>if x=n then v else m x)) (sb:Heap.SameBut X.env.locals s.heap h2):Inv X aA (σ.set i none) H { s with heap:=h2,toks:=tk }:=by
 have neL:∀b o,X.s₀.heap.get? b=some o→b≠X.env.locals:=fun b o q z=>by
  rw [z] at q
  exact absurd (Nat.lt_of_lt_of_le (Heap.lt_size q) I.ok.above) (Nat.lt_irrefl _)
 refine ⟨I.ok,I.os,I.bare,⟨fun b o q k h1 h3=>?_,fun b o q k h1 h3=>?_,I.base.free,fun b o q h3=>?_,I.base.tups,I.base.frzs,I.base.tbls⟩,⟨_,n2,fun j x y e1 e2 e3=>?_⟩,fun x c e=>?_,I.free,I.freeC,fun p hp=>?_,fun b ob q=>?_,by rw [List.length_set];exact I.len⟩
 ·rw [show ({ s with heap:=h2,toks:=tk }:Shared).heap.get? b=s.heap.get? b from sb.2 b (neL b o q)]
  exact I.base.keep b o q k h1 h3
 ·obtain ⟨sl,q1⟩:=I.base.slot b o q k h1 h3
  exact ⟨sl,by rw [show ({ s with heap:=h2,toks:=tk }:Shared).heap.get? b=s.heap.get? b from sb.2 b (neL b o q)];exact q1⟩
 ·obtain ⟨o',q1⟩:=I.base.there b o q h3
  exact ⟨o',by rw [show ({ s with heap:=h2,toks:=tk }:Shared).heap.get? b=s.heap.get? b from sb.2 b (neL b o q)];exact q1⟩
 ·have hj:j≠i:=fun z=>by
   subst z
   by_cases hlt:j<σ.length
   ·rw [List.getElem?_set_self hlt] at e2
    cases e2
   ·rw [List.getElem?_eq_none (by rw [List.length_set];omega)] at e2
    cases e2
  rw [List.getElem?_set_ne (Ne.symm hj)] at e2
  have hx:x≠n:=fun z=>hj (Ml hN e1 (z ▸ hi))
  obtain ⟨u,ru,lk⟩:=hl j x y e1 e2 e3
  refine ⟨u,ru,?_⟩
  rcases lk with ⟨k1,k2⟩ | ⟨k1,c,k2,k3⟩
  ·exact .inl ⟨k1,by show (if x=n then v else m x)=some u;rw [if_neg hx];exact k2⟩
  ·exact .inr ⟨k1,c,k2,k3.sameBut sb (I.cne x c k2)⟩
 ·obtain ⟨u,z⟩:=I.cell x c e
  exact ⟨u,z.sameBut sb (I.cne x c e)⟩
 ·obtain ⟨q1,q2,q3,q4⟩:=I.pin p hp
  exact ⟨(sb.2 p.1 q3).trans q1,q2,q3,q4⟩
 ·refine (I.hok b ob q).stay (fun c u hc qc=>(sb.2 c fun z=>?_).trans qc) (fun _ z=>z) fun _ _ z=>z
  have hf:=I.free
  rcases hc with z2 | z2
  ·rw [←z,z2,q] at hf
   cases hf
  ·rw [←z,z2] at hf
   cases hf
end
def unb(i:Nat)(D:K1):K1:={ nx:=fun σ H=>D.nx (σ.set i none) H,rt:=D.rt,bk:=fun σ H=>D.bk (σ.set i none) H,ct:=fun σ H=>D.ct (σ.set i none) H }
def AKY(K:PySem.W.Frag)(C0:Addr)(i:Nat)(tb:(Value→L2.St→Hp→Prop)→TS)(ts:Addr→TS):TS:=fun D σ H =>
 tb (fun C σ' H'=>PySem.W.exmOne K C (.ref C0)=some true∧∀a,H' a=none→ts a (unb i D) (σ'.set i (some (.ref a))) (upd H' a (.ext (Z9 a C)))) D σ H
end L3
namespace L3
open PySem PySem.Spec PyProof.Rows L2 Ra
def AGt(xs ys:List V):Bool:=(List.range xs.length).all fun j=>eqV (xs.getD j .non) (ys.getD j .non)
section
variable {X:Cx}
def AKg(K:PySem.W.Frag)(neg:Bool):R2:=fun x y H Q=>∃a b xs ys,x=.ref a∧y=.ref b∧SqL K H a xs∧SqL K H b ys∧xs.length=ys.length∧xs.all Hs=true∧ys.all Hs=true∧Q (.bl (if neg then !AGt xs ys else AGt xs ys)) H
end
end L3
namespace L3
open PySem
theorem T5{K:PySem.W.Frag}{c d:Addr}(h1:PySem.W.subIn K (.ref d) (.type "BaseException")=some true)(h2:PySem.W.kitOne K (.ref c) (.ref d)=some true)(h3:(Value.ref c==.ref d)=false):PySem.W.exmOne K (.ref c) (.ref d)=some true:=by
 unfold PySem.W.exmOne
 rw [h1,if_pos (by rfl)]
 unfold PySem.W.kitOne at h2
 rw [h3,if_neg (by decide)] at h2
 exact h2
end L3
namespace L3
open PySem PySem.Spec PySem.Calls PyProof.Rows L2 Ra Builtin Builtin.ObjectAttr Builtin.Getset_descriptor
structure GR(K:PySem.W.Frag)(D:Addr):Prop where
 is:PySem.W.isClsIn K D=true
 ga:PySem.W.findIn K (.ref D) "__getattribute__"=some (some (.builtin "BaseException.__getattribute__"))
 no:PySem.W.findIn K (.ref D) "__getattr__"=some none
 cl:PySem.W.findIn K (.ref D) "__class__"=some (some (.builtin "object.__class__"))
 mb:PySem.W.mroIn K D (.type "BaseException")=some true
 mo:PySem.W.mroIn K D (.type "object")=some true
section
variable {prog:Program}{w:World}{A:Around}{E:Value→Shared→Prop}{h:Heap}{g:Array GenState}{d:Drawn}{t:Nat}{os:OsState}{a D:Addr}{K:PySem.W.Frag}
theorem Yo{R:Result→Shared→Prop}{tp:Value}(X:K.In h)(L0:PySem.W.Looks (model prog w) h (typeOf (.ref a)) (.ref D))(B:GR K D)(hq:R (.ok (.ret (.ref D))) ⟨h,g,d,t,os⟩) :
  codeAny (model prog w) A (.call (.builtin "getset_descriptor.__get__") ⟨[.builtin "object.__class__",.ref a,tp],[]⟩) R ⟨h,g,d,t,os⟩:=by
 have L1:=PySem.W.looks_mroIn (M:=model prog w) X B.mo
 refine codeAny_call_builtin PySem.W.KF.slot_gs.plain PySem.W.KF.entry_gs ?_
 refine PySem.W.KF.slot_gs.check _ _ _ _ _ _ _ _ PySem.W.KF.type_class (PySem.W.KF.args_gs _ _ _) ?_
 unfold Builtin.«getset_descriptor.__get__» descrGet
 rw [PySem.W.dga_obj]
 refine wpAny_bind (wpAny_pure ?_)
 unfold descrGetter descrCheckInstance descrNameAndClass isInstance
 simp only [PySem.W.KF.owner_class]
 repeat lk
 refine ⟨Code.quiet_builtin _ (by decide +kernel),codeAny_builtin PySem.W.KF.entry_class ?_⟩
 unfold Builtin.«object.__class__» shownTypeOf
 repeat lk
 exact hq
theorem Pj{M:Model}{nameV:Value}{Q:Unit→Shared→Prop}{o:Obj}(X:K.In h)(hx:h.get? a=some o)(hc:o.cls=.ref D)(B:GR K D)(hq:Q () ⟨h,g,d,t,os⟩) :
  wpAny M A (checkBuiltinCall "BaseException.__getattribute__" ⟨[.ref a,nameV],[]⟩) Q E ⟨h,g,d,t,os⟩:=by
 have L1:=PySem.W.looks_mroIn (M:=M) X B.mb
 have k1:builtinKind "BaseException.__getattribute__"=some .slot:=by decide +kernel
 have k2:splitId "BaseException.__getattribute__"=some ("BaseException","__getattribute__"):=by decide +kernel
 have k3:=F.args_bexc_ga (.ref a) nameV
 simp only [checkBuiltinCall,k1,k2]
 refine wpAny_bind ?_
 unfold isInstance
 repeat (first | (with_reducible refine wpAny_loadPart_at hx ?_;rw [hc]) | with_reducible refine L1.here ?_ | wp_step)
 exact hq
theorem Wn{tk:Tok}{Q:Fin→Shared→Prop}{o:Obj}(X:K.In h)(hx:h.get? a=some o)(hc:o.cls=.ref D)(B:GR K D)(hq:Q (.done (.ret (.ref D))) ⟨h,g,d,t,os⟩) :
  wpAny (model prog w) A (Builtin.«object.__getattribute__» ⟨[.ref a,.str "__class__" tk],[]⟩) Q E ⟨h,g,d,t,os⟩:=by
 have t5:(⟨h,g,d,t,os⟩:Shared).TypeIs (.builtin "object.__class__") "getset_descriptor":=F.typeOf_object_class
 have t6:=F.slot_gs_get.lookup
 have t7:=F.slot_gs_set.lookup
 have L1:=PySem.W.looks_findIn (M:=model prog w) X B.cl
 repeat (any_goals (first | assumption | (with_reducible refine wpAny_loadPart_at hx ?_;rw [hc]) | with_reducible refine L1.here ?_ | wp_step))
 refine Yo X (hc ▸ (PySem.W.Looks.ld hx).andThen .now) B ?_
 repeat (any_goals (first | assumption | wp_step))
theorem ABP{tk:Tok}{fill expr:Bool}{Q:Value→Shared→Prop}{o:Obj}(X:K.In h)(hx:h.get? a=some o)(hc:o.cls=.ref D)(B:GR K D)(hq:Q (.ref D) ⟨h,g,d,t,os⟩) :
  wpAny (model prog w) A (getAttrBy (.ref a) (.str "__class__" tk) fill expr) Q E ⟨h,g,d,t,os⟩:=by
 have f3:=F.attr_ValueError.ga.bind (.ref a)
 have x0:(expr&&onTheHeap (Value.builtin "BaseException.__getattribute__"))=false:=by cases expr <;> rfl
 have x2:(Value.builtin "BaseException.__getattribute__"==Value.builtin "object.__getattribute__")=false:=by decide +kernel
 have x1:(onTheHeap (Value.ref D)&&Value.builtin "BaseException.__getattribute__"==Value.builtin "object.__getattribute__")=false:=by rw [x2];rfl
 have L1:=PySem.W.looks_findIn (M:=model prog w) X B.ga
 have L2:=PySem.W.looks_findIn (M:=model prog w) X B.no
 repeat (any_goals (first | assumption | (with_reducible refine wpAny_loadPart_at hx ?_;rw [hc]) | with_reducible refine L1.here ?_ | with_reducible refine L2.here ?_ | wp_step))
 refine codeAny_call_builtin F.attr_ValueError.ga.plain F.entry_bexc_ga (Pj X hx hc B (Wn X hx hc B ?_))
 repeat (any_goals (first | assumption | wp_step))
theorem Wo{Q:Option Value→Shared→Prop}{o:Obj}(X:K.In h)(hx:h.get? a=some o)(hc:o.cls=.ref D)(B:GR K D)(hq:Q (some (.ref D)) ⟨h,g,d,t+1,os⟩) :
  wpAny (model prog w) A (getAttr? (.ref a) "__class__") Q E ⟨h,g,d,t,os⟩:=by
 unfold getAttr? getAttrBy?
 repeat (any_goals (first | assumption | with_reducible apply ABP X hx hc B | wp_step))
theorem Ww(B:GR K D):PySem.W.KitX K (.ref a) (.ref D) (Z9 a (.ref D)) where
 ty:=fun M h _ p=>by
  obtain ⟨o,e1,e2⟩:=p
  exact e2 ▸ (PySem.W.Looks.ld e1).andThen .now
 it:=fun M h X _=>by
  have z:=B.is
  unfold PySem.W.isClsIn at z
  cases q:PySem.W.clsIn K D with
  | none=>rw [q] at z;cases z
  | some cd =>
   unfold PySem.W.clsIn at q
   split at q
   ·rename_i look
    intro A' Q' E' s' k q'
    unfold isType loadHead
    exact wpAny_bind (wpAny_loadPart (k _ _ (X _ _ look)) (wpAny_pure q'))
   ·cases q
 ne:=fun h tp dd its n sl X htp=>by
  have z:=B.is
  unfold PySem.W.isClsIn at z
  refine Bool.eq_false_iff.mpr fun e=>?_
  have e':D=tp:=Value.ref.inj (beq_iff_eq.mp e)
  subst e'
  cases q:PySem.W.clsIn K D with
  | none=>rw [q] at z;cases z
  | some cd =>
   unfold PySem.W.clsIn at q
   split at q
   ·rename_i look
    cases (X _ _ look).symm.trans htp
   ·cases q
 ca:=fun {prog w A E Q s} X p k=>by
  obtain ⟨h,g,d,t,os⟩:=s
  obtain ⟨o,e1,e2⟩:=p
  exact Wo X e1 e2 B k
end
section
variable {X:Cx}
def AJi:V→Option Value
 | .ref a=>some (.ref a)
 | .ty n=>some (.type n)
 | _=>none
end
end L3
namespace L3
open PySem PySem.Spec PyProof.Rows L2 Ra
theorem Uv{h h' base base':Heap}(hb:∀b,base.get? b=none→base'.get? b=none):∀{l:List Env},(∀b o,b∈frs l→h.get? b=some o→∃sl,h'.get? b=some { o with slots:=sl })→h.FunFrames base l→h'.FunFrames base' l
 | [],_,_=>trivial
 | env::Bh,hk,F=>by
  obtain ⟨k,⟨L,o,f1,f2,f3,f4⟩,r⟩:=F
  have mL:L∈frs (env::Bh):=List.mem_filterMap.mpr ⟨env,by simp,f1⟩
  obtain ⟨sl,e⟩:=hk L o mL f3
  refine ⟨k,⟨L,_,f1,hb _ f2,e,f4⟩,Uv hb (fun b o hb' q=>hk b o ?_ q) r⟩
  obtain ⟨en,m,f⟩:=List.mem_filterMap.mp hb'
  exact List.mem_filterMap.mpr ⟨en,by simp [m],f⟩
section
variable {P:Program}{w:World}{K:PySem.W.Frag}{mg:Str→Option Value}{base:Heap}{N:List Str}{qual:Str}{scope:Scope}{f:Addr}{cd:Value}{A:Around}{outer:List Env}{s:Shared}{H:Hp}{E:XK}
 {aA:List (Addr×Obj)} {σ:L2.St} {H1:Hp} {s1 s2:Shared}
end
def Tw(X:Cx)(csc:Scope)(N':List Str)(s₀:Shared)(H₀:Hp)(C:Addr)(ex:List Addr)(Y:Value→Shared→Prop):Cx:={ blk X csc N' s₀ H₀ C ex with xe:=Y }
theorem Y9{X:Cx}{csc:Scope}{N':List Str}{s₀:Shared}{H₀:Hp}{C:Addr}{ex:List Addr}{Y:Value→Shared→Prop}{aA:List (Addr×Obj)}{σ:L2.St}{H:Hp}{s:Shared}(I:Inv (blk X csc N' s₀ H₀ C ex) aA σ H s):Inv (Tw X csc N' s₀ H₀ C ex Y) aA σ H s :=
 ⟨⟨I.ok.mod,I.ok.kind,I.ok.glob,I.ok.blt,I.ok.above,I.ok.inj,I.ok.has,I.ok.cab,I.ok.hd,I.ok.frames,I.ok.stk,I.ok.exf,I.ok.bs,I.ok.bsz,I.ok.noex,I.ok.exfs,I.ok.funs,I.ok.frf⟩,I.os,I.bare,I.base,I.loc,I.cell,I.free,I.freeC,I.pin,I.hok,I.len⟩
theorem Yu{X:Cx}{csc:Scope}{N':List Str}{s₀:Shared}{H₀:Hp}{C:Addr}{ex:List Addr}{Y:Value→Shared→Prop}{aA:List (Addr×Obj)}{σ:L2.St}{H:Hp}{s:Shared}(I:Inv (Tw X csc N' s₀ H₀ C ex Y) aA σ H s):Inv (blk X csc N' s₀ H₀ C ex) aA σ H s :=
 ⟨⟨I.ok.mod,I.ok.kind,I.ok.glob,I.ok.blt,I.ok.above,I.ok.inj,I.ok.has,I.ok.cab,I.ok.hd,I.ok.frames,I.ok.stk,I.ok.exf,I.ok.bs,I.ok.bsz,I.ok.noex,I.ok.exfs,I.ok.funs,I.ok.frf⟩,I.os,I.bare,I.base,I.loc,I.cell,I.free,I.freeC,I.pin,I.hok,I.len⟩
theorem Te{X:Cx}{CX:CXT}{E:XK}{elt iter target:Expr}{ifs:List Expr}{pos pos':Pos}{csc:Scope}{wi:TI}{tg:TG}{tt:Shared→Hp→Addr→List Addr→TT}{te:Shared→Hp→Addr→List Addr→TE}(xs:List Str)(js:List Nat){N':List Str}{fsc:Scope}{N:List Str}(ok:Jl fsc csc xs js N N')(hi:PI X target iter wi)(hg:∀s₀ H₀ C ex,PG (blk X csc N' s₀ H₀ C ex) target tg)(ht:∀s₀ H₀ C ex,PTs (blk X csc N' s₀ H₀ C ex) ifs (tt s₀ H₀ C ex))
  (he:∀s₀ H₀ C ex Y,Dy CX (Tw X csc N' s₀ H₀ C ex Y) E→PE (Tw X csc N' s₀ H₀ C ex Y) elt (te s₀ H₀ C ex)) (hc:X.calm=true) (hsc:X.env.scope=fsc) (hXN:X.N=N) (hs:∀x,foldedSetIterable iter X.env x=pure x)
  (use:Option (Value→Sem Unit)) (R:Value→Shared→Prop) (hX:∀(C:Addr) (acc e:Value) (aA:List (Addr×Obj)) (σ:L2.St) (H1:Hp) (s1 s2:Shared),Inv X aA σ H1 s1→Gv X aA H1 C→(∃m,s1.heap.Ns C m)→CX X.stack H1 s1 E e s2→notedBy (model X.prog X.w) X.A (compEnvC csc (clo csc X.env) C X.env) (fun e s'=>compPost (model X.prog X.w) X.A X.xe use R acc C (.error e) s') e s2) {aA:List (Addr×Obj)} {s:Shared} {σ:L2.St} {H:Hp} {Q:VK} (I:Inv X aA σ H s) (h:Q4 wi tg tt te xs.length js σ H Q)
  (hfin:∀(D C:Addr) (s6:Shared) (H5:Hp) (m6:Str→Option Value) (r:Flow),Inv X aA σ H5 s6→Gv X aA H5 C→s6.heap.Ns C m6→Q (.ref D) H5→compPost (model X.prog X.w) X.A X.xe use R (.ref D) C (.ok r) s6) :
  wpAny (model X.prog X.w) X.A (comprehension (.ListComp elt [⟨target,iter,ifs,0⟩] csc pos) csc X.env pos' (newList []) false (eval iter X.env) use) R X.xe s:=by
 have hkX:X.env.scope.kind=.function:=I.ok.kind
 have hfree:∀y∈csc.names,y.2=.free→∃c,X.env.cells.lookup y.1=some c:=fun y hy hk=>I.ok.has y.1 (.inl (by show X.env.scope.names.lookup y.1=_;rw [hsc];exact ok.fr y hy hk))
 have hcl:∀y c,(clo csc X.env).lookup y=some c→X.env.cells.lookup y=some c:=fun y c e=>by
  obtain ⟨m,e2⟩:=W3 e
  obtain ⟨c',e3⟩:=hfree _ m rfl
  rw [e3] at e2
  rw [e3,e2]
  rfl
 refine wpAny_comprehension_free (use:=use) rfl hs (Ls hfree) ok.kind ok.nm ?_
 refine thn (hi aA s σ H _ I h) fun v s1 h1=>thn h1 fun itv s2 h2=>?_
 obtain ⟨it,fp,tn,J,H2,e,I2,T,st2,f2,hw⟩:=h2
 subst e
 have hD:H2 s2.heap.objs.size=none:=I2.hok.fresh (Nat.le_refl _)
 obtain ⟨W,⟨m0,w0⟩,turn⟩:=hw _ hD
 refine wpAny_newObj_type ?_ (by show 0≤sizeLine;decide)
 have I3:Inv X aA σ (upd H2 s2.heap.objs.size (.lst [])) { s2 with heap:=s2.heap.push { cls:=.type "list",data:=.seq ([]:List Value).toArray } }:=I2.lnew (t':=s2.toks) .nil (by show 0≤sizeLine;decide)
 generalize hs3:({ s2 with heap:=s2.heap.push { cls:=.type "list",data:=.seq ([]:List Value).toArray } }:Shared)=s3 at I3 ⊢
 have hsz:s3.heap.objs.size=s2.heap.objs.size+1:=by rw [←hs3,Heap.size_push]
 generalize hDe:s2.heap.objs.size=D at *
 have tn3:tn 0 s3.heap:=T.keep 0 s2.heap _ st2 fun b hb o e=>by rw [←hs3];exact Heap.get?_push_of_some _ e
 have fpD:∀b∈fp,b≠D:=fun b hb z=>by
  obtain ⟨o,e,_⟩:=T.obj 0 _ st2 b hb
  rw [z,←hDe] at e
  exact absurd (Heap.lt_size e) (Nat.lt_irrefl _)
 have f3:∀b∈fp,upd H2 D (.lst []) b=none:=fun b hb=>by rw [Ai (fpD b hb)];exact (f2 b hb).1
 refine wpAny_newFunctionEnv ok.cell (by intro y hy;simp at hy) (fun h4 hns hsb=>?_) ok.kind
 generalize hCe:s3.heap.objs.size=C at *
 have ltC:∀b o,s3.heap.get? b=some o→b<C:=fun b o e=>by
  rw [←hCe]
  exact Heap.lt_size e
 have keep4:∀b o,s3.heap.get? b=some o→h4.get? b=some o:=fun b o e=>by
  rw [hsb.2 b (Nat.ne_of_lt (ltC b o e))]
  exact Heap.get?_push_of_some _ e
 have Xok:(blk X csc N' s3 (upd H2 D (.lst [])) C fp).Ok:=by
  refine ⟨I3.ok.mod,?_,I3.ok.glob,I3.ok.blt,?_,fun y z c h1 h2=>I3.ok.inj y z c (hcl y c h1) (hcl z c h2),fun y hy=>?_,fun y c h1 _=>?_,I3.ok.hd,I3.ok.frames,.inl rfl,fun b hb=>?_,I3.bs,?_,fun b o e hb=>?_,fun b hb hz=>?_,I3.stack,I3.stkFree⟩
  ·exact ok.kind
  ·exact Nat.le_of_eq hCe
  ·have hy':(relabel csc X.env).names.lookup y=some .cell∨(relabel csc X.env).names.lookup y=some .free:=hy
   cases hk:csc.names.lookup y with
   | none =>
    rw [JW hk] at hy'
    rcases hy' with z | z <;> cases z
   | some k =>
    have hm:(y,k)∈csc.names:=PySem.mem_of_lookup hk
    by_cases hkf:k=.free
    ·subst hkf
     exact Lg hm
    ·have hb:(k==NameKind.free)=false:=by simpa using hkf
     rw [Cw hk] at hy'
     simp only [hb,Bool.false_and,Bool.false_eq_true,if_false] at hy'
     rcases hy' with z | z
     ·exact absurd (Option.some.inj z) (ok.cell _ hm)
     ·exact absurd (Option.some.inj z) hkf
  ·exact absurd (show false=true from h1) Bool.false_ne_true
  ·obtain ⟨g0,g1,g2,g3,g4,g5⟩:=f2 b hb
   refine ⟨fun z=>?_,fun y c e=>g4 y c (hcl y c e)⟩
   obtain ⟨o,e,_⟩:=T.obj 0 _ tn3 b hb
   have z':b=C:=z
   have l:=ltC b o e
   rw [z'] at l
   exact absurd l (Nat.lt_irrefl _)
  ·exact Nat.le_trans I3.ok.bsz I3.sz
  ·obtain ⟨g0,g1,g2,g3,g4,g5⟩:=f2 b hb
   rcases g3 with z | z
   ·exact I3.ok.noex b o e z
   ·exact absurd (Nat.lt_of_lt_of_le (Heap.lt_size e) (Nat.le_trans I3.ok.bsz z)) (Nat.lt_irrefl _)
  ·obtain ⟨g0,g1,g2,g3,g4,g5⟩:=f2 b hb
   rcases List.mem_cons.mp (I3.stkSub b hz) with z | z
   ·exact g1 z
   ·exact g2 z
 have hfreeC:H2 C=none∧upd H2 D (.lst []) C=none:=by
  have q:upd H2 D (.lst []) C=none:=I3.hok.fresh (Nat.le_of_eq hCe)
  refine ⟨?_,q⟩
  rw [Ai (by rw [hsz];exact Nat.succ_ne_self D)] at q
  exact q
 have I4:Inv (blk X csc N' s3 (upd H2 D (.lst [])) C fp) [] (List.replicate xs.length none++js.map fun j=>(σ[j]?).join) (upd H2 D (.lst [])) { s3 with heap:=h4,toks:=s3.toks+([]:List (Str×Value)).length }:=by
  refine ⟨Xok,rfl,I3.bare,Un.kept keep4,⟨_,hns,fun i y v h1 h2 h3=>?_⟩,fun y c e=>?_,hfreeC.2,fun y c e=>I3.freeC y c (hcl y c e),fun p hp=>absurd (show p∈([]:List (Addr×Obj)) from hp) (by simp),I3.hok.kept keep4,?_⟩
  ·have h1':(xs++js.map fun j=>N.getD j "")[i]?=some y:=by rw [←ok.eqN];exact h1
   by_cases hi:i<xs.length
   ·rw [List.getElem?_append_left (by rw [List.length_replicate];exact hi),List.getElem?_replicate] at h2
    rw [if_pos hi] at h2
    cases h2
   ·rw [List.getElem?_append_right (by omega),List.getElem?_map] at h1'
    rw [List.getElem?_append_right (by rw [List.length_replicate];omega),List.length_replicate,List.getElem?_map] at h2
    cases ej:js[i-xs.length]? with
    | none=>rw [ej] at h2;cases h2
    | some j =>
     rw [ej] at h1' h2
     obtain ⟨jl,jf⟩:=ok.js j (List.mem_of_getElem? ej)
     have ey:N.getD j ""=y:=Option.some.inj h1'
     have ev:(σ[j]?).join=some v:=Option.some.inj h2
     have ev':σ[j]?=some (some v):=by
      cases q:σ[j]? with
      | none=>rw [q] at ev;cases ev
      | some o=>rw [q] at ev;rw [show o=some v from ev]
     have eN:X.N[j]?=some y:=by rw [hXN,←ey,List.getD_eq_getElem?_getD,List.getElem?_eq_getElem jl];rfl
     rw [ey] at jf
     have kX:X.env.scope.names.lookup y=some .cell:=by rw [hsc];exact ok.fr (y,.free) (PySem.mem_of_lookup jf) rfl
     obtain ⟨m3,n3,l3⟩:=I3.loc
     obtain ⟨u,ru,lk⟩:=l3 j y v eN ev' (.inr (.inl kX))
     refine ⟨u,ru,.inr ⟨?_,?_⟩⟩
     ·left
      show (relabel csc X.env).names.lookup y=some .cell
      rw [Cw jf]
      have k2:X.env.kindOf y=some .cell:=kX
      rw [hkX,k2]
      rfl
     ·rcases lk with ⟨z,_⟩ | ⟨_,c,hc1,hc2⟩
      ·have z':X.env.scope.names.lookup y=some .local:=z
       rw [kX] at z'
       cases z'
      ·obtain ⟨c',e'⟩:=Lg (env:=X.env) (PySem.mem_of_lookup jf)
       have:c'=c:=by
        have q:=hcl y c' e'
        rw [hc1] at q
        exact (Option.some.inj q).symm
       subst this
       obtain ⟨oc,ho,hd⟩:=hc2
       exact ⟨c',e',oc,keep4 _ _ ho,hd⟩
  ·obtain ⟨v,oc,ho,hd⟩:=I3.cell y c (hcl y c e)
   exact ⟨v,oc,keep4 _ _ ho,hd⟩
  ·show (List.replicate xs.length none++js.map _).length=N'.length
   rw [ok.eqN]
   simp
 have stat:∀{H':Hp},(∀b∈fp,H' b=none)→∀b∈fp,Gv (blk X csc N' s3 (upd H2 D (.lst [])) C fp) [] H' b:=fun hn b hb=>by
  obtain ⟨g0,g1,g2,g3,g4,g5⟩:=f2 b hb
  exact ⟨hn b hb,(Xok.exf b hb).1,Xok.exfs b hb,.inl hb,(Xok.exf b hb).2,fun p hp=>absurd (show p∈([]:List (Addr×Obj)) from hp) (by simp)⟩
 have loop:∀s':Shared,Inv (blk X csc N' s3 (upd H2 D (.lst [])) C fp) [] (List.replicate xs.length none++js.map fun j=>(σ[j]?).join) (upd H2 D (.lst [])) s'→tn 0 s'.heap →
   codeAny (model X.prog X.w) X.A (.compLoop (.ListComp elt [⟨target,iter,ifs,0⟩] csc pos) 0 (.ref it) (.ref D) (compEnvC csc (clo csc X.env) C X.env)) (compPost (model X.prog X.w) X.A X.xe use R (.ref D) C) s':=by
  rintro s' I' t0
  refine Jd (fun m s=>∃i ys H',Inv (blk X csc N' s3 (upd H2 D (.lst [])) C fp) [] (List.replicate xs.length none++js.map fun j=>(σ[j]?).join) H' s∧tn i s.heap∧(∀b∈fp,H' b=none)∧W i m ys H') ?_ m0 ⟨0,[],_,I',t0,f3,w0⟩
  rintro m s5 ⟨i,ys,H5,I5,t5,fr5,w5⟩
  obtain ⟨hDl,tt'⟩:=turn i m ys H5 w5
  rcases tt' with ⟨stop,qn⟩ | ⟨go,step⟩
  ·refine thn (T.done (blk X csc N' s3 (upd H2 D (.lst [])) C fp) rfl rfl rfl hc i [] s5 _ H5 _ I5 (stat fr5) t5 stop) fun r s6 ⟨hr,I6⟩=>?_
   subst hr
   obtain ⟨m6,n6,_⟩:=I6.loc
   have I7:Inv X aA σ H5 s6:=I3.call' (s':=s6) I6.os I6.base I6.hok I6.bare fun b hb=>by
    obtain ⟨g0,g1,g2,g3,g4,g5⟩:=f2 b hb
    exact ⟨g3,g1,g4,g5⟩
   exact hfin D C s6 H5 m6 _ I7 (I3.fpOk (Nat.le_of_eq hCe) I6.free) n6 qn
  ·refine thn (T.item (blk X csc N' s3 (upd H2 D (.lst [])) C fp) rfl rfl rfl hc i [] s5 _ H5 _ I5 (stat fr5) t5 go) fun r s6 ⟨u,hr,h6⟩=>?_
   subst hr
   refine thn h6 fun _ s7 ⟨xv,H6,I6,rx,y6,t6,fr6⟩=>?_
   have I6':=I6.pinned (stat fr6) (T.obj _ _ t6)
   have back:∀{H10:Hp} {s10:Shared} {σ1 σ0:L2.St},σ1=σ0++(js.map fun j=>(σ[j]?).join)→σ0.length=xs.length→Inv (blk X csc N' s3 (upd H2 D (.lst [])) C fp) ([]++Jz fp s7.heap) σ1 H10 s10 →
     Inv (blk X csc N' s3 (upd H2 D (.lst [])) C fp) [] (List.replicate xs.length none++js.map fun j=>(σ[j]?).join) H10 s10∧tn (i+1) s10.heap∧∀b∈fp,H10 b=none:=by
    intro H10 s10 σ1 σ0 e1 e2 I10
    subst e1
    refine ⟨(Inv.unpinned (aA:=[]) I10).weak (by simp [e2]) fun k v hk=>?_,T.keep _ _ _ t6 fun b hb o e=>(I10.pin (b,o) (List.mem_append_right _ (List.mem_append_right _ (Ed hb e)))).1,fun b hb=>?_⟩
    ·by_cases hk':k<xs.length
     ·rw [List.getElem?_append_left (by rw [List.length_replicate];exact hk'),List.getElem?_replicate,if_pos hk'] at hk
      cases hk
     ·rw [List.getElem?_append_right (by rw [List.length_replicate];omega),List.length_replicate] at hk
      rw [List.getElem?_append_right (by omega),e2]
      exact hk
    ·obtain ⟨o,e,d⟩:=T.obj _ _ t6 b hb
     exact (I10.pin (b,o) (List.mem_append_right _ (List.mem_append_right _ (Ed hb e)))).2.1
   have st0:=step xv H6 y6 s3 (upd H2 D (.lst [])) C fp (List.replicate xs.length none) (List.length_replicate ..)
   refine wpAny_mono (hg s3 (upd H2 D (.lst [])) C fp _ s7 _ H6 xv u _ I6' rx st0) (fun _ s8 h8=>?_) (fun _ _ z=>False.elim z)
   obtain ⟨σ1,H8,I8,⟨σ0,e1,e2⟩,q8⟩:=h8
   refine wpAny_mono (ht s3 (upd H2 D (.lst [])) C fp _ s8 σ1 H8 _ I8 q8) (fun ok' s9 h9=>?_) (fun _ _ z=>False.elim z)
   obtain ⟨H9,I9,q9⟩:=h9
   cases ok' with
   | false =>
    have q9':=q9
    rw [if_neg Bool.false_ne_true] at q9'
    obtain ⟨hD9,m',hm',w9⟩:=q9'
    show if false=true then _ else _
    rw [if_neg Bool.false_ne_true]
    obtain ⟨I10,t10,f10⟩:=back e1 e2 I9
    exact ⟨m',hm',i+1,ys,H9,I10,t10,f10,w9⟩
   | true =>
    have q9':=q9
    rw [if_pos rfl] at q9'
    show if true=true then _ else _
    rw [if_pos rfl]
    have ps:Dy CX (Tw X csc N' s3 (upd H2 D (.lst [])) C fp (notedBy (model X.prog X.w) X.A (compEnvC csc (clo csc X.env) C X.env) fun e s'=>compPost (model X.prog X.w) X.A X.xe use R (.ref D) C (.error e) s')) E:=fun pins' σ' H1' s1' e' s2' I' hcx=>by
     obtain ⟨mC,nC,_⟩:=I'.loc
     exact hX C (.ref D) e' aA σ H1' s1' s2' (I3.call' (s':=s1') I'.os I'.base I'.hok I'.bare fun b hb=>by
      obtain ⟨g0,g1,g2,g3,g4,g5⟩:=f2 b hb
      exact ⟨g3,g1,g4,g5⟩) (I3.fpOk (Nat.le_of_eq hCe) I'.free) ⟨mC,nC⟩ hcx
    refine wpAny_mono (he s3 (upd H2 D (.lst [])) C fp _ ps _ s9 σ1 H9 _ (Y9 I9) q9') (fun yv s10 h10=>?_) (fun _ _ z=>z)
    obtain ⟨y,H10,I10E,ry,hD10,hlt,m',hm',w10⟩:=h10
    have I10:=Yu I10E
    refine wpAny_mono (Fp (X:=blk X csc N' s3 (upd H2 D (.lst [])) C fp) _ s10 _ H10 (.ref D) [y] (.ref D) [yv] (fun _ H11=>H11=upd H10 D (.lst (ys++[y]))) I10 rfl (.cons ry .nil) ⟨D,ys,y,rfl,rfl,hD10,hlt,rfl⟩) (fun v11 s11 h11=>?_) (fun _ _ z=>False.elim z)
    obtain ⟨v12,H12,I12,r12,e12⟩:=h11
    subst e12
    obtain ⟨J1,J2,J3⟩:=back e1 e2 I12
    exact ⟨m',hm',i+1,ys++[y],_,J1,J2,J3,w10⟩
 have tn4:tn 0 h4:=T.keep 0 _ _ tn3 fun b _ o e=>keep4 b o e
 exact codeAny_compStart_list (loop _ I4 tn4) (T.self X.A 0 _ _ _ tn4 (loop _ I4 tn4))
section
variable {P:Program}{w:World}{K:PySem.W.Frag}{mg:Str→Option Value}{base:Heap}{N:List Str}{qual:Str}{scope:Scope}{f:Addr}{cd:Value}{A:Around}{outer:List Env}{s:Shared}{H:Hp}{E:XK}
end
section
variable {P:Program}{w:World}{K:PySem.W.Frag}{mg:Str→Option Value}{base:Heap}{N:List Str}{qual:Str}{scope:Scope}{f:Addr}{cd:Value}{A:Around}{outer:List Env}{s:Shared}{H:Hp}{E:XK}
end
end L3
namespace L3
open PySem PySem.Spec PyProof.Rows L2 Ra
theorem Xu(o:Obj)(f):(o.mapFields f).dict=o.dict:=by
 obtain ⟨c,d,dt,sl⟩:=o
 cases dt <;> rfl
def TrD(h base:Heap)(e:Addr)(C:Value)(dx:Option Addr)(fl:Value):Prop :=
 ∃oe vs T oT ts,(h.get? e=some oe∧oe.cls=C∧oe.dict=dx∧oe.data=.fields vs∧vs[1]?=some (.ref T))∧(base.get? T=none∧T≠e)∧h.get? T=some oT∧oT.data=.fields ts∧ts[3]?=some fl
structure FlD(base:Heap)(l:List Env)(e:Addr)(C:Value)(dx:Option Addr)(fl:Value)(h:Heap):Prop where
 st:base.StaysIn h
 nw:base.get? e=none
 fr:h.FunFrames base l
 tr:TrD h base e C dx fl
theorem FlD.there{base h:Heap}{l:List Env}{e:Addr}{C fl:Value}{dx:Option Addr}(x:FlD base l e C dx fl h):∃o,h.get? e=some o∧o.cls=C∧o.dict=dx∧∃vs,o.data=.fields vs:=by
 obtain ⟨oe,vs,_,_,_,⟨a,b,c,d,_⟩,_⟩:=x.tr
 exact ⟨oe,a,b,c,vs,d⟩
section
variable {M:Model}{A:Around}{E:Value→Shared→Prop}{s:Shared}{base:Heap}{env:Env}{outer l:List Env}{L e:Addr}{C fl:Value}{dx:Option Addr}{Q:Unit→Shared→Prop}
theorem AJW{h1:Heap}{ob oe:Obj}{vs:Array Value}(he:h1.get? e=some oe)(hd:oe.data=.fields vs)(hsz:1<vs.size)(hob:ob.isFreed=false)
  (h:∀h2,(∃o2,h2.get? e=some o2∧o2.cls=oe.cls∧o2.dict=oe.dict∧o2.data=.fields (vs.setIfInBounds 1 (.ref h1.objs.size)))→h2.get? h1.objs.size=some ob→(∀b o,b≠e→h1.get? b=some o→h2.get? b=some o)→Q () { s with heap:=h2 }) :
  wpAny M A (setField (.ref e) 1 (.ref h1.objs.size)) Q E { s with heap:=h1.push ob }:=by
 have he2:(h1.push ob).get? e=some oe:=Heap.get?_push_of_some ob he
 have ne:e≠h1.objs.size:=Nat.ne_of_lt (Heap.lt_size he)
 have hd3:=Obj.data_mapFields hd (·.setIfInBounds 1 (Value.ref h1.objs.size))
 refine wpAny_setField (s:={ s with heap:=h1.push ob }) he2 hd hsz (h _ ⟨_,Heap.get?_update_self _ he2 (Obj.isFreed_of_fields hd3),Obj.cls_mapFields _ _,Xu _ _,hd3⟩ ?_ fun b o nb q=>?_)
 ·rw [Heap.get?_update_other _ _ ne]
  exact Heap.get?_push_size _ hob
 ·rw [Heap.get?_update_other _ _ nb.symm]
  exact Heap.get?_push_of_some _ q
theorem TQ{oe:Obj}{vs:Array Value}{head:Value}{nx:Bool}(hfr:A.frames=some (env::outer))(hl:s.heap.FunFrames base (env::outer))(hf:env.frame=some L)
  (he:s.heap.get? e=some oe) (hkb:base.StaysIn s.heap) (hen:base.get? e=none) (hd:oe.data=.fields vs) (hsz:1<vs.size)
  (h:∀h',FlD base (env::outer) e oe.cls oe.dict (rawInt L) h'→s.heap.UpToSlots h'→Q () { s with heap:=h' }) :
  wpAny M A (do let a ←frameOf env;let pl ←entryPlaceOf L nx;let b ←EntryCells.newEntry head a .none (rawInt L) .none pl;setField (.ref e) 1 b) Q E s:=by
 have rec_:∀b o,s.heap.get? b=some o→(∀ws,o.data≠.fields ws)→b≠e:=fun b o q n z=>by
  rw [z,he] at q
  cases q
  exact n vs hd
 have nfr:e∉(env::outer).filterMap (·.frame):=fun z=>by
  obtain ⟨_,o,q,n⟩:=hl.mem z
  exact rec_ e o q n rfl
 refine wpAny_bind (wpAny_frameOf_fun hfr hl hf fun h1 sl=>?_)
 refine wpAny_bind (wpAny_entryPlaceOf fun pl hpl=>?_)
 unfold EntryCells.newEntry newFields
 refine wpAny_bind (wpAny_newObj_type ?_ (hpl.sizeOk5 _ _ _ _ _))
 have st1:base.StaysIn h1:=fun b o q=>(sl.2.1 b fun z=>by rw [(hl.mem z).1] at q;cases q).trans (hkb b o q)
 refine AJW ((sl.2.1 e nfr).trans he) hd hsz rfl fun h2 ⟨o2,q2,c2,d2,f2⟩ tb keep=>h h2 ⟨fun b o q=>keep b o (fun z=>by rw [z,hen] at q;cases q) (st1 b o q),hen,hl.of_keeps fun b o q n=>?_,?_⟩ fun b o q n=>?_
 ·obtain ⟨z,w⟩:=sl.2.2 b o q
  exact ⟨_,keep b _ (rec_ b o q n) w,rfl⟩
 ·refine ⟨o2,_,h1.objs.size,_,_,⟨q2,c2,d2,f2,by simp [hsz]⟩,⟨st1.fresh,fun z=>?_⟩,tb,rfl,by first | (simp;done) | (rcases hpl with rfl | ⟨_,_,_,_,_,_,_,rfl⟩ <;> simp)⟩
  have:=Heap.lt_size ((sl.2.1 e nfr).trans he)
  rw [z] at this
  exact absurd this (Nat.lt_irrefl _)
 ·obtain ⟨z,w⟩:=sl.2.2 b o q
  exact ⟨z,keep b _ (rec_ b o q n) w⟩
theorem T8{oe:Obj}{vs:Array Value}(hfr:A.frames=some (env::outer))(hl:s.heap.FunFrames base (env::outer))(hf:env.frame=some L)
  (he:s.heap.get? e=some oe) (hkb:base.StaysIn s.heap) (hen:base.get? e=none) (hd:oe.data=.fields vs) (h1:vs[1]?=some .none)
  (h:∀h',FlD base (env::outer) e oe.cls oe.dict (rawInt L) h'→s.heap.UpToSlots h'→Q () { s with heap:=h' }):wpAny M A (noteFrame (.ref e) env) Q E s:=by
 unfold noteFrame
 simp only [hf]
 refine wpAny_bind (wpAny_field he hd h1 ?_)
 rw [if_neg (by decide)]
 exact TQ hfr hl hf he hkb hen hd (Array.getElem?_eq_some_iff.mp h1).1 h
theorem turn{oT:Obj}{ts:Array Value}{T:Addr}{v fl2:Value}(x:FlD base l e C dx fl s.heap)(hT:s.heap.get? T=some oT)(hdT:oT.data=.fields ts)(h3:ts[3]?=some fl2)(hb:base.get? T=none)(hTe:T≠e)
  (h:∀h',base.StaysIn h'→h'.FunFrames base l→(∀b,b≠T→h'.get? b=s.heap.get? b)→(∃o2,h'.get? T=some o2∧o2.data=.fields (ts.setIfInBounds 3 v))→s.heap.UpToSlots h'→Q () { s with heap:=h' }) :
  wpAny M A (setField (.ref T) 3 v) Q E s:=by
 have other:∀b,b≠T→(s.heap.update T (Obj.mapFields (·.setIfInBounds 3 v))).get? b=s.heap.get? b:=fun b n=>Heap.get?_update_other _ _ n.symm
 have rec_:∀b o,s.heap.get? b=some o→(∀ws,o.data≠.fields ws)→b≠T:=fun b o q n z=>by
  rw [z,hT] at q
  cases q
  exact n ts hdT
 have hd3:=Obj.data_mapFields hdT (·.setIfInBounds 3 v)
 exact wpAny_setField hT hdT (Array.getElem?_eq_some_iff.mp h3).1 (h _ (fun b o q=>(other b fun z=>by rw [z,hb] at q;cases q).trans (x.st b o q)) (x.fr.of_keeps fun b o q n=>⟨o,(other b (rec_ b o q n)).trans q,rfl⟩) other
  ⟨_,Heap.get?_update_self _ hT (Obj.isFreed_of_fields hd3),hd3⟩ fun b o q n=>⟨o.slots,(other b (rec_ b o q n)).trans q⟩)
theorem Qc(hfr:A.frames=some (env::outer))(hf:env.frame=some L)(x:FlD base (env::outer) e C dx .none s.heap)
  (h:∀h',FlD base (env::outer) e C dx (rawInt L) h'→s.heap.UpToSlots h'→Q () { s with heap:=h' }):wpAny M A (noteFrame (.ref e) env) Q E s:=by
 obtain ⟨oe,vs,T,oT,ts,⟨he,rfl,rfl,hd,h1⟩,⟨hb,hTe⟩,hT,hdT,h3⟩:=x.tr
 unfold noteFrame
 simp only [hf]
 refine wpAny_bind (wpAny_field he hd h1 ?_)
 rw [if_pos (show (Value.ref T != Value.none)=true from by simp)]
 refine wpAny_bind (wpAny_field hT hdT h3 ?_)
 rw [if_neg (show ¬((Value.none==rawInt L)=true) from by simp [rawInt])]
 refine wpAny_bind (turn x hT hdT h3 hb hTe fun h2 st fr oth _ up=>?_)
 exact TQ (s:={ s with heap:=h2 }) hfr fr hf ((oth e hTe.symm).trans he) st x.nw hd (Array.getElem?_eq_some_iff.mp h1).1 fun h3 f3 up3=>h h3 f3 (up.trans up3)
theorem Ot(x:FlD base l e C dx fl s.heap)(h:∀h',FlD base l e C dx .none h'→s.heap.UpToSlots h'→Q () { s with heap:=h' }):wpAny M A (setFlight (.ref e) none) Q E s:=by
 obtain ⟨oe,vs,T,oT,ts,⟨he,hc,hx,hd,h1⟩,⟨hb,hTe⟩,hT,hdT,h3⟩:=x.tr
 unfold setFlight
 refine wpAny_bind (wpAny_field he hd h1 ?_)
 rw [if_pos (show (Value.ref T != Value.none)=true from by simp)]
 refine turn x hT hdT h3 hb hTe fun h2 st fr oth ⟨o2,q2,d2⟩ up=>h h2 ⟨st,x.nw,fr,oe,vs,T,o2,_,⟨(oth e hTe.symm).trans he,hc,hx,hd,h1⟩,⟨hb,hTe⟩,q2,d2,?_⟩ up
 have:=(Array.getElem?_eq_some_iff.mp h3).1
 simp [this]
theorem FlD.tail{h:Heap}(x:FlD base (env::outer) e C dx fl h):FlD base outer e C dx fl h:=⟨x.st,x.nw,x.fr.2.2,x.tr⟩
theorem Qq{oe:Obj}{vs:Array Value}(hfr:A.frames=some (env::outer))(hl:s.heap.FunFrames base (env::outer))(hf:env.frame=some L)
  (he:s.heap.get? e=some oe) (hkb:base.StaysIn s.heap) (hen:base.get? e=none) (hd:oe.data=.fields vs) (h1:vs[1]?=some .none)
  (h:∀h',FlD base outer e oe.cls oe.dict .none h'→s.heap.UpToSlots h'→Q () { s with heap:=h' }):wpAny M A (leaving env (.ref e)) Q E s:=by
 unfold leaving
 exact wpAny_bind (T8 hfr hl hf he hkb hen hd h1 fun h2 f2 up2=>Ot (s:={ s with heap:=h2 }) f2 fun h3 f3 up3=>h h3 f3.tail (up2.trans up3))
theorem WR(hfr:A.frames=some (env::outer))(hf:env.frame=some L)(x:FlD base (env::outer) e C dx .none s.heap)
  (h:∀h',FlD base outer e C dx .none h'→s.heap.UpToSlots h'→Q () { s with heap:=h' }):wpAny M A (leaving env (.ref e)) Q E s:=by
 unfold leaving
 exact wpAny_bind (Qc hfr hf x fun h2 f2 up2=>Ot (s:={ s with heap:=h2 }) f2 fun h3 f3 up3=>h h3 f3.tail (up2.trans up3))
end
end L3
namespace L3
open PySem PySem.Spec PySem.Calls PyProof.Rows L2 Ra Builtin Builtin.ObjectAttr
def isR:Value→Bool
 | .ref _=>true
 | _=>false
def Qf(l:List Value):Bool:=l.dropWhile isR==[.type "ValueError",.type "Exception",.type "BaseException",.type "object"]
theorem Kg(self:Value)(what:Str):∀l:List Value,refuseLoop self what l=refuseLoop self what (l.dropWhile isR)
 | []=>rfl
 | v::r=>by
  cases h:isR v with
  | false=>rw [List.dropWhile_cons,h];rfl
  | true =>
   obtain ⟨c,rfl⟩:∃c,v=.ref c:=by cases v <;> first | exact ⟨_,rfl⟩ | cases h
   rw [refuseLoop_ref,List.dropWhile_cons_of_pos h]
   exact Kg self what r
theorem Vw(self:Value){l:List Value}(e:Qf l=true):refuseLoop self "__setattr__" l=pure ():=by
 rw [Kg,show l.dropWhile isR=_ from beq_iff_eq.mp e]
 exact PySem.F.store_ValueError.passes self
theorem AAr{l:List Value}{n:String}(e:Qf l=true)(h:([.type "ValueError",.type "Exception",.type "BaseException",.type "object"]:List Value).contains (.type n)=true):l.contains (.type n)=true:=by
 have q:l=l.takeWhile isR++l.dropWhile isR:=(List.takeWhile_append_dropWhile).symm
 rw [q,show l.dropWhile isR=_ from beq_iff_eq.mp e,List.contains_append,h,Bool.or_true]
structure Yn(K:PySem.W.Frag)(C:Addr):Prop where
 ov:((PySem.W.clsIn K C).any fun cd=>Qf cd.mro)=true
 hd:PySem.W.hasDictIn K C=true
 sa:PySem.W.findIn K (.ref C) "__setattr__"=some (some (.builtin "object.__setattr__"))
 ga:PySem.W.findIn K (.ref C) "__getattribute__"=some (some (.builtin "BaseException.__getattribute__"))
 no:PySem.W.findIn K (.ref C) "__getattr__"=some none
 is:PySem.W.isClsIn K C=true
section
variable {prog:Program}{w:World}{A:Around}{E:Value→Shared→Prop}{s:Shared}{K:PySem.W.Frag}{x C:Addr}{name:Str}{v:Value}{ox:Obj}{vs:Array Value}
theorem Zh{od:Option Obj}{tk:Tok}{R:Result→Shared→Prop}(X:K.In s.heap)(B:Yn K C)(ht:PySem.W.findIn K (.ref C) name=some none)(I:PySem.W.InstAt s.heap x ox C od)
  (h:wpAny (model prog w) A.in1 (storeInOwnDict (.ref x) (.ref C) (.str name tk) name v false)
   (fun fin s'=>match fin with | .done f=>R (.ok f) s' | .again c'=>c'.quiet=true∧codeAny (model prog w) A c' R s') (fun e s'=>R (.error e) s') s) :
  codeAny (model prog w) A (.call (.builtin "object.__setattr__") ⟨[.ref x,.str name tk,v],[]⟩) R s:=by
 have SF:=PySem.F.store_object
 obtain ⟨cd,hcd,ho⟩:=PySem.W.any_some B.ov
 have ne:cd.mro.isEmpty=false:=by cases q:cd.mro with | nil=>rw [q] at ho;cases ho | cons _ _=>rfl
 have sub:PySem.W.Looks (model prog w) s.heap (isInstance (.ref x) (.type "object")) true:=I.type.andThen (PySem.W.looks_mroIn X (by unfold PySem.W.mroIn;rw [hcd,Option.bind_some,if_neg (by rw [ne];decide),AAr ho (by decide)]))
 refine codeAny_call_builtin SF.slot.plain SF.entry (@PySem.W.check_slot (model prog w) _ _ s "object.__setattr__" "object" "__setattr__" (.ref x) [.str name tk,v] [] _ SF.kind SF.split sub (SF.args (.ref x) (.str name tk) v) ?_)
 have hm:PySem.W.Looks (model prog w) s.heap (mroOf (.ref C)) cd.mro:=(PySem.W.looks_clsIn X hcd).andThen .now
 rw [PySem.W.osa_eq,refuse_eq]
 refine wpAny_bind (wpAny_bind (I.type.here (wpAny_bind (hm.here ?_))))
 rw [Vw _ ho]
 have L3:PySem.W.Looks (model prog w) s.heap (storeTaker? none) none:=.now
 refine wpAny_pure (wpAny_bind (I.type.here (wpAny_bind ((PySem.W.looks_findIn X ht).here (wpAny_bind (L3.here ?_))))))
 exact h
theorem WX{Q:Unit→Shared→Prop}(X:K.In s.heap)(B:Yn K C)(ht:PySem.W.findIn K (.ref C) name=some none)(hx:s.heap.get? x=some ox)(hc:ox.cls=.ref C)(hdat:ox.data=.fields vs)(hdn:ox.dict=none)
  (h:∀h' tk,h'.get? x=some { ox with dict:=some s.heap.objs.size }→h'.Ns1 s.heap.objs.size (fun y=>if y=name then some v else none)→(∀b o,b≠x→s.heap.get? b=some o→h'.get? b=some o)→Q () { s with heap:=h',toks:=tk }) :
  wpAny (model prog w) A (setAttr (.ref x) name v) Q E s:=by
 have I:PySem.W.InstAt s.heap x ox C none:=⟨hx,hc,by unfold PySem.W.notCls;rw [hdat],by rw [hdn];trivial⟩
 refine PySem.W.set_plain X I B.sa (Zh (s:={ s with toks:=s.toks+1 }) X B ht I ?_)
 obtain ⟨cd2,hc2,hd2⟩:=PySem.W.any_some B.hd
 obtain ⟨oc,odi,oda,osl⟩:=ox
 dsimp only at hc hdat hdn
 subst hc hdat hdn
 refine wpAny_bind (wpAny_pure (wpAny_bind (wpAny_bind (wpAny_loadPart hx (wpAny_bind (PySem.W.Looks.here (s:={ s with toks:=s.toks+1 }) (PySem.W.looks_clsIn X hc2) ?_))))))
 rw [hd2]
 have hx1:(s.heap.push { cls:=.type "dict",data:=.dict #[] }).get? x=some ⟨.ref C,none,.fields vs,osl⟩:=Heap.get?_push_of_some _ hx
 have ne:x≠s.heap.objs.size:=Nat.ne_of_lt (Heap.lt_size hx)
 refine wpAny_bind (s:={ s with toks:=s.toks+1 }) (wpAny_alloc' ?_)
 refine wpAny_bind (wpAny_update' hx1 (wpAny_pure ?_))
 have hgd:((s.heap.push { cls:=.type "dict",data:=.dict #[] }).update x fun o=>{ cls:=o.cls,dict:=some s.heap.objs.size,data:=o.data,slots:=o.slots }).get? s.heap.objs.size=some { cls:=.type "dict",data:=.dict #[] } :=
  (Heap.get?_update_other _ _ ne).trans (Heap.get?_push_size _ rfl)
 have hnd:((s.heap.push { cls:=.type "dict",data:=.dict #[] }).update x fun o=>{ cls:=o.cls,dict:=some s.heap.objs.size,data:=o.data,slots:=o.slots }).Ns s.heap.objs.size (fun _=>none) :=
  ⟨_,#[],_,hgd,rfl,fun e he=>absurd he (by simp),fun _=>rfl⟩
 show wpAny _ _ (storeInDict s.heap.objs.size (.str name s.toks) name v) _ _ _
 unfold storeInDict newKeyGuard
 refine wpAny_bind (wpAny_pure (wpAny_bind (wpAny_nsSet1 (Heap.Ns1.of_empty hnd) fun h2 n2 sb=>?_)))
 obtain ⟨oD,esD,epD,hoD,hdD,hcD⟩:=n2.count (Within.cons name v Within.nil)
 refine wpAny_bind (wpAny_lookBehind hoD (by rw [hdD];exact pastItsLine_dict (Nat.le_trans hcD (by rw [List.length_cons,List.length_nil,sizeLine_eq];omega))) ?_)
 refine wpAny_pure (h h2 _ ?_ n2 fun b o nb q=>?_)
 ·exact (sb.2 x ne).trans (Heap.get?_update_self _ hx1 rfl)
 ·exact (sb.2 b (Nat.ne_of_lt (Heap.lt_size q))).trans ((Heap.get?_update_other _ _ nb.symm).trans (Heap.get?_push_of_some _ q))
end
end L3
namespace L3
open PySem PySem.Spec PyProof.Rows L2 Ra
structure Uq(outer:List Env)(H:Hp)(h0:Heap)(a:Addr)(C:Value)(dx:Option Addr)(h:Heap):Prop where
 ex:∃B T,FlD B outer a C dx .none h∧(∀b o,h.get? b=some o→b∉frs outer→b≠a→b≠T→B.get? b=some o)∧H a=none∧H T=none∧h0.get? a=none∧h0.get? T=none
theorem Uq.of{outer:List Env}{H:Hp}{h0 B h:Heap}{a:Addr}{C:Value}{dx:Option Addr}(hf:FlD B outer a C dx .none h)(ha:H a=none)(h0a:h0.get? a=none)
  (hT:∀T oT ts,B.get? T=none→h.get? T=some oT→oT.data=.fields ts→T≠a→H T=none∧h0.get? T=none):Uq outer H h0 a C dx h:=by
 obtain ⟨f1,f2,f3,oe,vs,T,oT,ts,he,⟨hB,hne⟩,hT',hdT,h3⟩:=hf
 obtain ⟨t1,t2⟩:=hT T oT ts hB hT' hdT hne
 refine ⟨PySem.W.hideAll h (frs outer++[a,T]),T,⟨fun b o q=>PySem.W.of_hideAll _ q,PySem.W.hideAll_none _ (by simp),PySem.W.funFrames_hide f3 fun env he b hb=>List.mem_append_left _ (List.mem_filterMap.mpr ⟨env,he,hb⟩),oe,vs,T,oT,ts,he,⟨PySem.W.hideAll_none _ (by simp),hne⟩,hT',hdT,h3⟩,
  fun b o q n1 n2 n3=>PySem.W.hideAll_get _ q fun z=>?_,ha,t1,h0a,t2⟩
 rcases List.mem_append.mp z with z | z
 ·exact n1 z
 ·simp at z
  exact z.elim n2 n3
def CXd(P:Program)(w:World):CXT:=fun outer H s E e s'=>∃a C dx H',e=.ref a∧s'.os=s.os∧AllBare s'.gens∧Un (frs outer) [] H H' s.heap s'.heap∧HOk P w H' s'.heap∧Uq outer H' s.heap a C dx s'.heap∧E C dx H'
section
variable {P:Program}{w:World}{K:PySem.W.Frag}{mg:Str→Option Value}{base:Heap}{N:List Str}{qual:Str}{scope:Scope}{f:Addr}{cd:Value}{A:Around}{outer:List Env}{s:Shared}{H:Hp}{E:XK}
 {aA:List (Addr×Obj)} {σ:L2.St} {H1:Hp} {s1:Shared}
theorem Lp{h2:Heap}(I:Inv (Bp (CXd P w) P w K mg base N qual scope f cd A outer s H E) aA σ H1 s1)(bad:Addr→Prop)(hbad:∀b,bad b→s.heap.get? b=none∧H1 b=none)
  (kk:∀b o,s1.heap.get? b=some o→b∉frs (envOfC qual scope s.heap.objs.size f cd::outer)→¬bad b→h2.get? b=some o)
  (ks:∀b o,s1.heap.get? b=some o→b∈frs (envOfC qual scope s.heap.objs.size f cd::outer)→∃sl,h2.get? b=some { o with slots:=sl }) :
  Un (frs outer) [] H H1 s.heap h2∧HOk P w H1 h2:=by
 have nfr:∀b o,s.heap.get? b=some o→b∉frs outer→b∉frs (envOfC qual scope s.heap.objs.size f cd::outer):=fun b o q nb hb=>by
  rcases List.mem_cons.mp (show b∈s.heap.objs.size::frs outer from hb) with z | z
  ·rw [z] at q
   exact absurd (Heap.lt_size q) (Nat.lt_irrefl _)
  ·exact nb z
 have nbad:∀b o,s.heap.get? b=some o→¬bad b:=fun b o q z=>by rw [(hbad b z).1] at q;cases q
 have nex:∀b,b∉(Bp (CXd P w) P w K mg base N qual scope f cd A outer s H E).ex:=fun b z=>absurd (show b∈([]:List Addr) from z) (by simp)
 refine ⟨⟨fun b o q n hb _=>kk b o (I.base.keep b o q n hb (nex b)) (nfr b o q hb) (nbad b o q),fun b o q n hb _=>?_,fun b o q n _=>I.base.free b o q n (nex b),fun b o q _=>?_,I.base.tups,I.base.frzs,I.base.tbls⟩,fun b ob q=>?_⟩
 ·obtain ⟨sl,q1⟩:=I.base.slot b o q n hb (nex b)
  obtain ⟨sl',q2⟩:=ks b _ q1 (List.mem_cons_of_mem _ hb)
  exact ⟨sl',q2⟩
 ·obtain ⟨o',q1⟩:=I.base.there b o q (nex b)
  by_cases hb:b∈frs (envOfC qual scope s.heap.objs.size f cd::outer)
  ·obtain ⟨sl,q2⟩:=ks b o' q1 hb
   exact ⟨_,q2⟩
  ·exact ⟨o',kk b o' q1 hb (nbad b o q)⟩
 ·have tr:∀c u,H1 c=some u→c∉frs (envOfC qual scope s.heap.objs.size f cd::outer)∧¬bad c:=fun c u e=>by
   refine ⟨fun z=>?_,fun z=>?_⟩
   ·have:=I.stkFree c z
    rw [e] at this
    cases this
   ·have:=(hbad c z).2
    rw [e] at this
    cases this
  refine (I.hok b ob q).stay (fun c u hc qc=>?_) (fun _ z=>z) fun _ _ z=>z
  have t:c∉frs (envOfC qual scope s.heap.objs.size f cd::outer)∧¬bad c:=by
   rcases hc with rfl | hc
   ·exact tr c ob q
   ·exact tr c _ hc
  exact kk c u qc t.1 t.2
theorem Kf{e C:Addr}{oe:Obj}{vs:Array Value}(I:Inv (Bp (CXd P w) P w K mg base N qual scope f cd A outer s H E) aA σ H1 s1)(he:s1.heap.get? e=some oe)(hc:oe.cls=.ref C)(hd:oe.data=.fields vs)(h1:vs[1]?=some .none)
  (hn:s.heap.get? e=none) (hH:H1 e=none) (hE:E (.ref C) oe.dict H1):(Bp (CXd P w) P w K mg base N qual scope f cd A outer s H E).xe (.ref e) s1:=by
 show wpAny (model P w) (A.deeper (envOfC qual scope s.heap.objs.size f cd)) (leaving (envOfC qual scope s.heap.objs.size f cd) (.ref e)) _ _ s1
 have fsub:∀env∈(envOfC qual scope s.heap.objs.size f cd::outer),∀b,env.frame=some b→b∈frs (envOfC qual scope s.heap.objs.size f cd::outer)++[e]:=fun env he b hb=>List.mem_append_left _ (List.mem_filterMap.mpr ⟨env,he,hb⟩)
 refine Qq (base:=PySem.W.hideAll s1.heap (frs (envOfC qual scope s.heap.objs.size f cd::outer)++[e])) I.ok.frames (PySem.W.funFrames_hide I.stack fsub) rfl he (fun b o q=>PySem.W.of_hideAll _ q) (PySem.W.hideAll_none _ (by simp)) hd h1 fun h2 fl up=>?_
 have hid:∀b o,s1.heap.get? b=some o→b∉frs (envOfC qual scope s.heap.objs.size f cd::outer)→b≠e→(PySem.W.hideAll s1.heap (frs (envOfC qual scope s.heap.objs.size f cd::outer)++[e])).get? b=some o:=fun b o q nb ne =>
  PySem.W.hideAll_get _ q fun z=>by
   rcases List.mem_append.mp z with z | z
   ·exact nb z
   ·exact ne (by simpa using z)
 have ks:∀b o,s1.heap.get? b=some o→b∈frs (envOfC qual scope s.heap.objs.size f cd::outer)→∃sl,h2.get? b=some { o with slots:=sl }:=fun b o q hb=>by
  obtain ⟨_,o',q',hd⟩:=I.stack.mem hb
  rw [q] at q'
  cases q'
  exact up b o q hd
 obtain ⟨un,hok⟩:=Lp I (fun b=>b=e) (fun b z=>by rw [z];exact ⟨hn,hH⟩) (fun b o q nb ne=>fl.st b o (hid b o q nb ne)) ks
 have nex:∀b,b∉(Bp (CXd P w) P w K mg base N qual scope f cd A outer s H E).ex:=fun b z=>absurd (show b∈([]:List Addr) from z) (by simp)
 refine ⟨e,.ref C,oe.dict,H1,rfl,I.os,I.bare,un,hok,Uq.of (hc ▸ fl) hH hn fun T oT ts hB hT hdT hne=>⟨?_,?_⟩,hE⟩
 ·cases q:H1 T with
  | none=>rfl
  | some u =>
   obtain ⟨ob,qo⟩:=got (I.hok T u q)
   rw [hid T ob qo (fun z=>by have:=I.stkFree T z;rw [q] at this;cases this) hne] at hB
   cases hB
 ·cases q:s.heap.get? T with
  | none=>rfl
  | some o =>
   obtain ⟨o',q1⟩:=I.base.there T o q (nex T)
   by_cases hb:T∈frs (envOfC qual scope s.heap.objs.size f cd::outer)
   ·rcases List.mem_cons.mp (show T∈s.heap.objs.size::frs outer from hb) with z | z
    ·rw [z] at q
     exact absurd (Heap.lt_size q) (Nat.lt_irrefl _)
    ·obtain ⟨_,o2,q2,hd2⟩:=fl.fr.mem z
     rw [hT] at q2
     cases q2
     exact absurd hdT (hd2 ts)
   ·rw [hid T o' q1 hb hne] at hB
    cases hB
theorem M8:Dy (CXd P w) (Bp (CXd P w) P w K mg base N qual scope f cd A outer s H E) E:=by
 intro aA σ H1 s1 e s2 I h
 obtain ⟨a,C,dx,H2,rfl,os,bare,un,hok,fly,hE⟩:=h
 have I2:=I.call' (s':=s2) (ch:=[]) os un hok bare (fun b z=>absurd z (by simp))
 obtain ⟨B,T,fl,cov,ha,hT,h0a,h0T⟩:=fly.ex
 show wpAny (model P w) (A.deeper (envOfC qual scope s.heap.objs.size f cd)) (leaving (envOfC qual scope s.heap.objs.size f cd) (.ref a)) _ _ s2
 have nex:∀b,b∉(Bp (CXd P w) P w K mg base N qual scope f cd A outer s H E).ex:=fun b z=>absurd (show b∈([]:List Addr) from z) (by simp)
 have old:∀b,s1.heap.get? b=none→s.heap.get? b=none:=fun b n=>by
  cases q:s.heap.get? b with
  | none=>rfl
  | some o =>
   obtain ⟨o',q1⟩:=I.base.there b o q (nex b)
   rw [n] at q1
   cases q1
 refine WR I.ok.frames rfl fl fun h3 fl3 up=>?_
 have ks:∀b o,s2.heap.get? b=some o→b∈frs (envOfC qual scope s.heap.objs.size f cd::outer)→∃sl,h3.get? b=some { o with slots:=sl }:=fun b o q hb=>by
  obtain ⟨_,o',q',hd⟩:=I2.stack.mem hb
  rw [q] at q'
  cases q'
  exact up b o q hd
 obtain ⟨un3,hok3⟩:=Lp I2 (fun b=>b=a∨b=T) (fun b z=>by
  rcases z with rfl | rfl
  ·exact ⟨old _ h0a,ha⟩
  ·exact ⟨old _ h0T,hT⟩) (fun b o q nb nz=>fl3.st b o (cov b o q nb (fun z=>nz (.inl z)) fun z=>nz (.inr z))) ks
 refine ⟨a,C,dx,H2,rfl,I2.os,bare,un3,hok3,Uq.of fl3 ha (old a h0a) fun T2 oT ts hB hT2 hd hne=>⟨?_,?_⟩,hE⟩
 ·cases q:H2 T2 with
  | none=>rfl
  | some u =>
   obtain ⟨ob,qo⟩:=got (I2.hok T2 u q)
   have nb:T2∉frs (envOfC qual scope s.heap.objs.size f cd::outer):=fun z=>by
    have:=I2.stkFree T2 z
    rw [q] at this
    cases this
   have nT:T2≠T:=fun z=>by
    rw [z,hT] at q
    cases q
   rw [cov T2 ob qo nb hne nT] at hB
   cases hB
 ·cases q:s.heap.get? T2 with
  | none=>rfl
  | some o =>
   obtain ⟨o',q1⟩:=I2.base.there T2 o q (nex T2)
   have nT:T2≠T:=fun z=>by
    rw [z,old T h0T] at q
    cases q
   by_cases hb:T2∈frs (envOfC qual scope s.heap.objs.size f cd::outer)
   ·rcases List.mem_cons.mp (show T2∈s.heap.objs.size::frs outer from hb) with z | z
    ·rw [z] at q
     exact absurd (Heap.lt_size q) (Nat.lt_irrefl _)
    ·obtain ⟨_,o2,q2,hd2⟩:=fl3.fr.mem z
     rw [hT2] at q2
     cases q2
     exact absurd hd (hd2 ts)
   ·rw [cov T2 o' q1 hb hne nT] at hB
    cases hB
end
end L3
namespace L3
open PySem PySem.Spec PyProof.Rows L2 Ra
structure JZ(P:Program)(w:World)(K:PySem.W.Frag)(mg:Str→Option Value)(base:Heap)(x:Str)(k:Nat)(ps:List Str)(ds:List Value)(dvs:List V)(sp:Sp):Prop where
 ex:∃f fd,BZ P w K mg base (CXd P w) k f fd ps sp∧En K fd ps ds∧PySem.W.keepIn K (.ref f)=true∧mg x=some (.ref f)
 dv:BW dvs ds
theorem Dy.noneD{P:Program}{w:World}{X:Cx}:Dy (CXd P w) X E0:=fun _ _ _ _ _ _ _ ⟨_,_,_,_,_,_,_,_,_,_,h⟩=>h.elim
theorem HN{P:Program}{w:World}{K:PySem.W.Frag}{mg:Str→Option Value}{base:Heap}{N:List Str}{qual:Str}{scope:Scope}{f:Addr}{cd:Value}{A:Around}{outer:List Env}{s:Shared}{H:Hp}{E:XK}
  {x:Str} {k j:Nat} {ps:List Str} {ds:List Value} {dvs:List V} {sp:Sp} {e:Expr} {es:List Expr} {t:TA} {p pos:Pos} (C:JZ P w K mg base x k ps ds dvs sp) (hr:Df j (A.deeper (envOfC qual scope s.heap.objs.size f cd)))
  (ha:PA (Bp (CXd P w) P w K mg base N qual scope f cd A outer s H E) (e::es) t) (hkj:k≤j:=by decide) (hg:Gl (Bp (CXd P w) P w K mg base N qual scope f cd A outer s H E) x:=by rfl)
  (hdb:(x==("__debug__":Str))=false:=by decide) (he:starEach (e::es) (envOfC qual scope s.heap.objs.size f cd)=(false,eval e (envOfC qual scope s.heap.objs.size f cd))::starEach es (envOfC qual scope s.heap.objs.size f cd):=by rfl)
  (hpl:(backTo pos (starEach es (envOfC qual scope s.heap.objs.size f cd))).any (·.1)=false:=by rfl) :
  PE (Bp (CXd P w) P w K mg base N qual scope f cd A outer s H E) (.Call (.Name x p) (e::es) [] pos) (VM sp dvs E t):=by
 obtain ⟨f,fd,F,b,kp,m⟩:=C.ex
 exact U6 F (hr.mono hkj) hg m kp b C.dv M8 ha hdb he hpl
theorem Nr{P:Program}{w:World}{K:PySem.W.Frag}{mg:Str→Option Value}{base:Heap}{x qual:Str}{st:Stmt}{f:Addr}{fd:FuncData}{N ps:List Str}{k:Nat}{sp:Sp}{dV:Value}
  (F:∃(oc:Value) (od:Option Addr) (kV doc pm:Value) (an:Option Addr) (cdv ct:Value) (osl:Array (Option Value)),
   fd=PySem.W.fnOf x qual (An st) (Ak st) (Ac st) dV kV doc pm an cdv ct∧K.lookup f=some ⟨oc,od,.func fd,osl⟩∧PySem.W.codeIn K cdv qual=true)
  (S:Aw N ps (Ac st)) (len:∀vs H Q E,sp vs H Q E→vs.length=ps.length)
  (hbody:∀(cdv:Value) (A:Around) (outer:List Env) (s:Shared) (H:Hp) (vs:List V) (Q:VK) (E:XK),Df k (A.deeper (envOfC qual (Ac st) s.heap.objs.size f cdv))→sp vs H Q E →
   ∃t,PSs (Bp (CXd P w) P w K mg base N qual (Ac st) f cdv A outer s H E) (Ak st) t∧t { nx:=fun _ H'=>Q .non H',rt:=Q } (Jk N vs) H):BZ P w K mg base (CXd P w) (k+1) f fd ps sp:=by
 obtain ⟨oc,od,kV,doc,pm,an,cdv,ct,osl,rfl,lk,hcd⟩:=F
 exact AAg lk hcd S len fun A outer s H vs Q E hr hsp=>hbody cdv A outer s H vs Q E hr hsp
def XPD(X:Cx)(aA:List (Addr×Obj))(R:Value→Option Addr→L2.St→Hp→Prop)(e:Value)(s':Shared):Prop :=
 ∃a C dx σ' H' H1 s1,e=.ref a∧Inv X aA σ' H1 s1∧Inv X aA σ' H' s'∧Uq X.stack H' s1.heap a C dx s'.heap∧R C dx σ' H'
def AH4(X:Cx)(st:Stmt)(t:(Value→Option Addr→L2.St→Hp→Prop)→TS):Prop :=
 ∀(aA:List (Addr×Obj)) (s:Shared) (σ:L2.St) (H:Hp) (D:K1) (R:Value→Option Addr→L2.St→Hp→Prop),Inv X aA σ H s→t R D σ H→wpAny (model X.prog X.w) X.A (exec st X.env) (SP X aA D) (XPD X aA R) s
def AIe(sp:Sp)(dvs:List V)(t:TA):(Value→Option Addr→L2.St→Hp→Prop)→TS:=fun R D σ H=>t σ H fun vs H1=>sp (vs++dvs) H1 (fun _ H2=>D.nx σ H2) fun C dx H2=>R C dx σ H2
section
variable {X:Cx}{aA:List (Addr×Obj)}{σ:L2.St}{H:Hp}{s:Shared}
def DG(a:Addr)(C:Value)(dx:Option Addr)(h:Heap):Prop:=∃o,h.get? a=some o∧o.cls=C∧o.dict=dx∧∃vs,o.data=.fields vs
theorem Xm{a:Addr}{C:Value}{dx:Option Addr}(I:Inv X aA σ H s)(ha:H a=none)(hs:X.s₀.heap.get? a=none)(hx:DG a C dx s.heap)(hL:a≠X.env.locals)(hc:∀x c,X.env.cells.lookup x=some c→c≠a)(hp:∀p∈X.pn++aA,p.1≠a) :
  Inv X aA σ (upd H a (.ext (DG a C dx))) s:=by
 have ne:∀b u,H b=some u→b≠a:=fun b u q z=>by rw [z,ha] at q;cases q
 refine ⟨I.ok,I.os,I.bare,⟨I.base.keep,I.base.slot,fun b o q n h2=>?_,I.base.there,fun b xs q=>?_,fun b o u q=>?_,fun b ps q=>?_⟩,I.loc,I.cell,?_,fun x c e=>?_,fun p hq=>?_,fun b ob q=>?_,I.len⟩
 ·rw [Ai (fun z=>by rw [z,hs] at q;cases q)]
  exact I.base.free b o q n h2
 ·have q1:=I.base.tups b xs q
  rw [Ai (ne b _ q1)]
  exact q1
 ·have q1:=I.base.frzs b o u q
  rw [Ai (ne b _ q1)]
  exact q1
 ·obtain ⟨mr,q1⟩:=I.base.tbls b ps q
  exact ⟨mr,by rw [Ai (ne b _ q1)];exact q1⟩
 ·rw [Ai hL.symm]
  exact I.free
 ·rw [Ai (hc x c e)]
  exact I.freeC x c e
 ·obtain ⟨q1,q2,q3⟩:=I.pin p hq
  exact ⟨q1,by rw [Ai (hp p hq)];exact q2,q3⟩
 ·by_cases hb:b=a
  ·subst hb
   rw [Ad] at q
   cases q
   obtain ⟨o,e1,e2⟩:=hx
   refine ⟨⟨o,e1,e2⟩,⟨o,e1⟩,fun h1 h2 ⟨o1,e3,e4⟩ k=>⟨o1,k o1 e3,e4⟩⟩
  ·rw [Ai hb] at q
   exact (I.hok b ob q).stay (fun _ _ _ z=>z) (fun c z=>by rw [Ai (ne c _ z)];exact z) fun c xs z=>by rw [Ai (ne c _ z)];exact z
end
def AGl(K:PySem.W.Frag)(C0:Addr)(i:Nat)(tb:(Value→Option Addr→L2.St→Hp→Prop)→TS)(ts:Addr→TS):TS:=fun D σ H =>
 tb (fun C dx σ' H'=>PySem.W.exmOne K C (.ref C0)=some true∧∀a,H' a=none→ts a (unb i D) (σ'.set i (some (.ref a))) (upd H' a (.ext (DG a C dx)))) D σ H
theorem Zv{X:Cx}{st b0:Stmt}{x n:Str}{np hpos pos:Pos}{suite:List Stmt}{C0:Addr}{tb:(Value→Option Addr→L2.St→Hp→Prop)→TS}{ts:Addr→TS}(i:Nat)(hb:AH4 X st tb)(hm:X.mg x=some (.ref C0))(hs:∀a,PSs (hdl X a) (b0::suite) (ts a))
  (hN:X.N.Nodup) (hi:X.N[i]?=some n:=by rfl) (hn:X.env.scope.names.lookup n=some .local:=by rfl) (hg:Gl X x:=by rfl) (hst:X.stack=X.env::X.outer:=by rfl) (hfr:X.env.frame=some X.env.locals:=by rfl) (hex:X.ex=[]:=by rfl) (hd:(x==("__debug__":Str))=false:=by decide) :
  PS X (.Try [st] [.ExceptHandler (some (.Name x np)) (some n) (b0::suite) hpos] [] [] pos) (AGl X.K C0 i tb ts):=by
 intro aA s σ H D I h
 refine wpAny_Try_except (wpAny_execs_cons (wpAny_mono (hb aA s σ H D _ I h) (fun fl s1 q=>?_) (fun e s1 q=>?_)))
 ·cases fl with
  | next=>exact wpAny_execs_nil (wpAny_execs_nil q)
  | ret v=>exact q
  | brk=>exact q
  | cont=>exact q
 ·obtain ⟨a,C,dx,σ1,H1,H0,s0,rfl,I0,I1,fly,hx,hk⟩:=q
  obtain ⟨B,T,fl,cov,ha,hT,h0a,h0T⟩:=fly.ex
  have fl':FlD B (X.env::X.outer) a C dx .none s1.heap:=by rw [←hst];exact fl
  refine Qc (by rw [←hst];exact I1.ok.frames) hfr fl' fun h4 held4 up4=>?_
  refine Ot (s:={ s1 with heap:=h4 }) held4 fun h5 fl5 up5=>?_
  have I5:=XF hex I0 I1 h0a h0T ha hT cov fl5.st (up4.trans up5)
  refine wpAny_handleBy_cons (codeAny_handlers_test (Ha (X:=hdl X a) (AAZ I5 a) hg hm ?_ hd)) (by intro q;cases q)
  obtain ⟨oe,hoe,hoc,_⟩:=fl5.there
  have LT:PySem.W.Looks (model X.prog X.w) h5 (typeOf (.ref a)) C:=hoc ▸ (PySem.W.Looks.ld hoe).andThen .now
  refine (PySem.W.exm_one I5.kIn LT hx) _ _ _ _ (fun _ _ q=>q) ?_
  refine codeAny_handlers_suite_as (Ot (s:={ s1 with heap:=h5 }) fl5 fun h6 fl6 up6=>?_)
  have I6:=XF hex I0 I1 h0a h0T ha hT cov fl6.st ((up4.trans up5).trans up6)
  obtain ⟨oe6,hoe6,hoc6⟩:=fl6.there
  have ne0:∀b o,s0.heap.get? b=some o→b≠a:=fun b o q z=>by rw [z,h0a] at q;cases q
  have I7:=Xm (a:=a) (C:=C) (dx:=dx) I6 ha (by
    cases q:X.s₀.heap.get? a with
    | none=>rfl
    | some o =>
     obtain ⟨o',q1⟩:=I0.base.there a o q (by rw [hex];simp)
     exact absurd rfl (ne0 a o' q1)) ⟨oe6,hoe6,hoc6⟩ (by
    obtain ⟨m,⟨o,_,_,q,_⟩,_⟩:=I0.loc
    exact (ne0 _ o q).symm) (fun y c e=>by
    obtain ⟨v,o,q,_⟩:=I0.cell y c e
    exact ne0 c o q) (fun p hp=>ne0 _ _ (I0.pin p hp).1)
  refine Hw (X:=hdl X a) (AAZ I7 a) hN hi (.inl hn) (v:=.ref a) rfl (fun s8 I8=>?_) (.inr hn)
  refine wpAny_mono (hs a aA s8 _ _ _ I8 (hk a ha)) (fun f9 s9 q9=>?_) (fun _ _ z=>False.elim z)
  have gone:∀σ9 H9,Inv X aA σ9 H9 s9→(∀s10,Inv X aA (σ9.set i none) H9 s10→SP X aA D f9 s10) →
    wpAny (model X.prog X.w) X.A (do bindName X.env n .none;unbindBehindTheSuite X.env n hpos) (fun _ s10=>SP X aA D f9 s10) X.xe s9:=fun σ9 H9 I9 k=>by
   obtain ⟨m9,n9,l9⟩:=I9.loc
   exact wpAny_nameGoes_keeps hn n9 (by rw [I9.ok.kind];rfl) fun h10 v n10 sb10=>k _ (ZR I9 hN hi l9 n10 sb10)
  cases f9 with
  | next =>
   obtain ⟨σ9,H9,I9,z⟩:=q9
   exact gone σ9 H9 (QW I9 I.ok) fun s10 I10=>⟨_,H9,I10,z⟩
  | brk =>
   obtain ⟨σ9,H9,I9,z⟩:=q9
   exact gone σ9 H9 (QW I9 I.ok) fun s10 I10=>⟨_,H9,I10,z⟩
  | cont =>
   obtain ⟨σ9,H9,I9,z⟩:=q9
   exact gone σ9 H9 (QW I9 I.ok) fun s10 I10=>⟨_,H9,I10,z⟩
  | ret u =>
   obtain ⟨v,σ9,H9,I9,rv,z⟩:=q9
   exact gone σ9 H9 (QW I9 I.ok) fun s10 I10=>⟨v,_,H9,I10,rv,z⟩
end L3
namespace L3
open PySem PySem.Spec PySem.Calls PyProof.Rows L2 Ra Builtin Builtin.ObjectAttr
section
variable {prog:Program}{w:World}{A:Around}{E:Value→Shared→Prop}{h:Heap}{g:Array GenState}{d:Drawn}{t:Nat}{os:OsState}{K:PySem.W.Frag}{x C:Addr}{name:Str}{v:Value}{ox:Obj}{od:Option Obj}
theorem WQ{tk:Tok}{Q:Fin→Shared→Prop}(X:K.In h)(I:PySem.W.InstAt h x ox C od)(hf:PySem.W.findObj K C od name=some (.value v))(hq:Q (.done (.ret v)) ⟨h,g,d,t,os⟩) :
  wpAny (model prog w) A (Builtin.«object.__getattribute__» ⟨[.ref x,.str name tk],[]⟩) Q E ⟨h,g,d,t,os⟩:=by
 have L0:=I.type (M:=model prog w)
 have L1:=PySem.W.looks_find (M:=model prog w) X I hf
 unfold Builtin.«object.__getattribute__»
 refine wpAny_bind (wpAny_pure (wpAny_bind (wpAny_pure (wpAny_bind (L0.here (wpAny_bind (L1.here ?_)))))))
 exact wpAny_pure hq
theorem W9{expr:Bool}{Q:Value→Shared→Prop}(X:K.In h)(B:GR K C)(I:PySem.W.InstAt h x ox C od)(hf:PySem.W.findObj K C od name=some (.value v))(hh:PySem.W.handedIn v=true)(hq:Q v ⟨h,g,d,t+1,os⟩) :
  wpAny (model prog w) A (getAttr (.ref x) name expr) Q E ⟨h,g,d,t,os⟩:=by
 have hx:=I.at_
 have hc:=I.cls
 have f3:=F.attr_ValueError.ga.bind (.ref x)
 have x0:(expr&&onTheHeap (Value.builtin "BaseException.__getattribute__"))=false:=by cases expr <;> rfl
 have x2:(Value.builtin "BaseException.__getattribute__"==Value.builtin "object.__getattribute__")=false:=by decide +kernel
 have x1:(onTheHeap (Value.ref C)&&Value.builtin "BaseException.__getattribute__"==Value.builtin "object.__getattribute__")=false:=by rw [x2];rfl
 have x3:=PySem.W.handedOut_of hh
 have L1:=PySem.W.looks_findIn (M:=model prog w) X B.ga
 have L2:=PySem.W.looks_findIn (M:=model prog w) X B.no
 unfold getAttr
 refine wpAny_bind (wpAny_mkText ?_)
 repeat (any_goals (first | assumption | (with_reducible refine wpAny_loadPart_at hx ?_;rw [hc]) | with_reducible refine L1.here ?_ | with_reducible refine L2.here ?_ | wp_step))
 refine codeAny_call_builtin F.attr_ValueError.ga.plain F.entry_bexc_ga (Pj X hx hc B (WQ X I hf ?_))
 repeat (any_goals (first | assumption | (rw [x3]) | wp_step))
end
end L3
namespace L3
open PySem PySem.Spec PyProof.Rows L2 Ra
def AFg(K:PySem.W.Frag)(ta:TE)(f:Str):TE:=fun σ H Q=>ta σ H fun x H1=>∃a C d fs v,x=.ref a∧H1 a=some (.ext (DG a (.ref C) (some d)))∧GR K C∧PySem.W.hasDictIn K C=true∧Ff K C f∧H1 d=some (.xd fs)∧fs.lookup f=some v∧Q v H1
theorem Zn{X:Cx}{e:Expr}{f:Str}{pos:Pos}{ta:TE}(he:PE X e ta)(hb:attributeBase e f X.env (eval e X.env)=eval e X.env):PE X (.Attribute e f pos) (AFg X.K ta f):=by
 intro aA s σ H Q I h
 refine VP hb (thn (he aA s σ H _ I h) fun u s1 ⟨x,H1,I1,rx,a,C,d,fs,v,ex,ea,B,hd,n,ed,l,q⟩=>?_)
 subst ex
 obtain rfl:u=Value.ref a:=rx
 obtain ⟨⟨o,h1,h2,h3,vs,h4⟩,_⟩:=(show Bl X.prog X.w H1 s1.heap a (.ext (DG a (.ref C) (some d))) from I1.hok a _ ea)
 obtain ⟨mA,ns,r⟩:=(show Bl X.prog X.w H1 s1.heap d (.xd fs) from I1.hok d _ ed)
 obtain ⟨od,hod,look⟩:=Og ns
 obtain ⟨u',hu,ru⟩:=Gs.some_of (v:=v) (o:=mA f) (by rw [←l];exact r f)
 have In:PySem.W.InstAt s1.heap a o C (some od):=⟨h1,h2,by unfold PySem.W.notCls;rw [h4],by rw [h3];exact hod⟩
 exact W9 I1.kIn B In (PySem.W.findObj_own hd n rfl (by rw [look,hu])) (Ox ru) ⟨v,H1,I1.tok _,ru,q⟩
def Hv(a:Addr)(C:Value)(dx:Option Addr)(h:Heap):Prop:=∃o vs,h.get? a=some o∧o.cls=C∧o.dict=dx∧o.data=.fields vs∧vs[1]?=some .none∧vs[2]?=some .none
theorem Hv.ok{P:Program}{w:World}{H:Hp}{h:Heap}{a:Addr}{C:Value}{dx:Option Addr}(x:Hv a C dx h):Bl P w H h a (.ext (Hv a C dx)):=by
 obtain ⟨o,vs,e,r⟩:=x
 exact ⟨⟨o,vs,e,r⟩,⟨o,e⟩,fun h1 h2 ⟨o1,v1,e1,r1⟩ k=>⟨o1,v1,k o1 e1,r1⟩⟩
def ACh(K:PySem.W.Frag)(ta tv:TE)(f:Str):TS:=fun D σ H=>tv σ H fun y H1=>ta σ H1 fun x H2=>∃a C,x=.ref a∧H2 a=some (.ext (Hv a (.ref C) none))∧Yn K C∧Ff K C f ∧
 ∀d,H2 d=none→d≠a→D.nx σ (upd (upd H2 d (.xd [(f,y)])) a (.ext (Hv a (.ref C) (some d))))
theorem ZG{X:Cx}{o value:Expr}{f:Str}{pos pos':Pos}{ta tv:TE}(ha:PE X o ta)(hv:PE X value tv)(hs:swapsWith value (some (.Attribute o f pos')) pos.line X.env=pure false):PS X (.Assign [.Attribute o f pos'] value pos) (ACh X.K ta tv f):=by
 intro aA s σ H D I h
 refine plainObj_wpAny_Assign_Attribute (thn (hv aA s σ H _ I h) fun u s1 ⟨y,H1,I1,ry,q⟩=>thn (ha aA s1 σ H1 _ I1 q) fun ov s2 ⟨x,H2,I2,rx,a,C,ex,ea,B,n,q2⟩=>?_) hs
 subst ex
 obtain rfl:ov=Value.ref a:=rx
 obtain ⟨⟨o,vs,h1,h2,h3,h4,h5⟩,_⟩:=(show Bl X.prog X.w H2 s2.heap a (.ext (Hv a (.ref C) none)) from I2.hok a _ ea)
 refine WX I2.kIn B n h1 h2 h4 h3 fun h' tk e1 e2 e3=>⟨σ,_,?_,q2 s2.heap.objs.size (I2.hok.fresh (Nat.le_refl _)) (Nat.ne_of_gt (Heap.lt_size h1))⟩
 have hf:H2 s2.heap.objs.size=none:=I2.hok.fresh (Nat.le_refl _)
 have ne:s2.heap.objs.size≠a:=Nat.ne_of_gt (Heap.lt_size h1)
 have nd:∀b ob,s2.heap.get? b=some ob→b≠s2.heap.objs.size:=fun b ob q=>Nat.ne_of_lt (Heap.lt_size q)
 have na:∀b,H2 b=none→b≠a:=fun b q z=>by rw [z,ea] at q;cases q
 have same:∀b u,H2 b=some u→b≠a→(upd (upd H2 s2.heap.objs.size (.xd [(f,y)])) a (.ext (Hv a (.ref C) (some s2.heap.objs.size)))) b=some u:=fun b u q z=>by
  rw [Ai z,Ai (fun w=>by rw [w,hf] at q;cases q)]
  exact q
 refine I2.call' (s':={ s2 with heap:=h',toks:=tk }) (ch:=[]) rfl ⟨fun b ob q z _ _=>e3 b ob (na b z) q,fun b ob q z _ _=>⟨ob.slots,e3 b ob (na b z) q⟩,fun b ob q z _=>?_,fun b ob q _=>?_,fun b xs q=>same b _ q ?_,fun b ob u q=>same b _ q ?_,fun b ps q=>⟨#[],?_⟩⟩ (fun b ob q=>?_) I2.bare (fun b z=>absurd z (by simp))
 ·rw [Ai (na b z),Ai (nd b ob q)]
  exact z
 ·by_cases z:b=a
  ·exact ⟨_,z ▸ e1⟩
  ·exact ⟨ob,e3 b ob z q⟩
 ·intro z
  rw [z,ea] at q
  cases q
 ·intro z
  rw [z,ea] at q
  cases q
 ·rw [same b _ q fun z=>by rw [z,ea] at q;cases q]
  simp
 ·by_cases z:b=a
  ·subst z
   rw [Ad] at q
   cases q
   exact Hv.ok ⟨_,vs,e1,h2,rfl,h4,h5⟩
  ·by_cases z2:b=s2.heap.objs.size
   ·subst z2
    rw [Ai ne,Ad] at q
    cases q
    refine ⟨_,e2,fun g=>?_⟩
    by_cases w:g=f
    ·subst w
     show Gs (List.lookup g [(g,y)]) (if g=g then some u else none)
     rw [if_pos rfl,List.lookup_cons,beq_self_eq_true]
     exact ry
    ·show Gs (List.lookup g [(f,y)]) (if g=f then some u else none)
     rw [if_neg w,List.lookup_cons,beq_false_of_ne w]
     exact True.intro
   ·rw [Ai z,Ai z2] at q
    refine (I2.hok b ob q).stay (fun c w hc qc=>e3 c w (fun zz=>?_) qc) (fun c zz=>same c _ zz fun w=>by rw [w,ea] at zz;cases zz) fun c xs zz=>same c _ zz fun w=>by rw [w,ea] at zz;cases zz
    rcases hc with hc | hc
    ·exact z (hc ▸ zz)
    ·rw [zz,ea] at hc
     cases hc
end L3
namespace L3
open PySem PySem.Spec PySem.Calls PyProof.Rows L2 Ra
theorem Ue{K:PySem.W.Frag}{h:Heap}{N:Addr}{m:Str→Option Value}{n:Str}{v:Value}(X:K.In h)(G:h.Ns N m)(e:PySem.W.nsIn K N n=some (some v)):m n=some v:=by
 obtain ⟨o,es,ep,ho,hd,_,hf⟩:=G
 unfold PySem.W.nsIn at e
 split at e
 ·rename_i q
  have:=X _ _ q
  rw [ho] at this
  cases this
  cases hd
  split at e
  ·rename_i he
   cases e
   rw [←hf]
   unfold nsFind findBy
   rw [←Array.find?_toList,he]
   rfl
  ·split at e <;> cases e
 ·cases e
def Ti(K:PySem.W.Frag)(C fI:Addr):Bool:=match K.lookup C with
 | some ⟨.type "type",_,.cls cd,sl⟩=>(match cd.mro,sl.toList with
  | .ref C'::bm,[_,_,_,_,some (.builtin n),_]=>C'==C&&n=="ValueError.__new__"&&!cd.hasDel&&PySem.W.tailIn K Oi bm&&PySem.W.nsOkIn K cd.ns&&PySem.W.nsIn K cd.ns "__init__"==some (some (.ref fI))
  | _,_=>false)
 | _=>false
structure Yk(K:PySem.W.Frag)(C fI:Addr):Prop where
 ex:Ti K C fI=true
 fn:PySem.W.isFn K (.ref fI)=true
theorem Yk.parts{K:PySem.W.Frag}{C fI:Addr}(e0:Yk K C fI) :
  ∃bm Nn nm qn bs hd sn sub ab col dd k0 k1 k2 k3 k5 oI,K.lookup C=some (excClassObj nm qn C Nn bs bm hd sn sub ab col dd k0 k1 k2 k3 k5 "ValueError.__new__")∧PySem.W.nsOkIn K Nn=true∧PySem.W.nsIn K Nn "__init__"=some (some (.ref fI))∧PySem.W.tailIn K Oi bm=true ∧
   K.lookup fI=some oI∧oI.cls=.type "function":=by
 have e:=e0.ex
 unfold Ti at e
 split at e
 ·rename_i d1 c1 l1 look
  split at e
  ·rename_i C1 b1 x0 x1 x2 x3 n1 x5 em es
   simp only [Bool.and_eq_true,beq_iff_eq,Bool.not_eq_true'] at e
   obtain ⟨⟨⟨⟨⟨e1,e2⟩,e3⟩,e4⟩,e5⟩,e6⟩:=e
   subst e1 e2
   obtain ⟨nm,bs,mro,ns,qn,hd,sn,sub,ab,col,del⟩:=c1
   dsimp only at em e3 e5 e6
   subst em e3
   obtain ⟨arr⟩:=l1
   have es':arr=[x0,x1,x2,x3,some (.builtin "ValueError.__new__"),x5]:=es
   subst es'
   obtain ⟨oI,lI,cI⟩:=Option.map_eq_some_iff.mp (show (K.lookup fI).map (·.cls)=some (.type "function") from beq_iff_eq.mp e0.fn)
   exact ⟨b1,ns,nm,qn,bs,hd,sn,sub,ab,col,d1,x0,x1,x2,x3,x5,oI,look,e5,e6,e4,lI,cI⟩
  ·cases e
 ·cases e
section
variable {prog:Program}{w:World}{A:Around}{E:Value→Shared→Prop}{h:Heap}{g:Array GenState}{d:Drawn}{t:Nat}{os:OsState}
variable {nm q:Str}{C N:Addr}{bs bm bmB:List Value}{hdct:Bool}{sn:List Str}{sub:List Value}{ab:Bool}{col:Option Bool}{dd:Option Addr}{k0 k1 k2 k3 k5:Option Value}{B newId initId:String}
theorem Ul(F:ExcBaseFacts B newId initId bmB)(T:OwnTail h bmB bm){mN:Str→Option Value}{Bh:List Value}{fI:Addr}{oI:Obj}{Q:Fin→Shared→Prop}
  (hC:h.get? C=some (excClassObj nm q C N bs bm hdct sn sub ab col dd k0 k1 k2 k3 k5 newId)) (hn:h.Ns N mN) (hi:mN "__init__"=some (.ref fI)) (hfI:h.get? fI=some oI) (hfc:oI.cls=.type "function") (hrest:Bh.length≤sizeLine)
  (hq:∀h' e,Heap.MadeExcOf h h' e (.ref C) Bh→wpAny (model prog w) A (call (.ref fI) (.ref e::Bh)) (fun r s'=>r=.none∧Q (.done (.ret (.ref e))) s') E ⟨h',g,d,t,os⟩) :
  wpAny (model prog w) A (Builtin.«type.__call__» ⟨.ref C::Bh,[]⟩) Q E ⟨h,g,d,t,os⟩:=by
 repeat (first | with_reducible refine wpAny_loadPart_at hC ?_ | with_reducible refine wpAny_madeBy_exc hC ?_ | wp_step)
 refine codeAny_call_builtin_code (Code.quiet_builtin _ F.quiet) (wpAny_check_new_subT F T hC (codeAny_exc_new_subT F T hC ?_ hrest))
 show wpAny _ _ _ _ _ _
 have kp:∀b o,h.get? b=some o→((h.push { cls:=.type "tuple",data:=.seq Bh.toArray }).push { cls:=.ref C,data:=.fields #[.ref h.objs.size,.none,.none,.none,.bool false,.none] }).get? b=some o :=
  fun b o e=>Heap.get?_push_of_some _ (Heap.get?_push_of_some _ e)
 have hn1:=hn.keeps kp
 have T1:=T.keeps kp
 have hC1:=kp _ _ hC
 have hf1:=kp _ _ hfI
 have hget:((h.push { cls:=.type "tuple",data:=.seq Bh.toArray }).push { cls:=.ref C,data:=.fields #[.ref h.objs.size,.none,.none,.none,.bool false,.none] }).get? (h.objs.size+1)=some
   { cls:=.ref C,data:=.fields #[.ref h.objs.size,.none,.none,.none,.bool false,.none] }:=by heap_get
 have made:Heap.MadeExcOf h ((h.push { cls:=.type "tuple",data:=.seq Bh.toArray }).push { cls:=.ref C,data:=.fields #[.ref h.objs.size,.none,.none,.none,.bool false,.none] }) (h.objs.size+1) (.ref C) Bh :=
  ⟨kp,Heap.get?_none_of_le (Nat.le_succ _),h.objs.size,hget,Heap.get?_none_of_le (Nat.le_refl _),Heap.get?_push_of_some _ (Heap.get?_push_at rfl rfl)⟩
 have hcC:(Value.ref C::bm).contains (.ref C)=true:=by simp
 unfold isInstance
 repeat (first | with_reducible refine wpAny_loadPart_at hget ?_ | (with_reducible refine wpAny_isSubtype_exc hC1 ?_;rw [hcC]) | wp_step)
 show wpAny _ _ (typeLookup (.ref C) _) _ _ _
 refine wpAny_typeLookup_tail hC1 hn1 T1 F.mroIs F.init.lookup ?_
 rw [hi]
 refine wpAny_holding (wpAny_bind ?_)
 unfold bindSpecial
 refine wpAny_bind (wpAny_typeOf (T:="function") ⟨_,hf1,hfc⟩ ?_)
 rw [if_pos (by decide)]
 refine wpAny_pure (wpAny_bind (wpAny_mono (hq _ (h.objs.size+1) made) (fun r s' hr=>?_) fun _ _ x=>x))
 obtain ⟨rfl,hQ⟩:=hr
 wp_walk
 exact hQ
theorem WK(F:ExcBaseFacts B newId initId bmB)(T:OwnTail h bmB bm){mN:Str→Option Value}{Bh:List Value}{fI:Addr}{oI:Obj}{Q:Value→Shared→Prop}
  (hC:h.get? C=some (excClassObj nm q C N bs bm hdct sn sub ab col dd k0 k1 k2 k3 k5 newId)) (hn:h.Ns N mN) (hi:mN "__init__"=some (.ref fI)) (hfI:h.get? fI=some oI) (hfc:oI.cls=.type "function") (hrest:Bh.length≤sizeLine)
  (hq:∀h' e,Heap.MadeExcOf h h' e (.ref C) Bh→wpAny (model prog w) (A.under (.builtin "type.__call__" ⟨.ref C::Bh,[]⟩)) (call (.ref fI) (.ref e::Bh)) (fun r s'=>r=.none∧Q (.ref e) s') E ⟨h',g,d,t,os⟩) :
  wpAny (model prog w) A (call (.ref C) Bh) Q E ⟨h,g,d,t,os⟩:=by
 have f1:=tc_lookup
 have f2:=tc_bind (.ref C)
 have hT:(⟨h,g,d,t,os⟩:Shared).TypeIs (.ref C) "type":=⟨_,hC,rfl⟩
 refine wpAny_call (codeAny_of_tree ?_)
 show wpAny _ _ (callAny (.ref C) _) _ _ _
 repeat (any_goals (first | assumption | with_reducible refine wpAny_loadPart_at hC ?_ | wp_step))
 refine ⟨rfl,?_⟩
 exact codeAny_call_builtin_at (Code.quiet_builtin _ (by decide +kernel)) entry_typeCall (wpAny_check_type_call_sub hC (Ul F T hC hn hi hfI hfc hrest fun h' e hm=>hq h' e hm))
end
section
variable {M:Model}{A:Around}{E:Value→Shared→Prop}{env:Env}
variable {nm q:Str}{C N:Addr}{bs bm:List Value}{hdct:Bool}{sn:List Str}{sub:List Value}{ab:Bool}{col:Option Bool}{dd:Option Addr}{k0 k1 k2 k3 k5:Option Value}{newId:String}
theorem V4{s:Shared}{x:Sem Value}{Q:Flow→Shared→Prop}(hbase:bm.contains (.type "BaseException")=true)(hh:A.handled=none)
  (h:wpAny M A x (fun v s₁=>∃e oe vs,v=.ref e∧s₁.heap.get? C=some (excClassObj nm q C N bs bm hdct sn sub ab col dd k0 k1 k2 k3 k5 newId)∧s₁.heap.get? e=some oe∧oe.cls=.ref C∧oe.data=.fields vs∧vs[1]?=some .none∧E (.ref e) s₁) E s) :
  wpAny M A (raiseStmt env (some x) none) Q E s:=by
 have hcB:(Value.ref C::bm).contains (.type "BaseException")=true:=by rw [List.contains_cons,hbase,Bool.or_true]
 unfold raiseStmt
 refine wpAny_bind (wpAny_mono h (fun v s₁ h₁=>?_) fun _ _ x=>x)
 obtain ⟨e,oe,vs,rfl,hC,he,hcl,hdt,h1,hE⟩:=h₁
 obtain ⟨hp,g,d,tk,os⟩:=s₁
 obtain ⟨oc,od,oda,osl⟩:=oe
 dsimp only at hcl hdt
 subst hcl hdt
 repeat (first | with_reducible refine wpAny_loadPart_at he ?_ | with_reducible refine wpAny_loadPart_at hC ?_ | (with_reducible refine wpAny_isSubtype_exc hC ?_;rw [hcB]) | wp_step)
 rw [h1]
 refine wpAny_pure ?_
 rw [if_neg (by decide)]
 exact wpAny_pure (wpAny_raiseNew_none hh hE)
end
def drp(H:Hp)(a:Addr):Hp:=fun b=>if b=a then none else H b
theorem Gn{H:Hp}{a b:Addr}(h:b≠a):drp H a b=H b:=if_neg h
theorem Mx{H:Hp}{a:Addr}:drp H a a=none:=if_pos rfl
theorem Wc{X:Cx}{aA:List (Addr×Obj)}{σ:L2.St}{H:Hp}{s:Shared}{a:Addr}{φ:Heap→Prop}(I:Inv X aA σ H s)(ha:H a=some (.ext φ)):Inv X aA σ (drp H a) s:=by
 have ne:∀b u,H b=some u→u≠.ext φ→b≠a:=fun b u q n z=>by
  rw [z,ha] at q
  cases q
  exact n rfl
 have dn:∀b,H b=none→drp H a b=none:=fun b q=>by
  by_cases z:b=a
  ·rw [z];exact Mx
  ·rw [Gn z];exact q
 refine ⟨I.ok,I.os,I.bare,⟨I.base.keep,I.base.slot,fun b o q n h2=>dn b (I.base.free b o q n h2),I.base.there,fun b xs q=>?_,fun b o u q=>?_,fun b ps q=>?_⟩,I.loc,I.cell,dn _ I.free,fun x c e=>dn _ (I.freeC x c e),fun p hq=>?_,fun b ob q=>?_,I.len⟩
 ·have q1:=I.base.tups b xs q
  rw [Gn (ne b _ q1 (by intro z;cases z))]
  exact q1
 ·have q1:=I.base.frzs b o u q
  rw [Gn (ne b _ q1 (by intro z;cases z))]
  exact q1
 ·obtain ⟨mr,q1⟩:=I.base.tbls b ps q
  exact ⟨mr,by rw [Gn (ne b _ q1 (by intro z;cases z))];exact q1⟩
 ·obtain ⟨q1,q2,q3⟩:=I.pin p hq
  exact ⟨q1,dn _ q2,q3⟩
 ·have z:b≠a:=fun z=>by rw [z,Mx] at q;cases q
  rw [Gn z] at q
  exact (I.hok b ob q).stay (fun _ _ _ w=>w) (fun c w=>by rw [Gn (ne c _ w (by intro z;cases z))];exact w) fun c xs w=>by rw [Gn (ne c _ w (by intro z;cases z))];exact w
theorem ADw{X:Cx}{aA:List (Addr×Obj)}{σ:L2.St}{H:Hp}{s:Shared}{a:Addr}{φ:Heap→Prop}(I:Inv X aA σ H s)(ha:H a=none)(hs:X.s₀.heap.get? a=none)(hx:∀H',Bl X.prog X.w H' s.heap a (.ext φ))(hL:a≠X.env.locals)
  (hc:∀x c,X.env.cells.lookup x=some c→c≠a) (hp:∀p∈X.pn++aA,p.1≠a):Inv X aA σ (upd H a (.ext φ)) s:=by
 have ne:∀b u,H b=some u→b≠a:=fun b u q z=>by rw [z,ha] at q;cases q
 have up:∀b u,H b=some u→upd H a (.ext φ) b=some u:=fun b u q=>by rw [Ai (ne b u q)];exact q
 refine ⟨I.ok,I.os,I.bare,⟨I.base.keep,I.base.slot,fun b o q n h2=>?_,I.base.there,fun b xs q=>up b _ (I.base.tups b xs q),fun b o u q=>up b _ (I.base.frzs b o u q),fun b ps q=>?_⟩,I.loc,I.cell,?_,fun x c e=>?_,fun p hq=>?_,fun b ob q=>?_,I.len⟩
 ·rw [Ai (fun z=>by rw [z,hs] at q;cases q)]
  exact I.base.free b o q n h2
 ·obtain ⟨mr,q1⟩:=I.base.tbls b ps q
  exact ⟨mr,up b _ q1⟩
 ·rw [Ai hL.symm]
  exact I.free
 ·rw [Ai (hc x c e)]
  exact I.freeC x c e
 ·obtain ⟨q1,q2,q3⟩:=I.pin p hq
  exact ⟨q1,by rw [Ai (hp p hq)];exact q2,q3⟩
 ·by_cases hb:b=a
  ·subst hb
   rw [Ad] at q
   cases q
   exact hx _
  ·rw [Ai hb] at q
   exact (I.hok b ob q).stay (fun _ _ _ z=>z) (fun c z=>up c _ z) fun c xs z=>up c _ z
def VF(E:XK)(C:Addr)(sp:Sp)(ta:TA):TS:=fun _ σ H=>ta σ H fun vs H1=>vs.length≤sizeLine∧∀e,H1 e=none →
 sp (.ref e::vs) (upd H1 e (.ext (Hv e (.ref C) none))) (fun r H2=>r=.non∧∃dx,H2 e=some (.ext (Hv e (.ref C) dx))∧E (.ref C) dx (drp H2 e)) E0
theorem Wi{P:Program}{w:World}{K:PySem.W.Frag}{mg:Str→Option Value}{base:Heap}{N:List Str}{qual:Str}{scope:Scope}{f:Addr}{cd:Value}{A:Around}{outer:List Env}{s:Shared}{H:Hp}{E:XK}
  {x:Str} {C fI:Addr} {fd:FuncData} {ps:List Str} {sp:Sp} {k j:Nat} {np aD pos:Pos} {e0:Expr} {Bh:List Expr} {ta:TA} (hm:mg x=some (.ref C)) (ho:Yk K C fI) (kp:PySem.W.keepIn K (.ref C)=true) (F:BZ P w K mg base CX0 k fI fd ps sp) (hb:En K fd ps [])
  (hr:Df j (A.deeper (envOfC qual scope s.heap.objs.size f cd))) (ha:PA (Bp (CXd P w) P w K mg base N qual scope f cd A outer s H E) (e0::Bh) ta) (hkj:k+1≤j:=by decide)
  (hg:Gl (Bp (CXd P w) P w K mg base N qual scope f cd A outer s H E) x:=by rfl) (hdb:(x==("__debug__":Str))=false:=by decide)
  (he:starEach (e0::Bh) (envOfC qual scope s.heap.objs.size f cd)=(false,eval e0 (envOfC qual scope s.heap.objs.size f cd))::starEach Bh (envOfC qual scope s.heap.objs.size f cd):=by rfl)
  (hpl:(backTo aD (starEach Bh (envOfC qual scope s.heap.objs.size f cd))).any (·.1)=false:=by rfl) :
  PS (Bp (CXd P w) P w K mg base N qual scope f cd A outer s H E) (.Raise (some (.Call (.Name x np) (e0::Bh) [] aD)) none pos) (VF E C sp ta):=by
 intro aA s1 σ H1 D I h
 obtain ⟨bm,Nn,nm,qn,bs,hd,sn,sub,ab,col,dd,k0,k1,k2,k3,k5,oI,look,nok,nin,tl,lI,cI⟩:=ho.parts
 rw [arm_exec_Raise]
 refine wpAny_bind (wpAny_standAt (V4 (C:=C) (nm:=nm) (q:=qn) (N:=Nn) (bs:=bs) (bm:=bm) (hdct:=hd) (sn:=sn) (sub:=sub) (ab:=ab) (col:=col) (dd:=dd) (k0:=k0) (k1:=k1) (k2:=k2) (k3:=k3) (k5:=k5) (newId:="ValueError.__new__")
  ((PySem.W.tail_of_in I.kIn tl).hasType PySem.F.excBase_ValueError.hasBase) (I.ok.hd rfl) (wpAny_bind (wpAny_mono (wpAny_Call_ofName (Ha I hg hm ?_ hdb)) (fun v s3 h3=>wpAny_bind (wpAny_standAt (wpAny_pure h3))) fun _ _ x=>x))))
 refine PySem.W.callWith_K (h₀:=base) I.ok.mod.kin kp (thn (ha aD aA s1 σ H1 _ I h) fun us s2 ⟨vs,H2,I2,r,aB,q⟩=>⟨I2.kIn,?_⟩) he hpl
 have kin:=I2.kIn
 have nex:∀b,b∉(Bp (CXd P w) P w K mg base N qual scope f cd A outer s H E).ex:=fun b z=>absurd (show b∈([]:List Addr) from z) (by simp)
 obtain ⟨hp2,g2,d2,t2,os2⟩:=s2
 have G:hp2.Ns Nn (hp2.nsMap Nn):=.of_isNs (PySem.W.isNs_of_in kin nok)
 refine WK PySem.F.excBase_ValueError (PySem.W.tail_of_in kin tl) (kin _ _ look) G (Ue kin G nin) (kin _ _ lI) cI (by rw [List.nil_append,←r.length];exact aB) fun h' e hx=>?_
 obtain ⟨tt,at_,_,_⟩:=hx.there
 have gone:∀b o,hp2.get? b=some o→b≠e:=fun b o qb z=>by rw [z,hx.new] at qb;cases qb
 have hH:H2 e=none:=by
  cases qe:H2 e with
  | none=>rfl
  | some u =>
   obtain ⟨ob,qo⟩:=got (I2.hok e u qe)
   exact absurd rfl (gone e ob qo)
 have hs0:s.heap.get? e=none:=by
  cases qe:s.heap.get? e with
  | none=>rfl
  | some o =>
   obtain ⟨o',q1⟩:=I2.base.there e o qe (nex e)
   exact absurd rfl (gone e o' q1)
 have I3:Inv (Bp (CXd P w) P w K mg base N qual scope f cd A outer s H E) aA σ (upd H2 e (.ext (Hv e (.ref C) none))) ⟨h',g2,d2,t2,os2⟩ :=
  ADw (I2.kept (t':=t2) fun b ob qb=>hx.keeps b ob qb) hH hs0 (fun H'=>Hv.ok ⟨_,_,at_,rfl,rfl,rfl,rfl,rfl⟩)
   (by obtain ⟨m,⟨o,_,_,qo,_⟩,_⟩:=I2.loc;exact (gone _ o qo).symm) (fun y c ec=>by obtain ⟨v,o,qo,_⟩:=I2.cell y c ec;exact gone c o qo) fun p hp=>gone _ _ (I2.pin p hp).1
 have hq:=q e hH
 have r2:BW (V.ref e::vs) (Value.ref e::us):=.cons rfl r
 have hl:(Value.ref e::us++[]).length=ps.length:=by
  have z:=r2.length
  rw [F.len _ _ _ _ hq] at z
  rw [List.append_nil]
  exact z.symm
 have hbt:=hb ⟨h',g2,d2,t2,os2⟩ (Value.ref e::us) I3.kIn hl
 rw [List.append_nil] at hbt
 refine wpAny_call (codeAny_mono (F.run _ _ _ _ ⟨Value.ref e::us,[]⟩ (Value.ref e::us) _ _ E0 ((hr.mono hkj).make C us []) (I3.env0.make C us []) hbt r2 hq) fun res s4 h4=>?_)
 cases res with
 | error ev=>exact False.elim h4
 | ok fl =>
  cases fl with
  | ret u =>
   obtain ⟨v,H4,I4,rv,ev,dx,he4,hE⟩:=I3.after h4
   subst ev
   obtain ⟨⟨oe,ws,z1,z2,z3,z4,z5,_⟩,_⟩:=(show Bl P w H4 s4.heap e (.ext (Hv e (.ref C) dx)) from I4.hok e _ he4)
   exact ⟨rv,e,oe,ws,rfl,I4.kIn _ _ look,z1,z2,z4,z5,Kf (Wc I4 he4) z1 z2 z4 z5 hs0 Mx (z3 ▸ hE)⟩
  | next=>exact False.elim h4
  | brk=>exact False.elim h4
  | cont=>exact False.elim h4
section
variable {P:Program}{w:World}{K:PySem.W.Frag}{mg:Str→Option Value}{base:Heap}{N:List Str}{qual:Str}{scope:Scope}{f:Addr}{cd:Value}{A:Around}{outer:List Env}{s:Shared}{H:Hp}{E:XK}
theorem Sw{aA:List (Addr×Obj)}{σ:L2.St}{H1:Hp}{s1:Shared}{h':Heap}{e C:Addr}{vs:List Value}(I:Inv (Bp (CXd P w) P w K mg base N qual scope f cd A outer s H E) aA σ H1 s1)(hx:Heap.MadeExcOf s1.heap h' e (.ref C) vs)(hE:E (.ref C) none H1) :
  (Bp (CXd P w) P w K mg base N qual scope f cd A outer s H E).xe (.ref e) { s1 with heap:=h' }:=by
 obtain ⟨tt,at_,_,_⟩:=hx.there
 have gone:∀b o,s1.heap.get? b=some o→b≠e:=fun b o qb z=>by rw [z,hx.new] at qb;cases qb
 have nex:∀b,b∉(Bp (CXd P w) P w K mg base N qual scope f cd A outer s H E).ex:=fun b z=>absurd (show b∈([]:List Addr) from z) (by simp)
 have hH:H1 e=none:=by
  cases qe:H1 e with
  | none=>rfl
  | some u =>
   obtain ⟨ob,qo⟩:=got (I.hok e u qe)
   exact absurd rfl (gone e ob qo)
 have hs0:s.heap.get? e=none:=by
  cases qe:s.heap.get? e with
  | none=>rfl
  | some o =>
   obtain ⟨o',q1⟩:=I.base.there e o qe (nex e)
   exact absurd rfl (gone e o' q1)
 exact Kf (I.kept (t':=s1.toks) fun b ob qb=>hx.keeps b ob qb) at_ rfl rfl rfl hs0 hH hE
theorem KZ{x:Str}{C:Addr}{np aD pos:Pos}{e0:Expr}{Bh:List Expr}{ta:TA}(hm:mg x=some (.ref C))(ho:KH K C)(ha:PA (Bp (CXd P w) P w K mg base N qual scope f cd A outer s H E) (e0::Bh) ta)
  (hg:Gl (Bp (CXd P w) P w K mg base N qual scope f cd A outer s H E) x:=by rfl) (hd:(x==("__debug__":Str))=false:=by decide)
  (he:starEach (e0::Bh) (envOfC qual scope s.heap.objs.size f cd)=(false,eval e0 (envOfC qual scope s.heap.objs.size f cd))::starEach Bh (envOfC qual scope s.heap.objs.size f cd):=by rfl)
  (hpl:(backTo aD (starEach Bh (envOfC qual scope s.heap.objs.size f cd))).any (·.1)=false:=by rfl) :
  PS (Bp (CXd P w) P w K mg base N qual scope f cd A outer s H E) (.Raise (some (.Call (.Name x np) (e0::Bh) [] aD)) none pos) (AAv E C ta):=by
 intro aA s1 σ H1 D I h
 obtain ⟨bm,Nn,nm,qn,bs,hd',sn,sub,ab,col,dd,k0,k1,k2,k3,k5,mN,hC,hN,hni,T⟩:=ho.parts I.mod.kin
 refine wpAny_Raise_call_subT (C:=C) (nm:=nm) (q:=qn) (N:=Nn) (bs:=bs) (bm:=bm) (hdct:=hd') (sn:=sn) (sub:=sub) (ab:=ab) (col:=col) (dd:=dd) (k0:=k0) (k1:=k1) (k2:=k2) (k3:=k3) (k5:=k5)
  PySem.F.excBase_ValueError (mN:=mN) (T.hasType PySem.F.excBase_ValueError.hasBase) (I.ok.hd rfl) ?_ hni (Ha I hg hm ⟨rfl,?_⟩ hd)
 ·show (backTo aD (starEach (e0::Bh) (envOfC qual scope s.heap.objs.size f cd))).any (·.1)=false
  rw [he]
  show (false || (backTo aD (starEach Bh (envOfC qual scope s.heap.objs.size f cd))).any (·.1))=false
  rw [hpl]
  rfl
 ·have q:=ha aD aA s1 σ H1 _ I h
  show wpAny (model P w) _ (evalArgs (.ref C) true (backTo aD (starEach (e0::Bh) (envOfC qual scope s.heap.objs.size f cd))) []) _ _ s1
  have q':wpAny (model P w) (A.deeper (envOfC qual scope s.heap.objs.size f cd)) (spliced (backTo aD (starEach (e0::Bh) (envOfC qual scope s.heap.objs.size f cd)))) _ _ s1:=q
  rw [he] at q' ⊢
  refine Calls.evalArgs_plain (wpAny_mono q' (fun us s2 h2=>?_) fun _ _ z=>z)
  obtain ⟨vs,H2,I2,r,hl,hE⟩:=h2
  exact ⟨rfl,by rw [←r.length];exact hl,I2.bk _ _ hC,hN.keeps I2.bk,T.keeps I2.bk,fun h' e hx=>Sw I2 hx hE⟩
end
end L3
namespace L3
open PySem PySem.Spec PyProof.Rows L2 Ra
structure Kr(P:Program)(w:World)(K:PySem.W.Frag)(mg:Str→Option Value)(base:Heap)(x:Str)(C:Addr)(k:Nat)(ps:List Str)(sp:Sp):Prop where
 ex:∃f fd,BZ P w K mg base (CXd P w) k f fd ps sp∧En K fd ps []∧Mk K C f∧mg x=some (.ref C)
section
variable {X:Cx}{C:Addr}{x:Str}{k j:Nat}{ps:List Str}{sp:Sp}{e:Expr}{es:List Expr}{t:TA}{p pos pos':Pos}
theorem Xq(Cc:Kr X.prog X.w X.K X.mg X.base x C k ps sp)(hr:Df j X.A)(ha:PA X (e::es) t)(hkj:k+1≤j:=by decide)(hg:Gl X x:=by rfl)
  (hdb:(x==("__debug__":Str))=false:=by decide) (he:starEach (e::es) X.env=(false,eval e X.env)::starEach es X.env:=by rfl) (hpl:(backTo pos (starEach es X.env)).any (·.1)=false:=by rfl) :
  PE X (.Call (.Name x p) (e::es) [] pos) (Rg C sp [] E0 t):=by
 obtain ⟨f,fd,F,b,M,hm⟩:=Cc.ex
 exact U5 M F (hr.mono hkj) hg hm b .nil Dy.noneD ha hdb he hpl
def AJE(C:Addr)(sp:Sp)(t:TA):(Value→Option Addr→L2.St→Hp→Prop)→TS:=fun R D σ H=>t σ H fun vs H1=>∀x dx,H1 x=none→H1 dx=none→dx≠x →
 sp (.ref x::vs) (upd (upd H1 dx (.own x)) x (.ins C dx [])) (fun v H2=>v=.non∧D.nx σ H2) fun Cv d H2=>R Cv d σ H2
theorem Fy:Gz X (.builtin "isinstance") (fun xs H Q=>∃x c u D dx b,xs=[.ref x,c]∧AJi c=some u∧H x=some (.ext (DG x (.ref D) dx))∧GR X.K D∧PySem.W.kitOne X.K (.ref D) u=some b∧Q (.bl b) H):=by
 intro aA s σ H xs us Q I r h
 obtain ⟨x,c,u,D,dx,b,rfl,rc,hx,B,e,q⟩:=h
 obtain ⟨u1,u2,rfl,rx,rt⟩:=Xc r
 cases rx
 have eu:u2=u:=by
  cases c with
  | ref C =>
   cases rc
   exact rt
  | ty n =>
   cases rc
   exact rt
  | _=>cases rc
 subst eu
 obtain ⟨⟨o,p1,p2,_⟩,_,_⟩:=(show Bl X.prog X.w H s.heap x (.ext (DG x (.ref D) dx)) from I.hok x _ hx)
 exact PySem.W.kia_one (Ww B) I.kIn ⟨o,p1,p2⟩ e (fun z=>nomatch z) fun tk=>⟨.bl b,H,I.tok _,rfl,q⟩
end
end L3
namespace L3
open PySem PySem.Spec PyProof.Rows L2 Ra
structure Y6(P:Program)(w:World)(K:PySem.W.Frag)(mg:Str→Option Value)(base:Heap)(x:Str)(C:Addr)(k:Nat)(ps:List Str)(sp:Sp):Prop where
 ex:∃fI fd,Yk K C fI∧PySem.W.keepIn K (.ref C)=true∧BZ P w K mg base CX0 k fI fd ps sp∧En K fd ps []∧mg x=some (.ref C)
theorem Kc{P:Program}{w:World}{K:PySem.W.Frag}{mg:Str→Option Value}{base:Heap}{N:List Str}{qual:Str}{scope:Scope}{f:Addr}{cd:Value}{A:Around}{outer:List Env}{s:Shared}{H:Hp}{E:XK}
  {x:Str} {C:Addr} {ps:List Str} {sp:Sp} {k j:Nat} {np aD pos:Pos} {e0:Expr} {Bh:List Expr} {ta:TA} (Ci:Y6 P w K mg base x C k ps sp)
  (hr:Df j (A.deeper (envOfC qual scope s.heap.objs.size f cd))) (ha:PA (Bp (CXd P w) P w K mg base N qual scope f cd A outer s H E) (e0::Bh) ta) (hkj:k+1≤j:=by decide)
  (hg:Gl (Bp (CXd P w) P w K mg base N qual scope f cd A outer s H E) x:=by rfl) (hdb:(x==("__debug__":Str))=false:=by decide)
  (he:starEach (e0::Bh) (envOfC qual scope s.heap.objs.size f cd)=(false,eval e0 (envOfC qual scope s.heap.objs.size f cd))::starEach Bh (envOfC qual scope s.heap.objs.size f cd):=by rfl)
  (hpl:(backTo aD (starEach Bh (envOfC qual scope s.heap.objs.size f cd))).any (·.1)=false:=by rfl) :
  PS (Bp (CXd P w) P w K mg base N qual scope f cd A outer s H E) (.Raise (some (.Call (.Name x np) (e0::Bh) [] aD)) none pos) (VF E C sp ta):=by
 obtain ⟨fI,fd,hE,kp,F,hb,hm⟩:=Ci.ex
 exact Wi hm hE kp F hb hr ha hkj hg hdb he hpl
end L3
namespace L3
open PySem PySem.Spec PyProof.Rows L2 Ra
theorem Tn{P:Program}{w:World}{K:PySem.W.Frag}{mg:Str→Option Value}{base:Heap}{N:List Str}{qual:Str}{scope:Scope}{f:Addr}{cd:Value}{A:Around}{outer:List Env}{s:Shared}{H:Hp}{E:XK}
  {C:Addr} {x:Str} {k j:Nat} {ps:List Str} {sp:Sp} {e:Expr} {es:List Expr} {t:TA} {p pos:Pos} (Cc:Kr P w K mg base x C k ps sp) (hr:Df j (A.deeper (envOfC qual scope s.heap.objs.size f cd)))
  (ha:PA (Bp (CXd P w) P w K mg base N qual scope f cd A outer s H E) (e::es) t) (hkj:k+1≤j:=by decide) (hg:Gl (Bp (CXd P w) P w K mg base N qual scope f cd A outer s H E) x:=by rfl)
  (hdb:(x==("__debug__":Str))=false:=by decide) (he:starEach (e::es) (envOfC qual scope s.heap.objs.size f cd)=(false,eval e (envOfC qual scope s.heap.objs.size f cd))::starEach es (envOfC qual scope s.heap.objs.size f cd):=by rfl)
  (hpl:(backTo pos (starEach es (envOfC qual scope s.heap.objs.size f cd))).any (·.1)=false:=by rfl) :
  PE (Bp (CXd P w) P w K mg base N qual scope f cd A outer s H E) (.Call (.Name x p) (e::es) [] pos) (Rg C sp [] E t):=by
 obtain ⟨f,fd,F,b,M,hm⟩:=Cc.ex
 exact U5 M F (hr.mono hkj) hg hm b .nil M8 ha hdb he hpl
def AI5(sp:Sp)(dvs:List V)(i:Nat)(t:TA):(Value→Option Addr→L2.St→Hp→Prop)→TS:=fun R D σ H=>t σ H fun vs H1=>sp (vs++dvs) H1 (fun v H2=>D.nx (σ.set i (some v)) H2) fun C dx H2=>R C dx σ H2
end L3
namespace L3
open PySem PySem.Spec PyProof.Rows L2 Ra
section
variable {M:Model}{A:Around}{E:Value→Shared→Prop}{s:Shared}{base:Heap}{env:Env}{outer l:List Env}{L e:Addr}{C fl:Value}{dx:Option Addr}
theorem WT{Q:Unit→Shared→Prop}(hfr:A.frames=some (env::outer))(hf:env.frame=some L)(x:FlD base (env::outer) e C dx fl s.heap)
  (h:∀h',FlD base outer e C dx .none h'→s.heap.UpToSlots h'→Q () { s with heap:=h' }):wpAny M A (leaving env (.ref e)) Q E s:=by
 unfold leaving
 by_cases c:fl=rawInt L
 ·obtain ⟨oe,vs,T,oT,ts,⟨he,hc,hx,hd,h1⟩,⟨hb,hTe⟩,hT,hdT,h3⟩:=x.tr
  refine wpAny_bind ?_
  unfold noteFrame
  simp only [hf]
  refine wpAny_bind (wpAny_field he hd h1 ?_)
  rw [if_pos (show (Value.ref T != Value.none)=true from by simp)]
  refine wpAny_bind (wpAny_field hT hdT h3 ?_)
  rw [if_pos (show ((fl==rawInt L)=true) from by rw [c];simp)]
  refine wpAny_pure ?_
  exact Ot x fun h3 f3 up3=>h h3 f3.tail up3
 ·obtain ⟨oe,vs,T,oT,ts,⟨he,rfl,rfl,hd,h1⟩,⟨hb,hTe⟩,hT,hdT,h3⟩:=x.tr
  refine wpAny_bind ?_
  unfold noteFrame
  simp only [hf]
  refine wpAny_bind (wpAny_field he hd h1 ?_)
  rw [if_pos (show (Value.ref T != Value.none)=true from by simp)]
  refine wpAny_bind (wpAny_field hT hdT h3 ?_)
  rw [if_neg (show ¬((fl==rawInt L)=true) from by simpa using c)]
  refine wpAny_bind (turn x hT hdT h3 hb hTe fun h2 st fr oth _ up=>?_)
  refine TQ (s:={ s with heap:=h2 }) hfr fr hf ((oth e hTe.symm).trans he) st x.nw hd (Array.getElem?_eq_some_iff.mp h1).1 fun h3 f3 up3=>?_
  exact Ot (s:={ s with heap:=h3 }) f3 fun h4 f4 up4=>h h4 f4.tail ((up.trans up3).trans up4)
theorem YB{α:Type}{what:String}{cenv:Env}{Q:α→Shared→Prop}(x:FlD base l e C dx fl s.heap)
  (h:∀h' fl',FlD base l e C dx fl' h'→s.heap.UpToSlots h'→E (.ref e) { s with heap:=h' }):wpAny M A (PySem.passOn what (.ref e) cenv) Q E s:=by
 obtain ⟨oe,vs,T,oT,ts,⟨he,hc,hx,hd,h1⟩,⟨hb,hTe⟩,hT,hdT,h3⟩:=x.tr
 have lt:=(Array.getElem?_eq_some_iff.mp h3).1
 simp only [PySem.passOn]
 refine wpAny_bind (wpAny_field he hd h1 ?_)
 rw [if_neg (by simp)]
 refine wpAny_bind ?_
 simp only [setFlight]
 refine wpAny_bind (wpAny_field he hd h1 ?_)
 rw [if_pos (by simp)]
 refine turn x hT hdT h3 hb hTe fun h2 st fr oth ⟨o2,q2,d2⟩ up=>?_
 exact wpAny_throw (h h2 _ ⟨st,x.nw,fr,oe,vs,T,o2,_,⟨(oth e hTe.symm).trans he,hc,hx,hd,h1⟩,⟨hb,hTe⟩,q2,d2,by simp [lt];rfl⟩ up)
end
section
variable {P:Program}{w:World}{K:PySem.W.Frag}{mg:Str→Option Value}{base:Heap}{N:List Str}{qual:Str}{scope:Scope}{f:Addr}{cd:Value}{A:Around}{outer:List Env}{s:Shared}{H:Hp}{E:XK}
 {aA:List (Addr×Obj)} {σ:L2.St} {H1:Hp} {s1 s2:Shared}
theorem Up{csc:Scope}{cl:List (Str×Addr)}{C:Addr}{use:Option (Value→Sem Unit)}{R:Value→Shared→Prop}{acc e:Value}(I:Inv (Bp (CXd P w) P w K mg base N qual scope f cd A outer s H E) aA σ H1 s1)(hC:Gv (Bp (CXd P w) P w K mg base N qual scope f cd A outer s H E) aA H1 C)(ns:∃m,s1.heap.Ns C m)
  (h:CXd P w (Bp (CXd P w) P w K mg base N qual scope f cd A outer s H E).stack H1 s1 E e s2) :
  notedBy (model P w) (Bp (CXd P w) P w K mg base N qual scope f cd A outer s H E).A (compEnvC csc cl C (Bp (CXd P w) P w K mg base N qual scope f cd A outer s H E).env) (fun e s'=>compPost (model P w) (Bp (CXd P w) P w K mg base N qual scope f cd A outer s H E).A (Bp (CXd P w) P w K mg base N qual scope f cd A outer s H E).xe use R acc C (.error e) s') e s2:=by
 obtain ⟨a,Cv,dx,H2,rfl,os,bare,un,hok,fly,hE⟩:=h
 have I2:=I.call' (s':=s2) (ch:=[]) os un hok bare (fun b z=>absurd z (by simp))
 obtain ⟨B,T,fl,cov,ha,hT,h0a,h0T⟩:=fly.ex
 obtain ⟨c0,c1,c2,c3,c4,c5⟩:=hC
 obtain ⟨m,oC,es,ep,eC,dC,kC,fC⟩:=ns
 have cfr:C∉frs (envOfC qual scope s.heap.objs.size f cd::outer):=fun z=>by
  rcases List.mem_cons.mp (show C∈s.heap.objs.size::frs outer from z) with z | z
  ·exact c1 z
  ·exact c2 z
 have nCa:C≠a:=fun z=>by rw [z,h0a] at eC;cases eC
 have nCT:C≠T:=fun z=>by rw [z,h0T] at eC;cases eC
 have eC2:s2.heap.get? C=some oC:=un.keep C oC eC c0 cfr (by simp)
 have H2C:H2 C=none:=un.free C oC eC c0 (by simp)
 have sC:s.heap.get? C=none:=by
  rcases c3 with z | z
  ·exact absurd (show C∈([]:List Addr) from z) (by simp)
  ·cases q:s.heap.get? C with
   | none=>rfl
   | some o=>exact absurd (Nat.lt_of_lt_of_le (Heap.lt_size q) z) (Nat.lt_irrefl _)
 have BC:B.get? C=some oC:=cov C oC eC2 cfr nCa nCT
 have nex:∀b,b∉(Bp (CXd P w) P w K mg base N qual scope f cd A outer s H E).ex:=fun b z=>absurd (show b∈([]:List Addr) from z) (by simp)
 have old:∀b,s1.heap.get? b=none→s.heap.get? b=none:=fun b n=>by
  cases q:s.heap.get? b with
  | none=>rfl
  | some o =>
   obtain ⟨o',q1⟩:=I.base.there b o q (nex b)
   rw [n] at q1
   cases q1
 show wpAny (model P w) (A.deeper (envOfC qual scope s.heap.objs.size f cd)) (noteFrame (.ref a) (envOfC qual scope s.heap.objs.size f cd)) _ _ s2
 refine Qc I.ok.frames rfl fl fun h3 held up3=>?_
 refine ⟨m,⟨oC,es,ep,held.st C oC BC,dC,kC,fC⟩,fun h4 sb cenv hcenv=>?_⟩
 have bst:(PySem.W.hideAll B [C]).StaysIn h4:=fun b o q=>by
  have q':=PySem.W.of_hideAll [C] q
  have ne:b≠C:=fun z=>by
   rw [z,PySem.W.hideAll_none [C] (by simp)] at q
   cases q
  rw [sb.2 b ne]
  exact held.st b o q'
 have bnone:∀b,B.get? b=none→(PySem.W.hideAll B [C]).get? b=none:=fun b n=>by
  cases q:(PySem.W.hideAll B [C]).get? b with
  | none=>rfl
  | some o =>
   rw [PySem.W.of_hideAll [C] q] at n
   cases n
 have ff4:h4.FunFrames (PySem.W.hideAll B [C]) (envOfC qual scope s.heap.objs.size f cd::outer):=Uv bnone (fun b o hb q=>⟨o.slots,by
  rw [sb.2 b (fun z=>cfr (z ▸ hb)),q]⟩) held.fr
 have up34:∀b o,b≠C→h3.get? b=some o→h4.get? b=some o:=fun b o ne q=>by rw [sb.2 b ne];exact q
 obtain ⟨oe,vs,T1,oT,ts,⟨he,hcl,hdx,hd,h1⟩,⟨hnT,hTe⟩,hT1,hdT,h3'⟩:=held.tr
 have nCa':a≠C:=Ne.symm nCa
 have nT1:T1≠C:=fun z=>by
  rw [z,BC] at hnT
  cases hnT
 have tr4:FlD (PySem.W.hideAll B [C]) (envOfC qual scope s.heap.objs.size f cd::outer) a Cv dx (rawInt ↑s.heap.objs.size) h4:=⟨bst,bnone _ fl.nw,ff4,oe,vs,T1,oT,ts,⟨up34 a oe nCa' he,hcl,hdx,hd,h1⟩,⟨bnone _ hnT,hTe⟩,up34 T1 oT nT1 hT1,hdT,h3'⟩
 refine YB (s:={ s2 with heap:=h4 }) tr4 fun h5 fl5 f5 up5=>?_
 show wpAny (model P w) (A.deeper (envOfC qual scope s.heap.objs.size f cd)) (leaving (envOfC qual scope s.heap.objs.size f cd) (.ref a)) _ _ _
 refine WT (s:={ s2 with heap:=h5 }) I.ok.frames rfl f5 fun h6 fl6 up6=>?_
 have ks:∀b o,s2.heap.get? b=some o→b∈frs (envOfC qual scope s.heap.objs.size f cd::outer)→∃sl,h6.get? b=some { o with slots:=sl }:=fun b o q hb=>by
  obtain ⟨_,o',q',hd'⟩:=I2.stack.mem hb
  rw [q] at q'
  cases q'
  obtain ⟨sl3,e3⟩:=up3 b o q hd'
  have e4:=up34 b _ (fun z=>cfr (z ▸ hb)) e3
  obtain ⟨sl5,e5⟩:=up5 b _ e4 hd'
  obtain ⟨sl6,e6⟩:=up6 b _ e5 hd'
  exact ⟨sl6,e6⟩
 have kk:∀b o,s2.heap.get? b=some o→b∉frs (envOfC qual scope s.heap.objs.size f cd::outer)→¬(b=a∨b=T∨b=C)→h6.get? b=some o:=fun b o q nb nz=>fl6.st b o (PySem.W.hideAll_get [C] (cov b o q nb (fun z=>nz (.inl z)) fun z=>nz (.inr (.inl z))) (fun z=>nz (.inr (.inr (by simpa using z)))))
 obtain ⟨un6,hok6⟩:=Lp I2 (fun b=>b=a∨b=T∨b=C) (fun b z=>by
  rcases z with rfl | rfl | rfl
  ·exact ⟨old _ h0a,ha⟩
  ·exact ⟨old _ h0T,hT⟩
  ·exact ⟨sC,H2C⟩) kk ks
 refine ⟨a,Cv,dx,H2,rfl,I2.os,bare,un6,hok6,Uq.of fl6 ha (old a h0a) fun T2 oT2 ts2 hB hT2 hd2 hne=>⟨?_,?_⟩,hE⟩
 ·cases q:H2 T2 with
  | none=>rfl
  | some u =>
   obtain ⟨ob,qo⟩:=got (I2.hok T2 u q)
   have nb:T2∉frs (envOfC qual scope s.heap.objs.size f cd::outer):=fun z=>by
    have:=I2.stkFree T2 z
    rw [q] at this
    cases this
   have nT:T2≠T:=fun z=>by
    rw [z,hT] at q
    cases q
   have nC:T2≠C:=fun z=>by
    rw [z,H2C] at q
    cases q
   rw [PySem.W.hideAll_get [C] (cov T2 ob qo nb hne nT) (by simpa using nC)] at hB
   cases hB
 ·cases q:s.heap.get? T2 with
  | none=>rfl
  | some o =>
   obtain ⟨o',q1⟩:=I2.base.there T2 o q (nex T2)
   have nT:T2≠T:=fun z=>by
    rw [z,old T h0T] at q
    cases q
   have nC:T2≠C:=fun z=>by
    rw [z,sC] at q
    cases q
   by_cases hb:T2∈frs (envOfC qual scope s.heap.objs.size f cd::outer)
   ·rcases List.mem_cons.mp (show T2∈s.heap.objs.size::frs outer from hb) with z | z
    ·rw [z] at q
     exact absurd (Heap.lt_size q) (Nat.lt_irrefl _)
    ·obtain ⟨_,o2,q2,hd3⟩:=fl6.fr.mem z
     rw [hT2] at q2
     cases q2
     exact absurd hd2 (hd3 ts2)
   ·rw [PySem.W.hideAll_get [C] (cov T2 o' q1 hb hne nT) (by simpa using nC)] at hB
    cases hB
theorem Wr{elt iter target:Expr}{ifs:List Expr}{pos:Pos}{csc:Scope}{wi:TI}{tg:TG}{tt:Shared→Hp→Addr→List Addr→TT}{te:Shared→Hp→Addr→List Addr→TE}(xs:List Str)(js:List Nat){N':List Str}{fsc:Scope}{N1:List Str}(ok:Jl fsc csc xs js N1 N')(hi:PI (Bp (CXd P w) P w K mg base N qual scope f cd A outer s H E) target iter wi)
  (hg:∀s₀ H₀ C ex,PG (blk (Bp (CXd P w) P w K mg base N qual scope f cd A outer s H E) csc N' s₀ H₀ C ex) target tg) (ht:∀s₀ H₀ C ex,PTs (blk (Bp (CXd P w) P w K mg base N qual scope f cd A outer s H E) csc N' s₀ H₀ C ex) ifs (tt s₀ H₀ C ex))
  (he:∀s₀ H₀ C ex Y,Dy (CXd P w) (Tw (Bp (CXd P w) P w K mg base N qual scope f cd A outer s H E) csc N' s₀ H₀ C ex Y) E→PE (Tw (Bp (CXd P w) P w K mg base N qual scope f cd A outer s H E) csc N' s₀ H₀ C ex Y) elt (te s₀ H₀ C ex))
  (hc:(Bp (CXd P w) P w K mg base N qual scope f cd A outer s H E).calm=true:=by rfl) (hsc:(Bp (CXd P w) P w K mg base N qual scope f cd A outer s H E).env.scope=fsc:=by rfl) (hXN:(Bp (CXd P w) P w K mg base N qual scope f cd A outer s H E).N=N1:=by rfl) (hs:∀x,foldedSetIterable iter (Bp (CXd P w) P w K mg base N qual scope f cd A outer s H E).env x=pure x:=by intro _;rfl) :
  PE (Bp (CXd P w) P w K mg base N qual scope f cd A outer s H E) (.ListComp elt [⟨target,iter,ifs,0⟩] csc pos) (Q4 wi tg tt te xs.length js):=by
 intro aA s1 σ H1 Q I h
 rw [eval_ListComp]
 exact Te (CX:=CXd P w) (E:=E) xs js ok hi hg ht he hc hsc hXN hs none _ (fun C acc e aA σ H1 s1 s2 I hC ns hx=>Up I hC ns hx) I h fun D C s6 H5 m6 _ I6 f6 n6 q=>⟨m6,n6,fun h7 sb=>⟨.ref D,H5,La I6 f6 sb,rfl,q⟩⟩
end
end L3
namespace L3
open PySem PySem.Spec PyProof.Rows L2 Ra
structure Ko(P:Program)(w:World)(K:PySem.W.Frag)(mg:Str→Option Value)(base:Heap)(C:Addr)(m:Str)(k:Nat)(ps:List Str)(sp:Sp):Prop where
 ex:∃f fd,BZ P w K mg base (CXd P w) k f fd ps sp∧En K fd ps []∧W4 K C m f∧Cls K C
theorem Zy{X:Cx}{C:Addr}{m:Str}{k j:Nat}{ps:List Str}{sp:Sp}{E:XK}{o e:Expr}{es:List Expr}{ta:TE}{t:TA}{aF pos:Pos}{pl:Sem Bool}(Cm:Ko X.prog X.w X.K X.mg X.base C m k ps sp)(hr:Df j X.A)(hp:Dy (CXd X.prog X.w) X E)(he:PE X o ta)(ha:PA X (e::es) t)(hkj:k≤j:=by decide)
  (hst:starEach (e::es) X.env=(false,eval e X.env)::starEach es X.env:=by rfl) (hpl:(backTo pos (starEach es X.env)).any (·.1)=false:=by rfl)
  (ht:eval (.Call (.Attribute o m aF) (e::es) [] pos) X.env=(do
   let ov ←eval o X.env
   standAt aF.atName
   let (f,first) ←holding [ov] (getMethod ov m pl)
   callWith pos f first (backTo pos (starEach (e::es) X.env)) (backToKw pos (keywordEach [] X.env))):=by rfl) :
  PE X (.Call (.Attribute o m aF) (e::es) [] pos) (Uz C m sp [] E ta t):=by
 obtain ⟨f,fd,F,b,hm,cl⟩:=Cm.ex
 exact Yx he cl hm F (hr.mono hkj) b .nil hp ha hst hpl ht
def Yp(C:Addr)(m:Str)(sp:Sp)(i:Nat)(ta:TE)(t:TA):(Value→Option Addr→L2.St→Hp→Prop)→TS:=fun R D σ H=>ta σ H fun x H1=>∃a dx fs,x=.ref a∧H1 a=some (.ins C dx fs)∧fs.lookup m=none ∧
 t σ H1 fun vs H2=>sp (x::vs) H2 (fun v H3=>D.nx (σ.set i (some v)) H3) fun C dx H3=>R C dx σ H3
theorem WN{X:Cx}{C:Addr}{m y:Str}{i k j:Nat}{ps:List Str}{sp:Sp}{o e:Expr}{es:List Expr}{ta:TE}{t:TA}{aF yp pos pos':Pos}{pl:Sem Bool}(Cm:Ko X.prog X.w X.K X.mg X.base C m k ps sp)(hr:Df j X.A)(hN:X.N.Nodup)(hi:X.N[i]?=some y)(hy:Loc X.env.scope y)(ho:PE X o ta)(ha:PA X (e::es) t)(hxe:X.xe=(fun _ _=>False):=by rfl)(hkj:k≤j:=by decide)
  (hst:starEach (e::es) X.env=(false,eval e X.env)::starEach es X.env:=by rfl) (hpl:(backTo pos (starEach es X.env)).any (·.1)=false:=by rfl)
  (ht:eval (.Call (.Attribute o m aF) (e::es) [] pos) X.env=(do
   let ov ←eval o X.env
   standAt aF.atName
   let (f,first) ←holding [ov] (getMethod ov m pl)
   callWith pos f first (backTo pos (starEach (e::es) X.env)) (backToKw pos (keywordEach [] X.env))):=by rfl)
  (hs:swapsWith (.Call (.Attribute o m aF) (e::es) [] pos) (some (.Name y yp)) pos'.line X.env=pure false:=by rfl) (hf:X.fn y=true∨X.env.scope.names.lookup y=some .local:=by first | exact .inl rfl | exact .inr rfl | assumption) :
  AH4 X (.Assign [.Name y yp] (.Call (.Attribute o m aF) (e::es) [] pos) pos') (Yp C m sp i ta t):=by
 obtain ⟨f,fd,F,b,hm,cl⟩:=Cm.ex
 intro aA s σ H D R I h
 have ho':=ho aA s σ H _ I h
 rw [hxe] at ho'
 refine wpAny_Assign_Name (PySem.W.methodCall_KW (pl:=pl) (wpAny_mono ho' (fun u s1 h1=>?_) fun _ _ z=>False.elim z) ht) hs
 obtain ⟨x,H1,I1,rx,a,dx,fs,ex,ea,l,q⟩:=h1
 subst ex
 obtain rfl:u=Value.ref a:=rx
 refine JP I1 ea cl hm l ?_
 have ha':=ha pos aA s1 σ H1 _ I1 q
 rw [hxe] at ha'
 refine PySem.W.callWith_K (first:=[.ref a]) (h₀:=X.base) I.ok.mod.kin hm.kp (wpAny_mono ha' (fun us s2 h2=>?_) fun _ _ z=>False.elim z) hst hpl
 obtain ⟨vs,H2,I2,r,q2⟩:=h2
 refine ⟨I2.kIn,?_⟩
 have r2:BW (.ref a::vs) (.ref a::us):=.cons rfl r
 have hl:(Value.ref a::us).length=ps.length:=by rw [←r2.length];exact F.len _ _ _ _ q2
 refine wpAny_call (codeAny_mono (F.run X.A X.stack s2 H2 ⟨.ref a::us,[]⟩ (.ref a::us) (.ref a::vs) _ _ (hr.mono hkj) I2.env0 (by simpa using b s2 (.ref a::us) I2.kIn (by simpa using hl)) r2 q2) fun res s3 hq=>?_)
 cases res with
 | error ev =>
  obtain ⟨ae,Cv,dx,H3,rfl,os,bare,un,hok,fly,hE⟩:=hq
  exact ⟨ae,Cv,dx,σ,H3,H2,s2,rfl,I2,I2.call' (ch:=[]) os un hok bare (fun b z=>absurd z (by simp)),fly,hE⟩
 | ok fl =>
  cases fl with
  | ret u =>
   obtain ⟨v,H3,I3,rv,qv⟩:=I2.after hq
   exact Hw I3 hN hi hy rv (fun s4 I4=>⟨_,H3,I4,qv⟩) hf
  | next=>exact False.elim hq
  | brk=>exact False.elim hq
  | cont=>exact False.elim hq
end L3
namespace L3
open PySem PySem.Spec PyProof.Rows L2 Ra
theorem QJ{X:Cx}:Gz X (.type "str") (fun xs H Q=>xs=[.non]∧Q (.str "None") H):=by
 intro aA s σ H xs us Q I r h
 obtain ⟨rfl,q⟩:=h
 obtain ⟨u,rfl,rx⟩:=Ga r
 cases rx
 exact PySem.P.str_of_none ⟨.str _,H,I.tok _,⟨_,rfl⟩,q⟩
def AJ8(tc:TT)(t u:(Value→Option Addr→L2.St→Hp→Prop)→TS):(Value→Option Addr→L2.St→Hp→Prop)→TS:=fun R D σ H=>tc σ H fun b H1=>if b=true then t R D σ H1 else u R D σ H1
end L3
namespace L3
open PySem PySem.Spec PyProof.Rows L2 Ra Rq
def isInt:PyData→Bool
 | .int _=>true
 | _=>false
def ACq:PyData→Bool
 | .tuple _=>true
 | _=>false
def AD8:PyData→Bool
 | .list _=>true
 | _=>false
def frd:PyData→Bool
 | .tuple [.int a,.int b]=>decide (1≤b)&&decide (g a b=1)
 | _=>false
def abo:PyData→Bool
 | .tuple [.int a,.int b]=>decide (1≤b)&&decide (g a b=1)&&decide (0<a)
 | _=>false
def AGQ:PyData→Bool
 | .list ds=>ds.all abo
 | _=>false
def AJB:PyData→PyData→Bool
 | .list a,.list b=>decide (a.length=b.length+1)&&decide (b.length≤12)
 | _,_=>false
def AJb(a b:PyData):Bool:=AGQ a&&AGQ b&&AJB a b
structure Ke(K:PySem.W.Frag)(H:Hp)(v:V)(i b t l:Bool):Prop where
 ex:∃ty,Gx K H v ty∧PySem.W.kitOne K ty (.type "int")=some i∧PySem.W.kitOne K ty (.type "bool")=some b∧PySem.W.kitOne K ty (.type "tuple")=some t∧PySem.W.kitOne K ty (.type "list")=some l
theorem Z8{K:PySem.W.Frag}{H:Hp}{v:V}{d:PyData}(h:Dv H v d):∃i b,Ke K H v i b (ACq d) (AD8 d)∧(i&&!b)=isInt d:=by
 cases h with
 | non=>exact ⟨false,false,⟨_,.non,by with_unfolding_all rfl,by with_unfolding_all rfl,by with_unfolding_all rfl,by with_unfolding_all rfl⟩,rfl⟩
 | bl b=>exact ⟨true,true,⟨_,.bl _,by with_unfolding_all rfl,by with_unfolding_all rfl,by with_unfolding_all rfl,by with_unfolding_all rfl⟩,rfl⟩
 | int i=>exact ⟨true,false,⟨_,.int _,by with_unfolding_all rfl,by with_unfolding_all rfl,by with_unfolding_all rfl,by with_unfolding_all rfl⟩,rfl⟩
 | str x=>exact ⟨false,false,⟨_,.str _,by with_unfolding_all rfl,by with_unfolding_all rfl,by with_unfolding_all rfl,by with_unfolding_all rfl⟩,rfl⟩
 | lst h _=>exact ⟨false,false,⟨_,.lst h,by with_unfolding_all rfl,by with_unfolding_all rfl,by with_unfolding_all rfl,by with_unfolding_all rfl⟩,rfl⟩
 | tup h _=>exact ⟨false,false,⟨_,.tup h,by with_unfolding_all rfl,by with_unfolding_all rfl,by with_unfolding_all rfl,by with_unfolding_all rfl⟩,rfl⟩
theorem Zt{H:Hp}{v:V}{d:PyData}(h:Dv H v d)(e:frd d=true):∃p a b,v=.ref p∧Pr H p a b∧d=.tuple [.int a,.int b]∧1≤b∧g a b=1:=by
 unfold frd at e
 split at e
 ·rename_i a b
  rw [Bool.and_eq_true] at e
  cases h with
  | tup h r =>
   cases r with
   | cons h1 r =>
    cases r with
    | cons h2 r =>
     cases r
     cases h1
     cases h2
     exact ⟨_,a,b,rfl,h,rfl,of_decide_eq_true e.1,of_decide_eq_true e.2⟩
 ·cases e
mutual
def Uo:PyData→Bool
 | .list _=>false
 | .dict _=>false
 | .tuple ds=>flatAll ds
 | .none=>true
 | .bool _=>true
 | .int _=>true
 | .str _=>true
def flatAll:List PyData→Bool
 | []=>true
 | d::ds=>Uo d&&flatAll ds
end
mutual
theorem Dv.upl{H:Hp}{D:Addr}{xs ys:List V}(hD:H D=some (.lst xs)):∀{v:V} {d:PyData},Dv H v d→Uo d=true→Dv (upd H D (.lst ys)) v d
 | _,_,.non,_=>.non
 | _,_,.bl b,_=>.bl b
 | _,_,.int i,_=>.int i
 | _,_,.str x ok,_=>.str x ok
 | _,_,.lst _ _,e=>by rw [Uo] at e;cases e
 | _,_,.tup h r,e=>by
  rw [Uo] at e
  exact .tup (by rw [Ai (GZ h hD (by intro z;cases z))];exact h) (DvAll.upl hD r e)
theorem DvAll.upl{H:Hp}{D:Addr}{xs ys:List V}(hD:H D=some (.lst xs)):∀{vs:List V} {ds:List PyData},DvAll H vs ds→flatAll ds=true→DvAll (upd H D (.lst ys)) vs ds
 | _,_,.nil,_=>.nil
 | _,_,.cons h r,e=>by
  rw [flatAll,Bool.and_eq_true] at e
  exact .cons (Dv.upl hD h e.1) (DvAll.upl hD r e.2)
end
def AI0:PyData→Bool
 | .list ds=>flatAll ds
 | d=>Uo d
def AJv:PyData→Bool
 | .list ds=>ds.all AI0
 | d=>Uo d
def Off(D:Addr)(H:Hp)(v:V)(d:PyData):Prop:=(Uo d=true∧Dv H v d)∨∃l zs ds,v=.ref l∧l≠D∧H l=some (.lst zs)∧DvAll H zs ds∧flatAll ds=true∧d=.list ds
abbrev AKV(D:Addr)(H:Hp):List V→List PyData→Prop:=Paired (Off D H)
end L3
namespace L3
open PySem PySem.Spec PyProof.Rows L2 Ra
theorem Kh{X:Cx}:Gz X (.type "int") (fun xs H Q=>∃b,xs=[.bl b]∧Q (.int (if b then 1 else 0)) H):=by
 intro aA s σ H xs us Q I r h
 obtain ⟨b,rfl,q⟩:=h
 obtain ⟨u,rfl,rx⟩:=Ga r
 cases rx
 exact call_int_bool ⟨.int (if b then 1 else 0),H,I.tok _,⟨_,rfl⟩,q⟩
end L3
namespace L3
open PySem PySem.Spec PyProof.Rows L2 Ra
section
variable {prog:Program}{w:World}{A:Around}{E:Value→Shared→Prop}{s:Shared}
theorem S7:typeLookup (.type "list_reverseiterator") "__len__"=pure none:=by rw [typeLookup_type,builtinLookup_eq_fast];kernel_rfl
theorem Xf:typeLookup (.type "list_reverseiterator") "__length_hint__"=pure (some (.builtin "list_reverseiterator.__length_hint__")):=by rw [typeLookup_type,builtinLookup_eq_fast];kernel_rfl
theorem YJ{r l:Addr}{i:Int}{Q:Bool→Shared→Prop}(hr:s.heap.IsRevIter r l i)(h:Q false s):wpAny (model prog w) A (Builtin.List.listLengthHint (.ref r)) Q E s:=by
 unfold Builtin.List.listLengthHint
 refine wpAny_bind (wpAny_specialOf hr.typeIs S7 ?_)
 refine wpAny_ite_split (fun z=>absurd z (by decide)) (fun _=>?_)
 refine wpAny_ite_split (fun z=>absurd z (by decide)) (fun _=>?_)
 refine wpAny_bind (wpAny_specialOf hr.typeIs Xf ?_)
 generalize hid:("list_reverseiterator.__length_hint__":String)=id0
 wp_delta
 rw [show splitId id0=some ("list_reverseiterator","__length_hint__") from by subst hid;decide +kernel]
 subst hid
 refine wpAny_bind (wpAny_isInstance (T:="list_reverseiterator") (b:=true) hr.typeIs (by rw [isSubtype_type];kernel_rfl) ?_)
 refine wpAny_ite_split (fun z=>absurd z (by decide)) (fun _=>?_)
 refine wpAny_ite_split (fun _=>?_) (fun z=>absurd (by decide +kernel) z)
 refine wpAny_ite_split (fun z=>absurd z (by decide)) (fun _=>?_)
 exact wpAny_pure h
theorem Nt{l r:Addr}{items:Array Value}{Q:Value→Shared→Prop}(hh:A.handled=none)(hr:s.heap.IsRevIter r l ((items.size:Int)-1))(hl:s.heap.IsList l items)(ne:l≠r)(hz:items.size≤sizeLine)
  (q:∀h' tk acc c,(∀b o,b≠r→s.heap.get? b=some o→h'.get? b=some o)→h'.get? s.heap.objs.size=some { cls:=.type "list",dict:=none,data:=.seq acc c,slots:=#[] }→ItemsOf (fun i v=>items[items.size-1-i]?=some v) acc items.size→Q (.ref s.heap.objs.size) { s with heap:=h',toks:=tk }) :
  wpAny (model prog w) A (call (.type "list") [.ref r]) Q E s:=by
 obtain ⟨orr,er,erc,erd⟩:=id hr
 have ltr:r<s.heap.objs.size:=Heap.lt_size er
 obtain ⟨ol,el,_⟩:=id hl
 have ltl:l<s.heap.objs.size:=Heap.lt_size el
 refine callType_codes (Q₁:=fun ob k=>ob=.ref s.heap.objs.size∧k={ s with heap:=s.heap.push { cls:=.type "list",data:=.seq #[] } }) F.called_list (F.typeCall_list_1 _) F.entry_list_init (code_list_new _ ⟨rfl,rfl⟩) fun ob k hk=>?_
 obtain ⟨rfl,rfl⟩:=hk
 have e0:(s.heap.push { cls:=.type "list",data:=.seq #[] }).get? s.heap.objs.size=some { cls:=.type "list",data:=.seq #[] }:=Heap.get?_push_size _ rfl
 refine ⟨⟨_,e0,rfl⟩,F.args_list_init_2 _ _,?_⟩
 show wpAny (model prog w) A.in1.in1 (do let old ←Builtin.List.listItems (.ref s.heap.objs.size);Builtin.List.listUpdate (.ref s.heap.objs.size) (fun _=>#[]);letGo old.toList.reverse;Builtin.List.listExtendWith (.ref s.heap.objs.size) (.ref r) .none) _ _ _
 refine wpAny_bind ?_
 unfold Builtin.List.listItems
 refine wpAny_bind (wpAny_seqItems e0 rfl (wpAny_pure ?_))
 show wpAny (model prog w) A.in1.in1 (updateSeq s.heap.objs.size (fun _=>#[]) >>= fun _=>letGo (#[]:Array Value).toList.reverse >>= fun _=>Builtin.List.listExtendWith (.ref s.heap.objs.size) (.ref r) .none) _ _ _
 refine wpAny_bind (wpAny_updateSeq e0 rfl (wpAny_bind (wpAny_letGo ?_)))
 have e1:=Heap.get?_update_self (Obj.mapSeq (fun _=>(#[]:Array Value))) e0 rfl
 have up:∀b o,s.heap.get? b=some o→((s.heap.push { cls:=.type "list",data:=.seq #[] }).update s.heap.objs.size (Obj.mapSeq (fun _=>(#[]:Array Value)))).get? b=some o:=fun b o e=>(Heap.get?_update_other _ _ (Nat.ne_of_gt (Heap.lt_size e))).trans (Heap.get?_push_of_some _ e)
 have hr1:=hr.at fun o e=>up r o e
 have hl1:=hl.at fun o e=>up l o e
 generalize hk1:(s.heap.push { cls:=.type "list",data:=.seq #[] }).update s.heap.objs.size (Obj.mapSeq (fun _=>(#[]:Array Value)))=k1 at *
 unfold Builtin.List.listExtendWith
 refine wpAny_bind (wpAny_typeOf (T:="list_reverseiterator") hr1.typeIs ?_)
 have c1:Builtin.List.listSameRef (.ref s.heap.objs.size) (.ref r)=false:=by simp [Builtin.List.listSameRef];exact Nat.ne_of_gt ltr
 have c2:(Value.type "list_reverseiterator"==Value.type "list")=false:=by decide
 have c3:(Value.type "list_reverseiterator"==Value.type "tuple")=false:=by decide
 simp only [c1,c2,c3,Bool.or_false,Bool.false_eq_true,if_false]
 refine wpAny_bind (wpAny_pyIter_revIter hr1 (wpAny_bind (wpAny_holding (YJ hr1 ?_))))
 refine wpAny_ite_split (fun z=>absurd z (by decide +kernel)) (fun _=>?_)
 have W:=(Walks.listRev (prog:=prog) (w:=w) (A:=A.in1.in1) hh r l ne items).toS
 refine wpAny_pure ⟨plainId_quiet F.plain_extend_loop _,codeAny_extend_loopS W hz s.heap.objs.size (by simp;exact ⟨Nat.ne_of_gt ltr,Nat.ne_of_gt ltl⟩) .none items.size 0 _ #[] _ rfl (Nat.zero_le _) ⟨Nat.zero_le _,by simpa using hr1,hl1⟩ e1 (ItemsOf.nil _) fun s' acc c hm e2 hacc=>?_⟩
 rw [Moved.eq_with hm]
 refine ⟨rfl,q s'.heap s'.toks acc c (fun b o nb e=>hm.heap b o ?_ (up b o e)) e2 hacc⟩
 simp [nb]
 exact Nat.ne_of_lt (Heap.lt_size e)
end
def Yc(K:PySem.W.Frag)(ta:TA):TE:=fun σ H Q=>ta σ H fun vs H1=>∃a xs,vs=[.ref a]∧SqL K H1 a xs∧∀p,H1 p=none→Q (.ref p) (upd H1 p (.lst xs.reverse))
theorem Ly{X:Cx}{a:Expr}{ta:TA}{p p2 pos pos2:Pos}(hg1:Gl X "list")(hm1:X.mg "list"=none)(hg2:Gl X "reversed")(hm2:X.mg "reversed"=none)(ha:PA X [a] ta)(hc:X.calm=true:=by rfl)
  (hs:starEach [a] X.env=[(false,eval a X.env)]:=by rfl) (hs2:starEach [.Call (.Name "reversed" p2) [a] [] pos2] X.env=[(false,eval (.Call (.Name "reversed" p2) [a] [] pos2) X.env)]:=by rfl) :
  PE X (.Call (.Name "list" p) [.Call (.Name "reversed" p2) [a] [] pos2] [] pos) (Yc X.K ta):=by
 intro aA s σ H Q I h
 refine Call_name1 hs2 (HR I hg1 hm1 boot_list (PySem.callWith_type1 ?_))
 refine Call_ (HR I hg2 hm2 boot_reversed (PyProof.Rows.callWith_type1 (thn (ha pos2 aA s σ H _ I h) fun us s1 ⟨vs,H1,I1,r1,q1⟩=>?_) hs rfl))
 obtain ⟨l,xs,rfl,hq,q⟩:=q1
 cases r1 with
 | cons r rr =>
  cases rr
  cases r
  obtain ⟨its,rv,pl,hz⟩:=I1.list hq
  have aB:=rv.length
  refine call_reversed_list pl.isList ?_
  have ltl:l<s1.heap.objs.size:=by
   obtain ⟨o,ho,_⟩:=pl.isList
   exact Heap.lt_size ho
  have hl2:=pl.isList.at (h':=s1.heap.push (revObj l ((its.toArray.size:Int)-1))) fun o e=>Heap.get?_push_of_some _ e
  refine Nt (I1.ok.hd hc) ⟨_,Heap.get?_push_size _ rfl,rfl,rfl⟩ hl2 (Nat.ne_of_lt ltl) (by rw [List.size_toArray];omega) fun h' tk acc c hk e2 hacc=>?_
  have e3:(s1.heap.push (revObj l ((its.toArray.size:Int)-1))).objs.size=s1.heap.objs.size+1:=Heap.size_push ..
  have ea:acc=its.reverse.toArray:=by
   apply Array.ext'
   apply List.ext_getElem?
   intro i
   rw [List.toList_toArray]
   by_cases hi:i<its.length
   ·have hs:acc.size=its.length:=by rw [hacc.1,List.size_toArray]
    have hi2:i<acc.size:=by omega
    have e4:=hacc.2 i _ (Array.getElem?_eq_getElem hi2)
    rw [List.getElem?_reverse hi,Array.getElem?_toList,Array.getElem?_eq_getElem hi2,←e4]
    simp
   ·have hs:acc.size=its.length:=by rw [hacc.1,List.size_toArray]
    rw [List.getElem?_eq_none (by rw [Array.length_toList];omega),List.getElem?_eq_none (by rw [List.length_reverse];omega)]
  rw [e3] at e2 ⊢
  subst ea
  refine ⟨.ref (s1.heap.objs.size+1),_,I1.laid (h':=h') (t':=tk) (o:=.lst xs.reverse) (fun b o e=>hk b o (Nat.ne_of_lt (Heap.lt_size e)) (Heap.get?_push_of_some _ e)) (Nat.le_succ _) ?_,rfl,q _ (I1.hok.fresh (Nat.le_succ _))⟩
  exact ⟨by rw [List.length_reverse];exact hz,_,c,rv.reverse,e2⟩
end L3
namespace L3
open PySem PySem.Spec PyProof.Rows L2 Ra
section
variable {prog:Program}{w:World}{A:Around}{E:Value→Shared→Prop}
theorem Z6{it l:Addr}{items:Array Value}(hne:l≠it):∀(n i:Nat) (s:Shared) (Q:List Value→Shared→Prop),s.heap.IsListIter it l i→s.heap.IsList l items→i+n≤items.size →
  (∀h',h'.IsListIter it l (i+n)→Heap.SameBut it s.heap h'→Q ((items.toList.drop i).take n) { s with heap:=h' })→wpAny (model prog w) A (draw (.ref it) n) Q E s
 | 0,i,s,Q,hit,_,_,hQ=>by
  show wpAny _ _ (pure []) Q E s
  exact wpAny_pure (by simpa using hQ s.heap hit (Heap.SameBut.refl ..))
 | n+1,i,s,Q,hit,ht,hle,hQ=>by
  have hlt:i<items.size:=by omega
  show wpAny _ _ (pyNext (.ref it) >>= _) Q E s
  refine wpAny_bind (wpAny_pyNext_list_item hit ht (x:=items[i]) (by simp [hlt]) fun g1 t1 b1=>?_)
  refine wpAny_bind (wpAny_holding (Z6 hne n (i+1) _ _ t1 (ht.extBut b1.extBut hne) (by omega) fun g2 t2 b2=>wpAny_pure ?_))
  have:=hQ g2 (by rw [show i+(n+1)=i+1+n by omega];exact t2) (b1.trans b2)
  rw [show items.toList.drop i=items[i]::items.toList.drop (i+1) by simp [List.drop_eq_getElem_cons,hlt],List.take_succ_cons] at this
  exact this
theorem Y8{s:Shared}{l:Addr}{items:Array Value}{targets:List (Bool×(Value→Sem Unit))}{Q:Unit→Shared→Prop}(hh:A.handled=none)(ht:s.heap.IsList l items)(hn:targets.length=items.size)(hstar:targets.findIdx? (·.1)=none)
  (h:∀h',Heap.ExtBut s.heap.objs.size s.heap h'→wpAny (model prog w) A (assignInOrder (targets.map (·.2)) items.toList) Q E { s with heap:=h' }) :
  wpAny (model prog w) A (unpack (.ref l) targets) Q E s:=by
 have hlt:l≠s.heap.objs.size:=by
  obtain ⟨o,ho,_⟩:=ht
  exact Nat.ne_of_lt (Heap.lt_size ho)
 unfold unpack
 rw [hn,hstar]
 refine wpAny_bind (wpAny_holding ?_)
 unfold unpackItems
 refine wpAny_bind ?_
 unfold notIterableAtAll
 refine wpAny_bind (wpAny_specialOf ht.typeIs slot_list_iter.lookup ?_)
 refine wpAny_pure ?_
 simp only [Bool.false_eq_true,if_false]
 refine wpAny_bind (wpAny_holding (wpAny_pyIter_list ht ?_))
 refine wpAny_bind (wpAny_holding (Z6 hlt items.size 0 _ _ ⟨_,Heap.get?_push_size _ rfl,rfl,rfl⟩ (ht.push _) (by omega) fun g1 t1 b1=>?_))
 rw [show List.take items.size (List.drop 0 items.toList)=items.toList by rw [List.drop_zero];exact List.take_of_length_le (by simp)]
 rw [if_neg (by simp)]
 refine wpAny_bind (wpAny_holding (wpAny_pyNext_list_end hh t1 ((ht.push _).extBut b1.extBut hlt) (by simp) fun g2 e2=>?_))
 simp only [Option.isSome_none,Bool.false_eq_true,if_false]
 exact wpAny_pure (h g2 fun b o hb e=>e2 b o hb (b1.extBut b o hb (Heap.get?_push_of_some _ e)))
end
def AGY(K:PySem.W.Frag)(n:Nat)(t:TGs):TG:=fun v σ H Q=>∃a xs,v=.ref a∧SqL K H a xs∧xs.length=n∧t xs σ H Q
theorem Ze{X:Cx}{es:List Expr}{k:Nat}{t:TGs}{n:Nat}{pos:Pos}(hc:X.calm=true)(h:PGs X es t)
  (hn:(assignEach es X.env).length=n:=by rfl) (hst:(assignEach es X.env).findIdx? (·.1)=none:=by rfl):PG X (.Tuple es k pos) (AGY X.K n t):=by
 intro aA s σ H v u Q I r hw
 obtain ⟨a,xs,e1,hq,hl,hw⟩:=hw
 subst e1
 cases r
 obtain ⟨its,rv,ht,hz⟩:=I.list hq
 rw [assign_Tuple]
 refine wpAny_bind (wpAny_standAt (Y8 (I.ok.hd hc) ht.isList (by simp [hn,←hl,rv.length]) hst fun h' hx=>?_))
 have I1:Inv X aA σ H { s with heap:=h' }:=I.kept (t':=s.toks) fun b o e=>hx b o (Nat.ne_of_lt (Heap.lt_size e)) e
 exact h aA _ σ H xs _ Q I1 (by simpa using rv) hw
section
variable {X:Cx}{c:Expr}{a b:List Stmt}{t u:TS}{tc:TT}{pos:Pos}
theorem ABk{o i:Expr}{es:List Expr}{te:TE}{ta:TA}{p:Pos}(ha:PEw X (.Subscript o i p) te)(hr:PAw X es ta):PAw X (.Subscript o i p::es) (Mh te ta):=⟨Aa ha.h hr.h rfl⟩
theorem NB{s:Str}{k:Nat}{p lp aF aD:Pos}{es:List Expr}{ta:TA}(h:PAw X es ta)(hp:(aF.endLine==aD.line)=true:=by rfl) :
  PEw X (.Call (.Attribute (.Constant (.str s) k p) "join" aF) [.List es lp] [] aD) (tBM X.K "str" (fun x xs H Q=>∃a p ts,x=.str a∧xs=[.ref p]∧SqL X.K H p (ts.map V.str)∧JoinOk a ts=true∧Q (.str (Txt.join a ts)) H) (tC (.str s)) (Mh (AAy ta) Rf)) :=
 ⟨FP PySem.F.plainAttrs_str PySem.F.slot_str_join PySem.F.type_str_join Lb Aq (Aa (Er h.h) Ae rfl) rfl rfl hp rfl rfl⟩
theorem AGZ{x:Str}{k j:Nat}{ps:List Str}{sp:Sp}{e:Expr}{es:List Expr}{ta:TA}{p pos:Pos}(C:Cal X.prog X.w X.K X.mg X.base x k ps sp)(hr:Df j X.A)(ha:PAw X (e::es) ta)(hkj:k≤j:=by decide)(hg:Gl X x:=by rfl)
  (hdb:(x==("__debug__":Str))=false:=by decide) (he:starEach (e::es) X.env=(false,eval e X.env)::starEach es X.env:=by rfl) (hpl:(backTo pos (starEach es X.env)).any (·.1)=false:=by rfl) :
  PEw X (.Call (.Name x p) (e::es) [] pos) (VM sp [] E0 ta):=⟨BR C hr ha.h hkj hg hdb he hpl⟩
theorem Qi:S5 X [] AAe:=⟨Am⟩
theorem Zr(h:PT X c tc)(ha:S5 X a t)(hb:S5 X b u):PSw X (.If c a b pos) (ADu tc t u):=⟨BL h ha.h hb.h⟩
end
theorem AAo{X:Cx}{C:Addr}{x:Str}{k j:Nat}{ps:List Str}{sp:Sp}{p pos:Pos}(Cc:AAt X.prog X.w X.K X.mg X.base x C k ps sp)(hr:Df j X.A)(hkj:k+1≤j:=by decide)(hg:Gl X x:=by rfl)
  (hdb:(x==("__debug__":Str))=false:=by decide):PE X (.Call (.Name x p) [] [] pos) (Rg C sp [] E0 Rf):=by
 obtain ⟨f,fd,F,b,M,hm⟩:=Cc.ex
 exact XN M F (hr.mono hkj) hg hm b .nil Xa hdb
end L3
namespace My
open PySem L2 L3 Ra Rq PyProof.Rows
theorem la1{us:List Value}(h:us.length=1):∃a,us=[a]:=match us,h with | [a],_=>⟨a,rfl⟩
theorem la2{us:List Value}(h:us.length=2):∃a b,us=[a,b]:=match us,h with | [a,b],_=>⟨a,b,rfl⟩
theorem la3{us:List Value}(h:us.length=3):∃a b c,us=[a,b,c]:=match us,h with | [a,b,c],_=>⟨a,b,c,rfl⟩
theorem la4{us:List Value}(h:us.length=4):∃a b c d,us=[a,b,c,d]:=match us,h with | [a,b,c,d],_=>⟨a,b,c,d,rfl⟩
theorem la5{us:List Value}(h:us.length=5):∃a b c d e,us=[a,b,c,d,e]:=match us,h with | [a,b,c,d,e],_=>⟨a,b,c,d,e,rfl⟩
theorem bt2{n:Nat}{x:Int}(h:x.natAbs<2^n):Bt n x:=h
local macro_rules | `(tactic| walk_at "s")=>`(tactic| first
 | refine ⟨_,rfl,?_⟩
 | refine ⟨_,_,rfl,rfl,?_⟩
 | refine ⟨_,_,rfl,?_⟩
 | refine ⟨rfl,?_⟩
 | refine ⟨_,_,_,_,rfl,rfl,Pr.sq (by assumption),rfl,?_⟩
 | refine ⟨_,_,_,_,rfl,Gx.int _,kit_int_int _,?_⟩
 | refine ⟨_,_,_,_,rfl,Gx.int _,kit_int_bool _,?_⟩
 | refine ⟨_,_,_,_,rfl,Gx.tup (by assumption),kit_tup_tup _,?_⟩
 | refine ⟨_,_,rfl,.inr (Pr.sq (by assumption)),?_⟩
 | refine DY ?_
 | refine FN ?_
 | refine ⟨(by show (0:Int)<_;decide),?_⟩
 | refine ⟨⟨(by decide),bt2 (by decide +kernel)⟩,?_⟩
 | refine ⟨(⟨(by decide),(by decide),(by decide)⟩:AIm _ _),?_⟩)
local macro_rules | `(tactic| walk_at "r")=>`(tactic| repeat walk_at "s")
structure Txt(mg:Str→Option Value):Prop where
 z_abs:mg "abs"=none
 z_len:mg "len"=none
 z_isinstance:mg "isinstance"=none
 z_int:mg "int"=none
 z_bool:mg "bool"=none
 z_tuple:mg "tuple"=none
 z_range:mg "range"=none
 z_list:mg "list"=none
 z_zip:mg "zip"=none
 z_all:mg "all"=none
 z_str:mg "str"=none
 z_reversed:mg "reversed"=none
 z_max:mg "max"=none
 z_ValueError:mg "ValueError"=none
 c_MOST_BEADS:∃t,mg "MOST_BEADS"=some (.int 12 t)
 c_FIGURES:∃t,mg "FIGURES"=some (.str "0123456789" t)
 c_MOST_FIGURES:∃t,mg "MOST_FIGURES"=some (.int 30 t)
 c_LETTERS:∃t,mg "LETTERS"=some (.str "abcdefghijklmnopqrstuvwxyz" t)
 c_LONGEST_NAME:∃t,mg "LONGEST_NAME"=some (.int 8 t)
 c_MOST_HALVINGS:∃t,mg "MOST_HALVINGS"=some (.int 60 t)
structure Ss(K:PySem.W.Frag)(mg:Str→Option Value)(c_NoText c_NoName c_NoBead c_NoCord c_NoWorth c_NoFraction c_CordError:Addr):Prop where
 m_NoText:mg "NoText"=some (.ref c_NoText)
 m_NoName:mg "NoName"=some (.ref c_NoName)
 m_NoBead:mg "NoBead"=some (.ref c_NoBead)
 m_NoCord:mg "NoCord"=some (.ref c_NoCord)
 m_NoWorth:mg "NoWorth"=some (.ref c_NoWorth)
 m_NoFraction:mg "NoFraction"=some (.ref c_NoFraction)
 m_CordError:mg "CordError"=some (.ref c_CordError)
 o_NoName:KH K c_NoName
 i_NoName:PySem.W.isIn K (.ref c_NoName) c_NoName=true
 x_NoName:PySem.W.exmOne K (.ref c_NoName) (.ref c_CordError)=some true
 e_NoName:GR K c_NoName
 o_NoBead:KH K c_NoBead
 i_NoBead:PySem.W.isIn K (.ref c_NoBead) c_NoBead=true
 x_NoBead:PySem.W.exmOne K (.ref c_NoBead) (.ref c_CordError)=some true
 e_NoBead:GR K c_NoBead
 x_NoCord:PySem.W.exmOne K (.ref c_NoCord) (.ref c_CordError)=some true
 e_NoCord:GR K c_NoCord
 fx_NoCord:Yn K c_NoCord
 nf_NoCord:Ff K c_NoCord "place"
 k_NoName_NoText:PySem.W.kitOne K (.ref c_NoName) (.ref c_NoText)=some false
 k_NoName_NoName:PySem.W.kitOne K (.ref c_NoName) (.ref c_NoName)=some true
 k_NoName_NoBead:PySem.W.kitOne K (.ref c_NoName) (.ref c_NoBead)=some false
 k_NoName_NoCord:PySem.W.kitOne K (.ref c_NoName) (.ref c_NoCord)=some false
 k_NoName_NoWorth:PySem.W.kitOne K (.ref c_NoName) (.ref c_NoWorth)=some false
 k_NoName_NoFraction:PySem.W.kitOne K (.ref c_NoName) (.ref c_NoFraction)=some false
 k_NoName_ValueError:PySem.W.kitOne K (.ref c_NoName) (.type "ValueError")=some true
 k_NoBead_NoText:PySem.W.kitOne K (.ref c_NoBead) (.ref c_NoText)=some false
 k_NoBead_NoName:PySem.W.kitOne K (.ref c_NoBead) (.ref c_NoName)=some false
 k_NoBead_NoBead:PySem.W.kitOne K (.ref c_NoBead) (.ref c_NoBead)=some true
 k_NoBead_NoCord:PySem.W.kitOne K (.ref c_NoBead) (.ref c_NoCord)=some false
 k_NoBead_NoWorth:PySem.W.kitOne K (.ref c_NoBead) (.ref c_NoWorth)=some false
 k_NoBead_NoFraction:PySem.W.kitOne K (.ref c_NoBead) (.ref c_NoFraction)=some false
 k_NoBead_ValueError:PySem.W.kitOne K (.ref c_NoBead) (.type "ValueError")=some true
 k_NoCord_NoText:PySem.W.kitOne K (.ref c_NoCord) (.ref c_NoText)=some false
 k_NoCord_NoName:PySem.W.kitOne K (.ref c_NoCord) (.ref c_NoName)=some false
 k_NoCord_NoBead:PySem.W.kitOne K (.ref c_NoCord) (.ref c_NoBead)=some false
 k_NoCord_NoCord:PySem.W.kitOne K (.ref c_NoCord) (.ref c_NoCord)=some true
 k_NoCord_NoWorth:PySem.W.kitOne K (.ref c_NoCord) (.ref c_NoWorth)=some false
 k_NoCord_NoFraction:PySem.W.kitOne K (.ref c_NoCord) (.ref c_NoFraction)=some false
 k_NoCord_ValueError:PySem.W.kitOne K (.ref c_NoCord) (.type "ValueError")=some true
structure Ig(K:PySem.W.Frag)(mg:Str→Option Value)(C:Addr):Prop where
 m:mg "Cord"=some (.ref C)
 cl:Cls K C
 c1:PySem.W.findIn K (.ref C) "__class__"=some (some (.builtin "object.__class__"))
 c2:PySem.W.specialIn K (.builtin "object.__class__") "__get__"=some (some (.builtin "getset_descriptor.__get__"))
 c3:PySem.W.takesIn K (.builtin "object.__class__")=some true
 c4:PySem.W.mroIn K C (.type "object")=some true
 self:PySem.W.kitOne K (.ref C) (.ref C)=some true
 n_kept_gaps:Ff K C "kept_gaps"
 n_kept_weights:Ff K C "kept_weights"
structure Jg(K:PySem.W.Frag)(mg:Str→Option Value)(C:Addr):Prop where
 m:mg "Desk"=some (.ref C)
 cl:Cls K C
 c1:PySem.W.findIn K (.ref C) "__class__"=some (some (.builtin "object.__class__"))
 c2:PySem.W.specialIn K (.builtin "object.__class__") "__get__"=some (some (.builtin "getset_descriptor.__get__"))
 c3:PySem.W.takesIn K (.builtin "object.__class__")=some true
 c4:PySem.W.mroIn K C (.type "object")=some true
 self:PySem.W.kitOne K (.ref C) (.ref C)=some true
 n_kept:Ff K C "kept"
def Bw:List (Str×List Str):=[("cord",["new","cord"]),("turn",["new","name"]),("join",["new","name","name"]),("heavier",["new","name","whole","fraction"]),("longer",["new","name","whole","fraction"]),("find",["new","two polys"]),("even",["new","length and worths"]),("drop",["name"]),("show",["name"]),("poly",["name","which"]),("count",["name","end","fraction"]),("span",["name","end","whole","halvings"]),("mode",["name","end","fraction"]),("alike",["name","name","end"])]
structure Ju(P:Program)(w:World)(K:PySem.W.Frag)(mg:Str→Option Value)(d:Addr):Prop where
 m:mg "FORMS"=some (.ref d)
 t:AAq P w K d Bw
def top(i:Nat):Stmt:=PySem.Challenge.pw_tautcord_k84_a_desk_of_cords.main.body.getD i (.Pass ⟨0,0,0,0⟩)
abbrev DP:Stmt:=BV (top 3) 0
abbrev FZ:Stmt:=top 9
abbrev Gj:Stmt:=top 10
abbrev DW:Stmt:=top 12
abbrev AAn:Stmt:=top 13
abbrev KJ:Stmt:=top 14
abbrev AIU:Stmt:=top 15
abbrev AIV:Stmt:=top 16
abbrev AJZ:Stmt:=top 17
abbrev ABj:Stmt:=top 18
abbrev J8:Stmt:=top 19
abbrev AAb:Stmt:=top 20
abbrev CG:Stmt:=top 23
abbrev Ek:Stmt:=BV (top 24) 0
abbrev El:Stmt:=BV (top 24) 1
abbrev Cr:Stmt:=BV (top 24) 2
abbrev Dm:Stmt:=BV (top 24) 3
abbrev Yh:Stmt:=BV (top 24) 4
abbrev DR:Stmt:=BV (top 24) 5
abbrev Gi:Stmt:=top 26
abbrev HJ:Stmt:=top 27
abbrev G8:Stmt:=top 28
abbrev Ds:Stmt:=top 29
abbrev Eg:Stmt:=top 30
abbrev AIi:Stmt:=top 32
abbrev AIY:Stmt:=top 33
abbrev Xy:Stmt:=top 34
abbrev AIc:Stmt:=top 35
abbrev AFS:Stmt:=top 36
abbrev AJO:Stmt:=top 38
abbrev Zw:Stmt:=top 39
abbrev AAR:Stmt:=top 40
abbrev ZV:Stmt:=top 41
abbrev AFp:Stmt:=top 42
abbrev Wt:Stmt:=top 43
abbrev Wu:Stmt:=top 44
abbrev Yi:Stmt:=top 45
abbrev ACr:Stmt:=top 47
abbrev Vm:Stmt:=top 48
abbrev Yj:Stmt:=top 49
abbrev ACF:Stmt:=top 50
abbrev U8:Stmt:=top 51
abbrev AJe:Stmt:=top 53
abbrev AIX:Stmt:=top 54
abbrev AJX:Stmt:=top 55
abbrev AJk:Stmt:=top 56
abbrev AJm:Stmt:=top 57
abbrev Xz:Stmt:=top 58
abbrev Zx:Stmt:=top 60
abbrev AIx:Stmt:=top 61
abbrev WW:Stmt:=top 62
abbrev Vd:Stmt:=top 63
abbrev Ye:Stmt:=top 64
abbrev AH3:Stmt:=top 66
abbrev Yy:Stmt:=top 68
abbrev AIz:Stmt:=top 69
abbrev CJ:Stmt:=top 73
abbrev ABh:Stmt:=top 74
abbrev Ej:Stmt:=top 75
abbrev CN:Stmt:=top 76
abbrev ABq:Stmt:=top 77
abbrev Cy:Stmt:=top 78
abbrev Dt:Stmt:=top 79
abbrev Cg:Stmt:=top 80
abbrev CP:Stmt:=top 81
abbrev Br:Stmt:=top 82
abbrev Dg:Stmt:=top 88
abbrev Fi:Stmt:=top 89
abbrev Dq:Stmt:=top 90
abbrev Dj:Stmt:=top 91
abbrev Dl:Stmt:=top 92
abbrev Ws:Stmt:=top 93
abbrev Yg:Stmt:=top 94
abbrev Z2:Stmt:=top 95
abbrev Wg:Stmt:=top 96
abbrev AIf:Stmt:=top 98
abbrev AIt:Stmt:=top 100
abbrev AAV:Stmt:=top 101
abbrev Eh:Stmt:=BV (top 103) 0
abbrev Fl:Stmt:=BV (top 103) 1
abbrev Bg:Stmt:=BV (top 103) 2
abbrev Cq:Stmt:=BV (top 103) 3
abbrev Jq:Stmt:=top 104
abbrev G3:Stmt:=top 105
abbrev AIl:Stmt:=top 106
abbrev ACA:Stmt:=top 107
abbrev DQ:Stmt:=top 109
abbrev Gh:Stmt:=top 110
abbrev Fg:Stmt:=top 111
abbrev FQ:Stmt:=top 112
abbrev Em:Stmt:=top 113
abbrev Gk:Stmt:=top 114
abbrev Ec:Stmt:=top 115
abbrev Cp:Stmt:=top 116
abbrev Fd:Stmt:=top 117
abbrev Fv:Stmt:=top 118
abbrev Dn:Stmt:=top 119
abbrev CW:Stmt:=top 120
abbrev Fe:Stmt:=top 121
abbrev Ft:Stmt:=top 122
abbrev Iv:Stmt:=top 123
def QC:Sp:=fun vs H Q _=>∃a b,vs=[.int a,.int b]∧Q (.int (g a b)) H
def AIa(K:PySem.W.Frag):Sp:=fun vs H Q _=>∃(a:Addr) (ns:List Int) (k:Nat),vs=[.ref a,.int k]∧SqL K H a (ns.map V.int)∧Q (.int (AGc ns k)) H
def ACj:Sp:=fun vs H Q _=>∃c k,vs=[.int c,.int k]∧(0≤k∧k≤1000)∧Q (.int (ADj c k)) H
def ACO:Sp:=fun vs H Q _=>∃n,vs=[.int n]∧∀H',Aj H H'→Q (.int (ABA n)) H'
def AIu:Sp:=fun vs H Q _=>∃t b,vs=[.int t,.int b]∧0<b∧Bt 8000 b∧∀r H',Aj H H'→Pr H' r (t/g t b) (b/g t b)→Q (.ref r) H'
def AG9:Sp:=fun vs H Q _=>∃n,vs=[.int n]∧0≤n∧∀r x y H',Aj H H'→Fq x y→Bt 101 x→Bt 101 y→Pr H' r x y→Q (.ref r) H'
def AHB:Sp:=fun vs H Q _=>∃i,vs=[.int i]∧Q (.bl true) H
def AJ7:Sp:=fun vs H Q _=>∃r x y t b,vs=[.ref r,.int t,.int b]∧Pr H r x y∧Fq x y∧x*b=t*y∧IntMulOk x b∧IntMulOk t y∧Q (.bl true) H
def QQ:Sp:=fun vs H Q _=>∃p q a b c d,vs=[.ref p,.ref q]∧Pr H p a b∧Pr H q c d∧0<b∧0<d∧Bt 8000 a∧Bt 8000 b∧Bt 8000 c∧Bt 8000 d∧∀r H',Aj H H'→Pr H' r (UW a b c d) (T9 a b c d)→Q (.ref r) H'
def ADk:Sp:=fun vs H Q _=>∃p q a b c d,vs=[.ref p,.ref q]∧Pr H p a b∧Pr H q c d∧0<b∧0<d∧Bt 8000 a∧Bt 8000 b∧Bt 8000 c∧Bt 8000 d∧∀r H',Aj H H'→Pr H' r (UW a b (-c) d) (T9 a b (-c) d)→Q (.ref r) H'
def ADM:Sp:=fun vs H Q _=>∃p q a b c d,vs=[.ref p,.ref q]∧Pr H p a b∧Pr H q c d∧0<b∧0<d∧Bt 8000 a∧Bt 8000 b∧Bt 8000 c∧Bt 8000 d∧∀r H',Aj H H'→Pr H' r (AHm a b c d) (AGp a b c d)→Q (.ref r) H'
def Qp(K:PySem.W.Frag):Sp:=fun vs H Q _=>∃(a:Addr) (ns:List Int),vs=[.ref a]∧SqL K H a (ns.map V.int)∧ns.length≤63∧∀H',Q (.bl true) H'
theorem ABi{n:Nat}{t b:Int}(h:0<b)(k:Bt n b):Bt n (g t b):=by
 refine k.of_le ?_
 have h1:g t b≤b:=Int.le_of_dvd h (GD t b)
 have h2:=Jm t b
 omega
section
variable {P:Program}{w:World}{K:PySem.W.Frag}{mg:Str→Option Value}{base:Heap}{f:Addr}{fd:FuncData}
theorem Fw:Aw ["one","other","first","second","rest"] ["one","other"] (Ac Gj):=⟨rfl,rfl,rfl,by decide +kernel,rfl,by decide +kernel,by decide +kernel⟩
theorem Ua(F:Fun K "divisor" "divisor" Gj f fd)(T:Txt mg):BZ P w K mg base CX0 1 f fd ["one","other"] QC:=by
 refine F.ok Fw (fun vs H Q E h=>?_) (fun cdv A outer s H vs Q E hr h=>?_)
 ·obtain ⟨a,b,rfl,_⟩:=h
  rfl
 obtain ⟨a,b,rfl,q⟩:=h
 refine ⟨_,(Ab (Ay (i:=2) Fw.nd rfl (Or.inl rfl) (BJ JV rfl T.z_abs boot_abs (Aa (pv 0) Ae)))
   (Ab (Ay (i:=3) Fw.nd rfl (Or.inl rfl) (BJ JV rfl T.z_abs boot_abs (Aa (pv 1) Ae)))
   (Ab (Rz PassesOwn.never (Ao JX (pv 3) Af (Ar _))
    (Ab (Ay (i:=4) Fw.nd rfl (Or.inl rfl) (Ax Dd (pv 2) (pv 3)))
    (Ab (Ay (i:=2) Fw.nd rfl (Or.inl rfl) (pv 3))
    (Ah (Ay (i:=3) Fw.nd rfl (Or.inl rfl) (pv 4))))))
   (Ah (Al (pv 2)))))),?_⟩
 refine ⟨_,rfl,_,rfl,_,rfl,_,rfl,?_⟩
 refine ⟨fun m σ H'=>∃x y r,σ=[some (.int a),some (.int b),some (.int x),some (.int y),r]∧H=H'∧0≤x∧0≤y∧g x y=g a b∧m=y.toNat,⟨_,_,_,_,rfl,rfl,?_,?_,AAG a b,rfl⟩,?_⟩
 ·split <;> omega
 ·split <;> omega
 rintro m σ _ ⟨x,y,r,rfl,rfl,hx,hy,e,rfl⟩
 refine ⟨_,rfl,_,_,rfl,rfl,_,rfl,?_⟩
 refine Jt (fun c=>⟨fun σ' H'=>∃m',m'<y.toNat∧∃x y r,σ'=[some (.int a),some (.int b),some (.int x),some (.int y),r]∧H=H'∧0≤x∧0≤y∧g x y=g a b∧m'=y.toNat,fun _ _ h=>h,?_⟩) (fun c=>?_)
 ·have c':(0:Int)<y:=of_decide_eq_true c
  refine ⟨_,rfl,_,rfl,_,_,rfl,rfl,c',_,rfl,_,rfl,?_⟩
  have h1:=Int.emod_nonneg x (show y≠0 by omega)
  have h2:=Int.emod_lt_of_pos x c'
  exact ⟨_,by omega,y,x%y,_,rfl,rfl,hy,h1,by rw [XX hx c',e],rfl⟩
 ·have c':¬(0:Int)<y:=of_decide_eq_false (Bool.eq_false_iff.mpr c)
  have y0:y=0:=by omega
  refine ⟨_,rfl,?_⟩
  rw [←e,y0,AAi hx] at q
  exact q
theorem LQ:Aw ["one","other","shared","top","left"] ["one","other"] (Ac KJ):=⟨rfl,rfl,rfl,by decide +kernel,rfl,by decide +kernel,by decide +kernel⟩
theorem Zq(F:Fun K "plus" "plus" KJ f fd)(T:Txt mg)(C_divisor:Cal P w K mg base "divisor" 1 ["one","other"] QC):BZ P w K mg base CX0 2 f fd ["one","other"] QQ:=by
 refine F.ok LQ (fun vs H Q E h=>?_) (fun cdv A outer s H vs Q E hr h=>?_)
 ·obtain ⟨p,q,a,b,c,d,rfl,_⟩:=h
  rfl
 obtain ⟨p,q,a,b,c,d,rfl,hp,hq,hb,hd,ba,bb,bc,bd,k⟩:=h
 have c1:0<g b d∧Bt 9000 (g b d):=⟨O8 (by omega),(ABi hd bd).mono (by decide)⟩
 have c2:0<g (T6 a b c d) (g b d)∧Bt 9000 (g (T6 a b c d) (g b d)):=⟨O8 (by omega),ABi c1.1 c1.2⟩
 have m1:IntMulOk a (d/g b d):=Hf ba bd.ediv (by decide)
 have m2:IntMulOk c (b/g b d):=Hf bc bb.ediv (by decide)
 have m3:IntMulOk (b/g b d) (d/g (T6 a b c d) (g b d)):=Hf bb.ediv bd.ediv (by decide)
 refine ⟨_,(Ab (Ay (i:=2) LQ.nd rfl (Or.inl rfl) (BR C_divisor hr (Aa (Az BP (pv 0) Af (fun _ _=>rfl)) (Aa (Az BP (pv 1) Af (fun _ _=>rfl)) Ae))))
   (Ab (Ay (i:=3) LQ.nd rfl (Or.inl rfl) (Ax DX (Ax Ea (Az BP (pv 0) Af (fun _ _=>rfl)) (Ax DK (Az BP (pv 1) Af (fun _ _=>rfl)) (pv 2))) (Ax Ea (Az BP (pv 1) Af (fun _ _=>rfl)) (Ax DK (Az BP (pv 0) Af (fun _ _=>rfl)) (pv 2)))))
   (Ab (Ay (i:=4) LQ.nd rfl (Or.inl rfl) (BR C_divisor hr (Aa (pv 3) (Aa (pv 2) Ae))))
   (Ah (Al (Dc (Aa (Ax DK (pv 3) (pv 4)) (Aa (Ax Ea (Ax DK (Az BP (pv 0) Af (fun _ _=>rfl)) (pv 2)) (Ax DK (Az BP (pv 1) Af (fun _ _=>rfl)) (pv 4))) Ae)))))))),?_⟩
 refine ⟨_,rfl,_,_,_,_,rfl,rfl,hp.sq,rfl,_,rfl,_,_,_,_,rfl,rfl,hq.sq,rfl,_,_,rfl,?_⟩
 refine ⟨_,rfl,_,_,_,_,rfl,rfl,hp.sq,rfl,_,rfl,_,_,_,_,rfl,rfl,hq.sq,rfl,_,rfl,_,_,rfl,rfl,c1,_,_,rfl,rfl,m1,_,rfl,_,_,_,_,rfl,rfl,hq.sq,rfl,_,rfl,_,_,_,_,rfl,rfl,hp.sq,rfl,_,rfl,_,_,rfl,rfl,c1,_,_,rfl,rfl,m2,_,_,rfl,rfl,?_⟩
 refine ⟨_,rfl,_,rfl,_,_,rfl,?_⟩
 exact ⟨_,rfl,_,rfl,_,_,rfl,rfl,c2,_,rfl,_,_,_,_,rfl,rfl,hp.sq,rfl,_,rfl,_,_,rfl,rfl,c1,_,rfl,_,_,_,_,rfl,rfl,hq.sq,rfl,_,rfl,_,_,rfl,rfl,c2,_,_,rfl,rfl,m3,(by show 2≤sizeLine;decide),fun r h=>k r _ (Ag h _) Pr.new⟩
def ACN:Sp:=fun vs H Q _=>∃i,vs=[.int i]∧Q (.bl true) H
def AAh(c:Addr):Sp:=fun vs H Q E=>∃t b,vs=[.int t,.int b]∧(b=0→E (.ref c) none H)∧(b≠0→Bt 8000 b∧∀r H',Aj H H'→Pr H' r (frN t b) (frD t b)→Q (.ref r) H')
def AIb(cN:Addr):Sp:=fun vs H Q E=>∃p q a b c d,vs=[.ref p,.ref q]∧Pr H p a b∧Pr H q c d∧(c=0→E (.ref cN) none H) ∧
 (c≠0→0<b∧0<d∧Bt 8000 a∧Bt 8000 b∧Bt 8000 c∧Bt 8000 d∧∀r H',Aj H H'→Pr H' r (AHm a b (frN d c) (frD d c)) (AGp a b (frN d c) (frD d c))→Q (.ref r) H')
def AG3:Sp:=fun vs H Q _=>∃p q a b c d,vs=[.ref p,.ref q]∧Pr H p a b∧Pr H q c d∧IntMulOk a d∧IntMulOk c b∧Q (.bl (decide (a*d<c*b))) H
def Ld:Sp:=fun vs H Q _=>∃p a b,vs=[.ref p]∧Pr H p a b∧Q (.int (sgn a)) H
def AH5:Sp:=fun vs H Q _=>∃p a b,vs=[.ref p]∧Pr H p a b∧Bt 9000 a∧Q (.int (sgn a)) H
theorem Zo:Aw ["one"] ["one"] (Ac J8):=⟨rfl,rfl,rfl,by decide +kernel,rfl,by decide +kernel,by decide +kernel⟩
theorem Ym(F:Fun K "side" "side" J8 f fd)(T:Txt mg):BZ P w K mg base CX0 1 f fd ["one"] Ld:=by
 refine F.ok Zo (fun vs H Q E h=>?_) (fun cdv A outer s H vs Q E hr h=>?_)
 ·obtain ⟨p,a,b,rfl,_⟩:=h
  rfl
 obtain ⟨p,a,b,rfl,hp,q⟩:=h
 unfold sgn at q
 refine ⟨_,(Ab (BL (Ao JX (Az BP (pv 0) Af (fun _ _=>rfl)) Af (Ar _))
    (Ah (Al Af))
    Am)
   (Ab (BL (Ao Hk (Az BP (pv 0) Af (fun _ _=>rfl)) Af (Ar _))
    (Ah (Al (Mt JB Af)))
    Am)
   (Ah (Al Af)))),?_⟩
 refine ⟨_,rfl,_,_,_,_,rfl,rfl,hp.sq,rfl,_,_,rfl,rfl,_,rfl,?_⟩
 refine Jt (fun c=>?_) (fun c=>?_)
 ·have z:a > 0:=of_decide_eq_true c
  rw [if_pos z] at q
  exact q
 ·have z:¬a > 0:=of_decide_eq_false (Bool.eq_false_iff.mpr c)
  rw [if_neg z] at q
  refine ⟨_,rfl,_,_,_,_,rfl,rfl,hp.sq,rfl,_,_,rfl,rfl,_,rfl,?_⟩
  refine Jt (fun c2=>?_) (fun c2=>?_)
  ·have z2:a<0:=of_decide_eq_true c2
   rw [if_pos z2] at q
   exact ⟨_,rfl,q⟩
  ·have z2:¬a<0:=of_decide_eq_false (Bool.eq_false_iff.mpr c2)
   rw [if_neg z2] at q
   exact q
def JR(n:Nat)(op:Rat→Rat→Rat):Sp:=fun vs H Q _=>∃p q a b,vs=[.ref p,.ref q]∧Pq H p a∧Pq H q b∧Bq n a∧Bq n b∧∀r H',Aj H H'→Pq H' r (op a b)→Q (.ref r) H'
def Ji:Sp:=fun vs H Q _=>∃t b,vs=[.int t,.int b]∧0<b∧Bt 8000 b∧∀r H',Aj H H'→Pq H' r ((t:Rat)/(b:Rat))→Q (.ref r) H'
def ACJ:Sp:=fun vs H Q _=>∃n,vs=[.int n]∧0≤n∧∀r q H',Aj H H'→Bq 101 q→Pq H' r q→Q (.ref r) H'
def AJN:Sp:=fun vs H Q _=>∃r q t b,vs=[.ref r,.int t,.int b]∧Pq H r q∧b≠0∧q=(t:Rat)/(b:Rat)∧IntMulOk q.num b∧IntMulOk t q.den∧Q (.bl true) H
def AJK:Sp:=fun vs H Q _=>∃(a:Addr) (qs:List Rat) (k:Nat),vs=[.ref a,.int k]∧Rw H a qs∧∀p H',Aj H H'→Pq H' p (qs.getD k 0)→Q (.ref p) H'
def ACH:Sp:=fun vs H Q _=>∃a qs,vs=[.ref a]∧Rw H a qs∧qs.length≤1000∧∀r H',Aj H H'→H r=none→Rw H' r (Po.strip qs)→Q (.ref r) H'
def ACP:Sp:=fun vs H Q _=>∃c k w,vs=[.int c,.int k,.int w]∧(0≤k∧k≤900)∧(w=2∨w=3)∧∀r qs H',Aj H H'→H r=none→Rw H' r qs→qs.length≤13→(∀q∈qs,Bq 101 q)→(w=2→∀q∈qs,Bq 6 q)→Q (.ref r) H'
def ADK:Sp:=fun vs H Q _=>∃a b qs,vs=[.ref a,.ref b]∧Rw H a qs∧Rw H b qs∧qs.length≤1000∧Q (.bl true) H
abbrev Rws(H:Hp):List Addr→List (List Rat)→Prop:=Paired (Rw H)
def Yz(a h k:Addr)(H:Hp)(R:Hp→Prop):Prop:=∃qs as bs rss,Rw H a qs∧qs.length≤1000∧H h=some (.lst (as.map V.ref))∧Rws H as rss∧H k=some (.lst (bs.map V.ref))∧Rws H bs rss ∧
 a∉as∧a∉bs∧a≠h∧a≠k∧h∉as∧as.length≤2∧(∀rs∈rss,rs.length≤1000)∧∀H',Sx (a::as) H H'→R H'
def AEU:Sp:=fun vs H Q _=>∃a h k,vs=[.ref a,.ref h,.ref k]∧Yz a h k H fun H'=>Q (.bl true) H'
theorem Rc{vs:List V}{H:Hp}{Q:VK}{E:XK}(h:JR 8000 (·+·) vs H Q E):QQ vs H Q E:=by
 obtain ⟨p,q,a,b,rfl,hp,hq,ba,bb,k⟩:=h
 exact ⟨p,q,_,_,_,_,rfl,hp,hq,den_pos a,den_pos b,ba.1,ba.2,bb.1,bb.2,fun r H' s hr=>k r H' s (Pq.of hr ⟨(AAc a b).1.symm,(AAc a b).2.symm⟩)⟩
def O4(ns:List Int)(k:Nat):Int:=ns.getD k 0
def Mm(K:PySem.W.Frag):Sp:=fun vs H Q _=>∃(a:Addr) (ns:List Int) (k:Nat),vs=[.ref a,.int k]∧SqL K H a (ns.map V.int)∧Q (.int (O4 ns k)) H
def AJT:Sp:=fun vs H Q _=>∃a b,vs=[.int a,.int b]∧0≤b∧Q (.int (g a b)) H
def ABe:Sp:=fun vs H Q _=>∃(c:Int) (m:Nat),vs=[.int c,.int m]∧m≤100∧∀(r:Addr) (ns:List Int) (H':Hp),Aj H H'→H r=none→H' r=some (.lst (ns.map V.int))→ns.length=m→(∀n∈ns,0≤n∧n<100000)→Q (.ref r) H'
def abv(v:Int):Rat:=((1+v%12:Int):Rat)/((1+v/12%12:Int):Rat)
theorem ABx(v:Int):Bq 4 (abv v):=by
 have h1:=Int.emod_nonneg v (show (12:Int)≠0 by decide)
 have h2:=Int.emod_lt_of_pos v (show (0:Int)<12 by decide)
 have h3:=Int.emod_nonneg (v/12) (show (12:Int)≠0 by decide)
 have h4:=Int.emod_lt_of_pos (v/12) (show (0:Int)<12 by decide)
 exact AAd (by omega) rfl (Bt.between (by omega) (by omega)) (Bt.between (by omega) (by omega))
theorem ZL{t b:Int}(ht:0<t)(hb:0<b):0<(t:Rat)/(b:Rat):=by
 rw [Rat.div_def]
 exact Rat.mul_pos (Rat.intCast_pos.mpr ht) (Rat.inv_pos.mpr (Rat.intCast_pos.mpr hb))
theorem ZJ(v:Int):0<abv v:=by
 have h1:=Int.emod_nonneg v (show (12:Int)≠0 by decide)
 have h3:=Int.emod_nonneg (v/12) (show (12:Int)≠0 by decide)
 exact ZL (by omega) (by omega)
def AEx:Sp:=fun vs H Q _=>∃v,vs=[.int v]∧∀r H',Aj H H'→Pq H' r (abv v)→Q (.ref r) H'
structure Drawn(mo:Nat)(gs ws:List Rat):Prop where
 len:gs.length=ws.length+1
 most:ws.length≤mo
 pos:(∀q∈gs,0<q)∧∀q∈ws,0<q
 size:((∀q∈gs,Bq 4 q)∧∀q∈ws,Bq 4 q)∨(ws.length≤1+mo/11∧(∀q∈gs,Bq 101 q)∧∀q∈ws,Bq 101 q)
def AA9(K:PySem.W.Frag):Sp:=fun vs H Q _=>∃(a:Addr) (ns:List Int) (most:Nat),vs=[.ref a,.int most]∧SqL K H a (ns.map V.int)∧(∀n∈ns,Bt 1048576 n)∧(4≤most∧most≤12) ∧
 ∀r ga wa gs ws H',Aj H H'→H' r=some (.tup [.ref ga,.ref wa])→H ga=none→H wa=none→ga≠wa→Rw H' ga gs→Rw H' wa ws→Drawn most gs ws→Q (.ref r) H'
def AIk(K:PySem.W.Frag):Sp:=fun vs H Q _=>∃(a:Addr) (ns:List Int),vs=[.ref a]∧SqL K H a (ns.map V.int)∧ns.length≤63∧(∀n∈ns,Bt 1048576 n)∧∀H',Q (.bl true) H'
def AKJ(H:Hp)(a xs:Addr)(mo:Nat)(hd:Int)(σ':L2.St)(H':Hp):Prop:=∃(m':Nat) (pt:Addr) (qs:List Rat) (v w:Option V),σ'=[some (.ref a),some (.int mo),some (.int hd),some (.int m'),some (.ref xs),some (.ref pt),v,w]∧Aj H H'∧H pt=none∧Rw H' pt qs∧qs.length=2*m'+1∧m'≤mo∧(∀q∈qs,0<q)∧((∀q∈qs,Bq 4 q)∨(m'≤1+mo/11∧∀q∈qs,Bq 101 q))
def AKZ(H2:Hp)(a xs pt:Addr)(mo m':Nat)(hd:Int)(i:Nat)(σ:L2.St)(H':Hp):Prop:=∃(v w:Option V) (qs:List Rat),σ=[some (.ref a),some (.int mo),some (.int hd),some (.int m'),some (.ref xs),some (.ref pt),v,w]∧Aj H2 H'∧Rw H' pt qs∧qs.length=i∧(∀q∈qs,0<q)∧∀q∈qs,Bq 101 q
theorem NZ:Aw ["_law_script","_law_k"] ["_law_script","_law_k"] (Ac DQ):=⟨rfl,rfl,rfl,by decide +kernel,rfl,by decide +kernel,by decide +kernel⟩
theorem Lx(F:Fun K "_law_cell_at" "_law_cell_at" DQ f fd)(T:Txt mg):BZ P w K mg base CX0 1 f fd ["_law_script","_law_k"] (Mm K):=by
 refine F.ok NZ (fun vs H Q E h=>?_) (fun cdv A outer s H vs Q E hr h=>?_)
 ·obtain ⟨a,ns,k,rfl,_⟩:=h
  rfl
 obtain ⟨a,ns,k,rfl,hS,q⟩:=h
 refine ⟨_,(Ab (BL (Ao Hk (pv 1) (BJ Bd rfl T.z_len PySem.boot_len (Aa (pv 0) Ae)) (Ar _))
    (Ah (Al (Az Ba (pv 0) (pv 1) (fun _ _=>rfl))))
    Am)
   (Ah (Al Af))),?_⟩
 have hl:(ns.map V.int).length=ns.length:=List.length_map _
 refine ⟨_,rfl,_,rfl,a,_,rfl,.inl hS,_,_,rfl,rfl,_,rfl,?_⟩
 refine Jt (fun c=>?_) (fun c=>?_)
 ·have c':(k:Int)<(((ns.map V.int).length:Nat):Int):=of_decide_eq_true c
  rw [hl] at c'
  have hk:k<ns.length:=by omega
  refine ⟨_,rfl,_,rfl,a,_,_,_,rfl,rfl,hS,Dr (v:=.int (O4 ns k)) ?_,q⟩
  unfold O4
  rw [List.getElem?_map,List.getD_eq_getElem?_getD,List.getElem?_eq_getElem hk]
  rfl
 ·have c':¬(k:Int)<(((ns.map V.int).length:Nat):Int):=of_decide_eq_false (Bool.eq_false_iff.mpr c)
  rw [hl] at c'
  have e:O4 ns k=0:=by
   unfold O4
   rw [List.getD_eq_getElem?_getD,List.getElem?_eq_none (by omega)]
   rfl
  rw [e] at q
  exact q
def Co(C:Addr)(H:Hp)(c ga wa:Addr)(gs ws:List Rat):Prop:=(∃dx,H c=some (.ins C dx [("kept_gaps",.ref ga),("kept_weights",.ref wa)]))∧Rw H ga gs∧Rw H wa ws
theorem Co.keep{C:Addr}{H H':Hp}{c ga wa:Addr}{gs ws:List Rat}(h:Co C H c ga wa gs ws)(s:Aj H H'):Co C H' c ga wa gs ws:=by
 obtain ⟨⟨dx,e⟩,r1,r2⟩:=h
 exact ⟨⟨dx,s _ _ e⟩,r1.keep s,r2.keep s⟩
structure Ez(gs ws:List Rat):Prop where
 len:gs.length=ws.length+1
 most:ws.length≤12
 pos:(∀q∈gs,0<q)∧∀q∈ws,0<q
 bq:(∀q∈gs,Bq 101 q)∧∀q∈ws,Bq 101 q
theorem Ez.rev{gs ws:List Rat}(h:Ez gs ws):Ez gs.reverse ws.reverse :=
 ⟨by rw [List.length_reverse,List.length_reverse];exact h.len,by rw [List.length_reverse];exact h.most,⟨fun q hq=>h.pos.1 q (List.mem_reverse.mp hq),fun q hq=>h.pos.2 q (List.mem_reverse.mp hq)⟩,⟨fun q hq=>h.bq.1 q (List.mem_reverse.mp hq),fun q hq=>h.bq.2 q (List.mem_reverse.mp hq)⟩⟩
def AIZ(C:Addr):Sp:=fun vs H Q _=>∃x a b gs ws dx,vs=[.ref x,.ref a,.ref b]∧H x=some (.ins C dx [])∧Rw H a gs∧Rw H b ws∧Ez gs ws ∧
 ∀ga wa H',(∀b o,b≠x→H b=some o→H' b=some o)→H ga=none→H wa=none→Co C H' x ga wa gs ws→Q .non H'
structure NP(gs ws:List Rat):Prop where
 len:gs.length=ws.length+1
 most:ws.length≤12
 pos:(∀q∈gs,0<q)∧∀q∈ws,0<q
def ADm(C:Addr):Sp:=fun vs H Q _=>∃x a b gs ws dx,vs=[.ref x,.ref a,.ref b]∧H x=some (.ins C dx [])∧Rw H a gs∧Rw H b ws∧NP gs ws ∧
 ∀ga wa H',(∀b o,b≠x→H b=some o→H' b=some o)→H ga=none→H wa=none→Co C H' x ga wa gs ws→Q .non H'
def Ii(C:Addr):Sp:=fun vs H Q _=>∃c ga wa gs ws,vs=[.ref c]∧Co C H c ga wa gs ws∧∀r H',Aj H H'→H r=none→Rw H' r gs→Q (.ref r) H'
def Fj(C:Addr):Sp:=fun vs H Q _=>∃c ga wa gs ws,vs=[.ref c]∧Co C H c ga wa gs ws∧∀r H',Aj H H'→H r=none→Rw H' r ws→Q (.ref r) H'
def JT(C:Addr):Sp:=fun vs H Q _=>∃c ga wa gs ws,vs=[.ref c]∧Co C H c ga wa gs ws∧Q (.int ws.length) H
def ACG(C:Addr):Sp:=fun vs H Q _=>∃c ga wa gs ws,vs=[.ref c]∧Co C H c ga wa gs ws∧gs.length≤13∧(∀q∈gs,Bq 101 q)∧∀r H',Aj H H'→Pq H' r (Po.lsum gs)→Q (.ref r) H'
def J5(C:Addr):Sp:=fun vs H Q _=>∃c ga wa gs ws,vs=[.ref c]∧Co C H c ga wa gs ws∧Ez gs ws∧∀c' ga' wa' H',Aj H H'→H c'=none→H ga'=none→H wa'=none→Co C H' c' ga' wa' gs.reverse ws.reverse→Q (.ref c') H'
def Qg:Sp:=fun vs H Q _=>∃p q,vs=[.ref p]∧Pq H p q∧Q (.bl true) H
def Hc:Sp:=fun vs H Q _=>∃a qs,vs=[.ref a]∧Rw H a qs∧(∀q∈qs,0<q)∧qs.length≤1000∧∀H',Aj H H'→Q (.bl true) H'
theorem Pqs.reverse{H:Hp}{ps:List Addr}{qs:List Rat}(h:Pqs H ps qs):Pqs H ps.reverse qs.reverse:=by
 induction h with
 | nil=>exact .nil
 | cons x _ ih=>rw [List.reverse_cons,List.reverse_cons];exact ih.append (.cons x .nil)
def ACI:Sp:=fun vs H Q _=>∃i,vs=[.int i]∧Q (.bl true) H
def AGk:Sp:=fun vs H Q _=>∃p p' q,vs=[.ref p,.ref p']∧Pq H p q∧Pq H p' q∧Q (.bl true) H
def ZQ:Sp:=fun vs H Q _=>∃a b qs,vs=[.ref a,.ref b]∧Rw H a qs∧Rw H b qs∧qs.length≤1000∧Q (.bl true) H
def AIs:Sp:=fun vs H Q _=>∃a gs,vs=[.ref a]∧Rw H a gs∧gs.length≤13∧(∀q∈gs,Bq 101 q)∧∀r H',Aj H H'→Pq H' r (Po.lsum gs)→Q (.ref r) H'
def AIg(C:Addr):Sp:=fun vs H Q _=>∃c ga wa g w gs ws,vs=[.ref c,.ref g,.ref w]∧Co C H c ga wa gs ws∧Rw H g gs∧Rw H w ws∧Ez gs ws∧∀H',Aj H H'→Q (.bl true) H'
variable {o_Cord:Addr}
theorem QM:Aw ["self"] ["self"] (Ac El):=⟨rfl,rfl,rfl,by decide +kernel,rfl,by decide +kernel,by decide +kernel⟩
theorem Q0(F:Fun K "gaps" "Cord.gaps" El f fd)(T:Txt mg)(O:Ig K mg o_Cord):BZ P w K mg base CX0 1 f fd ["self"] (Ii o_Cord):=by
 refine F.ok QM (fun vs H Q E h=>?_) (fun cdv A outer s H vs Q E hr h=>?_)
 ·obtain ⟨c,ga,wa,gs,ws,rfl,_⟩:=h
  rfl
 obtain ⟨c,ga,wa,gs,ws,rfl,⟨⟨dx,e⟩,r1,r2⟩,q⟩:=h
 obtain ⟨xs,hx,_⟩:=r1.there
 refine ⟨_,(Ah (Al (Bj Dp rfl T.z_list boot_list (Aa (HX (pv 0) rfl) Ae)))),?_⟩
 exact ⟨_,rfl,c,_,dx,_,_,rfl,e,O.cl,O.n_kept_gaps,rfl,ga,_,rfl,.inl (SqL.of hx),fun r hr'=>q r _ (Ag hr' _) hr' (r1.copy hx hr')⟩
theorem K6:Aw ["self"] ["self"] (Ac Cr):=⟨rfl,rfl,rfl,by decide +kernel,rfl,by decide +kernel,by decide +kernel⟩
theorem K7(F:Fun K "weights" "Cord.weights" Cr f fd)(T:Txt mg)(O:Ig K mg o_Cord):BZ P w K mg base CX0 1 f fd ["self"] (Fj o_Cord):=by
 refine F.ok K6 (fun vs H Q E h=>?_) (fun cdv A outer s H vs Q E hr h=>?_)
 ·obtain ⟨c,ga,wa,gs,ws,rfl,_⟩:=h
  rfl
 obtain ⟨c,ga,wa,gs,ws,rfl,⟨⟨dx,e⟩,r1,r2⟩,q⟩:=h
 obtain ⟨xs,hx,_⟩:=r2.there
 refine ⟨_,(Ah (Al (Bj Dp rfl T.z_list boot_list (Aa (HX (pv 0) rfl) Ae)))),?_⟩
 exact ⟨_,rfl,c,_,dx,_,_,rfl,e,O.cl,O.n_kept_weights,rfl,wa,_,rfl,.inl (SqL.of hx),fun r hr'=>q r _ (Ag hr' _) hr' (r2.copy hx hr')⟩
theorem OD:Aw ["self"] ["self"] (Ac Dm):=⟨rfl,rfl,rfl,by decide +kernel,rfl,by decide +kernel,by decide +kernel⟩
theorem N7(F:Fun K "beads" "Cord.beads" Dm f fd)(T:Txt mg)(O:Ig K mg o_Cord):BZ P w K mg base CX0 1 f fd ["self"] (JT o_Cord):=by
 refine F.ok OD (fun vs H Q E h=>?_) (fun cdv A outer s H vs Q E hr h=>?_)
 ·obtain ⟨c,ga,wa,gs,ws,rfl,_⟩:=h
  rfl
 obtain ⟨c,ga,wa,gs,ws,rfl,⟨⟨dx,e⟩,r1,r2⟩,q⟩:=h
 obtain ⟨xs,hx,hl⟩:=r2.there
 refine ⟨_,(Ah (Al (BJ Bd rfl T.z_len PySem.boot_len (Aa (HX (pv 0) rfl) Ae)))),?_⟩
 rw [←hl] at q
 exact ⟨_,rfl,c,_,dx,_,_,rfl,e,O.cl,O.n_kept_weights,rfl,wa,_,rfl,.inl (SqL.of hx),q⟩
theorem K5:Aw ["thing"] ["thing"] (Ac CG):=⟨rfl,rfl,rfl,by decide +kernel,rfl,by decide +kernel,by decide +kernel⟩
theorem K8(F:Fun K "is_row_above" "is_row_above" CG f fd)(T:Txt mg)(C_is_fraction:Cal P w K mg base "is_fraction" 2 ["thing"] Qg)(C_side:Cal P w K mg base "side" 1 ["one"] Ld):BZ P w K mg base CX0 3 f fd ["thing"] Hc:=by
 refine F.ok K5 (fun vs H Q E h=>?_) (fun cdv A outer s H vs Q E hr h=>?_)
 ·obtain ⟨a,qs,rfl,_⟩:=h
  rfl
 obtain ⟨a,qs,rfl,ra,hpos,aB,q⟩:=h
 obtain ⟨ps,hx,kp⟩:=id ra
 have hl:=kp.length
 refine ⟨_,(Ab (BL (Di (Cz (BJ G4 rfl T.z_isinstance boot_isinstance (Aa (pv 0) (Aa (HY (v:=.ty "list") rfl T.z_list boot_list rfl) Ae)))))
    (Ah (Al Jo))
    Am)
   (Ah (Al (BJ (Lz rfl) rfl T.z_all boot_all (Aa (IW (N':=["part"]) (fsc:=Ac CG) (N:=["thing"]) [] ⟨rfl,by decide +kernel,by decide +kernel,by decide +kernel,rfl,by decide +kernel,rfl,by decide +kernel⟩ (IV (pv 0)) (fun _ _ _ _=>(Ur (BR C_is_fraction hr (Aa (pv 0) Ae)) (Tz (Eo Bo (BR C_side hr (Aa (pv 0) Ae)) Af (Ar _)))))) Ae))))),?_⟩
 refine ⟨_,rfl,_,_,_,_,rfl,Gx.lst hx,Sd _,_,rfl,DY ?_⟩
 refine ⟨_,rfl,a,rfl,⟨_,SqL.of hx⟩,Tu (xs:=ps.map V.ref) (by rw [List.length_map];omega) hx (fun _=>true) ?_ fun H1 D s1 nD eD=>?_⟩
 ·intro _ _ _ _ x H1 R hxm s1 fin
  obtain ⟨p1,hp1,rfl⟩:=List.mem_map.mp hxm
  obtain ⟨q1,hq1,k1⟩:=Kq kp hp1
  have hn:0<q1.num:=by
   have:=hpos _ hq1
   have h0:0≤q1.num:=Rat.num_nonneg.mpr (Rat.le_of_lt this)
   have h1:q1.num≠0:=fun z=>Rat.ne_of_gt this (Rat.num_eq_zero.mp z)
   omega
  have k2:=k1.keep s1
  refine ⟨_,rfl,p1,_,rfl,k2,_,rfl,FN ?_⟩
  refine ⟨_,rfl,p1,_,_,rfl,k2,rfl,?_⟩
  have es:sgn q1.num=1:=by unfold sgn;rw [if_pos hn]
  rw [es]
  exact fin H1 (Aj.refl _)
 ·refine ⟨D,_,rfl,SqL.of eD,?_⟩
  have e:((ps.map V.ref).map fun _=>true).all id=true:=by simp
  rw [e]
  exact q H1 s1
def Uj:Sp:=fun vs H Q _=>∃v d,vs=[v]∧Dv H v d∧Q (.bl (isInt d)) H
def Qj:Sp:=fun vs H Q _=>∃v d,vs=[v]∧Dv H v d∧Q (.bl (frd d)) H
theorem YD(q:Rat):frd (dq q)=true:=by
 have hd:=den_pos q
 have hg:g q.num q.den=1:=by
  unfold g
  rw [(fq q).one]
  rfl
 show (decide (1≤(q.den:Int))&&decide (g q.num q.den=1))=true
 rw [decide_eq_true (by omega),decide_eq_true hg]
 rfl
theorem RJ:Aw ["thing"] ["thing"] (Ac FZ):=⟨rfl,rfl,rfl,by decide +kernel,rfl,by decide +kernel,by decide +kernel⟩
theorem Rm(F:Fun K "is_whole" "is_whole" FZ f fd)(T:Txt mg):BZ P w K mg base CX0 1 f fd ["thing"] Uj:=by
 refine F.ok RJ (fun vs H Q E h=>?_) (fun cdv A outer s H vs Q E hr h=>?_)
 ·obtain ⟨v,d,rfl,_⟩:=h
  rfl
 obtain ⟨v,d,rfl,dv,q⟩:=h
 obtain ⟨i,b,ke,e⟩:=Z8 (K:=K) dv
 obtain ⟨ty,ht,k1,k2,k3,k4⟩:=ke.ex
 rw [←e] at q
 refine ⟨_,(Ah (Al (Ur (BJ G4 rfl T.z_isinstance boot_isinstance (Aa (pv 0) (Aa (HY (v:=.ty "int") rfl T.z_int boot_int rfl) Ae))) (Tz (ABl (BJ G4 rfl T.z_isinstance boot_isinstance (Aa (pv 0) (Aa (HY (v:=.ty "bool") rfl T.z_bool boot_bool rfl) Ae)))))))),?_⟩
 refine ⟨_,rfl,_,_,_,_,rfl,ht,k1,_,rfl,?_⟩
 cases i with
 | true=>exact FN ⟨_,rfl,_,_,_,_,rfl,ht,k2,_,rfl,q⟩
 | false=>exact DY q
theorem NQ:Aw ["thing"] ["thing"] (Ac DW):=⟨rfl,rfl,rfl,by decide +kernel,rfl,by decide +kernel,by decide +kernel⟩
theorem Lw(F:Fun K "is_fraction" "is_fraction" DW f fd)(T:Txt mg)(C_is_whole:Cal P w K mg base "is_whole" 1 ["thing"] Uj)(C_divisor:Cal P w K mg base "divisor" 1 ["one","other"] QC):BZ P w K mg base CX0 2 f fd ["thing"] Qj:=by
 refine F.ok NQ (fun vs H Q E h=>?_) (fun cdv A outer s H vs Q E hr h=>?_)
 ·obtain ⟨v,d,rfl,_⟩:=h
  rfl
 obtain ⟨v,d,rfl,dv,q⟩:=h
 obtain ⟨i,b,ke,-⟩:=Z8 (K:=K) dv
 obtain ⟨ty,ht,k1,k2,k3,k4⟩:=ke.ex
 refine ⟨_,(Ab (BL (PW.pt (GQ (Di (Cz (BJ G4 rfl T.z_isinstance boot_isinstance (Aa (pv 0) (Aa (HY (v:=.ty "tuple") rfl T.z_tuple boot_tuple rfl) Ae))))) (Dw (Ao Jp (BJ Bd rfl T.z_len PySem.boot_len (Aa (pv 0) Ae)) Af (Ar _)))))
    (Ah (Al Jo))
    Am)
   (Ab (BL (PW.pt (GQ (Di (Cz (BR C_is_whole hr (Aa (Az BP (pv 0) Af (fun _ _=>rfl)) Ae)))) (Dw (Di (Cz (BR C_is_whole hr (Aa (Az BP (pv 0) Af (fun _ _=>rfl)) Ae)))))))
    (Ah (Al Jo))
    Am)
   (Ah (Al (Ur (Eo AAf (Az BP (pv 0) Af (fun _ _=>rfl)) Af (Ar _)) (Tz (Eo Bo (BR C_divisor hr (Aa (Az BP (pv 0) Af (fun _ _=>rfl)) (Aa (Az BP (pv 0) Af (fun _ _=>rfl)) Ae))) Af (Ar _)))))))),?_⟩
 refine ⟨_,rfl,_,_,_,_,rfl,ht,k3,_,rfl,?_⟩
 cases dv with
 | tup ha r =>
  refine DY ⟨_,rfl,_,_,rfl,.inr (SqT.of ha),rfl,_,rfl,?_⟩
  cases r with
  | nil=>exact Vf (fun z=>by cases V.int.inj z) q
  | @cons x1 _ d1 _ h1 r =>
   cases r with
   | nil =>
    refine Vf (fun z=>by cases V.int.inj z) ?_
    have e:frd (.tuple [d1])=false:=by cases d1 <;> rfl
    rw [e] at q
    exact q
   | @cons x2 _ d2 _ h2 r =>
    cases r with
    | @cons x3 xs d3 ds h3 r =>
     refine Vf (fun z=>?_) ?_
     ·have z':=V.int.inj z
      rw [List.length_cons,List.length_cons,List.length_cons] at z'
      omega
     ·have e:frd (.tuple (d1::d2::d3::ds))=false:=by cases d1 <;> cases d2 <;> rfl
      rw [e] at q
      exact q
    | nil =>
     refine Hj rfl ?_
     refine ⟨_,rfl,_,_,_,_,rfl,rfl,SqT.of ha,rfl,_,_,rfl,h1,_,rfl,?_⟩
     cases hx:isInt d1 with
     | false =>
      have e:frd (.tuple [d1,d2])=false:=by
       cases d1 <;> first | rfl | cases hx
      rw [e] at q
      exact FN (FN q)
     | true =>
      refine DY ⟨_,rfl,_,_,_,_,rfl,rfl,SqT.of ha,rfl,_,_,rfl,h2,_,rfl,?_⟩
      cases hy:isInt d2 with
      | false =>
       have e:frd (.tuple [d1,d2])=false:=by
        cases d1 <;> cases d2 <;> first | rfl | cases hy | cases hx
       rw [e] at q
       exact FN q
      | true =>
       obtain ⟨m,rfl,rfl⟩:∃m,x1=.int m∧d1=.int m:=by
        cases h1 <;> first | exact ⟨_,rfl,rfl⟩ | cases hx
       obtain ⟨n,rfl,rfl⟩:∃n,x2=.int n∧d2=.int n:=by
        cases h2 <;> first | exact ⟨_,rfl,rfl⟩ | cases hy
       refine DY ⟨_,rfl,_,_,_,_,rfl,rfl,SqT.of ha,rfl,_,_,rfl,rfl,_,rfl,?_⟩
       have e:frd (.tuple [.int m,.int n])=(decide (1≤n)&&decide (g m n=1)):=rfl
       rw [e] at q
       refine Jt (fun c=>?_) (fun c=>?_)
       ·have c':decide ((1:Int)≤n)=true:=c
        rw [c',Bool.true_and] at q
        refine ⟨_,rfl,_,_,_,_,rfl,rfl,SqT.of ha,rfl,_,rfl,_,_,_,_,rfl,rfl,SqT.of ha,rfl,_,_,rfl,rfl,?_⟩
        have d:decide (V.int (g m n)=V.int 1)=decide (g m n=1):=decide_eq_decide.mpr ⟨fun z=>V.int.inj z,fun z=>congrArg V.int z⟩
        have d2:Q (.bl (decide (V.int (g m n)=V.int 1))) H:=by rw [d];exact q
        exact d2
       ·have c':decide ((1:Int)≤n)=false:=Bool.eq_false_iff.mpr c
        rw [c',Bool.false_and] at q
        exact q
 | _=>exact FN (FN q)
theorem Om{ps:List Addr}{y:Addr}(h:(ps.map V.ref)[ps.length-1]?=some (.ref y)):atI (ps.map V.ref) (-1)=some (.ref y):=by
 rcases List.eq_nil_or_concat ps with rfl | ⟨L,z,rfl⟩
 ·simp at h
 ·have e:z=y:=by simpa using h
  rw [List.concat_eq_append,List.map_append,e]
  exact YC _ _
theorem Wh{α:Type}(f:α→V)(ps:List α):Cj (ps.map f) none (some (-1))=(ps.take (ps.length-1)).map f:=by
 unfold Cj
 have e:HT.sIx (ps.map f).length (ps.map f).length (some (-1))=ps.length-1:=by
  show (if (-1:Int)<0 then ((-1:Int)+((ps.map f).length:Int)).toNat else min (-1:Int).toNat (ps.map f).length)=_
  rw [if_pos (by decide),List.length_map]
  omega
 rw [e,HT.sIx_none,List.drop_zero,Nat.sub_zero,List.map_take]
theorem Rw.cto{H:Hp}{p:Addr}{ps:List Addr}{qs:List Rat}(kp:Pqs H ps qs)(hp:H p=none)(k:Nat):Rw (upd H p (.lst (Cj (ps.map V.ref) none (some (k:Int))))) p (qs.take k) :=
 ⟨ps.take k,by rw [Ad,ABJ],(kp.take k).keep (Ag hp _)⟩
theorem Rw.cfr{H:Hp}{p:Addr}{ps:List Addr}{qs:List Rat}(kp:Pqs H ps qs)(hp:H p=none)(k:Nat):Rw (upd H p (.lst (Cj (ps.map V.ref) (some (k:Int)) none))) p (qs.drop k) :=
 ⟨ps.drop k,by rw [Ad,NK],(kp.drop k).keep (Ag hp _)⟩
theorem Rw.cla{H:Hp}{p:Addr}{ps:List Addr}{qs:List Rat}(kp:Pqs H ps qs)(hp:H p=none):Rw (upd H p (.lst (Cj (ps.map V.ref) none (some (-1))))) p (qs.take (qs.length-1)) :=
 ⟨ps.take (qs.length-1),by rw [Ad,Wh,kp.length],(kp.take _).keep (Ag hp _)⟩
theorem Rw.cat{H:Hp}{p:Addr}{ps rs:List Addr}{qs ts:List Rat}(kp:Pqs H ps qs)(kr:Pqs H rs ts)(hp:H p=none):Rw (upd H p (.lst (ps.map V.ref++rs.map V.ref))) p (qs++ts) :=
 ⟨ps++rs,by rw [Ad,List.map_append],(kp.append kr).keep (Ag hp _)⟩
def jng(gs hs:List Rat):List Rat:=gs.take (gs.length-1)++[gs.getD (gs.length-1) 0+hs.getD 0 0]++hs.drop 1
theorem UT{gs hs:List Rat}(h1:0<gs.length)(h2:0<hs.length):(jng gs hs).length=gs.length+hs.length-1:=by
 unfold jng
 simp only [List.length_append,List.length_take,List.length_drop,List.length_cons,List.length_nil]
 omega
theorem U7{P:Rat→Prop}{gs hs:List Rat}(hg:∀q∈gs,P q)(hh:∀q∈hs,P q)(hm:P (gs.getD (gs.length-1) 0+hs.getD 0 0)):∀q∈jng gs hs,P q:=fun q h=>by
 unfold jng at h
 rcases List.mem_append.mp h with h | h
 ·rcases List.mem_append.mp h with h | h
  ·exact hg q (List.mem_of_mem_take h)
  ·rw [List.mem_singleton.mp h];exact hm
 ·exact hh q (List.mem_of_mem_drop h)
theorem Je{gs:List Rat}{i:Nat}(h:i<gs.length):gs.getD i 0∈gs:=by rw [Po.getD_in h];exact List.getElem_mem h
def ACM(C:Addr):Sp:=fun vs H Q _=>∃c ga wa gs ws d ha xa hs xs,vs=[.ref c,.ref d]∧Co C H c ga wa gs ws∧Co C H d ha xa hs xs∧Ez gs ws∧Ez hs xs∧ws.length+xs.length≤12 ∧
 ∀r g w H',Aj H H'→H r=none→H g=none→H w=none→Co C H' r g w (jng gs hs) (ws++xs)→Q (.ref r) H'
def AI9(C:Addr):Sp:=fun vs H Q _=>∃c ga wa gs ws,∃(n:Nat),vs=[.ref c,.int n]∧Co C H c ga wa gs ws∧1≤n∧n≤ws.length∧Q .non H
def AJP(C:Addr):Sp:=fun vs H Q _=>∃c ga wa gs ws,∃(n:Nat),vs=[.ref c,.int n]∧Co C H c ga wa gs ws∧NP gs ws∧1≤n∧n≤ws.length ∧
 ∀r c1 g1 w1 c2 g2 w2 H',Aj H H'→H' r=some (.tup [.ref c1,.ref c2])→Co C H' c1 g1 w1 (gs.take n) (ws.take (n-1))→Co C H' c2 g2 w2 (gs.drop n) (ws.drop n)→Q (.ref r) H'
def mor(qs:List Rat)(k:Nat)(x:Rat):List Rat:=qs.take k++[qs.getD k 0+x]++qs.drop (k+1)
theorem Fo{qs:List Rat}{k:Nat}(x:Rat)(h:k<qs.length):(mor qs k x).length=qs.length:=by
 unfold mor
 simp only [List.length_append,List.length_take,List.length_drop,List.length_cons,List.length_nil]
 omega
theorem Ia{P:Rat→Prop}{qs:List Rat}{k:Nat}{x:Rat}(hq:∀q∈qs,P q)(hm:P (qs.getD k 0+x)):∀q∈mor qs k x,P q:=fun q h=>by
 unfold mor at h
 rcases List.mem_append.mp h with h | h
 ·rcases List.mem_append.mp h with h | h
  ·exact hq q (List.mem_of_mem_take h)
  ·rw [List.mem_singleton.mp h];exact hm
 ·exact hq q (List.mem_of_mem_drop h)
def AJz:Sp:=fun vs H Q _=>∃(a p:Addr) (k:Nat) (qs:List Rat) (x:Rat),vs=[.ref a,.int k,.ref p]∧Rw H a qs∧Pq H p x∧k<qs.length∧qs.length≤100∧0<x∧Bq 8000 x∧(∀q∈qs,Bq 8000 q)∧∀r H',Aj H H'→H r=none→Rw H' r (mor qs k x)→Q (.ref r) H'
def AAk(C:Addr):Sp:=fun vs H Q _=>∃(c ga wa p:Addr) (gs ws:List Rat) (n:Nat) (x:Rat),vs=[.ref c,.int n,.ref p]∧Co C H c ga wa gs ws∧Pq H p x∧Ez gs ws∧1≤n∧n≤ws.length∧0<x∧Bq 101 x ∧
 ∀r g w H',Aj H H'→H r=none→H g=none→H w=none→Co C H' r g w gs (mor ws (n-1) x)→Q (.ref r) H'
def ACL(C:Addr):Sp:=fun vs H Q _=>∃(c ga wa p:Addr) (gs ws:List Rat) (n:Nat) (x:Rat),vs=[.ref c,.int n,.ref p]∧Co C H c ga wa gs ws∧Pq H p x∧Ez gs ws∧n≤ws.length∧0<x∧Bq 101 x ∧
 ∀r g w H',Aj H H'→H r=none→H g=none→H w=none→Co C H' r g w (mor gs n x) ws→Q (.ref r) H'
theorem Ez.heavy{gs ws:List Rat}{n:Nat}{x:Rat}(f:Ez gs ws)(hn:n<ws.length)(hx:0<x):NP gs (mor ws n x):=by
 refine ⟨by rw [Fo x hn];exact f.len,by rw [Fo x hn];exact f.most,f.pos.1,Ia f.pos.2 ?_⟩
 have:=f.pos.2 _ (Je hn)
 grind
theorem Ez.long{gs ws:List Rat}{n:Nat}{x:Rat}(f:Ez gs ws)(hn:n<gs.length)(hx:0<x):NP (mor gs n x) ws:=by
 refine ⟨by rw [Fo x hn];exact f.len,f.most,Ia f.pos.1 ?_,f.pos.2⟩
 have:=f.pos.1 _ (Je hn)
 grind
abbrev FnX(K:PySem.W.Frag)(x qual:Str)(st:Stmt)(f:Addr)(fd:FuncData):Prop:=∃(oc:Value) (od:Option Addr) (kV doc pm:Value) (an:Option Addr) (cdv ct:Value) (osl:Array (Option Value)),
   fd=PySem.W.fnOf x qual (An st) (Ak st) (Ac st) .none kV doc pm an cdv ct∧K.lookup f=some ⟨oc,od,.func fd,osl⟩∧PySem.W.codeIn K cdv qual=true
def Gy(cN:Addr):Sp:=fun vs H Q _=>∃e v,vs=[.ref e,v]∧H e=some (.ext (Hv e (.ref cN) none))∧∀d,H d=none→d≠e→Q .non (upd (upd H d (.xd [("place",v)])) e (.ext (Hv e (.ref cN) (some d))))
def Ey(C cN:Addr):Sp:=fun vs H Q E=>∃x a b gs ws dx,vs=[.ref x,.ref a,.ref b]∧H x=some (.ins C dx [])∧Rw H a gs∧Rw H b ws∧gs.length=ws.length+1∧ws.length≤100∧(∀q∈gs,0<q)∧(∀q∈ws,0<q) ∧
 (ws.length≤12→∀ga wa H',(∀b o,b≠x→H b=some o→H' b=some o)→H ga=none→H wa=none→Co C H' x ga wa gs ws→Q .non H') ∧
 (12<ws.length→∀d H',Aj H H'→H' d=some (.xd [("place",.non)])→E (.ref cN) (some d) H')
theorem Oq{C cN:Addr}{H:Hp}{a b:Addr}{gs ws:List Rat}{R:Hp→Prop}{E:XK}{x dx:Addr}(nx:H x=none)(ndx:H dx=none)(ra:Rw H a gs)(rb:Rw H b ws)(aB:gs.length=ws.length+1)(hm:ws.length≤100)(pg:∀q∈gs,0<q)(pw:∀q∈ws,0<q)
  (q:ws.length≤12→∀ga wa H',Aj H H'→H ga=none→H wa=none→Co C H' x ga wa gs ws→R H') (qe:12<ws.length→∀d H',Aj H H'→H' d=some (.xd [("place",.non)])→E (.ref cN) (some d) H') :
  Ey C cN (.ref x::([.ref a,.ref b]++[])) (upd (upd H dx (.own x)) x (.ins C dx [])) (fun v H'=>v=.non∧R H') E:=by
 have s3:Aj H (upd (upd H dx (.own x)) x (.ins C dx [])):=fun b o e=>by
  rw [Ai (Av e nx),Ai (Av e ndx)]
  exact e
 exact ⟨x,a,b,gs,ws,dx,rfl,Ad,ra.keep s3,rb.keep s3,aB,hm,pg,pw,fun h ga' wa' H' kp n1 n2 co=>⟨rfl,q h ga' wa' H' (fun b o z=>kp b o (Av z nx) (s3 _ _ z)) (s3.free n1) (s3.free n2) co⟩,fun h d H' s' ed=>qe h d H' (s3.trans s') ed⟩
theorem PP{C cN:Addr}{H:Hp}{a b:Addr}{gs ws:List Rat}{R:Hp→Prop}{E:XK}{x dx:Addr}(nx:H x=none)(ndx:H dx=none)(ra:Rw H a gs)(rb:Rw H b ws)(fine:NP gs ws)
  (q:∀ga wa H',Aj H H'→H ga=none→H wa=none→Co C H' x ga wa gs ws→R H') :
  Ey C cN (.ref x::([.ref a,.ref b]++[])) (upd (upd H dx (.own x)) x (.ins C dx [])) (fun v H'=>v=.non∧R H') E:=by
 have hm:=fine.most
 exact Oq nx ndx ra rb fine.len (by omega) fine.pos.1 fine.pos.2 (fun _=>q) fun h=>absurd h (by omega)
def Iz(C cN:Addr):Sp:=fun vs H Q E=>∃c ga wa gs ws d ha xa hs xs,vs=[.ref c,.ref d]∧Co C H c ga wa gs ws∧Co C H d ha xa hs xs∧Ez gs ws∧Ez hs xs ∧
 (ws.length+xs.length≤12→∀r g w H',Aj H H'→H r=none→H g=none→H w=none→Co C H' r g w (jng gs hs) (ws++xs)→Q (.ref r) H') ∧
 (12<ws.length+xs.length→∀d H',Aj H H'→H' d=some (.xd [("place",.non)])→E (.ref cN) (some d) H')
def QT(C cB:Addr):Sp:=fun vs H Q E=>∃c ga wa gs ws,∃(n:Int),vs=[.ref c,.int n]∧Co C H c ga wa gs ws∧(1≤n→n≤ws.length→Q .non H)∧(n<1∨(ws.length:Int)<n→E (.ref cB) none H)
def AId(C cB:Addr):Sp:=fun vs H Q E=>∃c ga wa gs ws,∃(n:Int),vs=[.ref c,.int n]∧Co C H c ga wa gs ws∧NP gs ws ∧
 (1≤n→n≤ws.length→∀r c1 g1 w1 c2 g2 w2 H',Aj H H'→H' r=some (.tup [.ref c1,.ref c2])→Co C H' c1 g1 w1 (gs.take n.toNat) (ws.take (n.toNat-1))→Co C H' c2 g2 w2 (gs.drop n.toNat) (ws.drop n.toNat)→Q (.ref r) H') ∧
 (n<1∨(ws.length:Int)<n→E (.ref cB) none H)
theorem Rj{gs ws hs xs:List Rat}(f1:Ez gs ws)(f2:Ez hs xs):(jng gs hs).length=(ws++xs).length+1∧(∀q∈jng gs hs,0<q)∧∀q∈ws++xs,0<q:=by
 have l1:=f1.len
 have l2:=f2.len
 refine ⟨by rw [UT (by omega) (by omega),List.length_append];omega,U7 f1.pos.1 f2.pos.1 ?_,fun q h=>?_⟩
 ·have a:=f1.pos.1 _ (Je (i:=gs.length-1) (by omega))
  have b:=f2.pos.1 _ (Je (i:=0) (by omega))
  grind
 ·rcases List.mem_append.mp h with h | h
  ·exact f1.pos.2 q h
  ·exact f2.pos.2 q h
theorem Ma:Aw ["self","place"] ["self","place"] (Ac DP):=⟨rfl,rfl,rfl,by decide +kernel,rfl,by decide +kernel,by decide +kernel⟩
theorem Mw{c_NoText c_NoName c_NoBead c_NoCord c_NoWorth c_NoFraction c_CordError:Addr}(F:Fun K "__init__" "NoCord.__init__" DP f fd)(T:Txt mg)(R:Ss K mg c_NoText c_NoName c_NoBead c_NoCord c_NoWorth c_NoFraction c_CordError):BZ P w K mg base CX0 1 f fd ["self","place"] (Gy c_NoCord):=by
 refine F.ok Ma (fun vs H Q E h=>?_) (fun cdv A outer s H vs Q E hr h=>?_)
 ·obtain ⟨e,v,rfl,_⟩:=h
  rfl
 obtain ⟨e,v,rfl,he,q⟩:=h
 refine ⟨_,(Ah (ZG (pv 0) (pv 1) rfl)),?_⟩
 exact ⟨_,rfl,_,rfl,e,c_NoCord,rfl,he,R.fx_NoCord,R.nf_NoCord,fun d hd hne=>q d hd hne⟩
theorem QX:Aw ["self","gaps","weights"] ["self","gaps","weights"] (Ac Ek):=⟨rfl,rfl,rfl,by decide +kernel,rfl,by decide +kernel,by decide +kernel⟩
set_option maxHeartbeats 1000000 in
theorem OJ{c_NoText c_NoName c_NoBead c_NoCord c_NoWorth c_NoFraction c_CordError:Addr}(F:FnX K "__init__" "Cord.__init__" Ek f fd)(T:Txt mg)(R:Ss K mg c_NoText c_NoName c_NoBead c_NoCord c_NoWorth c_NoFraction c_CordError)(O:Ig K mg o_Cord)(C_is_row_above:Cal P w K mg base "is_row_above" 3 ["thing"] Hc)(C_NoCord_init:Y6 P w K mg base "NoCord" c_NoCord 1 ["self","place"] (Gy c_NoCord)):BZ P w K mg base (CXd P w) 4 f fd ["self","gaps","weights"] (Ey o_Cord c_NoCord):=by
 refine Nr F QX (fun vs H Q E h=>?_) (fun cdv A outer s H vs Q E hr h=>?_)
 ·obtain ⟨x,a,b,gs,ws,dx,rfl,_⟩:=h
  rfl
 obtain ⟨x,a,b,gs,ws,dx,rfl,ex0,ra0,rb0,aB,hm100,pg,pw,q00,qe⟩:=h
 refine ⟨_,(Ab (BL (PW.pt (GQ (Di (Cz (BR C_is_row_above hr (Aa (pv 1) Ae)))) (Dw (Di (Cz (BR C_is_row_above hr (Aa (pv 2) Ae)))))))
    (Ah (Kc C_NoCord_init hr (Aa Gp Ae)))
    Am)
   (Ab (BL (PW.pt (GQ (Ao Jp (BJ Bd rfl T.z_len PySem.boot_len (Aa (pv 1) Ae)) (Ax DX (BJ Bd rfl T.z_len PySem.boot_len (Aa (pv 2) Ae)) Af) (Ar _)) (Dw (Ao JX (BJ Bd rfl T.z_len PySem.boot_len (Aa (pv 2) Ae)) (MN rfl T.c_MOST_BEADS) (Ar _)))))
    (Ah (Kc C_NoCord_init hr (Aa Gp Ae)))
    Am)
   (Ab (Tt (pv 0) (Bj Dp rfl T.z_list boot_list (Aa (pv 1) Ae)) rfl)
   (Ah (Tt (pv 0) (Bj Dp rfl T.z_list boot_list (Aa (pv 2) Ae)) rfl))))),?_⟩
 refine ⟨_,rfl,a,gs,rfl,ra0,pg,by omega,fun H1 t1=>⟨_,rfl,DY ?_⟩⟩
 refine ⟨_,rfl,b,ws,rfl,rb0.keep t1,pw,by omega,fun H2 t2=>⟨_,rfl,DY ?_⟩⟩
 have t12:=t1.trans t2
 have ex:=t12 _ _ ex0
 have ra:=ra0.keep t12
 have rb:=rb0.keep t12
 by_cases aC:ws.length≤12
 case neg =>
  obtain ⟨xa,ea,la⟩:=ra.there
  obtain ⟨xb,eb,lb⟩:=rb.there
  refine ⟨_,rfl,_,_,rfl,.inl (SqL.of ea),_,rfl,_,_,rfl,.inl (SqL.of eb),_,_,rfl,rfl,rfl,_,rfl,Hj (by rw [la,lb];exact congrArg V.int (by omega)) ?_⟩
  refine ⟨_,rfl,_,_,rfl,.inl (SqL.of eb),_,_,rfl,rfl,_,rfl,G6 (by omega) ?_⟩
  refine ⟨by show 1≤sizeLine;decide,fun e he=>⟨e,.non,rfl,Ad,fun d hd hde=>⟨rfl,some d,Ad,?_⟩⟩⟩
  have hd1:H2 d=none:=by rw [Ai hde] at hd;exact hd
  refine qe (by omega) d _ (fun b o eb=>?_) ?_
  ·have n1:b≠e:=Av (t12 _ _ eb) he
   have n2:b≠d:=Av (t12 _ _ eb) hd1
   rw [Gn n1,Ai n1,Ai n2,Ai n1]
   exact t12 _ _ eb
  ·rw [Gn hde,Ai hde,Ad]
 have q0:=q00 aC
 clear qe q00
 have q:∀ga wa H',(∀b o,b≠x→H2 b=some o→H' b=some o)→H2 ga=none→H2 wa=none→Co o_Cord H' x ga wa gs ws→Q .non H':=fun ga wa H' k n1 n2 co=>q0 ga wa H' (fun b o n e=>k b o n (t12 _ _ e)) (t12.free n1) (t12.free n2) co
 clear q0 ex0 ra0 rb0 t1
 clear t12
 clear t2
 clear H1
 generalize H2=H at *
 obtain ⟨xa,ea,la⟩:=ra.there
 obtain ⟨xb,eb,lb⟩:=rb.there
 refine ⟨_,rfl,_,_,rfl,.inl (SqL.of ea),_,rfl,_,_,rfl,.inl (SqL.of eb),_,_,rfl,rfl,rfl,_,rfl,Hj (by rw [la,lb];exact congrArg V.int (by omega)) ?_⟩
 refine ⟨_,rfl,_,_,rfl,.inl (SqL.of eb),_,_,rfl,rfl,_,rfl,Du (by omega) ?_⟩
 refine ⟨_,rfl,a,_,rfl,.inl (SqL.of ea),fun ga hga=>?_⟩
 have s1:=Ag hga (.lst xa)
 have r1:=ra.copy ea hga
 refine ⟨_,rfl,x,_,dx,_,rfl,s1 _ _ ex,O.cl,O.n_kept_gaps,by decide,?_⟩
 have nxa:x≠ga:=Av ex hga
 have nb:b≠x:=GZ eb ex (by intro z;cases z)
 obtain ⟨H2,e2⟩:∃H2,H2=upd (upd H ga (.lst xa)) x (.ins o_Cord dx (Hh "kept_gaps" (.ref ga) [])):=⟨_,rfl⟩
 rw [←e2]
 have k2:∀c o,c≠x→(upd H ga (.lst xa)) c=some o→H2 c=some o:=fun c o n e=>by rw [e2,Ai n];exact e
 have rows:∀{c:Addr} {qs:List Rat},Rw (upd H ga (.lst xa)) c qs→Rw H2 c qs:=fun {c qs} r=>by
  obtain ⟨ps,h1,h2⟩:=r
  exact ⟨ps,k2 _ _ (GZ h1 (s1 _ _ ex) (by intro z;cases z)) h1,Paired.imp' (fun p t z=>by
   have z':(upd H ga (.lst xa)) p=some (.tup [.int t.num,.int t.den]):=z
   exact k2 _ _ (GZ z' (s1 _ _ ex) (by intro w;cases w)) z') h2⟩
 have rb2:=rows (rb.keep s1)
 have rg2:=rows r1
 have ex2:H2 x=some (.ins o_Cord dx [("kept_gaps",.ref ga)]):=by rw [e2,Ad];rfl
 obtain ⟨xb2,eb2,lb2⟩:=rb2.there
 refine ⟨_,rfl,b,_,rfl,.inl (SqL.of eb2),fun wa hwa=>?_⟩
 have s3:=Ag hwa (.lst xb2)
 have r3:=rb2.copy eb2 hwa
 refine ⟨_,rfl,x,_,dx,_,rfl,s3 _ _ ex2,O.cl,O.n_kept_weights,(by show 1<1000;decide),?_⟩
 obtain ⟨H4,e4⟩:∃H4,H4=upd (upd H2 wa (.lst xb2)) x (.ins o_Cord dx (Hh "kept_weights" (.ref wa) [("kept_gaps",.ref ga)])):=⟨_,rfl⟩
 have k4:∀c o,c≠x→(upd H2 wa (.lst xb2)) c=some o→H4 c=some o:=fun c o n e=>by rw [e4,Ai n];exact e
 have rows4:∀{c:Addr} {qs:List Rat},Rw (upd H2 wa (.lst xb2)) c qs→Rw H4 c qs:=fun {c qs} r=>by
  obtain ⟨ps,h1,h2⟩:=r
  exact ⟨ps,k4 _ _ (GZ h1 (s3 _ _ ex2) (by intro z;cases z)) h1,Paired.imp' (fun p t z=>by
   have z':(upd H2 wa (.lst xb2)) p=some (.tup [.int t.num,.int t.den]):=z
   exact k4 _ _ (GZ z' (s3 _ _ ex2) (by intro w;cases w)) z') h2⟩
 have fin:=q ga wa H4 (fun c o n e=>k4 c o n (s3 _ _ (k2 c o n (s1 _ _ e)))) hga ?_ ⟨⟨dx,?_⟩,rows4 (rg2.keep s3),rows4 r3⟩
 ·rw [e4] at fin
  exact fin
 ·cases hw:H wa with
  | none=>rfl
  | some o =>
   by_cases n:wa=x
   ·rw [n,ex2] at hwa;cases hwa
   ·rw [k2 wa o n (s1 _ _ hw)] at hwa;cases hwa
 ·rw [e4,Ad];rfl
theorem Il:Aw ["one","other","gaps","further","middle"] ["one","other"] (Ac G8):=⟨rfl,rfl,rfl,by decide +kernel,rfl,by decide +kernel,by decide +kernel⟩
theorem WY{c_NoCord:Addr}(F:FnX K "joined" "joined" G8 f fd)(T:Txt mg)(C_plus:Cal P w K mg base "plus" 2 ["one","other"] (JR 8000 (·+·)))(C_Cord_gaps:Im P w K mg base o_Cord "gaps" 1 ["self"] (Ii o_Cord))(C_Cord_weights:Im P w K mg base o_Cord "weights" 1 ["self"] (Fj o_Cord))
  (C_Cord_init:Kr P w K mg base "Cord" o_Cord 4 ["self","gaps","weights"] (Ey o_Cord c_NoCord)):BZ P w K mg base (CXd P w) 6 f fd ["one","other"] (Iz o_Cord c_NoCord):=by
 refine Nr F Il (fun vs H Q E h=>?_) (fun cdv A outer s H vs Q E hr h=>?_)
 ·obtain ⟨c,ga,wa,gs,ws,d,ha,xa,hs,xs,rfl,_⟩:=h
  rfl
 obtain ⟨c,ga,wa,gs,ws,d,ha,xa,hs,xs,rfl,co,cd,f1,f2,q,qe⟩:=h
 have l1:=f1.len
 have l2:=f2.len
 have m1:=f1.most
 have m2:=f2.most
 have hz:(1000:Nat)<sizeLine:=by decide
 refine ⟨_,(Ab (Ay (i:=2) Il.nd rfl (Or.inl rfl) (G7 C_Cord_gaps hr (pv 0)))
   (Ab (Ay (i:=3) Il.nd rfl (Or.inl rfl) (G7 C_Cord_gaps hr (pv 1)))
   (Ab (Ay (i:=4) Il.nd rfl (Or.inl rfl) (BR C_plus hr (Aa (Az Ba (pv 2) (Mt JB Af) (fun _ _=>rfl)) (Aa (Az Ba (pv 3) Af (fun _ _=>rfl)) Ae))))
   (Ah (Al (Tn C_Cord_init hr (Aa (Ax Hi (Ax Hi (CV Es (pv 2) Do (CQ (Mt JB Af))) (Er (Aa (pv 4) Ae))) (CV Es (pv 3) (CQ Af) Do)) (Aa (Ax Hi (G7 C_Cord_weights hr (pv 0)) (G7 C_Cord_weights hr (pv 1))) Ae)))))))),?_⟩
 obtain ⟨dx,ec⟩:=co.1
 refine ⟨_,rfl,c,dx,_,rfl,ec,rfl,c,ga,wa,gs,ws,rfl,co,fun g1 H1 s1 n1 r1=>?_⟩
 obtain ⟨dy,ed⟩:=(cd.keep s1).1
 refine ⟨_,rfl,d,dy,_,rfl,ed,rfl,d,ha,xa,hs,xs,rfl,cd.keep s1,fun g2 H2 s2 n2 ⟨p2,e2,k2⟩=>?_⟩
 obtain ⟨p1,e1,k1⟩:=r1.keep s2
 have lp1:=k1.length
 have lp2:=k2.length
 have hg:gs.length-1<gs.length:=by omega
 have hh:0<hs.length:=by omega
 obtain ⟨y1,ey1,ky1⟩:=k1.get (List.getElem?_eq_getElem hg)
 obtain ⟨y2,ey2,ky2⟩:=k2.get (List.getElem?_eq_getElem hh)
 have ex1:atI (p1.map V.ref) (-1)=some (.ref y1):=by
  rw [←lp1] at ey1
  exact Om ey1
 refine ⟨_,rfl,_,rfl,g1,_,_,_,rfl,rfl,SqL.of e1,ex1,_,rfl,g2,_,_,_,rfl,rfl,SqL.of e2,Dr (j:=0) ey2,y1,y2,_,_,rfl,ky1,ky2,(f1.bq.1 _ (List.getElem_mem hg)).mono (by decide),(f2.bq.1 _ (List.getElem_mem hh)).mono (by decide),fun y H3 s3 ky=>?_⟩
 have s23:=s1.trans (s2.trans s3)
 refine ⟨_,rfl,_,rfl,_,rfl,g1,_,rfl,SqL.of (s3 _ _ e1),fun m1 hm1=>?_⟩
 have u1:=Ag hm1 (.lst (Cj (p1.map V.ref) none (some (-1))))
 have t1:Rw (upd H3 m1 (.lst (Cj (p1.map V.ref) none (some (-1))))) m1 (gs.take (gs.length-1)):=Rw.cla (k1.keep s3) hm1
 have sA:=s23.trans u1
 have kyA:Pq (upd H3 m1 (.lst (Cj (p1.map V.ref) none (some (-1))))) y (gs.getD (gs.length-1) 0+hs.getD 0 0):=by
  rw [Po.getD_in hg,Po.getD_in hh]
  exact ky.keep u1
 have e2A:=(s3.trans u1) _ _ e2
 have k2A:=k2.keep (s3.trans u1)
 have coA:=co.keep sA
 have cdA:=cd.keep sA
 clear ky k2 e2 e1 k1 ey2 ky1 ky2 ec ed s1 s2 s3
 generalize upd H3 m1 (.lst (Cj (p1.map V.ref) none (some (-1))))=HA at *
 obtain ⟨q1,f1',j1⟩:=t1
 have lq1:=j1.length
 have hl1:(gs.take (gs.length-1)).length=gs.length-1:=by rw [List.length_take];omega
 refine ⟨_,rfl,(by show 1≤sizeLine;decide),fun m2 hm2=>?_⟩
 have u2:=Ag hm2 (.lst [.ref y])
 refine ⟨m1,m2,_,_,rfl,rfl,u2 _ _ f1',Ad,by simp only [List.length_append,List.length_map,List.length_cons,List.length_nil];omega,fun m3 hm3=>?_⟩
 have u3:=Ag hm3 (.lst (q1.map V.ref++[.ref y]))
 have t3:Rw (upd (upd HA m2 (.lst [.ref y])) m3 (.lst (q1.map V.ref++[.ref y]))) m3 (gs.take (gs.length-1)++[gs.getD (gs.length-1) 0+hs.getD 0 0]):=Rw.cat (rs:=[y]) (j1.keep u2) (.cons (kyA.keep u2) .nil) hm3
 have u23:=u2.trans u3
 have sB:=sA.trans u23
 have e2B:=u23 _ _ e2A
 have k2B:=k2A.keep u23
 have coB:=coA.keep u23
 have cdB:=cdA.keep u23
 clear u2 u3 u23 kyA j1 f1' e2A k2A coA cdA sA u1 hm1 hm2 s23
 generalize upd (upd HA m2 (.lst [.ref y])) m3 (.lst (q1.map V.ref++[.ref y]))=HB at *
 refine ⟨_,rfl,_,rfl,g2,_,rfl,SqL.of e2B,fun m4 hm4=>?_⟩
 have u4:=Ag hm4 (.lst (Cj (p2.map V.ref) (some 1) none))
 have t4:Rw (upd HB m4 (.lst (Cj (p2.map V.ref) (some 1) none))) m4 (hs.drop 1):=Rw.cfr k2B hm4 1
 have t3':=t3.keep u4
 have sC:=sB.trans u4
 have coC:=coB.keep u4
 have cdC:=cdB.keep u4
 clear u4 t3 e2B k2B coB cdB sB
 generalize upd HB m4 (.lst (Cj (p2.map V.ref) (some 1) none))=HC at *
 obtain ⟨q3,f3,j3⟩:=t3'
 obtain ⟨q4,f4,j4⟩:=t4
 have lq3:=j3.length
 have lq4:=j4.length
 refine ⟨m3,m4,_,_,rfl,rfl,f3,f4,?_,fun m5 hm5=>?_⟩
 ·rw [List.length_map,List.length_map,lq3,lq4,List.length_append,List.length_take,List.length_drop,List.length_singleton]
  have:=f1.most
  have:=f2.most
  omega
 have u5:=Ag hm5 (.lst (q3.map V.ref++q4.map V.ref))
 have t5:Rw (upd HC m5 (.lst (q3.map V.ref++q4.map V.ref))) m5 (jng gs hs):=Rw.cat j3 j4 hm5
 have sD:=sC.trans u5
 have coD:=coC.keep u5
 have cdD:=cdC.keep u5
 clear j3 j4 f3 f4 u5 sC coC cdC
 generalize upd HC m5 (.lst (q3.map V.ref++q4.map V.ref))=HD at *
 obtain ⟨dx',ec'⟩:=coD.1
 refine ⟨_,rfl,c,dx',_,rfl,ec',rfl,c,ga,wa,gs,ws,rfl,coD,fun w1 HE sE nE rE=>?_⟩
 obtain ⟨dy',ed'⟩:=(cdD.keep sE).1
 refine ⟨_,rfl,d,dy',_,rfl,ed',rfl,d,ha,xa,hs,xs,rfl,cdD.keep sE,fun w2 HF sF nF ⟨v2,e6,k6⟩=>?_⟩
 obtain ⟨v1,e7,k7⟩:=rE.keep sF
 have lv1:=k7.length
 have lv2:=k6.length
 refine ⟨w1,w2,_,_,rfl,rfl,e7,e6,by rw [List.length_map,List.length_map];omega,fun w3 hw3=>?_⟩
 have u6:=Ag hw3 (.lst (v1.map V.ref++v2.map V.ref))
 have t6:Rw (upd HF w3 (.lst (v1.map V.ref++v2.map V.ref))) w3 (ws++xs):=Rw.cat k7 k6 hw3
 have t5':=t5.keep (sE.trans (sF.trans u6))
 have sG:=sD.trans (sE.trans (sF.trans u6))
 intro x dx2 nx ndx _
 obtain ⟨jl,jg,jw⟩:=Rj f1 f2
 refine Oq nx ndx t5' t6 jl (by rw [List.length_append];omega) jg jw (fun h g w H' s' ng nw co'=>?_) fun h d H' s' ed=>?_
 ·rw [List.length_append] at h
  exact q h x g w H' (sG.trans s') (sG.free nx) (sG.free ng) (sG.free nw) co'
 ·rw [List.length_append] at h
  exact qe h d H' (sG.trans s') ed
theorem Nz:Aw ["cord","bead"] ["cord","bead"] (Ac Ds):=⟨rfl,rfl,rfl,by decide +kernel,rfl,by decide +kernel,by decide +kernel⟩
theorem Nx{c_NoText c_NoName c_NoBead c_NoCord c_NoWorth c_NoFraction c_CordError:Addr}(F:FnX K "check_bead" "check_bead" Ds f fd)(T:Txt mg)(R:Ss K mg c_NoText c_NoName c_NoBead c_NoCord c_NoWorth c_NoFraction c_CordError)(C_Cord_beads:Im P w K mg base o_Cord "beads" 1 ["self"] (JT o_Cord)):BZ P w K mg base (CXd P w) 2 f fd ["cord","bead"] (QT o_Cord c_NoBead):=by
 refine Nr F Nz (fun vs H Q E h=>?_) (fun cdv A outer s H vs Q E hr h=>?_)
 ·obtain ⟨c,ga,wa,gs,ws,n,rfl,_⟩:=h
  rfl
 obtain ⟨c,ga,wa,gs,ws,n,rfl,co,q,qe⟩:=h
 obtain ⟨dx,ec⟩:=co.1
 refine ⟨_,(Ah (BL (PW.pt (GQ (Ao Hk (pv 1) Af (Ar _)) (Dw (Ao JX (pv 1) (G7 C_Cord_beads hr (pv 0)) (Ar _)))))
    (Ah (KZ R.m_NoBead R.o_NoBead (Aa Aq Ae)))
    Am)),?_⟩
 by_cases h1:n<1
 ·exact ⟨_,rfl,_,_,rfl,rfl,_,rfl,G6 h1 (FN ⟨by show 1≤sizeLine;decide,qe (.inl h1)⟩)⟩
 ·refine ⟨_,rfl,_,_,rfl,rfl,_,rfl,Du h1 ?_⟩
  refine ⟨_,rfl,_,rfl,c,dx,_,rfl,ec,rfl,c,ga,wa,gs,ws,rfl,co,_,_,rfl,rfl,_,rfl,?_⟩
  by_cases h2:(ws.length:Int)<n
  ·exact G6 h2 ⟨by show 1≤sizeLine;decide,qe (.inr h2)⟩
  ·exact Du h2 (q (by omega) (by omega))
def AKN(H:Hp)(v:V)(d:PyData):Prop:=Dv H v d∧(abo d=false∨∃p x,v=.ref p∧Pq H p x∧0<x∧Bq 101 x∧d=dq x)
theorem PB{vs:List V}{H:Hp}{Q:VK}{E:XK}(h:Qg vs H Q E):Qj vs H Q E:=by
 obtain ⟨p,q,e,kp,k⟩:=h
 refine ⟨.ref p,dq q,e,kp.dv,?_⟩
 rw [YD]
 exact k
def Qd(cN:Addr):Sp:=fun vs H Q E=>∃(a:Addr) (k:Nat) (v:V) (d:PyData) (qs:List Rat),vs=[.ref a,.int k,v]∧Rw H a qs∧Dv H v d∧k<qs.length∧qs.length≤100∧(∀q∈qs,Bq 8000 q) ∧
 ((abo d=false∧∀dd H',Aj H H'→H' dd=some (.xd [("place",.non)])→E (.ref cN) (some dd) H')∨(∃p x,v=.ref p∧Pq H p x∧0<x∧Bq 8000 x∧d=dq x∧∀r H',Aj H H'→H r=none→Rw H' r (mor qs k x)→Q (.ref r) H'))
def Ih(lo:Nat)(C cN cB:Addr):Sp:=fun vs H Q E=>∃(c ga wa:Addr) (gs ws:List Rat) (n:Int) (v:V) (d:PyData),vs=[.ref c,.int n,v]∧Co C H c ga wa gs ws∧Ez gs ws∧Dv H v d ∧
 (((n<lo∨(ws.length:Int)<n)∧E (.ref cB) none H)∨((lo:Int)≤n∧n≤ws.length∧abo d=false∧∀dd H',Aj H H'→H' dd=some (.xd [("place",.non)])→E (.ref cN) (some dd) H') ∨
   ((lo:Int)≤n∧n≤ws.length∧∃p x,v=.ref p∧Pq H p x∧0<x∧Bq 101 x∧d=dq x∧∀r g w H',Aj H H'→Co C H' r g w (if lo=0 then mor gs n.toNat x else gs) (if lo=0 then ws else mor ws (n.toNat-1) x)→Q (.ref r) H'))
theorem QG:Aw ["row","place","more"] ["row","place","more"] (Ac Eg):=⟨rfl,rfl,rfl,by decide +kernel,rfl,by decide +kernel,by decide +kernel⟩
theorem Qz{c_NoText c_NoName c_NoBead c_NoCord c_NoWorth c_NoFraction c_CordError:Addr}(F:FnX K "with_more" "with_more" Eg f fd)(T:Txt mg)(R:Ss K mg c_NoText c_NoName c_NoBead c_NoCord c_NoWorth c_NoFraction c_CordError)(C_is_fraction:Cal P w K mg base "is_fraction" 2 ["thing"] Qj)(C_side:Cal P w K mg base "side" 1 ["one"] Ld)(C_plus:Cal P w K mg base "plus" 2 ["one","other"] (JR 8000 (·+·)))(C_NoCord_init:Y6 P w K mg base "NoCord" c_NoCord 1 ["self","place"] (Gy c_NoCord)):BZ P w K mg base (CXd P w) 3 f fd ["row","place","more"] (Qd c_NoCord):=by
 refine Nr F QG (fun vs H Q E h=>?_) (fun cdv A outer s H vs Q E hr h=>?_)
 ·obtain ⟨a,k,v,d,qs,rfl,_⟩:=h
  rfl
 obtain ⟨a,k,v,d,qs,rfl,⟨ps,ea,ka⟩,dv,hk,hl,bq,hq⟩:=h
 have lp:=ka.length
 have hz:(1000:Nat)<sizeLine:=by decide
 refine ⟨_,(Ab (BL (PW.pt (GQ (Di (Cz (BR C_is_fraction hr (Aa (pv 2) Ae)))) (Dw (Ao Jp (BR C_side hr (Aa (pv 2) Ae)) Af (Ar _)))))
    (Ah (Kc C_NoCord_init hr (Aa Gp Ae)))
    Am)
   (Ah (Al (Ax Hi (Ax Hi (CV Es (pv 0) Do (CQ (pv 1))) (Er (Aa (BR C_plus hr (Aa (Az Ba (pv 0) (pv 1) (fun _ _=>rfl)) (Aa (pv 2) Ae))) Ae))) (CV Es (pv 0) (CQ (Ax DX (pv 1) Af)) Do))))),?_⟩
 rcases hq with ⟨hbad,qe⟩ | ⟨pm,x,rfl,km,hx,bx,ed,q⟩
 ·have raise:([V.non]:List V).length≤sizeLine∧∀e,H e=none→Gy c_NoCord (.ref e::[V.non]) (upd H e (.ext (Hv e (.ref c_NoCord) none))) (fun r H2=>r=.non∧∃dx,H2 e=some (.ext (Hv e (.ref c_NoCord) dx))∧E (.ref c_NoCord) dx (drp H2 e)) E0:=by
   refine ⟨by show 1≤sizeLine;decide,fun e he=>⟨e,.non,rfl,Ad,fun d hd hde=>⟨rfl,some d,Ad,?_⟩⟩⟩
   have hd1:H d=none:=by rw [Ai hde] at hd;exact hd
   refine qe d _ (fun b o eb=>?_) ?_
   ·have n1:b≠e:=Av eb he
    have n2:b≠d:=Av eb hd1
    rw [Gn n1,Ai n1,Ai n2,Ai n1]
    exact eb
   ·rw [Gn hde,Ai hde,Ad]
  refine ⟨_,rfl,v,d,rfl,dv,_,rfl,?_⟩
  cases hf:frd d with
  | false=>exact FN (FN raise)
  | true =>
   obtain ⟨p,t,b,rfl,hp,rfl,hb,hg⟩:=Zt dv hf
   refine DY ⟨_,rfl,p,_,_,rfl,hp,rfl,_,rfl,Vf (fun z=>?_) raise⟩
   have z':sgn t=1:=V.int.inj z
   have ht:0<t:=by
    unfold sgn at z'
    split at z'
    ·assumption
    ·split at z' <;> omega
   have:abo (.tuple [.int t,.int b])=true:=by
    show (decide (1≤b)&&decide (g t b=1)&&decide (0<t))=true
    rw [decide_eq_true hb,decide_eq_true hg,decide_eq_true ht]
    rfl
   rw [this] at hbad
   cases hbad
 refine ⟨_,rfl,_,_,rfl,dv,_,rfl,?_⟩
 rw [ed,YD]
 refine DY ?_
 have sg:sgn x.num=1:=by
  have h0:0<x.num:=by
   have h0:0≤x.num:=Rat.num_nonneg.mpr (Rat.le_of_lt hx)
   have h1:x.num≠0:=fun z=>by
    rw [Rat.num_eq_zero.mp z] at hx
    exact absurd hx (by decide)
   omega
  unfold sgn
  rw [if_pos h0]
 refine ⟨_,rfl,pm,_,_,rfl,km,rfl,_,rfl,Hj (congrArg V.int sg) ?_⟩
 refine ⟨_,rfl,_,rfl,_,rfl,a,_,rfl,SqL.of ea,fun m1 hm1=>?_⟩
 have u1:=Ag hm1 (.lst (Cj (ps.map V.ref) none (some (k:Int))))
 have t1:Rw (upd H m1 (.lst (Cj (ps.map V.ref) none (some (k:Int))))) m1 (qs.take k):=Rw.cto ka hm1 k
 have ea1:=u1 _ _ ea
 have ka1:=ka.keep u1
 have km1:=km.keep u1
 clear hm1
 generalize upd H m1 (.lst (Cj (ps.map V.ref) none (some (k:Int))))=H1 at *
 obtain ⟨y,ey,ky⟩:=ka1.get (List.getElem?_eq_getElem hk)
 refine ⟨_,rfl,_,rfl,a,_,_,_,rfl,rfl,SqL.of ea1,Dr ey,_,rfl,y,pm,_,_,rfl,ky,km1,bq _ (List.getElem_mem hk),bx,fun z H2 s2 kz=>⟨(by show 1≤sizeLine;decide),fun m2 hm2=>?_⟩⟩
 obtain ⟨q1,f1,j1⟩:=t1.keep s2
 have lq1:=j1.length
 rw [List.length_take] at lq1
 have v1:=Ag hm2 (.lst [.ref z])
 have hz':(fun x1 x2:Rat=>x1+x2) qs[k] x=qs.getD k 0+x:=by rw [Po.getD_in hk]
 rw [hz'] at kz
 refine ⟨m1,m2,_,_,rfl,rfl,v1 _ _ f1,Ad,by simp only [List.length_map,List.length_cons,List.length_nil];omega,fun m3 hm3=>?_⟩
 have v2:=Ag hm3 (.lst (q1.map V.ref++[.ref z]))
 have t3:Rw (upd (upd H2 m2 (.lst [.ref z])) m3 (.lst (q1.map V.ref++[.ref z]))) m3 (qs.take k++[qs.getD k 0+x]):=Rw.cat (rs:=[z]) (j1.keep v1) (.cons (kz.keep v1) .nil) hm3
 have s3:=s2.trans (v1.trans v2)
 have ea3:=s3 _ _ ea1
 have ka3:=ka1.keep s3
 have s03:=u1.trans s3
 clear v1 v2 hm2 hm3 s3 s2 u1
 generalize upd (upd H2 m2 (.lst [.ref z])) m3 (.lst (q1.map V.ref++[.ref z]))=H3 at *
 refine ⟨_,rfl,_,rfl,_,_,rfl,rfl,_,rfl,a,_,rfl,SqL.of ea3,fun m4 hm4=>?_⟩
 have u4:=Ag hm4 (.lst (Cj (ps.map V.ref) (some ((k:Int)+1)) none))
 have t4:Rw (upd H3 m4 (.lst (Cj (ps.map V.ref) (some ((k:Int)+1)) none))) m4 (qs.drop (k+1)):=Rw.cfr ka3 hm4 (k+1)
 have t3':=t3.keep u4
 have s04:=s03.trans u4
 clear u4 hm4 t3
 generalize upd H3 m4 (.lst (Cj (ps.map V.ref) (some ((k:Int)+1)) none))=H4 at *
 obtain ⟨q3,f3,j3⟩:=t3'
 obtain ⟨q4,f4,j4⟩:=t4
 have lq3:=j3.length
 have lq4:=j4.length
 rw [List.length_append,List.length_take,List.length_singleton] at lq3
 rw [List.length_drop] at lq4
 refine ⟨m3,m4,_,_,rfl,rfl,f3,f4,by rw [List.length_map,List.length_map];omega,fun m5 hm5=>?_⟩
 exact q m5 _ (s04.trans (Ag hm5 _)) (s04.free hm5) (Rw.cat j3 j4 hm5)
theorem Ub:Aw ["cord","bead","more"] ["cord","bead","more"] (Ac Gi):=⟨rfl,rfl,rfl,by decide +kernel,rfl,by decide +kernel,by decide +kernel⟩
theorem T7{c_NoCord c_NoBead:Addr}(F:FnX K "heavier" "heavier" Gi f fd)(T:Txt mg)(C_check_bead:JZ P w K mg base "check_bead" 2 ["cord","bead"] [] [] (QT o_Cord c_NoBead))(C_with_more:JZ P w K mg base "with_more" 3 ["row","place","more"] [] [] (Qd c_NoCord))(C_Cord_gaps:Im P w K mg base o_Cord "gaps" 1 ["self"] (Ii o_Cord))(C_Cord_weights:Im P w K mg base o_Cord "weights" 1 ["self"] (Fj o_Cord))
  (C_Cord_init:Kr P w K mg base "Cord" o_Cord 4 ["self","gaps","weights"] (Ey o_Cord c_NoCord)):BZ P w K mg base (CXd P w) 6 f fd ["cord","bead","more"] (Ih 1 o_Cord c_NoCord c_NoBead):=by
 refine Nr F Ub (fun vs H Q E h=>?_) (fun cdv A outer s H vs Q E hr h=>?_)
 ·obtain ⟨c,ga,wa,gs,ws,n,v,d,rfl,_⟩:=h
  rfl
 obtain ⟨c,ga,wa,gs,ws,n,v,d,rfl,co,fine,dv,hq⟩:=h
 have aC:=fine.most
 refine ⟨_,(Ab (Ep (HN C_check_bead hr (Aa (pv 0) (Aa (pv 1) Ae))))
   (Ah (Al (Tn C_Cord_init hr (Aa (G7 C_Cord_gaps hr (pv 0)) (Aa (HN C_with_more hr (Aa (G7 C_Cord_weights hr (pv 0)) (Aa (Ax J9 (pv 1) Af) (Aa (pv 2) Ae)))) Ae)))))),?_⟩
 refine ⟨_,rfl,_,rfl,c,ga,wa,gs,ws,n,rfl,co,fun h1 h2=>?_,fun hb=>?_⟩
 case refine_2 =>
  rcases hq with ⟨_,e⟩ | ⟨g1,g2,_⟩ | ⟨g1,g2,_⟩
  ·exact e
  ·exfalso;omega
  ·exfalso;omega
 have hq:(abo d=false∧∀dd H',Aj H H'→H' dd=some (.xd [("place",.non)])→E (.ref c_NoCord) (some dd) H')∨(∃p x,v=.ref p∧Pq H p x∧0<x∧Bq 101 x∧d=dq x∧∀r g w H',Aj H H'→Co o_Cord H' r g w gs (mor ws (n.toNat-1) x)→Q (.ref r) H'):=by
  rcases hq with ⟨e,_⟩ | ⟨_,_,z⟩ | ⟨_,_,z⟩
  ·exfalso;omega
  ·exact .inl z
  ·exact .inr z
 obtain ⟨n,rfl⟩:∃m:Nat,n=m:=⟨n.toNat,by omega⟩
 rw [Int.toNat_natCast] at hq
 obtain ⟨dx,ec⟩:=co.1
 refine ⟨_,rfl,c,dx,_,rfl,ec,rfl,c,ga,wa,gs,ws,rfl,co,fun g1 H1 s1 n1 r1=>?_⟩
 refine ⟨_,rfl,c,dx,_,rfl,s1 _ _ ec,rfl,c,ga,wa,gs,ws,rfl,co.keep s1,fun w1 H2 s2 n2 r2=>?_⟩
 have s12:=s1.trans s2
 have hn:n-1<ws.length:=by omega
 refine ⟨_,rfl,_,_,rfl,rfl,_,rfl,w1,n-1,v,d,ws,?_,r2,dv.keep s12,hn,by omega,fun q h=>(fine.bq.2 q h).mono (by decide),?_⟩
 ·rw [show ((n-1:Nat):Int)=(n:Int)-1 by omega]
  rfl
 rcases hq with ⟨hbad,qe⟩ | ⟨p,x,rfl,kx,hx,bx,ed,q⟩
 ·exact .inl ⟨hbad,fun dd H' s' e'=>qe dd H' (s12.trans s') e'⟩
 ·refine .inr ⟨p,x,rfl,kx.keep s12,hx,bx.mono (by decide),ed,fun w2 H3 s3 n3 r3=>?_⟩
  have s13:=s12.trans s3
  intro x' dx2 nx ndx _
  exact PP nx ndx (r1.keep (s2.trans s3)) r3 (fine.heavy hn hx) fun g w H' s' ng nw co'=>q x' g w H' (s13.trans s') co'
theorem Wb:Aw ["cord","gap","more"] ["cord","gap","more"] (Ac HJ):=⟨rfl,rfl,rfl,by decide +kernel,rfl,by decide +kernel,by decide +kernel⟩
theorem Vr{c_NoText c_NoName c_NoBead c_NoCord c_NoWorth c_NoFraction c_CordError:Addr}(F:FnX K "longer" "longer" HJ f fd)(T:Txt mg)(R:Ss K mg c_NoText c_NoName c_NoBead c_NoCord c_NoWorth c_NoFraction c_CordError)(C_with_more:JZ P w K mg base "with_more" 3 ["row","place","more"] [] [] (Qd c_NoCord))(C_Cord_gaps:Im P w K mg base o_Cord "gaps" 1 ["self"] (Ii o_Cord))(C_Cord_weights:Im P w K mg base o_Cord "weights" 1 ["self"] (Fj o_Cord))(C_Cord_beads:Im P w K mg base o_Cord "beads" 1 ["self"] (JT o_Cord))
  (C_Cord_init:Kr P w K mg base "Cord" o_Cord 4 ["self","gaps","weights"] (Ey o_Cord c_NoCord)):BZ P w K mg base (CXd P w) 6 f fd ["cord","gap","more"] (Ih 0 o_Cord c_NoCord c_NoBead):=by
 refine Nr F Wb (fun vs H Q E h=>?_) (fun cdv A outer s H vs Q E hr h=>?_)
 ·obtain ⟨c,ga,wa,gs,ws,n,v,d,rfl,_⟩:=h
  rfl
 obtain ⟨c,ga,wa,gs,ws,n,v,d,rfl,co,fine,dv,hq⟩:=h
 have aC:=fine.most
 have aB:=fine.len
 obtain ⟨dx,ec⟩:=co.1
 refine ⟨_,(Ab (BL (PW.pt (GQ (Ao Hk (pv 1) Af (Ar _)) (Dw (Ao JX (pv 1) (G7 C_Cord_beads hr (pv 0)) (Ar _)))))
    (Ah (KZ R.m_NoBead R.o_NoBead (Aa Aq Ae)))
    Am)
   (Ah (Al (Tn C_Cord_init hr (Aa (HN C_with_more hr (Aa (G7 C_Cord_gaps hr (pv 0)) (Aa (pv 1) (Aa (pv 2) Ae)))) (Aa (G7 C_Cord_weights hr (pv 0)) Ae)))))),?_⟩
 by_cases h1:n<0
 ·rcases hq with ⟨_,e⟩ | ⟨g1,g2,_⟩ | ⟨g1,g2,_⟩
  ·exact ⟨_,rfl,_,_,rfl,rfl,_,rfl,G6 h1 (FN ⟨by show 1≤sizeLine;decide,e⟩)⟩
  ·exfalso;omega
  ·exfalso;omega
 refine ⟨_,rfl,_,_,rfl,rfl,_,rfl,Du h1 ?_⟩
 refine ⟨_,rfl,_,rfl,c,dx,_,rfl,ec,rfl,c,ga,wa,gs,ws,rfl,co,_,_,rfl,rfl,_,rfl,?_⟩
 by_cases h2:(ws.length:Int)<n
 ·rcases hq with ⟨_,e⟩ | ⟨g1,g2,_⟩ | ⟨g1,g2,_⟩
  ·exact G6 h2 ⟨by show 1≤sizeLine;decide,e⟩
  ·exfalso;omega
  ·exfalso;omega
 refine Du h2 ?_
 have hq:(abo d=false∧∀dd H',Aj H H'→H' dd=some (.xd [("place",.non)])→E (.ref c_NoCord) (some dd) H')∨(∃p x,v=.ref p∧Pq H p x∧0<x∧Bq 101 x∧d=dq x∧∀r g w H',Aj H H'→Co o_Cord H' r g w (mor gs n.toNat x) ws→Q (.ref r) H'):=by
  rcases hq with ⟨e,_⟩ | ⟨_,_,z⟩ | ⟨_,_,z⟩
  ·exfalso;omega
  ·exact .inl z
  ·exact .inr z
 obtain ⟨n,rfl⟩:∃m:Nat,n=m:=⟨n.toNat,by omega⟩
 rw [Int.toNat_natCast] at hq
 refine ⟨_,rfl,c,dx,_,rfl,ec,rfl,c,ga,wa,gs,ws,rfl,co,fun g1 H1 s1 n1 r1=>?_⟩
 have hn:n<gs.length:=by omega
 refine ⟨_,rfl,_,rfl,g1,n,v,d,gs,rfl,r1,dv.keep s1,hn,by omega,fun q h=>(fine.bq.1 q h).mono (by decide),?_⟩
 rcases hq with ⟨hbad,qe⟩ | ⟨p,x,rfl,kx,hx,bx,ed,q⟩
 ·exact .inl ⟨hbad,fun dd H' s' e'=>qe dd H' (s1.trans s') e'⟩
 ·refine .inr ⟨p,x,rfl,kx.keep s1,hx,bx.mono (by decide),ed,fun g2 H2 s2 n2 r2=>?_⟩
  have s12:=s1.trans s2
  refine ⟨_,rfl,c,dx,_,rfl,s12 _ _ ec,rfl,c,ga,wa,gs,ws,rfl,co.keep s12,fun w1 H3 s3 n3 r3=>?_⟩
  have s13:=s12.trans s3
  intro x' dx2 nx ndx _
  exact PP nx ndx (r2.keep s3) r3 (fine.long hn hx) fun g w H' s' ng nw co'=>q x' g w H' (s13.trans s') co'
def F30(q:Rat):Prop:=q.num.natAbs<10^30∧q.den<10^30
theorem F30.log{q:Rat}(h:F30 q):q.num.natAbs.log2<1920∧(q.den:Int).natAbs.log2<1920:=by
 have k:∀n:Nat,n<10^30→n.log2<1920:=fun n hn=>by
  by_cases z:n=0
  ·rw [z];decide
  ·refine (Nat.log2_lt z).mpr (Nat.lt_of_lt_of_le hn ?_)
   exact Nat.le_trans (show 10^30≤2^100 by decide +kernel) (Nat.pow_le_pow_right (by decide) (by decide))
 exact ⟨k _ h.1,k _ h.2⟩
theorem Lf{i:Int}(h:i.natAbs<10^30):(itx i).length≤31:=by
 have:=HW (k:=30) (by decide) h
 unfold itx
 split
 ·rw [List.length_cons];omega
 ·omega
theorem Fz{q:Rat}(h:F30 q):(ftx q).length≤62:=by
 have h1:=Lf h.1
 have h2:=HW (k:=30) (by decide) h.2
 unfold ftx
 split
 ·omega
 ·rw [List.length_append,List.length_cons];omega
def GF:Sp:=fun vs H Q _=>∃p q,vs=[.ref p]∧Pq H p q∧F30 q∧Q (.str (sx (ftx q))) H
def Yt(l:List Nat):Bool:=if l.length<1 then false else if 30<l.length then false else (l.map fun c=>decide (c∈([48,49,50,51,52,53,54,55,56,57]:List Nat))).all id
def Mu:Sp:=fun vs H Q _=>∃l,vs=[.str (sx l)]∧(∀c∈l,c<128)∧l.length≤100000∧∀H',Aj H H'→Q (.bl (Yt l)) H'
def YH(l:List Nat):List Nat:=if l[0]?=some 45 then l.drop 1 else l
def QV:Sp:=fun vs H Q _=>∃l,vs=[.str (sx l)]∧l.length≤100000∧Q (.str (sx (YH l))) H
theorem YX(n:Int):YH (itx n)=dgs n.natAbs:=by
 unfold YH itx
 by_cases h:n<0
 ·rw [if_pos h,if_pos (by rfl)]
  rfl
 ·rw [if_neg h,if_neg]
  intro z
  have:=Hy _ 45 (List.mem_of_getElem? z)
  exact absurd this.1 (by decide)
theorem Vk{m:Nat}(h:m<10^30):Yt (dgs m)=true:=by
 have h1:=HW (k:=30) (by decide) h
 have h2:=List.length_pos_iff.mpr (Tr m)
 unfold Yt
 rw [if_neg (by omega),if_neg (by omega),List.all_eq_true]
 intro b hb
 obtain ⟨c,hc,rfl⟩:=List.mem_map.mp hb
 obtain ⟨k1,k2⟩:=Hy m c hc
 refine decide_eq_true ?_
 have:c=48∨c=49∨c=50∨c=51∨c=52∨c=53∨c=54∨c=55∨c=56∨c=57:=by omega
 simpa using this
theorem Y5(n:Int):(if decide (n<0)=true then -(dgv (dgs n.natAbs):Int) else (dgv (dgs n.natAbs):Int))=n:=by
 rw [Ux]
 by_cases h:n<0
 ·rw [if_pos (decide_eq_true h)];omega
 ·rw [if_neg (fun z=>h (of_decide_eq_true z))];omega
theorem Zk(n:Int):(sx (itx n)).cps.toList=(if decide (n<0)=true then 45::dgs n.natAbs else dgs n.natAbs):=by
 rw [Ij]
 unfold itx
 by_cases h:n<0
 ·rw [if_pos h,if_pos (decide_eq_true h)]
 ·rw [if_neg h,if_neg (fun z=>h (of_decide_eq_true z))]
theorem VD{m c:Nat}(h:c∈dgs m):c<128:=by
 have:=(Hy m c h).2
 omega
theorem We(q:Rat):(q.den=1∧Eb (sx (ftx q)) (sx [47])=[sx (itx q.num),Str.empty,Str.empty])∨(q.den≠1∧Eb (sx (ftx q)) (sx [47])=[sx (itx q.num),sx [47],sx (dgs q.den)]):=by
 have hf:47∉itx q.num:=Jf (by decide) (fun z=>absurd z.1 (by decide)) _
 unfold ftx
 by_cases h:q.den=1
 ·rw [if_pos h]
  exact .inl ⟨h,WF hf⟩
 ·rw [if_neg h]
  exact .inr ⟨h,Ow hf⟩
theorem AEX{b:Bool}{ta tb:TE}{σ:L2.St}{H:Hp}{R:VK}(M:V)(h1:b=true→R M H→ta σ H R)(h2:¬b=true→R M H→tb σ H R)(h:R M H):if b=true then ta σ H R else tb σ H R:=by
 by_cases z:b=true
 ·rw [if_pos z];exact h1 z h
 ·rw [if_neg z];exact h2 z h
theorem Xi{c:Nat}:∀{ws:List (List Nat)},(∀w∈ws,w.length≤64)→(jn c ws).length≤65*ws.length
 | [],_=>Nat.zero_le _
 | [w],h=>by
  have:=h w (by simp)
  show w.length≤65*1
  omega
 | w::v::r,h=>by
  have h1:=h w (by simp)
  have h2:=Xi (c:=c) (ws:=v::r) fun x hx=>h x (by simp [List.mem_cons.mp hx])
  show (w++c::jn c (v::r)).length≤65*((v::r).length+1)
  rw [List.length_append,List.length_cons]
  omega
theorem W0(q:Rat):32∉ftx q:=Jj (by decide) (fun z=>absurd z.1 (by decide)) (by decide) q
theorem FW:Aw ["one","top","bottom"] ["one"] (Ac CJ):=⟨rfl,rfl,rfl,by decide +kernel,rfl,by decide +kernel,by decide +kernel⟩
theorem KQ(F:Fun K "show_fraction" "show_fraction" CJ f fd)(T:Txt mg):BZ P w K mg base CX0 1 f fd ["one"] GF:=by
 refine F.ok FW (fun vs H Q E h=>?_) (fun cdv A outer s H vs Q E hr h=>?_)
 ·obtain ⟨p,q,rfl,_⟩:=h
  rfl
 obtain ⟨p,q,rfl,kp,hq,k⟩:=h
 obtain ⟨l1,l2⟩:=hq.log
 have h1:=Lf hq.1
 have h2:=HW (k:=30) (by decide) hq.2
 have hz:(1000:Nat)<sizeLine:=by decide
 have eb:itx (q.den:Int)=dgs q.den:=by
  unfold itx
  rw [if_neg (by omega)]
  rfl
 refine ⟨_,(Ab (Ay (i:=1) FW.nd rfl (Or.inl rfl) (Az BP (pv 0) Af (fun _ _=>rfl)))
   (Ab (Ay (i:=2) FW.nd rfl (Or.inl rfl) (Az BP (pv 0) Af (fun _ _=>rfl)))
   (Ab (BL (Ao Bo (pv 2) Af (Ar _))
    (Ah (Al (ABO (Ui (pv 1)))))
    Am)
   (Ah (Al (ABV (Ui (pv 1)) Aq (Ui (pv 2)))))))),?_⟩
 refine ⟨_,rfl,_,_,_,_,rfl,rfl,kp.sq,rfl,_,rfl,_,_,_,_,rfl,rfl,kp.sq,rfl,_,rfl,rfl,_,rfl,Jt (fun c=>?_) (fun c=>?_)⟩
 ·have c':(q.den:Int)=1:=V.int.inj (of_decide_eq_true c)
  unfold ftx at k
  rw [if_pos (by omega)] at k
  refine ⟨_,rfl,_,rfl,l1,?_⟩
  rw [tos]
  exact k
 ·have c':¬(q.den:Int)=1:=fun z=>of_decide_eq_false (Bool.eq_false_iff.mpr c) (congrArg V.int z)
  unfold ftx at k
  rw [if_neg (by omega)] at k
  refine ⟨_,rfl,_,rfl,l1,_,rfl,?_,_,rfl,?_,_,rfl,_,rfl,l2,_,rfl,?_,?_⟩
  ·rw [tos,BX];omega
  ·rw [tos,BX]
   show _+1≤_
   omega
  ·rw [tos,tos,BX,BX,eb]
   show _+1+_≤_
   omega
  ·rw [tos,tos,eb,show (Str.ofString "/")=sx [47] from rfl,Fx,Fx,List.append_assoc]
   exact k
def Vb(qs:List Rat):List (List Nat):=qs.map ftx
theorem Vc{ts:List (List Nat)}(h:∀t∈ts,t.length≤64)(hn:ts.length≤1000):JoinOk (sx [32]) (ts.map sx)=true:=by
 have hf:=StrLaws.joinFits (sep:=sx [32]) (texts:=ts.map sx) (B:=64) (fun y hy=>by
  obtain ⟨t,ht,rfl⟩:=List.mem_map.mp hy
  rw [BX]
  exact h t ht) (by
  rw [List.length_map]
  show ts.length*64+ts.length*1≤_
  omega)
 unfold JoinOk
 rw [hf]
 rfl
def AEy:Sp:=fun vs H Q _=>∃a qs,vs=[.ref a]∧Rw H a qs∧qs.length≤100∧(∀q∈qs,F30 q)∧∀H',Aj H H'→Q (.str (sx (jn 32 (Vb qs)))) H'
theorem M7:Aw ["text"] ["text"] (Ac Cg):=⟨rfl,rfl,rfl,by decide +kernel,rfl,by decide +kernel,by decide +kernel⟩
theorem Ng(F:Fun K "are_figures" "are_figures" Cg f fd)(T:Txt mg):BZ P w K mg base CX0 1 f fd ["text"] Mu:=by
 refine F.ok M7 (fun vs H Q E h=>?_) (fun cdv A outer s H vs Q E hr h=>?_)
 ·obtain ⟨l,rfl,_⟩:=h
  rfl
 obtain ⟨l,rfl,ha,hl,q⟩:=h
 have hz:(100000:Nat)<sizeLine:=by decide
 refine ⟨_,(Ab (BL (PW.pt (GQ (Ao Hk (BJ Gb rfl T.z_len PySem.boot_len (Aa (pv 0) Ae)) Af (Ar _)) (Dw (Ao JX (BJ Gb rfl T.z_len PySem.boot_len (Aa (pv 0) Ae)) (MN rfl T.c_MOST_FIGURES) (Ar _)))))
    (Ah (Al Jo))
    Am)
   (Ah (Al (BJ (Lz rfl) rfl T.z_all boot_all (Aa (IW (N':=["sign"]) (fsc:=Ac Cg) (N:=["text"]) [] ⟨rfl,by decide +kernel,by decide +kernel,by decide +kernel,rfl,by decide +kernel,rfl,by decide +kernel⟩ (Xj (pv 0)) (fun _ _ _ _=>(Eo Oo (pv 0) (R8 rfl T.c_FIGURES) (by with_unfolding_all rfl)))) Ae))))),?_⟩
 unfold Yt at q
 refine ⟨_,rfl,sx l,rfl,by rw [BX];omega,_,_,rfl,rfl,_,rfl,Jt (fun c=>?_) (fun c=>?_)⟩
 ·have c':((sx l).length:Int)<1:=of_decide_eq_true c
  rw [BX] at c'
  rw [if_pos (by omega)] at q
  exact q H (Aj.refl H)
 have c0:¬((sx l).length:Int)<1:=of_decide_eq_false (Bool.eq_false_iff.mpr c)
 rw [BX] at c0
 rw [if_neg (by omega)] at q
 refine ⟨_,rfl,sx l,rfl,by rw [BX];omega,_,_,rfl,rfl,_,rfl,Jt (fun c=>?_) (fun c=>?_)⟩
 ·have c':(30:Int)<((sx l).length:Int):=of_decide_eq_true c
  rw [BX] at c'
  rw [if_pos (by omega)] at q
  exact q H (Aj.refl H)
 have c1:¬(30:Int)<((sx l).length:Int):=of_decide_eq_false (Bool.eq_false_iff.mpr c)
 rw [BX] at c1
 rw [if_neg (by omega)] at q
 refine ⟨_,rfl,sx l,rfl,?_,Nj (by omega) (fun c=>decide (c∈([48,49,50,51,52,53,54,55,56,57]:List Nat))) ?_ fun H1 D s1 nD eD=>?_⟩
 ·rw [Array.all_eq_true]
  intro i hi
  exact decide_eq_true (ha _ (by simp [sx]))
 ·intro _ _ _ _ c H1 R hc s1 fin
  refine ⟨_,rfl,_,_,rfl,rfl,?_⟩
  rw [show Str.ofString "0123456789"=sx [48,49,50,51,52,53,54,55,56,57] from rfl,YW]
  exact fin
 ·exact ⟨D,_,rfl,SqL.of eD,q H1 s1⟩
theorem J0:Aw ["text"] ["text"] (Ac CP):=⟨rfl,rfl,rfl,by decide +kernel,rfl,by decide +kernel,by decide +kernel⟩
theorem J7(F:Fun K "without_minus" "without_minus" CP f fd)(T:Txt mg):BZ P w K mg base CX0 1 f fd ["text"] QV:=by
 refine F.ok J0 (fun vs H Q E h=>?_) (fun cdv A outer s H vs Q E hr h=>?_)
 ·obtain ⟨l,rfl,_⟩:=h
  rfl
 obtain ⟨l,rfl,hl,q⟩:=h
 have hz:(100000:Nat)<sizeLine:=by decide
 refine ⟨_,(Ab (BL (Cz (FP PySem.F.plainAttrs_str PySem.F.slot_str_startswith PySem.F.type_str_startswith Oj (pv 0) (Aa Aq Ae)))
    (Ah (Al (CV UJ (pv 0) (CQ Af) Do)))
    Am)
   (Ah (Al (pv 0)))),?_⟩
 unfold YH at q
 refine ⟨_,rfl,rfl,_,_,rfl,rfl,_,rfl,Jt (fun c=>?_) (fun c=>?_)⟩
 ·rw [show Str.ofString "-"=sx [45] from rfl,JC] at c
  have c':=of_decide_eq_true c
  rw [if_pos c'] at q
  refine ⟨_,rfl,_,rfl,_,rfl,by rw [BX];omega,?_⟩
  rw [Ug (fun z=>by rw [z] at c';simp at c')]
  exact q
 ·rw [show Str.ofString "-"=sx [45] from rfl,JC] at c
  have c':¬l[0]?=some 45:=fun z=>c (decide_eq_true z)
  rw [if_neg c'] at q
  exact ⟨_,rfl,q⟩
def cw:List Rat→List Rat→List (List Nat)
 | w::ws,g::gs=>(40::(ftx w++[41]))::ftx g::cw ws gs
 | _,_=>[]
def Bf(gs ws:List Rat):List (List Nat):=ftx (gs.getD 0 0)::cw ws (gs.drop 1)
theorem Qh:∀{ws gs:List Rat} (w g:Rat),ws.length=gs.length→cw (ws++[w]) (gs++[g])=cw ws gs++[40::(ftx w++[41])]++[ftx g]
 | [],[],_,_,_=>rfl
 | a::ws,b::gs,w,g,h=>by
  show (40::(ftx a++[41]))::ftx b::cw (ws++[w]) (gs++[g])=_
  rw [Qh w g (by simpa using h)]
  rfl
 | [],_::_,_,_,h=>by simp at h
 | _::_,[],_,_,h=>by simp at h
theorem Qx:∀{ws gs:List Rat},ws.length=gs.length→(cw ws gs).length=2*ws.length
 | [],[],_=>rfl
 | a::ws,b::gs,h=>by
  show (cw ws gs).length+1+1=2*(ws.length+1)
  rw [Qx (by simpa using h)]
  omega
 | [],_::_,h=>by simp at h
 | _::_,[],h=>by simp at h
theorem Xv:∀{ws gs:List Rat} {P:List Nat→Prop},(∀w∈ws,P (40::(ftx w++[41])))→(∀g∈gs,P (ftx g))→∀t∈cw ws gs,P t
 | [],_,_,_,_,t,h=>by cases h
 | _::_,[],_,_,_,t,h=>by cases h
 | w::ws,g::gs,P,h1,h2,t,h=>by
  rcases List.mem_cons.mp h with z | z
  ·rw [z];exact h1 w (by simp)
  ·rcases List.mem_cons.mp z with z | z
   ·rw [z];exact h2 g (by simp)
   ·exact Xv (fun q hq=>h1 q (by simp [hq])) (fun q hq=>h2 q (by simp [hq])) t z
structure C30(gs ws:List Rat):Prop where
 fine:NP gs ws
 g30:∀q∈gs,F30 q
 w30:∀q∈ws,F30 q
theorem C30.mem{gs ws:List Rat}(h:C30 gs ws){P:List Nat→Prop}(h1:∀w∈ws,P (40::(ftx w++[41])))(h2:∀g∈gs,P (ftx g)):∀t∈Bf gs ws,P t:=fun t ht=>by
 have hl:=h.fine.len
 rcases List.mem_cons.mp ht with z | z
 ·rw [z,Po.getD_in (show 0<gs.length by omega)]
  exact h2 _ (List.getElem_mem _)
 ·exact Xv h1 (fun g hg=>h2 g (List.mem_of_mem_drop hg)) t z
theorem C30.len{gs ws:List Rat}(h:C30 gs ws):∀t∈Bf gs ws,t.length≤64:=h.mem (fun w hw=>by
  have:=Fz (h.w30 w hw)
  rw [List.length_cons,List.length_append]
  show _+1+1≤_
  omega) fun g hg=>by have:=Fz (h.g30 g hg);omega
theorem C30.cnt{gs ws:List Rat}(h:C30 gs ws):(Bf gs ws).length=2*ws.length+1:=by
 have hl:=h.fine.len
 show (cw ws (gs.drop 1)).length+1=_
 rw [Qx (by rw [List.length_drop];omega)]
theorem Ry:∀{ws gs:List Rat} (x:List Nat),ws.length=gs.length→L3.ev2 (x::cw ws gs)=x::gs.map ftx
 | [],[],_,_=>rfl
 | w::ws,g::gs,x,h=>by
  show x::L3.ev2 (ftx g::cw ws gs)=_
  rw [Ry (ftx g) (by simpa using h)]
  rfl
 | [],_::_,_,h=>by simp at h
 | _::_,[],_,h=>by simp at h
def brx(q:Rat):List Nat:=40::(ftx q++[41])
theorem Vn:∀{ws gs:List Rat},ws.length=gs.length→L3.ev2 (cw ws gs)=ws.map brx
 | [],[],_=>rfl
 | w::ws,g::gs,h=>by
  show (40::(ftx w++[41]))::L3.ev2 (cw ws gs)=_
  rw [Vn (by simpa using h)]
  rfl
 | [],_::_,h=>by simp at h
 | _::_,[],h=>by simp at h
def Li(C:Addr):Sp:=fun vs H Q _=>∃c ga wa gs ws,vs=[.ref c]∧Co C H c ga wa gs ws∧C30 gs ws∧∀H',Aj H H'→Q (.str (sx (jn 32 (Bf gs ws)))) H'
theorem Eu:Aw ["cord","gaps","words","weight","gap"] ["cord"] (Ac Ej):=⟨rfl,rfl,rfl,by decide +kernel,rfl,by decide +kernel,by decide +kernel⟩
set_option maxHeartbeats 2000000 in
theorem QD(F:Fun K "show_cord" "show_cord" Ej f fd)(T:Txt mg)(C_show_fraction:Cal P w K mg base "show_fraction" 1 ["one"] GF)(C_Cord_gaps:Im P w K mg base o_Cord "gaps" 1 ["self"] (Ii o_Cord))(C_Cord_weights:Im P w K mg base o_Cord "weights" 1 ["self"] (Fj o_Cord)):BZ P w K mg base CX0 2 f fd ["cord"] (Li o_Cord):=by
 refine F.ok Eu (fun vs H Q E h=>?_) (fun cdv A outer s H vs Q E hr h=>?_)
 ·obtain ⟨c,ga,wa,gs,ws,rfl,_⟩:=h
  rfl
 obtain ⟨c,ga,wa,gs,ws,rfl,co,c30,k⟩:=h
 have aB:=c30.fine.len
 have aC:=c30.fine.most
 have hz:(1000:Nat)<sizeLine:=by decide
 obtain ⟨dx,ec⟩:=co.1
 have h0:0<gs.length:=by omega
 refine ⟨_,(Ab (Ay (i:=1) Eu.nd rfl (Or.inl rfl) (G7 C_Cord_gaps hr (pv 0)))
   (Ab (Ay (i:=2) Eu.nd rfl (Or.inl rfl) (Er (Aa (BR C_show_fraction hr (Aa (Az Ba (pv 1) Af (fun _ _=>rfl)) Ae)) Ae)))
   (Ab (MJ PassesOwn.never rfl (ABb rfl T.z_zip (Aa (G7 C_Cord_weights hr (pv 0)) (Aa (CV Es (pv 1) (CQ Af) Do) Ae))) (MP rfl (CT (CZ (i:=3) Eu.nd rfl (Or.inl rfl)) (CT (CZ (i:=4) Eu.nd rfl (Or.inl rfl)) Ie)))
    (Ab (Ep (FP PySem.F.plainAttrs_list PySem.F.slot_list_append PySem.F.type_list_append Fp (pv 2) (Aa (Ax Dh (Ax Dh Aq (BR C_show_fraction hr (Aa (pv 3) Ae))) Aq) Ae)))
    (Ah (Ep (FP PySem.F.plainAttrs_list PySem.F.slot_list_append PySem.F.type_list_append Fp (pv 2) (Aa (BR C_show_fraction hr (Aa (pv 4) Ae)) Ae))))))
   (Ah (Al (FP PySem.F.plainAttrs_str PySem.F.slot_str_join PySem.F.type_str_join Lb Aq (Aa (pv 2) Ae))))))),?_⟩
 refine ⟨_,rfl,c,dx,_,rfl,ec,rfl,c,ga,wa,gs,ws,rfl,co,fun g1 H1 s1 n1 rg1=>?_⟩
 obtain ⟨pg,eg,kg⟩:=id rg1
 have lpg:=kg.length
 obtain ⟨p0,e0,k0⟩:=kg.get (List.getElem?_eq_getElem h0)
 refine ⟨_,rfl,g1,_,_,_,rfl,rfl,SqL.of eg,Dr (j:=0) e0,p0,_,rfl,k0,c30.g30 _ (List.getElem_mem h0),(by show 1≤sizeLine;decide),fun D hD=>?_⟩
 have u2:=Ag hD (.lst [.str (sx (ftx gs[0]))])
 have s2:=s1.trans u2
 have eD2:upd H1 D (.lst [.str (sx (ftx gs[0]))]) D=some (.lst (([ftx gs[0]].map sx).map V.str)):=Ad
 have eg2:=u2 _ _ eg
 have kg2:=kg.keep u2
 generalize upd H1 D (.lst [.str (sx (ftx gs[0]))])=H2 at *
 refine ⟨_,rfl,c,dx,_,rfl,s2 _ _ ec,rfl,c,ga,wa,gs,ws,rfl,co.keep s2,fun w1 H3 s3 n3 rw3=>?_⟩
 have s03:=s2.trans s3
 have eg3:=s3 _ _ eg2
 have kg3:=kg2.keep s3
 have eD3:=s3 _ _ eD2
 obtain ⟨pw,ew3,kw3⟩:=id rw3
 have lpw:=kw3.length
 refine ⟨_,rfl,_,rfl,g1,_,rfl,SqL.of eg3,fun l hl=>?_⟩
 have u4:=Ag hl (.lst (Cj (pg.map V.ref) (some 1) none))
 have el4:upd H3 l (.lst (Cj (pg.map V.ref) (some 1) none)) l=some (.lst ((pg.drop 1).map V.ref)):=by
  rw [Ad]
  exact congrArg (fun z=>some (HO.lst z)) (NK V.ref pg 1)
 have kl4:=(kg3.drop 1).keep u4
 have ew4:=u4 _ _ ew3
 have kw4:=kw3.keep u4
 have eD4:=u4 _ _ eD3
 have s04:=s03.trans u4
 have hDH:H D=none:=s1.free hD
 have nw:w1≠D:=Ne.symm (Av eD2 n3)
 have nl:l≠D:=Ne.symm (Av eD3 hl)
 clear eg3 kg3 ew3 kw3 eD3 u4 hl s03 s3 eg2 kg2 eD2 u2 eg kg
 generalize upd H3 l (.lst (Cj (pg.map V.ref) (some 1) none))=H4 at *
 have lpd:(pg.drop 1).length=ws.length:=by rw [List.length_drop];omega
 have lgd:(gs.drop 1).length=ws.length:=by rw [List.length_drop];omega
 refine ⟨w1,l,rfl,⟨_,SqL.of ew4⟩,⟨_,SqL.of el4⟩,?_⟩
 refine ZD (xs:=pw.map V.ref) (ys:=(pg.drop 1).map V.ref) ws.length (by rw [List.length_map,List.length_map];omega) (fun i σ H'=>(∃v u,σ=[some (.ref c),some (.ref g1),some (.ref D),v,u])∧Aj H H'∧(∀b o,b≠D→H4 b=some o→H' b=some o)∧H' D=some (.lst (((ftx gs[0]::cw (ws.take i) ((gs.drop 1).take i)).map sx).map V.str))) ⟨⟨_,_,rfl⟩,s04,fun _ _ _ e=>e,eD4⟩ ?_ ?_ ?_
 ·rintro i σ H5 _ ⟨_,sm,kp,eD⟩
  exact ⟨SqL.of (kp _ _ nw ew4),SqL.of (kp _ _ nl el4)⟩
 ·rintro i x y σ H5 T0 hx hy ⟨⟨v,u,rfl⟩,sm0,kp0,eD0⟩ hT
  have hi:i<ws.length:=by
   have h:=(List.getElem?_eq_some_iff.mp hx).1
   rw [List.length_map] at h
   omega
  have hi2:i<(gs.drop 1).length:=by omega
  have kq:∀{p:Addr} {q:Rat},Pq H4 p q→Pq H5 p q:=fun {p q} h=>kp0 _ _ (fun z=>by
   rw [z] at h
   have h':H4 D=some (.tup [.int q.num,.int q.den]):=h
   rw [eD4] at h'
   cases h') h
  obtain ⟨p1,e1,k1⟩:=kw4.get (List.getElem?_eq_getElem hi)
  obtain rfl:x=.ref p1:=Option.some.inj (hx.symm.trans e1)
  obtain ⟨p2,e2,k2⟩:=kl4.get (List.getElem?_eq_getElem hi2)
  obtain rfl:y=.ref p2:=Option.some.inj (hy.symm.trans e2)
  have f1:=c30.w30 _ (List.getElem_mem hi)
  have f2:F30 (gs.drop 1)[i]:=c30.g30 _ (List.mem_of_mem_drop (List.getElem_mem hi2))
  have l1:=Fz f1
  refine ⟨T0,_,rfl,SqT.of Ad,rfl,_,_,rfl,_,_,rfl,rfl,?_⟩
  have sT:=Ag hT (.tup [.ref p1,.ref p2])
  have k1':=(kq k1).keep sT
  have k2':=(kq k2).keep sT
  have eD1:=sT _ _ eD0
  have sm:=sm0.trans sT
  have kp1:∀b o,b≠D→H4 b=some o→upd H5 T0 (.tup [.ref p1,.ref p2]) b=some o:=fun b o n e=>sT _ _ (kp0 b o n e)
  generalize upd H5 T0 (.tup [.ref p1,.ref p2])=H6 at *
  have lc:(cw (ws.take i) ((gs.drop 1).take i)).length=2*i:=by
   rw [Qx (by rw [List.length_take,List.length_take];omega),List.length_take]
   omega
  have e40:Str.ofString "("++sx (ftx ws[i])++Str.ofString ")"=sx (40::(ftx ws[i]++[41])):=by
   rw [show Str.ofString "("=sx [40] from rfl,show Str.ofString ")"=sx [41] from rfl,Fx,Fx]
   rfl
  refine ⟨_,rfl,.inl ⟨rfl,_,SqL.of eD1⟩,_,rfl,p1,_,rfl,k1',f1,_,_,rfl,rfl,?_,_,_,rfl,rfl,?_,D,_,_,rfl,rfl,eD1,?_,?_⟩
  ·rw [BX]
   show 1+_≤_
   omega
  ·rw [Sq,BX]
   show 1+_+1≤_
   omega
  ·rw [List.length_map,List.length_map,List.length_cons]
   omega
  rw [e40]
  have k2'':Pq (upd H6 D (.lst (((ftx gs[0]::cw (ws.take i) ((gs.drop 1).take i)).map sx).map V.str++[.str (sx (40::(ftx ws[i]++[41])))]))) p2 (gs.drop 1)[i]:=k2'.updL eD1
  refine ⟨_,rfl,.inl ⟨rfl,_,SqL.of Ad⟩,_,rfl,p2,_,rfl,k2'',f2,D,_,_,rfl,rfl,Ad,?_,⟨_,_,rfl⟩,CK (CK sm hDH _) hDH _,fun b o n e=>?_,?_⟩
  ·rw [List.length_append,List.length_map,List.length_map,List.length_cons]
   show _+1<_
   omega
  ·rw [Ai n,Ai n]
   exact kp1 b o n e
  ·rw [Ad,List.take_succ_eq_append_getElem hi,List.take_succ_eq_append_getElem hi2,Qh _ _ (by rw [List.length_take,List.length_take];omega)]
   simp
 ·rintro σ H5 ⟨⟨v,u,rfl⟩,sm,kp,eD⟩
  rw [List.take_length,show (gs.drop 1).take ws.length=gs.drop 1 by rw [←lgd,List.take_length]] at eD
  have e0':(ftx gs[0]::cw ws (gs.drop 1))=Bf gs ws:=by
   unfold Bf
   rw [Po.getD_in h0]
  rw [e0'] at eD
  have k1:=k H5 sm
  rw [←Lq] at k1
  exact ⟨rfl,_,rfl,_,D,_,rfl,rfl,SqL.of eD,Vc c30.len (by rw [c30.cnt];omega),k1⟩
def Ht:Sp:=fun vs H Q _=>∃x,vs=[.str x]∧Q .non H
theorem Oa:Aw ["thing"] ["thing"] (Ac Dt):=⟨rfl,rfl,rfl,by decide +kernel,rfl,by decide +kernel,by decide +kernel⟩
theorem N8(F:Fun K "check_text" "check_text" Dt f fd)(T:Txt mg):BZ P w K mg base CX0 1 f fd ["thing"] Ht:=by
 refine F.ok Oa (fun vs H Q E h=>?_) (fun cdv A outer s H vs Q E hr h=>?_)
 ·obtain ⟨x,rfl,_⟩:=h
  rfl
 obtain ⟨x,rfl,q⟩:=h
 refine ⟨_,(Ah (BL (Di (Cz (BJ G4 rfl T.z_isinstance boot_isinstance (Aa (pv 0) (Aa (HY (v:=.ty "str") rfl T.z_str boot_str rfl) Ae)))))
    (Ah Be)
    Am)),?_⟩
 exact ⟨_,rfl,_,_,_,_,rfl,Gx.str _,Kl _,_,rfl,DY q⟩
def Tj:Sp:=fun vs H Q _=>∃l,vs=[.str (sx (40::(l++[41])))]∧l.length≤10000∧Q (.str (sx l)) H
theorem JH:Aw ["word"] ["word"] (Ac Br):=⟨rfl,rfl,rfl,by decide +kernel,rfl,by decide +kernel,by decide +kernel⟩
theorem JK(F:Fun K "within_brackets" "within_brackets" Br f fd)(T:Txt mg):BZ P w K mg base CX0 1 f fd ["word"] Tj:=by
 refine F.ok JH (fun vs H Q E h=>?_) (fun cdv A outer s H vs Q E hr h=>?_)
 ·obtain ⟨l,rfl,_⟩:=h
  rfl
 obtain ⟨l,rfl,hl,q⟩:=h
 have hz:(100000:Nat)<sizeLine:=by decide
 have e1:Txt.startswith (sx (40::(l++[41]))) (Str.ofString "(")=true:=by
  rw [show Str.ofString "("=sx [40] from rfl,JC]
  rfl
 have e2:Txt.endswith (sx (40::(l++[41]))) (Str.ofString ")")=true:=by
  rw [show Str.ofString ")"=sx [41] from rfl]
  exact V2 (40::l) 41
 refine ⟨_,(Ab (BL (PW.pt (GQ (Di (Cz (FP PySem.F.plainAttrs_str PySem.F.slot_str_startswith PySem.F.type_str_startswith Oj (pv 0) (Aa Aq Ae)))) (Dw (Di (Cz (FP PySem.F.plainAttrs_str PySem.F.slot_str_endswith PySem.F.type_str_endswith ZW (pv 0) (Aa Aq Ae)))))))
    (Ah Be)
    Am)
   (Ah (Al (CV UJ (pv 0) (CQ Af) (CQ (Mt JB Af)))))),?_⟩
 refine ⟨_,rfl,rfl,_,_,rfl,rfl,?_⟩
 rw [e1]
 refine ⟨_,rfl,DY ⟨_,rfl,rfl,_,_,rfl,rfl,?_⟩⟩
 rw [e2]
 refine ⟨_,rfl,DY ⟨_,rfl,_,rfl,_,rfl,_,rfl,_,rfl,?_,?_⟩⟩
 ·rw [BX,List.length_cons,List.length_append]
  show _+1+1≤_
  omega
 ·rw [V3]
  exact q
def Ho:Sp:=fun vs H Q _=>∃q,vs=[.str (sx (ftx q))]∧F30 q∧∀p H',Aj H H'→Pq H' p q→Q (.ref p) H'
theorem Cu:Aw ["text","parts","top","bottom","one"] ["text"] (Ac CN):=⟨rfl,rfl,rfl,by decide +kernel,rfl,by decide +kernel,by decide +kernel⟩
theorem KN(F:Fun K "read_fraction" "read_fraction" CN f fd)(T:Txt mg)(C_check_text:Cal P w K mg base "check_text" 1 ["thing"] Ht)(C_are_figures:Cal P w K mg base "are_figures" 1 ["text"] Mu)(C_without_minus:Cal P w K mg base "without_minus" 1 ["text"] QV)(C_is_fraction:Cal P w K mg base "is_fraction" 2 ["thing"] Qg)(C_show_fraction:Cal P w K mg base "show_fraction" 1 ["one"] GF):BZ P w K mg base CX0 3 f fd ["text"] Ho:=by
 refine F.ok Cu (fun vs H Q E h=>?_) (fun cdv A outer s H vs Q E hr h=>?_)
 ·obtain ⟨q,rfl,_⟩:=h
  rfl
 obtain ⟨q,rfl,hq,k⟩:=h
 have hz:(1000:Nat)<sizeLine:=by decide
 have l0:=Fz hq
 have l1:=Lf hq.1
 refine ⟨_,(Ab (Ep (BR C_check_text hr (Aa (pv 0) Ae)))
   (Ab (Ay (i:=1) Cu.nd rfl (Or.inl rfl) (FP PySem.F.plainAttrs_str PySem.F.slot_str_partition PySem.F.type_str_partition U3 (pv 0) (Aa Aq Ae)))
   (Ab (Ay (i:=2) Cu.nd rfl (Or.inl rfl) (Az BP (pv 1) Af (fun _ _=>rfl)))
   (Ab (Ay (i:=3) Cu.nd rfl (Or.inl rfl) (SQ (Ao Bo (Az BP (pv 1) Af (fun _ _=>rfl)) Aq (Ar _)) (Az BP (pv 1) Af (fun _ _=>rfl)) Aq))
   (Ab (BL (PW.pt (GQ (Di (Cz (BR C_are_figures hr (Aa (BR C_without_minus hr (Aa (pv 2) Ae)) Ae)))) (Dw (Di (Cz (BR C_are_figures hr (Aa (pv 3) Ae)))))))
    (Ah Be)
    Am)
   (Ab (Ay (i:=4) Cu.nd rfl (Or.inl rfl) (Dc (Aa (Bj Jb rfl T.z_int boot_int (Aa (pv 2) Ae)) (Aa (Bj Jb rfl T.z_int boot_int (Aa (pv 3) Ae)) Ae))))
   (Ab (BL (PW.pt (GQ (Di (Cz (BR C_is_fraction hr (Aa (pv 4) Ae)))) (Dw (Ao Jp (BR C_show_fraction hr (Aa (pv 4) Ae)) (pv 0) (Ar _)))))
    (Ah Be)
    Am)
   (Ah (Al (pv 4)))))))))),?_⟩
 refine ⟨_,rfl,_,rfl,_,rfl,rfl,_,_,rfl,rfl,(by decide),by rw [BX];omega,fun p hp=>?_⟩
 have s1:=Ag hp (.tup ((Eb (sx (ftx q)) (Str.ofString "/")).map V.str))
 have e1:upd H p (.tup ((Eb (sx (ftx q)) (Str.ofString "/")).map V.str)) p=some (.tup ((Eb (sx (ftx q)) (sx [47])).map V.str)):=Ad
 generalize upd H p (.tup ((Eb (sx (ftx q)) (Str.ofString "/")).map V.str))=H1 at *
 have e0:∃x y,H1 p=some (.tup [.str (sx (itx q.num)),.str x,.str y])∧((q.den=1∧x=Str.empty)∨(x=sx [47]∧y=sx (dgs q.den))):=by
  rcases We q with ⟨d,e⟩ | ⟨d,e⟩
  ·rw [e] at e1
   exact ⟨_,_,e1,.inl ⟨d,rfl⟩⟩
  ·rw [e] at e1
   exact ⟨_,_,e1,.inr ⟨rfl,rfl⟩⟩
 obtain ⟨x,y,e2,hxy⟩:=e0
 refine ⟨_,rfl,p,_,_,_,rfl,rfl,SqT.of e2,rfl,?_⟩
 refine ⟨_,rfl,p,_,_,_,rfl,rfl,SqT.of e2,rfl,rfl,_,rfl,?_⟩
 have Bh:(sx (dgs q.den))=(if x=sx [47] then y else Str.ofString "1"):=by
  rcases hxy with ⟨d,h⟩ | ⟨h,h'⟩
  ·rw [if_neg (by rw [h];intro z;exact absurd (congrArg (fun a:Str=>a.cps.size) z) (by decide)),d]
   rfl
  ·rw [if_pos h,h']
 refine AEX (V.str (sx (dgs q.den))) (fun c fin=>?_) (fun c fin=>?_) ?_
 ·have c':x=sx [47]:=V.str.inj (of_decide_eq_true c)
  rw [if_pos c'] at Bh
  rw [←Bh] at e2
  refine ⟨_,rfl,p,_,_,_,rfl,rfl,SqT.of e2,rfl,?_⟩
  exact fin
 ·have c':¬x=sx [47]:=fun z=>of_decide_eq_false (Bool.eq_false_iff.mpr c) (congrArg V.str z)
  rw [if_neg c'] at Bh
  rw [←Bh]
  exact fin
 have hw:=YX q.num
 have g1:=HW (k:=30) (by decide) hq.1
 have g2:=HW (k:=30) (by decide) hq.2
 refine ⟨_,rfl,itx q.num,rfl,by omega,YH (itx q.num),rfl,by rw [hw];exact fun c=>VD,by rw [hw];omega,fun H2 s2=>?_⟩
 rw [hw,Vk hq.1]
 refine ⟨_,rfl,DY ⟨_,rfl,dgs q.den,rfl,fun c=>VD,by omega,fun H3 s3=>?_⟩⟩
 rw [Vk hq.2]
 refine ⟨_,rfl,DY ⟨_,rfl,sx (itx q.num),decide (q.num<0),dgs q.num.natAbs,rfl,Tr _,Hy _,by omega,Zk _,_,rfl,sx (dgs q.den),false,dgs q.den,rfl,Tr _,Hy _,by omega,rfl,(by show 2≤sizeLine;decide),fun o ho=>?_⟩⟩
 rw [Y5,if_neg (by decide),Ux]
 have s4:=Ag ho (.tup [.int q.num,.int (q.den:Int)])
 have kq:Pq (upd H3 o (.tup [.int q.num,.int (q.den:Int)])) o q:=Ad
 exact ⟨_,rfl,o,q,rfl,kq,_,rfl,DY ⟨_,rfl,o,q,rfl,kq,hq,_,rfl,rfl,_,rfl,Hj rfl ⟨_,rfl,k o _ (s1.trans (s2.trans (s3.trans s4))) kq⟩⟩⟩
def ADa:Sp:=fun vs H Q _=>∃qs,vs=[.str (sx (jn 32 (Vb qs)))]∧qs.length≤100∧(∀q∈qs,F30 q)∧∀r H',Aj H H'→H r=none→Rw H' r qs→Q (.ref r) H'
def ADv(C:Addr):Sp:=fun vs H Q _=>∃gs ws,vs=[.str (sx (jn 32 (Bf gs ws)))]∧C30 gs ws∧∀c ga wa H',Aj H H'→Co C H' c ga wa gs ws→Q (.ref c) H'
def Nm(l:List Nat):Prop:=(1≤l.length∧l.length≤8)∧∀c∈l,c∈(List.range 26).map (97+·)
inductive Tg where
 | txt (l:List Nat)
 | cord (gs ws:List Rat)
 | frac (q:Rat)
 | whl (k:Int)
def TgD(C:Addr)(D:Addr)(H:Hp)(v:V):Tg→Prop
 | .txt l=>v=.str (sx l)
 | .cord gs ws=>∃c ga wa,v=.ref c∧Co C H c ga wa gs ws∧ga≠D∧wa≠D
 | .frac q=>∃p,v=.ref p∧Pq H p q
 | .whl k=>v=.int k
theorem TgD.keep{C D:Addr}{H H':Hp}{v:V}{x:Tg}(h:TgD C D H v x)(s:Aj H H'):TgD C D H' v x:=by
 cases x with
 | txt l=>exact h
 | cord gs ws =>
  obtain ⟨c,ga,wa,e,co,n1,n2⟩:=h
  exact ⟨c,ga,wa,e,co.keep s,n1,n2⟩
 | frac q =>
  obtain ⟨p,e,k⟩:=h
  exact ⟨p,e,k.keep s⟩
 | whl k=>exact h
theorem TgD.put{C D:Addr}{H:Hp}{v:V}{x:Tg}{xs zs:List V}(h:TgD C D H v x)(e:H D=some (.lst xs)):TgD C D (upd H D (.lst zs)) v x:=by
 cases x with
 | txt l=>exact h
 | cord gs ws =>
  obtain ⟨c,ga,wa,ev,⟨⟨dx,ec⟩,r1,r2⟩,n1,n2⟩:=h
  refine ⟨c,ga,wa,ev,⟨⟨dx,?_⟩,r1.updO e n1,r2.updO e n2⟩,n1,n2⟩
  rw [Ai (fun z=>by rw [z,e] at ec;cases ec)]
  exact ec
 | frac q =>
  obtain ⟨p,ev,k⟩:=h
  refine ⟨p,ev,?_⟩
  show upd H D (.lst zs) p=_
  rw [Ai (fun z=>by
   have k':H p=_:=k
   rw [z,e] at k'
   cases k')]
  exact k
 | whl k=>exact h
def RdT(k:Str)(l:List Nat):Tg→Prop
 | .txt m=>(k="new"∨k="name")∧l=m∧Nm m
 | .cord gs ws=>k="cord"∧l=jn 32 (Bf gs ws)∧C30 gs ws
 | .frac q=>k="fraction"∧l=ftx q∧F30 q
 | .whl i=>k="whole"∧l=ftx (i:Rat)∧F30 (i:Rat)
def Mq:Sp:=fun vs H Q _=>∃l,vs=[.str (sx l)]∧Nm l∧∀H',Aj H H'→Q (.str (sx l)) H'
def Jy:Sp:=fun vs H Q _=>∃i:Int,vs=[.str (sx (ftx (i:Rat)))]∧F30 (i:Rat)∧∀H',Aj H H'→Q (.int i) H'
def J6(C:Addr):Sp:=fun vs H Q _=>∃gs ws,vs=[.str (sx (jn 32 (Bf gs ws)))]∧C30 gs ws∧∀c ga wa H',Aj H H'→H ga=none→H wa=none→Co C H' c ga wa gs ws→Q (.ref c) H'
def KR(C:Addr):Sp:=fun vs H Q _=>∃k l x,vs=[.str k,.str (sx l)]∧RdT k l x∧∀v H',Aj H H'→(∀D,H D≠none→TgD C D H' v x)→Q v H'
theorem sne{a b:Str}{A B:Prop}(h:a≠b)(k:B):if decide (V.str a=V.str b)=true then A else B:=Du (fun z=>h (V.str.inj z)) k
theorem Kw{a b:Str}{A B:Prop}(h:a=b)(k:A):if decide (V.str a=V.str b)=true then A else B:=G6 (by rw [h]) k
theorem Q6:Aw ["text"] ["text"] (Ac Dj):=⟨rfl,rfl,rfl,by decide +kernel,rfl,by decide +kernel,by decide +kernel⟩
theorem Qe(F:Fun K "read_name" "read_name" Dj f fd)(T:Txt mg):BZ P w K mg base CX0 1 f fd ["text"] Mq:=by
 refine F.ok Q6 (fun vs H Q E h=>?_) (fun cdv A outer s H vs Q E hr h=>?_)
 ·obtain ⟨l,rfl,_⟩:=h
  rfl
 obtain ⟨l,rfl,⟨⟨h1,h8⟩,hm⟩,q⟩:=h
 have hz:(100000:Nat)<sizeLine:=by decide
 have lt:∀c∈l,c<128:=fun c hc=>by
  obtain ⟨i,hi,rfl⟩:=List.mem_map.mp (hm c hc)
  have:=List.mem_range.mp hi
  show 97+i<128
  omega
 refine ⟨_,(Ab (BL (PW.pt (GQ (Ao Hk (BJ Gb rfl T.z_len PySem.boot_len (Aa (pv 0) Ae)) Af (Ar _)) (GQ (Ao JX (BJ Gb rfl T.z_len PySem.boot_len (Aa (pv 0) Ae)) (MN rfl T.c_LONGEST_NAME) (Ar _)) (Dw (Di (Cz (BJ (Lz rfl) rfl T.z_all boot_all (Aa (IW (N':=["sign"]) (fsc:=Ac Dj) (N:=["text"]) [] ⟨rfl,by decide +kernel,by decide +kernel,by decide +kernel,rfl,by decide +kernel,rfl,by decide +kernel⟩ (Xj (pv 0)) (fun _ _ _ _=>(Eo Oo (pv 0) (R8 rfl T.c_LETTERS) (by with_unfolding_all rfl)))) Ae))))))))
    (Ah Be)
    Am)
   (Ah (Al (pv 0)))),?_⟩
 refine ⟨_,rfl,sx l,rfl,by rw [BX];omega,_,_,rfl,rfl,_,rfl,Du (by rw [BX];omega) ?_⟩
 refine ⟨_,rfl,sx l,rfl,by rw [BX];omega,_,_,rfl,rfl,_,rfl,Du (by rw [BX];omega) ?_⟩
 refine ⟨_,rfl,sx l,rfl,?_,Nj (by omega) (fun c=>decide (c∈(List.range 26).map (97+·))) ?_ fun H1 D s1 nD eD=>?_⟩
 ·rw [Array.all_eq_true]
  intro i hi
  exact decide_eq_true (lt _ (by simp [sx]))
 ·intro _ _ _ _ c H1 R hc s1 fin
  refine ⟨_,rfl,_,_,rfl,rfl,?_⟩
  rw [show Str.ofString "abcdefghijklmnopqrstuvwxyz"=sx ((List.range 26).map (97+·)) from rfl,YW]
  exact fin
 ·refine ⟨D,_,rfl,SqL.of eD,_,rfl,?_⟩
  have e:(l.map fun c=>decide (c∈(List.range 26).map (97+·))).all id=true:=by
   rw [List.all_map]
   exact List.all_eq_true.mpr fun c hc=>decide_eq_true (hm c hc)
  rw [e]
  exact DY ⟨_,rfl,q H1 s1⟩
theorem Iu:Aw ["text","one"] ["text"] (Ac Dl):=⟨rfl,rfl,rfl,by decide +kernel,rfl,by decide +kernel,by decide +kernel⟩
theorem Ob(F:Fun K "read_whole" "read_whole" Dl f fd)(T:Txt mg)(C_read_fraction:Cal P w K mg base "read_fraction" 3 ["text"] Ho):BZ P w K mg base CX0 4 f fd ["text"] Jy:=by
 refine F.ok Iu (fun vs H Q E h=>?_) (fun cdv A outer s H vs Q E hr h=>?_)
 ·obtain ⟨i,rfl,_⟩:=h
  rfl
 obtain ⟨i,rfl,h30,q⟩:=h
 refine ⟨_,(Ab (Ay (i:=1) Iu.nd rfl (Or.inl rfl) (BR C_read_fraction hr (Aa (pv 0) Ae)))
   (Ab (BL (Ao Jp (Az BP (pv 1) Af (fun _ _=>rfl)) Af (Ar _))
    (Ah Be)
    Am)
   (Ah (Al (Az BP (pv 1) Af (fun _ _=>rfl)))))),?_⟩
 refine ⟨_,rfl,(i:Rat),rfl,h30,fun p H1 s1 k1=>?_⟩
 refine ⟨_,rfl,_,_,_,_,rfl,rfl,k1.sq,rfl,rfl,_,rfl,Hj rfl ?_⟩
 exact ⟨_,rfl,_,_,_,_,rfl,rfl,k1.sq,rfl,q H1 s1⟩
theorem Ny:Aw ["kind","text"] ["kind","text"] (Ac Dq):=⟨rfl,rfl,rfl,by decide +kernel,rfl,by decide +kernel,by decide +kernel⟩
theorem Np(F:Fun K "read_thing" "read_thing" Dq f fd)(T:Txt mg)(C_read_cord:Cal P w K mg base "read_cord" 6 ["text"] (J6 o_Cord))(C_read_fraction:Cal P w K mg base "read_fraction" 3 ["text"] Ho)(C_read_whole:Cal P w K mg base "read_whole" 4 ["text"] Jy)(C_read_name:Cal P w K mg base "read_name" 1 ["text"] Mq):BZ P w K mg base CX0 7 f fd ["kind","text"] (KR o_Cord):=by
 refine F.ok Ny (fun vs H Q E h=>?_) (fun cdv A outer s H vs Q E hr h=>?_)
 ·obtain ⟨k,l,x,rfl,_⟩:=h
  rfl
 obtain ⟨k,l,x,rfl,hx,q⟩:=h
 refine ⟨_,(Ab (BL (Ao Bo (pv 0) Aq (Ar _))
    (Ah (Al (BR C_read_cord hr (Aa (pv 1) Ae))))
    Am)
   (Ab (BL (Ao Bo (pv 0) Aq (Ar _))
    (Ah (Al (BR C_read_fraction hr (Aa (pv 1) Ae))))
    Am)
   (Ab (BL (Ao Bo (pv 0) Aq (Ar _))
    (Ah (Al (BR C_read_whole hr (Aa (pv 1) Ae))))
    Am)
   (Ab (BL (Ao Bo (pv 0) Aq (Ar _))
    (Ah Be)
    Am)
   (Ab (BL (Ao Bo (pv 0) Aq (Ar _))
    (Ah Be)
    Am)
   (Ab (BL (Ao Bo (pv 0) Aq (Ar _))
    (Ah Be)
    Am)
   (Ab (BL (Ao Bo (pv 0) Aq (Ar _))
    (Ah Be)
    Am)
   (Ab (BL (Ao Bo (pv 0) Aq (Ar _))
    (Ah Be)
    Am)
   (Ah (Al (BR C_read_name hr (Aa (pv 1) Ae)))))))))))),?_⟩
 cases x with
 | cord gs ws =>
  obtain ⟨rfl,rfl,hc⟩:=hx
  refine ⟨_,rfl,rfl,_,rfl,Kw rfl ?_⟩
  exact ⟨_,rfl,gs,ws,rfl,hc,fun c ga wa H' s' n1 n2 co=>q _ H' s' fun D hD=>⟨c,ga,wa,rfl,co,fun z=>hD (z ▸ n1),fun z=>hD (z ▸ n2)⟩⟩
 | frac p =>
  obtain ⟨rfl,rfl,hp⟩:=hx
  refine ⟨_,rfl,rfl,_,rfl,sne (by decide) ?_⟩
  refine ⟨_,rfl,rfl,_,rfl,Kw rfl ?_⟩
  exact ⟨_,rfl,p,rfl,hp,fun a H' s' k=>q _ H' s' fun D hD=>⟨a,rfl,k⟩⟩
 | whl i =>
  obtain ⟨rfl,rfl,hp⟩:=hx
  refine ⟨_,rfl,rfl,_,rfl,sne (by decide) ?_⟩
  refine ⟨_,rfl,rfl,_,rfl,sne (by decide) ?_⟩
  refine ⟨_,rfl,rfl,_,rfl,Kw rfl ?_⟩
  exact ⟨_,rfl,i,rfl,hp,fun H' s'=>q _ H' s' fun D hD=>rfl⟩
 | txt m =>
  obtain ⟨hk,rfl,hp⟩:=hx
  have nk:∀{b:Str},(("new":Str)≠b∧("name":Str)≠b)→k≠b:=fun h z=>by
   rcases hk with e | e
   ·exact h.1 (by rw [←e,z])
   ·exact h.2 (by rw [←e,z])
  refine ⟨_,rfl,rfl,_,rfl,sne (nk (by decide)) ?_⟩
  refine ⟨_,rfl,rfl,_,rfl,sne (nk (by decide)) ?_⟩
  refine ⟨_,rfl,rfl,_,rfl,sne (nk (by decide)) ?_⟩
  refine ⟨_,rfl,rfl,_,rfl,sne (nk (by decide)) ?_⟩
  refine ⟨_,rfl,rfl,_,rfl,sne (nk (by decide)) ?_⟩
  refine ⟨_,rfl,rfl,_,rfl,sne (nk (by decide)) ?_⟩
  refine ⟨_,rfl,rfl,_,rfl,sne (nk (by decide)) ?_⟩
  refine ⟨_,rfl,rfl,_,rfl,sne (nk (by decide)) ?_⟩
  exact ⟨_,rfl,l,rfl,hp,fun H' s'=>q _ H' s' fun D hD=>rfl⟩
theorem Nf{K:PySem.W.Frag}{H H':Hp}{a:Addr}{xs:List V}(h:SqT K H a xs)(s:Aj H H'):SqT K H' a xs:=by
 rcases h with (h | ⟨o,h⟩) | h
 ·exact .inl (.inl (s _ _ h))
 ·exact .inl (.inr ⟨o,s _ _ h⟩)
 ·exact .inr h
structure Wx(dl:List Nat)(row:List Str)(init lastw:List (List Nat))(ths:List Tg):Prop where
 form:De Bw (sx dl)=some row
 free:∀w∈dl::(init++lastw),32∉w
 last:lastw≠[]
 len:row.length=init.length+1
 few:row.length≤10
 lth:ths.length=row.length
 size:(jn 32 (dl::(init++lastw))).length≤50000
 rd:∀(i:Nat) k l x,row[i]?=some k→(init++[jn 32 lastw])[i]?=some l→ths[i]?=some x→RdT k l x
def M9(K:PySem.W.Frag):Sp:=fun vs H Q _=>∃d row,vs=[.str d]∧De Bw d=some row∧∀t,SqT K H t (row.map V.str)→Q (.ref t) H
def KD(C:Addr):Sp:=fun vs H Q _=>∃dl row init lastw ths,vs=[.str (sx (jn 32 (dl::(init++lastw))))]∧Wx dl row init lastw ths ∧
 ∀r L vs H',Aj H H'→H' r=some (.tup [.str (sx dl),.ref L])→H L=none→H' L=some (.lst vs)→Paired (TgD C L H') vs ths→Q (.ref r) H'
theorem R4:Aw ["deed"] ["deed"] (Ac Fi):=⟨rfl,rfl,rfl,by decide +kernel,rfl,by decide +kernel,by decide +kernel⟩
theorem R7{d_FORMS:Addr}(F:Fun K "kinds_of" "kinds_of" Fi f fd)(T:Txt mg)(FM:Ju P w K mg d_FORMS):BZ P w K mg base CX0 1 f fd ["deed"] (M9 K):=by
 refine F.ok R4 (fun vs H Q E h=>?_) (fun cdv A outer s H vs Q E hr h=>?_)
 ·obtain ⟨d,row,rfl,_⟩:=h
  rfl
 obtain ⟨d,row,rfl,hr',q⟩:=h
 refine ⟨_,(Ah (Al (R6 (Et (v:=.ref _) rfl FM.m rfl) (pv 0) (fun _ _=>rfl)))),?_⟩
 exact ⟨_,rfl,_,_,_,row,rfl,FM.t,rfl,hr',fun t ht=>q t ht⟩
theorem Gf:Aw ["row","deed","form","texts"] ["row"] (Ac Dg):=⟨rfl,rfl,rfl,by decide +kernel,rfl,by decide +kernel,by decide +kernel⟩
set_option maxHeartbeats 1000000 in
theorem QF{d_FORMS:Addr}(F:Fun K "read_told" "read_told" Dg f fd)(T:Txt mg)(FM:Ju P w K mg d_FORMS)(C_check_text:Cal P w K mg base "check_text" 1 ["thing"] Ht)(C_read_thing:Cal P w K mg base "read_thing" 7 ["kind","text"] (KR o_Cord)):BZ P w K mg base CX0 8 f fd ["row"] (KD o_Cord):=by
 refine F.ok Gf (fun vs H Q E h=>?_) (fun cdv A outer s H vs Q E hr h=>?_)
 ·obtain ⟨dl,row,init,lastw,ths,rfl,_⟩:=h
  rfl
 obtain ⟨dl,row,init,lastw,ths,rfl,td,q⟩:=h
 have hz:(100000:Nat)<sizeLine:=by decide
 have hsz:=td.size
 have hne:init++lastw≠[]:=fun z=>td.last (List.append_eq_nil_iff.mp z).2
 have ejn:jn 32 (dl::(init++lastw))=dl++32::jn 32 (init++lastw):=by
  cases e:init++lastw with
  | nil=>exact absurd e hne
  | cons a r=>rfl
 refine ⟨_,(Ab (Ep (BR C_check_text hr (Aa (pv 0) Ae)))
   (Ab (Ay (i:=1) Gf.nd rfl (Or.inl rfl) (Az BP (FP PySem.F.plainAttrs_str PySem.F.slot_str_partition PySem.F.type_str_partition U3 (pv 0) (Aa Aq Ae)) Af (fun _ _=>rfl)))
   (Ab (BL (Hg (Ud (pv 1) (Et (v:=.ref _) rfl FM.m rfl)))
    (Ah Be)
    Am)
   (Ab (Ay (i:=2) Gf.nd rfl (Or.inl rfl) (R6 (Et (v:=.ref _) rfl FM.m rfl) (pv 1) (fun _ _=>rfl)))
   (Ab (Ay (i:=3) Gf.nd rfl (Or.inl rfl) (CV Es (FP PySem.F.plainAttrs_str PySem.F.slot_str_split PySem.F.type_str_split V0 (pv 0) (Aa Aq (Aa (BJ Bd rfl T.z_len PySem.boot_len (Aa (pv 2) Ae)) Ae))) (CQ Af) Do))
   (Ab (BL (Ao Jp (BJ Bd rfl T.z_len PySem.boot_len (Aa (pv 3) Ae)) (BJ Bd rfl T.z_len PySem.boot_len (Aa (pv 2) Ae)) (Ar _))
    (Ah Be)
    Am)
   (Ah (Al (Dc (Aa (pv 1) (Aa (YZ (N':=["kind","text"]) (fsc:=Ac Dg) (N:=["row","deed","form","texts"]) ["kind","text"] [] ⟨rfl,by decide +kernel,by decide +kernel,rfl,by decide +kernel,by decide +kernel⟩ (VN rfl T.z_zip (Aa (pv 2) (Aa (pv 3) Ae))) (fun _ _ _ _=>(Va (N':=["kind","text"]) (i:=0) (j:=1) rfl (by decide +kernel) rfl rfl rfl rfl)) (fun _ _ _ _=>QZ) (fun _ _ _ _=>(BR C_read_thing hr (Aa (pv 0) (Aa (pv 1) Ae))))) Ae))))))))))),?_⟩
 refine ⟨_,rfl,_,rfl,_,rfl,rfl,_,_,rfl,rfl,(by decide),by rw [BX];omega,fun p hp=>?_⟩
 have s1:=Ag hp (.tup ((Eb (sx (jn 32 (dl::(init++lastw)))) (Str.ofString " ")).map V.str))
 have e1:upd H p (.tup ((Eb (sx (jn 32 (dl::(init++lastw)))) (Str.ofString " ")).map V.str)) p=some (.tup [.str (sx dl),.str (sx [32]),.str (sx (jn 32 (init++lastw)))]):=by
  rw [Ad,ejn,show Str.ofString " "=sx [32] from rfl,Ow (td.free dl (by simp))]
  rfl
 generalize upd H p (.tup ((Eb (sx (jn 32 (dl::(init++lastw)))) (Str.ofString " ")).map V.str))=H1 at *
 refine ⟨p,_,_,_,rfl,rfl,SqT.of e1,rfl,?_⟩
 refine ⟨_,rfl,_,_,_,rfl,FM.t,rfl,_,rfl,?_⟩
 rw [td.form]
 refine DY ?_
 refine ⟨_,rfl,_,_,_,row,rfl,FM.t,rfl,td.form,fun fp hf=>?_⟩
 have hlr:=td.len
 have es:Txt.splitMax (sx (jn 32 (dl::(init++lastw)))) (Str.ofString " ") (((row.map V.str).length:Nat):Int)=((dl::init)++[jn 32 lastw]).map sx:=by
  rw [List.length_map,show Str.ofString " "=sx [32] from rfl,WD td.free (by omega) (by
   rw [List.length_cons,List.length_append]
   have:=List.length_pos_iff.mpr td.last
   omega),hlr]
  congr 2
  ·rw [List.take_succ_cons,List.take_left']
   rfl
  ·rw [List.drop_succ_cons,List.drop_left']
   rfl
 refine ⟨_,rfl,rfl,_,rfl,fp,_,rfl,.inr hf,_,_,(row.map V.str).length,rfl,rfl,(by decide),?_,by rw [BX];omega,?_,fun D hD=>?_⟩
 ·have:=td.few
  rw [List.length_map]
  show row.length<4611686018427387904
  omega
 ·have:=td.few
  rw [es,List.length_map,List.length_append,List.length_cons,List.length_singleton]
  omega
 rw [es]
 have sD:=Ag hD (.lst ((((dl::init)++[jn 32 lastw]).map sx).map V.str))
 refine ⟨1,rfl,D,_,rfl,SqL.of Ad,fun tp htp=>?_⟩
 have ec:Cj ((((dl::init)++[jn 32 lastw]).map sx).map V.str) (some 1) none=((init++[jn 32 lastw]).map sx).map V.str:=NK V.str (((dl::init)++[jn 32 lastw]).map sx) 1
 rw [ec]
 have sT:=Ag htp (.lst (((init++[jn 32 lastw]).map sx).map V.str))
 have et:upd (upd H1 D (.lst ((((dl::init)++[jn 32 lastw]).map sx).map V.str))) tp (.lst (((init++[jn 32 lastw]).map sx).map V.str)) tp=some (.lst (((init++[jn 32 lastw]).map sx).map V.str)):=Ad
 have s2:=sD.trans sT
 generalize upd (upd H1 D (.lst ((((dl::init)++[jn 32 lastw]).map sx).map V.str))) tp (.lst (((init++[jn 32 lastw]).map sx).map V.str))=H2 at *
 have hf2:=Nf hf s2
 have lt:(((init++[jn 32 lastw]).map sx).map V.str).length=row.length:=by
  rw [List.length_map,List.length_map,List.length_append,List.length_singleton,hlr]
 refine ⟨_,rfl,tp,_,rfl,.inl (SqL.of et),_,rfl,fp,_,rfl,.inr hf2,rfl,_,rfl,Hj (congrArg V.int (by rw [lt,List.length_map])) ?_⟩
 have few:=td.few
 refine ⟨_,rfl,_,rfl,_,rfl,fp,tp,rfl,⟨_,hf2⟩,⟨_,SqL.of et⟩,Ph (TgD o_Cord) row.length (by omega) (List.length_map _) lt td.lth (fun h s=>h.keep s) (fun h e=>h.put e) (fun H' s'=>Nf hf2 s') et ?_ fun H4 L vs s4 nL eL pr=>?_⟩
 ·intro s₀ H₀ C ex i k y x H' D' zs R hk hy hx sH nD eD fin
  rw [List.getElem?_map] at hk
  rw [List.map_map,List.getElem?_map] at hy
  obtain ⟨kind,hk',rfl⟩:=Option.map_eq_some_iff.mp hk
  obtain ⟨l,hl',rfl⟩:=Option.map_eq_some_iff.mp hy
  exact ⟨_,rfl,_,rfl,kind,l,x,rfl,td.rd i kind l x hk' hl' hx,fun v H5 s5 hv=>fin v H5 s5 (hv D' (by rw [eD];exact fun z=>nomatch z))⟩
 ·refine ⟨(by show 2≤sizeLine;decide),fun r hr'=>?_⟩
  have u:=Ag hr' (.tup [.str (sx dl),.ref L])
  exact q r L vs _ (s1.trans (s2.trans (s4.trans u))) Ad ((s1.trans s2).free nL) (u _ _ eL) (Paired.imp' (fun _ _ z=>TgD.keep z u) pr)
theorem Ms:Aw ["self"] ["self"] (Ac DR):=⟨rfl,rfl,rfl,by decide +kernel,rfl,by decide +kernel,by decide +kernel⟩
theorem Mi{c_NoCord:Addr}(F:Fun K "turned" "Cord.turned" DR f fd)(T:Txt mg)(O:Ig K mg o_Cord)(C_Cord_init:Kr P w K mg base "Cord" o_Cord 4 ["self","gaps","weights"] (Ey o_Cord c_NoCord)):BZ P w K mg base CX0 6 f fd ["self"] (J5 o_Cord):=by
 refine F.ok Ms (fun vs H Q E h=>?_) (fun cdv A outer s H vs Q E hr h=>?_)
 ·obtain ⟨c,ga,wa,gs,ws,rfl,_⟩:=h
  rfl
 obtain ⟨c,ga,wa,gs,ws,rfl,⟨⟨dx,e⟩,⟨pg,eg,kg⟩,⟨pw,ew,kw⟩⟩,fine,q⟩:=h
 refine ⟨_,(Ah (Al (Xq C_Cord_init hr (Aa (Ly rfl T.z_list rfl T.z_reversed (Aa (HX (pv 0) rfl) Ae)) (Aa (Ly rfl T.z_list rfl T.z_reversed (Aa (HX (pv 0) rfl) Ae)) Ae))))),?_⟩
 refine ⟨_,rfl,c,_,dx,_,_,rfl,e,O.cl,O.n_kept_gaps,rfl,ga,_,rfl,SqL.of eg,fun a ha=>?_⟩
 have s1:=Ag ha (.lst (pg.map V.ref).reverse)
 refine ⟨_,rfl,c,_,dx,_,_,rfl,s1 _ _ e,O.cl,O.n_kept_weights,rfl,wa,_,rfl,SqL.of (s1 _ _ ew),fun b hb=>?_⟩
 have s2:=Ag hb (.lst (pw.map V.ref).reverse)
 intro x dx2 nx ndx ne
 have s3:Aj (upd (upd H a (.lst (pg.map V.ref).reverse)) b (.lst (pw.map V.ref).reverse)) (upd (upd (upd (upd H a (.lst (pg.map V.ref).reverse)) b (.lst (pw.map V.ref).reverse)) dx2 (.own x)) x (.ins o_Cord dx2 [])):=fun b o e=>by
  rw [Ai (Av e nx),Ai (Av e ndx)]
  exact e
 have s12:=s1.trans s2
 have ra:Rw (upd (upd H a (.lst (pg.map V.ref).reverse)) b (.lst (pw.map V.ref).reverse)) a gs.reverse:=⟨pg.reverse,by rw [s2 _ _ Ad,List.map_reverse],Pqs.reverse (kg.keep s12)⟩
 have rb:Rw (upd (upd H a (.lst (pg.map V.ref).reverse)) b (.lst (pw.map V.ref).reverse)) b ws.reverse:=⟨pw.reverse,by rw [Ad,List.map_reverse],Pqs.reverse (kw.keep s12)⟩
 refine ⟨x,a,b,gs.reverse,ws.reverse,dx2,rfl,Ad,ra.keep s3,rb.keep s3,fine.rev.len,by have:=fine.rev.most;omega,fine.rev.pos.1,fine.rev.pos.2,fun _ ga' wa' H' kp n1 n2 co=>⟨rfl,q x ga' wa' H' (fun b o z=>kp b o (Av (s12 _ _ z) nx) ((s12.trans s3) _ _ z)) (s12.free nx) ((s12.trans s3).free n1) ((s12.trans s3).free n2) co⟩,fun h=>absurd h (by have:=fine.rev.most;omega)⟩
theorem Ge:Aw ["text","words","gaps","weights"] ["text"] (Ac Cy):=⟨rfl,rfl,rfl,by decide +kernel,rfl,by decide +kernel,by decide +kernel⟩
set_option maxHeartbeats 1000000 in
theorem Py{c_NoCord:Addr}(F:Fun K "read_cord" "read_cord" Cy f fd)(T:Txt mg)(C_check_text:Cal P w K mg base "check_text" 1 ["thing"] Ht)(C_read_fraction:Cal P w K mg base "read_fraction" 3 ["text"] Ho)(C_within_brackets:Cal P w K mg base "within_brackets" 1 ["word"] Tj)(C_Cord_init:Kr P w K mg base "Cord" o_Cord 4 ["self","gaps","weights"] (Ey o_Cord c_NoCord)):BZ P w K mg base CX0 6 f fd ["text"] (J6 o_Cord):=by
 refine F.ok Ge (fun vs H Q E h=>?_) (fun cdv A outer s H vs Q E hr h=>?_)
 ·obtain ⟨gs,ws,rfl,_⟩:=h
  rfl
 obtain ⟨gs,ws,rfl,c30,k⟩:=h
 have hz:(100000:Nat)<sizeLine:=by decide
 have aB:=c30.fine.len
 have aC:=c30.fine.most
 have l0:=Xi (c:=32) c30.len
 have l1:=c30.cnt
 have h0:0<gs.length:=by omega
 have es:Txt.split (sx (jn 32 (Bf gs ws))) (Str.ofString " ")=(Bf gs ws).map sx:=by
  rw [show Str.ofString " "=sx [32] from rfl,SJ (c30.mem (fun w _ z=>by
   rcases List.mem_cons.mp z with y | y
   ·cases y
   ·rcases List.mem_append.mp y with y | y
    ·exact W0 w y
    ·cases List.mem_singleton.mp y) fun g _=>W0 g) (by unfold Bf;simp)]
 have lgd:ws.length=(gs.drop 1).length:=by rw [List.length_drop];omega
 have eg:L3.ev2 (((((Bf gs ws).map sx).map V.str)).drop 0)=((gs.map fun q=>sx (ftx q)).map V.str):=by
  rw [List.drop_zero,←L3.ev2_map,←L3.ev2_map]
  unfold Bf
  rw [Ry _ lgd,Po.getD_in h0,←List.map_cons (f:=ftx),←List.drop_eq_getElem_cons h0,List.drop_zero]
  simp only [List.map_map]
  rfl
 have ew:L3.ev2 (((((Bf gs ws).map sx).map V.str)).drop 1)=((ws.map fun q=>sx (brx q)).map V.str):=by
  show L3.ev2 (((cw ws (gs.drop 1)).map sx).map V.str)=_
  rw [←L3.ev2_map,←L3.ev2_map,Vn lgd]
  simp only [List.map_map]
  rfl
 refine ⟨_,(Ab (Ep (BR C_check_text hr (Aa (pv 0) Ae)))
   (Ab (Ay (i:=1) Ge.nd rfl (Or.inl rfl) (FP PySem.F.plainAttrs_str PySem.F.slot_str_split PySem.F.type_str_split Xe (pv 0) (Aa Aq Ae)))
   (Ab (HQ (i:=2) Ge.nd rfl (Or.inl rfl) (N':=["word"]) (fsc:=Ac Cy) (N:=["text","words","gaps","weights"]) [] ⟨rfl,by decide +kernel,by decide +kernel,by decide +kernel,rfl,by decide +kernel,rfl,by decide +kernel⟩ (IV (Sv (pv 1) Do Af)) (fun _ _ _ _=>(BR C_read_fraction hr (Aa (pv 0) Ae))))
   (Ab (HQ (i:=3) Ge.nd rfl (Or.inl rfl) (N':=["word"]) (fsc:=Ac Cy) (N:=["text","words","gaps","weights"]) [] ⟨rfl,by decide +kernel,by decide +kernel,by decide +kernel,rfl,by decide +kernel,rfl,by decide +kernel⟩ (IV (Sv (pv 1) (CQ Af) Af)) (fun _ _ _ _=>(BR C_read_fraction hr (Aa (BR C_within_brackets hr (Aa (pv 0) Ae)) Ae))))
   (Ah (ZX (Al (Xq C_Cord_init hr (Aa (pv 2) (Aa (pv 3) Ae)))))))))),?_⟩
 refine ⟨_,rfl,_,rfl,_,rfl,rfl,_,_,rfl,rfl,(by decide),by rw [BX];omega,by rw [es,List.length_map];omega,fun D hD=>?_⟩
 rw [es]
 have s1:=Ag hD (.lst (((Bf gs ws).map sx).map V.str))
 have e1:upd H D (.lst (((Bf gs ws).map sx).map V.str)) D=some (.lst (((Bf gs ws).map sx).map V.str)):=Ad
 generalize upd H D (.lst (((Bf gs ws).map sx).map V.str))=H1 at *
 refine ⟨_,rfl,D,_,0,rfl,rfl,.inl ⟨rfl,rfl⟩,SqL.of e1,fun g1 n1=>?_⟩
 rw [eg]
 have s2:=Ag n1 (.lst ((gs.map fun q=>sx (ftx q)).map V.str))
 refine ⟨g1,rfl,⟨_,SqL.of Ad⟩,NT (by omega) (fun q=>sx (ftx q)) Ad ?_ fun H3 G s3 nG rG=>?_⟩
 ·intro _ _ _ _ q H2 R hm s2 fin
  exact ⟨_,rfl,q,rfl,c30.g30 q hm,fin⟩
 have e3:=(s2.trans s3) _ _ e1
 refine ⟨_,rfl,_,rfl,D,_,1,rfl,rfl,.inr rfl,SqL.of e3,fun w1 n2=>?_⟩
 rw [ew]
 have s4:=Ag n2 (.lst ((ws.map fun q=>sx (brx q)).map V.str))
 refine ⟨w1,rfl,⟨_,SqL.of Ad⟩,NT (by omega) (fun q=>sx (brx q)) Ad ?_ fun H5 W s5 nW rW=>?_⟩
 ·intro _ _ _ _ q H2 R hm s2 fin
  have:=Fz (c30.w30 q hm)
  exact ⟨_,rfl,ftx q,rfl,by omega,q,rfl,c30.w30 q hm,fin⟩
 have s15:=s1.trans (s2.trans (s3.trans (s4.trans s5)))
 have rG5:=rG.keep (s4.trans s5)
 clear e3 e1 s1 s2 s3 s4 s5 rG
 refine ⟨_,rfl,_,rfl,?_⟩
 intro x dx2 nx ndx ne
 have s6:Aj H5 (upd (upd H5 dx2 (.own x)) x (.ins o_Cord dx2 [])):=fun b o e=>by
  rw [Ai (Av e nx),Ai (Av e ndx)]
  exact e
 refine ⟨x,G,W,gs,ws,dx2,rfl,Ad,rG5.keep s6,rW.keep s6,aB,by omega,c30.fine.pos.1,c30.fine.pos.2,fun _ ga' wa' H' kp n1 n2 co=>⟨rfl,k x ga' wa' H' (fun b o z=>kp b o (Av (s15 _ _ z) nx) ((s15.trans s6) _ _ z)) ((s15.trans s6).free n1) ((s15.trans s6).free n2) co⟩,fun h=>absurd h (by omega)⟩
def DkM(C:Addr)(H:Hp)(aG:List (Key×V))(m:List Nat→Option (List Rat×List Rat)):Prop:=∀l,(m l=none→Ck aG (.inr (sx l):Key)=none)∧∀g,m l=some g→∃c ga wa,Ck aG (.inr (sx l):Key)=some (.ref c)∧Co C H c ga wa g.1 g.2
def FJ(CD C:Addr)(N:Nat)(H:Hp)(d ka:Addr)(m:List Nat→Option (List Rat×List Rat)):Prop:=∃dx aG,H d=some (.ins CD dx [("kept",.ref ka)])∧H ka=some (.dK aG)∧aG.length≤N∧DkM C H aG m
theorem DkM.keep{C:Addr}{H H':Hp}{aG:List (Key×V)}{m:List Nat→Option (List Rat×List Rat)}(h:DkM C H aG m)(s:Aj H H'):DkM C H' aG m:=fun l=>⟨(h l).1,fun g hg=>by
 obtain ⟨c,ga,wa,e,co⟩:=(h l).2 g hg
 exact ⟨c,ga,wa,e,co.keep s⟩⟩
theorem FJ.keep{CD C:Addr}{N:Nat}{H H':Hp}{d ka:Addr}{m:List Nat→Option (List Rat×List Rat)}(h:FJ CD C N H d ka m)(s:Aj H H'):FJ CD C N H' d ka m:=by
 obtain ⟨dx,aG,e1,e2,hl,dm⟩:=h
 exact ⟨dx,aG,s _ _ e1,s _ _ e2,hl,dm.keep s⟩
theorem Le{C:Addr}{H:Hp}{c ga wa ka:Addr}{gs ws:List Rat}{aG kvs':List (Key×V)}(h:Co C H c ga wa gs ws)(e:H ka=some (.dK aG)):Co C (upd H ka (.dK kvs')) c ga wa gs ws:=by
 obtain ⟨⟨dx,ec⟩,⟨ps,ea,kp⟩,⟨qs,eb,kq⟩⟩:=h
 have ne:∀{b:Addr} {o:HO},H b=some o→(∀k,o≠.dK k)→upd H ka (.dK kvs') b=some o:=fun {b o} q n=>by
  rw [Ai (fun z=>by rw [z,e] at q;exact n _ (Option.some.inj q).symm)]
  exact q
 have pq:∀{ps:List Addr} {qs:List Rat},Pqs H ps qs→Pqs (upd H ka (.dK kvs')) ps qs:=fun k=>by
  induction k with
  | nil=>exact .nil
  | cons x _ ih=>exact .cons (ne x fun k z=>(nomatch z)) ih
 exact ⟨⟨dx,ne ec fun k z=>(nomatch z)⟩,⟨ps,ne ea fun k z=>(nomatch z),pq kp⟩,⟨qs,ne eb fun k z=>(nomatch z),pq kq⟩⟩
def rsv(m:List Nat→Option (List Rat×List Rat))(k:Str):Tg→Option Tg
 | .txt l=>if k="name" then (m l).map fun g=>.cord g.1 g.2 else some (.txt l)
 | x=>if k="name" then none else some x
def Mr(CD:Addr):Sp:=fun vs H Q _=>∃x dx,vs=[.ref x]∧H x=some (.ins CD dx [])∧∀ka,H ka=none→Q .non (upd (upd H ka (.dK [])) x (.ins CD dx [("kept",.ref ka)]))
def Ka(CD cN:Addr):Sp:=fun vs H Q E=>∃d dx ka aG l,vs=[.ref d,.str (sx l)]∧H d=some (.ins CD dx [("kept",.ref ka)])∧H ka=some (.dK aG)∧(∀c,Ck aG (.inr (sx l):Key)=some (.ref c)→Q (.ref c) H)∧(Ck aG (.inr (sx l):Key)=none→E (.ref cN) none H)∧((∃c,Ck aG (.inr (sx l):Key)=some (.ref c))∨Ck aG (.inr (sx l):Key)=none)
theorem TgD.re{C D D':Addr}{H:Hp}{v:V}{x:Tg}(h:TgD C D H v x)(n:H D'=none):TgD C D' H v x:=by
 cases x with
 | txt l=>exact h
 | cord gs ws =>
  obtain ⟨c,ga,wa,e,co,_,_⟩:=h
  obtain ⟨_,⟨ps,ea,_⟩,⟨qs,eb,_⟩⟩:=id co
  exact ⟨c,ga,wa,e,co,(fun z=>by rw [z,n] at ea;cases ea),(fun z=>by rw [z,n] at eb;cases eb)⟩
 | frac q=>exact h
 | whl k=>exact h
theorem Mz{β:Type}{T:V→β→Prop}:∀{vs:List V} {bs:List (Option β)},Paired (fun v o=>∃x,o=some x∧T v x) vs bs→∃xs,bs=xs.map some∧Paired T vs xs
 | _,_,.nil=>⟨[],rfl,.nil⟩
 | _,_,.cons ⟨x,e,h⟩ t=>by
  obtain ⟨xs,e2,p⟩:=Mz t
  exact ⟨x::xs,by rw [e,e2];rfl,.cons h p⟩
def Ln(K:PySem.W.Frag)(CD C cN:Addr):Sp:=fun vs H Q E=>∃(N:Nat) (d ka:Addr) (m:List Nat→Option (List Rat×List Rat)) (kp tl:Addr) (ks:List Str) (tvs:List V) (ths:List Tg),vs=[.ref d,.ref kp,.ref tl]∧FJ CD C N H d ka m∧SqT K H kp (ks.map V.str)∧H tl=some (.lst tvs)∧Paired (TgD C tl H) tvs ths∧ks.length=ths.length∧ths.length≤100∧(∀(i:Nat) x,ks[i]?=some ("name":Str)→ths[i]?=some x→∃l,x=.txt l) ∧
 (∀ths':List Tg,ths'.length=ths.length→(∀(i:Nat) k x,ks[i]?=some k→ths[i]?=some x→rsv m k x=ths'[i]?)→∀r vs' H',Aj H H'→H r=none→H' r=some (.lst vs')→Paired (TgD C r H') vs' ths'→Q (.ref r) H') ∧
 ((∃(i:Nat) (k:Str) (x:Tg),ks[i]?=some k∧ths[i]?=some x∧rsv m k x=none)→∀H',Aj H H'→E (.ref cN) none H')
theorem P0:Aw ["self"] ["self"] (Ac Eh):=⟨rfl,rfl,rfl,by decide +kernel,rfl,by decide +kernel,by decide +kernel⟩
theorem Q8(F:Fun K "__init__" "Desk.__init__" Eh f fd)(T:Txt mg)(O:Jg K mg o_Desk):BZ P w K mg base CX0 1 f fd ["self"] (Mr o_Desk):=by
 refine F.ok P0 (fun vs H Q E h=>?_) (fun cdv A outer s H vs Q E hr h=>?_)
 ·obtain ⟨x,dx,rfl,_⟩:=h
  rfl
 obtain ⟨x,dx,rfl,ex,q⟩:=h
 refine ⟨_,(Ah (Tt (pv 0) Rx rfl)),?_⟩
 intro ka hka
 have u:=Ag hka (.dK [])
 exact ⟨_,rfl,x,o_Desk,dx,_,rfl,u _ _ ex,O.cl,O.n_kept,by decide,q ka hka⟩
theorem Kz:Aw ["self","name"] ["self","name"] (Ac Cq):=⟨rfl,rfl,rfl,by decide +kernel,rfl,by decide +kernel,by decide +kernel⟩
theorem Ky{c_NoText c_NoName c_NoBead c_NoCord c_NoWorth c_NoFraction c_CordError:Addr}(F:FnX K "cord_by" "Desk.cord_by" Cq f fd)(T:Txt mg)(R:Ss K mg c_NoText c_NoName c_NoBead c_NoCord c_NoWorth c_NoFraction c_CordError)(O:Jg K mg o_Desk):BZ P w K mg base (CXd P w) 1 f fd ["self","name"] (Ka o_Desk c_NoName):=by
 refine Nr F Kz (fun vs H Q E h=>?_) (fun cdv A outer s H vs Q E hr h=>?_)
 ·obtain ⟨d,dx,ka,aG,l,rfl,_⟩:=h
  rfl
 obtain ⟨d,dx,ka,aG,l,rfl,e1,e2,q,qe,hor⟩:=h
 refine ⟨_,(Ab (BL (Hg (FT (hu1 hr) (pv 1) (HX (pv 0) rfl)))
    (Ah (KZ R.m_NoName R.o_NoName (Aa Aq Ae)))
    Am)
   (Ah (Al (Dz (hu1 hr) (HX (pv 0) rfl) (pv 1) (fun _ _=>rfl))))),?_⟩
 refine ⟨_,rfl,_,rfl,d,_,dx,_,_,rfl,e1,O.cl,O.n_kept,rfl,ka,_,rfl,Dk.k (k:=.inr (sx l)) e2,_,rfl,?_⟩
 rcases hor with ⟨c,ev⟩ | ev
 ·rw [ev]
  refine DY ?_
  exact ⟨_,rfl,d,_,dx,_,_,rfl,e1,O.cl,O.n_kept,rfl,_,rfl,ka,_,rfl,by rw [←ev];exact Dk.k (k:=.inr (sx l)) e2,q c ev⟩
 ·rw [ev]
  exact FN ⟨by show 1≤sizeLine;decide,qe ev⟩
theorem JG:Aw ["self","kinds","things"] ["self","kinds","things"] (Ac Bg):=⟨rfl,rfl,rfl,by decide +kernel,rfl,by decide +kernel,by decide +kernel⟩
set_option maxHeartbeats 1000000 in
theorem JQ{c_NoName:Addr}(F:FnX K "with_cords" "Desk.with_cords" Bg f fd)(T:Txt mg)(O:Jg K mg o_Desk)(C_Desk_cord_by:Ko P w K mg base o_Desk "cord_by" 1 ["self","name"] (Ka o_Desk c_NoName)):BZ P w K mg base (CXd P w) 2 f fd ["self","kinds","things"] (Ln K o_Desk o_Cord c_NoName):=by
 refine Nr F JG (fun vs H Q E h=>?_) (fun cdv A outer s H vs Q E hr h=>?_)
 ·obtain ⟨N,d,ka,m,kp,tl,ks,tvs,ths,rfl,_⟩:=h
  rfl
 obtain ⟨N,d,ka,m,kp,tl,ks,tvs,ths,rfl,⟨dx,aG,e1,e2,hl,dm⟩,hk,ht,pr,lk,few,nt,q,qe⟩:=h
 have lt:tvs.length=ths.length:=Paired.length pr
 refine ⟨_,(Ah (Al (Wr (N':=["kind","thing","self"]) (fsc:=Ac Bg) (N1:=["self","kinds","things"]) ["kind","thing"] [0] ⟨rfl,by decide +kernel,by decide +kernel,rfl,by decide +kernel,by decide +kernel⟩ (VN rfl T.z_zip (Aa (pv 1) (Aa (pv 2) Ae))) (fun _ _ _ _=>(Va (N':=["kind","thing","self"]) (i:=0) (j:=1) rfl (by decide +kernel) rfl rfl rfl rfl)) (fun _ _ _ _=>QZ) (fun _ _ _ _ _ hpp=>(SQ (Ao Bo (pv 0) Aq (Ar _)) (Zy C_Desk_cord_by hr hpp (pv 2) (Aa (pv 1) Ae)) (pv 1)))))),?_⟩
 refine ⟨_,rfl,_,rfl,kp,tl,rfl,⟨_,hk⟩,⟨_,SqL.of ht⟩,Ph (bs:=List.zipWith (rsv m) ks ths) (fun D H v o=>∃x,o=some x∧TgD o_Cord D H v x) ths.length (by omega) (by rw [List.length_map,lk]) lt (by rw [List.length_zipWith];omega) (fun ⟨x,e,h⟩ s=>⟨x,e,h.keep s⟩) (fun ⟨x,e,h⟩ z=>⟨x,e,h.put z⟩) (fun H' s'=>Nf hk s') ht ?_ fun H4 r vs' s4 nr er prr=>?_⟩
 ·intro s₀ H₀ C ex i k y o H' D zs R hk' hy ho sH nD eD fin
  rw [List.getElem?_map] at hk'
  obtain ⟨kind,hk2,rfl⟩:=Option.map_eq_some_iff.mp hk'
  have hi:i<ths.length:=by
   have:=(List.getElem?_eq_some_iff.mp hk2).1
   omega
  have hx:ths[i]?=some ths[i]:=List.getElem?_eq_getElem hi
  obtain ⟨y',hy',ty⟩:=M5 pr hx
  rw [hy] at hy'
  cases hy'
  have eo:o=rsv m kind ths[i]:=by
   rw [List.getElem?_zipWith,hk2,hx] at ho
   exact (Option.some.inj ho).symm
  generalize ths[i]=x at *
  refine ⟨_,rfl,rfl,_,rfl,?_⟩
  by_cases hn:kind="name"
  ·obtain ⟨l,rfl⟩:=nt i x (by rw [hk2,hn]) hx
   have ey:y=.str (sx l):=ty
   subst ey
   have er:rsv m kind (.txt l)=(m l).map fun g=>.cord g.1 g.2:=by
    show (if kind=("name":Str) then (m l).map (fun g=>Tg.cord g.1 g.2) else some (.txt l))=_
    rw [if_pos hn]
   refine Kw hn ⟨_,rfl,d,dx,_,rfl,sH _ _ e1,rfl,_,rfl,d,dx,ka,aG,l,rfl,sH _ _ e1,sH _ _ e2,fun c hv=>?_,fun hv=>?_,?_⟩
   ·cases hm:m l with
    | none =>
     rw [(dm l).1 hm] at hv
     cases hv
    | some g =>
     obtain ⟨c',ga,wa,ev,co⟩:=(dm l).2 g hm
     rw [hv] at ev
     cases ev
     have tg:TgD o_Cord D H (.ref c) (.cord g.1 g.2):=by
      obtain ⟨_,⟨ps,ea,_⟩,⟨qs,eb,_⟩⟩:=id co
      exact ⟨c,ga,wa,rfl,co,(fun z=>by rw [z,nD] at ea;cases ea),(fun z=>by rw [z,nD] at eb;cases eb)⟩
     exact fin _ H' (Aj.refl _) ⟨.cord g.1 g.2,by rw [eo,er,hm];rfl,tg.keep sH⟩
   ·cases hm:m l with
    | none=>exact qe ⟨i,kind,.txt l,hk2,hx,by rw [er,hm];rfl⟩ H' sH
    | some g =>
     obtain ⟨c',ga,wa,ev,co⟩:=(dm l).2 g hm
     rw [hv] at ev
     cases ev
   ·cases hm:m l with
    | none=>exact .inr ((dm l).1 hm)
    | some g =>
     obtain ⟨c',ga,wa,ev,co⟩:=(dm l).2 g hm
     exact .inl ⟨c',ev⟩
  ·refine sne hn ⟨_,rfl,fin _ H' (Aj.refl _) ⟨x,?_,(ty.re nD).keep sH⟩⟩
   rw [eo]
   unfold rsv
   cases x <;> simp [hn]
 ·obtain ⟨ths',eb,pt⟩:=Mz prr
  have lb:ths'.length=ths.length:=by
   have:=congrArg List.length eb
   rw [List.length_zipWith,List.length_map] at this
   omega
  refine q ths' lb (fun i k x h1 h2=>?_) r vs' H4 s4 nr er pt
  have h3:(List.zipWith (rsv m) ks ths)[i]?=some (rsv m k x):=by rw [List.getElem?_zipWith,h1,h2]
  rw [eb,List.getElem?_map] at h3
  cases h4:ths'[i]? with
  | none=>rw [h4] at h3;cases h3
  | some z=>rw [h4] at h3;exact (Option.some.inj h3).symm
inductive Res where
 | ok (gs ws:List Rat)
 | bead
 | nocord
def Gd(lo:Nat)(gs ws:List Rat)(n:Int)(x:Rat):Res:=if n<lo∨(ws.length:Int)<n then .bead else if 0<x then (if lo=0 then .ok (mor gs n.toNat x) ws else .ok gs (mor ws (n.toNat-1) x)) else .nocord
theorem Vo{x:Rat}(h:¬0<x):abo (dq x)=false:=by
 have hn:¬0<x.num:=fun z=>h (Rat.not_le.mp fun hle=>by
  have e:=Rat.le_antisymm hle (Rat.num_nonneg.mp (by omega))
  rw [e] at z
  exact absurd z (by decide))
 unfold dq abo
 simp [hn]
inductive MkR:Str→List Tg→Res→Prop
 | turn {x:Tg} {gs ws:List Rat}:Ez gs ws→MkR "turn" [x,.cord gs ws] (.ok gs.reverse ws.reverse)
 | cord {x:Tg} {gs ws:List Rat}:MkR "cord" [x,.cord gs ws] (.ok gs ws)
 | join {x:Tg} {gs ws hs xs:List Rat}:Ez gs ws→Ez hs xs→MkR "join" [x,.cord gs ws,.cord hs xs] (if ws.length+xs.length≤12 then .ok (jng gs hs) (ws++xs) else .nocord)
 | heavier {x:Tg} {gs ws:List Rat} {n:Int} {q:Rat}:Ez gs ws→Bq 101 q→MkR "heavier" [x,.cord gs ws,.whl n,.frac q] (Gd 1 gs ws n q)
 | longer {x:Tg} {gs ws:List Rat} {n:Int} {q:Rat}:Ez gs ws→Bq 101 q→MkR "longer" [x,.cord gs ws,.whl n,.frac q] (Gd 0 gs ws n q)
def Kd(C cN cB:Addr):Sp:=fun vs H Q E=>∃deed L tvs ths res,vs=[.str deed,.ref L]∧H L=some (.lst tvs)∧Paired (TgD C L H) tvs ths∧MkR deed ths res ∧
 (∀gs ws,res=.ok gs ws→∀c ga wa H',Aj H H'→Co C H' c ga wa gs ws→Q (.ref c) H')∧(res=.bead→∀H',Aj H H'→E (.ref cB) none H')∧(res=.nocord→∀d H',Aj H H'→H' d=some (.xd [("place",.non)])→E (.ref cN) (some d) H')
theorem Zj:Aw ["deed","things"] ["deed","things"] (Ac Jq):=⟨rfl,rfl,rfl,by decide +kernel,rfl,by decide +kernel,by decide +kernel⟩
theorem ZZ{c_NoCord c_NoBead:Addr}(F:FnX K "made" "made" Jq f fd)(T:Txt mg)(C_Cord_turned:Im P w K mg base o_Cord "turned" 6 ["self"] (J5 o_Cord))(C_joined:JZ P w K mg base "joined" 6 ["one","other"] [] [] (Iz o_Cord c_NoCord))(C_heavier:JZ P w K mg base "heavier" 6 ["cord","bead","more"] [] [] (Ih 1 o_Cord c_NoCord c_NoBead))(C_longer:JZ P w K mg base "longer" 6 ["cord","gap","more"] [] [] (Ih 0 o_Cord c_NoCord c_NoBead)):BZ P w K mg base (CXd P w) 7 f fd ["deed","things"] (Kd o_Cord c_NoCord c_NoBead):=by
 refine Nr F Zj (fun vs H Q E h=>?_) (fun cdv A outer s H vs Q E hr h=>?_)
 ·obtain ⟨deed,L,tvs,ths,res,rfl,_⟩:=h
  rfl
 obtain ⟨deed,L,tvs,ths,res,rfl,eL,pr,mk,q,qb,qn⟩:=h
 refine ⟨_,(Ab (BL (Ao Bo (pv 0) Aq (Ar _))
    (Ah (Al (G7 C_Cord_turned hr (Az Ba (pv 1) Af (fun _ _=>rfl)))))
    Am)
   (Ab (BL (Ao Bo (pv 0) Aq (Ar _))
    (Ah (Al (HN C_joined hr (Aa (Az Ba (pv 1) Af (fun _ _=>rfl)) (Aa (Az Ba (pv 1) Af (fun _ _=>rfl)) Ae)))))
    Am)
   (Ab (BL (Ao Bo (pv 0) Aq (Ar _))
    (Ah (Al (HN C_heavier hr (Aa (Az Ba (pv 1) Af (fun _ _=>rfl)) (Aa (Az Ba (pv 1) Af (fun _ _=>rfl)) (Aa (Az Ba (pv 1) Af (fun _ _=>rfl)) Ae))))))
    Am)
   (Ab (BL (Ao Bo (pv 0) Aq (Ar _))
    (Ah (Al (HN C_longer hr (Aa (Az Ba (pv 1) Af (fun _ _=>rfl)) (Aa (Az Ba (pv 1) Af (fun _ _=>rfl)) (Aa (Az Ba (pv 1) Af (fun _ _=>rfl)) Ae))))))
    Am)
   (Ab (BL (Ao Bo (pv 0) Aq (Ar _))
    (Ah Be)
    Am)
   (Ab (BL (Ao Bo (pv 0) Aq (Ar _))
    (Ah Be)
    Am)
   (Ah (Al (Az Ba (pv 1) Af (fun _ _=>rfl)))))))))),?_⟩
 cases mk with
 | turn fn =>
  cases pr with
  | cons t0 pr=>cases pr with
   | cons t1 pr =>
    cases pr
    obtain ⟨c,ga,wa,rfl,co,_,_⟩:=t1
    obtain ⟨⟨dx,ec⟩,_⟩:=id co
    refine ⟨_,rfl,rfl,_,rfl,Kw rfl ?_⟩
    exact ⟨_,rfl,L,_,_,_,rfl,rfl,SqL.of eL,rfl,c,dx,_,rfl,ec,rfl,c,ga,wa,_,_,rfl,co,fn,fun c' g' w' H' s' _ _ _ co'=>q _ _ rfl c' g' w' H' s' co'⟩
 | cord =>
  cases pr with
  | cons t0 pr=>cases pr with
   | cons t1 pr =>
    cases pr
    obtain ⟨c,ga,wa,rfl,co,_,_⟩:=t1
    refine ⟨_,rfl,rfl,_,rfl,sne (by decide) ?_⟩
    refine ⟨_,rfl,rfl,_,rfl,sne (by decide) ?_⟩
    refine ⟨_,rfl,rfl,_,rfl,sne (by decide) ?_⟩
    refine ⟨_,rfl,rfl,_,rfl,sne (by decide) ?_⟩
    refine ⟨_,rfl,rfl,_,rfl,sne (by decide) ?_⟩
    refine ⟨_,rfl,rfl,_,rfl,sne (by decide) ?_⟩
    exact ⟨_,rfl,L,_,_,_,rfl,rfl,SqL.of eL,rfl,q _ _ rfl c ga wa H (Aj.refl _) co⟩
 | @join x gs ws hs xs f1 f2 =>
  cases pr with
  | cons t0 pr=>cases pr with
   | cons t1 pr=>cases pr with
    | cons t2 pr =>
     cases pr
     obtain ⟨c,ga,wa,rfl,co,_,_⟩:=t1
     obtain ⟨d,ha,xa,rfl,do',_,_⟩:=t2
     refine ⟨_,rfl,rfl,_,rfl,sne (by decide) ?_⟩
     refine ⟨_,rfl,rfl,_,rfl,Kw rfl ?_⟩
     refine ⟨_,rfl,L,_,_,_,rfl,rfl,SqL.of eL,rfl,_,rfl,L,_,_,_,rfl,rfl,SqL.of eL,rfl,?_⟩
     exact ⟨c,ga,wa,gs,ws,d,ha,xa,hs,xs,rfl,co,do',f1,f2,fun h r g w H' s' _ _ _ co'=>q _ _ (if_pos h) r g w H' s' co',fun h dd H' s' e=>qn (if_neg (by omega)) dd H' s' e⟩
 | @heavier x gs ws n y fn bq =>
  cases pr with
  | cons t0 pr=>cases pr with
   | cons t1 pr=>cases pr with
    | cons t2 pr=>cases pr with
     | cons t3 pr =>
      cases pr
      obtain ⟨c,ga,wa,rfl,co,_,_⟩:=t1
      obtain rfl:=(show _=V.int n from t2)
      obtain ⟨p,rfl,kp⟩:=t3
      refine ⟨_,rfl,rfl,_,rfl,sne (by decide) ?_⟩
      refine ⟨_,rfl,rfl,_,rfl,sne (by decide) ?_⟩
      refine ⟨_,rfl,rfl,_,rfl,Kw rfl ?_⟩
      refine ⟨_,rfl,L,_,_,_,rfl,rfl,SqL.of eL,rfl,_,rfl,L,_,_,_,rfl,rfl,SqL.of eL,rfl,_,rfl,L,_,_,_,rfl,rfl,SqL.of eL,rfl,?_⟩
      refine ⟨c,ga,wa,gs,ws,n,.ref p,dq y,rfl,co,fn,kp.dv,?_⟩
      unfold Gd at q qb qn
      by_cases h1:n<(1:Nat)∨(ws.length:Int)<n
      ·exact .inl ⟨h1,qb (if_pos h1) H (Aj.refl _)⟩
      ·rw [if_neg h1] at q qb qn
       by_cases h2:0<y
       ·rw [if_pos h2] at q qb qn
        exact .inr (.inr ⟨by omega,by omega,p,y,rfl,kp,h2,bq,rfl,fun r g w H' s' co'=>q _ _ rfl r g w H' s' co'⟩)
       ·rw [if_neg h2] at q qb qn
        exact .inr (.inl ⟨by omega,by omega,Vo h2,fun dd H' s' e=>qn rfl dd H' s' e⟩)
 | @longer x gs ws n y fn bq =>
  cases pr with
  | cons t0 pr=>cases pr with
   | cons t1 pr=>cases pr with
    | cons t2 pr=>cases pr with
     | cons t3 pr =>
      cases pr
      obtain ⟨c,ga,wa,rfl,co,_,_⟩:=t1
      obtain rfl:=(show _=V.int n from t2)
      obtain ⟨p,rfl,kp⟩:=t3
      refine ⟨_,rfl,rfl,_,rfl,sne (by decide) ?_⟩
      refine ⟨_,rfl,rfl,_,rfl,sne (by decide) ?_⟩
      refine ⟨_,rfl,rfl,_,rfl,sne (by decide) ?_⟩
      refine ⟨_,rfl,rfl,_,rfl,Kw rfl ?_⟩
      refine ⟨_,rfl,L,_,_,_,rfl,rfl,SqL.of eL,rfl,_,rfl,L,_,_,_,rfl,rfl,SqL.of eL,rfl,_,rfl,L,_,_,_,rfl,rfl,SqL.of eL,rfl,?_⟩
      refine ⟨c,ga,wa,gs,ws,n,.ref p,dq y,rfl,co,fn,kp.dv,?_⟩
      unfold Gd at q qb qn
      by_cases h1:n<(0:Nat)∨(ws.length:Int)<n
      ·exact .inl ⟨h1,qb (if_pos h1) H (Aj.refl _)⟩
      ·rw [if_neg h1] at q qb qn
       by_cases h2:0<y
       ·rw [if_pos h2] at q qb qn
        exact .inr (.inr ⟨by omega,by omega,p,y,rfl,kp,h2,bq,rfl,fun r g w H' s' co'=>q _ _ rfl r g w H' s' co'⟩)
       ·rw [if_neg h2] at q qb qn
        exact .inr (.inl ⟨by omega,by omega,Vo h2,fun dd H' s' e=>qn rfl dd H' s' e⟩)
def Hr(C:Addr):Sp:=fun vs H Q _=>∃L tvs gs ws,vs=[.str "show",.ref L]∧H L=some (.lst tvs)∧Paired (TgD C L H) tvs [.cord gs ws]∧C30 gs ws∧∀H',Aj H H'→Q (.str (sx (jn 32 (Bf gs ws)))) H'
theorem V7:Aw ["deed","things"] ["deed","things"] (Ac G3):=⟨rfl,rfl,rfl,by decide +kernel,rfl,by decide +kernel,by decide +kernel⟩
theorem Vq(F:Fun K "answer" "answer" G3 f fd)(T:Txt mg)(C_show_cord:Cal P w K mg base "show_cord" 2 ["cord"] (Li o_Cord)):BZ P w K mg base CX0 3 f fd ["deed","things"] (Hr o_Cord):=by
 refine F.ok V7 (fun vs H Q E h=>?_) (fun cdv A outer s H vs Q E hr h=>?_)
 ·obtain ⟨L,tvs,gs,ws,rfl,_⟩:=h
  rfl
 obtain ⟨L,tvs,gs,ws,rfl,eL,pr,c30,q⟩:=h
 refine ⟨_,(Ab (BL (Ao Bo (pv 0) Aq (Ar _))
    (Ah (Al (BR C_show_cord hr (Aa (Az Ba (pv 1) Af (fun _ _=>rfl)) Ae))))
    Am)
   (Ab (BL (Ao Bo (pv 0) Aq (Ar _))
    (Ah Be)
    Am)
   (Ab (BL (Ao Bo (pv 0) Aq (Ar _))
    (Ah Be)
    Am)
   (Ab (BL (Ao Bo (pv 0) Aq (Ar _))
    (Ah Be)
    Am)
   (Ab (BL (Ao Bo (pv 0) Aq (Ar _))
    (Ah Be)
    Am)
   (Ah Be)))))),?_⟩
 cases pr with
 | cons t0 pr =>
  cases pr
  obtain ⟨c,ga,wa,rfl,co,_,_⟩:=t0
  refine ⟨_,rfl,rfl,_,rfl,Kw rfl ?_⟩
  exact ⟨_,rfl,L,_,_,_,rfl,rfl,SqL.of eL,rfl,c,ga,wa,gs,ws,rfl,co,c30,fun H' s'=>q H' s'⟩
def Sk(ka:Addr)(H H':Hp):Prop:=∀b o,b≠ka→H b=some o→H' b=some o
def GX(m:List Nat→Option (List Rat×List Rat))(l:List Nat)(g:Option (List Rat×List Rat)):List Nat→Option (List Rat×List Rat):=fun x=>if x=l then g else m x
theorem O6(aG:List (Key×V))(k j:Key):Ck (G5 aG k) j=if j=k then none else Ck aG j:=by
 induction aG with
 | nil=>simp [G5,Ck]
 | cons p r ih =>
  unfold G5 at *
  rw [List.filter_cons]
  by_cases h:p.1=k
  ·rw [if_neg (by simp [h])]
   rw [ih]
   by_cases hj:j=k
   ·rw [if_pos hj,if_pos hj]
   ·rw [if_neg hj,if_neg hj,Bx (fun z=>hj (by rw [←z,h]))]
  ·rw [if_pos (by simp [h])]
   by_cases hp:p.1=j
   ·rw [Cd hp,if_neg (fun z=>h (by rw [hp,z])),Cd hp]
   ·rw [Bx hp,ih,Bx hp]
theorem VH(aG:List (Key×V))(k:Key)(v:V):(Gw aG k v).length≤aG.length+1:=by
 unfold Gw
 split
 ·rw [List.length_map]
  omega
 ·rw [List.length_append,List.length_singleton]
  omega
theorem DkM.put{C:Addr}{H:Hp}{aG kvs':List (Key×V)}{m:List Nat→Option (List Rat×List Rat)}{ka c ga wa:Addr}{l:List Nat}{g:List Rat×List Rat}(h:DkM C H aG m)(e:H ka=some (.dK aG))(co:Co C H c ga wa g.1 g.2)(hk:kvs'=Gw aG (.inr (sx l)) (.ref c)):DkM C (upd H ka (.dK kvs')) kvs' (GX m l (some g)):=by
 intro x
 unfold GX
 rw [hk,Ru]
 by_cases hx:x=l
 ·rw [if_pos hx,if_pos (by rw [hx])]
  exact ⟨fun z=>(nomatch z),fun g' hg=>by
   cases hg
   exact ⟨c,ga,wa,rfl,Le co e⟩⟩
 ·rw [if_neg hx,if_neg (fun z=>hx (KC (Sum.inr.inj z)))]
  exact ⟨(h x).1,fun g' hg=>by
   obtain ⟨c',ga',wa',ev,co'⟩:=(h x).2 g' hg
   exact ⟨c',ga',wa',ev,Le co' e⟩⟩
theorem DkM.drop{C:Addr}{H:Hp}{aG kvs':List (Key×V)}{m:List Nat→Option (List Rat×List Rat)}{ka:Addr}{l:List Nat}(h:DkM C H aG m)(e:H ka=some (.dK aG))(hk:kvs'=G5 aG (.inr (sx l))):DkM C (upd H ka (.dK kvs')) kvs' (GX m l none):=by
 intro x
 unfold GX
 rw [hk,O6]
 by_cases hx:x=l
 ·rw [if_pos hx,if_pos (by rw [hx])]
  exact ⟨fun _=>rfl,fun g' hg=>(nomatch hg)⟩
 ·rw [if_neg hx,if_neg (fun z=>hx (KC (Sum.inr.inj z)))]
  exact ⟨(h x).1,fun g' hg=>by
   obtain ⟨c',ga',wa',ev,co'⟩:=(h x).2 g' hg
   exact ⟨c',ga',wa',ev,Le co' e⟩⟩
def Rsv(m:List Nat→Option (List Rat×List Rat))(row:List Str)(ths ths':List Tg):Prop:=ths'.length=ths.length∧∀(i:Nat) k x,row[i]?=some k→ths[i]?=some x→rsv m k x=ths'[i]?
theorem Rsv.uniq{m:List Nat→Option (List Rat×List Rat)}{row:List Str}{ths a b:List Tg}(hl:row.length=ths.length)(h:Rsv m row ths a)(g:Rsv m row ths b):a=b:=by
 refine List.ext_getElem? fun i=>?_
 by_cases hi:i<ths.length
 ·have h1:row[i]?=some (row[i]'(by omega)):=List.getElem?_eq_getElem (by omega)
  have h2:ths[i]?=some ths[i]:=List.getElem?_eq_getElem hi
  rw [←h.2 i _ _ h1 h2,←g.2 i _ _ h1 h2]
 ·rw [List.getElem?_eq_none (by rw [h.1];omega),List.getElem?_eq_none (by rw [g.1];omega)]
theorem Rsv.some{m:List Nat→Option (List Rat×List Rat)}{row:List Str}{ths a:List Tg}(h:Rsv m row ths a):¬∃(i:Nat) (k:Str) (x:Tg),row[i]?=some k∧ths[i]?=some x∧rsv m k x=none:=fun ⟨i,k,x,h1,h2,h3⟩=>by
 have e:=h.2 i k x h1 h2
 have hi:=(List.getElem?_eq_some_iff.mp h2).1
 rw [h3,List.getElem?_eq_getElem (by rw [h.1];exact hi)] at e
 cases e
theorem Wx.nt{dl:List Nat}{row:List Str}{init lastw:List (List Nat)}{ths:List Tg}(td:Wx dl row init lastw ths)(i:Nat)(x:Tg)(h1:row[i]?=some ("name":Str))(h2:ths[i]?=some x):∃l,x=.txt l:=by
 have hi:=(List.getElem?_eq_some_iff.mp h1).1
 have aB:=td.len
 have h3:(init++[jn 32 lastw])[i]?=some ((init++[jn 32 lastw])[i]'(by rw [List.length_append,List.length_singleton];omega)):=List.getElem?_eq_getElem _
 have h:=td.rd i _ _ x h1 h3 h2
 cases x with
 | txt l=>exact ⟨l,rfl⟩
 | cord gs ws=>exact absurd h.1 (by decide)
 | frac q=>exact absurd h.1 (by decide)
 | whl k=>exact absurd h.1 (by decide)
theorem Uy(row:List Str):inV (.str "new") (row.map V.str)=decide (("new":Str)∈row):=by
 unfold inV
 induction row with
 | nil=>rfl
 | cons c r ih =>
  rw [List.map_cons,List.any_cons,ih]
  have e:eqV (V.str c) (V.str "new")=decide (c=("new":Str)):=by
   by_cases h:c=("new":Str)
   ·rw [decide_eq_true h]
    simp [eqV,h]
   ·rw [decide_eq_false h]
    simp [eqV,h]
  rw [e]
  by_cases h:c=("new":Str)
  ·simp [h]
  ·have:¬("new":Str)=c:=fun z=>h z.symm
   simp [h,this]
theorem RL(row:List Str):(row.map V.str).all Hs=true:=by
 rw [List.all_map]
 exact List.all_eq_true.mpr fun _ _=>rfl
def GP(CD C cN cB cM:Addr):Sp:=fun vs H Q E=>∃(N:Nat) (d ka:Addr) (m:List Nat→Option (List Rat×List Rat)) (dl:List Nat) (row:List Str) (init lastw:List (List Nat)) (ths:List Tg),vs=[.ref d,.str (sx (jn 32 (dl::(init++lastw))))]∧FJ CD C N H d ka m∧N<1000∧Wx dl row init lastw ths ∧
 (((∃(i:Nat) (k:Str) (x:Tg),row[i]?=some k∧ths[i]?=some x∧rsv m k x=none)∧∀H',Aj H H'→E (.ref cM) none H') ∨
   (∃ths',Rsv m row ths ths' ∧
    ((∃l,sx dl="drop"∧ths=[.txt l]∧∀H',Sk ka H H'→FJ CD C (N+1) H' d ka (GX m l none)→Q (.str "ok") H') ∨
   (∃l Bh res,sx dl≠"drop"∧("new":Str)∈row∧ths=.txt l::Bh∧MkR (sx dl) ths' res ∧
    (∀gs ws,res=.ok gs ws→∀H',Sk ka H H'→FJ CD C (N+1) H' d ka (GX m l (some (gs,ws)))→Q (.str "ok") H')∧(res=.bead→∀H',Aj H H'→E (.ref cB) none H')∧(res=.nocord→∀dd H',Aj H H'→H' dd=some (.xd [("place",.non)])→E (.ref cN) (some dd) H')) ∨
   (∃gs ws,sx dl="show"∧ths'=[.cord gs ws]∧C30 gs ws∧∀H',Aj H H'→Q (.str (sx (jn 32 (Bf gs ws)))) H'))))
theorem Ei:Aw ["self","row","order","deed","told","things","cord"] ["self","row"] (Ac Fl):=⟨rfl,rfl,rfl,by decide +kernel,rfl,by decide +kernel,by decide +kernel⟩
set_option maxHeartbeats 2000000 in
theorem RD{c_NoCord c_NoBead c_NoName:Addr}(F:FnX K "say" "Desk.say" Fl f fd)(T:Txt mg)(O:Jg K mg o_Desk)(C_read_told:Cal P w K mg base "read_told" 8 ["row"] (KD o_Cord))(C_kinds_of:Cal P w K mg base "kinds_of" 1 ["deed"] (M9 K))(C_Desk_with_cords:Ko P w K mg base o_Desk "with_cords" 2 ["self","kinds","things"] (Ln K o_Desk o_Cord c_NoName))(C_made:JZ P w K mg base "made" 7 ["deed","things"] [] [] (Kd o_Cord c_NoCord c_NoBead))(C_answer:Cal P w K mg base "answer" 3 ["deed","things"] (Hr o_Cord)):BZ P w K mg base (CXd P w) 9 f fd ["self","row"] (GP o_Desk o_Cord c_NoCord c_NoBead c_NoName):=by
 refine Nr F Ei (fun vs H Q E h=>?_) (fun cdv A outer s H vs Q E hr h=>?_)
 ·obtain ⟨N,d,ka,m,dl,row,init,lastw,ths,rfl,_⟩:=h
  rfl
 obtain ⟨N,d,ka,m,dl,row,init,lastw,ths,rfl,dk0,hN,td,hout⟩:=h
 have hz:(100000:Nat)<sizeLine:=by decide
 have lth:=td.lth
 have few:=td.few
 refine ⟨_,(Ab (Ay (i:=2) Ei.nd rfl (Or.inl rfl) (BR C_read_told hr (Aa (pv 1) Ae)))
   (Ab (Ay (i:=3) Ei.nd rfl (Or.inl rfl) (Az BP (pv 2) Af (fun _ _=>rfl)))
   (Ab (Ay (i:=4) Ei.nd rfl (Or.inl rfl) (Az BP (pv 2) Af (fun _ _=>rfl)))
   (Ab (Ay (i:=5) Ei.nd rfl (Or.inl rfl) (Zy C_Desk_with_cords hr M8 (pv 0) (Aa (BR C_kinds_of hr (Aa (pv 3) Ae)) (Aa (pv 4) Ae))))
   (Ab (BL (Ao Bo (pv 3) Aq (Ar _))
    (Ab (Ep (RQ (HX (pv 0) rfl) (Az Ba (pv 4) Af (fun _ _=>rfl)) ⟨rfl,rfl,rfl,rfl⟩))
    (Ah (Al Aq)))
    Am)
   (Ab (BL (Ao V9 Aq (BR C_kinds_of hr (Aa (pv 3) Ae)) (by with_unfolding_all rfl))
    (Ab (Ay (i:=6) Ei.nd rfl (Or.inl rfl) (HN C_made hr (Aa (pv 3) (Aa (pv 5) Ae))))
    (Ab (U0 (hu1 hr) (HX (pv 0) rfl) (Az Ba (pv 4) Af (fun _ _=>rfl)) (pv 6) rfl)
    (Ah (Al Aq))))
    Am)
   (Ah (Al (BR C_answer hr (Aa (pv 3) (Aa (pv 5) Ae))))))))))),?_⟩
 refine ⟨_,rfl,dl,row,init,lastw,ths,rfl,td,fun r L tvs H1 s1 er nL eL pr=>?_⟩
 refine ⟨_,rfl,r,_,_,_,rfl,rfl,SqT.of er,rfl,?_⟩
 refine ⟨_,rfl,r,_,_,_,rfl,rfl,SqT.of er,rfl,?_⟩
 have dk1:=dk0.keep s1
 obtain ⟨dx,_,e1,_⟩:=id dk1
 refine ⟨_,rfl,d,dx,_,rfl,e1,rfl,_,rfl,sx dl,row,rfl,td.form,fun kp hkp=>⟨_,rfl,N,d,ka,m,kp,L,row,tvs,ths,rfl,dk1,hkp,eL,pr,lth.symm,by omega,td.nt,fun a hla hra r' vs' H2 s2 nr' er' pr'=>?_,fun hex H2 s2=>?_⟩⟩
 case refine_2 =>
  rcases hout with ⟨_,hE⟩ | ⟨ths',hr',_⟩
  ·exact hE H2 (s1.trans s2)
  ·exact absurd hex hr'.some
 clear e1 dk1 hkp kp
 have s02:=s1.trans s2
 obtain ⟨dx,aG,e1,e2,hl,dm⟩:=dk0.keep s02
 have eL2:=s2 _ _ eL
 have trs:∀{H3:Hp} {o:HO},Aj H2 H3→Sk ka H (upd H3 ka o):=fun {H3 o} s3 b ob nb eb=>by
  rw [Ai nb]
  exact s3 _ _ (s02 _ _ eb)
 rcases hout with ⟨hex,_⟩ | ⟨ths',hr',hout⟩
 ·exact absurd hex (Rsv.some ⟨hla,hra⟩)
 obtain rfl:ths'=a:=hr'.uniq lth.symm ⟨hla,hra⟩
 rcases hout with ⟨l,hd,rfl,q⟩ | ⟨l,Bh,res,hd,aL,rfl,mk,q,qb,qn⟩ | ⟨gs,ws,hd,rfl,c30,q⟩
 ·have erow:row=[("name":Str)]:=by
   have:=td.form
   rw [hd,show De Bw "drop"=some [("name":Str)] from by decide +kernel] at this
   exact (Option.some.inj this).symm
  subst erow
  cases pr with
  | cons t0 pr =>
   cases pr
   obtain rfl:=(show _=V.str (sx l) from t0)
   have hm:=hr'.2 0 "name" (.txt l) rfl rfl
   have aB:ths'.length=1:=hla
   obtain ⟨y,rfl⟩:∃y,ths'=[y]:=List.length_eq_one_iff.mp aB
   have hm2:(m l).map (fun g=>Tg.cord g.1 g.2)=some y:=hm
   obtain ⟨g,hg,_⟩:=Option.map_eq_some_iff.mp hm2
   obtain ⟨c,ga,wa,ev,co⟩:=(dm l).2 g hg
   refine ⟨_,rfl,rfl,_,rfl,Kw hd ?_⟩
   refine ⟨_,rfl,d,_,dx,_,_,rfl,e1,O.cl,O.n_kept,rfl,ka,rfl,.inl ⟨aG,.inl e2⟩,_,rfl,L,_,_,_,rfl,rfl,SqL.of eL2,rfl,aG,.inr (sx l),_,e2,rfl,ev,?_⟩
   refine q _ (trs (Aj.refl _)) ⟨dx,_,?_,Ad,?_,dm.drop e2 rfl⟩
   ·rw [Ai (GZ e1 e2 (by intro z;cases z))]
    exact e1
   ·have:=MF aG (.inr (sx l):Key)
    omega
 ·cases pr with
  | cons t0 pr =>
   obtain rfl:=(show _=V.str (sx l) from t0)
   refine ⟨_,rfl,rfl,_,rfl,sne hd ?_⟩
   refine ⟨_,rfl,sx dl,row,rfl,td.form,fun kp2 hkp2=>⟨kp2,_,rfl,.inr hkp2,rfl,RL row,_,rfl,?_⟩⟩
   rw [Uy,decide_eq_true aL]
   refine FN ?_
   refine ⟨_,rfl,_,rfl,sx dl,r',vs',ths',res,rfl,er',pr',mk,fun gs ws hres c ga wa H3 s3 co=>?_,fun hb H3 s3=>qb hb H3 (s02.trans s3),fun hn dd H3 s3 e=>qn hn dd H3 (s02.trans s3) e⟩
   have e13:=s3 _ _ e1
   have e23:=s3 _ _ e2
   refine ⟨_,rfl,_,rfl,d,_,dx,_,_,rfl,e13,O.cl,O.n_kept,rfl,_,rfl,L,_,_,_,rfl,rfl,SqL.of (s3 _ _ eL2),Dr (j:=0) rfl,ka,_,rfl,Ut.k (k:=.inr (sx l)) e23 (by omega),?_⟩
   refine q gs ws hres _ (trs s3) ⟨dx,_,?_,Ad,?_,(dm.keep s3).put (g:=(gs,ws)) e23 co rfl⟩
   ·rw [Ai (GZ e13 e23 (by intro z;cases z))]
    exact e13
   ·have:=VH aG (.inr (sx l):Key) (.ref c)
    omega
 ·have erow:row=[("name":Str)]:=by
   have:=td.form
   rw [hd,show De Bw "show"=some [("name":Str)] from by decide +kernel] at this
   exact (Option.some.inj this).symm
  subst erow
  refine ⟨_,rfl,rfl,_,rfl,sne (by rw [hd];decide) ?_⟩
  refine ⟨_,rfl,sx dl,_,rfl,td.form,fun kp2 hkp2=>⟨kp2,_,rfl,.inr hkp2,rfl,RL _,_,rfl,?_⟩⟩
  rw [Uy,decide_eq_false (by decide)]
  refine DY ?_
  exact ⟨_,rfl,_,rfl,r',vs',gs,ws,by rw [hd];rfl,er',pr',c30,fun H3 s3=>q H3 (s02.trans s3)⟩
theorem X8{CD C cN cB cM:Addr}{vs:List V}{H:Hp}{Q Q':VK}{E E':XK}(h:GP CD C cN cB cM vs H Q E)(hq:∀t H',Q (.str t) H'→Q' (.str t) H')(he:∀Cv dx H',E Cv dx H'→E' Cv dx H'):GP CD C cN cB cM vs H Q' E':=by
 obtain ⟨N,d,ka,m,dl,row,init,lastw,ths,e,dk,hN,td,hout⟩:=h
 refine ⟨N,d,ka,m,dl,row,init,lastw,ths,e,dk,hN,td,?_⟩
 rcases hout with ⟨hex,hE⟩ | ⟨ths',hr,hout⟩
 ·exact .inl ⟨hex,fun H' s'=>he _ _ _ (hE H' s')⟩
 ·refine .inr ⟨ths',hr,?_⟩
  rcases hout with ⟨l,hd,ht,q⟩ | ⟨l,Bh,res,hd,aL,ht,mk,q,qb,qn⟩ | ⟨gs,ws,hd,ht,c30,q⟩
  ·exact .inl ⟨l,hd,ht,fun H' a b=>hq _ _ (q H' a b)⟩
  ·exact .inr (.inl ⟨l,Bh,res,hd,aL,ht,mk,fun gs ws hr H' a b=>hq _ _ (q gs ws hr H' a b),fun hr H' a=>he _ _ _ (qb hr H' a),fun hr dd H' a b=>he _ _ _ (qn hr dd H' a b)⟩)
  ·exact .inr (.inr ⟨gs,ws,hd,ht,c30,fun H' a=>hq _ _ (q H' a)⟩)
theorem V6{σ:L2.St}{H:Hp}{Q:List V→Hp→Prop}(h:Q [] H):Rf σ H Q:=h
def Rfs(cN cB cM:Addr)(Q:VK):XK:=fun Cv dx H'=>(Cv=.ref cM∧dx=none∧∀H2,Aj H' H2→Q (.str "!name") H2)∨(Cv=.ref cB∧dx=none∧∀H2,Aj H' H2→Q (.str "!bead") H2)∨∃d,Cv=.ref cN∧dx=some d∧H' d=some (.xd [("place",.non)])∧∀H2,Aj H' H2→Q (.str "!cordNone") H2
def LK(CD C cN cB cM:Addr):Sp:=fun vs H Q _=>GP CD C cN cB cM vs H Q (Rfs cN cB cM Q)
theorem Fb:Aw ["_law_desk","_law_row_here","_law_answer","e","_law_kinds"] ["_law_desk","_law_row_here"] (Ac Gk):=⟨rfl,rfl,rfl,by decide +kernel,rfl,by decide +kernel,by decide +kernel⟩
set_option maxHeartbeats 2000000 in
theorem Tv{c_NoText c_NoName c_NoBead c_NoCord c_NoWorth c_NoFraction c_CordError:Addr}(F:Fun K "_law_say" "_law_say" Gk f fd)(T:Txt mg)(R:Ss K mg c_NoText c_NoName c_NoBead c_NoCord c_NoWorth c_NoFraction c_CordError)(C_Desk_say:Ko P w K mg base o_Desk "say" 9 ["self","row"] (GP o_Desk o_Cord c_NoCord c_NoBead c_NoName)):BZ P w K mg base CX0 10 f fd ["_law_desk","_law_row_here"] (LK o_Desk o_Cord c_NoCord c_NoBead c_NoName):=by
 refine F.ok Fb (fun vs H Q E h=>?_) (fun cdv A outer s H vs Q E hr h=>?_)
 ·obtain ⟨N,d,ka,m,dl,row,init,lastw,ths,rfl,_⟩:=h
  rfl
 have h0:=h
 obtain ⟨N,d,ka,m,dl,row,init,lastw,ths,rfl,dk,_⟩:=h
 obtain ⟨dx,aG,e1,_⟩:=dk
 refine ⟨_,(Ab (Ay (i:=2) Fb.nd rfl (Or.inl rfl) Aq)
   (Ab (Zv 3 (WN (i:=2) C_Desk_say hr Fb.nd rfl (Or.inl rfl) (pv 0) (Aa (pv 1) Ae)) R.m_CordError (fun _ =>
    (Ab (Ay (i:=4) Fb.nd rfl (Or.inl rfl) (Er (Aa (BJ Fy rfl T.z_isinstance boot_isinstance (Aa (pv 3) (Aa (Et (v:=.ref _) rfl R.m_NoText rfl) Ae))) (Aa (BJ Fy rfl T.z_isinstance boot_isinstance (Aa (pv 3) (Aa (Et (v:=.ref _) rfl R.m_NoName rfl) Ae))) (Aa (BJ Fy rfl T.z_isinstance boot_isinstance (Aa (pv 3) (Aa (Et (v:=.ref _) rfl R.m_NoBead rfl) Ae))) (Aa (BJ Fy rfl T.z_isinstance boot_isinstance (Aa (pv 3) (Aa (Et (v:=.ref _) rfl R.m_NoCord rfl) Ae))) Ae))))))
    (Ab (Ay (i:=4) Fb.nd rfl (Or.inl rfl) (Ax Hi (pv 4) (Er (Aa (BJ Fy rfl T.z_isinstance boot_isinstance (Aa (pv 3) (Aa (Et (v:=.ref _) rfl R.m_NoWorth rfl) Ae))) (Aa (BJ Fy rfl T.z_isinstance boot_isinstance (Aa (pv 3) (Aa (Et (v:=.ref _) rfl R.m_NoFraction rfl) Ae))) Ae)))))
    (Ab (BL (PW.pt (GQ (Ao Jp (FP PySem.F.plainAttrs_list PySem.F.slot_list_count PySem.F.type_list_count Wd (pv 4) (Aa Jo Ae)) Af (Ar _)) (Dw (Di (Cz (BJ Fy rfl T.z_isinstance boot_isinstance (Aa (pv 3) (Aa (HY (v:=.ty "ValueError") rfl T.z_ValueError PyProof.Rows.Boot.«ValueError» rfl) Ae))))))))
     (Ah (Al Aq))
     Am)
    (Ab (BL (Cz (Az Ba (pv 4) Af (fun _ _=>rfl)))
     (Ah (Al (Ax Dh Aq (Bj QJ rfl T.z_str boot_str (Aa (Zn (pv 3) rfl) Ae)))))
     Am)
    (Ah (Al (Az Ba (PEw.h (AFj (Gm Ir (Gm Ir (Gm Ir (Gm Ir (Gm Ir (Gm Ir Ew)))))))) (FP PySem.F.plainAttrs_list PySem.F.slot_list_index PySem.F.type_list_index Vt (pv 4) (Aa Jo Ae)) (fun _ _=>rfl))))))))) Fb.nd)
   (Ab (BL (Di (Cz (BJ G4 rfl T.z_isinstance boot_isinstance (Aa (pv 2) (Aa (HY (v:=.ty "str") rfl T.z_str boot_str rfl) Ae)))))
    (Ah (Al Aq))
    Am)
   (Ah (Al (pv 2)))))),?_⟩
 refine ⟨_,rfl,d,dx,_,rfl,e1,rfl,_,rfl,?_⟩
 refine V6 ?_
 refine X8 h0 (fun t H' q=>?_) (fun Cv dv H' q=>?_)
 ·exact ⟨_,rfl,_,_,_,_,rfl,Gx.str _,Kl _,_,rfl,DY ⟨_,rfl,q⟩⟩
 ·rcases q with ⟨rfl,rfl,q⟩ | ⟨rfl,rfl,q⟩ | ⟨dd,rfl,rfl,ed,q⟩
  ·refine ⟨R.x_NoName,fun a haa=>?_⟩
   have sa:=Ag haa (.ext (DG a (.ref c_NoName) (none)))
   have ea:upd H' a (.ext (DG a (.ref c_NoName) (none))) a=some (.ext (DG a (.ref c_NoName) (none))):=Ad
   generalize upd H' a (.ext (DG a (.ref c_NoName) (none)))=H1 at *
   refine ⟨_,rfl,a,_,_,c_NoName,none,false,rfl,rfl,ea,R.e_NoName,R.k_NoName_NoText,_,rfl,a,_,_,c_NoName,none,true,rfl,rfl,ea,R.e_NoName,R.k_NoName_NoName,_,rfl,a,_,_,c_NoName,none,false,rfl,rfl,ea,R.e_NoName,R.k_NoName_NoBead,_,rfl,a,_,_,c_NoName,none,false,rfl,rfl,ea,R.e_NoName,R.k_NoName_NoCord,(by show 4≤sizeLine;decide),fun l1 h1=>?_⟩
   have s1:=Ag h1 (.lst [.bl false,.bl true,.bl false,.bl false])
   have e1':upd H1 l1 (.lst [.bl false,.bl true,.bl false,.bl false]) l1=some (.lst [.bl false,.bl true,.bl false,.bl false]):=Ad
   have ea1:=s1 _ _ ea
   generalize upd H1 l1 (.lst [.bl false,.bl true,.bl false,.bl false])=H2 at *
   refine ⟨_,rfl,_,rfl,a,_,_,c_NoName,none,false,rfl,rfl,ea1,R.e_NoName,R.k_NoName_NoWorth,_,rfl,a,_,_,c_NoName,none,false,rfl,rfl,ea1,R.e_NoName,R.k_NoName_NoFraction,(by show 2≤sizeLine;decide),fun l2 h2=>?_⟩
   have s2:=Ag h2 (.lst [.bl false,.bl false])
   refine ⟨l1,l2,_,_,rfl,rfl,s2 _ _ e1',Ad,(by show 6≤sizeLine;decide),fun l3 h3=>?_⟩
   have s3:=Ag h3 (.lst ([.bl false,.bl true,.bl false,.bl false]++[.bl false,.bl false]))
   have e3:upd (upd H2 l2 (.lst [.bl false,.bl false])) l3 (.lst ([.bl false,.bl true,.bl false,.bl false]++[.bl false,.bl false])) l3=some (.lst (([false,true,false,false,false,false]:List Bool).map V.bl)):=Ad
   have ea3:=(s2.trans s3) _ _ ea1
   have s23:=s2.trans s3
   generalize upd (upd H2 l2 (.lst [.bl false,.bl false])) l3 (.lst ([.bl false,.bl true,.bl false,.bl false]++[.bl false,.bl false]))=H3 at *
   have sq:=(sa.trans s1).trans s23
   refine ⟨_,rfl,.inl ⟨rfl,_,SqL.of e3⟩,l3,[false,true,false,false,false,false],rfl,rfl,e3,rfl,_,rfl,Hj rfl ?_⟩
   refine ⟨_,rfl,a,_,_,c_NoName,none,true,rfl,rfl,ea3,R.e_NoName,R.k_NoName_ValueError,_,rfl,DY ?_⟩
   refine ⟨_,rfl,l3,_,_,_,rfl,rfl,SqL.of e3,rfl,_,rfl,DY ?_⟩
   refine ⟨(by show 6≤sizeLine;decide),fun l4 h4=>?_⟩
   have s4:=Ag h4 (.lst [.str "!text",.str "!name",.str "!bead",.str "",.str "!worth",.str "!fraction"])
   exact ⟨_,rfl,.inl ⟨rfl,_,SqL.of (s4 _ _ e3)⟩,l3,[false,true,false,false,false,false],1,rfl,rfl,s4 _ _ e3,by decide,rfl,by decide,l4,_,_,_,rfl,rfl,SqL.of Ad,rfl,q _ (sq.trans s4)⟩
  ·refine ⟨R.x_NoBead,fun a haa=>?_⟩
   have sa:=Ag haa (.ext (DG a (.ref c_NoBead) (none)))
   have ea:upd H' a (.ext (DG a (.ref c_NoBead) (none))) a=some (.ext (DG a (.ref c_NoBead) (none))):=Ad
   generalize upd H' a (.ext (DG a (.ref c_NoBead) (none)))=H1 at *
   refine ⟨_,rfl,a,_,_,c_NoBead,none,false,rfl,rfl,ea,R.e_NoBead,R.k_NoBead_NoText,_,rfl,a,_,_,c_NoBead,none,false,rfl,rfl,ea,R.e_NoBead,R.k_NoBead_NoName,_,rfl,a,_,_,c_NoBead,none,true,rfl,rfl,ea,R.e_NoBead,R.k_NoBead_NoBead,_,rfl,a,_,_,c_NoBead,none,false,rfl,rfl,ea,R.e_NoBead,R.k_NoBead_NoCord,(by show 4≤sizeLine;decide),fun l1 h1=>?_⟩
   have s1:=Ag h1 (.lst [.bl false,.bl false,.bl true,.bl false])
   have e1':upd H1 l1 (.lst [.bl false,.bl false,.bl true,.bl false]) l1=some (.lst [.bl false,.bl false,.bl true,.bl false]):=Ad
   have ea1:=s1 _ _ ea
   generalize upd H1 l1 (.lst [.bl false,.bl false,.bl true,.bl false])=H2 at *
   refine ⟨_,rfl,_,rfl,a,_,_,c_NoBead,none,false,rfl,rfl,ea1,R.e_NoBead,R.k_NoBead_NoWorth,_,rfl,a,_,_,c_NoBead,none,false,rfl,rfl,ea1,R.e_NoBead,R.k_NoBead_NoFraction,(by show 2≤sizeLine;decide),fun l2 h2=>?_⟩
   have s2:=Ag h2 (.lst [.bl false,.bl false])
   refine ⟨l1,l2,_,_,rfl,rfl,s2 _ _ e1',Ad,(by show 6≤sizeLine;decide),fun l3 h3=>?_⟩
   have s3:=Ag h3 (.lst ([.bl false,.bl false,.bl true,.bl false]++[.bl false,.bl false]))
   have e3:upd (upd H2 l2 (.lst [.bl false,.bl false])) l3 (.lst ([.bl false,.bl false,.bl true,.bl false]++[.bl false,.bl false])) l3=some (.lst (([false,false,true,false,false,false]:List Bool).map V.bl)):=Ad
   have ea3:=(s2.trans s3) _ _ ea1
   have s23:=s2.trans s3
   generalize upd (upd H2 l2 (.lst [.bl false,.bl false])) l3 (.lst ([.bl false,.bl false,.bl true,.bl false]++[.bl false,.bl false]))=H3 at *
   have sq:=(sa.trans s1).trans s23
   refine ⟨_,rfl,.inl ⟨rfl,_,SqL.of e3⟩,l3,[false,false,true,false,false,false],rfl,rfl,e3,rfl,_,rfl,Hj rfl ?_⟩
   refine ⟨_,rfl,a,_,_,c_NoBead,none,true,rfl,rfl,ea3,R.e_NoBead,R.k_NoBead_ValueError,_,rfl,DY ?_⟩
   refine ⟨_,rfl,l3,_,_,_,rfl,rfl,SqL.of e3,rfl,_,rfl,DY ?_⟩
   refine ⟨(by show 6≤sizeLine;decide),fun l4 h4=>?_⟩
   have s4:=Ag h4 (.lst [.str "!text",.str "!name",.str "!bead",.str "",.str "!worth",.str "!fraction"])
   exact ⟨_,rfl,.inl ⟨rfl,_,SqL.of (s4 _ _ e3)⟩,l3,[false,false,true,false,false,false],2,rfl,rfl,s4 _ _ e3,by decide,rfl,by decide,l4,_,_,_,rfl,rfl,SqL.of Ad,rfl,q _ (sq.trans s4)⟩
  ·refine ⟨R.x_NoCord,fun a haa=>?_⟩
   have sa:=Ag haa (.ext (DG a (.ref c_NoCord) (some dd)))
   have ea:upd H' a (.ext (DG a (.ref c_NoCord) (some dd))) a=some (.ext (DG a (.ref c_NoCord) (some dd))):=Ad
   generalize upd H' a (.ext (DG a (.ref c_NoCord) (some dd)))=H1 at *
   refine ⟨_,rfl,a,_,_,c_NoCord,some dd,false,rfl,rfl,ea,R.e_NoCord,R.k_NoCord_NoText,_,rfl,a,_,_,c_NoCord,some dd,false,rfl,rfl,ea,R.e_NoCord,R.k_NoCord_NoName,_,rfl,a,_,_,c_NoCord,some dd,false,rfl,rfl,ea,R.e_NoCord,R.k_NoCord_NoBead,_,rfl,a,_,_,c_NoCord,some dd,true,rfl,rfl,ea,R.e_NoCord,R.k_NoCord_NoCord,(by show 4≤sizeLine;decide),fun l1 h1=>?_⟩
   have s1:=Ag h1 (.lst [.bl false,.bl false,.bl false,.bl true])
   have e1':upd H1 l1 (.lst [.bl false,.bl false,.bl false,.bl true]) l1=some (.lst [.bl false,.bl false,.bl false,.bl true]):=Ad
   have ea1:=s1 _ _ ea
   generalize upd H1 l1 (.lst [.bl false,.bl false,.bl false,.bl true])=H2 at *
   refine ⟨_,rfl,_,rfl,a,_,_,c_NoCord,some dd,false,rfl,rfl,ea1,R.e_NoCord,R.k_NoCord_NoWorth,_,rfl,a,_,_,c_NoCord,some dd,false,rfl,rfl,ea1,R.e_NoCord,R.k_NoCord_NoFraction,(by show 2≤sizeLine;decide),fun l2 h2=>?_⟩
   have s2:=Ag h2 (.lst [.bl false,.bl false])
   refine ⟨l1,l2,_,_,rfl,rfl,s2 _ _ e1',Ad,(by show 6≤sizeLine;decide),fun l3 h3=>?_⟩
   have s3:=Ag h3 (.lst ([.bl false,.bl false,.bl false,.bl true]++[.bl false,.bl false]))
   have e3:upd (upd H2 l2 (.lst [.bl false,.bl false])) l3 (.lst ([.bl false,.bl false,.bl false,.bl true]++[.bl false,.bl false])) l3=some (.lst (([false,false,false,true,false,false]:List Bool).map V.bl)):=Ad
   have ea3:=(s2.trans s3) _ _ ea1
   have s23:=s2.trans s3
   generalize upd (upd H2 l2 (.lst [.bl false,.bl false])) l3 (.lst ([.bl false,.bl false,.bl false,.bl true]++[.bl false,.bl false]))=H3 at *
   have ed3:=((sa.trans s1).trans s23) _ _ ed
   have sq:=(sa.trans s1).trans s23
   refine ⟨_,rfl,.inl ⟨rfl,_,SqL.of e3⟩,l3,[false,false,false,true,false,false],rfl,rfl,e3,rfl,_,rfl,Hj rfl ?_⟩
   refine ⟨_,rfl,a,_,_,c_NoCord,some dd,true,rfl,rfl,ea3,R.e_NoCord,R.k_NoCord_ValueError,_,rfl,DY ?_⟩
   refine ⟨_,rfl,l3,_,_,_,rfl,rfl,SqL.of e3,rfl,_,rfl,FN ?_⟩
   have ec:(Str.ofString "!cord"++Str.ofString "None")=Str.ofString "!cordNone":=by decide +kernel
   refine ⟨_,rfl,a,c_NoCord,dd,_,_,rfl,ea3,R.e_NoCord,R.fx_NoCord.hd,R.nf_NoCord,ed3,rfl,rfl,_,_,rfl,rfl,(by decide +kernel),?_⟩
   rw [ec]
   exact q _ sq
def AGM:Sp:=fun vs H Q _=>∃p q,vs=[.ref p]∧Pq H p q∧Bq 8000 q∧∀H',Aj H H'→Q (.bl true) H'
def AIh:Sp:=fun vs H Q _=>∃a b qs,vs=[.ref a,.ref b]∧Rw H a qs∧Rw H b qs∧qs.length≤1000∧(∀q∈qs,Bq 8000 q)∧∀H',Aj H H'→Q (.bl true) H'
def Hq:Sp:=fun vs H Q _=>∃(c:Int) (m:Nat),vs=[.int c,.int m]∧m≤100∧∀r qs H',Aj H H'→H r=none→Rw H' r qs→qs.length=m→(∀q∈qs,0<q)→(∀q∈qs,Bq 4 q)→Q (.ref r) H'
def AFl(K:PySem.W.Frag):Sp:=fun vs H Q _=>∃(a:Addr) (ns:List Int),vs=[.ref a]∧SqL K H a (ns.map V.int) ∧
 ∀r ga wa gs ws H',Aj H H'→H' r=some (.tup [.ref ga,.ref wa])→H ga=none→H wa=none→ga≠wa→Rw H' ga gs→Rw H' wa ws→Drawn 12 gs ws→ws.length≤4→Q (.ref r) H'
def ABZ:Sp:=fun vs H Q _=>∃c o,vs=[.int c,.int o]∧∀r t H',Aj H H'→Bq 334 t→Pq H' r t→Q (.ref r) H'
theorem Ef:Aw ["_law_top","_law_bottom","_law_one","_law_other","_law_rest"] ["_law_top","_law_bottom"] (Ac Gh):=⟨rfl,rfl,rfl,by decide +kernel,rfl,by decide +kernel,by decide +kernel⟩
theorem TX(F:Fun K "_law_low" "_law_low" Gh f fd)(T:Txt mg):BZ P w K mg base CX0 1 f fd ["_law_top","_law_bottom"] Ji:=by
 refine F.ok Ef (fun vs H Q E h=>?_) (fun cdv A outer s H vs Q E hr h=>?_)
 ·obtain ⟨t,b,rfl,_⟩:=h
  rfl
 obtain ⟨t,b,rfl,hb,bb,q⟩:=h
 have c1:0<g t b∧Bt 9000 (g t b):=⟨O8 (by omega),(ABi hb bb).mono (by decide)⟩
 refine ⟨_,(Ab (Ay (i:=2) Ef.nd rfl (Or.inl rfl) (BJ JV rfl T.z_abs boot_abs (Aa (pv 0) Ae)))
   (Ab (Ay (i:=3) Ef.nd rfl (Or.inl rfl) (BJ JV rfl T.z_abs boot_abs (Aa (pv 1) Ae)))
   (Ab (Rz PassesOwn.never (Ao JX (pv 3) Af (Ar _))
    (Ab (Ay (i:=4) Ef.nd rfl (Or.inl rfl) (Ax Dd (pv 2) (pv 3)))
    (Ab (Ay (i:=2) Ef.nd rfl (Or.inl rfl) (pv 3))
    (Ah (Ay (i:=3) Ef.nd rfl (Or.inl rfl) (pv 4))))))
   (Ab (BL (Ao Hk (pv 1) Af (Ar _))
    (Ah (Ay (i:=2) Ef.nd rfl (Or.inl rfl) (Mt JB (pv 2))))
    Am)
   (Ah (Al (Dc (Aa (Ax DK (pv 0) (pv 2)) (Aa (Ax DK (pv 1) (pv 2)) Ae))))))))),?_⟩
 refine ⟨_,rfl,_,rfl,_,rfl,_,rfl,?_⟩
 refine ⟨fun m σ H'=>∃x y r,σ=[some (.int t),some (.int b),some (.int x),some (.int y),r]∧H=H'∧0≤x∧0≤y∧g x y=g t b∧m=y.toNat,⟨_,_,_,_,rfl,rfl,?_,?_,AAG t b,rfl⟩,?_⟩
 ·split <;> omega
 ·split <;> omega
 rintro m σ _ ⟨x,y,r,rfl,rfl,hx,hy,e,rfl⟩
 refine ⟨_,rfl,_,_,rfl,rfl,_,rfl,?_⟩
 refine Jt (fun c=>⟨fun σ' H'=>∃m',m'<y.toNat∧∃x y r,σ'=[some (.int t),some (.int b),some (.int x),some (.int y),r]∧H=H'∧0≤x∧0≤y∧g x y=g t b∧m'=y.toNat,fun _ _ h=>h,?_⟩) (fun c=>?_)
 ·have c':(0:Int)<y:=of_decide_eq_true c
  refine ⟨_,rfl,_,rfl,_,_,rfl,rfl,c',_,rfl,_,rfl,?_⟩
  have h1:=Int.emod_nonneg x (show y≠0 by omega)
  have h2:=Int.emod_lt_of_pos x c'
  exact ⟨_,by omega,y,x%y,_,rfl,rfl,hy,h1,by rw [XX hx c',e],rfl⟩
 ·have c':¬(0:Int)<y:=of_decide_eq_false (Bool.eq_false_iff.mpr c)
  obtain rfl:y=0:=by omega
  rw [AAi hx] at e
  subst e
  refine ⟨_,rfl,_,_,rfl,rfl,_,rfl,Du (by omega) ?_⟩
  exact ⟨_,rfl,_,rfl,_,_,rfl,rfl,c1,_,rfl,_,rfl,_,_,rfl,rfl,c1,(by show 2≤sizeLine;decide),fun p hp=>q p _ (Ag hp _) (Pq.of Pr.new ⟨(AAH hb).1.symm,(AAH hb).2.symm⟩)⟩
theorem Ri:Aw ["_law_one","_law_other"] ["_law_one","_law_other"] (Ac Fg):=⟨rfl,rfl,rfl,by decide +kernel,rfl,by decide +kernel,by decide +kernel⟩
theorem RV(F:Fun K "_law_plus" "_law_plus" Fg f fd)(T:Txt mg)(C_law_low:Cal P w K mg base "_law_low" 1 ["_law_top","_law_bottom"] Ji):BZ P w K mg base CX0 2 f fd ["_law_one","_law_other"] (JR 3900 (·+·)):=by
 refine F.ok Ri (fun vs H Q E h=>?_) (fun cdv A outer s H vs Q E hr h=>?_)
 ·obtain ⟨p,q,a,b,rfl,_⟩:=h
  rfl
 obtain ⟨p,q,a,b,rfl,hp,hq,ba,bb,k⟩:=h
 refine ⟨_,(Ah (Al (BR C_law_low hr (Aa (Ax DX (Ax Ea (Az BP (pv 0) Af (fun _ _=>rfl)) (Az BP (pv 1) Af (fun _ _=>rfl))) (Ax Ea (Az BP (pv 1) Af (fun _ _=>rfl)) (Az BP (pv 0) Af (fun _ _=>rfl)))) (Aa (Ax Ea (Az BP (pv 0) Af (fun _ _=>rfl)) (Az BP (pv 1) Af (fun _ _=>rfl))) Ae))))),?_⟩
 refine ⟨_,rfl,_,_,_,_,rfl,rfl,hp.sq,rfl,_,rfl,_,_,_,_,rfl,rfl,hq.sq,rfl,_,_,rfl,rfl,Hf ba.1 bb.2 (by decide),_,rfl,_,_,_,_,rfl,rfl,hq.sq,rfl,_,rfl,_,_,_,_,rfl,rfl,hp.sq,rfl,_,_,rfl,rfl,Hf bb.1 ba.2 (by decide),_,_,rfl,rfl,_,rfl,_,_,_,_,rfl,rfl,hp.sq,rfl,_,rfl,_,_,_,_,rfl,rfl,hq.sq,rfl,_,_,rfl,rfl,Hf ba.2 bb.2 (by decide),_,_,rfl,Int.mul_pos (den_pos a) (den_pos b),(ba.2.mul bb.2).mono (by decide),fun r H' s' kr=>k r H' s' ?_⟩
 rw [ABM] at kr
 exact kr
theorem Bs:Aw ["_law_cell","_law_many","_law_row_here","_law_rest","_law_k","_law_part"] ["_law_cell","_law_many"] (Ac Cp):=⟨rfl,rfl,rfl,by decide +kernel,rfl,by decide +kernel,by decide +kernel⟩
theorem K4(F:Fun K "_law_twelfths" "_law_twelfths" Cp f fd)(T:Txt mg)(C_law_low:Cal P w K mg base "_law_low" 1 ["_law_top","_law_bottom"] Ji):BZ P w K mg base CX0 2 f fd ["_law_cell","_law_many"] Hq:=by
 refine F.ok Bs (fun vs H Q E h=>?_) (fun cdv A outer s H vs Q E hr h=>?_)
 ·obtain ⟨c,m,rfl,_⟩:=h
  rfl
 obtain ⟨c,m,rfl,hm,q⟩:=h
 have hz:(1000:Nat)<sizeLine:=by decide
 refine ⟨_,(Ab (Ay (i:=2) Bs.nd rfl (Or.inl rfl) (Er Ae))
   (Ab (Ay (i:=3) Bs.nd rfl (Or.inl rfl) (pv 0))
   (Ab (MJ PassesOwn.never rfl (Ib rfl T.z_range (Aa (pv 1) Ae)) (CZ (i:=4) Bs.nd rfl (Or.inl rfl))
    (Ab (Ay (i:=5) Bs.nd rfl (Or.inl rfl) (pv 3))
    (Ab (AB1 (BL (Ao Hk (pv 3) Af (Ar _))
     (Ah (Ay (i:=5) Bs.nd rfl (Or.inl rfl) (Ax Dd (Ax Ea (Ax DX (Ax DX (pv 0) (Ax Ea (pv 4) (pv 4))) (Ax Ea Af (pv 4))) Af) Af)))
     Am))
    (Ab (Ep (FP PySem.F.plainAttrs_list PySem.F.slot_list_append PySem.F.type_list_append Fp (pv 2) (Aa (BR C_law_low hr (Aa (Ax DX Af (Ax Dd (pv 5) Af)) (Aa (Ax DX Af (Ax Dd (Ax DK (pv 5) Af) Af)) Ae))) Ae)))
    (Ah (Ay (i:=3) Bs.nd rfl (Or.inl rfl) (Ax DK (pv 3) Af)))))))
   (Ah (Al (pv 2)))))),?_⟩
 refine ⟨(by show 0≤sizeLine;decide),fun D hD=>?_⟩
 refine ⟨_,rfl,?_⟩
 refine ⟨_,rfl,_,rfl,by omega,by omega,?_⟩
 rw [Int.toNat_natCast]
 refine Oz (n:=m) (fun i σ H'=>(∃(r:Int) (v w:Option V),σ=[some (.int c),some (.int m),some (.ref D),some (.int r),v,w])∧Aj H H'∧∃qs,Rw H' D qs∧qs.length=i∧(∀q∈qs,0<q)∧∀q∈qs,Bq 4 q)
  ⟨⟨_,_,_,rfl⟩,Ag hD _,[],⟨[],Ad,.nil⟩,rfl,fun q hq=>absurd hq (by simp),fun q hq=>absurd hq (by simp)⟩ ?_ ?_
 ·rintro i σ H1 hi ⟨⟨r,v,w',rfl⟩,sm,qs,rw1,l1,p1,b1⟩
  refine ⟨_,rfl,?_⟩
  refine ⟨fun σ' H'=>∃pt:Int,σ'=[some (.int c),some (.int m),some (.ref D),some (.int r),some (.int (0+(i:Int))),some (.int pt)]∧H1=H',?tl,?hd⟩
  case hd =>
   refine ⟨_,rfl,_,_,rfl,rfl,_,rfl,Jt (fun _=>?_) (fun _=>⟨_,rfl,rfl⟩)⟩
   exact ⟨_,rfl,_,rfl,_,rfl,_,_,rfl,rfl,X7.ok (.inl ⟨by omega,by omega⟩),_,_,rfl,rfl,_,rfl,_,_,rfl,rfl,X7.ok (.inl ⟨by decide,by decide⟩),_,_,rfl,rfl,_,_,rfl,rfl,X7.ok (.inr ⟨by decide,by decide⟩),_,_,rfl,rfl,(by show (0:Int)<99991;decide),_,rfl,rfl⟩
  rintro _ _ ⟨pt,rfl,rfl⟩
  have h3:=Int.emod_nonneg (pt/12) (show (12:Int)≠0 by decide)
  have h4:=Int.emod_lt_of_pos (pt/12) (show (0:Int)<12 by decide)
  have hb:0<1+pt/12%12:=by omega
  have bb:Bt 6 (1+pt/12%12):=Bt.between (by omega) (by omega)
  obtain ⟨x4,e4,_⟩:=rw1.there
  refine ⟨_,rfl,.inl ⟨rfl,_,SqL.of e4⟩,_,rfl,_,_,rfl,rfl,(by show (0:Int)<12;decide),_,_,rfl,rfl,_,rfl,_,_,rfl,rfl,⟨by decide,bt2 (by decide +kernel)⟩,_,_,rfl,rfl,(by show (0:Int)<12;decide),_,_,rfl,rfl,_,_,rfl,hb,bb.mono (by decide),fun p H5 s5 k5=>?_⟩
  obtain ⟨xs5,hxs,hxl,rw5⟩:=rw1.app s5 k5
  have hlz:xs5.length<sizeLine:=by omega
  refine ⟨D,xs5,_,rfl,rfl,hxs,hlz,_,rfl,_,_,rfl,rfl,⟨by decide,bt2 (by decide +kernel)⟩,⟨_,_,_,rfl⟩,CK (sm.trans s5) hD _,_,rw5,by simp [l1],fun q hq=>?_,fun q hq=>?_⟩
  ·rcases List.mem_append.mp hq with z | z
   ·exact p1 q z
   ·rw [List.mem_singleton.mp z];exact ZJ pt
  ·rcases List.mem_append.mp hq with z | z
   ·exact b1 q z
   ·rw [List.mem_singleton.mp z];exact ABx pt
 ·rintro σ H1 ⟨⟨r,v,w',rfl⟩,sm,qs,rw1,l1,p1,b1⟩
  exact ⟨_,rfl,q D qs H1 sm hD rw1 l1 p1 b1⟩
def Hx:Sp:=fun vs H Q _=>∃p g w gs ws,vs=[.ref p]∧H p=some (.tup [.ref g,.ref w])∧Rw H g gs∧Rw H w ws∧C30 gs ws∧∀H',Aj H H'→Q (.str (sx (jn 32 (Bf gs ws)))) H'
theorem SX:Aw ["_law_one"] ["_law_one"] (Ac FQ):=⟨rfl,rfl,rfl,by decide +kernel,rfl,by decide +kernel,by decide +kernel⟩
theorem SN(F:Fun K "_law_text" "_law_text" FQ f fd)(T:Txt mg):BZ P w K mg base CX0 1 f fd ["_law_one"] GF:=by
 refine F.ok SX (fun vs H Q E h=>?_) (fun cdv A outer s H vs Q E hr h=>?_)
 ·obtain ⟨p,q,rfl,_⟩:=h
  rfl
 obtain ⟨p,q,rfl,kp,hq,k⟩:=h
 obtain ⟨l1,l2⟩:=hq.log
 have h1:=Lf hq.1
 have h2:=HW (k:=30) (by decide) hq.2
 have hz:(1000:Nat)<sizeLine:=by decide
 have eb:itx (q.den:Int)=dgs q.den:=by
  unfold itx
  rw [if_neg (by omega)]
  rfl
 refine ⟨_,(Ab (BL (Ao Bo (Az BP (pv 0) Af (fun _ _=>rfl)) Af (Ar _))
    (Ah (Al (Bj Gg rfl T.z_str boot_str (Aa (Az BP (pv 0) Af (fun _ _=>rfl)) Ae))))
    Am)
   (Ah (Al (Ax Dh (Ax Dh (Bj Gg rfl T.z_str boot_str (Aa (Az BP (pv 0) Af (fun _ _=>rfl)) Ae)) Aq) (Bj Gg rfl T.z_str boot_str (Aa (Az BP (pv 0) Af (fun _ _=>rfl)) Ae)))))),?_⟩
 refine ⟨_,rfl,_,_,_,_,rfl,rfl,kp.sq,rfl,rfl,_,rfl,Jt (fun c=>?_) (fun c=>?_)⟩
 ·have c':(q.den:Int)=1:=V.int.inj (of_decide_eq_true c)
  unfold ftx at k
  rw [if_pos (by omega)] at k
  refine ⟨_,rfl,_,_,_,_,rfl,rfl,kp.sq,rfl,_,rfl,l1,?_⟩
  rw [show (toString q.num:Str)=sx (itx q.num) from tos q.num]
  exact k
 ·have c':¬(q.den:Int)=1:=fun z=>of_decide_eq_false (Bool.eq_false_iff.mpr c) (congrArg V.int z)
  unfold ftx at k
  rw [if_neg (by omega)] at k
  refine ⟨_,rfl,_,_,_,_,rfl,rfl,kp.sq,rfl,_,rfl,l1,_,_,rfl,rfl,?_,_,rfl,_,_,_,_,rfl,rfl,kp.sq,rfl,_,rfl,l2,_,_,rfl,rfl,?_,?_⟩
  ·rw [show (toString q.num:Str)=sx (itx q.num) from tos q.num,BX]
   show _+1≤_
   omega
  ·rw [show (toString q.num:Str)=sx (itx q.num) from tos q.num,show (toString (q.den:Int):Str)=sx (itx (q.den:Int)) from tos _,Sq,BX,BX,eb]
   show _+1+_≤_
   omega
  ·rw [show (toString q.num:Str)=sx (itx q.num) from tos q.num,show (toString (q.den:Int):Str)=sx (itx (q.den:Int)) from tos _,eb,show (Str.ofString "/")=sx [47] from rfl,Fx,Fx,List.append_assoc]
   exact k
theorem Ex:Aw ["_law_cord","_law_gaps","_law_weights","_law_words","_law_k"] ["_law_cord"] (Ac Em):=⟨rfl,rfl,rfl,by decide +kernel,rfl,by decide +kernel,by decide +kernel⟩
set_option maxHeartbeats 1000000 in
theorem QK(F:Fun K "_law_shown" "_law_shown" Em f fd)(T:Txt mg)(C_law_text:Cal P w K mg base "_law_text" 1 ["_law_one"] GF):BZ P w K mg base CX0 2 f fd ["_law_cord"] Hx:=by
 refine F.ok Ex (fun vs H Q E h=>?_) (fun cdv A outer s H vs Q E hr h=>?_)
 ·obtain ⟨p,g,w,gs,ws,rfl,_⟩:=h
  rfl
 obtain ⟨p,g1,w1,gs,ws,rfl,ep,rg,rw',c30,k⟩:=h
 have aB:=c30.fine.len
 have aC:=c30.fine.most
 have hz:(1000:Nat)<sizeLine:=by decide
 have h0:0<gs.length:=by omega
 obtain ⟨pg,eg,kg⟩:=id rg
 obtain ⟨pw,ew,kw⟩:=id rw'
 have lpg:=kg.length
 have lpw:=kw.length
 obtain ⟨p0,e0,k0⟩:=kg.get (List.getElem?_eq_getElem h0)
 refine ⟨_,(Ab (Jx (pv 0) (MP rfl (CT (CZ (i:=1) Ex.nd rfl (Or.inl rfl)) (CT (CZ (i:=2) Ex.nd rfl (Or.inl rfl)) Ie))))
   (Ab (Ay (i:=3) Ex.nd rfl (Or.inl rfl) (Er (Aa (BR C_law_text hr (Aa (Az Ba (pv 1) Af (fun _ _=>rfl)) Ae)) Ae)))
   (Ab (MJ PassesOwn.never rfl (Ib rfl T.z_range (Aa (BJ Bd rfl T.z_len PySem.boot_len (Aa (pv 2) Ae)) Ae)) (CZ (i:=4) Ex.nd rfl (Or.inl rfl))
    (Ab (Ep (FP PySem.F.plainAttrs_list PySem.F.slot_list_append PySem.F.type_list_append Fp (pv 3) (Aa (Ax Dh (Ax Dh Aq (BR C_law_text hr (Aa (Az Ba (pv 2) (pv 4) (fun _ _=>rfl)) Ae))) Aq) Ae)))
    (Ah (Ep (FP PySem.F.plainAttrs_list PySem.F.slot_list_append PySem.F.type_list_append Fp (pv 3) (Aa (BR C_law_text hr (Aa (Az Ba (pv 1) (Ax DX (pv 4) Af) (fun _ _=>rfl)) Ae)) Ae))))))
   (Ah (Al (FP PySem.F.plainAttrs_str PySem.F.slot_str_join PySem.F.type_str_join Lb Aq (Aa (pv 3) Ae))))))),?_⟩
 refine ⟨_,rfl,p,_,rfl,SqT.of ep,rfl,_,_,rfl,_,_,rfl,rfl,?_⟩
 refine ⟨_,rfl,g1,_,_,_,rfl,rfl,SqL.of eg,Dr (j:=0) e0,p0,_,rfl,k0,c30.g30 _ (List.getElem_mem h0),(by show 1≤sizeLine;decide),fun D hD=>?_⟩
 have u2:=Ag hD (.lst [.str (sx (ftx gs[0]))])
 have eD2:upd H D (.lst [.str (sx (ftx gs[0]))]) D=some (.lst (([ftx gs[0]].map sx).map V.str)):=Ad
 generalize upd H D (.lst [.str (sx (ftx gs[0]))])=H2 at *
 refine ⟨_,rfl,w1,_,rfl,.inl (SqL.of (u2 _ _ ew)),_,rfl,by omega,by rw [List.length_map];omega,?_⟩
 rw [Int.toNat_natCast,List.length_map,lpw]
 have eg2:=u2 _ _ eg
 have ew2:=u2 _ _ ew
 have kg2:=kg.keep u2
 have kw2:=kw.keep u2
 have ng:g1≠D:=Av eg hD
 have nw:w1≠D:=Av ew hD
 have lgd:(gs.drop 1).length=ws.length:=by rw [List.length_drop];omega
 refine Oz (n:=ws.length) (fun i σ H'=>(∃v,σ=[some (.ref p),some (.ref g1),some (.ref w1),some (.ref D),v])∧Aj H H'∧(∀b o,b≠D→H2 b=some o→H' b=some o)∧H' D=some (.lst (((ftx gs[0]::cw (ws.take i) ((gs.drop 1).take i)).map sx).map V.str))) ⟨⟨_,rfl⟩,u2,fun _ _ _ e=>e,eD2⟩ ?_ ?_
 ·rintro i σ H5 hi ⟨⟨v,rfl⟩,sm,kp0,eD1⟩
  have hi2:i<(gs.drop 1).length:=by omega
  have hi3:i+1<gs.length:=by omega
  have kq:∀{p:Addr} {q:Rat},Pq H2 p q→Pq H5 p q:=fun {p q} h=>kp0 _ _ (fun z=>by
   rw [z] at h
   have h':H2 D=some (.tup [.int q.num,.int q.den]):=h
   rw [eD2] at h'
   cases h') h
  obtain ⟨p1,e1,k1⟩:=kw2.get (List.getElem?_eq_getElem hi)
  obtain ⟨p2,e2,k2⟩:=kg2.get (List.getElem?_eq_getElem hi3)
  have eg':gs[i+1]=(gs.drop 1)[i]:=by
   rw [List.getElem_drop]
   congr 1
   omega
  rw [eg'] at k2
  have f1:=c30.w30 _ (List.getElem_mem hi)
  have f2:F30 (gs.drop 1)[i]:=c30.g30 _ (List.mem_of_mem_drop (List.getElem_mem hi2))
  have l1:=Fz f1
  have k1':=kq k1
  have k2':=kq k2
  have e2':atI (pg.map V.ref) (0+(i:Int)+1)=some (.ref p2):=by
   rw [show (0+(i:Int)+1)=((i+1:Nat):Int) by omega]
   exact Dr e2
  have lc:(cw (ws.take i) ((gs.drop 1).take i)).length=2*i:=by
   rw [Qx (by rw [List.length_take,List.length_take];omega),List.length_take]
   omega
  have e40:Str.ofString "("++sx (ftx ws[i])++Str.ofString ")"=sx (40::(ftx ws[i]++[41])):=by
   rw [show Str.ofString "("=sx [40] from rfl,show Str.ofString ")"=sx [41] from rfl,Fx,Fx]
   rfl
  refine ⟨_,rfl,.inl ⟨rfl,_,SqL.of eD1⟩,_,rfl,_,rfl,w1,_,_,_,rfl,rfl,SqL.of (kp0 _ _ nw ew2),AFn e1,p1,_,rfl,k1',f1,_,_,rfl,rfl,?_,_,_,rfl,rfl,?_,D,_,_,rfl,rfl,eD1,?_,?_⟩
  ·rw [BX]
   show 1+_≤_
   omega
  ·rw [Sq,BX]
   show 1+_+1≤_
   omega
  ·rw [List.length_map,List.length_map,List.length_cons]
   omega
  rw [e40]
  have k2'':Pq (upd H5 D (.lst (((ftx gs[0]::cw (ws.take i) ((gs.drop 1).take i)).map sx).map V.str++[.str (sx (40::(ftx ws[i]++[41])))]))) p2 (gs.drop 1)[i]:=k2'.updL eD1
  have eg5:upd H5 D (.lst (((ftx gs[0]::cw (ws.take i) ((gs.drop 1).take i)).map sx).map V.str++[.str (sx (40::(ftx ws[i]++[41])))])) g1=some (.lst (pg.map V.ref)):=by
   rw [Ai ng]
   exact kp0 _ _ ng eg2
  refine ⟨_,rfl,.inl ⟨rfl,_,SqL.of Ad⟩,_,rfl,_,rfl,_,_,rfl,rfl,g1,_,_,_,rfl,rfl,SqL.of eg5,e2',p2,_,rfl,k2'',f2,D,_,_,rfl,rfl,Ad,?_,⟨_,rfl⟩,CK (CK sm hD _) hD _,fun b o n e=>?_,?_⟩
  ·rw [List.length_append,List.length_map,List.length_map,List.length_cons]
   show _+1<_
   omega
  ·rw [Ai n,Ai n]
   exact kp0 b o n e
  ·rw [Ad,List.take_succ_eq_append_getElem hi,List.take_succ_eq_append_getElem hi2,Qh _ _ (by rw [List.length_take,List.length_take];omega)]
   simp
 ·rintro σ H5 ⟨⟨v,rfl⟩,sm,kp,eD⟩
  rw [List.take_length,show (gs.drop 1).take ws.length=gs.drop 1 by rw [←lgd,List.take_length]] at eD
  have e0':(ftx gs[0]::cw ws (gs.drop 1))=Bf gs ws:=by
   unfold Bf
   rw [Po.getD_in h0]
  rw [e0'] at eD
  have k1:=k H5 sm
  rw [←Lq] at k1
  exact ⟨rfl,_,rfl,_,D,_,rfl,rfl,SqL.of eD,Vc c30.len (by rw [c30.cnt];omega),k1⟩
structure Yq(gs ws:List Rat):Prop where
 len:gs.length=ws.length+1
 few:ws.length≤3
 pos:(∀q∈gs,0<q)∧∀q∈ws,0<q
 bq:(∀q∈gs,Bq 4 q)∧∀q∈ws,Bq 4 q
def Mj:Sp:=fun vs H Q _=>∃c:Int,vs=[.int c]∧∀r g w gs ws H',Aj H H'→H' r=some (.tup [.ref g,.ref w])→H g=none→H w=none→g≠w→Rw H' g gs→Rw H' w ws→Yq gs ws→Q (.ref r) H'
theorem Hz:Aw ["_law_rest","_law_beads","_law_row_here"] ["_law_rest"] (Ac Fd):=⟨rfl,rfl,rfl,by decide +kernel,rfl,by decide +kernel,by decide +kernel⟩
theorem Rr(F:Fun K "_law_made" "_law_made" Fd f fd)(T:Txt mg)(C_law_twelfths:Cal P w K mg base "_law_twelfths" 2 ["_law_cell","_law_many"] Hq):BZ P w K mg base CX0 3 f fd ["_law_rest"] Mj:=by
 refine F.ok Hz (fun vs H Q E h=>?_) (fun cdv A outer s H vs Q E hr h=>?_)
 ·obtain ⟨c,rfl,_⟩:=h
  rfl
 obtain ⟨c,rfl,q⟩:=h
 refine ⟨_,(Ab (Ay (i:=1) Hz.nd rfl (Or.inl rfl) (Ax Dd (pv 0) Af))
   (Ab (Ay (i:=2) Hz.nd rfl (Or.inl rfl) (BR C_law_twelfths hr (Aa (Ax DK (pv 0) Af) (Aa (Ax DX (Ax Ea Af (pv 1)) Af) Ae))))
   (Ah (Al (Dc (Aa (CV Es (pv 2) Do (CQ (Ax DX (pv 1) Af))) (Aa (CV Es (pv 2) (CQ (Ax DX (pv 1) Af)) Do) Ae))))))),?_⟩
 obtain ⟨b,hb,hb3⟩:∃b:Nat,c%4=(b:Int)∧b≤3:=⟨(c%4).toNat,by omega,by omega⟩
 have b10:Bt 10 (c%4):=Bt.between (by omega) (by omega)
 refine ⟨_,rfl,_,_,rfl,rfl,(show (0:Int)<4 by decide),?_⟩
 refine ⟨_,rfl,_,_,rfl,rfl,⟨by decide,Bt.mono (m:=3) (by show (4:Nat)<8;decide) (by decide)⟩,_,rfl,_,_,rfl,rfl,Hf (m:=2) (by show (2:Nat)<4;decide) b10 (by decide),_,_,rfl,rfl,c/4,2*b+1,?_,by omega,fun r qs H1 s1 nr rq lq pos bq=>?_⟩
 ·have:(2*(c%4)+1)=((2*b+1:Nat):Int):=by omega
  show [V.int (c/4),V.int (2*(c%4)+1)]=_
  rw [this]
 obtain ⟨pq,er,kq⟩:=id rq
 have e1:c%4+1=((b+1:Nat):Int):=by omega
 refine ⟨_,rfl,_,rfl,_,_,rfl,rfl,_,rfl,r,_,rfl,SqL.of er,fun g hg=>?_⟩
 have rg:=Rw.cto kq hg (b+1)
 rw [←e1] at rg
 have u1:=Ag hg (.lst (Cj (pq.map V.ref) none (some (c%4+1))))
 have er1:=u1 _ _ er
 have kq1:=kq.keep u1
 refine ⟨_,rfl,_,rfl,_,_,rfl,rfl,_,rfl,r,_,rfl,SqL.of er1,fun w hw=>?_⟩
 have rw1:=Rw.cfr kq1 hw (b+1)
 rw [←e1] at rw1
 have u2:=Ag hw (.lst (Cj (pq.map V.ref) (some (c%4+1)) none))
 refine ⟨(by show 2≤sizeLine;decide),fun t ht=>?_⟩
 have u3:=Ag ht (.tup [.ref g,.ref w])
 have ngw:g≠w:=Av (show upd H1 g (.lst (Cj (pq.map V.ref) none (some (c%4+1)))) g=_ from Ad) hw
 exact q t g w (qs.take (b+1)) (qs.drop (b+1)) _ (s1.trans (u1.trans (u2.trans u3))) Ad (s1.free hg) (s1.free (u1.free hw)) ngw (rg.keep (u2.trans u3)) (rw1.keep u3) ⟨by rw [List.length_take,List.length_drop];omega,by rw [List.length_drop];omega,⟨fun x hx=>pos x (List.mem_of_mem_take hx),fun x hx=>pos x (List.mem_of_mem_drop hx)⟩,⟨fun x hx=>bq x (List.mem_of_mem_take hx),fun x hx=>bq x (List.mem_of_mem_drop hx)⟩⟩
theorem Kv{lo:Int}{n:Nat}{te:Shared→Hp→Addr→List Addr→TE}{js:List Nat}{σ:L2.St}{H1:Hp}{Q:VK}(hn:n≤100000)(f:Nat→V→Prop)
  (hs:∀s₀ H₀ C ex i H ys (D:Addr) (R:VK),i<n→ys.length=i→Aj H1 H→H1 D=none→H D=some (.lst ys)→(∀y H2,H2 D=some (.lst ys)→Aj H1 H2→f i y→R y H2)→te s₀ H₀ C ex (some (.int (lo+i))::js.map fun j=>(σ[j]?).join) H R)
  (hd:∀ys H D,ys.length=n→(∀i y,ys[i]?=some y→f i y)→Aj H1 H→H1 D=none→H D=some (.lst ys)→Q (.ref D) H) :
  JL (Itr lo n) te js σ Q H1:=by
 intro D hD
 refine ⟨fun i m ys H=>m=n-i∧i≤n∧ys.length=i∧(∀j y,ys[j]?=some y→f j y)∧Aj H1 H∧H D=some (.lst ys),⟨n,by simp,Nat.zero_le _,rfl,fun j y e=>by simp at e,Ag hD _,Ad⟩,?_⟩
 rintro i m ys H ⟨rfl,hi,hl,hf,sm,hDl⟩
 refine ⟨hDl,?_⟩
 by_cases hlt:i<n
 ·refine .inr ⟨hlt,fun x H' y s₀ H₀ C ex=>?_⟩
  obtain ⟨e,y⟩:=y
  subst e y
  refine hs s₀ H₀ C ex i H' ys D _ hlt hl sm hD hDl fun y H2 h1 h2 h3=>⟨h1,?_,n-(i+1),by omega,rfl,hlt,by simp [hl],fun j z ez=>?_,fun b o q=>?_,Ad⟩
  ·have:(100000:Nat)<sizeLine:=by decide
   omega
  ·by_cases hj:j<ys.length
   ·rw [List.getElem?_append_left hj] at ez
    exact hf j z ez
   ·rw [List.getElem?_append_right (by omega)] at ez
    have hj0:j-ys.length=0:=by
     by_cases h0:j-ys.length=0
     ·exact h0
     ·rw [List.getElem?_eq_none (by simp;omega)] at ez
      cases ez
    rw [hj0] at ez
    cases ez
    have:j=i:=by omega
    subst this
    exact h3
  ·rw [Ai (Av q hD)]
   exact h2 b o q
 ·have e:i=n:=by omega
  subst e
  exact .inl ⟨Nat.le_refl _,hd ys H D hl hf sm hD hDl⟩
theorem Sy{i:Int}(h0:0≤i)(h1:i<26):atI (Str.ofString "abcdefghijklmnopqrstuvwxyz").cps.toList i=some (97+i.toNat):=by
 obtain ⟨n,rfl⟩:∃n:Nat,i=n:=⟨i.toNat,by omega⟩
 have hn:n<26:=by omega
 refine Dr (j:=n) ?_
 show ((List.range 26).map (97+·))[n]?=_
 rw [List.getElem?_map,List.getElem?_range hn,Int.toNat_natCast]
 rfl
theorem QS{i:Int}(h0:0≤i)(h1:i<26):97+i.toNat∈(List.range 26).map (97+·):=List.mem_map.mpr ⟨i.toNat,List.mem_range.mpr (by omega),rfl⟩
theorem PL:∀ws:List (List Nat),Str.join (sx []) (ws.map sx)=sx ws.flatten
 | []=>rfl
 | [w]=>by
  show sx w=sx ([w].flatten)
  simp
 | w::v::r=>by
  show sx w++sx []++Str.join (sx []) ((v::r).map sx)=_
  rw [PL (v::r),Fx,Fx,List.append_nil]
  rfl
theorem YM{ts:List (List Nat)}(h:∀t∈ts,t.length≤64)(hn:ts.length≤1000):JoinOk (sx []) (ts.map sx)=true:=by
 have hz:(100000:Nat)<sizeLine:=by decide
 have hf:=StrLaws.joinFits (sep:=sx []) (texts:=ts.map sx) (B:=64) (fun y hy=>by
  obtain ⟨t,ht,rfl⟩:=List.mem_map.mp hy
  rw [BX]
  exact h t ht) (by
  rw [List.length_map]
  show ts.length*64+ts.length*0≤_
  omega)
 unfold JoinOk
 rw [hf]
 rfl
def Mp:Sp:=fun vs H Q _=>∃(c:Int) (k:Nat),vs=[.int c,.int k]∧k≤100∧∀l H',Aj H H'→Nm l→Q (.str (sx l)) H'
theorem GJ:Aw ["_law_cell","_law_k","_law_letters","_law_size","_law_spot","_law_row_here"] ["_law_cell","_law_k"] (Ac Ec):=⟨rfl,rfl,rfl,by decide +kernel,rfl,by decide +kernel,by decide +kernel⟩
set_option maxHeartbeats 1000000 in
theorem RX(F:Fun K "_law_name" "_law_name" Ec f fd)(T:Txt mg):BZ P w K mg base CX0 1 f fd ["_law_cell","_law_k"] Mp:=by
 refine F.ok GJ (fun vs H Q E h=>?_) (fun cdv A outer s H vs Q E hr h=>?_)
 ·obtain ⟨c,k,rfl,_⟩:=h
  rfl
 obtain ⟨c,k,rfl,hk,q⟩:=h
 refine ⟨_,(Ab (Ay (i:=2) GJ.nd rfl (Or.inr rfl) Aq)
   (Ab (BL (Ao Bo (Ax Dd (pv 0) Af) Af (Ar _))
    (Ah (Al (Ax Zc (Az UG (pv 2) (Ax Dd (Ax DX (Ax DK (pv 0) Af) (Ax Ea Af (pv 1))) Af) (fun _ _=>rfl)) (Ax DX Af (Ax Dd (Ax DX (Ax DK (pv 0) Af) (Ax Ea Af (pv 1))) Af)))))
    Am)
   (Ab (Ay (i:=3) GJ.nd rfl (Or.inl rfl) (Ax DX Af (Ax Dd (pv 0) Af)))
   (Ab (Ay (i:=4) GJ.nd rfl (Or.inl rfl) (Ax Dd (Ax DK (pv 0) Af) (pv 3)))
   (Ab (HQ (i:=5) GJ.nd rfl (Or.inl rfl) (N':=["_law_place","_law_letters","_law_cell"]) (fsc:=Ac Ec) (N:=["_law_cell","_law_k","_law_letters","_law_size","_law_spot","_law_row_here"]) [2,0] ⟨rfl,by decide +kernel,by decide +kernel,by decide +kernel,rfl,by decide +kernel,rfl,by decide +kernel⟩ (Ib rfl T.z_range (Aa (pv 3) Ae)) (fun _ _ _ _=>(Az UG (pv 1) (Ax Dd (Ax DK (pv 2) Af) Af) (fun _ _=>rfl))))
   (Ab (Jx (Az UG (pv 2) (Ax Dd (Ax DX (Ax DK (pv 0) Af) (pv 1)) Af) (fun _ _=>rfl)) (YL (pv 5) (pv 4) Rh))
   (Ah (Al (FP PySem.F.plainAttrs_str PySem.F.slot_str_join PySem.F.type_str_join Lb Aq (Aa (pv 5) Ae)))))))))),?_⟩
 have bk:Bt 10 (k:Int):=Bt.between (by omega) (by omega)
 have b9:∀{m:Int} {j:Nat},Bt j m→j≤9000→Bt 9000 m:=fun h l=>h.mono l
 refine ⟨_,rfl,_,_,rfl,rfl,(show (0:Int)<3 by decide),rfl,_,rfl,Jt (fun h1=>?_) (fun h1=>?_)⟩
 ·have a1:=Int.emod_nonneg (c/64+7*(k:Int)) (show (26:Int)≠0 by decide)
  have a2:=Int.emod_lt_of_pos (c/64+7*(k:Int)) (show (0:Int)<26 by decide)
  have a3:=Int.emod_nonneg (c/8+3*(k:Int)) (show (8:Int)≠0 by decide)
  have a4:=Int.emod_lt_of_pos (c/8+3*(k:Int)) (show (0:Int)<8 by decide)
  refine ⟨_,rfl,_,rfl,_,_,rfl,rfl,⟨by decide,Bt.between (by decide +kernel) (by decide +kernel)⟩,_,rfl,_,_,rfl,rfl,Hf (m:=3) (by show (7:Nat)<8;decide) bk (by decide),_,_,rfl,rfl,_,_,rfl,rfl,(show (0:Int)<26 by decide),_,_,_,rfl,rfl,(by decide +kernel),Sy a1 a2,?_⟩
  refine ⟨_,rfl,_,_,rfl,rfl,⟨by decide,Bt.between (by decide +kernel) (by decide +kernel)⟩,_,rfl,_,_,rfl,rfl,Hf (m:=2) (by show (3:Nat)<4;decide) bk (by decide),_,_,rfl,rfl,_,_,rfl,rfl,(show (0:Int)<8 by decide),_,_,rfl,rfl,_,_,rfl,rfl,by omega,by omega,q _ H (Aj.refl _) ⟨⟨?_,?_⟩,fun x hx=>?_⟩⟩
  ·rw [List.length_replicate]
   omega
  ·rw [List.length_replicate]
   omega
  ·rw [List.eq_of_mem_replicate hx]
   exact QS a1 a2
 ·have a1:=Int.emod_nonneg (c/64) (show (26:Int)≠0 by decide)
  have a2:=Int.emod_lt_of_pos (c/64) (show (0:Int)<26 by decide)
  have a3:=Int.emod_nonneg (c/2000+(k:Int)) (show (26:Int)≠0 by decide)
  have a4:=Int.emod_lt_of_pos (c/2000+(k:Int)) (show (0:Int)<26 by decide)
  have c1:=Int.emod_nonneg c (show (8:Int)≠0 by decide)
  have c2:=Int.emod_lt_of_pos c (show (0:Int)<8 by decide)
  have d1:=Int.emod_nonneg (c/8) (show (1+c%8:Int)≠0 by omega)
  have d2:=Int.emod_lt_of_pos (c/8) (show (0:Int)<1+c%8 by omega)
  have hz:(100000:Nat)<sizeLine:=by decide
  refine ⟨_,rfl,_,_,rfl,rfl,(show (0:Int)<8 by decide),_,_,rfl,rfl,?_⟩
  refine ⟨_,rfl,_,_,rfl,rfl,⟨by decide,Bt.between (by decide +kernel) (by decide +kernel)⟩,_,rfl,_,_,rfl,rfl,(show (0:Int)<1+c%8 by omega),?_⟩
  refine ⟨_,rfl,_,rfl,by omega,by omega,Kv (by omega) (fun _ y=>y=.str (sx [97+(c/64%26).toNat])) ?_ ?_⟩
  ·intro s₀ H₀ C ex i H' ys D R hi hy sH nD eD fin
   exact ⟨_,rfl,_,rfl,_,_,rfl,rfl,⟨by decide,Bt.between (by decide +kernel) (by decide +kernel)⟩,_,_,rfl,rfl,(show (0:Int)<26 by decide),_,_,_,rfl,rfl,(by decide +kernel),Sy a1 a2,fin _ H' eD sH rfl⟩
  ·intro ys H1 D hl hf s1 nD eD
   have eys:ys=((List.replicate (1+c%8).toNat [97+(c/64%26).toNat]).map sx).map V.str:=by
    refine List.ext_getElem? fun i=>?_
    by_cases hi:i<ys.length
    ·have h2:ys[i]?=some ys[i]:=List.getElem?_eq_getElem hi
     rw [h2,hf i _ h2,List.getElem?_map,List.getElem?_map,List.getElem?_replicate,if_pos (by omega)]
     rfl
    ·rw [List.getElem?_eq_none (by omega),List.getElem?_eq_none (by rw [List.length_map,List.length_map,List.length_replicate];omega)]
   have hix:ixN ys.length (c/8%(1+c%8))=some (c/8%(1+c%8)).toNat:=by
    unfold ixN
    rw [if_pos d1,if_pos (by rw [hl];(first | lia | omega))]
   refine ⟨_,rfl,_,rfl,_,_,rfl,rfl,⟨by decide,Bt.between (by decide +kernel) (by decide +kernel)⟩,_,rfl,_,_,rfl,rfl,_,_,rfl,rfl,(show (0:Int)<26 by decide),_,_,_,rfl,rfl,(by decide +kernel),Sy a3 a4,_,rfl,_,rfl,D,ys,_,_,rfl,rfl,eD,hix,?_⟩
   have ews:ys.set (c/8%(1+c%8)).toNat (.str (sx [97+((c/2000+(k:Int))%26).toNat]))=(((List.replicate (1+c%8).toNat [97+(c/64%26).toNat]).set (c/8%(1+c%8)).toNat [97+((c/2000+(k:Int))%26).toNat]).map sx).map V.str:=by
    rw [eys,List.map_set,List.map_set]
   have hj:(c/8%(1+c%8)).toNat<(List.replicate (1+c%8).toNat [97+(c/64%26).toNat]).length:=by rw [List.length_replicate];(first | lia | omega)
   have lws:((List.replicate (1+c%8).toNat [97+(c/64%26).toNat]).set (c/8%(1+c%8)).toNat [97+((c/2000+(k:Int))%26).toNat]).length=(1+c%8).toNat:=by rw [List.length_set,List.length_replicate]
   have mem:∀w∈(List.replicate (1+c%8).toNat [97+(c/64%26).toNat]).set (c/8%(1+c%8)).toNat [97+((c/2000+(k:Int))%26).toNat],w.length=1∧∀y∈w,y∈(List.range 26).map (97+·):=fun w hw=>by
    rcases List.mem_or_eq_of_mem_set hw with z | z
    ·rw [List.eq_of_mem_replicate z]
     exact ⟨rfl,fun y hy=>by rw [List.mem_singleton.mp hy];exact QS a1 a2⟩
    ·rw [z]
     exact ⟨rfl,fun y hy=>by rw [List.mem_singleton.mp hy];exact QS a3 a4⟩
   have eU:upd H1 D (.lst (ys.set (c/8%(1+c%8)).toNat (.str (sx [97+((c/2000+(k:Int))%26).toNat])))) D=some (.lst ((((List.replicate (1+c%8).toNat [97+(c/64%26).toNat]).set (c/8%(1+c%8)).toNat [97+((c/2000+(k:Int))%26).toNat]).map sx).map V.str)):=by
    rw [Ad,ews]
   have sU:=CK s1 nD (.lst (ys.set (c/8%(1+c%8)).toNat (.str (sx [97+((c/2000+(k:Int))%26).toNat]))))
   generalize hws:(List.replicate (1+c%8).toNat [97+(c/64%26).toNat]).set (c/8%(1+c%8)).toNat [97+((c/2000+(k:Int))%26).toNat]=ws at *
   have flen:∀us:List (List Nat),(∀w∈us,w.length=1∧∀y∈w,y∈(List.range 26).map (97+·))→us.flatten.length=us.length∧∀y∈us.flatten,y∈(List.range 26).map (97+·):=fun us=>by
    induction us with
    | nil=>intro _;exact ⟨rfl,fun y hy=>absurd hy (by simp)⟩
    | cons u r ih =>
     intro h
     obtain ⟨i1,i2⟩:=ih fun w hw=>h w (List.mem_cons_of_mem _ hw)
     obtain ⟨j1,j2⟩:=h u (by simp)
     refine ⟨by rw [List.flatten_cons,List.length_append,i1,j1,List.length_cons];(first | lia | omega),fun y hy=>?_⟩
     rw [List.flatten_cons] at hy
     rcases List.mem_append.mp hy with z | z
     ·exact j2 y z
     ·exact i2 y z
   obtain ⟨f1,f2⟩:=flen ws mem
   have k1:=q ws.flatten _ sU ⟨⟨by (first | lia | omega),by (first | lia | omega)⟩,f2⟩
   have ej:Txt.join (sx []) (ws.map sx)=sx ws.flatten:=by
    unfold Txt.join
    rw [StrLaws.glued_eq_join,PL]
   rw [←ej] at k1
   exact ⟨rfl,_,rfl,_,D,_,rfl,rfl,SqL.of eU,YM (fun w hw=>by rw [(mem w hw).1];decide) (by (first | lia | omega)),k1⟩
def BkM(H:Hp)(aG:List (Key×V))(m:List Nat→Option (List Rat×List Rat)):Prop:=∀l,(m l=none→Ck aG (.inr (sx l):Key)=none)∧∀g,m l=some g→∃p ga wa,Ck aG (.inr (sx l):Key)=some (.ref p)∧H p=some (.tup [.ref ga,.ref wa])∧Rw H ga g.1∧Rw H wa g.2
def Bk(N:Nat)(H:Hp)(b:Addr)(m:List Nat→Option (List Rat×List Rat)):Prop:=∃aG,H b=some (.dK aG)∧aG.length≤N∧BkM H aG m
theorem BkM.keep{H H':Hp}{aG:List (Key×V)}{m:List Nat→Option (List Rat×List Rat)}(h:BkM H aG m)(s:Aj H H'):BkM H' aG m:=fun l=>⟨(h l).1,fun g hg=>by
 obtain ⟨p,ga,wa,e,e2,r1,r2⟩:=(h l).2 g hg
 exact ⟨p,ga,wa,e,s _ _ e2,r1.keep s,r2.keep s⟩⟩
theorem Bk.keep{N:Nat}{H H':Hp}{b:Addr}{m:List Nat→Option (List Rat×List Rat)}(h:Bk N H b m)(s:Aj H H'):Bk N H' b m:=by
 obtain ⟨aG,e,hl,bm⟩:=h
 exact ⟨aG,s _ _ e,hl,bm.keep s⟩
theorem Pn{K:PySem.W.Frag}{a:Addr}{n:Nat}{qs:List Rat}{te:Shared→Hp→Addr→List Addr→TE}{js:List Nat}{σ:L2.St}{H1:Hp}{Q:VK}(hn:qs.length≤100000)(en:n=qs.length)(ha:Rw H1 a qs)
  (hs:∀s₀ H₀ C ex p H (R:VK),R (.ref p) H→te s₀ H₀ C ex (some (.ref p)::js.map fun j=>(σ[j]?).join) H R)
  (hd:∀H D,Aj H1 H→H1 D=none→Rw H D qs.reverse→Q (.ref D) H):JL (Itv K a n) te js σ Q H1:=by
 subst en
 intro D hD
 obtain ⟨rs,hrs,kr⟩:=ha
 have hlr:=kr.length
 refine ⟨fun i m ys H=>m=qs.length-i∧i≤qs.length∧(∃ps,ys=ps.map V.ref∧Pqs H ps (qs.reverse.take i))∧Aj H1 H∧H D=some (.lst ys),⟨qs.length,by simp,Nat.zero_le _,⟨[],rfl,.nil⟩,Ag hD _,Ad⟩,?_⟩
 rintro i m ys H ⟨rfl,hi,⟨ps,rfl,hp⟩,sm,hDl⟩
 refine ⟨hDl,?_⟩
 have hr:=sm _ _ hrs
 by_cases hlt:i<qs.length
 ·have hj:qs.length-1-i<qs.length:=by (first | lia | omega)
  obtain ⟨p0,h0,k0⟩:=(kr.keep sm).get (List.getElem?_eq_getElem hj)
  have er:qs.reverse[i]?=some qs[qs.length-1-i]:=by rw [List.getElem?_reverse hlt,List.getElem?_eq_getElem hj]
  refine .inr ⟨⟨hlt,_,_,SqL.of hr,h0⟩,fun x H' y s₀ H₀ C ex=>?_⟩
  obtain ⟨e,y⟩:=y
  subst e
  have ex':=y _ (SqL.of hr)
  rw [h0] at ex'
  cases ex'
  refine hs s₀ H₀ C ex p0 H' _ ?_
  have hl:=hp.length
  rw [List.length_take,List.length_reverse] at hl
  have hz:(100000:Nat)<sizeLine:=by decide
  refine ⟨hDl,by rw [List.length_map];(first | lia | omega),qs.length-(i+1),by (first | lia | omega),rfl,hlt,⟨ps++[p0],by simp,?_⟩,CK sm hD _,Ad⟩
  rw [List.take_succ,er]
  exact (hp.updL hDl).append (.cons (k0.updL hDl) .nil)
 ·have e:i=qs.length:=by (first | lia | omega)
  subst e
  rw [←List.length_reverse,List.take_length] at hp
  exact .inl ⟨rfl,hd H D sm hD ⟨ps,hDl,hp⟩⟩
def JF:Sp:=fun vs H Q _=>∃(N:Nat) (b:Addr) (m:List Nat→Option (List Rat×List Rat)) (l:List Nat),vs=[.ref b,.str (sx l)]∧Bk N H b m∧(∀g,m l=some g→g.1.length≤100∧g.2.length≤100) ∧
 (m l=none→∀r H',Aj H H'→H' r=some (.tup [.str "!name",.non])→Q (.ref r) H') ∧
 (∀g,m l=some g→∀r p ga wa H',Aj H H'→H' r=some (.tup [.str "ok",.ref p])→H' p=some (.tup [.ref ga,.ref wa])→Rw H' ga g.1.reverse→Rw H' wa g.2.reverse→Q (.ref r) H')
theorem Gr:Aw ["_law_book","_law_old","_law_gaps","_law_weights"] ["_law_book","_law_old"] (Ac CW):=⟨rfl,rfl,rfl,by decide +kernel,rfl,by decide +kernel,by decide +kernel⟩
theorem Nu(F:Fun K "_law_turned" "_law_turned" CW f fd)(T:Txt mg):BZ P w K mg base CX0 1 f fd ["_law_book","_law_old"] JF:=by
 refine F.ok Gr (fun vs H Q E h=>?_) (fun cdv A outer s H vs Q E hr h=>?_)
 ·obtain ⟨N,b,m,l,rfl,_⟩:=h
  rfl
 obtain ⟨N,b,m,l,rfl,⟨aG,eb,hl,bm⟩,hsz,qn,qs⟩:=h
 refine ⟨_,(Ab (BL (Hg (FT (hu1 hr) (pv 1) (pv 0)))
    (Ah (Al (Dc (Aa Aq (Aa Gp Ae)))))
    Am)
   (Ab (Jx (Dz (hu1 hr) (pv 0) (pv 1) (fun _ _=>rfl)) (MP rfl (CT (CZ (i:=2) Gr.nd rfl (Or.inl rfl)) (CT (CZ (i:=3) Gr.nd rfl (Or.inl rfl)) Ie))))
   (Ah (Al (Dc (Aa Aq (Aa (Dc (Aa (IW (N':=["_law_gap"]) (fsc:=Ac CW) (N:=["_law_book","_law_old","_law_gaps","_law_weights"]) [] ⟨rfl,by decide +kernel,by decide +kernel,by decide +kernel,rfl,by decide +kernel,rfl,by decide +kernel⟩ (Xk rfl T.z_reversed (Aa (pv 2) Ae)) (fun _ _ _ _=>(pv 0))) (Aa (IW (N':=["_law_weight"]) (fsc:=Ac CW) (N:=["_law_book","_law_old","_law_gaps","_law_weights"]) [] ⟨rfl,by decide +kernel,by decide +kernel,by decide +kernel,rfl,by decide +kernel,rfl,by decide +kernel⟩ (Xk rfl T.z_reversed (Aa (pv 3) Ae)) (fun _ _ _ _=>(pv 0))) Ae))) Ae))))))),?_⟩
 refine ⟨_,rfl,_,rfl,b,_,rfl,Dk.k (k:=.inr (sx l)) eb,_,rfl,?_⟩
 cases hm:m l with
 | none =>
  rw [(bm l).1 hm]
  exact FN ⟨(by show 2≤sizeLine;decide),fun r hr'=>qn hm r _ (Ag hr' _) Ad⟩
 | some g =>
  obtain ⟨p,ga,wa,ev,ep,rg,rw'⟩:=(bm l).2 g hm
  obtain ⟨z1,z2⟩:=hsz g hm
  rw [ev]
  refine DY ?_
  refine ⟨_,rfl,_,rfl,b,_,rfl,by rw [←ev];exact Dk.k (k:=.inr (sx l)) eb,p,_,rfl,SqT.of ep,rfl,_,_,rfl,_,_,rfl,rfl,?_⟩
  obtain ⟨pg,eg,kg⟩:=id rg
  obtain ⟨pw,ew,kw⟩:=id rw'
  refine ⟨_,rfl,ga,_,rfl,SqL.of eg,Pn (by (first | lia | omega)) (by rw [List.length_map,kg.length]) rg (fun _ _ _ _ p H' R h=>⟨_,rfl,h⟩) fun H1 D1 s1 n1 r1=>?_⟩
  refine ⟨_,rfl,wa,_,rfl,SqL.of (s1 _ _ ew),Pn (by (first | lia | omega)) (by rw [List.length_map,kw.length]) (rw'.keep s1) (fun _ _ _ _ p H' R h=>⟨_,rfl,h⟩) fun H2 D2 s2 n2 r2=>?_⟩
  refine ⟨(by show 2≤sizeLine;decide),fun p2 hp2=>⟨(by show 2≤sizeLine;decide),fun r hr'=>?_⟩⟩
  have u1:=Ag hp2 (.tup [.ref D1,.ref D2])
  have u2:=Ag hr' (.tup [.str "ok",.ref p2])
  exact qs g hm r p2 D1 D2 _ (s1.trans (s2.trans (u1.trans u2))) Ad (u2 _ _ Ad) (r1.keep (s2.trans (u1.trans u2))) (r2.keep (u1.trans u2))
def JN:Sp:=fun vs H Q _=>∃(N:Nat) (b:Addr) (m:List Nat→Option (List Rat×List Rat)) (l1 l2:List Nat),vs=[.ref b,.str (sx l1),.str (sx l2)]∧Bk N H b m∧(∀l g,m l=some g→Ez g.1 g.2) ∧
 ((m l1=none∨m l2=none)→∀r H',Aj H H'→H' r=some (.tup [.str "!name",.non])→Q (.ref r) H') ∧
 (∀g h,m l1=some g→m l2=some h→(12<g.2.length+h.2.length→∀r H',Aj H H'→H' r=some (.tup [.str "!cordNone",.non])→Q (.ref r) H') ∧
  (g.2.length+h.2.length≤12→∀r p ga wa H',Aj H H'→H' r=some (.tup [.str "ok",.ref p])→H' p=some (.tup [.ref ga,.ref wa])→Rw H' ga (jng g.1 h.1)→Rw H' wa (g.2++h.2)→Q (.ref r) H'))
theorem Gq:Aw ["_law_book","_law_one","_law_other","_law_gaps","_law_weights"] ["_law_book","_law_one","_law_other"] (Ac Dn):=⟨rfl,rfl,rfl,by decide +kernel,rfl,by decide +kernel,by decide +kernel⟩
set_option maxHeartbeats 1000000 in
theorem Nv(F:Fun K "_law_joined" "_law_joined" Dn f fd)(T:Txt mg)(C_law_plus:Cal P w K mg base "_law_plus" 2 ["_law_one","_law_other"] (JR 3900 (·+·))):BZ P w K mg base CX0 3 f fd ["_law_book","_law_one","_law_other"] JN:=by
 refine F.ok Gq (fun vs H Q E h=>?_) (fun cdv A outer s H vs Q E hr h=>?_)
 ·obtain ⟨N,b,m,l1,l2,rfl,_⟩:=h
  rfl
 obtain ⟨N,b,m,l1,l2,rfl,⟨aG,eb,hl,bm⟩,hfin,qn,qs⟩:=h
 refine ⟨_,(Ab (BL (PW.pt (GQ (Hg (FT (hu1 hr) (pv 1) (pv 0))) (Dw (Hg (FT (hu1 hr) (pv 2) (pv 0))))))
    (Ah (Al (Dc (Aa Aq (Aa Gp Ae)))))
    Am)
   (Ab (Ay (i:=3) Gq.nd rfl (Or.inl rfl) (Ax Hi (Ax Hi (CV Es (Az BP (Dz (hu1 hr) (pv 0) (pv 1) (fun _ _=>rfl)) Af (fun _ _=>rfl)) Do (CQ (Mt JB Af))) (Er (Aa (BR C_law_plus hr (Aa (Az Ba (Az BP (Dz (hu1 hr) (pv 0) (pv 1) (fun _ _=>rfl)) Af (fun _ _=>rfl)) (Mt JB Af) (fun _ _=>rfl)) (Aa (Az Ba (Az BP (Dz (hu1 hr) (pv 0) (pv 2) (fun _ _=>rfl)) Af (fun _ _=>rfl)) Af (fun _ _=>rfl)) Ae))) Ae))) (CV Es (Az BP (Dz (hu1 hr) (pv 0) (pv 2) (fun _ _=>rfl)) Af (fun _ _=>rfl)) (CQ Af) Do)))
   (Ab (Ay (i:=4) Gq.nd rfl (Or.inl rfl) (Ax Hi (Az BP (Dz (hu1 hr) (pv 0) (pv 1) (fun _ _=>rfl)) Af (fun _ _=>rfl)) (Az BP (Dz (hu1 hr) (pv 0) (pv 2) (fun _ _=>rfl)) Af (fun _ _=>rfl))))
   (Ab (BL (Ao JX (BJ Bd rfl T.z_len PySem.boot_len (Aa (pv 4) Ae)) Af (Ar _))
    (Ah (Al (Dc (Aa Aq (Aa Gp Ae)))))
    Am)
   (Ah (Al (Dc (Aa Aq (Aa (Dc (Aa (pv 3) (Aa (pv 4) Ae))) Ae))))))))),?_⟩
 refine ⟨_,rfl,_,rfl,b,_,rfl,Dk.k (k:=.inr (sx l1)) eb,_,rfl,?_⟩
 cases hm1:m l1 with
 | none =>
  rw [(bm l1).1 hm1]
  exact FN (FN ⟨(by show 2≤sizeLine;decide),fun r hr'=>qn (.inl hm1) r _ (Ag hr' _) Ad⟩)
 | some g =>
  obtain ⟨p,ga,wa,ev,ep,rg,rw'⟩:=(bm l1).2 g hm1
  rw [ev]
  refine DY ?_
  refine ⟨_,rfl,_,rfl,b,_,rfl,Dk.k (k:=.inr (sx l2)) eb,_,rfl,?_⟩
  cases hm2:m l2 with
  | none =>
   rw [(bm l2).1 hm2]
   exact FN ⟨(by show 2≤sizeLine;decide),fun r hr'=>qn (.inr hm2) r _ (Ag hr' _) Ad⟩
  | some h =>
   obtain ⟨p',ha,xa,ev',ep',rh,rx⟩:=(bm l2).2 h hm2
   rw [ev']
   refine DY ?_
   have f1:=hfin l1 g hm1
   have f2:=hfin l2 h hm2
   have n1:=f1.len
   have n2:=f2.len
   have m1':=f1.most
   have m2':=f2.most
   have hz:(1000:Nat)<sizeLine:=by decide
   have dg1:∀{H':Hp},Aj H H'→Dk H' b (.str (sx l1)) (some (.ref p)):=fun s=>by rw [←ev];exact Dk.k (k:=.inr (sx l1)) (s _ _ eb)
   have dg2:∀{H':Hp},Aj H H'→Dk H' b (.str (sx l2)) (some (.ref p')):=fun s=>by rw [←ev'];exact Dk.k (k:=.inr (sx l2)) (s _ _ eb)
   obtain ⟨p1,e1,k1⟩:=id rg
   obtain ⟨p2,e2,k2⟩:=id rh
   have lp1:=k1.length
   have lp2:=k2.length
   have hg:g.1.length-1<g.1.length:=by (first | lia | omega)
   have hh:0<h.1.length:=by (first | lia | omega)
   obtain ⟨y1,ey1,ky1⟩:=k1.get (List.getElem?_eq_getElem hg)
   obtain ⟨y2,ey2,ky2⟩:=k2.get (List.getElem?_eq_getElem hh)
   have ex1:atI (p1.map V.ref) (-1)=some (.ref y1):=by
    rw [←lp1] at ey1
    exact Om ey1
   refine ⟨_,rfl,_,rfl,b,_,rfl,dg1 (Aj.refl _),_,_,_,_,rfl,rfl,SqT.of ep,rfl,_,rfl,_,rfl,ga,_,rfl,SqL.of e1,fun m1 hm1'=>?_⟩
   have u1:=Ag hm1' (.lst (Cj (p1.map V.ref) none (some (-1))))
   have t1:Rw (upd H m1 (.lst (Cj (p1.map V.ref) none (some (-1))))) m1 (g.1.take (g.1.length-1)):=Rw.cla k1 hm1'
   generalize upd H m1 (.lst (Cj (p1.map V.ref) none (some (-1))))=HA at *
   refine ⟨_,rfl,_,rfl,b,_,rfl,dg1 u1,_,_,_,_,rfl,rfl,SqT.of (u1 _ _ ep),rfl,_,rfl,ga,_,_,_,rfl,rfl,SqL.of (u1 _ _ e1),ex1,?_⟩
   refine ⟨_,rfl,_,rfl,b,_,rfl,dg2 u1,_,_,_,_,rfl,rfl,SqT.of (u1 _ _ ep'),rfl,ha,_,_,_,rfl,rfl,SqL.of (u1 _ _ e2),Dr (j:=0) ey2,y1,y2,_,_,rfl,ky1.keep u1,ky2.keep u1,(f1.bq.1 _ (List.getElem_mem hg)).mono (by decide),(f2.bq.1 _ (List.getElem_mem hh)).mono (by decide),fun y H3 s3 ky=>?_⟩
   have kyA:Pq H3 y (g.1.getD (g.1.length-1) 0+h.1.getD 0 0):=by
    rw [Po.getD_in hg,Po.getD_in hh]
    exact ky
   have sB:=u1.trans s3
   obtain ⟨q1,f1',j1⟩:=t1.keep s3
   have lq1:=j1.length
   have hl1:(g.1.take (g.1.length-1)).length=g.1.length-1:=by rw [List.length_take];(first | lia | omega)
   refine ⟨(by show 1≤sizeLine;decide),fun m2 hm2'=>?_⟩
   have u2:=Ag hm2' (.lst [.ref y])
   refine ⟨m1,m2,_,_,rfl,rfl,u2 _ _ f1',Ad,by simp only [List.length_append,List.length_map,List.length_cons,List.length_nil];(first | lia | omega),fun m3 hm3=>?_⟩
   have u3:=Ag hm3 (.lst (q1.map V.ref++[.ref y]))
   have t3:Rw (upd (upd H3 m2 (.lst [.ref y])) m3 (.lst (q1.map V.ref++[.ref y]))) m3 (g.1.take (g.1.length-1)++[g.1.getD (g.1.length-1) 0+h.1.getD 0 0]):=Rw.cat (rs:=[y]) (j1.keep u2) (.cons (kyA.keep u2) .nil) hm3
   have sC:=sB.trans (u2.trans u3)
   generalize upd (upd H3 m2 (.lst [.ref y])) m3 (.lst (q1.map V.ref++[.ref y]))=HB at *
   refine ⟨_,rfl,_,rfl,b,_,rfl,dg2 sC,_,_,_,_,rfl,rfl,SqT.of (sC _ _ ep'),rfl,1,rfl,ha,_,rfl,SqL.of (sC _ _ e2),fun m4 hm4=>?_⟩
   have t4:Rw (upd HB m4 (.lst (Cj (p2.map V.ref) (some 1) none))) m4 (h.1.drop 1):=Rw.cfr (k2.keep sC) hm4 1
   have u4:=Ag hm4 (.lst (Cj (p2.map V.ref) (some 1) none))
   generalize upd HB m4 (.lst (Cj (p2.map V.ref) (some 1) none))=HC at *
   obtain ⟨q3,f3,j3⟩:=t3.keep u4
   obtain ⟨q4,f4,j4⟩:=t4
   have lq3:=j3.length
   have lq4:=j4.length
   rw [List.length_append,hl1,List.length_singleton] at lq3
   rw [List.length_drop] at lq4
   refine ⟨m3,m4,_,_,rfl,rfl,f3,f4,by rw [List.length_map,List.length_map];(first | lia | omega),fun m5 hm5=>?_⟩
   have t5:Rw (upd HC m5 (.lst (q3.map V.ref++q4.map V.ref))) m5 (jng g.1 h.1):=Rw.cat j3 j4 hm5
   have u5:=Ag hm5 (.lst (q3.map V.ref++q4.map V.ref))
   have sD:=sC.trans (u4.trans u5)
   generalize upd HC m5 (.lst (q3.map V.ref++q4.map V.ref))=HD at *
   obtain ⟨w1,ew1,kw1⟩:=rw'.keep sD
   obtain ⟨w2,ew2,kw2⟩:=rx.keep sD
   have lw1:=kw1.length
   have lw2:=kw2.length
   refine ⟨_,rfl,_,rfl,b,_,rfl,dg1 sD,_,_,_,_,rfl,rfl,SqT.of (sD _ _ ep),rfl,?_⟩
   refine ⟨_,rfl,_,rfl,b,_,rfl,dg2 sD,_,_,_,_,rfl,rfl,SqT.of (sD _ _ ep'),rfl,wa,xa,_,_,rfl,rfl,ew1,ew2,by rw [List.length_map,List.length_map];(first | lia | omega),fun m6 hm6=>?_⟩
   have t6:Rw (upd HD m6 (.lst (w1.map V.ref++w2.map V.ref))) m6 (g.2++h.2):=Rw.cat kw1 kw2 hm6
   have u6:=Ag hm6 (.lst (w1.map V.ref++w2.map V.ref))
   have e6:upd HD m6 (.lst (w1.map V.ref++w2.map V.ref)) m6=some (.lst (w1.map V.ref++w2.map V.ref)):=Ad
   have t5':=t5.keep u6
   have sE:=sD.trans u6
   generalize upd HD m6 (.lst (w1.map V.ref++w2.map V.ref))=HE at *
   obtain ⟨qa,qb⟩:=qs g h hm1 hm2
   refine ⟨_,rfl,m6,_,rfl,.inl (SqL.of e6),_,_,rfl,rfl,_,rfl,?_⟩
   have le:((w1.map V.ref++w2.map V.ref).length:Int)=((g.2.length+h.2.length:Nat):Int):=by rw [List.length_append,List.length_map,List.length_map,lw1,lw2]
   by_cases h12:12<g.2.length+h.2.length
   ·exact G6 (by (first | lia | omega)) ⟨(by show 2≤sizeLine;decide),fun r hr'=>qa h12 r _ (sE.trans (Ag hr' _)) Ad⟩
   ·refine Du (by (first | lia | omega)) ?_
    refine ⟨_,rfl,_,rfl,(by show 2≤sizeLine;decide),fun p2' hp2=>⟨(by show 2≤sizeLine;decide),fun r hr'=>?_⟩⟩
    have v1:=Ag hp2 (.tup [.ref m5,.ref m6])
    have v2:=Ag hr' (.tup [.str "ok",.ref p2'])
    exact qb (by (first | lia | omega)) r p2' m5 m6 _ (sE.trans (v1.trans v2)) Ad (v2 _ _ Ad) (t5'.keep (v1.trans v2)) (t6.keep (v1.trans v2))
theorem Rw.setq{H:Hp}{D p:Addr}{qs:List Rat}{q:Rat}{xs:List V}(k:Nat)(e:H D=some (.lst xs))(h:Rw H D qs)(kp:Pq H p q):Rw (upd H D (.lst (xs.set k (.ref p)))) D (qs.set k q):=by
 obtain ⟨ps,e1,k1⟩:=h
 rw [e] at e1
 cases e1
 exact ⟨ps.set k p,by rw [Ad,List.map_set],(k1.set k kp).updL e⟩
theorem Yw{qs:List Rat}{k:Nat}{x:Rat}(h:k<qs.length):mor qs k x=qs.set k (qs.getD k 0+x):=by
 unfold mor
 rw [List.set_eq_take_append_cons_drop,if_pos h,List.append_assoc]
 rfl
theorem Rw.set_mor{H:Hp}{D p:Addr}{qs:List Rat}{x:Rat}{xs:List V}{k:Nat}(hk:k<qs.length)(e:H D=some (.lst xs))(h:Rw H D qs)(kp:Pq H p (qs[k]+x)):Rw (upd H D (.lst (xs.set k (.ref p)))) D (mor qs k x):=by
 rw [Yw hk,Po.getD_in hk]
 exact Rw.setq k e h kp
def hvs(hv:Bool):Str:=if hv then "heavier" else "longer"
def Lj:Sp:=fun vs H Q _=>∃(N:Nat) (b px:Addr) (m:List Nat→Option (List Rat×List Rat)) (hv:Bool) (l:List Nat) (n:Int) (x:Rat),vs=[.ref b,.str (hvs hv),.str (sx l),.int n,.ref px]∧Bk N H b m∧Pq H px x∧Bq 101 x∧(∀l g,m l=some g→Ez g.1 g.2) ∧
 (m l=none→∀r H',Aj H H'→H' r=some (.tup [.str "!name",.non])→Q (.ref r) H') ∧
 (∀g,m l=some g→(Gd (if hv then 1 else 0) g.1 g.2 n x=.bead→∀r H',Aj H H'→H' r=some (.tup [.str "!bead",.non])→Q (.ref r) H') ∧
  (Gd (if hv then 1 else 0) g.1 g.2 n x=.nocord→∀r H',Aj H H'→H' r=some (.tup [.str "!cordNone",.non])→Q (.ref r) H') ∧
  (∀as cs,Gd (if hv then 1 else 0) g.1 g.2 n x=.ok as cs→∀r p ga wa H',Aj H H'→H' r=some (.tup [.str "ok",.ref p])→H' p=some (.tup [.ref ga,.ref wa])→Rw H' ga as→Rw H' wa cs→Q (.ref r) H'))
theorem GK:Aw ["_law_book","_law_words","_law_old","_law_place","_law_more_here","_law_gaps","_law_weights","_law_row_here"] ["_law_book","_law_words","_law_old","_law_place","_law_more_here"] (Ac Fv):=⟨rfl,rfl,rfl,by decide +kernel,rfl,by decide +kernel,by decide +kernel⟩
set_option maxHeartbeats 1000000 in
theorem Rt(F:Fun K "_law_more" "_law_more" Fv f fd)(T:Txt mg)(C_law_plus:Cal P w K mg base "_law_plus" 2 ["_law_one","_law_other"] (JR 3900 (·+·))):BZ P w K mg base CX0 3 f fd ["_law_book","_law_words","_law_old","_law_place","_law_more_here"] Lj:=by
 refine F.ok GK (fun vs H Q E h=>?_) (fun cdv A outer s H vs Q E hr h=>?_)
 ·obtain ⟨N,b,px,m,hv,l,n,x,rfl,_⟩:=h
  rfl
 obtain ⟨N,b,px,m,hv,l,n,x,rfl,⟨aG,eb,hl,bm⟩,kx,bx,hfin,qn,qs⟩:=h
 refine ⟨_,(Ab (BL (Hg (FT (hu1 hr) (pv 2) (pv 0)))
    (Ah (Al (Dc (Aa Aq (Aa Gp Ae)))))
    Am)
   (Ab (Ay (i:=5) GK.nd rfl (Or.inl rfl) (Bj Dp rfl T.z_list boot_list (Aa (Az BP (Dz (hu1 hr) (pv 0) (pv 2) (fun _ _=>rfl)) Af (fun _ _=>rfl)) Ae)))
   (Ab (Ay (i:=6) GK.nd rfl (Or.inl rfl) (Bj Dp rfl T.z_list boot_list (Aa (Az BP (Dz (hu1 hr) (pv 0) (pv 2) (fun _ _=>rfl)) Af (fun _ _=>rfl)) Ae)))
   (Ab (Ay (i:=7) GK.nd rfl (Or.inl rfl) (Az Ba (Er (Aa (pv 5) (Aa (pv 6) Ae))) (Bj Kh rfl T.z_int boot_int (Aa (Eo Bo (pv 1) Aq (Ar _)) Ae)) (fun _ _=>rfl)))
   (Ab (Ay (i:=3) GK.nd rfl (Or.inl rfl) (Ax J9 (pv 3) (Bj Kh rfl T.z_int boot_int (Aa (Eo Bo (pv 1) Aq (Ar _)) Ae))))
   (Ab (BL (PW.pt (GQ (Ao Hk (pv 3) Af (Ar _)) (Dw (Ao AAf (pv 3) (BJ Bd rfl T.z_len PySem.boot_len (Aa (pv 7) Ae)) (Ar _)))))
    (Ah (Al (Dc (Aa Aq (Aa Gp Ae)))))
    Am)
   (Ab (BL (Ao AFv (Az BP (pv 4) Af (fun _ _=>rfl)) Af (Ar _))
    (Ah (Al (Dc (Aa Aq (Aa Gp Ae)))))
    Am)
   (Ab (Jx (BR C_law_plus hr (Aa (Az Ba (pv 7) (pv 3) (fun _ _=>rfl)) (Aa (pv 4) Ae))) (YL (pv 7) (pv 3) Rh))
   (Ah (Al (Dc (Aa Aq (Aa (Dc (Aa (pv 5) (Aa (pv 6) Ae))) Ae))))))))))))),?_⟩
 refine ⟨_,rfl,_,rfl,b,_,rfl,Dk.k (k:=.inr (sx l)) eb,_,rfl,?_⟩
 cases hm:m l with
 | none =>
  rw [(bm l).1 hm]
  exact FN ⟨(by show 2≤sizeLine;decide),fun r hr'=>qn hm r _ (Ag hr' _) Ad⟩
 | some g =>
  obtain ⟨p,ga,wa,ev,ep,rg,rw'⟩:=(bm l).2 g hm
  rw [ev]
  refine DY ?_
  have dg:∀{H':Hp},Aj H H'→Dk H' b (.str (sx l)) (some (.ref p)):=fun s=>by rw [←ev];exact Dk.k (k:=.inr (sx l)) (s _ _ eb)
  have fin:=hfin l g hm
  obtain ⟨pg,eg,kg⟩:=id rg
  obtain ⟨pw,ew,kw⟩:=id rw'
  refine ⟨_,rfl,_,rfl,b,_,rfl,dg (Aj.refl _),_,_,_,_,rfl,rfl,SqT.of ep,rfl,ga,_,rfl,.inl (SqL.of eg),fun g1 hg1=>?_⟩
  have u1:=Ag hg1 (.lst (pg.map V.ref))
  have r1:=rg.copy eg hg1
  generalize upd H g1 (.lst (pg.map V.ref))=H1 at *
  refine ⟨_,rfl,_,rfl,b,_,rfl,dg u1,_,_,_,_,rfl,rfl,SqT.of (u1 _ _ ep),rfl,wa,_,rfl,.inl (SqL.of (u1 _ _ ew)),fun w1 hw1=>?_⟩
  have u2:=Ag hw1 (.lst (pw.map V.ref))
  have r2:=(rw'.keep u1).copy (u1 _ _ ew) hw1
  have r1':=r1.keep u2
  have ngw:g1≠w1:=by
   obtain ⟨_,e,_⟩:=r1
   exact Av e hw1
  have s2:=u1.trans u2
  generalize upd H1 w1 (.lst (pw.map V.ref))=H2 at *
  refine ⟨_,rfl,_,rfl,(by show 2≤sizeLine;decide),fun L hL=>?_⟩
  have u3:=Ag hL (.lst [.ref g1,.ref w1])
  have eL:upd H2 L (.lst [.ref g1,.ref w1]) L=some (.lst [.ref g1,.ref w1]):=Ad
  have rG:=r1'.keep u3
  have rW:=r2.keep u3
  have s3:=s2.trans u3
  generalize upd H2 L (.lst [.ref g1,.ref w1])=H3 at *
  cases hv
  ·have ed:decide (V.str (hvs false)=V.str (Str.ofString "heavier"))=false:=by decide +kernel
   refine ⟨_,rfl,rfl,_,rfl,L,_,_,_,rfl,rfl,SqL.of eL,by rw [ed];rfl,?_⟩
   refine ⟨_,rfl,_,rfl,rfl,_,rfl,_,_,rfl,rfl,?_⟩
   rw [ed]
   have hn:n-(if false=true then (1:Int) else 0)=n-0:=rfl
   obtain ⟨pr,eR,kr⟩:=id rG
   have lpr:=kr.length
   obtain ⟨qb,qc,qo⟩:=qs g hm
   have ef:∀z,Gd (if false=true then 1 else 0) g.1 g.2 n x=z ↔ Gd 0 g.1 g.2 n x=z:=fun z=>Iff.rfl
   refine ⟨_,rfl,_,_,rfl,rfl,_,rfl,?_⟩
   by_cases c1:n-0<0
   ·exact G6 (show n-(if false=true then (1:Int) else 0)<0 from c1) (FN ⟨(by show 2≤sizeLine;decide),fun r hr'=>qb ((ef _).mpr (by unfold Gd;rw [if_pos (.inl (by (first | lia | omega)))])) r _ (s3.trans (Ag hr' _)) Ad⟩)
   refine Du (show ¬n-(if false=true then (1:Int) else 0)<0 from c1) ?_
   refine ⟨_,rfl,_,rfl,g1,_,rfl,.inl (SqL.of eR),_,_,rfl,rfl,_,rfl,?_⟩
   have lR:((pr.map V.ref).length:Int)=(g.1.length:Int):=by rw [List.length_map,lpr]
   by_cases c2:(g.1.length:Int)≤n-0
   ·exact G6 (show ((pr.map V.ref).length:Int)≤n-(if false=true then (1:Int) else 0) by rw [hn,lR];exact c2) ⟨(by show 2≤sizeLine;decide),fun r hr'=>qb ((ef _).mpr (by unfold Gd;rw [if_pos (.inr (by have:=fin.len;(first | lia | omega)))])) r _ (s3.trans (Ag hr' _)) Ad⟩
   refine Du (show ¬((pr.map V.ref).length:Int)≤n-(if false=true then (1:Int) else 0) by rw [hn,lR];exact c2) ?_
   have nb:¬(n<(0:Nat)∨(g.2.length:Int)<n):=by
    have:=fin.len
    (first | lia | omega)
   have kx3:=kx.keep s3
   refine ⟨_,rfl,_,_,_,_,rfl,rfl,kx3.sq,rfl,_,_,rfl,rfl,_,rfl,?_⟩
   by_cases c3:x.num≤0
   ·have hx:¬0<x:=fun z=>by
     have h0:0≤x.num:=Rat.num_nonneg.mpr (Rat.le_of_lt z)
     have h1:x.num≠0:=fun y=>Rat.ne_of_gt z (Rat.num_eq_zero.mp y)
     (first | lia | omega)
    exact G6 c3 ⟨(by show 2≤sizeLine;decide),fun r hr'=>qc ((ef _).mpr (by unfold Gd;rw [if_neg nb,if_neg hx])) r _ (s3.trans (Ag hr' _)) Ad⟩
   refine Du c3 ?_
   have hx:0<x:=Rat.not_le.mp fun hle=>by
    have e:=Rat.num_nonneg.mp (show 0≤x.num by (first | lia | omega))
    have e2:=Rat.le_antisymm hle e
    rw [e2] at c3
    exact c3 (by decide)
   obtain ⟨k,hk⟩:∃k:Nat,n-0=(k:Int):=⟨(n-0).toNat,by (first | lia | omega)⟩
   have hkl:k<g.1.length:=by (first | lia | omega)
   have hkn:n-(if false=true then (1:Int) else 0)=(k:Int):=by rw [hn];exact hk
   obtain ⟨p1,e1,k1⟩:=kr.get (List.getElem?_eq_getElem hkl)
   have hat:atI (pr.map V.ref) (n-(if false=true then (1:Int) else 0))=some (.ref p1):=by
    rw [hkn]
    exact Dr e1
   have bR:Bq 101 g.1[k]:=fin.bq.1 _ (List.getElem_mem hkl)
   refine ⟨_,rfl,_,rfl,g1,_,_,_,rfl,rfl,SqL.of eR,hat,_,rfl,p1,px,_,_,rfl,k1,kx3,bR.mono (by decide),bx.mono (by decide),fun y H4 s4 ky=>?_⟩
   have eR4:=s4 _ _ eR
   have hix:ixN (pr.map V.ref).length (n-(if false=true then (1:Int) else 0))=some k:=by
    unfold ixN
    rw [hkn,if_pos (by (first | lia | omega)),if_pos (by rw [List.length_map,lpr];(first | lia | omega)),Int.toNat_natCast]
   refine ⟨_,rfl,_,rfl,g1,_,_,_,rfl,rfl,eR4,hix,?_⟩
   have rS:=Rw.set_mor (x:=x) hkl eR4 (rG.keep s4) ky
   have rO:=(rW.keep s4).updO eR4 ngw.symm (ys:=(pr.map V.ref).set k (.ref y))
   have sF:=CK (s3.trans s4) hg1 (.lst ((pr.map V.ref).set k (.ref y)))
   generalize upd H4 g1 (.lst ((pr.map V.ref).set k (.ref y)))=H5 at *
   refine ⟨_,rfl,_,rfl,(by show 2≤sizeLine;decide),fun p2 hp2=>⟨(by show 2≤sizeLine;decide),fun r hr'=>?_⟩⟩
   have v1:=Ag hp2 (.tup [.ref g1,.ref w1])
   have v2:=Ag hr' (.tup [.str "ok",.ref p2])
   exact qo _ _ ((ef _).mpr (by unfold Gd;rw [if_neg nb,if_pos hx,if_pos rfl,show n.toNat=k by (first | lia | omega)])) r p2 g1 w1 _ (sF.trans (v1.trans v2)) Ad (v2 _ _ Ad) (rS.keep (v1.trans v2)) (rO.keep (v1.trans v2))
  ·have ed:decide (V.str (hvs true)=V.str (Str.ofString "heavier"))=true:=by decide +kernel
   refine ⟨_,rfl,rfl,_,rfl,L,_,_,_,rfl,rfl,SqL.of eL,by rw [ed];rfl,?_⟩
   refine ⟨_,rfl,_,rfl,rfl,_,rfl,_,_,rfl,rfl,?_⟩
   rw [ed]
   have hn:n-(if true=true then (1:Int) else 0)=n-1:=rfl
   obtain ⟨pr,eR,kr⟩:=id rW
   have lpr:=kr.length
   obtain ⟨qb,qc,qo⟩:=qs g hm
   have ef:∀z,Gd (if true=true then 1 else 0) g.1 g.2 n x=z ↔ Gd 1 g.1 g.2 n x=z:=fun z=>Iff.rfl
   refine ⟨_,rfl,_,_,rfl,rfl,_,rfl,?_⟩
   by_cases c1:n-1<0
   ·exact G6 (show n-(if true=true then (1:Int) else 0)<0 from c1) (FN ⟨(by show 2≤sizeLine;decide),fun r hr'=>qb ((ef _).mpr (by unfold Gd;rw [if_pos (.inl (by (first | lia | omega)))])) r _ (s3.trans (Ag hr' _)) Ad⟩)
   refine Du (show ¬n-(if true=true then (1:Int) else 0)<0 from c1) ?_
   refine ⟨_,rfl,_,rfl,w1,_,rfl,.inl (SqL.of eR),_,_,rfl,rfl,_,rfl,?_⟩
   have lR:((pr.map V.ref).length:Int)=(g.2.length:Int):=by rw [List.length_map,lpr]
   by_cases c2:(g.2.length:Int)≤n-1
   ·exact G6 (show ((pr.map V.ref).length:Int)≤n-(if true=true then (1:Int) else 0) by rw [hn,lR];exact c2) ⟨(by show 2≤sizeLine;decide),fun r hr'=>qb ((ef _).mpr (by unfold Gd;rw [if_pos (.inr (by have:=fin.len;(first | lia | omega)))])) r _ (s3.trans (Ag hr' _)) Ad⟩
   refine Du (show ¬((pr.map V.ref).length:Int)≤n-(if true=true then (1:Int) else 0) by rw [hn,lR];exact c2) ?_
   have nb:¬(n<(1:Nat)∨(g.2.length:Int)<n):=by
    have:=fin.len
    (first | lia | omega)
   have kx3:=kx.keep s3
   refine ⟨_,rfl,_,_,_,_,rfl,rfl,kx3.sq,rfl,_,_,rfl,rfl,_,rfl,?_⟩
   by_cases c3:x.num≤0
   ·have hx:¬0<x:=fun z=>by
     have h0:0≤x.num:=Rat.num_nonneg.mpr (Rat.le_of_lt z)
     have h1:x.num≠0:=fun y=>Rat.ne_of_gt z (Rat.num_eq_zero.mp y)
     (first | lia | omega)
    exact G6 c3 ⟨(by show 2≤sizeLine;decide),fun r hr'=>qc ((ef _).mpr (by unfold Gd;rw [if_neg nb,if_neg hx])) r _ (s3.trans (Ag hr' _)) Ad⟩
   refine Du c3 ?_
   have hx:0<x:=Rat.not_le.mp fun hle=>by
    have e:=Rat.num_nonneg.mp (show 0≤x.num by (first | lia | omega))
    have e2:=Rat.le_antisymm hle e
    rw [e2] at c3
    exact c3 (by decide)
   obtain ⟨k,hk⟩:∃k:Nat,n-1=(k:Int):=⟨(n-1).toNat,by (first | lia | omega)⟩
   have hkl:k<g.2.length:=by (first | lia | omega)
   have hkn:n-(if true=true then (1:Int) else 0)=(k:Int):=by rw [hn];exact hk
   obtain ⟨p1,e1,k1⟩:=kr.get (List.getElem?_eq_getElem hkl)
   have hat:atI (pr.map V.ref) (n-(if true=true then (1:Int) else 0))=some (.ref p1):=by
    rw [hkn]
    exact Dr e1
   have bR:Bq 101 g.2[k]:=fin.bq.2 _ (List.getElem_mem hkl)
   refine ⟨_,rfl,_,rfl,w1,_,_,_,rfl,rfl,SqL.of eR,hat,_,rfl,p1,px,_,_,rfl,k1,kx3,bR.mono (by decide),bx.mono (by decide),fun y H4 s4 ky=>?_⟩
   have eR4:=s4 _ _ eR
   have hix:ixN (pr.map V.ref).length (n-(if true=true then (1:Int) else 0))=some k:=by
    unfold ixN
    rw [hkn,if_pos (by (first | lia | omega)),if_pos (by rw [List.length_map,lpr];(first | lia | omega)),Int.toNat_natCast]
   refine ⟨_,rfl,_,rfl,w1,_,_,_,rfl,rfl,eR4,hix,?_⟩
   have rS:=Rw.set_mor (x:=x) hkl eR4 (rW.keep s4) ky
   have rO:=(rG.keep s4).updO eR4 ngw (ys:=(pr.map V.ref).set k (.ref y))
   have sF:=CK (s3.trans s4) (u1.free hw1) (.lst ((pr.map V.ref).set k (.ref y)))
   generalize upd H4 w1 (.lst ((pr.map V.ref).set k (.ref y)))=H5 at *
   refine ⟨_,rfl,_,rfl,(by show 2≤sizeLine;decide),fun p2 hp2=>⟨(by show 2≤sizeLine;decide),fun r hr'=>?_⟩⟩
   have v1:=Ag hp2 (.tup [.ref g1,.ref w1])
   have v2:=Ag hr' (.tup [.str "ok",.ref p2])
   exact qo _ _ ((ef _).mpr (by unfold Gd;rw [if_neg nb,if_pos hx,if_neg (by decide),show n.toNat-1=k by (first | lia | omega)])) r p2 g1 w1 _ (sF.trans (v1.trans v2)) Ad (v2 _ _ Ad) (rO.keep (v1.trans v2)) (rS.keep (v1.trans v2))
theorem Tf{K:PySem.W.Frag}{a:Addr}{ns:List Int}{te:Shared→Hp→Addr→List Addr→TE}{js:List Nat}{σ:L2.St}{H1:Hp}{Q:VK}(hn:ns.length≤100000)(ha:H1 a=some (.lst (ns.map V.int)))(f:Int→V)
  (hs:∀s₀ H₀ C ex x H (R:VK),x∈ns→Aj H1 H→R (f x) H→te s₀ H₀ C ex (some (.int x)::js.map fun j=>(σ[j]?).join) H R)
  (hd:∀H D,Aj H1 H→H1 D=none→H D=some (.lst (ns.map f))→Q (.ref D) H):JL (Itl K a) te js σ Q H1:=by
 intro D hD
 refine ⟨fun i m ys H=>m=ns.length-i∧i≤ns.length∧ys=(ns.take i).map f∧Aj H1 H∧H D=some (.lst ys),⟨ns.length,by simp,Nat.zero_le _,rfl,Ag hD _,Ad⟩,?_⟩
 rintro i m ys H ⟨rfl,hi,rfl,sm,hDl⟩
 refine ⟨hDl,?_⟩
 have hr:=sm _ _ ha
 by_cases hlt:i<ns.length
 ·have eq:ns[i]?=some ns[i]:=List.getElem?_eq_getElem hlt
  have h0:(ns.map V.int)[i]?=some (.int ns[i]):=by rw [List.getElem?_map,eq];rfl
  refine .inr ⟨⟨_,_,SqL.of hr,h0⟩,fun x H' y s₀ H₀ C ex=>?_⟩
  obtain ⟨e,y⟩:=y
  subst e
  have ex':=y _ (SqL.of hr)
  rw [h0] at ex'
  cases ex'
  refine hs s₀ H₀ C ex _ H' _ (List.getElem_mem hlt) sm ?_
  have hz:(100000:Nat)<sizeLine:=by decide
  refine ⟨hDl,by rw [List.length_map,List.length_take];(first | lia | omega),ns.length-(i+1),by (first | lia | omega),rfl,hlt,?_,?_,Ad⟩
  ·rw [List.take_succ,eq,List.map_append];rfl
  ·intro b o e
   rw [Ai (Av e hD)]
   exact sm _ _ e
 ·have e:i=ns.length:=by (first | lia | omega)
  subst e
  rw [List.take_length] at hDl
  exact .inl ⟨⟨_,SqL.of hr,by rw [List.length_map];(first | lia | omega)⟩,hd H D sm hD hDl⟩
theorem VL(c:Nat):∀(A:List (List Nat)) {B:List (List Nat)},B≠[]→jn c (A++[jn c B])=jn c (A++B)
 | [],_,_=>rfl
 | [a],B,h=>by
  cases B with
  | nil=>exact absurd rfl h
  | cons b r=>rfl
 | a::a'::A,B,h=>by
  show a++c::jn c (a'::A++[jn c B])=a++c::jn c (a'::A++B)
  rw [VL c (a'::A) h]
theorem Hu{ts:List (List Nat)}(h:∀t∈ts,t.length≤5000)(hn:ts.length≤10):JoinOk (sx [32]) (ts.map sx)=true:=by
 have hz:(100000:Nat)<sizeLine:=by decide
 have hf:=StrLaws.joinFits (sep:=sx [32]) (texts:=ts.map sx) (B:=5000) (fun y hy=>by
  obtain ⟨t,ht,rfl⟩:=List.mem_map.mp hy
  rw [BX]
  exact h t ht) (by
  rw [List.length_map]
  show ts.length*5000+ts.length*1≤_
  (first | lia | omega))
 unfold JoinOk
 rw [hf]
 rfl
def Ov6(B:Nat)(q:Rat):Prop:=∃T:Int,q=(T:Rat)/((360360:Int):Rat)∧T.natAbs≤B
theorem Yv:∀b:Nat,b<16→1≤b→b*(360360/b)=360360:=by decide
theorem Ov6.of{t:Int}{b:Nat}(h1:1≤b)(h2:b<16)(ht:t.natAbs≤23):Ov6 8288280 ((t:Rat)/((b:Int):Rat)):=by
 have e:=Yv b h2 h1
 refine ⟨t*((360360/b:Nat):Int),?_,?_⟩
 ·have hc:((360360/b:Nat):Int)≠0:=fun z=>by
   have:(360360/b:Nat)=0:=by (first | lia | omega)
   rw [this] at e
   (first | lia | omega)
  have e2:((360360:Int):Rat)=((b:Int):Rat)*(((360360/b:Nat):Int):Rat):=by
   rw [←Rat.intCast_mul,←Int.natCast_mul,e]
   rfl
  have hb:((b:Int):Rat)≠0:=fun z=>by
   have:=Rat.intCast_eq_zero_iff.mp z
   (first | lia | omega)
  have hc':(((360360/b:Nat):Int):Rat)≠0:=fun z=>hc (Rat.intCast_eq_zero_iff.mp z)
  rw [e2,Rat.intCast_mul]
  grind
 ·rw [Int.natAbs_mul,Int.natAbs_natCast]
  have h3:360360/b≤360360:=Nat.div_le_self _ _
  calc t.natAbs*(360360/b)≤23*360360:=Nat.mul_le_mul ht h3
   _=8288280:=by decide
theorem Ov6.add{A B:Nat}{p q:Rat}(h:Ov6 A p)(g:Ov6 B q):Ov6 (A+B) (p+q):=by
 obtain ⟨T,rfl,hT⟩:=h
 obtain ⟨S,rfl,hS⟩:=g
 refine ⟨T+S,?_,by (first | lia | omega)⟩
 rw [Rat.intCast_add]
 grind
theorem Ov6.mono{A B:Nat}{q:Rat}(h:Ov6 A q)(l:A≤B):Ov6 B q:=by
 obtain ⟨T,e,hT⟩:=h
 exact ⟨T,e,by (first | lia | omega)⟩
theorem Ov6.bq{A:Nat}{q:Rat}(h:Ov6 A q)(l:A<2^60):Bq 60 q:=by
 obtain ⟨T,e,hT⟩:=h
 exact AAd (M:=360360) (by decide) e (by unfold Bt;(first | lia | omega)) (by unfold Bt;decide)
theorem QH{q:Rat}(h:Bq 60 q):F30 q:=by
 have h1:q.num.natAbs<2^60:=h.1
 have h2:(q.den:Int).natAbs<2^60:=h.2
 have hz:(2:Nat)^60<10^30:=by decide
 exact ⟨by (first | lia | omega),by (first | lia | omega)⟩
theorem W2{q:Rat}(h:Bq 4 q):Ov6 8288280 q:=by
 have h1:q.num.natAbs<2^4:=h.1
 have h2:(q.den:Int).natAbs<2^4:=h.2
 have h3:=q.den_pos
 have e:=Ov6.of (t:=q.num) (b:=q.den) (by (first | lia | omega)) (by (first | lia | omega)) (by (first | lia | omega))
 rwa [Vy] at e
structure OkG(B:Nat)(g:List Rat×List Rat):Prop where
 len:g.1.length=g.2.length+1
 most:g.2.length≤12
 pos:(∀q∈g.1,0<q)∧∀q∈g.2,0<q
 ov:(∀q∈g.1,Ov6 B q)∧∀q∈g.2,Ov6 B q
def OkM(B:Nat)(m:List Nat→Option (List Rat×List Rat)):Prop:=∀l g,m l=some g→OkG B g
theorem OkG.fine{B:Nat}{g:List Rat×List Rat}(h:OkG B g)(l:B<2^60):Ez g.1 g.2 :=
 ⟨h.len,h.most,h.pos,⟨fun q hq=>((h.ov.1 q hq).bq l).mono (by decide),fun q hq=>((h.ov.2 q hq).bq l).mono (by decide)⟩⟩
theorem OkG.c30{B:Nat}{g:List Rat×List Rat}(h:OkG B g)(l:B<2^60):C30 g.1 g.2 :=
 ⟨⟨h.len,h.most,h.pos⟩,fun q hq=>QH ((h.ov.1 q hq).bq l),fun q hq=>QH ((h.ov.2 q hq).bq l)⟩
inductive Way where
 | cord (n:List Nat) (gs ws:List Rat)
 | turn (n o:List Nat)
 | join (n o p:List Nat)
 | more (hv:Bool) (n o:List Nat) (k:Int) (x:Rat)
 | bare (sh:Bool) (n:List Nat)
inductive Rl where
 | ok (gs ws:List Rat)
 | noname
 | bead
 | nocord
def Rl.txt:Rl→Str
 | .ok _ _=>"ok"
 | .noname=>"!name"
 | .bead=>"!bead"
 | .nocord=>"!cordNone"
def ABN:Res→Rl
 | .ok gs ws=>.ok gs ws
 | .bead=>.bead
 | .nocord=>.nocord
def Ca(m:List Nat→Option (List Rat×List Rat)):Way→Rl
 | .cord _ gs ws=>.ok gs ws
 | .turn _ o=>match m o with
  | none=>.noname
  | some g=>.ok g.1.reverse g.2.reverse
 | .join _ o p=>match m o with
  | none=>.noname
  | some g=>match m p with
   | none=>.noname
   | some h=>if 12<g.2.length+h.2.length then .nocord else .ok (jng g.1 h.1) (g.2++h.2)
 | .more hv _ o k x=>match m o with
  | none=>.noname
  | some g=>ABN (Gd (if hv then 1 else 0) g.1 g.2 k x)
 | .bare _ _=>.noname
def Way.new:Way→List Nat
 | .cord n _ _=>n
 | .turn n _=>n
 | .join n _ _=>n
 | .more _ n _ _ _=>n
 | .bare _ n=>n
def Way.deed:Way→List Nat
 | .cord _ _ _=>[99,111,114,100]
 | .turn _ _=>[116,117,114,110]
 | .join _ _ _=>[106,111,105,110]
 | .more hv _ _ _ _=>if hv then [104,101,97,118,105,101,114] else [108,111,110,103,101,114]
 | .bare sh _=>if sh then [115,104,111,119] else [100,114,111,112]
def Way.init:Way→List (List Nat)
 | .cord n _ _=>[n]
 | .turn n _=>[n]
 | .join n o _=>[n,o]
 | .more _ n o k _=>[n,o,itx k]
 | .bare _ _=>[]
def Way.lastw:Way→List (List Nat)
 | .cord _ gs ws=>Bf gs ws
 | .turn _ o=>[o]
 | .join _ _ p=>[p]
 | .more _ _ _ _ x=>[ftx x]
 | .bare _ n=>[n]
def Way.row(w:Way):List Nat:=jn 32 (w.deed::(w.init++w.lastw))
def O5(ns:List (List Nat)):Way→Prop
 | .cord n gs ws=>n∈ns∧Yq gs ws
 | .turn n o=>n∈ns∧o∈ns
 | .join n o p=>n∈ns∧o∈ns∧p∈ns
 | .more _ n o k x=>n∈ns∧o∈ns∧(-1≤k∧k≤5)∧Ov6 8288280 x
 | .bare _ n=>n∈ns
def Due(H:Hp)(v:V)(r:Rl):Prop:=∃q u,v=.ref q∧H q=some (.tup [.str r.txt,u])∧∀gs ws,r=.ok gs ws→∃p ga wa,u=.ref p∧H p=some (.tup [.ref ga,.ref wa])∧Rw H ga gs∧Rw H wa ws
def ABs(m:List Nat→Option (List Rat×List Rat))(H:Hp)(v:V)(w:Way):Prop:=match w with
 | .bare _ _=>v=.non
 | _=>Due H v (Ca m w)
theorem Yq.ok{gs ws:List Rat}(h:Yq gs ws):OkG 8288280 (gs,ws):=⟨h.len,by have:=h.few;show ws.length≤12;(first | lia | omega),h.pos,⟨fun q hq=>W2 (h.bq.1 q hq),fun q hq=>W2 (h.bq.2 q hq)⟩⟩
theorem Pu:sx [99,111,114,100]="cord":=by decide +kernel
theorem QL:sx [116,117,114,110]="turn":=by decide +kernel
theorem Q9:sx [106,111,105,110]="join":=by decide +kernel
theorem Qs:sx [108,111,110,103,101,114]="longer":=by decide +kernel
theorem Nb:sx [104,101,97,118,105,101,114]="heavier":=by decide +kernel
theorem Qn:sx [100,114,111,112]="drop":=by decide +kernel
theorem Qm:sx [115,104,111,119]="show":=by decide +kernel
theorem Px(c:Nat){M:Nat}:∀{ws:List (List Nat)},(∀w∈ws,w.length≤M)→(jn c ws).length≤ws.length*(M+1)
 | [],_=>by simp [jn]
 | [w],h=>by
  have:=h w (by simp)
  show w.length≤1*(M+1)
  (first | lia | omega)
 | w::v::r,h=>by
  have h1:=h w (by simp)
  have h2:=Px c (ws:=v::r) fun x hx=>h x (List.mem_cons_of_mem _ hx)
  show (w++c::jn c (v::r)).length≤(r.length+1+1)*(M+1)
  rw [List.length_append,List.length_cons]
  have e:(r.length+1+1)*(M+1)=(v::r).length*(M+1)+(M+1):=by rw [Nat.add_mul (r.length+1) 1,Nat.one_mul];rfl
  (first | lia | omega)
theorem Qu(k:Int):ftx (k:Rat)=itx k:=by
 unfold ftx
 rw [Rat.den_intCast,Rat.num_intCast,if_pos rfl]
theorem Uw{k:Int}(h:-1≤k∧k≤5):F30 (k:Rat):=by
 have hz:(100:Nat)<10^30:=by decide
 refine ⟨?_,?_⟩
 ·rw [Rat.num_intCast]
  (first | lia | omega)
 ·rw [Rat.den_intCast]
  (first | lia | omega)
theorem DN(w:Way):w.deed.length≤64∧32∉w.deed:=by
 cases w with
 | cord n gs ws=>exact (by decide:([99,111,114,100]:List Nat).length≤64∧32∉([99,111,114,100]:List Nat))
 | turn n o=>exact (by decide:([116,117,114,110]:List Nat).length≤64∧32∉([116,117,114,110]:List Nat))
 | join n o p=>exact (by decide:([106,111,105,110]:List Nat).length≤64∧32∉([106,111,105,110]:List Nat))
 | more hv n o k x =>
  cases hv
  ·exact (by decide:([108,111,110,103,101,114]:List Nat).length≤64∧32∉([108,111,110,103,101,114]:List Nat))
  ·exact (by decide:([104,101,97,118,105,101,114]:List Nat).length≤64∧32∉([104,101,97,118,105,101,114]:List Nat))
 | bare sh n =>
  cases sh
  ·exact (by decide:([100,114,111,112]:List Nat).length≤64∧32∉([100,114,111,112]:List Nat))
  ·exact (by decide:([115,104,111,119]:List Nat).length≤64∧32∉([115,104,111,119]:List Nat))
theorem YQ{ws vs:List (List Nat)}(h:jn 32 ws=jn 32 vs):Txt.join (Str.ofString " ") (ws.map sx)=sx (jn 32 vs):=by
 rw [show Str.ofString " "=sx [32] from rfl,Lq,h]
theorem J4{m:List Nat→Option (List Rat×List Rat)}{H:Hp}{q:Addr}{w:Way}(r:Rl)(e:Ca m w=r)(h:∀gs ws,r≠.ok gs ws)(er:H q=some (.tup [.str r.txt,.non])):Due H (.ref q) (Ca m w):=by
 rw [e]
 exact ⟨q,.non,rfl,er,fun gs ws z=>absurd z (h gs ws)⟩
theorem Q7{m:List Nat→Option (List Rat×List Rat)}{H:Hp}{q p ga wa:Addr}{w:Way}{gs ws:List Rat}(e:Ca m w=.ok gs ws)(er:H q=some (.tup [.str "ok",.ref p]))(ep:H p=some (.tup [.ref ga,.ref wa]))(rg:Rw H ga gs)(rw':Rw H wa ws):Due H (.ref q) (Ca m w):=by
 rw [e]
 exact ⟨q,.ref p,rfl,er,fun _ _ z=>by cases z;exact ⟨p,ga,wa,rfl,ep,rg,rw'⟩⟩
theorem Due.keep{H H':Hp}{v:V}{r:Rl}(h:Due H v r)(s:Aj H H'):Due H' v r:=by
 obtain ⟨q,u,e,eq,k⟩:=h
 exact ⟨q,u,e,s _ _ eq,fun gs ws z=>by
  obtain ⟨p,ga,wa,e1,e2,r1,r2⟩:=k gs ws z
  exact ⟨p,ga,wa,e1,s _ _ e2,r1.keep s,r2.keep s⟩⟩
def QR:Sp:=fun vs H Q _=>∃(N:Nat) (b nm:Addr) (ns:List (List Nat)) (m:List Nat→Option (List Rat×List Rat)) (c:Int),vs=[.ref b,.ref nm,.int c]∧Bk N H b m∧H nm=some (.lst ((ns.map sx).map V.str))∧ns.length=4∧(∀l∈ns,Nm l)∧(∀l g,m l=some g→Ez g.1 g.2) ∧
 ∀r due wy H',Aj H H'→H' r=some (.tup [.str (sx (Way.row wy)),due,.str (sx wy.new)])→O5 ns wy→ABs m H' due wy→Q (.ref r) H'
theorem By:Aw ["_law_book","_law_names","_law_cell","_law_way","_law_new","_law_one","_law_other","_law_rest","_law_made_here","_law_word","_law_place","_law_more_here","_law_row_here"] ["_law_book","_law_names","_law_cell"] (Ac Fe):=⟨rfl,rfl,rfl,by decide +kernel,rfl,by decide +kernel,by decide +kernel⟩
set_option maxHeartbeats 2000000 in
theorem Uu(F:Fun K "_law_row" "_law_row" Fe f fd)(T:Txt mg)(C_law_made:Cal P w K mg base "_law_made" 3 ["_law_rest"] Mj)(C_law_shown:Cal P w K mg base "_law_shown" 2 ["_law_cord"] Hx)(C_law_turned:Cal P w K mg base "_law_turned" 1 ["_law_book","_law_old"] JF)(C_law_joined:Cal P w K mg base "_law_joined" 3 ["_law_book","_law_one","_law_other"] JN)(C_law_low:Cal P w K mg base "_law_low" 1 ["_law_top","_law_bottom"] Ji)(C_law_text:Cal P w K mg base "_law_text" 1 ["_law_one"] GF)(C_law_more:Cal P w K mg base "_law_more" 3 ["_law_book","_law_words","_law_old","_law_place","_law_more_here"] Lj):BZ P w K mg base CX0 4 f fd ["_law_book","_law_names","_law_cell"] QR:=by
 refine F.ok By (fun vs H Q E h=>?_) (fun cdv A outer s H vs Q E hr h=>?_)
 ·obtain ⟨N,b,nm,ns,m,c,rfl,_⟩:=h
  rfl
 obtain ⟨N,b,nm,ns,m,c,rfl,bk,enm,l4,hnm,hfin,q⟩:=h
 refine Wa ?_
 refine ⟨_,(EY (MK (i:=3) By.nd rfl (Or.inl rfl) (Bm (Ax Dd (pv 2) Af)))
   (EY (PSw.mk (Jx (IW (N':=["_law_turn","_law_names","_law_cell"]) (fsc:=Ac Fe) (N:=["_law_book","_law_names","_law_cell","_law_way","_law_new","_law_one","_law_other","_law_rest","_law_made_here","_law_word","_law_place","_law_more_here","_law_row_here"]) [1,2] ⟨rfl,by decide +kernel,by decide +kernel,by decide +kernel,rfl,by decide +kernel,rfl,by decide +kernel⟩ (IV (Er (Aa Af (Aa Af (Aa Af Ae))))) (fun _ _ _ _=>(Az Ba (pv 1) (Ax Dd (Ax DK (pv 2) (pv 0)) Af) (fun _ _=>rfl)))) (Ze rfl (CT (CZ (i:=4) By.nd rfl (Or.inl rfl)) (CT (CZ (i:=5) By.nd rfl (Or.inl rfl)) (CT (CZ (i:=6) By.nd rfl (Or.inl rfl)) Ie))))))
   (EY (MK (i:=7) By.nd rfl (Or.inl rfl) (Bm (Ax DK (pv 2) Af)))
   (EY (Zr (Ao Hk (pv 3) Af (Ar _))
   (EY (MK (i:=8) By.nd rfl (Or.inl rfl) (Bm (BR C_law_made hr (Aa (pv 7) Ae))))
   (M6 (RG (O3 (Gu (NB (Gm Ir (Bu (Bm (pv 4)) (Gu (Bm (BR C_law_shown hr (Aa (pv 8) Ae))) Ew)))) (ABX (O3 (Gm Ir (Bu (Bm (pv 8)) Ew))) (Bu (Bm (pv 4)) Ew)))))))
   Qi)
   (EY (Zr (Ao Bo (pv 3) Af (Ar _))
   (M6 (RG (O3 (Gu (NB (Gm Ir (Bu (Bm (pv 4)) (Bu (Bm (pv 5)) Ew)))) (Gu (Bm (BR C_law_turned hr (Aa (pv 0) (Aa (pv 5) Ae)))) (Bu (Bm (pv 4)) Ew))))))
   Qi)
   (EY (Zr (Ao Hk (pv 3) Af (Ar _))
   (M6 (RG (O3 (Gu (NB (Gm Ir (Bu (Bm (pv 4)) (Bu (Bm (pv 5)) (Bu (Bm (pv 6)) Ew))))) (Gu (AGZ C_law_joined hr (Bu (Bm (pv 0)) (Bu (Bm (pv 5)) (Bu (Bm (pv 6)) Ew)))) (Bu (Bm (pv 4)) Ew))))))
   Qi)
   (EY (Zr (Ao Hk (pv 3) Af (Ar _))
   (EY (MK (i:=9) By.nd rfl (Or.inl rfl) (Bm (Az Ba (Er (Aa Aq (Aa Aq Ae))) (Ax J9 (pv 3) Af) (fun _ _=>rfl))))
   (EY (MK (i:=10) By.nd rfl (Or.inl rfl) (Bm (Ax J9 (Ax Dd (pv 7) Af) Af)))
   (EY (MK (i:=11) By.nd rfl (Or.inl rfl) (Bm (BR C_law_low hr (Aa (Ax J9 (Ax Dd (Ax DK (pv 7) Af) Af) Af) (Aa (Ax DX Af (Ax Dd (Ax DK (pv 7) Af) Af)) Ae)))))
   (EY (MK (i:=12) By.nd rfl (Or.inl rfl) (NB (Bu (Bm (pv 9)) (Bu (Bm (pv 4)) (Bu (Bm (pv 5)) (Gu (Bm (Bj Gg rfl T.z_str boot_str (Aa (pv 10) Ae))) (Gu (Bm (BR C_law_text hr (Aa (pv 11) Ae))) Ew)))))))
   (M6 (RG (O3 (Bu (Bm (pv 12)) (Gu (AGZ C_law_more hr (Bu (Bm (pv 0)) (Bu (Bm (pv 9)) (Bu (Bm (pv 5)) (Bu (Bm (pv 10)) (Bu (Bm (pv 11)) Ew)))))) (Bu (Bm (pv 4)) Ew))))))))))
   Qi)
   (M6 (RG (O3 (Gu (NB (ABk (Bm (Az Ba (Er (Aa Aq (Aa Aq Ae))) (Ax J9 (pv 3) Af) (fun _ _=>rfl))) (Bu (Bm (pv 4)) Ew))) (Gm ADb (Bu (Bm (pv 4)) Ew))))))))))))),?_⟩
 have w0:=Int.emod_nonneg c (show (9:Int)≠0 by decide)
 have w9:=Int.emod_lt_of_pos c (show (0:Int)<9 by decide)
 refine ⟨_,rfl,_,_,rfl,rfl,(show (0:Int)<9 by decide),?_⟩
 refine ⟨(by show 3≤sizeLine;decide),fun L hL=>⟨L,rfl,⟨_,SqL.of Ad⟩,Tf (ns:=[9,36,144]) (by decide) Ad (fun t=>.str (sx (ns.getD (c/t%4).toNat []))) ?_ fun H1 D s1 nD eD=>?_⟩⟩
 ·intro s₀ H₀ C ex x H' R hx sH fin
  have hx0:0<x∧Bt 9000 x:=by
   rcases List.mem_cons.mp hx with rfl | hx
   ·exact ⟨by decide,Bt.between (by decide +kernel) (by decide +kernel)⟩
   rcases List.mem_cons.mp hx with rfl | hx
   ·exact ⟨by decide,Bt.between (by decide +kernel) (by decide +kernel)⟩
   rcases List.mem_cons.mp hx with rfl | hx
   ·exact ⟨by decide,Bt.between (by decide +kernel) (by decide +kernel)⟩
   ·cases hx
  have a1:=Int.emod_nonneg (c/x) (show (4:Int)≠0 by decide)
  have a2:=Int.emod_lt_of_pos (c/x) (show (0:Int)<4 by decide)
  have hi:(c/x%4).toNat<ns.length:=by (first | lia | omega)
  have e1:atI ((ns.map sx).map V.str) (c/x%4)=some (.str (sx (ns.getD (c/x%4).toNat []))):=by
   rw [show c/x%4=(((c/x%4).toNat:Nat):Int) by (first | lia | omega)]
   refine Dr ?_
   rw [List.getElem?_map,List.getElem?_map,Int.toNat_natCast,List.getElem?_eq_getElem hi,List.getD_eq_getElem?_getD,List.getElem?_eq_getElem hi]
   rfl
  exact ⟨_,rfl,_,rfl,_,rfl,_,_,rfl,rfl,hx0,_,_,rfl,rfl,(show (0:Int)<4 by decide),nm,_,_,_,rfl,rfl,SqL.of (sH _ _ (Ag hL _ _ _ enm)),e1,fin⟩
 have s01:=(Ag hL _).trans s1
 have mem:∀x:Int,0<x→ns.getD (c/x%4).toNat []∈ns:=fun x hx=>by
  have a1:=Int.emod_nonneg (c/x) (show (4:Int)≠0 by decide)
  have a2:=Int.emod_lt_of_pos (c/x) (show (0:Int)<4 by decide)
  have hi:(c/x%4).toNat<ns.length:=by (first | lia | omega)
  rw [List.getD_eq_getElem?_getD,List.getElem?_eq_getElem hi]
  exact List.getElem_mem hi
 obtain ⟨n1,en1⟩:∃n,n=ns.getD (c/9%4).toNat []:=⟨_,rfl⟩
 obtain ⟨n2,en2⟩:∃n,n=ns.getD (c/36%4).toNat []:=⟨_,rfl⟩
 obtain ⟨n3,en3⟩:∃n,n=ns.getD (c/144%4).toNat []:=⟨_,rfl⟩
 have k1:n1∈ns:=en1 ▸ mem 9 (by decide)
 have k2:n2∈ns:=en2 ▸ mem 36 (by decide)
 have k3:n3∈ns:=en3 ▸ mem 144 (by decide)
 have eD':H1 D=some (.lst [.str (sx n1),.str (sx n2),.str (sx n3)]):=by rw [en1,en2,en3];exact eD
 refine ⟨D,_,rfl,SqL.of eD',rfl,_,_,rfl,_,_,rfl,_,_,rfl,rfl,?_⟩
 refine ⟨_,rfl,_,_,rfl,rfl,⟨by decide,Bt.between (by decide +kernel) (by decide +kernel)⟩,?_⟩
 have bk1:=bk.keep s01
 have l1:=(hnm n1 k1).1.2
 have l2:=(hnm n2 k2).1.2
 have l3:=(hnm n3 k3).1.2
 clear bk eD eD' nD mem en1 en2 en3
 refine ⟨_,rfl,_,_,rfl,rfl,_,rfl,?_⟩
 have s3t:∀{r:Addr} {v:V} {t n:Str} {h:Hp},h r=none→Aj h (upd h r (.tup [.str t,v,.str n])):=fun hr=>Ag hr _
 have fin:∀(wy:Way) (ws:List (List Nat)) (v:V) (H4:Hp) (r3:Addr),jn 32 ws=jn 32 (wy.deed::(wy.init++wy.lastw))→wy.new=n1→Aj H H4→H4 r3=none→O5 ns wy→(∀H5,Aj H4 H5→ABs m H5 v wy)→Q (.ref r3) (upd H4 r3 (.tup [.str (Txt.join (Str.ofString " ") (ws.map sx)),v,.str (sx n1)])):=fun wy ws v H4 r3 ej en s4 h3 wo du=>by
  refine q r3 v wy _ (s4.trans (Ag h3 _)) ?_ wo (du _ (Ag h3 _))
  rw [Ad,YQ ej,en]
  rfl
 by_cases c1:c%9<2
 ·refine G6 c1 ?_
  refine ⟨_,rfl,_,rfl,fun r g w gs ws H2 s2 er ng nw ngw rg rw' dr=>?_⟩
  have c30:C30 gs ws:=dr.ok.c30 (by decide)
  have lc:(jn 32 (Bf gs ws)).length≤5000:=by
   have h1:=Px 32 c30.len
   have h2:(Bf gs ws).length=2*ws.length+1:=c30.cnt
   have h3:=dr.few
   (first | lia | omega)
  refine ⟨rfl,_,rfl,_,rfl,r,g,w,gs,ws,rfl,er,rg,rw',c30,fun H3 s3=>⟨(by show 3≤sizeLine;decide),fun L1 hL1=>?_⟩⟩
  have eL1:upd H3 L1 (.lst [.str (Str.ofString "cord"),.str (sx n1),.str (sx (jn 32 (Bf gs ws)))]) L1=some (.lst ((([[99,111,114,100],n1,jn 32 (Bf gs ws)]:List (List Nat)).map sx).map V.str)):=by
   rw [Ad,←Pu]
   rfl
  have u1:=Ag hL1 (.lst [.str (Str.ofString "cord"),.str (sx n1),.str (sx (jn 32 (Bf gs ws)))])
  generalize upd H3 L1 (.lst [.str (Str.ofString "cord"),.str (sx n1),.str (sx (jn 32 (Bf gs ws)))])=H4 at *
  refine ⟨_,L1,_,rfl,rfl,SqL.of eL1,Hu (fun t ht=>?_) (by show 3≤10;decide),_,rfl,(by show 2≤sizeLine;decide),fun p2 hp2=>⟨_,rfl,(by show 3≤sizeLine;decide),fun r3 hr3=>?_⟩⟩
  ·rcases List.mem_cons.mp ht with rfl | ht
   ·decide
   rcases List.mem_cons.mp ht with rfl | ht
   ·(first | lia | omega)
   rcases List.mem_cons.mp ht with rfl | ht
   ·exact lc
   ·cases ht
  ·have u2:=Ag hp2 (.tup [.str (Str.ofString "ok"),.ref r])
   have e2:upd H4 p2 (.tup [.str (Str.ofString "ok"),.ref r]) p2=some (.tup [.str (Str.ofString "ok"),.ref r]):=Ad
   have s24:=s3.trans (u1.trans u2)
   exact fin (.cord n1 gs ws) _ _ _ r3 (VL 32 [[99,111,114,100],n1] (List.cons_ne_nil _ _)) rfl (s01.trans (s2.trans s24)) hr3 ⟨k1,dr⟩ fun H5 s5=>Q7 rfl (s5 _ _ e2) ((s24.trans s5) _ _ er) (rg.keep (s24.trans s5)) (rw'.keep (s24.trans s5))
 refine Du c1 ?_
 refine ⟨_,rfl,rfl,_,rfl,?_⟩
 by_cases c2:c%9=2
 ·refine G6 (congrArg V.int c2) ?_
  refine ⟨rfl,_,rfl,_,rfl,(by show 3≤sizeLine;decide),fun L1 hL1=>?_⟩
  have eL1:upd H1 L1 (.lst [.str (Str.ofString "turn"),.str (sx n1),.str (sx n2)]) L1=some (.lst ((([[116,117,114,110],n1,n2]:List (List Nat)).map sx).map V.str)):=by
   rw [Ad,←QL]
   rfl
  have u1:=Ag hL1 (.lst [.str (Str.ofString "turn"),.str (sx n1),.str (sx n2)])
  generalize upd H1 L1 (.lst [.str (Str.ofString "turn"),.str (sx n1),.str (sx n2)])=H4 at *
  refine ⟨_,L1,_,rfl,rfl,SqL.of eL1,Hu (fun t ht=>?_) (by show 3≤10;decide),_,rfl,_,rfl,N,b,m,n2,rfl,bk1.keep u1,fun g hg=>?_,fun hg r H5 s5 er=>⟨_,rfl,(by show 3≤sizeLine;decide),fun r3 hr3=>?_⟩,fun g hg r p ga wa H5 s5 er ep rg rw'=>⟨_,rfl,(by show 3≤sizeLine;decide),fun r3 hr3=>?_⟩⟩
  ·rcases List.mem_cons.mp ht with rfl | ht
   ·decide
   rcases List.mem_cons.mp ht with rfl | ht
   ·(first | lia | omega)
   rcases List.mem_cons.mp ht with rfl | ht
   ·(first | lia | omega)
   ·cases ht
  ·have fn:=hfin _ g hg
   have f1:=fn.len
   have f2:=fn.most
   (first | lia | omega)
  ·exact fin (.turn n1 n2) _ _ _ r3 rfl rfl (s01.trans (u1.trans s5)) hr3 ⟨k1,k2⟩ fun H6 s6=>J4 .noname (by simp only [Ca,hg]) (fun _ _ z=>(nomatch z)) (s6 _ _ er)
  ·exact fin (.turn n1 n2) _ _ _ r3 rfl rfl (s01.trans (u1.trans s5)) hr3 ⟨k1,k2⟩ fun H6 s6=>Q7 (by simp only [Ca,hg]) (s6 _ _ er) (s6 _ _ ep) (rg.keep s6) (rw'.keep s6)
 refine Du (fun z=>c2 (V.int.inj z)) ?_
 refine ⟨_,rfl,_,_,rfl,rfl,_,rfl,?_⟩
 by_cases c3:c%9<5
 ·refine G6 c3 ?_
  refine ⟨rfl,_,rfl,_,rfl,_,rfl,(by show 4≤sizeLine;decide),fun L1 hL1=>?_⟩
  have eL1:upd H1 L1 (.lst [.str (Str.ofString "join"),.str (sx n1),.str (sx n2),.str (sx n3)]) L1=some (.lst ((([[106,111,105,110],n1,n2,n3]:List (List Nat)).map sx).map V.str)):=by
   rw [Ad,←Q9]
   rfl
  have u1:=Ag hL1 (.lst [.str (Str.ofString "join"),.str (sx n1),.str (sx n2),.str (sx n3)])
  generalize upd H1 L1 (.lst [.str (Str.ofString "join"),.str (sx n1),.str (sx n2),.str (sx n3)])=H4 at *
  refine ⟨_,L1,_,rfl,rfl,SqL.of eL1,Hu (fun t ht=>?_) (by show 4≤10;decide),_,rfl,_,rfl,_,rfl,N,b,m,n2,n3,rfl,bk1.keep u1,hfin,fun hg r H5 s5 er=>⟨_,rfl,(by show 3≤sizeLine;decide),fun r3 hr3=>?_⟩,fun g h hg hh=>⟨fun hl r H5 s5 er=>⟨_,rfl,(by show 3≤sizeLine;decide),fun r3 hr3=>?_⟩,fun hl r p ga wa H5 s5 er ep rg rw'=>⟨_,rfl,(by show 3≤sizeLine;decide),fun r3 hr3=>?_⟩⟩⟩
  ·rcases List.mem_cons.mp ht with rfl | ht
   ·decide
   rcases List.mem_cons.mp ht with rfl | ht
   ·(first | lia | omega)
   rcases List.mem_cons.mp ht with rfl | ht
   ·(first | lia | omega)
   rcases List.mem_cons.mp ht with rfl | ht
   ·(first | lia | omega)
   ·cases ht
  ·refine fin (.join n1 n2 n3) _ _ _ r3 rfl rfl (s01.trans (u1.trans s5)) hr3 ⟨k1,k2,k3⟩ fun H6 s6=>J4 .noname ?_ (fun _ _ z=>(nomatch z)) (s6 _ _ er)
   rcases hg with hg | hg
   ·simp only [Ca,hg]
   ·cases ho:m n2 with
    | none=>simp only [Ca,ho]
    | some g=>simp only [Ca,ho,hg]
  ·exact fin (.join n1 n2 n3) _ _ _ r3 rfl rfl (s01.trans (u1.trans s5)) hr3 ⟨k1,k2,k3⟩ fun H6 s6=>J4 .nocord (by simp only [Ca,hg,hh];rw [if_pos hl]) (fun _ _ z=>(nomatch z)) (s6 _ _ er)
  ·exact fin (.join n1 n2 n3) _ _ _ r3 rfl rfl (s01.trans (u1.trans s5)) hr3 ⟨k1,k2,k3⟩ fun H6 s6=>Q7 (by simp only [Ca,hg,hh];rw [if_neg (by (first | lia | omega))]) (s6 _ _ er) (s6 _ _ ep) (rg.keep s6) (rw'.keep s6)
 refine Du c3 ?_
 refine ⟨_,rfl,_,_,rfl,rfl,_,rfl,?_⟩
 by_cases c4:c%9<7
 ·refine G6 c4 ?_
  obtain ⟨hv,hat⟩:∃hv,atI [V.str (Str.ofString "heavier"),V.str (Str.ofString "longer")] (c%9-5)=some (.str (hvs hv)):=by
   have:c%9=5∨c%9=6:=by (first | lia | omega)
   rcases this with e | e
   ·exact ⟨true,by rw [e];rfl⟩
   ·exact ⟨false,by rw [e];rfl⟩
  refine ⟨(by show 2≤sizeLine;decide),fun L hL=>⟨_,rfl,_,_,rfl,rfl,L,_,_,_,rfl,rfl,SqL.of Ad,hat,?_⟩⟩
  have u1:=Ag hL (.lst [.str (Str.ofString "heavier"),.str (Str.ofString "longer")])
  generalize upd H1 L (.lst [.str (Str.ofString "heavier"),.str (Str.ofString "longer")])=H2 at *
  have p1:=Int.emod_nonneg (c/576) (show (6:Int)≠0 by decide)
  have p2:=Int.emod_lt_of_pos (c/576) (show (0:Int)<6 by decide)
  have x1:=Int.emod_nonneg (c/576/6) (show (30:Int)≠0 by decide)
  have x2:=Int.emod_lt_of_pos (c/576/6) (show (0:Int)<30 by decide)
  have y1:=Int.emod_nonneg (c/576/180) (show (12:Int)≠0 by decide)
  have y2:=Int.emod_lt_of_pos (c/576/180) (show (0:Int)<12 by decide)
  refine ⟨_,rfl,_,_,rfl,rfl,(show (0:Int)<6 by decide),_,_,rfl,rfl,?_⟩
  have hk:-1≤c/576%6-1∧c/576%6-1≤5:=by (first | lia | omega)
  obtain ⟨bn,hbn⟩:∃bn:Nat,1+c/576/180%12=(bn:Int):=⟨(1+c/576/180%12).toNat,by (first | lia | omega)⟩
  have hx:Ov6 8288280 (((c/576/6%30-6:Int):Rat)/((1+c/576/180%12:Int):Rat)):=by
   rw [hbn]
   exact Ov6.of (by (first | lia | omega)) (by (first | lia | omega)) (by (first | lia | omega))
  refine ⟨_,rfl,_,_,rfl,rfl,⟨by decide,Bt.between (by decide +kernel) (by decide +kernel)⟩,_,_,rfl,rfl,(show (0:Int)<30 by decide),_,_,rfl,rfl,_,rfl,_,_,rfl,rfl,⟨by decide,Bt.between (by decide +kernel) (by decide +kernel)⟩,_,_,rfl,rfl,(show (0:Int)<12 by decide),_,_,rfl,rfl,_,_,rfl,by (first | lia | omega),(show Bt 6 (1+c/576/180%12) from Bt.between (by (first | lia | omega)) (by (first | lia | omega))).mono (by decide),fun px H3 s3 kx=>?_⟩
  generalize ((c/576/6%30-6:Int):Rat)/((1+c/576/180%12:Int):Rat)=x at *
  have bx:=hx.bq (by decide)
  have f30:F30 x:=QH bx
  have g30:=Uw hk
  have lg:=g30.log.1
  rw [Rat.num_intCast] at lg
  have t1:=Fz g30
  rw [Qu] at t1
  have t2:=Fz f30
  refine ⟨rfl,_,rfl,_,rfl,_,rfl,_,rfl,_,rfl,lg,_,rfl,px,x,rfl,kx,f30,(by show 5≤sizeLine;decide),fun L1 hL1=>?_⟩
  have eL1:upd H3 L1 (.lst [.str (hvs hv),.str (sx n1),.str (sx n2),.str (Str.ofString (toString (c/576%6-1))),.str (sx (ftx x))]) L1=some (.lst ((([(Way.more hv n1 n2 (c/576%6-1) x).deed,n1,n2,itx (c/576%6-1),ftx x]:List (List Nat)).map sx).map V.str)):=by
   rw [Ad,tos]
   cases hv
   ·rw [show hvs false=sx [108,111,110,103,101,114] from Qs.symm]
    rfl
   ·rw [show hvs true=sx [104,101,97,118,105,101,114] from Nb.symm]
    rfl
  have u2:=Ag hL1 (.lst [.str (hvs hv),.str (sx n1),.str (sx n2),.str (Str.ofString (toString (c/576%6-1))),.str (sx (ftx x))])
  generalize upd H3 L1 (.lst [.str (hvs hv),.str (sx n1),.str (sx n2),.str (Str.ofString (toString (c/576%6-1))),.str (sx (ftx x))])=H4 at *
  refine ⟨_,L1,_,rfl,rfl,SqL.of eL1,Hu (fun t ht=>?_) (by show 5≤10;decide),?_⟩
  ·rcases List.mem_cons.mp ht with rfl | ht
   ·have:=(DN (Way.more hv n1 n2 (c/576%6-1) x)).1
    (first | lia | omega)
   rcases List.mem_cons.mp ht with rfl | ht
   ·(first | lia | omega)
   rcases List.mem_cons.mp ht with rfl | ht
   ·(first | lia | omega)
   rcases List.mem_cons.mp ht with rfl | ht
   ·(first | lia | omega)
   rcases List.mem_cons.mp ht with rfl | ht
   ·(first | lia | omega)
   ·cases ht
  have s4:=s01.trans (u1.trans (s3.trans u2))
  have wo:O5 ns (.more hv n1 n2 (c/576%6-1) x):=⟨k1,k2,hk,hx⟩
  refine ⟨_,rfl,_,rfl,_,rfl,_,rfl,_,rfl,_,rfl,N,b,px,m,hv,n2,c/576%6-1,x,rfl,bk1.keep (u1.trans (s3.trans u2)),kx.keep u2,bx.mono (by decide),hfin,fun hg r H5 s5 er=>⟨_,rfl,(by show 3≤sizeLine;decide),fun r3 hr3=>?_⟩,fun g hg=>⟨fun hc r H5 s5 er=>⟨_,rfl,(by show 3≤sizeLine;decide),fun r3 hr3=>?_⟩,fun hc r H5 s5 er=>⟨_,rfl,(by show 3≤sizeLine;decide),fun r3 hr3=>?_⟩,fun as cs hc r p ga wa H5 s5 er ep rg rw'=>⟨_,rfl,(by show 3≤sizeLine;decide),fun r3 hr3=>?_⟩⟩⟩
  ·exact fin _ _ _ _ r3 rfl rfl (s4.trans s5) hr3 wo fun H6 s6=>J4 .noname (by simp only [Ca,hg]) (fun _ _ z=>(nomatch z)) (s6 _ _ er)
  ·exact fin _ _ _ _ r3 rfl rfl (s4.trans s5) hr3 wo fun H6 s6=>J4 .bead (by simp only [Ca,hg,hc];rfl) (fun _ _ z=>(nomatch z)) (s6 _ _ er)
  ·exact fin _ _ _ _ r3 rfl rfl (s4.trans s5) hr3 wo fun H6 s6=>J4 .nocord (by simp only [Ca,hg,hc];rfl) (fun _ _ z=>(nomatch z)) (s6 _ _ er)
  ·exact fin _ _ _ _ r3 rfl rfl (s4.trans s5) hr3 wo fun H6 s6=>Q7 (by simp only [Ca,hg,hc];rfl) (s6 _ _ er) (s6 _ _ ep) (rg.keep s6) (rw'.keep s6)
 refine Du c4 ?_
 obtain ⟨sh,hat⟩:∃sh:Bool,atI [V.str (Str.ofString "drop"),V.str (Str.ofString "show")] (c%9-7)=some (.str (if sh then Str.ofString "show" else Str.ofString "drop")):=by
  have:c%9=7∨c%9=8:=by (first | lia | omega)
  rcases this with e | e
  ·exact ⟨false,by rw [e];rfl⟩
  ·exact ⟨true,by rw [e];rfl⟩
 refine ⟨rfl,(by show 2≤sizeLine;decide),fun L hL=>⟨_,rfl,_,_,rfl,rfl,L,_,_,_,rfl,rfl,SqL.of Ad,hat,_,rfl,(by show 2≤sizeLine;decide),fun L1 hL1=>?_⟩⟩
 have u1:=Ag hL (.lst [.str (Str.ofString "drop"),.str (Str.ofString "show")])
 generalize upd H1 L (.lst [.str (Str.ofString "drop"),.str (Str.ofString "show")])=H2 at *
 have u2:=Ag hL1 (.lst [.str (if sh then Str.ofString "show" else Str.ofString "drop"),.str (sx n1)])
 have eL1:upd H2 L1 (.lst [.str (if sh then Str.ofString "show" else Str.ofString "drop"),.str (sx n1)]) L1=some (.lst ((([(Way.bare sh n1).deed,n1]:List (List Nat)).map sx).map V.str)):=by
  rw [Ad]
  cases sh
  ·rw [if_neg (by decide),←Qn]
   rfl
  ·rw [if_pos rfl,←Qm]
   rfl
 generalize upd H2 L1 (.lst [.str (if sh then Str.ofString "show" else Str.ofString "drop"),.str (sx n1)])=H4 at *
 refine ⟨_,L1,_,rfl,rfl,SqL.of eL1,Hu (fun t ht=>?_) (by show 2≤10;decide),_,rfl,(by show 3≤sizeLine;decide),fun r3 hr3=>?_⟩
 ·rcases List.mem_cons.mp ht with rfl | ht
  ·have:=(DN (Way.bare sh n1)).1
   (first | lia | omega)
  rcases List.mem_cons.mp ht with rfl | ht
  ·(first | lia | omega)
  ·cases ht
 ·exact fin (.bare sh n1) _ _ _ r3 rfl rfl (s01.trans (u1.trans u2)) hr3 k1 fun H6 s6=>rfl
theorem Nm.free{l:List Nat}(h:Nm l):32∉l:=fun z=>by
 obtain ⟨i,_,e⟩:=List.mem_map.mp (h.2 32 z)
 have e':97+i=32:=e
 (first | lia | omega)
theorem C30.free{gs ws:List Rat}(h:C30 gs ws):∀t∈Bf gs ws,32∉t:=h.mem (fun w _ z=>by
  rcases List.mem_cons.mp z with z | z
  ·exact absurd z (by decide)
  rcases List.mem_append.mp z with z | z
  ·exact Jj (by decide) (by unfold IK;decide) (by decide) w z
  ·exact absurd z (by decide)) (fun g _ z=>Jj (by decide) (by unfold IK;decide) (by decide) g z)
theorem OkG.mono{A B:Nat}{g:List Rat×List Rat}(h:OkG A g)(l:A≤B):OkG B g:=⟨h.len,h.most,h.pos,⟨fun q hq=>(h.ov.1 q hq).mono l,fun q hq=>(h.ov.2 q hq).mono l⟩⟩
theorem OkM.mono{A B:Nat}{m:List Nat→Option (List Rat×List Rat)}(h:OkM A m)(l:A≤B):OkM B m:=fun x g e=>(h x g e).mono l
theorem Zf{B:Nat}{m:List Nat→Option (List Rat×List Rat)}{ns:List (List Nat)}{w:Way}{gs ws:List Rat}(hm:OkM B m)(h1:8288280≤B)(h2:B<2^60)(wo:O5 ns w)(e:Ca m w=.ok gs ws):OkG (2*B) (gs,ws):=by
 cases w with
 | cord n as cs =>
  cases e
  exact wo.2.ok.mono (by (first | lia | omega))
 | turn n o =>
  simp only [Ca] at e
  cases ho:m o with
  | none =>
   rw [ho] at e
   cases e
  | some g =>
   rw [ho] at e
   cases e
   have k:=hm o g ho
   exact ⟨by show g.1.reverse.length=g.2.reverse.length+1;rw [List.length_reverse,List.length_reverse];exact k.len,by show g.2.reverse.length≤12;rw [List.length_reverse];exact k.most,⟨fun q hq=>k.pos.1 q (List.mem_reverse.mp hq),fun q hq=>k.pos.2 q (List.mem_reverse.mp hq)⟩,⟨fun q hq=>(k.ov.1 q (List.mem_reverse.mp hq)).mono (by (first | lia | omega)),fun q hq=>(k.ov.2 q (List.mem_reverse.mp hq)).mono (by (first | lia | omega))⟩⟩
 | join n o p =>
  simp only [Ca] at e
  cases ho:m o with
  | none =>
   rw [ho] at e
   cases e
  | some g =>
   cases hp:m p with
   | none =>
    rw [ho,hp] at e
    cases e
   | some h =>
    rw [ho,hp] at e
    by_cases hl:12<g.2.length+h.2.length
    ·have e':(if 12<g.2.length+h.2.length then Rl.nocord else .ok (jng g.1 h.1) (g.2++h.2))=.ok gs ws:=e
     rw [if_pos hl] at e'
     cases e'
    ·have e':(if 12<g.2.length+h.2.length then Rl.nocord else .ok (jng g.1 h.1) (g.2++h.2))=.ok gs ws:=e
     rw [if_neg hl] at e'
     cases e'
     have k1:=hm o g ho
     have k2:=hm p h hp
     obtain ⟨j1,j2,j3⟩:=Rj (k1.fine h2) (k2.fine h2)
     have l1:=k1.len
     have l2:=k2.len
     refine ⟨j1,by show (g.2++h.2).length≤12;rw [List.length_append];(first | lia | omega),⟨j2,j3⟩,⟨U7 (fun q hq=>(k1.ov.1 q hq).mono (by (first | lia | omega))) (fun q hq=>(k2.ov.1 q hq).mono (by (first | lia | omega))) ?_,fun q hq=>?_⟩⟩
     ·rw [Po.getD_in (show g.1.length-1<g.1.length by (first | lia | omega)),Po.getD_in (show 0<h.1.length by (first | lia | omega))]
      exact ((k1.ov.1 _ (List.getElem_mem _)).add (k2.ov.1 _ (List.getElem_mem _))).mono (by (first | lia | omega))
     ·rcases List.mem_append.mp hq with z | z
      ·exact (k1.ov.2 q z).mono (by (first | lia | omega))
      ·exact (k2.ov.2 q z).mono (by (first | lia | omega))
 | more hv n o k x =>
  simp only [Ca] at e
  cases ho:m o with
  | none =>
   rw [ho] at e
   cases e
  | some g =>
   rw [ho] at e
   have e':ABN (Gd (if hv then 1 else 0) g.1 g.2 k x)=.ok gs ws:=e
   have kk:=hm o g ho
   have hx:=wo.2.2.2
   have len:=kk.len
   unfold Gd at e'
   by_cases c1:k<((if hv=true then 1 else 0:Nat):Int)∨(g.2.length:Int)<k
   ·rw [if_pos c1] at e'
    cases e'
   rw [if_neg c1] at e'
   by_cases c2:0<x
   ·rw [if_pos c2] at e'
    cases hv
    ·cases e'
     have hk:k.toNat<g.1.length:=by
      have:¬(k<(0:Nat)∨(g.2.length:Int)<k):=c1
      (first | lia | omega)
     refine ⟨by show (mor g.1 k.toNat x).length=_;rw [Fo x hk];exact len,kk.most,⟨Ia kk.pos.1 ?_,kk.pos.2⟩,⟨Ia (fun q hq=>(kk.ov.1 q hq).mono (by (first | lia | omega))) ?_,fun q hq=>(kk.ov.2 q hq).mono (by (first | lia | omega))⟩⟩
     ·rw [Po.getD_in hk]
      have:=kk.pos.1 _ (List.getElem_mem hk)
      grind
     ·rw [Po.getD_in hk]
      exact ((kk.ov.1 _ (List.getElem_mem hk)).add hx).mono (by (first | lia | omega))
    ·cases e'
     have hk:k.toNat-1<g.2.length:=by
      have:¬(k<(1:Nat)∨(g.2.length:Int)<k):=c1
      (first | lia | omega)
     refine ⟨by show _=(mor g.2 (k.toNat-1) x).length+1;rw [Fo x hk];exact len,by show (mor g.2 (k.toNat-1) x).length≤12;rw [Fo x hk];exact kk.most,⟨kk.pos.1,Ia kk.pos.2 ?_⟩,⟨fun q hq=>(kk.ov.1 q hq).mono (by (first | lia | omega)),Ia (fun q hq=>(kk.ov.2 q hq).mono (by (first | lia | omega))) ?_⟩⟩
     ·rw [Po.getD_in hk]
      have:=kk.pos.2 _ (List.getElem_mem hk)
      grind
     ·rw [Po.getD_in hk]
      exact ((kk.ov.2 _ (List.getElem_mem hk)).add hx).mono (by (first | lia | omega))
   ·rw [if_neg c2] at e'
    cases e'
 | bare sh n=>cases e
def Way.form:Way→List Str
 | .cord _ _ _=>["new","cord"]
 | .turn _ _=>["new","name"]
 | .join _ _ _=>["new","name","name"]
 | .more _ _ _ _ _=>["new","name","whole","fraction"]
 | .bare _ _=>["name"]
def Way.ths:Way→List Tg
 | .cord n gs ws=>[.txt n,.cord gs ws]
 | .turn n o=>[.txt n,.txt o]
 | .join n o p=>[.txt n,.txt o,.txt p]
 | .more _ n o k x=>[.txt n,.txt o,.whl k,.frac x]
 | .bare _ n=>[.txt n]
theorem G9{dl:List Nat}{ws:List (List Nat)}(h:∀w∈dl::ws,w.length≤64)(hn:ws.length≤30):(jn 32 (dl::ws)).length≤50000:=by
 have:=Px 32 h
 rw [List.length_cons] at this
 (first | lia | omega)
theorem Nm.len{l:List Nat}(h:Nm l):l.length≤64:=by
 have:=h.1.2
 (first | lia | omega)
theorem Hm(w:Way):De Bw (sx w.deed)=some w.form:=by
 cases w with
 | cord n gs ws=>exact (by decide +kernel:De Bw (sx [99,111,114,100])=some (["new","cord"]:List Str))
 | turn n o=>exact (by decide +kernel:De Bw (sx [116,117,114,110])=some (["new","name"]:List Str))
 | join n o p=>exact (by decide +kernel:De Bw (sx [106,111,105,110])=some (["new","name","name"]:List Str))
 | more hv n o k x =>
  cases hv
  ·exact (by decide +kernel:De Bw (sx [108,111,110,103,101,114])=some (["new","name","whole","fraction"]:List Str))
  ·exact (by decide +kernel:De Bw (sx [104,101,97,118,105,101,114])=some (["new","name","whole","fraction"]:List Str))
 | bare sh n =>
  cases sh
  ·exact (by decide +kernel:De Bw (sx [100,114,111,112])=some (["name"]:List Str))
  ·exact (by decide +kernel:De Bw (sx [115,104,111,119])=some (["name"]:List Str))
theorem Jc(w:Way):w.form.length≤10:=by
 cases w <;> exact Nat.le_of_ble_eq_true rfl
theorem Jh{a b:Str}{xs:List Tg}{r:Res}(e:a=b)(h:MkR b xs r):MkR a xs r:=e ▸ h
theorem HS{w:Way}(h:("new":Str)∈w.form):sx w.deed≠"drop":=by
 cases w with
 | cord n gs ws=>exact Pu ▸ (by decide:("cord":Str)≠"drop")
 | turn n o=>exact QL ▸ (by decide:("turn":Str)≠"drop")
 | join n o p=>exact Q9 ▸ (by decide:("join":Str)≠"drop")
 | more hv n o k x =>
  cases hv
  ·exact Qs ▸ (by decide:("longer":Str)≠"drop")
  ·exact Nb ▸ (by decide:("heavier":Str)≠"drop")
 | bare sh n=>exact absurd h (by show ("new":Str)∉[("name":Str)];decide)
theorem Xh{ns:List (List Nat)}{w:Way}(wo:O5 ns w)(hn:∀l∈ns,Nm l):Wx w.deed w.form w.init w.lastw w.ths:=by
 cases w with
 | cord n gs ws =>
  have c:=wo.2.ok.c30 (by decide)
  have n1:=hn n wo.1
  have few:=wo.2.few
  refine ⟨Hm _,?_,List.cons_ne_nil _ _,rfl,Jc _,rfl,G9 ?_ ?_,?_⟩
  ·intro t ht
   rcases List.mem_cons.mp ht with rfl | ht
   ·exact (DN _).2
   rcases List.mem_cons.mp ht with rfl | ht
   ·exact n1.free
   ·exact c.free t ht
  ·intro t ht
   rcases List.mem_cons.mp ht with rfl | ht
   ·exact (DN _).1
   rcases List.mem_cons.mp ht with rfl | ht
   ·exact n1.len
   ·exact c.len t ht
  ·show (n::Bf gs ws).length≤30
   have e:=c.cnt
   have e':(Bf gs ws).length=2*ws.length+1:=e
   rw [List.length_cons]
   (first | lia | omega)
  ·intro i k l x h1 h2 h3
   match i with
   | 0 =>
    cases h1
    cases h2
    cases h3
    exact ⟨.inl rfl,rfl,n1⟩
   | 1 =>
    cases h1
    cases h2
    cases h3
    exact ⟨rfl,rfl,c⟩
   | j+2=>cases h1
 | turn n o =>
  have n1:=hn n wo.1
  have n2:=hn o wo.2
  refine ⟨Hm _,?_,List.cons_ne_nil _ _,rfl,Jc _,rfl,G9 ?_ (by show 2≤30;decide),?_⟩
  ·intro t ht
   rcases List.mem_cons.mp ht with rfl | ht
   ·exact (DN _).2
   rcases List.mem_cons.mp ht with rfl | ht
   ·exact n1.free
   rcases List.mem_cons.mp ht with rfl | ht
   ·exact n2.free
   ·cases ht
  ·intro t ht
   rcases List.mem_cons.mp ht with rfl | ht
   ·exact (DN _).1
   rcases List.mem_cons.mp ht with rfl | ht
   ·exact n1.len
   rcases List.mem_cons.mp ht with rfl | ht
   ·exact n2.len
   ·cases ht
  ·intro i k l x h1 h2 h3
   match i with
   | 0 =>
    cases h1
    cases h2
    cases h3
    exact ⟨.inl rfl,rfl,n1⟩
   | 1 =>
    cases h1
    cases h2
    cases h3
    exact ⟨.inr rfl,rfl,n2⟩
   | j+2=>cases h1
 | join n o p =>
  have n1:=hn n wo.1
  have n2:=hn o wo.2.1
  have n3:=hn p wo.2.2
  refine ⟨Hm _,?_,List.cons_ne_nil _ _,rfl,Jc _,rfl,G9 ?_ (by show 3≤30;decide),?_⟩
  ·intro t ht
   rcases List.mem_cons.mp ht with rfl | ht
   ·exact (DN _).2
   rcases List.mem_cons.mp ht with rfl | ht
   ·exact n1.free
   rcases List.mem_cons.mp ht with rfl | ht
   ·exact n2.free
   rcases List.mem_cons.mp ht with rfl | ht
   ·exact n3.free
   ·cases ht
  ·intro t ht
   rcases List.mem_cons.mp ht with rfl | ht
   ·exact (DN _).1
   rcases List.mem_cons.mp ht with rfl | ht
   ·exact n1.len
   rcases List.mem_cons.mp ht with rfl | ht
   ·exact n2.len
   rcases List.mem_cons.mp ht with rfl | ht
   ·exact n3.len
   ·cases ht
  ·intro i k l x h1 h2 h3
   match i with
   | 0 =>
    cases h1
    cases h2
    cases h3
    exact ⟨.inl rfl,rfl,n1⟩
   | 1 =>
    cases h1
    cases h2
    cases h3
    exact ⟨.inr rfl,rfl,n2⟩
   | 2 =>
    cases h1
    cases h2
    cases h3
    exact ⟨.inr rfl,rfl,n3⟩
   | j+3=>cases h1
 | more hv n o k x =>
  have n1:=hn n wo.1
  have n2:=hn o wo.2.1
  have f1:=Uw wo.2.2.1
  have f2:F30 x:=QH (wo.2.2.2.bq (by decide))
  have l1:=Fz f1
  rw [Qu] at l1
  have l2:=Fz f2
  refine ⟨Hm _,?_,List.cons_ne_nil _ _,rfl,Jc _,rfl,G9 ?_ (by show 4≤30;decide),?_⟩
  ·intro t ht
   rcases List.mem_cons.mp ht with rfl | ht
   ·exact (DN _).2
   rcases List.mem_cons.mp ht with rfl | ht
   ·exact n1.free
   rcases List.mem_cons.mp ht with rfl | ht
   ·exact n2.free
   rcases List.mem_cons.mp ht with rfl | ht
   ·exact Jf (by decide) (by unfold IK;decide) k
   rcases List.mem_cons.mp ht with rfl | ht
   ·exact Jj (by decide) (by unfold IK;decide) (by decide) x
   ·cases ht
  ·intro t ht
   rcases List.mem_cons.mp ht with rfl | ht
   ·exact (DN _).1
   rcases List.mem_cons.mp ht with rfl | ht
   ·exact n1.len
   rcases List.mem_cons.mp ht with rfl | ht
   ·exact n2.len
   rcases List.mem_cons.mp ht with rfl | ht
   ·(first | lia | omega)
   rcases List.mem_cons.mp ht with rfl | ht
   ·(first | lia | omega)
   ·cases ht
  ·intro i k' l y h1 h2 h3
   match i with
   | 0 =>
    cases h1
    cases h2
    cases h3
    exact ⟨.inl rfl,rfl,n1⟩
   | 1 =>
    cases h1
    cases h2
    cases h3
    exact ⟨.inr rfl,rfl,n2⟩
   | 2 =>
    cases h1
    cases h2
    cases h3
    exact ⟨rfl,(Qu k).symm,f1⟩
   | 3 =>
    cases h1
    cases h2
    cases h3
    exact ⟨rfl,rfl,f2⟩
   | j+4=>cases h1
 | bare sh n =>
  have n1:Nm n:=hn n wo
  refine ⟨Hm _,?_,List.cons_ne_nil _ _,rfl,Jc _,rfl,G9 ?_ (by show 1≤30;decide),?_⟩
  ·intro t ht
   rcases List.mem_cons.mp ht with rfl | ht
   ·exact (DN _).2
   rcases List.mem_cons.mp ht with rfl | ht
   ·exact n1.free
   ·cases ht
  ·intro t ht
   rcases List.mem_cons.mp ht with rfl | ht
   ·exact (DN _).1
   rcases List.mem_cons.mp ht with rfl | ht
   ·exact n1.len
   ·cases ht
  ·intro i k l x h1 h2 h3
   match i with
   | 0 =>
    cases h1
    cases h2
    cases h3
    exact ⟨.inr rfl,rfl,n1⟩
   | j+1=>cases h1
def ABf(CD C:Addr)(N:Nat)(H:Hp)(d ka:Addr)(m:List Nat→Option (List Rat×List Rat))(Q:VK):Way→Prop
 | .bare sh n=>match m n with
  | none=>∀H',Aj H H'→Q (.str "!name") H'
  | some g=>if sh then ∀H',Aj H H'→Q (.str (sx (jn 32 (Bf g.1 g.2)))) H' else ∀H',Sk ka H H'→FJ CD C (N+1) H' d ka (GX m n none)→Q (.str "ok") H'
 | w=>match Ca m w with
  | .ok gs ws=>∀H',Sk ka H H'→FJ CD C (N+1) H' d ka (GX m w.new (some (gs,ws)))→Q (.str "ok") H'
  | r=>∀H',Aj H H'→Q (.str r.txt) H'
theorem ABr{m:List Nat→Option (List Rat×List Rat)}{l:List Nat}(e:m l=none):rsv m "name" (.txt l)=none:=by
 simp [rsv,e]
theorem VR{CD C cN cB cM:Addr}{N B:Nat}{H:Hp}{d ka:Addr}{m:List Nat→Option (List Rat×List Rat)}{ns:List (List Nat)}{w:Way}{Q:VK}(dk:FJ CD C N H d ka m)(hN:N<1000)(hm:OkM B m)(h2:B<2^60)(wo:O5 ns w)(hn:∀l∈ns,Nm l)(q:ABf CD C N H d ka m Q w) :
  GP CD C cN cB cM [.ref d,.str (sx w.row)] H Q (Rfs cN cB cM Q):=by
 have td:=Xh wo hn
 have noN:∀{i:Nat} {l:List Nat},w.form[i]?=some ("name":Str)→w.ths[i]?=some (.txt l)→m l=none→(∀H',Aj H H'→Q (.str "!name") H')→GP CD C cN cB cM [.ref d,.str (sx w.row)] H Q (Rfs cN cB cM Q):=fun {i l} e1 e2 e3 q' =>
  ⟨N,d,ka,m,w.deed,w.form,w.init,w.lastw,w.ths,rfl,dk,hN,td,.inl ⟨⟨i,"name",.txt l,e1,e2,ABr e3⟩,fun H1 s1=>.inl ⟨rfl,rfl,fun H2' s2=>q' H2' (s1.trans s2)⟩⟩⟩
 have rn:∀{l:List Nat} {g:List Rat×List Rat},m l=some g→rsv m "name" (.txt l)=some (.cord g.1 g.2):=fun {l g} e=>by
  simp [rsv,e]
 cases w with
 | cord n gs ws =>
  have aL:("new":Str)∈(Way.cord n gs ws).form:=(by decide:("new":Str)∈(["new","cord"]:List Str))
  refine ⟨N,d,ka,m,_,_,_,_,_,rfl,dk,hN,td,.inr ⟨[.txt n,.cord gs ws],⟨rfl,fun i k x h1 h2=>?_⟩,.inr (.inl ⟨n,_,.ok gs ws,HS aL,aL,rfl,?_,fun as cs e H' sk dk'=>?_,fun e=>(nomatch e),fun e=>(nomatch e)⟩)⟩⟩
  ·match i with
   | 0 =>
    cases h1
    cases h2
    rfl
   | 1 =>
    cases h1
    cases h2
    rfl
   | j+2=>cases h1
  ·exact Jh Pu <| MkR.cord
  ·cases e
   exact q H' sk dk'
 | turn n o =>
  have aL:("new":Str)∈(Way.turn n o).form:=(by decide:("new":Str)∈(["new","name"]:List Str))
  cases ho:m o with
  | none =>
   refine noN (i:=1) rfl rfl ho fun H' s'=>?_
   have q':match Ca m (.turn n o) with
    | .ok gs ws=>∀H',Sk ka H H'→FJ CD C (N+1) H' d ka (GX m n (some (gs,ws)))→Q (.str "ok") H'
    | r=>∀H',Aj H H'→Q (.str r.txt) H':=q
   rw [show Ca m (.turn n o)=.noname by simp only [Ca,ho]] at q'
   exact q' H' s'
  | some g =>
   have q':match Ca m (.turn n o) with
    | .ok gs ws=>∀H',Sk ka H H'→FJ CD C (N+1) H' d ka (GX m n (some (gs,ws)))→Q (.str "ok") H'
    | r=>∀H',Aj H H'→Q (.str r.txt) H':=q
   rw [show Ca m (.turn n o)=.ok g.1.reverse g.2.reverse by simp only [Ca,ho]] at q'
   refine ⟨N,d,ka,m,_,_,_,_,_,rfl,dk,hN,td,.inr ⟨[.txt n,.cord g.1 g.2],⟨rfl,fun i k x h1 h2=>?_⟩,.inr (.inl ⟨n,_,.ok g.1.reverse g.2.reverse,HS aL,aL,rfl,?_,fun as cs e H' sk dk'=>?_,fun e=>(nomatch e),fun e=>(nomatch e)⟩)⟩⟩
   ·match i with
    | 0 =>
     cases h1
     cases h2
     rfl
    | 1 =>
     cases h1
     cases h2
     exact rn ho
    | j+2=>cases h1
   ·exact Jh QL <| MkR.turn ((hm o g ho).fine h2)
   ·cases e
    exact q' H' sk dk'
 | join n o p =>
  have aL:("new":Str)∈(Way.join n o p).form:=(by decide:("new":Str)∈(["new","name","name"]:List Str))
  have q':match Ca m (.join n o p) with
   | .ok gs ws=>∀H',Sk ka H H'→FJ CD C (N+1) H' d ka (GX m n (some (gs,ws)))→Q (.str "ok") H'
   | r=>∀H',Aj H H'→Q (.str r.txt) H':=q
  cases ho:m o with
  | none =>
   rw [show Ca m (.join n o p)=.noname by simp only [Ca,ho]] at q'
   exact noN (i:=1) rfl rfl ho q'
  | some g =>
   cases hp:m p with
   | none =>
    rw [show Ca m (.join n o p)=.noname by simp only [Ca,ho,hp]] at q'
    exact noN (i:=2) rfl rfl hp q'
   | some h =>
    rw [show Ca m (.join n o p)=if 12<g.2.length+h.2.length then .nocord else .ok (jng g.1 h.1) (g.2++h.2) by simp only [Ca,ho,hp]] at q'
    have mk:MkR (sx (Way.join n o p).deed) [.txt n,.cord g.1 g.2,.cord h.1 h.2] (if g.2.length+h.2.length≤12 then .ok (jng g.1 h.1) (g.2++h.2) else .nocord):=Jh Q9 <| MkR.join ((hm o g ho).fine h2) ((hm p h hp).fine h2)
    refine ⟨N,d,ka,m,_,_,_,_,_,rfl,dk,hN,td,.inr ⟨[.txt n,.cord g.1 g.2,.cord h.1 h.2],⟨rfl,fun i k x h1 h2=>?_⟩,.inr (.inl ⟨n,_,_,HS aL,aL,rfl,mk,fun as cs e H' sk dk'=>?_,fun e=>?_,fun e dd H' s' ed=>?_⟩)⟩⟩
    ·match i with
     | 0 =>
      cases h1
      cases h2
      rfl
     | 1 =>
      cases h1
      cases h2
      exact rn ho
     | 2 =>
      cases h1
      cases h2
      exact rn hp
     | j+3=>cases h1
    ·by_cases hl:12<g.2.length+h.2.length
     ·rw [if_neg (by (first | lia | omega))] at e
      cases e
     ·rw [if_pos (by (first | lia | omega))] at e
      cases e
      rw [if_neg hl] at q'
      exact q' H' sk dk'
    ·by_cases hl:12<g.2.length+h.2.length
     ·rw [if_neg (by (first | lia | omega))] at e
      cases e
     ·rw [if_pos (by (first | lia | omega))] at e
      cases e
    ·by_cases hl:12<g.2.length+h.2.length
     ·rw [if_pos hl] at q'
      exact .inr (.inr ⟨dd,rfl,rfl,ed,fun H3 s3=>q' H3 (s'.trans s3)⟩)
     ·rw [if_pos (by (first | lia | omega))] at e
      cases e
 | more hv n o k x =>
  have aL:("new":Str)∈(Way.more hv n o k x).form:=(by decide:("new":Str)∈(["new","name","whole","fraction"]:List Str))
  have q':match Ca m (.more hv n o k x) with
   | .ok gs ws=>∀H',Sk ka H H'→FJ CD C (N+1) H' d ka (GX m n (some (gs,ws)))→Q (.str "ok") H'
   | r=>∀H',Aj H H'→Q (.str r.txt) H':=q
  cases ho:m o with
  | none =>
   rw [show Ca m (.more hv n o k x)=.noname by simp only [Ca,ho]] at q'
   exact noN (i:=1) rfl rfl ho q'
  | some g =>
   rw [show Ca m (.more hv n o k x)=ABN (Gd (if hv then 1 else 0) g.1 g.2 k x) by simp only [Ca,ho]] at q'
   have bx:Bq 101 x:=(wo.2.2.2.bq (by decide)).mono (by decide)
   have mk:MkR (sx (Way.more hv n o k x).deed) [.txt n,.cord g.1 g.2,.whl k,.frac x] (Gd (if hv then 1 else 0) g.1 g.2 k x):=by
    cases hv
    ·exact Jh Qs <| MkR.longer ((hm o g ho).fine h2) bx
    ·exact Jh Nb <| MkR.heavier ((hm o g ho).fine h2) bx
   refine ⟨N,d,ka,m,_,_,_,_,_,rfl,dk,hN,td,.inr ⟨[.txt n,.cord g.1 g.2,.whl k,.frac x],⟨rfl,fun i k x h1 h2=>?_⟩,.inr (.inl ⟨n,_,_,HS aL,aL,rfl,mk,fun as cs e H' sk dk'=>?_,fun e H' s'=>?_,fun e dd H' s' ed=>?_⟩)⟩⟩
   ·match i with
    | 0 =>
     cases h1
     cases h2
     rfl
    | 1 =>
     cases h1
     cases h2
     exact rn ho
    | 2 =>
     cases h1
     cases h2
     rfl
    | 3 =>
     cases h1
     cases h2
     rfl
    | j+4=>cases h1
   ·rw [e] at q'
    exact q' H' sk dk'
   ·rw [e] at q'
    exact .inr (.inl ⟨rfl,rfl,fun H3 s3=>q' H3 (s'.trans s3)⟩)
   ·rw [e] at q'
    exact .inr (.inr ⟨dd,rfl,rfl,ed,fun H3 s3=>q' H3 (s'.trans s3)⟩)
 | bare sh n =>
  have q':match m n with
   | none=>∀H',Aj H H'→Q (.str "!name") H'
   | some g=>if sh then ∀H',Aj H H'→Q (.str (sx (jn 32 (Bf g.1 g.2)))) H' else ∀H',Sk ka H H'→FJ CD C (N+1) H' d ka (GX m n none)→Q (.str "ok") H':=q
  cases ho:m n with
  | none =>
   rw [ho] at q'
   exact noN (i:=0) rfl rfl ho q'
  | some g =>
   rw [ho] at q'
   refine ⟨N,d,ka,m,_,_,_,_,_,rfl,dk,hN,td,.inr ⟨[.cord g.1 g.2],⟨rfl,fun i k x h1 h2=>?_⟩,?_⟩⟩
   ·match i with
    | 0 =>
     cases h1
     cases h2
     exact rn ho
    | j+1=>cases h1
   cases sh
   ·exact .inl ⟨n,Qn,rfl,q'⟩
   ·exact .inr (.inr ⟨g.1,g.2,Qm,rfl,(hm n g ho).c30 h2,q'⟩)
def Sk2(ka b:Addr)(H H':Hp):Prop:=∀x o,x≠ka→x≠b→H x=some o→H' x=some o
theorem Sk.of{ka:Addr}{H H':Hp}{kv:List (Key×V)}(s:Sk ka H H')(e:H ka=some (.dK kv)){a:Addr}{o:HO}(h:H a=some o)(n:∀k,o≠.dK k):H' a=some o:=s a o (fun z=>by rw [z,e] at h;exact n _ (Option.some.inj h).symm) h
theorem AAs{ka:Addr}{H H':Hp}{kv:List (Key×V)}(s:Sk ka H H')(e:H ka=some (.dK kv)){ps:List Addr}{qs:List Rat}(k:Pqs H ps qs):Pqs H' ps qs:=by
 induction k with
 | nil=>exact .nil
 | cons x _ ih=>exact .cons (s.of e x fun k z=>(nomatch z)) ih
theorem Pg{ka:Addr}{H H':Hp}{kv:List (Key×V)}(s:Sk ka H H')(e:H ka=some (.dK kv)){a:Addr}{qs:List Rat}(h:Rw H a qs):Rw H' a qs:=by
 obtain ⟨ps,ea,k⟩:=h
 exact ⟨ps,s.of e ea fun k z=>(nomatch z),AAs s e k⟩
theorem Th{ka:Addr}{H H':Hp}{kv aG:List (Key×V)}{m:List Nat→Option (List Rat×List Rat)}(s:Sk ka H H')(e:H ka=some (.dK kv))(h:BkM H aG m):BkM H' aG m:=fun l=>⟨(h l).1,fun g hg=>by
 obtain ⟨p,ga,wa,ev,e2,r1,r2⟩:=(h l).2 g hg
 exact ⟨p,ga,wa,ev,s.of e e2 fun k z=>(nomatch z),Pg s e r1,Pg s e r2⟩⟩
theorem Z0{N:Nat}{ka b:Addr}{H H':Hp}{kv:List (Key×V)}{m:List Nat→Option (List Rat×List Rat)}(s:Sk ka H H')(e:H ka=some (.dK kv))(n:b≠ka)(h:Bk N H b m):Bk N H' b m:=by
 obtain ⟨aG,eb,hl,bm⟩:=h
 exact ⟨aG,s _ _ n eb,hl,Th s e bm⟩
theorem ABS{ka:Addr}{H H':Hp}{kv:List (Key×V)}{v:V}{r:Rl}(s:Sk ka H H')(e:H ka=some (.dK kv))(h:Due H v r):Due H' v r:=by
 obtain ⟨q,u,ev,eq,k⟩:=h
 exact ⟨q,u,ev,s.of e eq fun k z=>(nomatch z),fun gs ws z=>by
  obtain ⟨p,ga,wa,e1,e2,r1,r2⟩:=k gs ws z
  exact ⟨p,ga,wa,e1,s.of e e2 fun k z=>(nomatch z),Pg s e r1,Pg s e r2⟩⟩
theorem KY{ka:Addr}{H:Hp}{o:HO}:Sk ka H (upd H ka o):=fun x ox n ex=>by rw [Ai n];exact ex
theorem BkM.put{H:Hp}{aG kvs':List (Key×V)}{m:List Nat→Option (List Rat×List Rat)}{b p ga wa:Addr}{l:List Nat}{g:List Rat×List Rat}(h:BkM H aG m)(e:H b=some (.dK aG))(ep:H p=some (.tup [.ref ga,.ref wa]))(r1:Rw H ga g.1)(r2:Rw H wa g.2)(hk:kvs'=Gw aG (.inr (sx l)) (.ref p)):BkM (upd H b (.dK kvs')) kvs' (GX m l (some g)):=by
 have h':=Th (KY (o:=.dK kvs')) e h
 intro x
 unfold GX
 have hv:Ck kvs' (.inr (sx x):Key)=if (.inr (sx x):Key)=.inr (sx l) then some (.ref p) else Ck aG (.inr (sx x):Key):=by rw [hk,Ru]
 rw [hv]
 by_cases hx:x=l
 ·rw [if_pos hx,if_pos (by rw [hx])]
  exact ⟨fun z=>(nomatch z),fun g' hg=>by
   cases hg
   exact ⟨p,ga,wa,rfl,KY.of e ep fun k z=>(nomatch z),Pg KY e r1,Pg KY e r2⟩⟩
 ·rw [if_neg hx,if_neg (fun z=>hx (KC (Sum.inr.inj z)))]
  exact h' x
theorem BkM.drop{H:Hp}{aG kvs':List (Key×V)}{m:List Nat→Option (List Rat×List Rat)}{b:Addr}{l:List Nat}(h:BkM H aG m)(e:H b=some (.dK aG))(hk:kvs'=G5 aG (.inr (sx l))):BkM (upd H b (.dK kvs')) kvs' (GX m l none):=by
 have h':=Th (KY (o:=.dK kvs')) e h
 intro x
 unfold GX
 have hv:Ck kvs' (.inr (sx x):Key)=if (.inr (sx x):Key)=.inr (sx l) then none else Ck aG (.inr (sx x):Key):=by rw [hk,O6]
 rw [hv]
 by_cases hx:x=l
 ·rw [if_pos hx,if_pos (by rw [hx])]
  exact ⟨fun _=>rfl,fun g' hg=>(nomatch hg)⟩
 ·rw [if_neg hx,if_neg (fun z=>hx (KC (Sum.inr.inj z)))]
  exact h' x
theorem RZ{CD C:Addr}{N:Nat}{H:Hp}{d ka b:Addr}{m:List Nat→Option (List Rat×List Rat)}{kv kv':List (Key×V)}(h:FJ CD C N H d ka m)(e:H b=some (.dK kv))(n:b≠ka):FJ CD C N (upd H b (.dK kv')) d ka m:=by
 obtain ⟨dx,aG,e1,e2,hl,dm⟩:=h
 refine ⟨dx,aG,KY.of e e1 fun k z=>(nomatch z),?_,hl,fun l=>⟨(dm l).1,fun g hg=>?_⟩⟩
 ·rw [Ai (fun z=>n z.symm)]
  exact e2
 ·obtain ⟨c,ga,wa,ev,co⟩:=(dm l).2 g hg
  exact ⟨c,ga,wa,ev,Le co e⟩
theorem FJ.mono{CD C:Addr}{N M:Nat}{H:Hp}{d ka:Addr}{m:List Nat→Option (List Rat×List Rat)}(h:FJ CD C N H d ka m)(l:N≤M):FJ CD C M H d ka m:=by
 obtain ⟨dx,aG,e1,e2,hl,dm⟩:=h
 exact ⟨dx,aG,e1,e2,by (first | lia | omega),dm⟩
theorem Bk.mono{N M:Nat}{H:Hp}{b:Addr}{m:List Nat→Option (List Rat×List Rat)}(h:Bk N H b m)(l:N≤M):Bk M H b m:=by
 obtain ⟨aG,e,hl,bm⟩:=h
 exact ⟨aG,e,by (first | lia | omega),bm⟩
theorem Ve{B:Nat}{m:List Nat→Option (List Rat×List Rat)}{l:List Nat}{o:Option (List Rat×List Rat)}(h:OkM B m)(ho:∀g,o=some g→OkG B g):OkM B (GX m l o):=fun x g e=>by
 unfold GX at e
 by_cases hx:x=l
 ·rw [if_pos hx] at e
  exact ho g e
 ·rw [if_neg hx] at e
  exact h x g e
theorem ZK{CD C:Addr}{N:Nat}{H:Hp}{d ka:Addr}{m:List Nat→Option (List Rat×List Rat)}{Q:VK}{w:Way}(hw:∀sh n,w≠.bare sh n)
  (hok:∀gs ws,Ca m w=.ok gs ws→∀H',Sk ka H H'→FJ CD C (N+1) H' d ka (GX m w.new (some (gs,ws)))→Q (.str "ok") H')
  (hno:∀r,Ca m w=r→(∀gs ws,r≠.ok gs ws)→∀H',Aj H H'→Q (.str r.txt) H'):ABf CD C N H d ka m Q w:=by
 have k:match Ca m w with
  | .ok gs ws=>∀H',Sk ka H H'→FJ CD C (N+1) H' d ka (GX m w.new (some (gs,ws)))→Q (.str "ok") H'
  | r=>∀H',Aj H H'→Q (.str r.txt) H':=by
  cases e:Ca m w with
  | ok gs ws=>exact hok gs ws e
  | noname=>exact hno _ e fun _ _ z=>(nomatch z)
  | bead=>exact hno _ e fun _ _ z=>(nomatch z)
  | nocord=>exact hno _ e fun _ _ z=>(nomatch z)
 cases w with
 | bare sh n=>exact absurd rfl (hw sh n)
 | cord n gs ws=>exact k
 | turn n o=>exact k
 | join n o p=>exact k
 | more hv n o x y=>exact k
theorem Ol{CD C:Addr}{N:Nat}{H:Hp}{d ka:Addr}{m:List Nat→Option (List Rat×List Rat)}{Q:VK}{sh:Bool}{n:List Nat}(h0:m n=none→∀H',Aj H H'→Q (.str "!name") H')(h1:∀g,m n=some g→sh=true→∀H',Aj H H'→Q (.str (sx (jn 32 (Bf g.1 g.2)))) H')
  (h2:∀g,m n=some g→sh=false→∀H',Sk ka H H'→FJ CD C (N+1) H' d ka (GX m n none)→Q (.str "ok") H'):ABf CD C N H d ka m Q (.bare sh n):=by
 show match m n with
  | none=>∀H',Aj H H'→Q (.str "!name") H'
  | some g=>if sh then ∀H',Aj H H'→Q (.str (sx (jn 32 (Bf g.1 g.2)))) H' else ∀H',Sk ka H H'→FJ CD C (N+1) H' d ka (GX m n none)→Q (.str "ok") H'
 cases hm:m n with
 | none=>exact h0 hm
 | some g =>
  cases sh
  ·exact h2 g hm rfl
  ·exact h1 g hm rfl
theorem AAp{m:List Nat→Option (List Rat×List Rat)}{H:Hp}{v:V}{w:Way}(hw:∀sh n,w≠.bare sh n)(h:ABs m H v w):Due H v (Ca m w):=by
 cases w with
 | bare sh n=>exact absurd rfl (hw sh n)
 | cord n gs ws=>exact h
 | turn n o=>exact h
 | join n o p=>exact h
 | more hv n o x y=>exact h
theorem ABc{r:Rl}(h:∀gs ws,r≠.ok gs ws):r.txt≠"ok":=by
 cases r with
 | ok gs ws=>exact absurd rfl (h gs ws)
 | noname=>exact (by decide:("!name":Str)≠"ok")
 | bead=>exact (by decide:("!bead":Str)≠"ok")
 | nocord=>exact (by decide:("!cordNone":Str)≠"ok")
theorem Lk(sh:Bool)(n:List Nat):(sx (Way.row (.bare sh n))).length=n.length+5:=by
 rw [BX]
 cases sh
 ·show (([100,114,111,112]:List Nat)++32::n).length=_
  rw [List.length_append,List.length_cons]
  show 4+(n.length+1)=_
  (first | lia | omega)
 ·show (([115,104,111,119]:List Nat)++32::n).length=_
  rw [List.length_append,List.length_cons]
  show 4+(n.length+1)=_
  (first | lia | omega)
theorem Zz(sh:Bool)(n:List Nat):Txt.slice (sx (Way.row (.bare sh n))) none (some 4)=if sh then "show" else "drop":=by
 have hl:=Lk sh n
 have e:=StrLaws.sliceText_to (x:=sx (Way.row (.bare sh n))) (j:=4) ⟨by decide,by rw [Ij,←BX];(first | lia | omega)⟩
 refine (show Txt.slice (sx (Way.row (.bare sh n))) none (some 4)=_ from e).trans ?_
 cases sh
 ·exact Qn
 ·exact Qm
def Nk(CD C:Addr):Sp:=fun vs H Q _=>∃(N B:Nat) (d ka b nm:Addr) (ns:List (List Nat)) (m:List Nat→Option (List Rat×List Rat)) (c:Int),vs=[.ref d,.ref b,.ref nm,.int c]∧FJ CD C N H d ka m∧Bk N H b m∧b≠ka∧N<900∧H nm=some (.lst ((ns.map sx).map V.str))∧ns.length=4∧(∀l∈ns,Nm l)∧OkM B m∧8288280≤B∧B<2^60 ∧
 ∀m' H',Sk2 ka b H H'→FJ CD C (N+1) H' d ka m'→Bk (N+1) H' b m'→OkM (2*B) m'→Q (.bl true) H'
theorem GC:Aw ["_law_desk","_law_book","_law_names","_law_cell","_law_row_here","_law_due","_law_new","_law_answer"] ["_law_desk","_law_book","_law_names","_law_cell"] (Ac Ft):=⟨rfl,rfl,rfl,by decide +kernel,rfl,by decide +kernel,by decide +kernel⟩
set_option maxHeartbeats 1000000 in
theorem RK{c_NoCord c_NoBead c_NoName:Addr}(F:Fun K "_law_step" "_law_step" Ft f fd)(T:Txt mg)(C_law_row:Cal P w K mg base "_law_row" 4 ["_law_book","_law_names","_law_cell"] QR)(C_law_say:Cal P w K mg base "_law_say" 10 ["_law_desk","_law_row_here"] (LK o_Desk o_Cord c_NoCord c_NoBead c_NoName))(C_law_shown:Cal P w K mg base "_law_shown" 2 ["_law_cord"] Hx):BZ P w K mg base CX0 11 f fd ["_law_desk","_law_book","_law_names","_law_cell"] (Nk o_Desk o_Cord):=by
 refine F.ok GC (fun vs H Q E h=>?_) (fun cdv A outer s H vs Q E hr h=>?_)
 ·obtain ⟨N,B,d,ka,b,nm,ns,m,c,rfl,_⟩:=h
  rfl
 obtain ⟨N,B,d,ka,b,nm,ns,m,c,rfl,dk,bk,nb,hN,enm,l4,hnm,okm,hB1,hB2,q⟩:=h
 refine ⟨_,(Ab (Jx (BR C_law_row hr (Aa (pv 1) (Aa (pv 2) (Aa (pv 3) Ae)))) (MP rfl (CT (CZ (i:=4) GC.nd rfl (Or.inl rfl)) (CT (CZ (i:=5) GC.nd rfl (Or.inl rfl)) (CT (CZ (i:=6) GC.nd rfl (Or.inl rfl)) Ie)))))
   (Ab (Ay (i:=7) GC.nd rfl (Or.inl rfl) (BR C_law_say hr (Aa (pv 0) (Aa (pv 4) Ae))))
   (Ab (BL (Ao AAx (pv 5) Gp (Ar _))
    (Ab (BL (Hg (FT (hu1 hr) (pv 6) (pv 1)))
     (Ah (Al (Eo Bo (pv 7) Aq (Ar _))))
     Am)
    (Ab (BL (Ao Bo (CV UJ (pv 4) Do (CQ Af)) Aq (Ar _))
     (Ah (Al (Eo Bo (pv 7) (BR C_law_shown hr (Aa (Dz (hu1 hr) (pv 1) (pv 6) (fun _ _=>rfl)) Ae)) (Ar _))))
     Am)
    (Ab (Ep (RQ (pv 1) (pv 6) ⟨rfl,rfl,rfl,rfl⟩))
    (Ah (Al (Eo Bo (pv 7) Aq (Ar _)))))))
    Am)
   (Ab (BL (Ao Bo (Az BP (pv 5) Af (fun _ _=>rfl)) Aq (Ar _))
    (Ah (U0 (hu1 hr) (pv 1) (pv 6) (Az BP (pv 5) Af (fun _ _=>rfl)) rfl))
    Am)
   (Ah (Al (Eo Bo (pv 7) (Az BP (pv 5) Af (fun _ _=>rfl)) (Ar _)))))))),?_⟩
 refine ⟨_,rfl,_,rfl,_,rfl,N,b,nm,ns,m,c,rfl,bk,enm,l4,hnm,fun l g hg=>(okm l g hg).fine hB2,fun r due wy H1 s1 er wo du=>?_⟩
 refine ⟨r,_,rfl,SqT.of er,rfl,_,_,rfl,_,_,rfl,_,_,rfl,rfl,?_⟩
 have dk1:=dk.keep s1
 have bk1:=bk.keep s1
 refine ⟨_,rfl,_,rfl,VR dk1 (by (first | lia | omega)) okm hB2 wo hnm ?_⟩
 obtain ⟨dx,aG,e1,e2,hl,dm⟩:=id dk1
 have hz:(1000:Nat)<sizeLine:=by decide
 have sk0:∀{H2:Hp},Aj H1 H2→Sk2 ka b H H2:=fun s2 x o _ _ e=>(s1.trans s2) x o e
 by_cases hb:∃sh n,wy=.bare sh n
 ·obtain ⟨sh,n,rfl⟩:=hb
  obtain rfl:due=.non:=du
  have ln:=(hnm n wo).1.2
  obtain ⟨kb,eb,lb,bm⟩:=id bk1
  refine Ol (fun hm H2 s2=>?_) (fun g hm hs H2 s2=>?_) (fun g hm hs H2 sk dk2=>?_)
  ·refine ⟨_,rfl,rfl,_,rfl,G6 rfl ?_⟩
   refine ⟨_,rfl,_,rfl,b,_,rfl,Dk.k (k:=.inr (sx n)) (s2 _ _ eb),_,rfl,?_⟩
   rw [(bm n).1 hm]
   refine FN ?_
   refine ⟨_,rfl,rfl,?_⟩
   have h:=q m H2 (sk0 s2) ((dk1.keep s2).mono (by (first | lia | omega))) ((bk1.keep s2).mono (by (first | lia | omega))) (okm.mono (by (first | lia | omega)))
   rw [←decide_eq_true (rfl:V.str (Str.ofString "!name")=V.str (Str.ofString "!name"))] at h
   exact h
  ·obtain ⟨p,ga,wa,ev,ep,rg,rw'⟩:=(bm.keep s2 n).2 g hm
   refine ⟨_,rfl,rfl,_,rfl,G6 rfl ?_⟩
   refine ⟨_,rfl,_,rfl,b,_,rfl,Dk.k (k:=.inr (sx n)) (s2 _ _ eb),_,rfl,?_⟩
   rw [ev]
   refine DY ?_
   refine ⟨_,rfl,4,rfl,_,rfl,by rw [Lk];(first | lia | omega),rfl,_,rfl,Kw (by rw [Zz,hs];rfl) ?_⟩
   refine ⟨_,rfl,_,rfl,_,rfl,b,_,rfl,by rw [←ev];exact Dk.k (k:=.inr (sx n)) (s2 _ _ eb),p,ga,wa,g.1,g.2,rfl,ep,rg,rw',(okm n g hm).c30 hB2,fun H3 s3=>⟨rfl,?_⟩⟩
   have h:=q m H3 (sk0 (s2.trans s3)) ((dk1.keep (s2.trans s3)).mono (by (first | lia | omega))) ((bk1.keep (s2.trans s3)).mono (by (first | lia | omega))) (okm.mono (by (first | lia | omega)))
   rw [←decide_eq_true (rfl:V.str (sx (jn 32 (Bf g.1 g.2)))=V.str (sx (jn 32 (Bf g.1 g.2))))] at h
   exact h
  ·obtain ⟨kb,eb,lb,bm⟩:=Z0 sk e2 nb bk1
   obtain ⟨p,ga,wa,ev,ep,rg,rw'⟩:=(bm n).2 g hm
   refine ⟨_,rfl,rfl,_,rfl,G6 rfl ?_⟩
   refine ⟨_,rfl,_,rfl,b,_,rfl,Dk.k (k:=.inr (sx n)) eb,_,rfl,?_⟩
   rw [ev]
   refine DY ?_
   refine ⟨_,rfl,4,rfl,_,rfl,by rw [Lk];(first | lia | omega),rfl,_,rfl,sne (by rw [Zz,hs];decide) ?_⟩
   refine ⟨_,rfl,b,rfl,.inl ⟨kb,.inl eb⟩,_,rfl,kb,.inr (sx n),_,eb,rfl,ev,?_⟩
   refine ⟨_,rfl,rfl,?_⟩
   have h:=q (GX m n none) (upd H2 b (.dK (G5 kb (.inr (sx n))))) (fun x o n1 n2 ex=>by
    rw [Ai n2]
    exact sk x o n1 (s1 x o ex)) (RZ dk2 eb nb) ⟨_,Ad,by have:=MF kb (.inr (sx n):Key);(first | lia | omega),bm.drop eb rfl⟩ (Ve (okm.mono (by (first | lia | omega))) fun g hg=>(nomatch hg))
   rw [←decide_eq_true (rfl:V.str (Str.ofString "ok")=V.str (Str.ofString "ok"))] at h
   exact h
 have hw:∀sh n,wy≠.bare sh n:=fun sh n z=>hb ⟨sh,n,z⟩
 have du1:=AAp hw du
 refine ZK hw (fun gs ws hr' H2 sk dk2=>?_) (fun rr hr' hne H2 s2=>?_)
 ·rw [hr'] at du1
  obtain ⟨qa,u,rfl,eq,k⟩:=ABS sk e2 du1
  obtain ⟨p,ga,wa,rfl,ep,rg,rw'⟩:=k gs ws rfl
  obtain ⟨kb,eb,lb,bm⟩:=Z0 sk e2 nb bk1
  have nq:qa≠b:=GZ eq eb (by intro z;cases z)
  refine ⟨_,rfl,rfl,_,rfl,Du (fun z=>(nomatch z)) ?_⟩
  refine ⟨_,rfl,qa,_,_,_,rfl,rfl,SqT.of eq,rfl,rfl,_,rfl,Kw rfl ?_⟩
  refine ⟨_,rfl,qa,_,_,_,rfl,rfl,SqT.of eq,rfl,_,rfl,_,rfl,b,_,rfl,Ut.k (k:=.inr (sx wy.new)) eb (by (first | lia | omega)),?_⟩
  have eq':upd H2 b (.dK (Gw kb (.inr (sx wy.new)) (.ref p))) qa=some (.tup [.str (Rl.ok gs ws).txt,.ref p]):=by
   rw [Ai nq]
   exact eq
  refine ⟨_,rfl,_,rfl,qa,_,_,_,rfl,rfl,SqT.of eq',rfl,rfl,?_⟩
  have h:=q (GX m wy.new (some (gs,ws))) (upd H2 b (.dK (Gw kb (.inr (sx wy.new)) (.ref p)))) (fun x o n1 n2 ex=>by
   rw [Ai n2]
   exact sk x o n1 (s1 x o ex)) (RZ dk2 eb nb) ⟨_,Ad,by have:=VH kb (.inr (sx wy.new):Key) (.ref p);(first | lia | omega),bm.put (g:=(gs,ws)) eb ep rg rw' rfl⟩ (Ve (okm.mono (by (first | lia | omega))) fun g hg=>by
   cases hg
   exact Zf okm hB1 hB2 wo hr')
  rw [←decide_eq_true (rfl:V.str (Str.ofString "ok")=V.str (Str.ofString "ok"))] at h
  exact h
 ·rw [hr'] at du1
  obtain ⟨qa,u,rfl,eq,_⟩:=du1.keep s2
  refine ⟨_,rfl,rfl,_,rfl,Du (fun z=>(nomatch z)) ?_⟩
  refine ⟨_,rfl,qa,_,_,_,rfl,rfl,SqT.of eq,rfl,rfl,_,rfl,sne (ABc hne) ?_⟩
  refine ⟨_,rfl,_,rfl,qa,_,_,_,rfl,rfl,SqT.of eq,rfl,rfl,?_⟩
  have h:=q m H2 (sk0 s2) ((dk1.keep s2).mono (by (first | lia | omega))) ((bk1.keep s2).mono (by (first | lia | omega))) (okm.mono (by (first | lia | omega)))
  rw [←decide_eq_true (rfl:V.str rr.txt=V.str rr.txt)] at h
  exact h
theorem R1{K:PySem.W.Frag}{H H':Hp}{a:Addr}{xs:List V}(h:SqL K H a xs)(s:Aj H H'):SqL K H' a xs:=by
 rcases h with (h | ⟨o,h⟩) | h
 ·exact .inl (.inl (s _ _ h))
 ·exact .inl (.inr ⟨o,s _ _ h⟩)
 ·exact .inr h
theorem Su:∀{ys:List V},(∀(i:Nat) y,ys[i]?=some y→∃l,y=.str (sx l)∧Nm l)→∃ns:List (List Nat),ys=(ns.map sx).map V.str∧∀l∈ns,Nm l
 | [],_=>⟨[],rfl,fun l h=>by cases h⟩
 | y::r,h=>by
  obtain ⟨l,e,n⟩:=h 0 y rfl
  obtain ⟨ns,e2,n2⟩:=Su (ys:=r) fun i z hz=>h (i+1) z hz
  refine ⟨l::ns,by rw [e,e2];rfl,fun x hx=>?_⟩
  rcases List.mem_cons.mp hx with rfl | hx
  ·exact n
  ·exact n2 x hx
theorem Xg(cs:List Int):∃xs:List Int,Cj (cs.map V.int) (some 1) (some 25)=xs.map V.int∧xs.length≤24:=by
 refine ⟨(cs.drop (min 1 cs.length)).take (min 25 cs.length-min 1 cs.length),?_,?_⟩
 ·unfold Cj
  rw [show (some (1:Int))=some ((1:Nat):Int) from rfl,show (some (25:Int))=some ((25:Nat):Int) from rfl,HT.sIx_nat,HT.sIx_nat,List.length_map,List.map_take,List.map_drop]
 ·rw [List.length_take,List.length_drop]
  (first | lia | omega)
theorem AAX:∀i:Nat,i<26→8288280≤8288280*2^i∧8288280*2^i<2^60:=by decide
theorem X6(l:List Nat):Str.ofString "show "++sx l=sx (Way.row (.bare true l)):=by
 rw [show Str.ofString "show "=sx [115,104,111,119,32] by decide +kernel,Fx]
 rfl
theorem JM:Aw ["_law_script","_law_names","_law_desk","_law_book","_law_cell","_law_name_here","_law_answer"] ["_law_script"] (Ac Iv):=⟨rfl,rfl,rfl,by decide +kernel,rfl,by decide +kernel,by decide +kernel⟩
set_option maxHeartbeats 1000000 in
theorem ABd{c_NoCord c_NoBead c_NoName:Addr}(F:Fun K "law" "law" Iv f fd)(T:Txt mg)(C_law_cell_at:Cal P w K mg base "_law_cell_at" 1 ["_law_script","_law_k"] (Mm K))(C_law_name:Cal P w K mg base "_law_name" 1 ["_law_cell","_law_k"] Mp)(C_law_step:Cal P w K mg base "_law_step" 11 ["_law_desk","_law_book","_law_names","_law_cell"] (Nk o_Desk o_Cord))(C_law_say:Cal P w K mg base "_law_say" 10 ["_law_desk","_law_row_here"] (LK o_Desk o_Cord c_NoCord c_NoBead c_NoName))(C_law_shown:Cal P w K mg base "_law_shown" 2 ["_law_cord"] Hx)(C_Desk_init:AAt P w K mg base "Desk" o_Desk 1 ["self"] (Mr o_Desk)):BZ P w K mg base CX0 12 f fd ["_law_script"] (Qp K):=by
 refine F.ok JM (fun vs H Q E h=>?_) (fun cdv A outer s H vs Q E hr h=>?_)
 ·obtain ⟨a,ns,rfl,_⟩:=h
  rfl
 obtain ⟨a,cs,rfl,ha,aB,q⟩:=h
 refine ⟨_,(Ab (HQ (i:=1) JM.nd rfl (Or.inl rfl) (N':=["_law_k","_law_script"]) (fsc:=Ac Iv) (N:=["_law_script","_law_names","_law_desk","_law_book","_law_cell","_law_name_here","_law_answer"]) [0] ⟨rfl,by decide +kernel,by decide +kernel,by decide +kernel,rfl,by decide +kernel,rfl,by decide +kernel⟩ (Ib rfl T.z_range (Aa Af Ae)) (fun _ _ _ _=>(BR C_law_name hr (Aa (BR C_law_cell_at hr (Aa (pv 1) (Aa Af Ae))) (Aa (pv 0) Ae)))))
   (Ab (Ay (i:=2) JM.nd rfl (Or.inl rfl) (AAo C_Desk_init hr))
   (Ab (Ay (i:=3) JM.nd rfl (Or.inl rfl) Rx)
   (Ab (MJ PassesOwn.never rfl (IV (CV Es (pv 0) (CQ Af) (CQ Af))) (CZ (i:=4) JM.nd rfl (Or.inl rfl))
    (Ab (BL (Di (Cz (BR C_law_step hr (Aa (pv 2) (Aa (pv 3) (Aa (pv 1) (Aa (pv 4) Ae)))))))
     (Ah (Al Jo))
     Am)
    (Ah (MJ PassesOwn.never rfl (IV (pv 1)) (CZ (i:=5) JM.nd rfl (Or.inl rfl))
     (Ab (Ay (i:=6) JM.nd rfl (Or.inl rfl) (BR C_law_say hr (Aa (pv 2) (Aa (Ax Dh Aq (pv 5)) Ae))))
     (Ah (BL (PW.pt (GQ (PW.pt (Xo (Hg (AAm (hu1 hr) (pv 5) (pv 3))) (VG (Ao Jp (pv 6) (BR C_law_shown hr (Aa (Dz (hu1 hr) (pv 3) (pv 5) (fun _ _=>rfl)) Ae)) (Ar _))))) (Dw (PW.pt (Xo (Hg (FT (hu1 hr) (pv 5) (pv 3))) (VG (Ao Jp (pv 6) Aq (Ar _))))))))
      (Ah (Al Jo))
      Am)))))))
   (Ah (Al Jo)))))),?_⟩
 have hz:(1000:Nat)<sizeLine:=by decide
 refine ⟨_,rfl,by decide,by decide,Kv (n:=4) (by decide) (fun _ y=>∃l,y=.str (sx l)∧Nm l) ?_ ?_⟩
 ·intro s₀ H₀ C ex i H' ys D R hi hy sH nD eD fin
  exact ⟨_,rfl,a,cs,0,rfl,R1 ha sH,_,rfl,O4 cs 0,i,by rw [Int.zero_add];rfl,by (first | lia | omega),fun l H2 s2 nl=>fin _ H2 (s2 _ _ eD) (sH.trans s2) ⟨l,rfl,nl⟩⟩
 intro ys H1 nm hl hf s1 nD enm
 obtain ⟨ns,rfl,hnm⟩:=Su hf
 have l4:ns.length=4:=by rw [←hl,List.length_map,List.length_map]
 clear hl hf nD
 intro x dx hx hdx hxd
 refine ⟨x,dx,rfl,Ad,fun ka hka=>⟨rfl,?_⟩⟩
 have nkx:ka≠x:=fun z=>by rw [z,Ad] at hka;cases hka
 have h1k:H1 ka=none:=by
  rw [Ai nkx] at hka
  by_cases z:ka=dx
  ·rw [z,Ad] at hka
   cases hka
  ·rw [Ai z] at hka
   exact hka
 have s2:Aj H1 (upd (upd (upd (upd H1 dx (.own x)) x (.ins o_Desk dx [])) ka (.dK [])) x (.ins o_Desk dx [("kept",.ref ka)])):=fun y o ey=>by
  rw [Ai (Av ey hx),Ai (Av ey h1k),Ai (Av ey hx),Ai (Av ey hdx)]
  exact ey
 have dk2:FJ o_Desk o_Cord 0 (upd (upd (upd (upd H1 dx (.own x)) x (.ins o_Desk dx [])) ka (.dK [])) x (.ins o_Desk dx [("kept",.ref ka)])) x ka (fun _=>none):=⟨dx,[],Ad,by rw [Ai nkx,Ad],Nat.le_refl _,fun l=>⟨fun _=>rfl,fun g hg=>(nomatch hg)⟩⟩
 generalize upd (upd (upd (upd H1 dx (.own x)) x (.ins o_Desk dx [])) ka (.dK [])) x (.ins o_Desk dx [("kept",.ref ka)])=H2 at *
 intro b hb
 have s3:=Ag hb (.dK [])
 have bk3:Bk 0 (upd H2 b (.dK [])) b (fun _=>none):=⟨[],Ad,Nat.le_refl _,fun l=>⟨fun _=>rfl,fun g hg=>(nomatch hg)⟩⟩
 have nbk:b≠ka:=fun z=>by
  obtain ⟨_,_,_,e,_⟩:=dk2
  rw [z,e] at hb
  cases hb
 have dk3:=dk2.keep s3
 generalize upd H2 b (.dK [])=H3 at *
 obtain ⟨xs,ex,hxs⟩:=Xg cs
 refine ⟨_,rfl,1,rfl,25,rfl,a,_,rfl,R1 ha (s1.trans (s2.trans s3)),fun tp htp=>?_⟩
 rw [ex]
 have s4:=Ag htp (.lst (xs.map V.int))
 have et:upd H3 tp (.lst (xs.map V.int)) tp=some (.lst (xs.map V.int)):=Ad
 have en4:=(s2.trans (s3.trans s4)) _ _ enm
 have dk4:=dk3.keep s4
 have bk4:=bk3.keep s4
 generalize upd H3 tp (.lst (xs.map V.int))=H4 at *
 clear dk3 bk3 dk2 s4 s3 s2 s1 htp hb
 obtain ⟨_,_,_,ek4,_⟩:=id dk4
 obtain ⟨_,eb4,_⟩:=id bk4
 have lst:∀{H':Hp} {y:Addr} {zs:List V},Sk2 ka b H4 H'→H4 y=some (.lst zs)→H' y=some (.lst zs):=fun {H' y zs} sk e=>sk y _ (GZ e ek4 (by intro z;cases z)) (GZ e eb4 (by intro z;cases z)) e
 refine ⟨tp,rfl,⟨_,SqL.of et⟩,?_⟩
 refine Rb (xs:=xs.map V.int) (fun i σ H'=>(∃v4 v5 v6,σ=[some (.ref a),some (.ref nm),some (.ref x),some (.ref b),v4,v5,v6])∧Sk2 ka b H4 H'∧∃m,FJ o_Desk o_Cord i H' x ka m∧Bk i H' b m∧OkM (8288280*2^i) m) ⟨⟨_,_,_,rfl⟩,fun _ _ _ _ e=>e,_,dk4,bk4,fun _ _ z=>(nomatch z)⟩ ?_ ?_ ?_
 ·rintro i σ H' _ ⟨_,sk,_⟩
  exact SqL.of (lst sk et)
 ·rintro i y σ H5 hy ⟨⟨v4,v5,v6,rfl⟩,sk,m,dk,bk,okm⟩
  have hi:i<xs.length:=by
   have h:=(List.getElem?_eq_some_iff.mp hy).1
   rwa [List.length_map] at h
  rw [List.getElem?_map,List.getElem?_eq_getElem hi] at hy
  obtain rfl:y=.int xs[i]:=(Option.some.inj hy).symm
  obtain ⟨b1,b2⟩:=AAX i (by (first | lia | omega))
  obtain ⟨b3,b4⟩:=AAX (i+1) (by (first | lia | omega))
  refine ⟨_,rfl,_,rfl,_,rfl,_,rfl,i,8288280*2^i,x,ka,b,nm,ns,m,xs[i],rfl,dk,bk,nbk,by (first | lia | omega),lst sk en4,l4,hnm,okm,b1,b2,fun m' H6 sk6 dk6 bk6 okm6=>?_⟩
  have sk':Sk2 ka b H4 H6:=fun y o n1 n2 e=>sk6 y o n1 n2 (sk y o n1 n2 e)
  rw [show 2*(8288280*2^i)=8288280*2^(i+1) by rw [Nat.pow_succ];(first | lia | omega)] at okm6
  refine ⟨true,rfl,AF6 rfl ?_⟩
  have en6:=lst sk' en4
  refine ⟨_,rfl,nm,rfl,⟨_,SqL.of en6⟩,?_⟩
  refine Rb (xs:=(ns.map sx).map V.str) (fun j σ H'=>(∃v5 v6,σ=[some (.ref a),some (.ref nm),some (.ref x),some (.ref b),some (.int xs[i]),v5,v6])∧Aj H6 H') ⟨⟨_,_,rfl⟩,Aj.refl _⟩ ?_ ?_ ?_
  ·rintro j σ H' _ ⟨_,s7⟩
   exact SqL.of (s7 _ _ en6)
  ·rintro j y σ H7 hy ⟨⟨v5,v6,rfl⟩,s7⟩
   have hj:j<ns.length:=by
    have h:=(List.getElem?_eq_some_iff.mp hy).1
    rwa [List.length_map,List.length_map] at h
   rw [List.getElem?_map,List.getElem?_map,List.getElem?_eq_getElem hj] at hy
   obtain rfl:y=.str (sx ns[j]):=(Option.some.inj hy).symm
   have hmem:ns[j]∈ns:=List.getElem_mem hj
   generalize ns[j]=l at *
   have hl8:=(hnm l hmem).1.2
   refine ⟨_,rfl,_,rfl,_,_,rfl,rfl,by rw [BX];show 5+_≤_;(first | lia | omega),?_⟩
   rw [X6]
   have dk7:=dk6.keep s7
   obtain ⟨kb,eb,_,bm⟩:=bk6.keep s7
   refine VR dk7 (by (first | lia | omega)) okm6 b4 (ns:=ns) hmem hnm (Ol (fun hm H8 s8=>?_) (fun g hm _ H8 s8=>?_) (fun g hm hs=>(nomatch hs)))
   ·refine ⟨_,rfl,_,rfl,b,_,rfl,Dk.k (k:=.inr (sx l)) (s8 _ _ eb),_,rfl,?_⟩
    rw [(bm l).1 hm]
    refine DY ?_
    refine ⟨_,rfl,_,rfl,b,_,rfl,Dk.k (k:=.inr (sx l)) (s8 _ _ eb),_,rfl,?_⟩
    rw [(bm l).1 hm]
    refine FN ?_
    exact ⟨_,rfl,rfl,_,rfl,Hj rfl ⟨⟨_,_,rfl⟩,s7.trans s8⟩⟩
   ·obtain ⟨p,ga,wa,ev,ep,rg,rw'⟩:=(bm.keep s8 l).2 g hm
    refine ⟨_,rfl,_,rfl,b,_,rfl,Dk.k (k:=.inr (sx l)) (s8 _ _ eb),_,rfl,?_⟩
    rw [ev]
    refine FN ?_
    refine ⟨_,rfl,_,rfl,_,rfl,b,_,rfl,by rw [←ev];exact Dk.k (k:=.inr (sx l)) (s8 _ _ eb),p,ga,wa,g.1,g.2,rfl,ep,rg,rw',(okm6 l g hm).c30 b4,fun H9 s9=>⟨rfl,_,rfl,Hj rfl ?_⟩⟩
    refine ⟨_,rfl,_,rfl,b,_,rfl,Dk.k (k:=.inr (sx l)) (s9 _ _ (s8 _ _ eb)),_,rfl,?_⟩
    rw [ev]
    exact DY ⟨⟨_,_,rfl⟩,s7.trans (s8.trans s9)⟩
  ·rintro σ H7 ⟨⟨v5,v6,rfl⟩,s7⟩
   exact ⟨⟨_,_,_,rfl⟩,fun y o n1 n2 e=>s7 _ _ (sk' y o n1 n2 e),m',dk6.keep s7,bk6.keep s7,okm6⟩
 ·rintro σ H' ⟨⟨v4,v5,v6,rfl⟩,_⟩
  exact q H'
end
set_option maxHeartbeats 4000000 in
theorem all_mk{l:PySem.W.OpenLaw}{w:World}{K:PySem.W.Frag}{h:Heap}{mg:Str→Option Value}{fa f1 f2 f3 f4 f5 f6 f7 f8 f9 f10 f11 f12 f13 f14 f15 f16 f17 f18 f19 f20 f21 f22 f23 f24 f25 f26 f27 f28 f29 f30 f31 f32 f33 f34 f35 f36 f37 f38 f39 f40 f41 f42 f43 f44 f45 f46 f47 f48 f49 f50 f51 c_NoText c_NoName c_NoBead c_NoCord c_NoWorth c_NoFraction c_CordError o_Cord o_Desk:Addr}(X:K.In h)(G:h.Ns mainGlobals mg)(hfa:mg "law"=some (.ref fa))
  {od1 an1 od2 an2 od3 an3 od4 an4 od5 an5 od6 an6 od7 an7 od8 an8 od9 an9 od10 an10 od11 an11 od12 an12 od13 an13 od14 an14 od15 an15 od16 an16 od17 an17 od18 an18 od19 an19 od20 an20 od21 an21 od22 an22 od23 an23 od24 an24 od25 an25 od26 an26 od27 an27 od28 an28 od29 an29 od30 an30 od31 an31 od32 an32 od33 an33 od34 an34 od35 an35 od36 an36 od37 an37 od38 an38 od39 an39 od40 an40 od41 an41 od42 an42 od43 an43 od44 an44 od45 an45 od46 an46 od47 an47 od48 an48 od49 an49 od50 an50 od51 an51:Option Addr} {sl1 sl2 sl3 sl4 sl5 sl6 sl7 sl8 sl9 sl10 sl11 sl12 sl13 sl14 sl15 sl16 sl17 sl18 sl19 sl20 sl21 sl22 sl23 sl24 sl25 sl26 sl27 sl28 sl29 sl30 sl31 sl32 sl33 sl34 sl35 sl36 sl37 sl38 sl39 sl40 sl41 sl42 sl43 sl44 sl45 sl46 sl47 sl48 sl49 sl50 sl51:Array (Option Value)} {oc1 kV1 dc1 pm1 cd1 ct1 oc2 kV2 dc2 pm2 cd2 ct2 oc3 kV3 dc3 pm3 cd3 ct3 oc4 kV4 dc4 pm4 cd4 ct4 oc5 kV5 dc5 pm5 cd5 ct5 oc6 kV6 dc6 pm6 cd6 ct6 oc7 kV7 dc7 pm7 cd7 ct7 oc8 kV8 dc8 pm8 cd8 ct8 oc9 kV9 dc9 pm9 cd9 ct9 oc10 kV10 dc10 pm10 cd10 ct10 oc11 kV11 dc11 pm11 cd11 ct11 oc12 kV12 dc12 pm12 cd12 ct12 oc13 kV13 dc13 pm13 cd13 ct13 oc14 kV14 dc14 pm14 cd14 ct14 oc15 kV15 dc15 pm15 cd15 ct15 oc16 kV16 dc16 pm16 cd16 ct16 oc17 kV17 dc17 pm17 cd17 ct17 oc18 kV18 dc18 pm18 cd18 ct18 oc19 kV19 dc19 pm19 cd19 ct19 oc20 kV20 dc20 pm20 cd20 ct20 oc21 kV21 dc21 pm21 cd21 ct21 oc22 kV22 dc22 pm22 cd22 ct22 oc23 kV23 dc23 pm23 cd23 ct23 oc24 kV24 dc24 pm24 cd24 ct24 oc25 kV25 dc25 pm25 cd25 ct25 oc26 kV26 dc26 pm26 cd26 ct26 oc27 kV27 dc27 pm27 cd27 ct27 oc28 kV28 dc28 pm28 cd28 ct28 oc29 kV29 dc29 pm29 cd29 ct29 oc30 kV30 dc30 pm30 cd30 ct30 oc31 kV31 dc31 pm31 cd31 ct31 oc32 kV32 dc32 pm32 cd32 ct32 oc33 kV33 dc33 pm33 cd33 ct33 oc34 kV34 dc34 pm34 cd34 ct34 oc35 kV35 dc35 pm35 cd35 ct35 oc36 kV36 dc36 pm36 cd36 ct36 oc37 kV37 dc37 pm37 cd37 ct37 oc38 kV38 dc38 pm38 cd38 ct38 oc39 kV39 dc39 pm39 cd39 ct39 oc40 kV40 dc40 pm40 cd40 ct40 oc41 kV41 dc41 pm41 cd41 ct41 oc42 kV42 dc42 pm42 cd42 ct42 oc43 kV43 dc43 pm43 cd43 ct43 oc44 kV44 dc44 pm44 cd44 ct44 oc45 kV45 dc45 pm45 cd45 ct45 oc46 kV46 dc46 pm46 cd46 ct46 oc47 kV47 dc47 pm47 cd47 ct47 oc48 kV48 dc48 pm48 cd48 ct48 oc49 kV49 dc49 pm49 cd49 ct49 oc50 kV50 dc50 pm50 cd50 ct50 oc51 kV51 dc51 pm51 cd51 ct51:Value}
  (a1:PySem.W.nsIn K mainGlobals "divisor"=some (some (.ref f1))) (l1:K.lookup f1=some ⟨oc1,od1,.func (PySem.W.fnOf "divisor" "divisor" (An Gj) (Ak Gj) (Ac Gj) .none kV1 dc1 pm1 an1 cd1 ct1),sl1⟩) (c1:PySem.W.codeIn K cd1 "divisor"=true) (k1:PySem.W.keepIn K (.ref f1)=true)
  (a2:PySem.W.nsIn K mainGlobals "is_whole"=some (some (.ref f2))) (l2:K.lookup f2=some ⟨oc2,od2,.func (PySem.W.fnOf "is_whole" "is_whole" (An FZ) (Ak FZ) (Ac FZ) .none kV2 dc2 pm2 an2 cd2 ct2),sl2⟩) (c2:PySem.W.codeIn K cd2 "is_whole"=true) (k2:PySem.W.keepIn K (.ref f2)=true)
  (a3:PySem.W.nsIn K mainGlobals "plus"=some (some (.ref f3))) (l3:K.lookup f3=some ⟨oc3,od3,.func (PySem.W.fnOf "plus" "plus" (An KJ) (Ak KJ) (Ac KJ) .none kV3 dc3 pm3 an3 cd3 ct3),sl3⟩) (c3:PySem.W.codeIn K cd3 "plus"=true) (k3:PySem.W.keepIn K (.ref f3)=true)
  (a4:PySem.W.nsIn K mainGlobals "is_fraction"=some (some (.ref f4))) (l4:K.lookup f4=some ⟨oc4,od4,.func (PySem.W.fnOf "is_fraction" "is_fraction" (An DW) (Ak DW) (Ac DW) .none kV4 dc4 pm4 an4 cd4 ct4),sl4⟩) (c4:PySem.W.codeIn K cd4 "is_fraction"=true) (k4:PySem.W.keepIn K (.ref f4)=true)
  (a5:PySem.W.nsIn K mainGlobals "side"=some (some (.ref f5))) (l5:K.lookup f5=some ⟨oc5,od5,.func (PySem.W.fnOf "side" "side" (An J8) (Ak J8) (Ac J8) .none kV5 dc5 pm5 an5 cd5 ct5),sl5⟩) (c5:PySem.W.codeIn K cd5 "side"=true) (k5:PySem.W.keepIn K (.ref f5)=true)
  (a6:PySem.W.nsIn K mainGlobals "is_row_above"=some (some (.ref f6))) (l6:K.lookup f6=some ⟨oc6,od6,.func (PySem.W.fnOf "is_row_above" "is_row_above" (An CG) (Ak CG) (Ac CG) .none kV6 dc6 pm6 an6 cd6 ct6),sl6⟩) (c6:PySem.W.codeIn K cd6 "is_row_above"=true) (k6:PySem.W.keepIn K (.ref f6)=true)
  (a7:PySem.W.findIn K (.ref c_NoCord) "__init__"=some (some (.ref f7))) (i7:PySem.W.isFn K (.ref f7)=true) (l7:K.lookup f7=some ⟨oc7,od7,.func (PySem.W.fnOf "__init__" "NoCord.__init__" (An DP) (Ak DP) (Ac DP) .none kV7 dc7 pm7 an7 cd7 ct7),sl7⟩) (c7:PySem.W.codeIn K cd7 "NoCord.__init__"=true) (k7:PySem.W.keepIn K (.ref f7)=true)
  (a8:PySem.W.findIn K (.ref o_Cord) "__init__"=some (some (.ref f8))) (i8:PySem.W.isFn K (.ref f8)=true) (l8:K.lookup f8=some ⟨oc8,od8,.func (PySem.W.fnOf "__init__" "Cord.__init__" (An Ek) (Ak Ek) (Ac Ek) .none kV8 dc8 pm8 an8 cd8 ct8),sl8⟩) (c8:PySem.W.codeIn K cd8 "Cord.__init__"=true) (k8:PySem.W.keepIn K (.ref f8)=true)
  (a9:PySem.W.findIn K (.ref o_Cord) "gaps"=some (some (.ref f9))) (i9:PySem.W.isFn K (.ref f9)=true) (l9:K.lookup f9=some ⟨oc9,od9,.func (PySem.W.fnOf "gaps" "Cord.gaps" (An El) (Ak El) (Ac El) .none kV9 dc9 pm9 an9 cd9 ct9),sl9⟩) (c9:PySem.W.codeIn K cd9 "Cord.gaps"=true) (k9:PySem.W.keepIn K (.ref f9)=true)
  (a10:PySem.W.findIn K (.ref o_Cord) "weights"=some (some (.ref f10))) (i10:PySem.W.isFn K (.ref f10)=true) (l10:K.lookup f10=some ⟨oc10,od10,.func (PySem.W.fnOf "weights" "Cord.weights" (An Cr) (Ak Cr) (Ac Cr) .none kV10 dc10 pm10 an10 cd10 ct10),sl10⟩) (c10:PySem.W.codeIn K cd10 "Cord.weights"=true) (k10:PySem.W.keepIn K (.ref f10)=true)
  (a11:PySem.W.findIn K (.ref o_Cord) "beads"=some (some (.ref f11))) (i11:PySem.W.isFn K (.ref f11)=true) (l11:K.lookup f11=some ⟨oc11,od11,.func (PySem.W.fnOf "beads" "Cord.beads" (An Dm) (Ak Dm) (Ac Dm) .none kV11 dc11 pm11 an11 cd11 ct11),sl11⟩) (c11:PySem.W.codeIn K cd11 "Cord.beads"=true) (k11:PySem.W.keepIn K (.ref f11)=true)
  (a12:PySem.W.findIn K (.ref o_Cord) "turned"=some (some (.ref f12))) (i12:PySem.W.isFn K (.ref f12)=true) (l12:K.lookup f12=some ⟨oc12,od12,.func (PySem.W.fnOf "turned" "Cord.turned" (An DR) (Ak DR) (Ac DR) .none kV12 dc12 pm12 an12 cd12 ct12),sl12⟩) (c12:PySem.W.codeIn K cd12 "Cord.turned"=true) (k12:PySem.W.keepIn K (.ref f12)=true)
  (a13:PySem.W.nsIn K mainGlobals "check_bead"=some (some (.ref f13))) (l13:K.lookup f13=some ⟨oc13,od13,.func (PySem.W.fnOf "check_bead" "check_bead" (An Ds) (Ak Ds) (Ac Ds) .none kV13 dc13 pm13 an13 cd13 ct13),sl13⟩) (c13:PySem.W.codeIn K cd13 "check_bead"=true) (k13:PySem.W.keepIn K (.ref f13)=true)
  (a14:PySem.W.nsIn K mainGlobals "with_more"=some (some (.ref f14))) (l14:K.lookup f14=some ⟨oc14,od14,.func (PySem.W.fnOf "with_more" "with_more" (An Eg) (Ak Eg) (Ac Eg) .none kV14 dc14 pm14 an14 cd14 ct14),sl14⟩) (c14:PySem.W.codeIn K cd14 "with_more"=true) (k14:PySem.W.keepIn K (.ref f14)=true)
  (a15:PySem.W.nsIn K mainGlobals "heavier"=some (some (.ref f15))) (l15:K.lookup f15=some ⟨oc15,od15,.func (PySem.W.fnOf "heavier" "heavier" (An Gi) (Ak Gi) (Ac Gi) .none kV15 dc15 pm15 an15 cd15 ct15),sl15⟩) (c15:PySem.W.codeIn K cd15 "heavier"=true) (k15:PySem.W.keepIn K (.ref f15)=true)
  (a16:PySem.W.nsIn K mainGlobals "longer"=some (some (.ref f16))) (l16:K.lookup f16=some ⟨oc16,od16,.func (PySem.W.fnOf "longer" "longer" (An HJ) (Ak HJ) (Ac HJ) .none kV16 dc16 pm16 an16 cd16 ct16),sl16⟩) (c16:PySem.W.codeIn K cd16 "longer"=true) (k16:PySem.W.keepIn K (.ref f16)=true)
  (a17:PySem.W.nsIn K mainGlobals "joined"=some (some (.ref f17))) (l17:K.lookup f17=some ⟨oc17,od17,.func (PySem.W.fnOf "joined" "joined" (An G8) (Ak G8) (Ac G8) .none kV17 dc17 pm17 an17 cd17 ct17),sl17⟩) (c17:PySem.W.codeIn K cd17 "joined"=true) (k17:PySem.W.keepIn K (.ref f17)=true)
  (a18:PySem.W.nsIn K mainGlobals "show_fraction"=some (some (.ref f18))) (l18:K.lookup f18=some ⟨oc18,od18,.func (PySem.W.fnOf "show_fraction" "show_fraction" (An CJ) (Ak CJ) (Ac CJ) .none kV18 dc18 pm18 an18 cd18 ct18),sl18⟩) (c18:PySem.W.codeIn K cd18 "show_fraction"=true) (k18:PySem.W.keepIn K (.ref f18)=true)
  (a19:PySem.W.nsIn K mainGlobals "show_cord"=some (some (.ref f19))) (l19:K.lookup f19=some ⟨oc19,od19,.func (PySem.W.fnOf "show_cord" "show_cord" (An Ej) (Ak Ej) (Ac Ej) .none kV19 dc19 pm19 an19 cd19 ct19),sl19⟩) (c19:PySem.W.codeIn K cd19 "show_cord"=true) (k19:PySem.W.keepIn K (.ref f19)=true)
  (a20:PySem.W.nsIn K mainGlobals "check_text"=some (some (.ref f20))) (l20:K.lookup f20=some ⟨oc20,od20,.func (PySem.W.fnOf "check_text" "check_text" (An Dt) (Ak Dt) (Ac Dt) .none kV20 dc20 pm20 an20 cd20 ct20),sl20⟩) (c20:PySem.W.codeIn K cd20 "check_text"=true) (k20:PySem.W.keepIn K (.ref f20)=true)
  (a21:PySem.W.nsIn K mainGlobals "are_figures"=some (some (.ref f21))) (l21:K.lookup f21=some ⟨oc21,od21,.func (PySem.W.fnOf "are_figures" "are_figures" (An Cg) (Ak Cg) (Ac Cg) .none kV21 dc21 pm21 an21 cd21 ct21),sl21⟩) (c21:PySem.W.codeIn K cd21 "are_figures"=true) (k21:PySem.W.keepIn K (.ref f21)=true)
  (a22:PySem.W.nsIn K mainGlobals "without_minus"=some (some (.ref f22))) (l22:K.lookup f22=some ⟨oc22,od22,.func (PySem.W.fnOf "without_minus" "without_minus" (An CP) (Ak CP) (Ac CP) .none kV22 dc22 pm22 an22 cd22 ct22),sl22⟩) (c22:PySem.W.codeIn K cd22 "without_minus"=true) (k22:PySem.W.keepIn K (.ref f22)=true)
  (a23:PySem.W.nsIn K mainGlobals "within_brackets"=some (some (.ref f23))) (l23:K.lookup f23=some ⟨oc23,od23,.func (PySem.W.fnOf "within_brackets" "within_brackets" (An Br) (Ak Br) (Ac Br) .none kV23 dc23 pm23 an23 cd23 ct23),sl23⟩) (c23:PySem.W.codeIn K cd23 "within_brackets"=true) (k23:PySem.W.keepIn K (.ref f23)=true)
  (a24:PySem.W.nsIn K mainGlobals "read_fraction"=some (some (.ref f24))) (l24:K.lookup f24=some ⟨oc24,od24,.func (PySem.W.fnOf "read_fraction" "read_fraction" (An CN) (Ak CN) (Ac CN) .none kV24 dc24 pm24 an24 cd24 ct24),sl24⟩) (c24:PySem.W.codeIn K cd24 "read_fraction"=true) (k24:PySem.W.keepIn K (.ref f24)=true)
  (a25:PySem.W.nsIn K mainGlobals "read_cord"=some (some (.ref f25))) (l25:K.lookup f25=some ⟨oc25,od25,.func (PySem.W.fnOf "read_cord" "read_cord" (An Cy) (Ak Cy) (Ac Cy) .none kV25 dc25 pm25 an25 cd25 ct25),sl25⟩) (c25:PySem.W.codeIn K cd25 "read_cord"=true) (k25:PySem.W.keepIn K (.ref f25)=true)
  (a26:PySem.W.nsIn K mainGlobals "read_name"=some (some (.ref f26))) (l26:K.lookup f26=some ⟨oc26,od26,.func (PySem.W.fnOf "read_name" "read_name" (An Dj) (Ak Dj) (Ac Dj) .none kV26 dc26 pm26 an26 cd26 ct26),sl26⟩) (c26:PySem.W.codeIn K cd26 "read_name"=true) (k26:PySem.W.keepIn K (.ref f26)=true)
  (a27:PySem.W.nsIn K mainGlobals "read_whole"=some (some (.ref f27))) (l27:K.lookup f27=some ⟨oc27,od27,.func (PySem.W.fnOf "read_whole" "read_whole" (An Dl) (Ak Dl) (Ac Dl) .none kV27 dc27 pm27 an27 cd27 ct27),sl27⟩) (c27:PySem.W.codeIn K cd27 "read_whole"=true) (k27:PySem.W.keepIn K (.ref f27)=true)
  (a28:PySem.W.nsIn K mainGlobals "read_thing"=some (some (.ref f28))) (l28:K.lookup f28=some ⟨oc28,od28,.func (PySem.W.fnOf "read_thing" "read_thing" (An Dq) (Ak Dq) (Ac Dq) .none kV28 dc28 pm28 an28 cd28 ct28),sl28⟩) (c28:PySem.W.codeIn K cd28 "read_thing"=true) (k28:PySem.W.keepIn K (.ref f28)=true)
  (a29:PySem.W.nsIn K mainGlobals "kinds_of"=some (some (.ref f29))) (l29:K.lookup f29=some ⟨oc29,od29,.func (PySem.W.fnOf "kinds_of" "kinds_of" (An Fi) (Ak Fi) (Ac Fi) .none kV29 dc29 pm29 an29 cd29 ct29),sl29⟩) (c29:PySem.W.codeIn K cd29 "kinds_of"=true) (k29:PySem.W.keepIn K (.ref f29)=true)
  (a30:PySem.W.nsIn K mainGlobals "read_told"=some (some (.ref f30))) (l30:K.lookup f30=some ⟨oc30,od30,.func (PySem.W.fnOf "read_told" "read_told" (An Dg) (Ak Dg) (Ac Dg) .none kV30 dc30 pm30 an30 cd30 ct30),sl30⟩) (c30:PySem.W.codeIn K cd30 "read_told"=true) (k30:PySem.W.keepIn K (.ref f30)=true)
  (a31:PySem.W.findIn K (.ref o_Desk) "__init__"=some (some (.ref f31))) (i31:PySem.W.isFn K (.ref f31)=true) (l31:K.lookup f31=some ⟨oc31,od31,.func (PySem.W.fnOf "__init__" "Desk.__init__" (An Eh) (Ak Eh) (Ac Eh) .none kV31 dc31 pm31 an31 cd31 ct31),sl31⟩) (c31:PySem.W.codeIn K cd31 "Desk.__init__"=true) (k31:PySem.W.keepIn K (.ref f31)=true)
  (a32:PySem.W.findIn K (.ref o_Desk) "cord_by"=some (some (.ref f32))) (i32:PySem.W.isFn K (.ref f32)=true) (l32:K.lookup f32=some ⟨oc32,od32,.func (PySem.W.fnOf "cord_by" "Desk.cord_by" (An Cq) (Ak Cq) (Ac Cq) .none kV32 dc32 pm32 an32 cd32 ct32),sl32⟩) (c32:PySem.W.codeIn K cd32 "Desk.cord_by"=true) (k32:PySem.W.keepIn K (.ref f32)=true)
  (a33:PySem.W.findIn K (.ref o_Desk) "with_cords"=some (some (.ref f33))) (i33:PySem.W.isFn K (.ref f33)=true) (l33:K.lookup f33=some ⟨oc33,od33,.func (PySem.W.fnOf "with_cords" "Desk.with_cords" (An Bg) (Ak Bg) (Ac Bg) .none kV33 dc33 pm33 an33 cd33 ct33),sl33⟩) (c33:PySem.W.codeIn K cd33 "Desk.with_cords"=true) (k33:PySem.W.keepIn K (.ref f33)=true)
  (a34:PySem.W.nsIn K mainGlobals "made"=some (some (.ref f34))) (l34:K.lookup f34=some ⟨oc34,od34,.func (PySem.W.fnOf "made" "made" (An Jq) (Ak Jq) (Ac Jq) .none kV34 dc34 pm34 an34 cd34 ct34),sl34⟩) (c34:PySem.W.codeIn K cd34 "made"=true) (k34:PySem.W.keepIn K (.ref f34)=true)
  (a35:PySem.W.nsIn K mainGlobals "answer"=some (some (.ref f35))) (l35:K.lookup f35=some ⟨oc35,od35,.func (PySem.W.fnOf "answer" "answer" (An G3) (Ak G3) (Ac G3) .none kV35 dc35 pm35 an35 cd35 ct35),sl35⟩) (c35:PySem.W.codeIn K cd35 "answer"=true) (k35:PySem.W.keepIn K (.ref f35)=true)
  (a36:PySem.W.findIn K (.ref o_Desk) "say"=some (some (.ref f36))) (i36:PySem.W.isFn K (.ref f36)=true) (l36:K.lookup f36=some ⟨oc36,od36,.func (PySem.W.fnOf "say" "Desk.say" (An Fl) (Ak Fl) (Ac Fl) .none kV36 dc36 pm36 an36 cd36 ct36),sl36⟩) (c36:PySem.W.codeIn K cd36 "Desk.say"=true) (k36:PySem.W.keepIn K (.ref f36)=true)
  (a37:PySem.W.nsIn K mainGlobals "_law_cell_at"=some (some (.ref f37))) (l37:K.lookup f37=some ⟨oc37,od37,.func (PySem.W.fnOf "_law_cell_at" "_law_cell_at" (An DQ) (Ak DQ) (Ac DQ) .none kV37 dc37 pm37 an37 cd37 ct37),sl37⟩) (c37:PySem.W.codeIn K cd37 "_law_cell_at"=true) (k37:PySem.W.keepIn K (.ref f37)=true)
  (a38:PySem.W.nsIn K mainGlobals "_law_low"=some (some (.ref f38))) (l38:K.lookup f38=some ⟨oc38,od38,.func (PySem.W.fnOf "_law_low" "_law_low" (An Gh) (Ak Gh) (Ac Gh) .none kV38 dc38 pm38 an38 cd38 ct38),sl38⟩) (c38:PySem.W.codeIn K cd38 "_law_low"=true) (k38:PySem.W.keepIn K (.ref f38)=true)
  (a39:PySem.W.nsIn K mainGlobals "_law_plus"=some (some (.ref f39))) (l39:K.lookup f39=some ⟨oc39,od39,.func (PySem.W.fnOf "_law_plus" "_law_plus" (An Fg) (Ak Fg) (Ac Fg) .none kV39 dc39 pm39 an39 cd39 ct39),sl39⟩) (c39:PySem.W.codeIn K cd39 "_law_plus"=true) (k39:PySem.W.keepIn K (.ref f39)=true)
  (a40:PySem.W.nsIn K mainGlobals "_law_text"=some (some (.ref f40))) (l40:K.lookup f40=some ⟨oc40,od40,.func (PySem.W.fnOf "_law_text" "_law_text" (An FQ) (Ak FQ) (Ac FQ) .none kV40 dc40 pm40 an40 cd40 ct40),sl40⟩) (c40:PySem.W.codeIn K cd40 "_law_text"=true) (k40:PySem.W.keepIn K (.ref f40)=true)
  (a41:PySem.W.nsIn K mainGlobals "_law_shown"=some (some (.ref f41))) (l41:K.lookup f41=some ⟨oc41,od41,.func (PySem.W.fnOf "_law_shown" "_law_shown" (An Em) (Ak Em) (Ac Em) .none kV41 dc41 pm41 an41 cd41 ct41),sl41⟩) (c41:PySem.W.codeIn K cd41 "_law_shown"=true) (k41:PySem.W.keepIn K (.ref f41)=true)
  (a42:PySem.W.nsIn K mainGlobals "_law_say"=some (some (.ref f42))) (l42:K.lookup f42=some ⟨oc42,od42,.func (PySem.W.fnOf "_law_say" "_law_say" (An Gk) (Ak Gk) (Ac Gk) .none kV42 dc42 pm42 an42 cd42 ct42),sl42⟩) (c42:PySem.W.codeIn K cd42 "_law_say"=true) (k42:PySem.W.keepIn K (.ref f42)=true)
  (a43:PySem.W.nsIn K mainGlobals "_law_name"=some (some (.ref f43))) (l43:K.lookup f43=some ⟨oc43,od43,.func (PySem.W.fnOf "_law_name" "_law_name" (An Ec) (Ak Ec) (Ac Ec) .none kV43 dc43 pm43 an43 cd43 ct43),sl43⟩) (c43:PySem.W.codeIn K cd43 "_law_name"=true) (k43:PySem.W.keepIn K (.ref f43)=true)
  (a44:PySem.W.nsIn K mainGlobals "_law_twelfths"=some (some (.ref f44))) (l44:K.lookup f44=some ⟨oc44,od44,.func (PySem.W.fnOf "_law_twelfths" "_law_twelfths" (An Cp) (Ak Cp) (Ac Cp) .none kV44 dc44 pm44 an44 cd44 ct44),sl44⟩) (c44:PySem.W.codeIn K cd44 "_law_twelfths"=true) (k44:PySem.W.keepIn K (.ref f44)=true)
  (a45:PySem.W.nsIn K mainGlobals "_law_made"=some (some (.ref f45))) (l45:K.lookup f45=some ⟨oc45,od45,.func (PySem.W.fnOf "_law_made" "_law_made" (An Fd) (Ak Fd) (Ac Fd) .none kV45 dc45 pm45 an45 cd45 ct45),sl45⟩) (c45:PySem.W.codeIn K cd45 "_law_made"=true) (k45:PySem.W.keepIn K (.ref f45)=true)
  (a46:PySem.W.nsIn K mainGlobals "_law_turned"=some (some (.ref f46))) (l46:K.lookup f46=some ⟨oc46,od46,.func (PySem.W.fnOf "_law_turned" "_law_turned" (An CW) (Ak CW) (Ac CW) .none kV46 dc46 pm46 an46 cd46 ct46),sl46⟩) (c46:PySem.W.codeIn K cd46 "_law_turned"=true) (k46:PySem.W.keepIn K (.ref f46)=true)
  (a47:PySem.W.nsIn K mainGlobals "_law_joined"=some (some (.ref f47))) (l47:K.lookup f47=some ⟨oc47,od47,.func (PySem.W.fnOf "_law_joined" "_law_joined" (An Dn) (Ak Dn) (Ac Dn) .none kV47 dc47 pm47 an47 cd47 ct47),sl47⟩) (c47:PySem.W.codeIn K cd47 "_law_joined"=true) (k47:PySem.W.keepIn K (.ref f47)=true)
  (a48:PySem.W.nsIn K mainGlobals "_law_more"=some (some (.ref f48))) (l48:K.lookup f48=some ⟨oc48,od48,.func (PySem.W.fnOf "_law_more" "_law_more" (An Fv) (Ak Fv) (Ac Fv) .none kV48 dc48 pm48 an48 cd48 ct48),sl48⟩) (c48:PySem.W.codeIn K cd48 "_law_more"=true) (k48:PySem.W.keepIn K (.ref f48)=true)
  (a49:PySem.W.nsIn K mainGlobals "_law_row"=some (some (.ref f49))) (l49:K.lookup f49=some ⟨oc49,od49,.func (PySem.W.fnOf "_law_row" "_law_row" (An Fe) (Ak Fe) (Ac Fe) .none kV49 dc49 pm49 an49 cd49 ct49),sl49⟩) (c49:PySem.W.codeIn K cd49 "_law_row"=true) (k49:PySem.W.keepIn K (.ref f49)=true)
  (a50:PySem.W.nsIn K mainGlobals "_law_step"=some (some (.ref f50))) (l50:K.lookup f50=some ⟨oc50,od50,.func (PySem.W.fnOf "_law_step" "_law_step" (An Ft) (Ak Ft) (Ac Ft) .none kV50 dc50 pm50 an50 cd50 ct50),sl50⟩) (c50:PySem.W.codeIn K cd50 "_law_step"=true) (k50:PySem.W.keepIn K (.ref f50)=true)
  (a51:PySem.W.nsIn K mainGlobals "law"=some (some (.ref f51))) (l51:K.lookup f51=some ⟨oc51,od51,.func (PySem.W.fnOf "law" "law" (An Iv) (Ak Iv) (Ac Iv) .none kV51 dc51 pm51 an51 cd51 ct51),sl51⟩) (c51:PySem.W.codeIn K cd51 "law"=true) (k51:PySem.W.keepIn K (.ref f51)=true)
  {d_FORMS:Addr} {gp_FORMS:Nat} {gk0 gk1 gk2 gk3 gk4 gk5 gk6 gk7 gk8 gk9 gk10 gk11 gk12 gk13:Tok} {gt0 gt1 gt2 gt3 gt4 gt5 gt6 gt7 gt8 gt9 gt10 gt11 gt12 gt13:Addr} {go0 go1 go2 go3 go4 go5 go6 go7 go8 go9 go10 go11 go12 go13:Option Addr} {gn0 gn1 gn2 gn3 gn4 gn5 gn6 gn7 gn8 gn9 gn10 gn11 gn12 gn13:Nat} {gl0 gl1 gl2 gl3 gl4 gl5 gl6 gl7 gl8 gl9 gl10 gl11 gl12 gl13:Array (Option Value)} {gx0_0 gx0_1 gx1_0 gx1_1 gx2_0 gx2_1 gx2_2 gx3_0 gx3_1 gx3_2 gx3_3 gx4_0 gx4_1 gx4_2 gx4_3 gx5_0 gx5_1 gx6_0 gx6_1 gx7_0 gx8_0 gx9_0 gx9_1 gx10_0 gx10_1 gx10_2 gx11_0 gx11_1 gx11_2 gx11_3 gx12_0 gx12_1 gx12_2 gx13_0 gx13_1 gx13_2:Tok}
  (g_FORMS:PySem.W.nsIn K mainGlobals "FORMS"=some (some (.ref d_FORMS))) (gs_FORMS:(d_FORMS==sysModules)=false)
  (gd_FORMS:K.lookup d_FORMS=some ⟨.type "dict",none,.dict #[⟨PyData.keyHash w.params "cord",.str "cord" gk0,.ref gt0⟩,⟨PyData.keyHash w.params "turn",.str "turn" gk1,.ref gt1⟩,⟨PyData.keyHash w.params "join",.str "join" gk2,.ref gt2⟩,⟨PyData.keyHash w.params "heavier",.str "heavier" gk3,.ref gt3⟩,⟨PyData.keyHash w.params "longer",.str "longer" gk4,.ref gt4⟩,⟨PyData.keyHash w.params "find",.str "find" gk5,.ref gt5⟩,⟨PyData.keyHash w.params "even",.str "even" gk6,.ref gt6⟩,⟨PyData.keyHash w.params "drop",.str "drop" gk7,.ref gt7⟩,⟨PyData.keyHash w.params "show",.str "show" gk8,.ref gt8⟩,⟨PyData.keyHash w.params "poly",.str "poly" gk9,.ref gt9⟩,⟨PyData.keyHash w.params "count",.str "count" gk10,.ref gt10⟩,⟨PyData.keyHash w.params "span",.str "span" gk11,.ref gt11⟩,⟨PyData.keyHash w.params "mode",.str "mode" gk12,.ref gt12⟩,⟨PyData.keyHash w.params "alike",.str "alike" gk13,.ref gt13⟩] gp_FORMS,#[]⟩)
  (ge0:K.lookup gt0=some ⟨.type "tuple",go0,.seq #[.str "new" gx0_0,.str "cord" gx0_1] gn0,gl0⟩)
  (ge1:K.lookup gt1=some ⟨.type "tuple",go1,.seq #[.str "new" gx1_0,.str "name" gx1_1] gn1,gl1⟩)
  (ge2:K.lookup gt2=some ⟨.type "tuple",go2,.seq #[.str "new" gx2_0,.str "name" gx2_1,.str "name" gx2_2] gn2,gl2⟩)
  (ge3:K.lookup gt3=some ⟨.type "tuple",go3,.seq #[.str "new" gx3_0,.str "name" gx3_1,.str "whole" gx3_2,.str "fraction" gx3_3] gn3,gl3⟩)
  (ge4:K.lookup gt4=some ⟨.type "tuple",go4,.seq #[.str "new" gx4_0,.str "name" gx4_1,.str "whole" gx4_2,.str "fraction" gx4_3] gn4,gl4⟩)
  (ge5:K.lookup gt5=some ⟨.type "tuple",go5,.seq #[.str "new" gx5_0,.str "two polys" gx5_1] gn5,gl5⟩)
  (ge6:K.lookup gt6=some ⟨.type "tuple",go6,.seq #[.str "new" gx6_0,.str "length and worths" gx6_1] gn6,gl6⟩)
  (ge7:K.lookup gt7=some ⟨.type "tuple",go7,.seq #[.str "name" gx7_0] gn7,gl7⟩)
  (ge8:K.lookup gt8=some ⟨.type "tuple",go8,.seq #[.str "name" gx8_0] gn8,gl8⟩)
  (ge9:K.lookup gt9=some ⟨.type "tuple",go9,.seq #[.str "name" gx9_0,.str "which" gx9_1] gn9,gl9⟩)
  (ge10:K.lookup gt10=some ⟨.type "tuple",go10,.seq #[.str "name" gx10_0,.str "end" gx10_1,.str "fraction" gx10_2] gn10,gl10⟩)
  (ge11:K.lookup gt11=some ⟨.type "tuple",go11,.seq #[.str "name" gx11_0,.str "end" gx11_1,.str "whole" gx11_2,.str "halvings" gx11_3] gn11,gl11⟩)
  (ge12:K.lookup gt12=some ⟨.type "tuple",go12,.seq #[.str "name" gx12_0,.str "end" gx12_1,.str "fraction" gx12_2] gn12,gl12⟩)
  (ge13:K.lookup gt13=some ⟨.type "tuple",go13,.seq #[.str "name" gx13_0,.str "name" gx13_1,.str "end" gx13_2] gn13,gl13⟩)
  (n_NoText:PySem.W.nsIn K mainGlobals "NoText"=some (some (.ref c_NoText)))
  (n_NoName:PySem.W.nsIn K mainGlobals "NoName"=some (some (.ref c_NoName)))
  (n_NoBead:PySem.W.nsIn K mainGlobals "NoBead"=some (some (.ref c_NoBead)))
  (n_NoCord:PySem.W.nsIn K mainGlobals "NoCord"=some (some (.ref c_NoCord)))
  (n_NoWorth:PySem.W.nsIn K mainGlobals "NoWorth"=some (some (.ref c_NoWorth)))
  (n_NoFraction:PySem.W.nsIn K mainGlobals "NoFraction"=some (some (.ref c_NoFraction)))
  (n_CordError:PySem.W.nsIn K mainGlobals "CordError"=some (some (.ref c_CordError)))
  (o_NoName:PySem.W.excIn K c_NoName Oi "ValueError.__new__"=true) (i_NoName:PySem.W.isIn K (.ref c_NoName) c_NoName=true) (x_NoName:PySem.W.kitOne K (.ref c_NoName) (.ref c_CordError)=some true) (y_NoName:(Value.ref c_NoName==.ref c_CordError)=false)
  (eis_NoName:PySem.W.isClsIn K c_NoName=true)
  (ega_NoName:PySem.W.findIn K (.ref c_NoName) "__getattribute__"=some (some (.builtin "BaseException.__getattribute__")))
  (eno_NoName:PySem.W.findIn K (.ref c_NoName) "__getattr__"=some none)
  (ecl_NoName:PySem.W.findIn K (.ref c_NoName) "__class__"=some (some (.builtin "object.__class__")))
  (emb_NoName:PySem.W.mroIn K c_NoName (.type "BaseException")=some true)
  (emo_NoName:PySem.W.mroIn K c_NoName (.type "object")=some true)
  (o_NoBead:PySem.W.excIn K c_NoBead Oi "ValueError.__new__"=true) (i_NoBead:PySem.W.isIn K (.ref c_NoBead) c_NoBead=true) (x_NoBead:PySem.W.kitOne K (.ref c_NoBead) (.ref c_CordError)=some true) (y_NoBead:(Value.ref c_NoBead==.ref c_CordError)=false)
  (eis_NoBead:PySem.W.isClsIn K c_NoBead=true)
  (ega_NoBead:PySem.W.findIn K (.ref c_NoBead) "__getattribute__"=some (some (.builtin "BaseException.__getattribute__")))
  (eno_NoBead:PySem.W.findIn K (.ref c_NoBead) "__getattr__"=some none)
  (ecl_NoBead:PySem.W.findIn K (.ref c_NoBead) "__class__"=some (some (.builtin "object.__class__")))
  (emb_NoBead:PySem.W.mroIn K c_NoBead (.type "BaseException")=some true)
  (emo_NoBead:PySem.W.mroIn K c_NoBead (.type "object")=some true)
  (x_NoCord:PySem.W.kitOne K (.ref c_NoCord) (.ref c_CordError)=some true) (y_NoCord:(Value.ref c_NoCord==.ref c_CordError)=false) (ei_NoCord:Ti K c_NoCord f7=true) (ek_NoCord:PySem.W.keepIn K (.ref c_NoCord)=true)
  (eis_NoCord:PySem.W.isClsIn K c_NoCord=true)
  (ega_NoCord:PySem.W.findIn K (.ref c_NoCord) "__getattribute__"=some (some (.builtin "BaseException.__getattribute__")))
  (eno_NoCord:PySem.W.findIn K (.ref c_NoCord) "__getattr__"=some none)
  (ecl_NoCord:PySem.W.findIn K (.ref c_NoCord) "__class__"=some (some (.builtin "object.__class__")))
  (emb_NoCord:PySem.W.mroIn K c_NoCord (.type "BaseException")=some true)
  (emo_NoCord:PySem.W.mroIn K c_NoCord (.type "object")=some true)
  (fo_NoCord:((PySem.W.clsIn K c_NoCord).any fun cd=>Qf cd.mro)=true) (fh_NoCord:PySem.W.hasDictIn K c_NoCord=true) (fs_NoCord:PySem.W.findIn K (.ref c_NoCord) "__setattr__"=some (some (.builtin "object.__setattr__"))) (fn_NoCord:PySem.W.findIn K (.ref c_NoCord) "place"=some none)
  (om_Cord:PySem.W.nsIn K mainGlobals "Cord"=some (some (.ref o_Cord))) (pg_Cord:PySem.W.plainGet K o_Cord Str.empty=true) (hd_Cord:PySem.W.hasDictIn K o_Cord=true) (po_Cord:PySem.W.plainOver K o_Cord=true) (sa_Cord:PySem.W.findIn K (.ref o_Cord) "__setattr__"=some (some (.builtin "object.__setattr__"))) (mk_Cord:PySem.W.makesIn K o_Cord=true) (kc_Cord:PySem.W.keepIn K (.ref o_Cord)=true)
  (d1_Cord:PySem.W.findIn K (.ref o_Cord) "__class__"=some (some (.builtin "object.__class__"))) (d2_Cord:PySem.W.specialIn K (.builtin "object.__class__") "__get__"=some (some (.builtin "getset_descriptor.__get__"))) (d3_Cord:PySem.W.takesIn K (.builtin "object.__class__")=some true) (d4_Cord:PySem.W.mroIn K o_Cord (.type "object")=some true) (ks_Cord:PySem.W.kitOne K (.ref o_Cord) (.ref o_Cord)=some true)
  (nf_Cord_kept_gaps:PySem.W.findIn K (.ref o_Cord) "kept_gaps"=some none)
  (nf_Cord_kept_weights:PySem.W.findIn K (.ref o_Cord) "kept_weights"=some none)
  (om_Desk:PySem.W.nsIn K mainGlobals "Desk"=some (some (.ref o_Desk))) (pg_Desk:PySem.W.plainGet K o_Desk Str.empty=true) (hd_Desk:PySem.W.hasDictIn K o_Desk=true) (po_Desk:PySem.W.plainOver K o_Desk=true) (sa_Desk:PySem.W.findIn K (.ref o_Desk) "__setattr__"=some (some (.builtin "object.__setattr__"))) (mk_Desk:PySem.W.makesIn K o_Desk=true) (kc_Desk:PySem.W.keepIn K (.ref o_Desk)=true)
  (d1_Desk:PySem.W.findIn K (.ref o_Desk) "__class__"=some (some (.builtin "object.__class__"))) (d2_Desk:PySem.W.specialIn K (.builtin "object.__class__") "__get__"=some (some (.builtin "getset_descriptor.__get__"))) (d3_Desk:PySem.W.takesIn K (.builtin "object.__class__")=some true) (d4_Desk:PySem.W.mroIn K o_Desk (.type "object")=some true) (ks_Desk:PySem.W.kitOne K (.ref o_Desk) (.ref o_Desk)=some true)
  (nf_Desk_kept:PySem.W.findIn K (.ref o_Desk) "kept"=some none)
  (k_NoName_NoText:PySem.W.kitOne K (.ref c_NoName) (.ref c_NoText)=some false)
  (k_NoName_NoName:PySem.W.kitOne K (.ref c_NoName) (.ref c_NoName)=some true)
  (k_NoName_NoBead:PySem.W.kitOne K (.ref c_NoName) (.ref c_NoBead)=some false)
  (k_NoName_NoCord:PySem.W.kitOne K (.ref c_NoName) (.ref c_NoCord)=some false)
  (k_NoName_NoWorth:PySem.W.kitOne K (.ref c_NoName) (.ref c_NoWorth)=some false)
  (k_NoName_NoFraction:PySem.W.kitOne K (.ref c_NoName) (.ref c_NoFraction)=some false)
  (k_NoName_ValueError:PySem.W.kitOne K (.ref c_NoName) (.type "ValueError")=some true)
  (k_NoBead_NoText:PySem.W.kitOne K (.ref c_NoBead) (.ref c_NoText)=some false)
  (k_NoBead_NoName:PySem.W.kitOne K (.ref c_NoBead) (.ref c_NoName)=some false)
  (k_NoBead_NoBead:PySem.W.kitOne K (.ref c_NoBead) (.ref c_NoBead)=some true)
  (k_NoBead_NoCord:PySem.W.kitOne K (.ref c_NoBead) (.ref c_NoCord)=some false)
  (k_NoBead_NoWorth:PySem.W.kitOne K (.ref c_NoBead) (.ref c_NoWorth)=some false)
  (k_NoBead_NoFraction:PySem.W.kitOne K (.ref c_NoBead) (.ref c_NoFraction)=some false)
  (k_NoBead_ValueError:PySem.W.kitOne K (.ref c_NoBead) (.type "ValueError")=some true)
  (k_NoCord_NoText:PySem.W.kitOne K (.ref c_NoCord) (.ref c_NoText)=some false)
  (k_NoCord_NoName:PySem.W.kitOne K (.ref c_NoCord) (.ref c_NoName)=some false)
  (k_NoCord_NoBead:PySem.W.kitOne K (.ref c_NoCord) (.ref c_NoBead)=some false)
  (k_NoCord_NoCord:PySem.W.kitOne K (.ref c_NoCord) (.ref c_NoCord)=some true)
  (k_NoCord_NoWorth:PySem.W.kitOne K (.ref c_NoCord) (.ref c_NoWorth)=some false)
  (k_NoCord_NoFraction:PySem.W.kitOne K (.ref c_NoCord) (.ref c_NoFraction)=some false)
  (k_NoCord_ValueError:PySem.W.kitOne K (.ref c_NoCord) (.type "ValueError")=some true)
  (b_CordError:PySem.W.subIn K (.ref c_CordError) (.type "BaseException")=some true)
  (z_abs:PySem.W.nsIn K mainGlobals "abs"=some none) (z_len:PySem.W.nsIn K mainGlobals "len"=some none) (z_isinstance:PySem.W.nsIn K mainGlobals "isinstance"=some none) (z_int:PySem.W.nsIn K mainGlobals "int"=some none) (z_bool:PySem.W.nsIn K mainGlobals "bool"=some none) (z_tuple:PySem.W.nsIn K mainGlobals "tuple"=some none) (z_range:PySem.W.nsIn K mainGlobals "range"=some none) (z_list:PySem.W.nsIn K mainGlobals "list"=some none) (z_zip:PySem.W.nsIn K mainGlobals "zip"=some none) (z_all:PySem.W.nsIn K mainGlobals "all"=some none) (z_str:PySem.W.nsIn K mainGlobals "str"=some none) (z_reversed:PySem.W.nsIn K mainGlobals "reversed"=some none) (z_max:PySem.W.nsIn K mainGlobals "max"=some none) (z_ValueError:PySem.W.nsIn K mainGlobals "ValueError"=some none) {qt_MOST_BEADS:Tok} (q_MOST_BEADS:PySem.W.nsIn K mainGlobals "MOST_BEADS"=some (some (.int 12 qt_MOST_BEADS))) {qt_FIGURES:Tok} (q_FIGURES:PySem.W.nsIn K mainGlobals "FIGURES"=some (some (.str "0123456789" qt_FIGURES))) {qt_MOST_FIGURES:Tok} (q_MOST_FIGURES:PySem.W.nsIn K mainGlobals "MOST_FIGURES"=some (some (.int 30 qt_MOST_FIGURES))) {qt_LETTERS:Tok} (q_LETTERS:PySem.W.nsIn K mainGlobals "LETTERS"=some (some (.str "abcdefghijklmnopqrstuvwxyz" qt_LETTERS))) {qt_LONGEST_NAME:Tok} (q_LONGEST_NAME:PySem.W.nsIn K mainGlobals "LONGEST_NAME"=some (some (.int 8 qt_LONGEST_NAME))) {qt_MOST_HALVINGS:Tok} (q_MOST_HALVINGS:PySem.W.nsIn K mainGlobals "MOST_HALVINGS"=some (some (.int 60 qt_MOST_HALVINGS))) :
  ∃fd:FuncData,(∀(s:Shared) (v:Value),BindsTo s fd ⟨[v],[]⟩ [("_law_script",v)])∧∀base:Heap,K.In base→base.Ns mainGlobals mg→BZ l.prog w K mg base CX0 12 fa fd ["_law_script"] (Qp K):=by
 have e:=hfa.symm.trans (PySem.W.mg_of X G a51)
 cases e
 have T:Txt mg:=⟨PySem.W.mg_none_of X G z_abs,PySem.W.mg_none_of X G z_len,PySem.W.mg_none_of X G z_isinstance,PySem.W.mg_none_of X G z_int,PySem.W.mg_none_of X G z_bool,PySem.W.mg_none_of X G z_tuple,PySem.W.mg_none_of X G z_range,PySem.W.mg_none_of X G z_list,PySem.W.mg_none_of X G z_zip,PySem.W.mg_none_of X G z_all,PySem.W.mg_none_of X G z_str,PySem.W.mg_none_of X G z_reversed,PySem.W.mg_none_of X G z_max,PySem.W.mg_none_of X G z_ValueError,⟨_,PySem.W.mg_of X G q_MOST_BEADS⟩,⟨_,PySem.W.mg_of X G q_FIGURES⟩,⟨_,PySem.W.mg_of X G q_MOST_FIGURES⟩,⟨_,PySem.W.mg_of X G q_LETTERS⟩,⟨_,PySem.W.mg_of X G q_LONGEST_NAME⟩,⟨_,PySem.W.mg_of X G q_MOST_HALVINGS⟩⟩
 have R:Ss K mg c_NoText c_NoName c_NoBead c_NoCord c_NoWorth c_NoFraction c_CordError:=⟨PySem.W.mg_of X G n_NoText,PySem.W.mg_of X G n_NoName,PySem.W.mg_of X G n_NoBead,PySem.W.mg_of X G n_NoCord,PySem.W.mg_of X G n_NoWorth,PySem.W.mg_of X G n_NoFraction,PySem.W.mg_of X G n_CordError,o_NoName,i_NoName,T5 b_CordError x_NoName y_NoName,⟨eis_NoName,ega_NoName,eno_NoName,ecl_NoName,emb_NoName,emo_NoName⟩,o_NoBead,i_NoBead,T5 b_CordError x_NoBead y_NoBead,⟨eis_NoBead,ega_NoBead,eno_NoBead,ecl_NoBead,emb_NoBead,emo_NoBead⟩,T5 b_CordError x_NoCord y_NoCord,⟨eis_NoCord,ega_NoCord,eno_NoCord,ecl_NoCord,emb_NoCord,emo_NoCord⟩,⟨fo_NoCord,fh_NoCord,fs_NoCord,ega_NoCord,eno_NoCord,eis_NoCord⟩,fn_NoCord,k_NoName_NoText,k_NoName_NoName,k_NoName_NoBead,k_NoName_NoCord,k_NoName_NoWorth,k_NoName_NoFraction,k_NoName_ValueError,k_NoBead_NoText,k_NoBead_NoName,k_NoBead_NoBead,k_NoBead_NoCord,k_NoBead_NoWorth,k_NoBead_NoFraction,k_NoBead_ValueError,k_NoCord_NoText,k_NoCord_NoName,k_NoCord_NoBead,k_NoCord_NoCord,k_NoCord_NoWorth,k_NoCord_NoFraction,k_NoCord_ValueError⟩
 have FM_FORMS:Ju l.prog w K mg d_FORMS:=⟨PySem.W.mg_of X G g_FORMS,_,ABG (ks:=[("cord",gt0),("turn",gt1),("join",gt2),("heavier",gt3),("longer",gt4),("find",gt5),("even",gt6),("drop",gt7),("show",gt8),("poly",gt9),("count",gt10),("span",gt11),("mode",gt12),("alike",gt13)]) gs_FORMS gd_FORMS (.cons (.cons (.cons (.cons (.cons (.cons (.cons (.cons (.cons (.cons (.cons (.cons (.cons (.cons .nil)))))))))))))) (show (["cord","turn","join","heavier","longer","find","even","drop","show","poly","count","span","mode","alike"]:List Str).Nodup by decide +kernel),(.cons ⟨rfl,_,rfl,fun _=>.inr ⟨_,_,_,ge0,rfl,rfl,(by show 2≤sizeLine;decide),(.cons ⟨_,rfl⟩ (.cons ⟨_,rfl⟩ .nil))⟩⟩ (.cons ⟨rfl,_,rfl,fun _=>.inr ⟨_,_,_,ge1,rfl,rfl,(by show 2≤sizeLine;decide),(.cons ⟨_,rfl⟩ (.cons ⟨_,rfl⟩ .nil))⟩⟩ (.cons ⟨rfl,_,rfl,fun _=>.inr ⟨_,_,_,ge2,rfl,rfl,(by show 3≤sizeLine;decide),(.cons ⟨_,rfl⟩ (.cons ⟨_,rfl⟩ (.cons ⟨_,rfl⟩ .nil)))⟩⟩ (.cons ⟨rfl,_,rfl,fun _=>.inr ⟨_,_,_,ge3,rfl,rfl,(by show 4≤sizeLine;decide),(.cons ⟨_,rfl⟩ (.cons ⟨_,rfl⟩ (.cons ⟨_,rfl⟩ (.cons ⟨_,rfl⟩ .nil))))⟩⟩ (.cons ⟨rfl,_,rfl,fun _=>.inr ⟨_,_,_,ge4,rfl,rfl,(by show 4≤sizeLine;decide),(.cons ⟨_,rfl⟩ (.cons ⟨_,rfl⟩ (.cons ⟨_,rfl⟩ (.cons ⟨_,rfl⟩ .nil))))⟩⟩ (.cons ⟨rfl,_,rfl,fun _=>.inr ⟨_,_,_,ge5,rfl,rfl,(by show 2≤sizeLine;decide),(.cons ⟨_,rfl⟩ (.cons ⟨_,rfl⟩ .nil))⟩⟩ (.cons ⟨rfl,_,rfl,fun _=>.inr ⟨_,_,_,ge6,rfl,rfl,(by show 2≤sizeLine;decide),(.cons ⟨_,rfl⟩ (.cons ⟨_,rfl⟩ .nil))⟩⟩ (.cons ⟨rfl,_,rfl,fun _=>.inr ⟨_,_,_,ge7,rfl,rfl,(by show 1≤sizeLine;decide),(.cons ⟨_,rfl⟩ .nil)⟩⟩ (.cons ⟨rfl,_,rfl,fun _=>.inr ⟨_,_,_,ge8,rfl,rfl,(by show 1≤sizeLine;decide),(.cons ⟨_,rfl⟩ .nil)⟩⟩ (.cons ⟨rfl,_,rfl,fun _=>.inr ⟨_,_,_,ge9,rfl,rfl,(by show 2≤sizeLine;decide),(.cons ⟨_,rfl⟩ (.cons ⟨_,rfl⟩ .nil))⟩⟩ (.cons ⟨rfl,_,rfl,fun _=>.inr ⟨_,_,_,ge10,rfl,rfl,(by show 3≤sizeLine;decide),(.cons ⟨_,rfl⟩ (.cons ⟨_,rfl⟩ (.cons ⟨_,rfl⟩ .nil)))⟩⟩ (.cons ⟨rfl,_,rfl,fun _=>.inr ⟨_,_,_,ge11,rfl,rfl,(by show 4≤sizeLine;decide),(.cons ⟨_,rfl⟩ (.cons ⟨_,rfl⟩ (.cons ⟨_,rfl⟩ (.cons ⟨_,rfl⟩ .nil))))⟩⟩ (.cons ⟨rfl,_,rfl,fun _=>.inr ⟨_,_,_,ge12,rfl,rfl,(by show 3≤sizeLine;decide),(.cons ⟨_,rfl⟩ (.cons ⟨_,rfl⟩ (.cons ⟨_,rfl⟩ .nil)))⟩⟩ (.cons ⟨rfl,_,rfl,fun _=>.inr ⟨_,_,_,ge13,rfl,rfl,(by show 3≤sizeLine;decide),(.cons ⟨_,rfl⟩ (.cons ⟨_,rfl⟩ (.cons ⟨_,rfl⟩ .nil)))⟩⟩ .nil))))))))))))))⟩
 have OW_Cord:Ig K mg o_Cord:=⟨PySem.W.mg_of X G om_Cord,⟨pg_Cord,hd_Cord,po_Cord,sa_Cord⟩,d1_Cord,d2_Cord,d3_Cord,d4_Cord,ks_Cord,nf_Cord_kept_gaps,nf_Cord_kept_weights⟩
 have OW_Desk:Jg K mg o_Desk:=⟨PySem.W.mg_of X G om_Desk,⟨pg_Desk,hd_Desk,po_Desk,sa_Desk⟩,d1_Desk,d2_Desk,d3_Desk,d4_Desk,ks_Desk,nf_Desk_kept⟩
 have F1:=BK (st:=Gj) l1 c1 k1
 have b1:=F1.binds (ps:=["one","other"]) fun _ _ _ _ _ _ us hl=>by
  obtain ⟨u0,u1,rfl⟩:=la2 hl
  rfl
 have F2:=BK (st:=FZ) l2 c2 k2
 have b2:=F2.binds (ps:=["thing"]) fun _ _ _ _ _ _ us hl=>by
  obtain ⟨u0,rfl⟩:=la1 hl
  rfl
 have F3:=BK (st:=KJ) l3 c3 k3
 have b3:=F3.binds (ps:=["one","other"]) fun _ _ _ _ _ _ us hl=>by
  obtain ⟨u0,u1,rfl⟩:=la2 hl
  rfl
 have F4:=BK (st:=DW) l4 c4 k4
 have b4:=F4.binds (ps:=["thing"]) fun _ _ _ _ _ _ us hl=>by
  obtain ⟨u0,rfl⟩:=la1 hl
  rfl
 have F5:=BK (st:=J8) l5 c5 k5
 have b5:=F5.binds (ps:=["one"]) fun _ _ _ _ _ _ us hl=>by
  obtain ⟨u0,rfl⟩:=la1 hl
  rfl
 have F6:=BK (st:=CG) l6 c6 k6
 have b6:=F6.binds (ps:=["thing"]) fun _ _ _ _ _ _ us hl=>by
  obtain ⟨u0,rfl⟩:=la1 hl
  rfl
 have F7:=BK (st:=DP) l7 c7 k7
 have b7:=F7.binds (ps:=["self","place"]) fun _ _ _ _ _ _ us hl=>by
  obtain ⟨u0,u1,rfl⟩:=la2 hl
  rfl
 have F8:=BK (st:=Ek) l8 c8 k8
 have b8:=F8.binds (ps:=["self","gaps","weights"]) fun _ _ _ _ _ _ us hl=>by
  obtain ⟨u0,u1,u2,rfl⟩:=la3 hl
  rfl
 have F9:=BK (st:=El) l9 c9 k9
 have b9:=F9.binds (ps:=["self"]) fun _ _ _ _ _ _ us hl=>by
  obtain ⟨u0,rfl⟩:=la1 hl
  rfl
 have F10:=BK (st:=Cr) l10 c10 k10
 have b10:=F10.binds (ps:=["self"]) fun _ _ _ _ _ _ us hl=>by
  obtain ⟨u0,rfl⟩:=la1 hl
  rfl
 have F11:=BK (st:=Dm) l11 c11 k11
 have b11:=F11.binds (ps:=["self"]) fun _ _ _ _ _ _ us hl=>by
  obtain ⟨u0,rfl⟩:=la1 hl
  rfl
 have F12:=BK (st:=DR) l12 c12 k12
 have b12:=F12.binds (ps:=["self"]) fun _ _ _ _ _ _ us hl=>by
  obtain ⟨u0,rfl⟩:=la1 hl
  rfl
 have F13:=BK (st:=Ds) l13 c13 k13
 have b13:=F13.binds (ps:=["cord","bead"]) fun _ _ _ _ _ _ us hl=>by
  obtain ⟨u0,u1,rfl⟩:=la2 hl
  rfl
 have F14:=BK (st:=Eg) l14 c14 k14
 have b14:=F14.binds (ps:=["row","place","more"]) fun _ _ _ _ _ _ us hl=>by
  obtain ⟨u0,u1,u2,rfl⟩:=la3 hl
  rfl
 have F15:=BK (st:=Gi) l15 c15 k15
 have b15:=F15.binds (ps:=["cord","bead","more"]) fun _ _ _ _ _ _ us hl=>by
  obtain ⟨u0,u1,u2,rfl⟩:=la3 hl
  rfl
 have F16:=BK (st:=HJ) l16 c16 k16
 have b16:=F16.binds (ps:=["cord","gap","more"]) fun _ _ _ _ _ _ us hl=>by
  obtain ⟨u0,u1,u2,rfl⟩:=la3 hl
  rfl
 have F17:=BK (st:=G8) l17 c17 k17
 have b17:=F17.binds (ps:=["one","other"]) fun _ _ _ _ _ _ us hl=>by
  obtain ⟨u0,u1,rfl⟩:=la2 hl
  rfl
 have F18:=BK (st:=CJ) l18 c18 k18
 have b18:=F18.binds (ps:=["one"]) fun _ _ _ _ _ _ us hl=>by
  obtain ⟨u0,rfl⟩:=la1 hl
  rfl
 have F19:=BK (st:=Ej) l19 c19 k19
 have b19:=F19.binds (ps:=["cord"]) fun _ _ _ _ _ _ us hl=>by
  obtain ⟨u0,rfl⟩:=la1 hl
  rfl
 have F20:=BK (st:=Dt) l20 c20 k20
 have b20:=F20.binds (ps:=["thing"]) fun _ _ _ _ _ _ us hl=>by
  obtain ⟨u0,rfl⟩:=la1 hl
  rfl
 have F21:=BK (st:=Cg) l21 c21 k21
 have b21:=F21.binds (ps:=["text"]) fun _ _ _ _ _ _ us hl=>by
  obtain ⟨u0,rfl⟩:=la1 hl
  rfl
 have F22:=BK (st:=CP) l22 c22 k22
 have b22:=F22.binds (ps:=["text"]) fun _ _ _ _ _ _ us hl=>by
  obtain ⟨u0,rfl⟩:=la1 hl
  rfl
 have F23:=BK (st:=Br) l23 c23 k23
 have b23:=F23.binds (ps:=["word"]) fun _ _ _ _ _ _ us hl=>by
  obtain ⟨u0,rfl⟩:=la1 hl
  rfl
 have F24:=BK (st:=CN) l24 c24 k24
 have b24:=F24.binds (ps:=["text"]) fun _ _ _ _ _ _ us hl=>by
  obtain ⟨u0,rfl⟩:=la1 hl
  rfl
 have F25:=BK (st:=Cy) l25 c25 k25
 have b25:=F25.binds (ps:=["text"]) fun _ _ _ _ _ _ us hl=>by
  obtain ⟨u0,rfl⟩:=la1 hl
  rfl
 have F26:=BK (st:=Dj) l26 c26 k26
 have b26:=F26.binds (ps:=["text"]) fun _ _ _ _ _ _ us hl=>by
  obtain ⟨u0,rfl⟩:=la1 hl
  rfl
 have F27:=BK (st:=Dl) l27 c27 k27
 have b27:=F27.binds (ps:=["text"]) fun _ _ _ _ _ _ us hl=>by
  obtain ⟨u0,rfl⟩:=la1 hl
  rfl
 have F28:=BK (st:=Dq) l28 c28 k28
 have b28:=F28.binds (ps:=["kind","text"]) fun _ _ _ _ _ _ us hl=>by
  obtain ⟨u0,u1,rfl⟩:=la2 hl
  rfl
 have F29:=BK (st:=Fi) l29 c29 k29
 have b29:=F29.binds (ps:=["deed"]) fun _ _ _ _ _ _ us hl=>by
  obtain ⟨u0,rfl⟩:=la1 hl
  rfl
 have F30:=BK (st:=Dg) l30 c30 k30
 have b30:=F30.binds (ps:=["row"]) fun _ _ _ _ _ _ us hl=>by
  obtain ⟨u0,rfl⟩:=la1 hl
  rfl
 have F31:=BK (st:=Eh) l31 c31 k31
 have b31:=F31.binds (ps:=["self"]) fun _ _ _ _ _ _ us hl=>by
  obtain ⟨u0,rfl⟩:=la1 hl
  rfl
 have F32:=BK (st:=Cq) l32 c32 k32
 have b32:=F32.binds (ps:=["self","name"]) fun _ _ _ _ _ _ us hl=>by
  obtain ⟨u0,u1,rfl⟩:=la2 hl
  rfl
 have F33:=BK (st:=Bg) l33 c33 k33
 have b33:=F33.binds (ps:=["self","kinds","things"]) fun _ _ _ _ _ _ us hl=>by
  obtain ⟨u0,u1,u2,rfl⟩:=la3 hl
  rfl
 have F34:=BK (st:=Jq) l34 c34 k34
 have b34:=F34.binds (ps:=["deed","things"]) fun _ _ _ _ _ _ us hl=>by
  obtain ⟨u0,u1,rfl⟩:=la2 hl
  rfl
 have F35:=BK (st:=G3) l35 c35 k35
 have b35:=F35.binds (ps:=["deed","things"]) fun _ _ _ _ _ _ us hl=>by
  obtain ⟨u0,u1,rfl⟩:=la2 hl
  rfl
 have F36:=BK (st:=Fl) l36 c36 k36
 have b36:=F36.binds (ps:=["self","row"]) fun _ _ _ _ _ _ us hl=>by
  obtain ⟨u0,u1,rfl⟩:=la2 hl
  rfl
 have F37:=BK (st:=DQ) l37 c37 k37
 have b37:=F37.binds (ps:=["_law_script","_law_k"]) fun _ _ _ _ _ _ us hl=>by
  obtain ⟨u0,u1,rfl⟩:=la2 hl
  rfl
 have F38:=BK (st:=Gh) l38 c38 k38
 have b38:=F38.binds (ps:=["_law_top","_law_bottom"]) fun _ _ _ _ _ _ us hl=>by
  obtain ⟨u0,u1,rfl⟩:=la2 hl
  rfl
 have F39:=BK (st:=Fg) l39 c39 k39
 have b39:=F39.binds (ps:=["_law_one","_law_other"]) fun _ _ _ _ _ _ us hl=>by
  obtain ⟨u0,u1,rfl⟩:=la2 hl
  rfl
 have F40:=BK (st:=FQ) l40 c40 k40
 have b40:=F40.binds (ps:=["_law_one"]) fun _ _ _ _ _ _ us hl=>by
  obtain ⟨u0,rfl⟩:=la1 hl
  rfl
 have F41:=BK (st:=Em) l41 c41 k41
 have b41:=F41.binds (ps:=["_law_cord"]) fun _ _ _ _ _ _ us hl=>by
  obtain ⟨u0,rfl⟩:=la1 hl
  rfl
 have F42:=BK (st:=Gk) l42 c42 k42
 have b42:=F42.binds (ps:=["_law_desk","_law_row_here"]) fun _ _ _ _ _ _ us hl=>by
  obtain ⟨u0,u1,rfl⟩:=la2 hl
  rfl
 have F43:=BK (st:=Ec) l43 c43 k43
 have b43:=F43.binds (ps:=["_law_cell","_law_k"]) fun _ _ _ _ _ _ us hl=>by
  obtain ⟨u0,u1,rfl⟩:=la2 hl
  rfl
 have F44:=BK (st:=Cp) l44 c44 k44
 have b44:=F44.binds (ps:=["_law_cell","_law_many"]) fun _ _ _ _ _ _ us hl=>by
  obtain ⟨u0,u1,rfl⟩:=la2 hl
  rfl
 have F45:=BK (st:=Fd) l45 c45 k45
 have b45:=F45.binds (ps:=["_law_rest"]) fun _ _ _ _ _ _ us hl=>by
  obtain ⟨u0,rfl⟩:=la1 hl
  rfl
 have F46:=BK (st:=CW) l46 c46 k46
 have b46:=F46.binds (ps:=["_law_book","_law_old"]) fun _ _ _ _ _ _ us hl=>by
  obtain ⟨u0,u1,rfl⟩:=la2 hl
  rfl
 have F47:=BK (st:=Dn) l47 c47 k47
 have b47:=F47.binds (ps:=["_law_book","_law_one","_law_other"]) fun _ _ _ _ _ _ us hl=>by
  obtain ⟨u0,u1,u2,rfl⟩:=la3 hl
  rfl
 have F48:=BK (st:=Fv) l48 c48 k48
 have b48:=F48.binds (ps:=["_law_book","_law_words","_law_old","_law_place","_law_more_here"]) fun _ _ _ _ _ _ us hl=>by
  obtain ⟨u0,u1,u2,u3,u4,rfl⟩:=la5 hl
  rfl
 have F49:=BK (st:=Fe) l49 c49 k49
 have b49:=F49.binds (ps:=["_law_book","_law_names","_law_cell"]) fun _ _ _ _ _ _ us hl=>by
  obtain ⟨u0,u1,u2,rfl⟩:=la3 hl
  rfl
 have F50:=BK (st:=Ft) l50 c50 k50
 have b50:=F50.binds (ps:=["_law_desk","_law_book","_law_names","_law_cell"]) fun _ _ _ _ _ _ us hl=>by
  obtain ⟨u0,u1,u2,u3,rfl⟩:=la4 hl
  rfl
 have F51:=BK (st:=Iv) l51 c51 k51
 refine ⟨PySem.W.fnOf "law" "law" (An Iv) (Ak Iv) (Ac Iv) .none kV51 dc51 pm51 an51 cd51 ct51,fun s v=>.of_eq rfl,fun base _ _=>?_⟩
 have C_divisor:Cal l.prog w K mg base "divisor" 1 ["one","other"] (QC):=⟨_,_,Ua F1 T,b1,k1,PySem.W.mg_of X G a1⟩
 have C_is_whole:Cal l.prog w K mg base "is_whole" 1 ["thing"] (Uj):=⟨_,_,Rm F2 T,b2,k2,PySem.W.mg_of X G a2⟩
 have C_plus:Cal l.prog w K mg base "plus" 2 ["one","other"] (QQ):=⟨_,_,Zq F3 T C_divisor,b3,k3,PySem.W.mg_of X G a3⟩
 have C_is_fraction:Cal l.prog w K mg base "is_fraction" 2 ["thing"] (Qj):=⟨_,_,Lw F4 T C_is_whole C_divisor,b4,k4,PySem.W.mg_of X G a4⟩
 have C_side:Cal l.prog w K mg base "side" 1 ["one"] (Ld):=⟨_,_,Ym F5 T,b5,k5,PySem.W.mg_of X G a5⟩
 have C_is_row_above:Cal l.prog w K mg base "is_row_above" 3 ["thing"] (Hc):=⟨_,_,K8 F6 T (C_is_fraction.imp PB) C_side,b6,k6,PySem.W.mg_of X G a6⟩
 have C_NoCord_init:Y6 l.prog w K mg base "NoCord" c_NoCord 1 ["self","place"] (Gy c_NoCord):=⟨_,_,⟨ei_NoCord,i7⟩,ek_NoCord,Mw F7 T R,b7,PySem.W.mg_of X G n_NoCord⟩
 have C_Cord_init:Kr l.prog w K mg base "Cord" o_Cord 4 ["self","gaps","weights"] (Ey o_Cord c_NoCord):=⟨_,_,OJ F8.ex T R OW_Cord C_is_row_above C_NoCord_init,b8,⟨mk_Cord,a8,i8,kc_Cord⟩,OW_Cord.m⟩
 have C_Cord_gaps:Im l.prog w K mg base o_Cord "gaps" 1 ["self"] (Ii o_Cord):=⟨_,_,Q0 F9 T OW_Cord,b9,⟨a9,i9,k9⟩,OW_Cord.cl⟩
 have C_Cord_weights:Im l.prog w K mg base o_Cord "weights" 1 ["self"] (Fj o_Cord):=⟨_,_,K7 F10 T OW_Cord,b10,⟨a10,i10,k10⟩,OW_Cord.cl⟩
 have C_Cord_beads:Im l.prog w K mg base o_Cord "beads" 1 ["self"] (JT o_Cord):=⟨_,_,N7 F11 T OW_Cord,b11,⟨a11,i11,k11⟩,OW_Cord.cl⟩
 have C_Cord_turned:Im l.prog w K mg base o_Cord "turned" 6 ["self"] (J5 o_Cord):=⟨_,_,Mi F12 T OW_Cord C_Cord_init,b12,⟨a12,i12,k12⟩,OW_Cord.cl⟩
 have O_check_bead:=Nx (P:=l.prog) (w:=w) (base:=base) F13.ex T R C_Cord_beads
 have C_check_bead:JZ l.prog w K mg base "check_bead" 2 ["cord","bead"] [] [] (QT o_Cord c_NoBead):=⟨⟨_,_,O_check_bead,b13,k13,PySem.W.mg_of X G a13⟩,.nil⟩
 have O_with_more:=Qz (P:=l.prog) (w:=w) (base:=base) F14.ex T R C_is_fraction C_side (C_plus.imp Rc) C_NoCord_init
 have C_with_more:JZ l.prog w K mg base "with_more" 3 ["row","place","more"] [] [] (Qd c_NoCord):=⟨⟨_,_,O_with_more,b14,k14,PySem.W.mg_of X G a14⟩,.nil⟩
 have O_heavier:=T7 (P:=l.prog) (w:=w) (base:=base) F15.ex T C_check_bead C_with_more C_Cord_gaps C_Cord_weights C_Cord_init
 have C_heavier:JZ l.prog w K mg base "heavier" 6 ["cord","bead","more"] [] [] (Ih 1 o_Cord c_NoCord c_NoBead):=⟨⟨_,_,O_heavier,b15,k15,PySem.W.mg_of X G a15⟩,.nil⟩
 have O_longer:=Vr (P:=l.prog) (w:=w) (base:=base) F16.ex T R C_with_more C_Cord_gaps C_Cord_weights C_Cord_beads C_Cord_init
 have C_longer:JZ l.prog w K mg base "longer" 6 ["cord","gap","more"] [] [] (Ih 0 o_Cord c_NoCord c_NoBead):=⟨⟨_,_,O_longer,b16,k16,PySem.W.mg_of X G a16⟩,.nil⟩
 have O_joined:=WY (P:=l.prog) (w:=w) (base:=base) F17.ex T (C_plus.imp Rc) C_Cord_gaps C_Cord_weights C_Cord_init
 have C_joined:JZ l.prog w K mg base "joined" 6 ["one","other"] [] [] (Iz o_Cord c_NoCord):=⟨⟨_,_,O_joined,b17,k17,PySem.W.mg_of X G a17⟩,.nil⟩
 have C_show_fraction:Cal l.prog w K mg base "show_fraction" 1 ["one"] (GF):=⟨_,_,KQ F18 T,b18,k18,PySem.W.mg_of X G a18⟩
 have C_show_cord:Cal l.prog w K mg base "show_cord" 2 ["cord"] (Li o_Cord):=⟨_,_,QD F19 T C_show_fraction C_Cord_gaps C_Cord_weights,b19,k19,PySem.W.mg_of X G a19⟩
 have C_check_text:Cal l.prog w K mg base "check_text" 1 ["thing"] (Ht):=⟨_,_,N8 F20 T,b20,k20,PySem.W.mg_of X G a20⟩
 have C_are_figures:Cal l.prog w K mg base "are_figures" 1 ["text"] (Mu):=⟨_,_,Ng F21 T,b21,k21,PySem.W.mg_of X G a21⟩
 have C_without_minus:Cal l.prog w K mg base "without_minus" 1 ["text"] (QV):=⟨_,_,J7 F22 T,b22,k22,PySem.W.mg_of X G a22⟩
 have C_within_brackets:Cal l.prog w K mg base "within_brackets" 1 ["word"] (Tj):=⟨_,_,JK F23 T,b23,k23,PySem.W.mg_of X G a23⟩
 have C_read_fraction:Cal l.prog w K mg base "read_fraction" 3 ["text"] (Ho):=⟨_,_,KN F24 T C_check_text C_are_figures C_without_minus (C_is_fraction.imp PB) C_show_fraction,b24,k24,PySem.W.mg_of X G a24⟩
 have C_read_cord:Cal l.prog w K mg base "read_cord" 6 ["text"] (J6 o_Cord):=⟨_,_,Py F25 T C_check_text C_read_fraction C_within_brackets C_Cord_init,b25,k25,PySem.W.mg_of X G a25⟩
 have C_read_name:Cal l.prog w K mg base "read_name" 1 ["text"] (Mq):=⟨_,_,Qe F26 T,b26,k26,PySem.W.mg_of X G a26⟩
 have C_read_whole:Cal l.prog w K mg base "read_whole" 4 ["text"] (Jy):=⟨_,_,Ob F27 T C_read_fraction,b27,k27,PySem.W.mg_of X G a27⟩
 have C_read_thing:Cal l.prog w K mg base "read_thing" 7 ["kind","text"] (KR o_Cord):=⟨_,_,Np F28 T C_read_cord C_read_fraction C_read_whole C_read_name,b28,k28,PySem.W.mg_of X G a28⟩
 have C_kinds_of:Cal l.prog w K mg base "kinds_of" 1 ["deed"] (M9 K):=⟨_,_,R7 F29 T FM_FORMS,b29,k29,PySem.W.mg_of X G a29⟩
 have C_read_told:Cal l.prog w K mg base "read_told" 8 ["row"] (KD o_Cord):=⟨_,_,QF F30 T FM_FORMS C_check_text C_read_thing,b30,k30,PySem.W.mg_of X G a30⟩
 have C_Desk_init:AAt l.prog w K mg base "Desk" o_Desk 1 ["self"] (Mr o_Desk):=⟨_,_,Q8 F31 T OW_Desk,b31,⟨mk_Desk,a31,i31,kc_Desk⟩,OW_Desk.m⟩
 have C_Desk_cord_by:Ko l.prog w K mg base o_Desk "cord_by" 1 ["self","name"] (Ka o_Desk c_NoName):=⟨_,_,Ky (P:=l.prog) (w:=w) (base:=base) F32.ex T R OW_Desk,b32,⟨a32,i32,k32⟩,OW_Desk.cl⟩
 have C_Desk_with_cords:Ko l.prog w K mg base o_Desk "with_cords" 2 ["self","kinds","things"] (Ln K o_Desk o_Cord c_NoName):=⟨_,_,JQ (P:=l.prog) (w:=w) (base:=base) F33.ex T OW_Desk C_Desk_cord_by,b33,⟨a33,i33,k33⟩,OW_Desk.cl⟩
 have O_made:=ZZ (P:=l.prog) (w:=w) (base:=base) F34.ex T C_Cord_turned C_joined C_heavier C_longer
 have C_made:JZ l.prog w K mg base "made" 7 ["deed","things"] [] [] (Kd o_Cord c_NoCord c_NoBead):=⟨⟨_,_,O_made,b34,k34,PySem.W.mg_of X G a34⟩,.nil⟩
 have C_answer:Cal l.prog w K mg base "answer" 3 ["deed","things"] (Hr o_Cord):=⟨_,_,Vq F35 T C_show_cord,b35,k35,PySem.W.mg_of X G a35⟩
 have C_Desk_say:Ko l.prog w K mg base o_Desk "say" 9 ["self","row"] (GP o_Desk o_Cord c_NoCord c_NoBead c_NoName):=⟨_,_,RD (P:=l.prog) (w:=w) (base:=base) F36.ex T OW_Desk C_read_told C_kinds_of C_Desk_with_cords C_made C_answer,b36,⟨a36,i36,k36⟩,OW_Desk.cl⟩
 have C_law_cell_at:Cal l.prog w K mg base "_law_cell_at" 1 ["_law_script","_law_k"] (Mm K):=⟨_,_,Lx F37 T,b37,k37,PySem.W.mg_of X G a37⟩
 have C_law_low:Cal l.prog w K mg base "_law_low" 1 ["_law_top","_law_bottom"] (Ji):=⟨_,_,TX F38 T,b38,k38,PySem.W.mg_of X G a38⟩
 have C_law_plus:Cal l.prog w K mg base "_law_plus" 2 ["_law_one","_law_other"] (JR 3900 (·+·)):=⟨_,_,RV F39 T C_law_low,b39,k39,PySem.W.mg_of X G a39⟩
 have C_law_text:Cal l.prog w K mg base "_law_text" 1 ["_law_one"] (GF):=⟨_,_,SN F40 T,b40,k40,PySem.W.mg_of X G a40⟩
 have C_law_shown:Cal l.prog w K mg base "_law_shown" 2 ["_law_cord"] (Hx):=⟨_,_,QK F41 T C_law_text,b41,k41,PySem.W.mg_of X G a41⟩
 have C_law_say:Cal l.prog w K mg base "_law_say" 10 ["_law_desk","_law_row_here"] (LK o_Desk o_Cord c_NoCord c_NoBead c_NoName):=⟨_,_,Tv F42 T R C_Desk_say,b42,k42,PySem.W.mg_of X G a42⟩
 have C_law_name:Cal l.prog w K mg base "_law_name" 1 ["_law_cell","_law_k"] (Mp):=⟨_,_,RX F43 T,b43,k43,PySem.W.mg_of X G a43⟩
 have C_law_twelfths:Cal l.prog w K mg base "_law_twelfths" 2 ["_law_cell","_law_many"] (Hq):=⟨_,_,K4 F44 T C_law_low,b44,k44,PySem.W.mg_of X G a44⟩
 have C_law_made:Cal l.prog w K mg base "_law_made" 3 ["_law_rest"] (Mj):=⟨_,_,Rr F45 T C_law_twelfths,b45,k45,PySem.W.mg_of X G a45⟩
 have C_law_turned:Cal l.prog w K mg base "_law_turned" 1 ["_law_book","_law_old"] (JF):=⟨_,_,Nu F46 T,b46,k46,PySem.W.mg_of X G a46⟩
 have C_law_joined:Cal l.prog w K mg base "_law_joined" 3 ["_law_book","_law_one","_law_other"] (JN):=⟨_,_,Nv F47 T C_law_plus,b47,k47,PySem.W.mg_of X G a47⟩
 have C_law_more:Cal l.prog w K mg base "_law_more" 3 ["_law_book","_law_words","_law_old","_law_place","_law_more_here"] (Lj):=⟨_,_,Rt F48 T C_law_plus,b48,k48,PySem.W.mg_of X G a48⟩
 have C_law_row:Cal l.prog w K mg base "_law_row" 4 ["_law_book","_law_names","_law_cell"] (QR):=⟨_,_,Uu F49 T C_law_made C_law_shown C_law_turned C_law_joined C_law_low C_law_text C_law_more,b49,k49,PySem.W.mg_of X G a49⟩
 have C_law_step:Cal l.prog w K mg base "_law_step" 11 ["_law_desk","_law_book","_law_names","_law_cell"] (Nk o_Desk o_Cord):=⟨_,_,RK F50 T C_law_row C_law_say C_law_shown,b50,k50,PySem.W.mg_of X G a50⟩
 exact ABd F51 T C_law_cell_at C_law_name C_law_step C_law_say C_law_shown C_Desk_init
theorem walk{l:PySem.W.OpenLaw}{q:Program}{loose:List Str}{XP:(Str→Option Value)→Heap→Prop}{YP:World→Heap→Prop}{d:DefRec}{K:Params→PySem.W.Frag}(hn:l.most=some 63)(hdf:d.params.defaults=[])
  (hY:∀(w:World) (h:Heap),YP w h→(K w.params).In h)
  (F:∀(w:World) (mg:Str→Option Value) (fa:Addr) (h:Heap),(K w.params).In h→h.Ns mainGlobals mg→mg d.name=some (.ref fa) →
   ∃fd:FuncData,(∀(s:Shared) (u:Value),BindsTo s fd ⟨[u],[]⟩ [("_law_script",u)])∧∀base:Heap,(K w.params).In base→base.Ns mainGlobals mg→BZ l.prog w (K w.params) mg base CX0 12 fa fd ["_law_script"] (Qp (K w.params))) :
  PySem.W.WalkO q loose XP YP l.row.toRowW d [] (fun f vs=>PySem.call f vs) :=
 L2.walk_of (n:=63) (k:=12) (x:="_law_script") (CX:=fun _=>CX0) (sp:=fun w=>Qp (K w.params)) hn (by decide) hdf ⟨rfl,by decide,by decide⟩ hY F (fun _ _ a ns hl _ hS=>⟨a,ns,rfl,hS,hl,fun _=>rfl⟩) fun _ _ _ _ _ z=>z
end My
namespace My
open PySem PySem.W L2
abbrev tp:Program:=PySem.Challenge.pw_tautcord_k84_a_desk_of_cords
abbrev ke(P:Params)(x:Str)(n:Nat)(v:Value):DictEntry:={ hash:=PyData.keyHash P x,key:=.str x n,val:=v }
abbrev mS0:Value:=.str "tautcord.errors" 187
abbrev mS1:Value:=.str "tautcord.wholes" 312
abbrev mS2:Value:=.str "tautcord.ratios" 332
abbrev mS3:Value:=.str "tautcord.cords" 412
abbrev mS4:Value:=.str "tautcord.changes" 490
abbrev mS5:Value:=.str "tautcord.counts" 538
abbrev mS6:Value:=.str "tautcord.polys" 587
abbrev mS7:Value:=.str "tautcord.ladders" 651
abbrev mS8:Value:=.str "tautcord.tones" 699
abbrev mS9:Value:=.str "tautcord.found" 750
abbrev ADR:Value:=.str "tautcord.modes" 817
abbrev N6:Value:=.str "tautcord.texts" 836
abbrev RB:Value:=.str "tautcord.rows" 918
abbrev AIv:Value:=.str "tautcord.sisters" 1056
abbrev AGg:Value:=.str "tautcord.spans" 1067
abbrev SM:Value:=.str "tautcord.desk" 1089
abbrev JD:Value:=.str "law_tautcord_k84_a_desk_of_cords" 1181
abbrev fo(x y:Str)(s:Stmt)(m:Value)(c:Nat):Obj:={ cls:=.type "function",data:=.func { name:=x,qualname:=y,params:=An s,body:=.stmts (Ak s),scope:=Ac s,globals:=3,closure:=[],defaults:=.none,kwdefaults:=.none,pyModule:=m,code:=.ref c } }
abbrev f1(x:Str)(s:Stmt)(m:Value)(c:Nat):Obj:=fo x x s m c
def alt:Bool→List Obj→List Obj
 | _,[]=>[]
 | true,x::r=>x::alt false r
 | false,_::r=>alt true r
def bld:Nat→List Obj→BT
 | 0,_=>.nil
 | _+1,[]=>.nil
 | n+1,x::r=>.node x (bld n (alt true r)) (bld n (alt false r))
abbrev tE:Obj:={ cls:=.type "tuple",data:=.seq #[] }
abbrev fE:Obj:={ cls:=.none,data:=.fields #[] }
def tL:Nat→List Str→List Value
 | _,[]=>[]
 | n,x::xs=>.str x n::tL (n+1) xs
abbrev tS(n:Nat)(xs:List Str):Obj:={ cls:=.type "tuple",data:=.seq (Array.mk (tL n xs)) }
abbrev pF(x y:Str)(s:Stmt):Obj:={ cls:=.none,dict:=none,data:=.func { name:=x,qualname:=y,params:=An s,body:=.stmts (Ak s),scope:=Ac s,globals:=0,closure:=[],defaults:=.none,kwdefaults:=.none,doc:=.none,pyModule:=.none,annotations:=none,code:=.none,closureTuple:=.none,builtins:=0 },slots:=#[] }
abbrev cO(x y:Str)(k l a b r m z:Nat):Obj:={ cls:=.type "code",data:=.fields #[.str x k,.str y (k+1),.str "/claim/cut.py" (k+2),.int l 0,.int a 0,.int 0 0,.int 0 0,.int b 0,.ref r,.bool Bool.true,.int 181 0,.ref (r+1),.none,.ref (r+2),.ref (r+3),.ref (r+4),.int m 0,.int l 0,.str "/claim/cut.py" z] }
abbrev c1(x:Str)(k l a b r m z:Nat):Obj:=cO x x k l a b r m z
abbrev cG(x y:Str)(k l a b r:Nat)(f:Bool)(p q s:Value)(m z:Nat):Obj:={ cls:=.type "code",data:=.fields #[.str x k,.str y (k+1),.str "/claim/cut.py" (k+2),.int l 0,.int a 0,.int 0 0,.int 0 0,.int b 0,.ref r,.bool f,.int 181 0,.ref (r+1),.none,p,q,s,.int m 0,.int l 0,.str "/claim/cut.py" z] }
def q:Program:=view tp [1,2,3,4,5,6,7,9,10,12,14,15,16,17,18,19,20,22,23,24,26,27,28,29,30,32,33,34,35,36,38,39,40,41,42,43,44,45,47,48,49,50,51,53,54,55,56,57,58,60,61,62,63,64,68,69,71,72,73,74,75,76,77,78,79,80,81,82,84,85,86,87,88,89,90,91,92,93,94,95,96,98,100,101,103,104,105,106,107,109,110,111,112,113,114,115,116,117,118,119,120,121,122,123]
def bE:List Stmt:=behindTheImports tp
def eE:Env:={ scope:=tp.main.scope,locals:=mainNs,globals:=mainNs,cells:=[],code:=.ref 13,frame:=some 14 }
abbrev cE:Code:=.body bE eE
def L_i(P:Params):List Obj:=[boot_o_0 P,boot_o_1 P,boot_o_2 P,boot_o_3 P,boot_o_4 P,boot_o_5 P,boot_o_6 P,boot_o_7 P,boot_o_8 P,boot_o_9 P,boot_o_10 P]
def L_a(P:Params):List Obj:=(L_i P).append [tE,fE,cG "<module>" "<module>" 182 1 0 0 11 false .none .none .none 185 186,{ cls:=.type "frame",slots:=#[some (.ref 13),some (.ref 3),some (.ref 3),none,some (.str "__main__" 164),none,some (.ref 0)] }]
def L_b(P:Params):List Obj:=L_a P
def AD9(P:Params):List DictEntry:=[ke P "__name__" 165 (.str "tautcord.errors" 187),ke P "__doc__" 166 .none,ke P "__package__" 167 .none,ke P "__loader__" 168 (.builtin "__main__.__loader__#opaque"),ke P "__spec__" 169 .none,ke P "__annotations__" 170 (.ref 6),ke P "__builtins__" 171 (.ref 4),ke P "__file__" 173 (.str "/claim/cut.py" 172),ke P "__cached__" 174 .none,ke P "CordError" 206 (.ref 24),ke P "NoFraction" 222 (.ref 37),ke P "NoCord" 247 (.ref 56)]
def AAa(P:Params):List Value:=[.int 2 0,.int 0 0,.ref 20,.int 4 0,.int 0 0,.ref 33,.int 6 0,.int 0 0,.ref 45]
def u22:Obj:=tE
def u23(P:Params):Obj:={ cls:=.type "dict",data:=.dict #[ke P "__module__" 196 (.str "tautcord.errors" 187),ke P "__firstlineno__" 200 (.int 2 199),ke P "__static_attributes__" 201 (.ref 22),ke P "__weakref__" 203 (.ref 25),ke P "__doc__" 204 .none] 3 }
def u25:Obj:={ cls:=.type "getset_descriptor",data:=.fields #[.str "__weakref__" 202,.ref 24,.builtin "ExceptionGroup.__weakref__",.none] }
def u35:Obj:=tE
def u36(P:Params):Obj:={ cls:=.type "dict",data:=.dict #[ke P "__module__" 214 (.str "tautcord.errors" 187),ke P "__firstlineno__" 218 (.int 4 217),ke P "__static_attributes__" 219 (.ref 35),ke P "__doc__" 220 .none] 2 }
def u37:Obj:={ cls:=.type "type",data:=.cls { name:="NoFraction",bases:=[.ref 24],mro:=[.ref 37,.ref 24,.type "ValueError",.type "Exception",.type "BaseException",.type "object"],ns:=36,qualname:="NoFraction" },slots:=#[some (.ref 28),none,some (.str "NoFraction" 207),some (.str "NoFraction" 215),some (.builtin "ValueError.__new__"),some (.bool Bool.true)] }
def u52:Obj:=cO "__init__" "NoCord.__init__" 235 8 2 3 47 240 241
def u53:Obj:=fo "__init__" "NoCord.__init__" (BV (top 3) 0) mS0 52
def u54:Obj:=tS 243 ["place"]
def u55(P:Params):Obj:={ cls:=.type "dict",data:=.dict #[ke P "__module__" 230 (.str "tautcord.errors" 187),ke P "__firstlineno__" 234 (.int 6 233),ke P "__init__" 242 (.ref 53),ke P "__static_attributes__" 244 (.ref 54),ke P "__doc__" 245 .none] 2 }
def u56:Obj:={ cls:=.type "type",data:=.cls { name:="NoCord",bases:=[.ref 24],mro:=[.ref 56,.ref 24,.type "ValueError",.type "Exception",.type "BaseException",.type "object"],ns:=55,qualname:="NoCord" },slots:=#[some (.ref 40),none,some (.str "NoCord" 223),some (.str "NoCord" 231),some (.builtin "ValueError.__new__"),some (.bool Bool.true)] }
def L_1(P:Params):List Obj:=(((L_b P).set 3 ({ cls:=.type "dict",data:=.dict (Array.mk (AD9 P)) 12 })).set 12 ({ cls:=.none,data:=.fields (Array.mk (AAa P)) })).append [{ cls:=.type "tuple",data:=.seq #[.type "ValueError"] },{ cls:=.type "builtin_function_or_method",data:=.fields #[.builtin "type.__prepare__",.type "type"] },{ cls:=.type "dict",data:=.dict #[ke P "__module__" 196 (.str "tautcord.errors" 187),ke P "__qualname__" 198 (.str "CordError" 197),ke P "__firstlineno__" 200 (.int 2 199),ke P "__static_attributes__" 201 (.ref 22)] 4 },tE,fE,cG "CordError" "CordError" 191 2 0 0 18 false .none .none .none 194 195,{ cls:=.type "frame",slots:=#[some (.ref 20),some (.ref 3),some (.ref 17),none,some (.str "tautcord.errors" 187),none,some (.ref 0)] },u22,u23 P,{ cls:=.type "type",data:=.cls { name:="CordError",bases:=[.type "ValueError"],mro:=[.ref 24,.type "ValueError",.type "Exception",.type "BaseException",.type "object"],ns:=23,qualname:="CordError",subclasses:=[.ref 37,.ref 56] },slots:=#[some (.ref 15),none,some (.str "CordError" 189),some (.str "CordError" 197),some (.builtin "ValueError.__new__"),some (.bool Bool.true)] },u25,{ cls:=.type "super",data:=.fields #[.ref 24,.ref 24,.ref 24] },{ cls:=.type "builtin_function_or_method",data:=.fields #[.builtin "object.__init_subclass__",.ref 24] },{ cls:=.type "tuple",data:=.seq #[.ref 24] },{ cls:=.type "builtin_function_or_method",data:=.fields #[.builtin "type.__prepare__",.type "type"] },{ cls:=.type "dict",data:=.dict #[ke P "__module__" 214 (.str "tautcord.errors" 187),ke P "__qualname__" 216 (.str "NoFraction" 215),ke P "__firstlineno__" 218 (.int 4 217),ke P "__static_attributes__" 219 (.ref 35)] 4 },tE,fE,cG "NoFraction" "NoFraction" 209 4 0 0 31 false .none .none .none 212 213,{ cls:=.type "frame",slots:=#[some (.ref 33),some (.ref 3),some (.ref 30),none,some (.str "tautcord.errors" 187),none,some (.ref 0)] },u35,u36 P,u37,{ cls:=.type "super",data:=.fields #[.ref 37,.ref 37,.ref 37] },{ cls:=.type "builtin_function_or_method",data:=.fields #[.builtin "object.__init_subclass__",.ref 37] },{ cls:=.type "tuple",data:=.seq #[.ref 24] },{ cls:=.type "builtin_function_or_method",data:=.fields #[.builtin "type.__prepare__",.type "type"] },{ cls:=.type "dict",data:=.dict #[ke P "__module__" 230 (.str "tautcord.errors" 187),ke P "__qualname__" 232 (.str "NoCord" 231),ke P "__firstlineno__" 234 (.int 6 233),ke P "__init__" 242 (.ref 53),ke P "__static_attributes__" 244 (.ref 54)] 5 },tE,{ cls:=.none,data:=.fields #[.int 8 0,.int 4 0,.ref 52] },cG "NoCord" "NoCord" 225 6 0 0 43 false .none .none .none 228 229,{ cls:=.type "frame",slots:=#[some (.ref 45),some (.ref 3),some (.ref 42),none,some (.str "tautcord.errors" 187),none,some (.ref 0)] },tE,fE,tS 238 ["self","place"],tE,pF "__init__" "NoCord.__init__" (BV (top 3) 0),u52,u53,u54,u55 P,u56,{ cls:=.type "super",data:=.fields #[.ref 56,.ref 56,.ref 56] },{ cls:=.type "builtin_function_or_method",data:=.fields #[.builtin "object.__init_subclass__",.ref 56] }]
def AEg(P:Params):List DictEntry:=(AD9 P).append [ke P "NoWorth" 263 (.ref 68),ke P "NoBead" 279 (.ref 80),ke P "NoText" 295 (.ref 92)]
def AAj(P:Params):List Value:=(AAa P).append [.int 10 0,.int 0 0,.ref 64,.int 12 0,.int 0 0,.ref 76,.int 14 0,.int 0 0,.ref 88]
def u66:Obj:=tE
def u67(P:Params):Obj:={ cls:=.type "dict",data:=.dict #[ke P "__module__" 255 (.str "tautcord.errors" 187),ke P "__firstlineno__" 259 (.int 10 258),ke P "__static_attributes__" 260 (.ref 66),ke P "__doc__" 261 .none] 2 }
def u68:Obj:={ cls:=.type "type",data:=.cls { name:="NoWorth",bases:=[.ref 24],mro:=[.ref 68,.ref 24,.type "ValueError",.type "Exception",.type "BaseException",.type "object"],ns:=67,qualname:="NoWorth" },slots:=#[some (.ref 59),none,some (.str "NoWorth" 248),some (.str "NoWorth" 256),some (.builtin "ValueError.__new__"),some (.bool Bool.true)] }
def u78:Obj:=tE
def u79(P:Params):Obj:={ cls:=.type "dict",data:=.dict #[ke P "__module__" 271 (.str "tautcord.errors" 187),ke P "__firstlineno__" 275 (.int 12 274),ke P "__static_attributes__" 276 (.ref 78),ke P "__doc__" 277 .none] 2 }
def u80:Obj:={ cls:=.type "type",data:=.cls { name:="NoBead",bases:=[.ref 24],mro:=[.ref 80,.ref 24,.type "ValueError",.type "Exception",.type "BaseException",.type "object"],ns:=79,qualname:="NoBead" },slots:=#[some (.ref 71),none,some (.str "NoBead" 264),some (.str "NoBead" 272),some (.builtin "ValueError.__new__"),some (.bool Bool.true)] }
def u90:Obj:=tE
def u91(P:Params):Obj:={ cls:=.type "dict",data:=.dict #[ke P "__module__" 287 (.str "tautcord.errors" 187),ke P "__firstlineno__" 291 (.int 14 290),ke P "__static_attributes__" 292 (.ref 90),ke P "__doc__" 293 .none] 2 }
def u92:Obj:={ cls:=.type "type",data:=.cls { name:="NoText",bases:=[.ref 24],mro:=[.ref 92,.ref 24,.type "ValueError",.type "Exception",.type "BaseException",.type "object"],ns:=91,qualname:="NoText" },slots:=#[some (.ref 83),none,some (.str "NoText" 280),some (.str "NoText" 288),some (.builtin "ValueError.__new__"),some (.bool Bool.true)] }
def L_2(P:Params):List Obj:=((((L_1 P).set 3 ({ cls:=.type "dict",data:=.dict (Array.mk (AEg P)) 15 })).set 12 ({ cls:=.none,data:=.fields (Array.mk (AAj P)) })).set 24 ({ cls:=.type "type",data:=.cls { name:="CordError",bases:=[.type "ValueError"],mro:=[.ref 24,.type "ValueError",.type "Exception",.type "BaseException",.type "object"],ns:=23,qualname:="CordError",subclasses:=[.ref 37,.ref 56,.ref 68,.ref 80,.ref 92] },slots:=#[some (.ref 15),none,some (.str "CordError" 189),some (.str "CordError" 197),some (.builtin "ValueError.__new__"),some (.bool Bool.true)] })).append [{ cls:=.type "tuple",data:=.seq #[.ref 24] },{ cls:=.type "builtin_function_or_method",data:=.fields #[.builtin "type.__prepare__",.type "type"] },{ cls:=.type "dict",data:=.dict #[ke P "__module__" 255 (.str "tautcord.errors" 187),ke P "__qualname__" 257 (.str "NoWorth" 256),ke P "__firstlineno__" 259 (.int 10 258),ke P "__static_attributes__" 260 (.ref 66)] 4 },tE,fE,cG "NoWorth" "NoWorth" 250 10 0 0 62 false .none .none .none 253 254,{ cls:=.type "frame",slots:=#[some (.ref 64),some (.ref 3),some (.ref 61),none,some (.str "tautcord.errors" 187),none,some (.ref 0)] },u66,u67 P,u68,{ cls:=.type "super",data:=.fields #[.ref 68,.ref 68,.ref 68] },{ cls:=.type "builtin_function_or_method",data:=.fields #[.builtin "object.__init_subclass__",.ref 68] },{ cls:=.type "tuple",data:=.seq #[.ref 24] },{ cls:=.type "builtin_function_or_method",data:=.fields #[.builtin "type.__prepare__",.type "type"] },{ cls:=.type "dict",data:=.dict #[ke P "__module__" 271 (.str "tautcord.errors" 187),ke P "__qualname__" 273 (.str "NoBead" 272),ke P "__firstlineno__" 275 (.int 12 274),ke P "__static_attributes__" 276 (.ref 78)] 4 },tE,fE,cG "NoBead" "NoBead" 266 12 0 0 74 false .none .none .none 269 270,{ cls:=.type "frame",slots:=#[some (.ref 76),some (.ref 3),some (.ref 73),none,some (.str "tautcord.errors" 187),none,some (.ref 0)] },u78,u79 P,u80,{ cls:=.type "super",data:=.fields #[.ref 80,.ref 80,.ref 80] },{ cls:=.type "builtin_function_or_method",data:=.fields #[.builtin "object.__init_subclass__",.ref 80] },{ cls:=.type "tuple",data:=.seq #[.ref 24] },{ cls:=.type "builtin_function_or_method",data:=.fields #[.builtin "type.__prepare__",.type "type"] },{ cls:=.type "dict",data:=.dict #[ke P "__module__" 287 (.str "tautcord.errors" 187),ke P "__qualname__" 289 (.str "NoText" 288),ke P "__firstlineno__" 291 (.int 14 290),ke P "__static_attributes__" 292 (.ref 90)] 4 },tE,fE,cG "NoText" "NoText" 282 14 0 0 86 false .none .none .none 285 286,{ cls:=.type "frame",slots:=#[some (.ref 88),some (.ref 3),some (.ref 85),none,some (.str "tautcord.errors" 187),none,some (.ref 0)] },u90,u91 P,u92,{ cls:=.type "super",data:=.fields #[.ref 92,.ref 92,.ref 92] },{ cls:=.type "builtin_function_or_method",data:=.fields #[.builtin "object.__init_subclass__",.ref 92] }]
def AG1(P:Params):List DictEntry:=((AEg P).set 0 (ke P "__name__" 165 (.str "tautcord.cords" 412))).append [ke P "NoName" 311 (.ref 104),ke P "is_whole" 320 (.ref 113),ke P "divisor" 331 (.ref 120),ke P "is_fraction" 340 (.ref 127),ke P "fraction" 350 (.ref 135),ke P "plus" 361 (.ref 142),ke P "minus" 369 (.ref 149),ke P "times" 379 (.ref 156),ke P "over" 387 (.ref 163),ke P "is_under" 395 (.ref 170),ke P "side" 402 (.ref 177),ke P "is_rising" 411 (.ref 184),ke P "MOST_BEADS" 415 (.int 12 414),ke P "is_row_above" 421 (.ref 189)]
def AAT(P:Params):List Value:=(AAj P).append [.int 16 0,.int 0 0,.ref 100,.int 19 0,.int 0 0,.ref 112,.int 21 0,.int 0 0,.ref 119,.int 30 0,.int 0 0,.ref 126,.int 36 0,.int 0 0,.ref 134,.int 45 0,.int 0 0,.ref 141,.int 50 0,.int 0 0,.ref 148,.int 52 0,.int 0 0,.ref 155,.int 56 0,.int 0 0,.ref 162,.int 60 0,.int 0 0,.ref 169,.int 62 0,.int 0 0,.ref 176,.int 68 0,.int 0 0,.ref 183,.int 77 0,.int 0 0,.ref 188]
def u24:Obj:={ cls:=.type "type",data:=.cls { name:="CordError",bases:=[.type "ValueError"],mro:=[.ref 24,.type "ValueError",.type "Exception",.type "BaseException",.type "object"],ns:=23,qualname:="CordError",subclasses:=[.ref 37,.ref 56,.ref 68,.ref 80,.ref 92,.ref 104] },slots:=#[some (.ref 15),none,some (.str "CordError" 189),some (.str "CordError" 197),some (.builtin "ValueError.__new__"),some (.bool Bool.true)] }
def ACt:Obj:=tE
def ACx(P:Params):Obj:={ cls:=.type "dict",data:=.dict #[ke P "__module__" 303 (.str "tautcord.errors" 187),ke P "__firstlineno__" 307 (.int 16 306),ke P "__static_attributes__" 308 (.ref 102),ke P "__doc__" 309 .none] 2 }
def AHA:Obj:={ cls:=.type "type",data:=.cls { name:="NoName",bases:=[.ref 24],mro:=[.ref 104,.ref 24,.type "ValueError",.type "Exception",.type "BaseException",.type "object"],ns:=103,qualname:="NoName" },slots:=#[some (.ref 95),none,some (.str "NoName" 296),some (.str "NoName" 304),some (.builtin "ValueError.__new__"),some (.bool Bool.true)] }
def ACw:Obj:=c1 "is_whole" 314 19 1 3 107 318 319
def AH7:Obj:=f1 "is_whole" (top 9) mS1 112
def AGi:Obj:=c1 "divisor" 321 21 2 3 114 329 330
def AFk:Obj:=f1 "divisor" (top 10) mS1 119
def AFG:Obj:=c1 "is_fraction" 334 30 1 3 121 338 339
def AGF:Obj:=f1 "is_fraction" (top 12) mS2 126
def AHy:Obj:={ cls:=.type "tuple",data:=.seq #[.int 1 341] }
def AEI:Obj:=c1 "fraction" 342 36 2 3 129 348 349
def AEu:Obj:={ cls:=.type "function",dict:=none,data:=.func { name:="fraction",qualname:="fraction",params:=An (top 13),body:=.stmts (Ak (top 13)),scope:=Ac (top 13),globals:=3,closure:=[],defaults:=.ref 128,kwdefaults:=.none,doc:=.none,pyModule:=.str "tautcord.ratios" 332,annotations:=none,code:=.ref 134,closureTuple:=.none,builtins:=0 },slots:=#[] }
def AHR:Obj:=c1 "plus" 351 45 2 3 136 359 360
def AFX:Obj:=f1 "plus" (top 14) mS2 141
def AHc:Obj:=c1 "minus" 362 50 2 3 143 367 368
def ADr:Obj:=f1 "minus" (top 15) mS2 148
def AHp:Obj:=c1 "times" 370 52 2 3 150 377 378
def AEO:Obj:=f1 "times" (top 16) mS2 155
def AFH:Obj:=c1 "over" 380 56 2 3 157 385 386
def ADW:Obj:=f1 "over" (top 17) mS2 162
def AEl:Obj:=c1 "is_under" 388 60 2 3 164 393 394
def AG4:Obj:=f1 "is_under" (top 18) mS2 169
def AHI:Obj:=c1 "side" 396 62 1 3 171 400 401
def AGW:Obj:=f1 "side" (top 19) mS2 176
def ADE:Obj:=c1 "is_rising" 403 68 1 3 178 409 410
def AHL:Obj:=f1 "is_rising" (top 20) mS2 183
def AFm:Obj:=cG "is_row_above" "is_row_above" 416 77 1 3 185 true .none .none (.ref 187) 419 420
def AFd:Obj:=f1 "is_row_above" (top 23) mS3 188
def L_3(P:Params):List Obj:=((((L_2 P).set 3 ({ cls:=.type "dict",data:=.dict (Array.mk (AG1 P)) 29 })).set 12 ({ cls:=.none,data:=.fields (Array.mk (AAT P)) })).set 24 (u24)).append [{ cls:=.type "tuple",data:=.seq #[.ref 24] },{ cls:=.type "builtin_function_or_method",data:=.fields #[.builtin "type.__prepare__",.type "type"] },{ cls:=.type "dict",data:=.dict #[ke P "__module__" 303 (.str "tautcord.errors" 187),ke P "__qualname__" 305 (.str "NoName" 304),ke P "__firstlineno__" 307 (.int 16 306),ke P "__static_attributes__" 308 (.ref 102)] 4 },tE,fE,cG "NoName" "NoName" 298 16 0 0 98 false .none .none .none 301 302,{ cls:=.type "frame",slots:=#[some (.ref 100),some (.ref 3),some (.ref 97),none,some (.str "tautcord.errors" 187),none,some (.ref 0)] },ACt,ACx P,AHA,{ cls:=.type "super",data:=.fields #[.ref 104,.ref 104,.ref 104] },{ cls:=.type "builtin_function_or_method",data:=.fields #[.builtin "object.__init_subclass__",.ref 104] },tE,fE,tS 317 ["thing"],tE,pF "is_whole" "is_whole" (top 9),ACw,AH7,tE,fE,tS 324 ["one","other","first","second","rest"],tE,pF "divisor" "divisor" (top 10),AGi,AFk,tE,fE,tS 337 ["thing"],tE,pF "is_fraction" "is_fraction" (top 12),AFG,AGF,AHy,tE,fE,tS 345 ["top","bottom","shared"],tE,pF "fraction" "fraction" (top 13),AEI,AEu,tE,fE,tS 354 ["one","other","shared","top","left"],tE,pF "plus" "plus" (top 14),AHR,AFX,tE,fE,tS 365 ["one","other"],tE,pF "minus" "minus" (top 15),AHc,ADr,tE,fE,tS 373 ["one","other","first","second"],tE,pF "times" "times" (top 16),AHp,AEO,tE,fE,tS 383 ["one","other"],tE,pF "over" "over" (top 17),AFH,ADW,tE,fE,tS 391 ["one","other"],tE,pF "is_under" "is_under" (top 18),AEl,AG4,tE,fE,tS 399 ["one"],tE,pF "side" "side" (top 19),AHI,AGW,tE,fE,tS 406 ["row","last","one"],tE,pF "is_rising" "is_rising" (top 20),ADE,AHL,tE,fE,pF "is_row_above" "is_row_above" (top 23),AFm,AFd]
def AGm(P:Params):List DictEntry:=((AG1 P).set 0 (ke P "__name__" 165 (.str "tautcord.counts" 538))).append [ke P "Cord" 489 (.ref 241),ke P "heavier" 500 (.ref 252),ke P "longer" 509 (.ref 259),ke P "joined" 520 (.ref 266),ke P "check_bead" 528 (.ref 273),ke P "with_more" 537 (.ref 280),ke P "signs" 545 (.ref 285),ke P "turns" 551 (.ref 290),ke P "worths_below" 560 (.ref 297),ke P "up_to" 570 (.ref 304)]
def AAS(P:Params):List Value:=(AAT P).append [.int 81 0,.int 0 0,.ref 195,.int 109 0,.int 0 0,.ref 251,.int 112 0,.int 0 0,.ref 258,.int 116 0,.int 0 0,.ref 265,.int 121 0,.int 0 0,.ref 272,.int 124 0,.int 0 0,.ref 279,.int 129 0,.int 0 0,.ref 284,.int 131 0,.int 0 0,.ref 289,.int 134 0,.int 0 0,.ref 296,.int 136 0,.int 0 0,.ref 303]
def AHh:Obj:=cO "__init__" "Cord.__init__" 434 83 3 3 197 440 441
def ADc:Obj:=fo "__init__" "Cord.__init__" (BV (top 24) 0) mS3 202
def AG0:Obj:=cO "gaps" "Cord.gaps" 443 91 1 3 204 447 448
def AGC:Obj:=fo "gaps" "Cord.gaps" (BV (top 24) 1) mS3 209
def AGN:Obj:=cO "weights" "Cord.weights" 450 94 1 3 211 454 455
def ACR:Obj:=fo "weights" "Cord.weights" (BV (top 24) 2) mS3 216
def ACp:Obj:=cO "beads" "Cord.beads" 457 97 1 3 218 461 462
def ACb:Obj:=fo "beads" "Cord.beads" (BV (top 24) 3) mS3 223
def ACX:Obj:=cO "length" "Cord.length" 464 100 1 3 225 470 471
def AFh:Obj:=fo "length" "Cord.length" (BV (top 24) 4) mS3 230
def AGx:Obj:=cO "turned" "Cord.turned" 473 106 1 3 232 477 478
def AF3:Obj:=fo "turned" "Cord.turned" (BV (top 24) 5) mS3 237
def AGD:Obj:=tS 480 ["kept_gaps","kept_weights"]
def AHq(P:Params):Obj:={ cls:=.type "dict",data:=.dict #[ke P "__module__" 429 (.str "tautcord.cords" 412),ke P "__firstlineno__" 433 (.int 81 432),ke P "__init__" 442 (.ref 203),ke P "gaps" 449 (.ref 210),ke P "weights" 456 (.ref 217),ke P "beads" 463 (.ref 224),ke P "length" 472 (.ref 231),ke P "turned" 479 (.ref 238),ke P "__static_attributes__" 482 (.ref 239),ke P "__dict__" 484 (.ref 242),ke P "__weakref__" 486 (.ref 243),ke P "__doc__" 487 .none] 4 }
def AEs:Obj:={ cls:=.type "type",data:=.cls { name:="Cord",bases:=[.type "object"],mro:=[.ref 241,.type "object"],ns:=240,qualname:="Cord" },slots:=#[none,none,some (.str "Cord" 422),some (.str "Cord" 430),some (.builtin "object.__new__"),some (.bool Bool.true)] }
def AH6:Obj:={ cls:=.type "getset_descriptor",data:=.fields #[.str "__dict__" 483,.ref 241,.builtin "function.__dict__",.builtin "function.__dict__#set"] }
def ACQ:Obj:={ cls:=.type "getset_descriptor",data:=.fields #[.str "__weakref__" 485,.ref 241,.builtin "ExceptionGroup.__weakref__",.none] }
def ADz:Obj:=c1 "heavier" 492 109 3 3 246 498 499
def AFQ:Obj:=f1 "heavier" (top 26) mS4 251
def AHU:Obj:=c1 "longer" 501 112 3 3 253 507 508
def AG7:Obj:=f1 "longer" (top 27) mS4 258
def ADJ:Obj:=c1 "joined" 510 116 2 3 260 518 519
def ADy:Obj:=f1 "joined" (top 28) mS4 265
def AHv:Obj:=c1 "check_bead" 521 121 2 3 267 526 527
def ADd:Obj:=f1 "check_bead" (top 29) mS4 272
def AD2:Obj:=c1 "with_more" 529 124 3 3 274 535 536
def AD5:Obj:=f1 "with_more" (top 30) mS4 279
def ADo:Obj:=cG "signs" "signs" 540 129 1 3 281 true .none .none (.ref 283) 543 544
def AEr:Obj:=f1 "signs" (top 32) mS5 284
def AGd:Obj:=cG "turns" "turns" 546 131 1 3 286 true .none .none (.ref 288) 549 550
def AEj:Obj:=f1 "turns" (top 33) mS5 289
def AEh:Obj:=c1 "worths_below" 552 134 3 3 291 558 559
def AG5:Obj:=f1 "worths_below" (top 34) mS5 296
def ADX:Obj:=c1 "up_to" 561 136 3 3 298 568 569
def ADQ:Obj:=f1 "up_to" (top 35) mS5 303
def L_4(P:Params):List Obj:=(((L_3 P).set 3 ({ cls:=.type "dict",data:=.dict (Array.mk (AGm P)) 39 })).set 12 ({ cls:=.none,data:=.fields (Array.mk (AAS P)) })).append [tE,{ cls:=.type "builtin_function_or_method",data:=.fields #[.builtin "type.__prepare__",.type "type"] },{ cls:=.type "dict",data:=.dict #[ke P "__module__" 429 (.str "tautcord.cords" 412),ke P "__qualname__" 431 (.str "Cord" 430),ke P "__firstlineno__" 433 (.int 81 432),ke P "__init__" 442 (.ref 203),ke P "gaps" 449 (.ref 210),ke P "weights" 456 (.ref 217),ke P "beads" 463 (.ref 224),ke P "length" 472 (.ref 231),ke P "turned" 479 (.ref 238),ke P "__static_attributes__" 482 (.ref 239)] 10 },tE,{ cls:=.none,data:=.fields #[.int 83 0,.int 4 0,.ref 202,.int 91 0,.int 4 0,.ref 209,.int 94 0,.int 4 0,.ref 216,.int 97 0,.int 4 0,.ref 223,.int 100 0,.int 4 0,.ref 230,.int 106 0,.int 4 0,.ref 237] },cG "Cord" "Cord" 424 81 0 0 193 false .none .none .none 427 428,{ cls:=.type "frame",slots:=#[some (.ref 195),some (.ref 3),some (.ref 192),none,some (.str "tautcord.cords" 412),none,some (.ref 0)] },tE,fE,tS 437 ["self","gaps","weights"],tE,pF "__init__" "Cord.__init__" (BV (top 24) 0),AHh,ADc,tE,fE,tS 446 ["self"],tE,pF "gaps" "Cord.gaps" (BV (top 24) 1),AG0,AGC,tE,fE,tS 453 ["self"],tE,pF "weights" "Cord.weights" (BV (top 24) 2),AGN,ACR,tE,fE,tS 460 ["self"],tE,pF "beads" "Cord.beads" (BV (top 24) 3),ACp,ACb,tE,fE,tS 467 ["self","whole","gap"],tE,pF "length" "Cord.length" (BV (top 24) 4),ACX,AFh,tE,fE,tS 476 ["self"],tE,pF "turned" "Cord.turned" (BV (top 24) 5),AGx,AF3,AGD,AHq P,AEs,AH6,ACQ,{ cls:=.type "super",data:=.fields #[.ref 241,.ref 241,.ref 241] },{ cls:=.type "builtin_function_or_method",data:=.fields #[.builtin "object.__init_subclass__",.ref 241] },tE,fE,tS 495 ["cord","bead","more"],tE,pF "heavier" "heavier" (top 26),ADz,AFQ,tE,fE,tS 504 ["cord","gap","more"],tE,pF "longer" "longer" (top 27),AHU,AG7,tE,fE,tS 513 ["one","other","gaps","further","middle"],tE,pF "joined" "joined" (top 28),ADJ,ADy,tE,fE,tS 524 ["cord","bead"],tE,pF "check_bead" "check_bead" (top 29),AHv,ADd,tE,fE,tS 532 ["row","place","more"],tE,pF "with_more" "with_more" (top 30),AD2,AD5,tE,fE,pF "signs" "signs" (top 32),ADo,AEr,tE,fE,pF "turns" "turns" (top 33),AGd,AEj,tE,fE,tS 555 ["cord","end","t"],tE,pF "worths_below" "worths_below" (top 34),AEh,AG5,tE,fE,tS 564 ["cord","end","t","row"],tE,pF "up_to" "up_to" (top 35),ADX,ADQ]
def AEc(P:Params):List DictEntry:=((AGm P).set 0 (ke P "__name__" 165 (.str "tautcord.found" 750))).append [ke P "row_at" 586 (.ref 311),ke P "poly" 596 (.ref 318),ke P "figure_at" 604 (.ref 325),ke P "poly_plus" 610 (.ref 330),ke P "poly_minus" 616 (.ref 335),ke P "scaled" 622 (.ref 340),ke P "shared_bottom" 631 (.ref 347),ke P "whole_figures" 637 (.ref 352),ke P "whole_times" 650 (.ref 359),ke P "ladder" 666 (.ref 366),ke P "over_one_bottom" 674 (.ref 373),ke P "quotient_at" 686 (.ref 380),ke P "rest_of" 692 (.ref 385),ke P "in_lowest_terms" 698 (.ref 390),ke P "held" 707 (.ref 397),ke P "loose" 714 (.ref 404),ke P "near" 721 (.ref 411),ke P "free" 728 (.ref 418),ke P "ends" 742 (.ref 425),ke P "times_number" 749 (.ref 432),ke P "cord_with" 761 (.ref 439)]
def Z3(P:Params):List Value:=(AAS P).append [.int 141 0,.int 0 0,.ref 310,.int 155 0,.int 0 0,.ref 317,.int 160 0,.int 0 0,.ref 324,.int 164 0,.int 0 0,.ref 329,.int 167 0,.int 0 0,.ref 334,.int 170 0,.int 0 0,.ref 339,.int 172 0,.int 0 0,.ref 346,.int 177 0,.int 0 0,.ref 351,.int 179 0,.int 0 0,.ref 358,.int 188 0,.int 0 0,.ref 365,.int 205 0,.int 0 0,.ref 372,.int 208 0,.int 0 0,.ref 379,.int 217 0,.int 0 0,.ref 384,.int 224 0,.int 0 0,.ref 389,.int 230 0,.int 0 0,.ref 396,.int 232 0,.int 0 0,.ref 403,.int 234 0,.int 0 0,.ref 410,.int 236 0,.int 0 0,.ref 417,.int 238 0,.int 0 0,.ref 424,.int 246 0,.int 0 0,.ref 431,.int 249 0,.int 0 0,.ref 438]
def AIC:Obj:=c1 "row_at" 571 141 3 3 305 584 585
def ADG:Obj:=f1 "row_at" (top 36) mS5 310
def AHi:Obj:=c1 "poly" 589 155 1 3 312 594 595
def AGL:Obj:=f1 "poly" (top 38) mS6 317
def AGw:Obj:=c1 "figure_at" 597 160 2 3 319 602 603
def AHG:Obj:=f1 "figure_at" (top 39) mS6 324
def AGA:Obj:=cG "poly_plus" "poly_plus" 605 164 2 3 326 true .none .none (.ref 328) 608 609
def AG6:Obj:=f1 "poly_plus" (top 40) mS6 329
def AFt:Obj:=cG "poly_minus" "poly_minus" 611 167 2 3 331 true .none .none (.ref 333) 614 615
def AHE:Obj:=f1 "poly_minus" (top 41) mS6 334
def ADf:Obj:=cG "scaled" "scaled" 617 170 2 3 336 true .none .none (.ref 338) 620 621
def AEe:Obj:=f1 "scaled" (top 42) mS6 339
def AC6:Obj:=c1 "shared_bottom" 623 172 1 3 341 629 630
def AEm:Obj:=f1 "shared_bottom" (top 43) mS6 346
def AEo:Obj:=cG "whole_figures" "whole_figures" 632 177 2 3 348 true .none .none (.ref 350) 635 636
def AF5:Obj:=f1 "whole_figures" (top 44) mS6 351
def AFZ:Obj:=c1 "whole_times" 638 179 2 3 353 648 649
def AFc:Obj:=f1 "whole_times" (top 45) mS6 358
def ADH:Obj:=c1 "ladder" 653 188 2 3 360 664 665
def AFo:Obj:=f1 "ladder" (top 47) mS7 365
def AE5:Obj:=c1 "over_one_bottom" 667 205 1 3 367 672 673
def ACv:Obj:=f1 "over_one_bottom" (top 48) mS7 372
def AFK:Obj:=c1 "quotient_at" 675 208 3 3 374 684 685
def AFu:Obj:=f1 "quotient_at" (top 49) mS7 379
def AHg:Obj:=cG "rest_of" "rest_of" 687 217 2 3 381 true .none .none (.ref 383) 690 691
def AHb:Obj:=f1 "rest_of" (top 50) mS7 384
def ADZ:Obj:=cG "in_lowest_terms" "in_lowest_terms" 693 224 2 3 386 true .none .none (.ref 388) 696 697
def AGq:Obj:=f1 "in_lowest_terms" (top 51) mS7 389
def AGB:Obj:=c1 "held" 701 230 1 3 391 705 706
def ACW:Obj:=f1 "held" (top 53) mS8 396
def AHf:Obj:=c1 "loose" 708 232 1 3 398 712 713
def AD3:Obj:=f1 "loose" (top 54) mS8 403
def AHX:Obj:=c1 "near" 715 234 1 3 405 719 720
def AD4:Obj:=f1 "near" (top 55) mS8 410
def AIS:Obj:=c1 "free" 722 236 1 3 412 726 727
def AEQ:Obj:=f1 "free" (top 56) mS8 417
def AF8:Obj:=c1 "ends" 729 238 3 3 419 740 741
def ACc:Obj:=f1 "ends" (top 57) mS8 424
def AG8:Obj:=c1 "times_number" 743 246 1 3 426 747 748
def ACl:Obj:=f1 "times_number" (top 58) mS8 431
def AH0:Obj:=c1 "cord_with" 752 249 2 3 433 759 760
def AD6:Obj:=f1 "cord_with" (top 60) mS9 438
def L_5(P:Params):List Obj:=(((L_4 P).set 3 ({ cls:=.type "dict",data:=.dict (Array.mk (AEc P)) 60 })).set 12 ({ cls:=.none,data:=.fields (Array.mk (Z3 P)) })).append [tE,fE,tS 574 ["cord","end","t","gaps","height","lean","row","weight","gap","pull"],tE,pF "row_at" "row_at" (top 36),AIC,ADG,tE,fE,tS 592 ["figures","most"],tE,pF "poly" "poly" (top 38),AHi,AGL,tE,fE,tS 600 ["one","power"],tE,pF "figure_at" "figure_at" (top 39),AGw,AHG,tE,fE,pF "poly_plus" "poly_plus" (top 40),AGA,AG6,tE,fE,pF "poly_minus" "poly_minus" (top 41),AFt,AHE,tE,fE,pF "scaled" "scaled" (top 42),ADf,AEe,tE,fE,tS 626 ["figures","bottom","figure"],tE,pF "shared_bottom" "shared_bottom" (top 43),AC6,AEm,tE,fE,pF "whole_figures" "whole_figures" (top 44),AEo,AF5,tE,fE,tS 641 ["one","other","product","power","figure","further","factor"],tE,pF "whole_times" "whole_times" (top 45),AFZ,AFc,tE,fE,tS 656 ["upper","lower","one","other","quotients","place","quotient","rest"],tE,pF "ladder" "ladder" (top 47),ADH,AFo,tE,fE,tS 670 ["one","bottom"],tE,pF "over_one_bottom" "over_one_bottom" (top 48),AE5,ACv,tE,fE,tS 678 ["place","one","other","last","divided_by","quotient"],tE,pF "quotient_at" "quotient_at" (top 49),AFK,AFu,tE,fE,pF "rest_of" "rest_of" (top 50),AHg,AHb,tE,fE,pF "in_lowest_terms" "in_lowest_terms" (top 51),ADZ,AGq,tE,fE,tS 704 ["cord"],tE,pF "held" "held" (top 53),AGB,ACW,tE,fE,tS 711 ["cord"],tE,pF "loose" "loose" (top 54),AHf,AD3,tE,fE,tS 718 ["cord"],tE,pF "near" "near" (top 55),AHX,AD4,tE,fE,tS 725 ["cord"],tE,pF "free" "free" (top 56),AIS,AEQ,tE,fE,tS 732 ["cord","height","lean","gaps","here","leaning","weight","gap"],tE,pF "ends" "ends" (top 57),AF8,ACc,tE,fE,tS 746 ["one"],tE,pF "times_number" "times_number" (top 58),AG8,ACl,tE,fE,tS 755 ["upper","lower","told","steps"],tE,pF "cord_with" "cord_with" (top 60),AH0,AD6]
def AGJ(P:Params):List DictEntry:=((AEc P).set 0 (ke P "__name__" 165 (.str "tautcord.rows" 918))).append [ke P "even" 772 (.ref 446),ke P "even_about_gap" 782 (.ref 453),ke P "even_about_bead" 792 (.ref 460),ke P "with_worths" 798 (.ref 465),ke P "walked" 816 (.ref 473),ke P "heights_of" 824 (.ref 478),ke P "mode" 835 (.ref 485),ke P "FIGURES" 839 (.str "0123456789" 838),ke P "MOST_FIGURES" 841 (.int 30 840),ke P "show_fraction" 850 (.ref 492),ke P "show_row" 856 (.ref 497),ke P "show_cord" 867 (.ref 504),ke P "read_fraction" 878 (.ref 511),ke P "read_row" 884 (.ref 516),ke P "read_cord" 890 (.ref 521),ke P "check_text" 897 (.ref 528),ke P "are_figures" 903 (.ref 533),ke P "without_minus" 910 (.ref 540),ke P "within_brackets" 917 (.ref 547),ke P "LETTERS" 921 (.str "abcdefghijklmnopqrstuvwxyz" 920),ke P "LONGEST_NAME" 923 (.int 8 922),ke P "MOST_HALVINGS" 925 (.int 60 924)]
def Z4(P:Params):List Value:=(Z3 P).append [.int 255 0,.int 0 0,.ref 445,.int 267 0,.int 0 0,.ref 452,.int 272 0,.int 0 0,.ref 459,.int 276 0,.int 0 0,.ref 464,.int 284 0,.int 0 0,.ref 472,.int 296 0,.int 0 0,.ref 477,.int 298 0,.int 0 0,.ref 484,.int 307 0,.int 0 0,.ref 491,.int 313 0,.int 0 0,.ref 496,.int 315 0,.int 0 0,.ref 503,.int 322 0,.int 0 0,.ref 510,.int 333 0,.int 0 0,.ref 515,.int 338 0,.int 0 0,.ref 520,.int 347 0,.int 0 0,.ref 527,.int 350 0,.int 0 0,.ref 532,.int 354 0,.int 0 0,.ref 539,.int 358 0,.int 0 0,.ref 546]
def AFI:Obj:=c1 "even" 762 255 2 3 440 770 771
def AEq:Obj:=f1 "even" (top 61) mS9 445
def ACo:Obj:=c1 "even_about_gap" 773 267 1 3 447 780 781
def ADn:Obj:=f1 "even_about_gap" (top 62) mS9 452
def AGS:Obj:=c1 "even_about_bead" 783 272 2 3 454 790 791
def AHW:Obj:=f1 "even_about_bead" (top 63) mS9 459
def AGV:Obj:=cG "with_worths" "with_worths" 793 276 2 3 461 true .none .none (.ref 463) 796 797
def AHP:Obj:=f1 "with_worths" (top 64) mS9 464
def ACy:Obj:={ cls:=.type "tuple",data:=.seq #[.none,.none] }
def AEa:Obj:=c1 "walked" 801 284 4 3 467 814 815
def AHo:Obj:={ cls:=.type "function",dict:=none,data:=.func { name:="walked",qualname:="walked",params:=An (top 66),body:=.stmts (Ak (top 66)),scope:=Ac (top 66),globals:=3,closure:=[],defaults:=.ref 466,kwdefaults:=.none,doc:=.none,pyModule:=.str "tautcord.walks" 799,annotations:=none,code:=.ref 472,closureTuple:=.none,builtins:=0 },slots:=#[] }
def ADs:Obj:=cG "heights_of" "heights_of" 819 296 1 3 474 true .none .none (.ref 476) 822 823
def AEn:Obj:=f1 "heights_of" (top 68) ADR 477
def ACm:Obj:=c1 "mode" 825 298 3 3 479 833 834
def AEW:Obj:=f1 "mode" (top 69) ADR 484
def ADU:Obj:=c1 "show_fraction" 842 307 1 3 486 848 849
def ADp:Obj:=f1 "show_fraction" (top 73) N6 491
def AFr:Obj:=cG "show_row" "show_row" 851 313 1 3 493 true .none .none (.ref 495) 854 855
def ACi:Obj:=f1 "show_row" (top 74) N6 496
def AFP:Obj:=c1 "show_cord" 857 315 1 3 498 865 866
def AII:Obj:=f1 "show_cord" (top 75) N6 503
def ADA:Obj:=c1 "read_fraction" 868 322 1 3 505 876 877
def AE4:Obj:=f1 "read_fraction" (top 76) N6 510
def AIP:Obj:=cG "read_row" "read_row" 879 333 1 3 512 true .none .none (.ref 514) 882 883
def AFe:Obj:=f1 "read_row" (top 77) N6 515
def AEP:Obj:=cG "read_cord" "read_cord" 885 338 1 3 517 true .none .none (.ref 519) 888 889
def AIJ:Obj:=f1 "read_cord" (top 78) N6 520
def AFa:Obj:=c1 "check_text" 891 347 1 3 522 895 896
def AHS:Obj:=f1 "check_text" (top 79) N6 527
def AEV:Obj:=cG "are_figures" "are_figures" 898 350 1 3 529 true .none .none (.ref 531) 901 902
def AFs:Obj:=f1 "are_figures" (top 80) N6 532
def AFY:Obj:=c1 "without_minus" 904 354 1 3 534 908 909
def AHK:Obj:=f1 "without_minus" (top 81) N6 539
def AHN:Obj:=c1 "within_brackets" 911 358 1 3 541 915 916
def AHn:Obj:=f1 "within_brackets" (top 82) N6 546
def L_6(P:Params):List Obj:=(((L_5 P).set 3 ({ cls:=.type "dict",data:=.dict (Array.mk (AGJ P)) 82 })).set 12 ({ cls:=.none,data:=.fields (Array.mk (Z4 P)) })).append [tE,fE,tS 765 ["helds","length","upper","lower","weight"],tE,pF "even" "even" (top 61),AFI,AEq,tE,fE,tS 776 ["half","gaps","weights","middle"],tE,pF "even_about_gap" "even_about_gap" (top 62),ACo,ADn,tE,fE,tS 786 ["half","middle","gaps","weights"],tE,pF "even_about_bead" "even_about_bead" (top 63),AGS,AHW,tE,fE,pF "with_worths" "with_worths" (top 64),AGV,AHP,ACy,tE,fE,tS 804 ["cord","t","height","lean","here","leaning","weights","steps","place","gap"],tE,pF "walked" "walked" (top 66),AEa,AHo,tE,fE,pF "heights_of" "heights_of" (top 68),ADs,AEn,tE,fE,tS 828 ["cord","end","t","steps","last"],tE,pF "mode" "mode" (top 69),ACm,AEW,tE,fE,tS 845 ["one","top","bottom"],tE,pF "show_fraction" "show_fraction" (top 73),ADU,ADp,tE,fE,pF "show_row" "show_row" (top 74),AFr,ACi,tE,fE,tS 860 ["cord","gaps","words","weight","gap"],tE,pF "show_cord" "show_cord" (top 75),AFP,AII,tE,fE,tS 871 ["text","parts","top","bottom","one"],tE,pF "read_fraction" "read_fraction" (top 76),ADA,AE4,tE,fE,pF "read_row" "read_row" (top 77),AIP,AFe,tE,fE,pF "read_cord" "read_cord" (top 78),AEP,AIJ,tE,fE,tS 894 ["thing"],tE,pF "check_text" "check_text" (top 79),AFa,AHS,tE,fE,pF "are_figures" "are_figures" (top 80),AEV,AFs,tE,fE,tS 907 ["text"],tE,pF "without_minus" "without_minus" (top 81),AFY,AHK,tE,fE,tS 914 ["word"],tE,pF "within_brackets" "within_brackets" (top 82),AHN,AHn]
def ADS(P:Params):List DictEntry:=(AGJ P).append [ke P "FORMS" 990 (.ref 548)]
def AH9(P:Params):Obj:={ cls:=.type "dict",data:=.dict #[ke P "cord" 926 (.ref 549),ke P "turn" 929 (.ref 550),ke P "join" 932 (.ref 551),ke P "heavier" 936 (.ref 552),ke P "longer" 941 (.ref 553),ke P "find" 946 (.ref 554),ke P "even" 949 (.ref 555),ke P "drop" 952 (.ref 556),ke P "show" 954 (.ref 557),ke P "poly" 956 (.ref 558),ke P "count" 959 (.ref 559),ke P "span" 963 (.ref 560),ke P "mode" 968 (.ref 561),ke P "alike" 972 (.ref 562)] 14 }
def AEZ:Obj:=tS 927 ["new","cord"]
def AEp:Obj:=tS 930 ["new","name"]
def AFb:Obj:=tS 933 ["new","name","name"]
def AIB:Obj:=tS 937 ["new","name","whole","fraction"]
def ADT:Obj:=tS 942 ["new","name","whole","fraction"]
def ACY:Obj:=tS 947 ["new","two polys"]
def AGO:Obj:=tS 950 ["new","length and worths"]
def AHk:Obj:=tS 953 ["name"]
def AHd:Obj:=tS 955 ["name"]
def AHu:Obj:=tS 957 ["name","which"]
def ADF:Obj:=tS 960 ["name","end","fraction"]
def ACT:Obj:=tS 964 ["name","end","whole","halvings"]
def AEz:Obj:=tS 969 ["name","end","fraction"]
def ACf:Obj:=tS 973 ["name","name","end"]
def L_7(P:Params):List Obj:=((L_6 P).set 3 ({ cls:=.type "dict",data:=.dict (Array.mk (ADS P)) 83 })).append [AH9 P,AEZ,AEp,AFb,AIB,ADT,ACY,AGO,AHk,AHd,AHu,ADF,ACT,AEz,ACf]
def AJa(P:Params):List DictEntry:=((ADS P).set 0 (ke P "__name__" 165 (.str "tautcord.desk" 1089))).append [ke P "read_told" 996 (.ref 567),ke P "kinds_of" 1003 (.ref 574),ke P "read_thing" 1011 (.ref 581),ke P "read_name" 1017 (.ref 586),ke P "read_whole" 1025 (.ref 593),ke P "read_halvings" 1033 (.ref 600),ke P "read_choice" 1041 (.ref 607),ke P "read_some" 1049 (.ref 614),ke P "read_two_polys" 1055 (.ref 619),ke P "alike" 1066 (.ref 626),ke P "span" 1082 (.ref 633),ke P "above_all" 1088 (.ref 638),ke P "Desk" 1145 (.ref 674)]
def AAP(P:Params):List Value:=(Z4 P).append [.int 367 0,.int 0 0,.ref 566,.int 377 0,.int 0 0,.ref 573,.int 379 0,.int 0 0,.ref 580,.int 397 0,.int 0 0,.ref 585,.int 401 0,.int 0 0,.ref 592,.int 406 0,.int 0 0,.ref 599,.int 411 0,.int 0 0,.ref 606,.int 415 0,.int 0 0,.ref 613,.int 420 0,.int 0 0,.ref 618,.int 426 0,.int 0 0,.ref 625,.int 431 0,.int 0 0,.ref 632,.int 443 0,.int 0 0,.ref 637,.int 450 0,.int 0 0,.ref 644]
def AEt:Obj:=cG "read_told" "read_told" 991 367 1 3 563 true .none .none (.ref 565) 994 995
def AFy:Obj:=f1 "read_told" (top 88) RB 566
def ADP:Obj:=c1 "kinds_of" 997 377 1 3 568 1001 1002
def AGo:Obj:=f1 "kinds_of" (top 89) RB 573
def AHO:Obj:=c1 "read_thing" 1004 379 2 3 575 1009 1010
def AIH:Obj:=f1 "read_thing" (top 90) RB 580
def AGz:Obj:=cG "read_name" "read_name" 1012 397 1 3 582 true .none .none (.ref 584) 1015 1016
def AIO:Obj:=f1 "read_name" (top 91) RB 585
def AHT:Obj:=c1 "read_whole" 1018 401 1 3 587 1023 1024
def AHQ:Obj:=f1 "read_whole" (top 92) RB 592
def AHC:Obj:=c1 "read_halvings" 1026 406 1 3 594 1031 1032
def AGf:Obj:=f1 "read_halvings" (top 93) RB 599
def AEk:Obj:=c1 "read_choice" 1034 411 2 3 601 1039 1040
def ACS:Obj:=f1 "read_choice" (top 94) RB 606
def AGu:Obj:=c1 "read_some" 1042 415 1 3 608 1047 1048
def ACg:Obj:=f1 "read_some" (top 95) RB 613
def AEf:Obj:=cG "read_two_polys" "read_two_polys" 1050 420 1 3 615 true .none .none (.ref 617) 1053 1054
def AGy:Obj:=f1 "read_two_polys" (top 96) RB 618
def AEJ:Obj:=c1 "alike" 1058 426 3 3 620 1064 1065
def AHs:Obj:=f1 "alike" (top 98) AIv 625
def AEv:Obj:=c1 "span" 1069 431 4 3 627 1080 1081
def AHr:Obj:=f1 "span" (top 100) AGg 632
def AFq:Obj:=cG "above_all" "above_all" 1083 443 1 3 634 true .none .none (.ref 636) 1086 1087
def AFW:Obj:=f1 "above_all" (top 101) AGg 637
def AGr:Obj:=cO "__init__" "Desk.__init__" 1103 452 1 3 646 1107 1108
def AFz:Obj:=fo "__init__" "Desk.__init__" (BV (top 103) 0) SM 651
def AFM:Obj:=cO "say" "Desk.say" 1110 455 2 3 653 1120 1121
def ACe:Obj:=fo "say" "Desk.say" (BV (top 103) 1) SM 658
def AIA:Obj:=cG "with_cords" "Desk.with_cords" 1123 469 3 3 660 true .none .none (.ref 662) 1126 1127
def AGs:Obj:=fo "with_cords" "Desk.with_cords" (BV (top 103) 2) SM 663
def AIG:Obj:=cO "cord_by" "Desk.cord_by" 1129 472 2 3 665 1134 1135
def ADx:Obj:=fo "cord_by" "Desk.cord_by" (BV (top 103) 3) SM 670
def ADg:Obj:=tS 1137 ["kept"]
def AHt(P:Params):Obj:={ cls:=.type "dict",data:=.dict #[ke P "__module__" 1098 (.str "tautcord.desk" 1089),ke P "__firstlineno__" 1102 (.int 450 1101),ke P "__init__" 1109 (.ref 652),ke P "say" 1122 (.ref 659),ke P "with_cords" 1128 (.ref 664),ke P "cord_by" 1136 (.ref 671),ke P "__static_attributes__" 1138 (.ref 672),ke P "__dict__" 1140 (.ref 675),ke P "__weakref__" 1142 (.ref 676),ke P "__doc__" 1143 .none] 4 }
def AH2:Obj:={ cls:=.type "type",data:=.cls { name:="Desk",bases:=[.type "object"],mro:=[.ref 674,.type "object"],ns:=673,qualname:="Desk" },slots:=#[none,none,some (.str "Desk" 1091),some (.str "Desk" 1099),some (.builtin "object.__new__"),some (.bool Bool.true)] }
def AFx:Obj:={ cls:=.type "getset_descriptor",data:=.fields #[.str "__dict__" 1139,.ref 674,.builtin "function.__dict__",.builtin "function.__dict__#set"] }
def AHw:Obj:={ cls:=.type "getset_descriptor",data:=.fields #[.str "__weakref__" 1141,.ref 674,.builtin "ExceptionGroup.__weakref__",.none] }
def L_8(P:Params):List Obj:=(((L_7 P).set 3 ({ cls:=.type "dict",data:=.dict (Array.mk (AJa P)) 96 })).set 12 ({ cls:=.none,data:=.fields (Array.mk (AAP P)) })).append [tE,fE,pF "read_told" "read_told" (top 88),AEt,AFy,tE,fE,tS 1000 ["deed"],tE,pF "kinds_of" "kinds_of" (top 89),ADP,AGo,tE,fE,tS 1007 ["kind","text"],tE,pF "read_thing" "read_thing" (top 90),AHO,AIH,tE,fE,pF "read_name" "read_name" (top 91),AGz,AIO,tE,fE,tS 1021 ["text","one"],tE,pF "read_whole" "read_whole" (top 92),AHT,AHQ,tE,fE,tS 1029 ["text","halvings"],tE,pF "read_halvings" "read_halvings" (top 93),AHC,AGf,tE,fE,tS 1037 ["text","choices"],tE,pF "read_choice" "read_choice" (top 94),AEk,ACS,tE,fE,tS 1045 ["text","row"],tE,pF "read_some" "read_some" (top 95),AGu,ACg,tE,fE,pF "read_two_polys" "read_two_polys" (top 96),AEf,AGy,tE,fE,tS 1061 ["one","other","end"],tE,pF "alike" "alike" (top 98),AEJ,AHs,tE,fE,tS 1072 ["cord","end","k","halvings","low","high","halving","middle"],tE,pF "span" "span" (top 100),AEv,AHr,tE,fE,pF "above_all" "above_all" (top 101),AFq,AFW,tE,{ cls:=.type "builtin_function_or_method",data:=.fields #[.builtin "type.__prepare__",.type "type"] },{ cls:=.type "dict",data:=.dict #[ke P "__module__" 1098 (.str "tautcord.desk" 1089),ke P "__qualname__" 1100 (.str "Desk" 1099),ke P "__firstlineno__" 1102 (.int 450 1101),ke P "__init__" 1109 (.ref 652),ke P "say" 1122 (.ref 659),ke P "with_cords" 1128 (.ref 664),ke P "cord_by" 1136 (.ref 671),ke P "__static_attributes__" 1138 (.ref 672)] 8 },tE,{ cls:=.none,data:=.fields #[.int 452 0,.int 4 0,.ref 651,.int 455 0,.int 4 0,.ref 658,.int 469 0,.int 4 0,.ref 663,.int 472 0,.int 4 0,.ref 670] },cG "Desk" "Desk" 1093 450 0 0 642 false .none .none .none 1096 1097,{ cls:=.type "frame",slots:=#[some (.ref 644),some (.ref 3),some (.ref 641),none,some (.str "tautcord.desk" 1089),none,some (.ref 0)] },tE,fE,tS 1106 ["self"],tE,pF "__init__" "Desk.__init__" (BV (top 103) 0),AGr,AFz,tE,fE,tS 1113 ["self","row","order","deed","told","things","cord"],tE,pF "say" "Desk.say" (BV (top 103) 1),AFM,ACe,tE,fE,pF "with_cords" "Desk.with_cords" (BV (top 103) 2),AIA,AGs,tE,fE,tS 1132 ["self","name"],tE,pF "cord_by" "Desk.cord_by" (BV (top 103) 3),AIG,ADx,ADg,AHt P,AH2,AFx,AHw,{ cls:=.type "super",data:=.fields #[.ref 674,.ref 674,.ref 674] },{ cls:=.type "builtin_function_or_method",data:=.fields #[.builtin "object.__init_subclass__",.ref 674] }]
def u3(P:Params):Obj:={ cls:=.type "dict",data:=.dict #[ke P "__name__" 165 (.str "law_tautcord_k84_a_desk_of_cords" 1181),ke P "__doc__" 166 .none,ke P "__package__" 167 .none,ke P "__loader__" 168 (.builtin "__main__.__loader__#opaque"),ke P "__spec__" 169 .none,ke P "__annotations__" 170 (.ref 6),ke P "__builtins__" 171 (.ref 4),ke P "__file__" 173 (.str "/claim/cut.py" 172),ke P "__cached__" 174 .none,ke P "CordError" 206 (.ref 24),ke P "NoFraction" 222 (.ref 37),ke P "NoCord" 247 (.ref 56),ke P "NoWorth" 263 (.ref 68),ke P "NoBead" 279 (.ref 80),ke P "NoText" 295 (.ref 92),ke P "NoName" 311 (.ref 104),ke P "is_whole" 320 (.ref 113),ke P "divisor" 331 (.ref 120),ke P "is_fraction" 340 (.ref 127),ke P "fraction" 350 (.ref 135),ke P "plus" 361 (.ref 142),ke P "minus" 369 (.ref 149),ke P "times" 379 (.ref 156),ke P "over" 387 (.ref 163),ke P "is_under" 395 (.ref 170),ke P "side" 402 (.ref 177),ke P "is_rising" 411 (.ref 184),ke P "MOST_BEADS" 415 (.int 12 414),ke P "is_row_above" 421 (.ref 189),ke P "Cord" 489 (.ref 241),ke P "heavier" 500 (.ref 252),ke P "longer" 509 (.ref 259),ke P "joined" 520 (.ref 266),ke P "check_bead" 528 (.ref 273),ke P "with_more" 537 (.ref 280),ke P "signs" 545 (.ref 285),ke P "turns" 551 (.ref 290),ke P "worths_below" 560 (.ref 297),ke P "up_to" 570 (.ref 304),ke P "row_at" 586 (.ref 311),ke P "poly" 596 (.ref 318),ke P "figure_at" 604 (.ref 325),ke P "poly_plus" 610 (.ref 330),ke P "poly_minus" 616 (.ref 335),ke P "scaled" 622 (.ref 340),ke P "shared_bottom" 631 (.ref 347),ke P "whole_figures" 637 (.ref 352),ke P "whole_times" 650 (.ref 359),ke P "ladder" 666 (.ref 366),ke P "over_one_bottom" 674 (.ref 373),ke P "quotient_at" 686 (.ref 380),ke P "rest_of" 692 (.ref 385),ke P "in_lowest_terms" 698 (.ref 390),ke P "held" 707 (.ref 397),ke P "loose" 714 (.ref 404),ke P "near" 721 (.ref 411),ke P "free" 728 (.ref 418),ke P "ends" 742 (.ref 425),ke P "times_number" 749 (.ref 432),ke P "cord_with" 761 (.ref 439),ke P "even" 772 (.ref 446),ke P "even_about_gap" 782 (.ref 453),ke P "even_about_bead" 792 (.ref 460),ke P "with_worths" 798 (.ref 465),ke P "walked" 816 (.ref 473),ke P "heights_of" 824 (.ref 478),ke P "mode" 835 (.ref 485),ke P "FIGURES" 839 (.str "0123456789" 838),ke P "MOST_FIGURES" 841 (.int 30 840),ke P "show_fraction" 850 (.ref 492),ke P "show_row" 856 (.ref 497),ke P "show_cord" 867 (.ref 504),ke P "read_fraction" 878 (.ref 511),ke P "read_row" 884 (.ref 516),ke P "read_cord" 890 (.ref 521),ke P "check_text" 897 (.ref 528),ke P "are_figures" 903 (.ref 533),ke P "without_minus" 910 (.ref 540),ke P "within_brackets" 917 (.ref 547),ke P "LETTERS" 921 (.str "abcdefghijklmnopqrstuvwxyz" 920),ke P "LONGEST_NAME" 923 (.int 8 922),ke P "MOST_HALVINGS" 925 (.int 60 924),ke P "FORMS" 990 (.ref 548),ke P "read_told" 996 (.ref 567),ke P "kinds_of" 1003 (.ref 574),ke P "read_thing" 1011 (.ref 581),ke P "read_name" 1017 (.ref 586),ke P "read_whole" 1025 (.ref 593),ke P "read_halvings" 1033 (.ref 600),ke P "read_choice" 1041 (.ref 607),ke P "read_some" 1049 (.ref 614),ke P "read_two_polys" 1055 (.ref 619),ke P "alike" 1066 (.ref 626),ke P "span" 1082 (.ref 633),ke P "above_all" 1088 (.ref 638),ke P "Desk" 1145 (.ref 674),ke P "made" 1153 (.ref 685),ke P "answer" 1161 (.ref 692),ke P "tone" 1169 (.ref 699),ke P "counted" 1180 (.ref 706),ke P "_law_cell_at" 1190 (.ref 713),ke P "_law_low" 1201 (.ref 720),ke P "_law_plus" 1209 (.ref 727),ke P "_law_text" 1216 (.ref 734),ke P "_law_shown" 1227 (.ref 741),ke P "_law_say" 1238 (.ref 748),ke P "_law_name" 1244 (.ref 753),ke P "_law_twelfths" 1256 (.ref 760),ke P "_law_made" 1265 (.ref 767),ke P "_law_more" 1279 (.ref 774),ke P "_law_joined" 1290 (.ref 781),ke P "_law_turned" 1296 (.ref 786),ke P "_law_row" 1302 (.ref 791),ke P "_law_step" 1316 (.ref 798),ke P "law" 1322 (.ref 803)] 115 }
def AHM(P:Params):List Value:=(AAP P).append [.int 476 0,.int 0 0,.ref 684,.int 490 0,.int 0 0,.ref 691,.int 502 0,.int 0 0,.ref 698,.int 510 0,.int 0 0,.ref 705,.int 515 0,.int 0 0,.ref 712,.int 519 0,.int 0 0,.ref 719,.int 529 0,.int 0 0,.ref 726,.int 531 0,.int 0 0,.ref 733,.int 535 0,.int 0 0,.ref 740,.int 542 0,.int 0 0,.ref 747,.int 557 0,.int 0 0,.ref 752,.int 566 0,.int 0 0,.ref 759,.int 576 0,.int 0 0,.ref 766,.int 580 0,.int 0 0,.ref 773,.int 593 0,.int 0 0,.ref 780,.int 601 0,.int 0 0,.ref 785,.int 606 0,.int 0 0,.ref 790,.int 624 0,.int 0 0,.ref 797,.int 637 0,.int 0 0,.ref 802]
def AIF:Obj:=c1 "made" 1146 476 2 3 679 1151 1152
def AHZ:Obj:=f1 "made" (top 104) SM 684
def AFw:Obj:=c1 "answer" 1154 490 2 3 686 1159 1160
def AGh:Obj:=f1 "answer" (top 105) SM 691
def AD1:Obj:=c1 "tone" 1162 502 2 3 693 1167 1168
def ACu:Obj:=f1 "tone" (top 106) SM 698
def AGU:Obj:=c1 "counted" 1170 510 3 3 700 1178 1179
def ADL:Obj:=f1 "counted" (top 107) SM 705
def ADl:Obj:=c1 "_law_cell_at" 1183 515 2 3 707 1188 1189
def AGa:Obj:=f1 "_law_cell_at" (top 109) JD 712
def AHj:Obj:=c1 "_law_low" 1191 519 2 3 714 1199 1200
def ADB:Obj:=f1 "_law_low" (top 110) JD 719
def ADh:Obj:=c1 "_law_plus" 1202 529 2 3 721 1207 1208
def AGe:Obj:=f1 "_law_plus" (top 111) JD 726
def AEH:Obj:=c1 "_law_text" 1210 531 1 3 728 1214 1215
def AHx:Obj:=f1 "_law_text" (top 112) JD 733
def AHY:Obj:=c1 "_law_shown" 1217 535 1 3 735 1225 1226
def AFR:Obj:=f1 "_law_shown" (top 113) JD 740
def AFL:Obj:=c1 "_law_say" 1228 542 2 3 742 1236 1237
def AGT:Obj:=f1 "_law_say" (top 114) JD 747
def ADN:Obj:=cG "_law_name" "_law_name" 1239 557 2 3 749 true .none .none (.ref 751) 1242 1243
def AGH:Obj:=f1 "_law_name" (top 115) JD 752
def AHV:Obj:=c1 "_law_twelfths" 1245 566 2 3 754 1254 1255
def AIQ:Obj:=f1 "_law_twelfths" (top 116) JD 759
def ADe:Obj:=c1 "_law_made" 1257 576 1 3 761 1263 1264
def AFN:Obj:=f1 "_law_made" (top 117) JD 766
def AGb:Obj:=c1 "_law_more" 1266 580 5 3 768 1277 1278
def AGX:Obj:=f1 "_law_more" (top 118) JD 773
def AF4:Obj:=c1 "_law_joined" 1280 593 3 3 775 1288 1289
def ADC:Obj:=f1 "_law_joined" (top 119) JD 780
def AIL:Obj:=cG "_law_turned" "_law_turned" 1291 601 2 3 782 true .none .none (.ref 784) 1294 1295
def AHD:Obj:=f1 "_law_turned" (top 120) JD 785
def ACk:Obj:=cG "_law_row" "_law_row" 1297 606 3 3 787 true .none .none (.ref 789) 1300 1301
def ACd:Obj:=f1 "_law_row" (top 121) JD 790
def AF7:Obj:=c1 "_law_step" 1303 624 4 3 792 1314 1315
def ACV:Obj:=f1 "_law_step" (top 122) JD 797
def AGP:Obj:=cG "law" "law" 1317 637 1 3 799 true .none .none (.ref 801) 1320 1321
def AHJ:Obj:=f1 "law" (top 123) JD 802
def L_9(P:Params):List Obj:=(((L_8 P).set 3 (u3 P)).set 12 ({ cls:=.none,data:=.fields (Array.mk (AHM P)) })).append [tE,fE,tS 1149 ["deed","things"],tE,pF "made" "made" (top 104),AIF,AHZ,tE,fE,tS 1157 ["deed","things"],tE,pF "answer" "answer" (top 105),AFw,AGh,tE,fE,tS 1165 ["cord","which"],tE,pF "tone" "tone" (top 106),AD1,ACu,tE,fE,tS 1173 ["cord","end","t","below","most"],tE,pF "counted" "counted" (top 107),AGU,ADL,tE,fE,tS 1186 ["_law_script","_law_k"],tE,pF "_law_cell_at" "_law_cell_at" (top 109),ADl,AGa,tE,fE,tS 1194 ["_law_top","_law_bottom","_law_one","_law_other","_law_rest"],tE,pF "_law_low" "_law_low" (top 110),AHj,ADB,tE,fE,tS 1205 ["_law_one","_law_other"],tE,pF "_law_plus" "_law_plus" (top 111),ADh,AGe,tE,fE,tS 1213 ["_law_one"],tE,pF "_law_text" "_law_text" (top 112),AEH,AHx,tE,fE,tS 1220 ["_law_cord","_law_gaps","_law_weights","_law_words","_law_k"],tE,pF "_law_shown" "_law_shown" (top 113),AHY,AFR,tE,fE,tS 1231 ["_law_desk","_law_row_here","_law_answer","e","_law_kinds"],tE,pF "_law_say" "_law_say" (top 114),AFL,AGT,tE,fE,pF "_law_name" "_law_name" (top 115),ADN,AGH,tE,fE,tS 1248 ["_law_cell","_law_many","_law_row_here","_law_rest","_law_k","_law_part"],tE,pF "_law_twelfths" "_law_twelfths" (top 116),AHV,AIQ,tE,fE,tS 1260 ["_law_rest","_law_beads","_law_row_here"],tE,pF "_law_made" "_law_made" (top 117),ADe,AFN,tE,fE,tS 1269 ["_law_book","_law_words","_law_old","_law_place","_law_more_here","_law_gaps","_law_weights","_law_row_here"],tE,pF "_law_more" "_law_more" (top 118),AGb,AGX,tE,fE,tS 1283 ["_law_book","_law_one","_law_other","_law_gaps","_law_weights"],tE,pF "_law_joined" "_law_joined" (top 119),AF4,ADC,tE,fE,pF "_law_turned" "_law_turned" (top 120),AIL,AHD,tE,fE,pF "_law_row" "_law_row" (top 121),ACk,ACd,tE,fE,tS 1306 ["_law_desk","_law_book","_law_names","_law_cell","_law_row_here","_law_due","_law_new","_law_answer"],tE,pF "_law_step" "_law_step" (top 122),AF7,ACV,tE,fE,pF "law" "law" (top 123),AGP,AHJ]
def L_f(P:Params):List Obj:=L_9 P
def AJh(P:Params):BT:=bld 12 (L_b P)
def AJf(P:Params):BT:=bld 12 (L_1 P)
def AJD(P:Params):BT:=bld 12 (L_2 P)
def AIn(P:Params):BT:=bld 12 (L_3 P)
def AJL(P:Params):BT:=bld 12 (L_4 P)
def AJn(P:Params):BT:=bld 12 (L_5 P)
def AIo(P:Params):BT:=bld 12 (L_6 P)
def AJS(P:Params):BT:=bld 12 (L_7 P)
def AJc(P:Params):BT:=bld 12 (L_8 P)
def AJI(P:Params):BT:=bld 12 (L_9 P)
def ha(P:Params):Heap:=⟨Array.mk (L_a P),{}⟩
abbrev ABz(w:World)(os:OsState):SharedT:=⟨AJh w.params,15,{},Array.mk [],{},187,os⟩
abbrev AGG(w:World)(os:OsState):SharedT:=⟨AJf w.params,59,{},Array.mk [],{},248,os⟩
def l_1:List Stmt:=(bE.drop 0).take 4
abbrev AGR(w:World)(os:OsState):SharedT:=⟨AJD w.params,95,{},Array.mk [],{},296,os⟩
def l_2:List Stmt:=(bE.drop 4).take 3
abbrev AHz(w:World)(os:OsState):SharedT:=⟨AIn w.params,190,{},Array.mk [],{},422,os⟩
def l_3:List Stmt:=(bE.drop 7).take 17
abbrev AHe(w:World)(os:OsState):SharedT:=⟨AJL w.params,305,{},Array.mk [],{},571,os⟩
def l_4:List Stmt:=(bE.drop 24).take 12
abbrev AD7(w:World)(os:OsState):SharedT:=⟨AJn w.params,440,{},Array.mk [],{},762,os⟩
def l_5:List Stmt:=(bE.drop 36).take 25
abbrev YT(w:World)(os:OsState):SharedT:=⟨AIo w.params,548,{},Array.mk [],{},926,os⟩
def l_6:List Stmt:=(bE.drop 61).take 26
abbrev Xn(w:World)(os:OsState):SharedT:=⟨AJS w.params,563,{},Array.mk [],{},991,os⟩
def l_7:List Stmt:=(bE.drop 87).take 1
abbrev AGv(w:World)(os:OsState):SharedT:=⟨AJc w.params,679,{},Array.mk [],{},1146,os⟩
def l_8:List Stmt:=(bE.drop 88).take 16
abbrev AEb(w:World)(os:OsState):SharedT:=⟨AJI w.params,804,{},Array.mk [],{},1323,os⟩
def l_9:List Stmt:=(bE.drop 104).take 20
def hf(P:Params):Heap:=⟨Array.mk (L_f P),{}⟩
theorem AFJ(w:World)(os:OsState):topGo treeTable tp w 11 (some (.ref 6)) 12 ⟨boot_heap w.params,Array.mk [],boot_drawn,boot_toks,os⟩ (topStub tp)=some (⟨ha w.params,Array.mk [],{},187,os⟩,Thread.mk (denote treeTable cE) cE ⟨0,0,0,0⟩ [topFrame ⟨0,0,0,0⟩]):=by kernel_rfl
theorem AF2(w:World)(os:OsState):segRun treeTable tp w 11 (some (.ref 6)) 1 1 ⟨ha w.params,Array.mk [],{},187,os⟩ (blockOf bE eE cE ⟨0,0,0,0⟩ [topFrame ⟨0,0,0,0⟩])=some (.next,(ABz w os).abs,cE,⟨0,0,0,0⟩):=by kernel_rfl
theorem t_1(w:World)(os:OsState):segRunT treeTable tp w 11 (some (.ref 6)) 1 654 (ABz w os) (piecesOf l_1 eE cE ⟨0,0,0,0⟩ [topFrame ⟨0,0,0,0⟩])=some (.next,AGG w os,cE,⟨6,0,9,26⟩):=by kernel_rfl
theorem t_2(w:World)(os:OsState):segRunT treeTable tp w 11 (some (.ref 6)) 1 640 (AGG w os) (piecesOf l_2 eE cE ⟨6,0,9,26⟩ [topFrame ⟨0,0,0,0⟩])=some (.next,AGR w os,cE,⟨14,0,15,8⟩):=by kernel_rfl
theorem t_3(w:World)(os:OsState):segRunT treeTable tp w 11 (some (.ref 6)) 1 615 (AGR w os) (piecesOf l_3 eE cE ⟨14,0,15,8⟩ [topFrame ⟨0,0,0,0⟩])=some (.next,AHz w os,cE,⟨77,0,80,73⟩):=by kernel_rfl
theorem t_4(w:World)(os:OsState):segRunT treeTable tp w 11 (some (.ref 6)) 1 671 (AHz w os) (piecesOf l_4 eE cE ⟨77,0,80,73⟩ [topFrame ⟨0,0,0,0⟩])=some (.next,AHe w os,cE,⟨136,0,140,21⟩):=by kernel_rfl
theorem t_5(w:World)(os:OsState):segRunT treeTable tp w 11 (some (.ref 6)) 1 670 (AHe w os) (piecesOf l_5 eE cE ⟨136,0,140,21⟩ [topFrame ⟨0,0,0,0⟩])=some (.next,AD7 w os,cE,⟨249,0,254,40⟩):=by kernel_rfl
theorem t_6(w:World)(os:OsState):segRunT treeTable tp w 11 (some (.ref 6)) 1 591 (AD7 w os) (piecesOf l_6 eE cE ⟨249,0,254,40⟩ [topFrame ⟨0,0,0,0⟩])=some (.next,YT w os,cE,⟨365,0,365,13⟩):=by kernel_rfl
theorem V8(w:World)(os:OsState):segRunT treeTable tp (w.withFollow "special-get-raises" false) 11 (some (.ref 6)) 1 331 (YT (w.withFollow "special-get-raises" false) os) (piecesOf l_7 eE cE ⟨365,0,365,13⟩ [topFrame ⟨0,0,0,0⟩])=some (.next,Xn (w.withFollow "special-get-raises" false) os,cE,⟨366,0,366,5⟩):=by kernel_rfl
theorem W7(w:World)(os:OsState):segRunT treeTable tp (w.withFollow "special-get-raises" true) 11 (some (.ref 6)) 1 331 (YT (w.withFollow "special-get-raises" true) os) (piecesOf l_7 eE cE ⟨365,0,365,13⟩ [topFrame ⟨0,0,0,0⟩])=some (.next,Xn (w.withFollow "special-get-raises" true) os,cE,⟨366,0,366,5⟩):=by kernel_rfl
theorem t_7(w:World)(os:OsState):segRunT treeTable tp w 11 (some (.ref 6)) 1 331 (YT w os) (piecesOf l_7 eE cE ⟨365,0,365,13⟩ [topFrame ⟨0,0,0,0⟩])=some (.next,Xn w os,cE,⟨366,0,366,5⟩):=byRow2 "special-get-raises" (P:=fun w=>segRunT treeTable tp w 11 (some (.ref 6)) 1 331 (YT w os) (piecesOf l_7 eE cE ⟨365,0,365,13⟩ [topFrame ⟨0,0,0,0⟩])=some (.next,Xn w os,cE,⟨366,0,366,5⟩)) (fun w=>V8 w os) (fun w=>W7 w os) w
theorem t_8(w:World)(os:OsState):segRunT treeTable tp w 11 (some (.ref 6)) 1 696 (Xn w os) (piecesOf l_8 eE cE ⟨366,0,366,5⟩ [topFrame ⟨0,0,0,0⟩])=some (.next,AGv w os,cE,⟨450,0,475,30⟩):=by kernel_rfl
theorem t_9(w:World)(os:OsState):segRunT treeTable tp w 11 (some (.ref 6)) 1 595 (AGv w os) (piecesOf l_9 eE cE ⟨450,0,475,30⟩ [topFrame ⟨0,0,0,0⟩])=some (.next,AEb w os,cE,⟨637,0,648,15⟩):=by kernel_rfl
theorem AGj(w:World)(os:OsState):topRun treeTable tp w 11 (some (.ref 6)) 2 (AEb w os).abs ⟨doneF .next,cE,⟨637,0,648,15⟩,[topFrame ⟨0,0,0,0⟩]⟩=some ⟨hf w.params,Array.mk [],{},1323,os⟩:=by kernel_rfl
theorem AHl:l_1++(l_2++(l_3++(l_4++(l_5++(l_6++(l_7++(l_8++(l_9++([])))))))))=bE:=by kernel_rfl
theorem AIp(w:World)(os:OsState):topRun treeTable tp w 11 (some (.ref 6)) (654+(640+(615+(671+(670+(591+(331+(696+(595+(2)))))))))) (ABz w os).abs (restOf (l_1++(l_2++(l_3++(l_4++(l_5++(l_6++(l_7++(l_8++(l_9++([])))))))))) eE cE ⟨0,0,0,0⟩ [topFrame ⟨0,0,0,0⟩])=some ⟨hf w.params,Array.mk [],{},1323,os⟩:=piece_app (segRun_of (t_1 w os)) (piece_app (segRun_of (t_2 w os)) (piece_app (segRun_of (t_3 w os)) (piece_app (segRun_of (t_4 w os)) (piece_app (segRun_of (t_5 w os)) (piece_app (segRun_of (t_6 w os)) (piece_app (segRun_of (t_7 w os)) (piece_app (segRun_of (t_8 w os)) (piece_app (segRun_of (t_9 w os)) (piece_nil (AGj w os))))))))))
theorem run(w:World)(os:OsState):topRun treeTable tp w 11 (some (.ref 6)) (12+(1+(654+(640+(615+(671+(670+(591+(331+(696+(595+(2)))))))))))) ⟨boot_heap w.params,Array.mk [],boot_drawn,boot_toks,os⟩ (topStub tp)=some ⟨hf w.params,Array.mk [],{},1323,os⟩:=by
 have k:=AIp w os
 rw [AHl] at k
 exact go_top (AFJ w os) (piece_block (AF2 w os) k)
def KK(P:Params):Frag :=
 (nat_lit 2,boot_o_2 P)::(nat_lit 3,u3 P)::(nat_lit 22,u22)::(nat_lit 23,u23 P)::(nat_lit 24,u24)::(nat_lit 25,u25)::(nat_lit 35,u35)::(nat_lit 36,u36 P)::(nat_lit 37,u37)::(nat_lit 52,u52)::(nat_lit 53,u53)::(nat_lit 54,u54)::(nat_lit 55,u55 P)::(nat_lit 56,u56)::(nat_lit 66,u66)::(nat_lit 67,u67 P)::(nat_lit 68,u68)::(nat_lit 78,u78)::(nat_lit 79,u79 P)::(nat_lit 80,u80)::(nat_lit 90,u90)::(nat_lit 91,u91 P)::(nat_lit 92,u92)::(nat_lit 102,ACt)::(nat_lit 103,ACx P)::(nat_lit 104,AHA)::(nat_lit 112,ACw)::(nat_lit 113,AH7)::(nat_lit 119,AGi)::(nat_lit 120,AFk)::(nat_lit 126,AFG)::(nat_lit 127,AGF)::(nat_lit 128,AHy)::(nat_lit 134,AEI)::(nat_lit 135,AEu)::(nat_lit 141,AHR)::(nat_lit 142,AFX)::(nat_lit 148,AHc)::(nat_lit 149,ADr)::(nat_lit 155,AHp)::(nat_lit 156,AEO)::(nat_lit 162,AFH)::(nat_lit 163,ADW)::(nat_lit 169,AEl)::(nat_lit 170,AG4)::(nat_lit 176,AHI)::(nat_lit 177,AGW)::(nat_lit 183,ADE)::(nat_lit 184,AHL)::(nat_lit 188,AFm)::(nat_lit 189,AFd)::(nat_lit 202,AHh)::(nat_lit 203,ADc)::(nat_lit 209,AG0)::(nat_lit 210,AGC)::(nat_lit 216,AGN)::(nat_lit 217,ACR)::(nat_lit 223,ACp)::(nat_lit 224,ACb)::(nat_lit 230,ACX)::(nat_lit 231,AFh)::(nat_lit 237,AGx)::(nat_lit 238,AF3)::(nat_lit 239,AGD)::(nat_lit 240,AHq P)::(nat_lit 241,AEs)::(nat_lit 242,AH6)::(nat_lit 243,ACQ)::(nat_lit 251,ADz)::(nat_lit 252,AFQ)::(nat_lit 258,AHU)::(nat_lit 259,AG7)::(nat_lit 265,ADJ)::(nat_lit 266,ADy)::(nat_lit 272,AHv)::(nat_lit 273,ADd)::(nat_lit 279,AD2)::(nat_lit 280,AD5)::(nat_lit 284,ADo)::(nat_lit 285,AEr)::(nat_lit 289,AGd)::(nat_lit 290,AEj)::(nat_lit 296,AEh)::(nat_lit 297,AG5)::(nat_lit 303,ADX)::(nat_lit 304,ADQ)::(nat_lit 310,AIC)::(nat_lit 311,ADG)::(nat_lit 317,AHi)::(nat_lit 318,AGL)::(nat_lit 324,AGw)::(nat_lit 325,AHG)::(nat_lit 329,AGA)::(nat_lit 330,AG6)::(nat_lit 334,AFt)::(nat_lit 335,AHE)::(nat_lit 339,ADf)::(nat_lit 340,AEe)::(nat_lit 346,AC6)::(nat_lit 347,AEm)::(nat_lit 351,AEo)::(nat_lit 352,AF5)::(nat_lit 358,AFZ)::(nat_lit 359,AFc)::(nat_lit 365,ADH)::(nat_lit 366,AFo)::(nat_lit 372,AE5)::(nat_lit 373,ACv)::(nat_lit 379,AFK)::(nat_lit 380,AFu)::(nat_lit 384,AHg)::(nat_lit 385,AHb)::(nat_lit 389,ADZ)::(nat_lit 390,AGq)::(nat_lit 396,AGB)::(nat_lit 397,ACW)::(nat_lit 403,AHf)::(nat_lit 404,AD3)::(nat_lit 410,AHX)::(nat_lit 411,AD4)::(nat_lit 417,AIS)::(nat_lit 418,AEQ)::(nat_lit 424,AF8)::(nat_lit 425,ACc)::(nat_lit 431,AG8)::(nat_lit 432,ACl)::(nat_lit 438,AH0)::(nat_lit 439,AD6)::(nat_lit 445,AFI)::(nat_lit 446,AEq)::(nat_lit 452,ACo)::(nat_lit 453,ADn)::(nat_lit 459,AGS)::(nat_lit 460,AHW)::(nat_lit 464,AGV)::(nat_lit 465,AHP)::(nat_lit 466,ACy)::(nat_lit 472,AEa)::(nat_lit 473,AHo)::(nat_lit 477,ADs)::(nat_lit 478,AEn)::(nat_lit 484,ACm)::(nat_lit 485,AEW)::(nat_lit 491,ADU)::(nat_lit 492,ADp)::(nat_lit 496,AFr)::(nat_lit 497,ACi)::(nat_lit 503,AFP)::(nat_lit 504,AII)::(nat_lit 510,ADA)::(nat_lit 511,AE4)::(nat_lit 515,AIP)::(nat_lit 516,AFe)::(nat_lit 520,AEP)::(nat_lit 521,AIJ)::(nat_lit 527,AFa)::(nat_lit 528,AHS)::(nat_lit 532,AEV)::(nat_lit 533,AFs)::(nat_lit 539,AFY)::(nat_lit 540,AHK)::(nat_lit 546,AHN)::(nat_lit 547,AHn)::(nat_lit 548,AH9 P)::(nat_lit 549,AEZ)::(nat_lit 550,AEp)::(nat_lit 551,AFb)::(nat_lit 552,AIB)::(nat_lit 553,ADT)::(nat_lit 554,ACY)::(nat_lit 555,AGO)::(nat_lit 556,AHk)::(nat_lit 557,AHd)::(nat_lit 558,AHu)::(nat_lit 559,ADF)::(nat_lit 560,ACT)::(nat_lit 561,AEz)::(nat_lit 562,ACf)::(nat_lit 566,AEt)::(nat_lit 567,AFy)::(nat_lit 573,ADP)::(nat_lit 574,AGo)::(nat_lit 580,AHO)::(nat_lit 581,AIH)::(nat_lit 585,AGz)::(nat_lit 586,AIO)::(nat_lit 592,AHT)::(nat_lit 593,AHQ)::(nat_lit 599,AHC)::(nat_lit 600,AGf)::(nat_lit 606,AEk)::(nat_lit 607,ACS)::(nat_lit 613,AGu)::(nat_lit 614,ACg)::(nat_lit 618,AEf)::(nat_lit 619,AGy)::(nat_lit 625,AEJ)::(nat_lit 626,AHs)::(nat_lit 632,AEv)::(nat_lit 633,AHr)::(nat_lit 637,AFq)::(nat_lit 638,AFW)::(nat_lit 651,AGr)::(nat_lit 652,AFz)::(nat_lit 658,AFM)::(nat_lit 659,ACe)::(nat_lit 663,AIA)::(nat_lit 664,AGs)::(nat_lit 670,AIG)::(nat_lit 671,ADx)::(nat_lit 672,ADg)::(nat_lit 673,AHt P)::(nat_lit 674,AH2)::(nat_lit 675,AFx)::(nat_lit 676,AHw)::(nat_lit 684,AIF)::(nat_lit 685,AHZ)::(nat_lit 691,AFw)::(nat_lit 692,AGh)::(nat_lit 698,AD1)::(nat_lit 699,ACu)::(nat_lit 705,AGU)::(nat_lit 706,ADL)::(nat_lit 712,ADl)::(nat_lit 713,AGa)::(nat_lit 719,AHj)::(nat_lit 720,ADB)::(nat_lit 726,ADh)::(nat_lit 727,AGe)::(nat_lit 733,AEH)::(nat_lit 734,AHx)::(nat_lit 740,AHY)::(nat_lit 741,AFR)::(nat_lit 747,AFL)::(nat_lit 748,AGT)::(nat_lit 752,ADN)::(nat_lit 753,AGH)::(nat_lit 759,AHV)::(nat_lit 760,AIQ)::(nat_lit 766,ADe)::(nat_lit 767,AFN)::(nat_lit 773,AGb)::(nat_lit 774,AGX)::(nat_lit 780,AF4)::(nat_lit 781,ADC)::(nat_lit 785,AIL)::(nat_lit 786,AHD)::(nat_lit 790,ACk)::(nat_lit 791,ACd)::(nat_lit 797,AF7)::(nat_lit 798,ACV)::(nat_lit 802,AGP)::(nat_lit 803,AHJ)::[]
theorem AGn(P:Params):[2,3,22,23,24,25,35,36,37,52,53,54,55,56,66,67,68,78,79,80,90,91,92,102,103,104,112,113,119,120,126,127,128,134,135,141,142,148,149,155,156,162,163,169,170,176,177,183,184,188,189,202,203,209,210,216,217,223,224,230,231,237,238,239,240,241,242,243,251,252,258,259,265,266,272,273,279,280,284,285,289,290,296,297,303,304,310,311,317,318,324,325,329,330,334,335,339,340,346,347,351,352,358,359,365,366,372,373,379,380,384,385,389,390,396,397,403,404,410,411,417,418,424,425,431,432,438,439,445,446,452,453,459,460,464,465,466,472,473,477,478,484,485,491,492,496,497,503,504,510,511,515,516,520,521,527,528,532,533,539,540,546,547,548,549,550,551,552,553,554,555,556,557,558,559,560,561,562,566,567,573,574,580,581,585,586,592,593,599,600,606,607,613,614,618,619,625,626,632,633,637,638,651,652,658,659,663,664,670,671,672,673,674,675,676,684,685,691,692,698,699,705,706,712,713,719,720,726,727,733,734,740,741,747,748,752,753,759,760,766,767,773,774,780,781,785,786,790,791,797,798,802,803]=(KK P).map (·.1):=by kernel_rfl
abbrev hook:Hook:=kHook KK [2,3,22,23,24,25,35,36,37,52,53,54,55,56,66,67,68,78,79,80,90,91,92,102,103,104,112,113,119,120,126,127,128,134,135,141,142,148,149,155,156,162,163,169,170,176,177,183,184,188,189,202,203,209,210,216,217,223,224,230,231,237,238,239,240,241,242,243,251,252,258,259,265,266,272,273,279,280,284,285,289,290,296,297,303,304,310,311,317,318,324,325,329,330,334,335,339,340,346,347,351,352,358,359,365,366,372,373,379,380,384,385,389,390,396,397,403,404,410,411,417,418,424,425,431,432,438,439,445,446,452,453,459,460,464,465,466,472,473,477,478,484,485,491,492,496,497,503,504,510,511,515,516,520,521,527,528,532,533,539,540,546,547,548,549,550,551,552,553,554,555,556,557,558,559,560,561,562,566,567,573,574,580,581,585,586,592,593,599,600,606,607,613,614,618,619,625,626,632,633,637,638,651,652,658,659,663,664,670,671,672,673,674,675,676,684,685,691,692,698,699,705,706,712,713,719,720,726,727,733,734,740,741,747,748,752,753,759,760,766,767,773,774,780,781,785,786,790,791,797,798,802,803] AGn
theorem la(w:World)(os:OsState):(staticsOk (importedModules tp.main.body) (boot_heap w.params) (hf w.params)&&namesBound tp (hf w.params)&&gensDone ⟨hf w.params,Array.mk [],{},1323,os⟩&&laidKept (boot_heap w.params) (hf w.params))=true:=by kernel_rfl
abbrev LO:List Str:=[("fraction":Str),("walked":Str),("FORMS":Str)]
open PyProof.Rows PySem.Calls
theorem lb0(w:World)(os:OsState):seen ((recsOf q).map (·.name)) (ownsOf q) [] { (⟨hf w.params,Array.mk [],{},1323,os⟩:Shared) with gens:=#[] }=expectedOf q:=by kernel_rfl
theorem lb1(w:World)(os:OsState):(hf w.params).bltView=bltViewBooted:=by kernel_rfl
theorem lb2(w:World)(os:OsState):((hf w.params).keysOk (looseW q LO) ((recsOf q).map (·.name)) ((litsOf q).map (·.1)) ((clssOf q (looseW q LO)).map (·.name))&&(hf w.params).accountedOkI (importedModules tp.main.body)&&(hf w.params).isNs mainGlobals&&(hf w.params).isNs builtinsNs&&tablesOk q (hf w.params)&&(fun s=>xlAt q [] s&&recOk [] s) (⟨hf w.params,Array.mk [],{},1323,os⟩:Shared)&&(if true then ((⟨hf w.params,Array.mk [],{},1323,os⟩:Shared)).gens.size==0 else !leftWithCleanup ((⟨hf w.params,Array.mk [],{},1323,os⟩:Shared)).gens))=true:=by kernel_rfl
theorem lb3(w:World)(os:OsState):tabsOk q (⟨hf w.params,Array.mk [],{},1323,os⟩:Shared)=true:=by kernel_rfl
theorem lb4(w:World)(os:OsState):pinSeenD q (drecsOf q) (⟨hf w.params,Array.mk [],{},1323,os⟩:Shared)=pinGoodD (drecsOf q):=by kernel_rfl
theorem lb5(w:World)(os:OsState):plainSeenE q (looseW q LO) (⟨hf w.params,Array.mk [],{},1323,os⟩:Shared)=plainGoodE q (looseW q LO):=by kernel_rfl
theorem lb6(w:World)(os:OsState):plainSeenD q LO (⟨hf w.params,Array.mk [],{},1323,os⟩:Shared)=plainGoodD q LO:=by kernel_rfl
theorem lb7(w:World)(os:OsState):wideSeen q (⟨hf w.params,Array.mk [],{},1323,os⟩:Shared)=wideGood q:=by kernel_rfl
theorem lb8(w:World)(os:OsState):clsSeenW q LO (⟨hf w.params,Array.mk [],{},1323,os⟩:Shared)=clsGoodW q LO:=by kernel_rfl
theorem lb(w:World)(os:OsState):openSeen q LO (importedModules tp.main.body) (fun s=>xlAt q [] s&&recOk [] s) true (⟨hf w.params,Array.mk [],{},1323,os⟩:Shared)=openGood q LO:=congr (congrArg Prod.mk (lb0 w os)) (congr (congrArg Prod.mk (lb1 w os)) (congr (congrArg Prod.mk (lb2 w os)) (congr (congrArg Prod.mk (lb3 w os)) (congr (congrArg Prod.mk (lb4 w os)) (congr (congrArg Prod.mk (lb5 w os)) (congr (congrArg Prod.mk (lb6 w os)) (congr (congrArg Prod.mk (lb7 w os)) (lb8 w os))))))))
theorem lc(w:World)(os:OsState):hook.obs ⟨hf w.params,Array.mk [],{},1323,os⟩=hook.val w:=by kernel_rfl
theorem ld(w:World):((boot_heap w.params).isNs mainGlobals&&(Array.mk ([]:List GenState)).size==0,(boot_heap w.params).objs.size,(boot_heap w.params).nsMap mainGlobals "__annotations__")=(true,11,some (.ref 6)):=by kernel_rfl
theorem left:LeftO tp q [("fraction":Str),("walked":Str),("FORMS":Str)] (fun s=>xlAt q [] s&&recOk [] s) hook.obs hook.val 11926 :=
 LeftO.of_pieces (boot_open (by kernel_rfl) (by decide) (fun s=>by kernel_rfl)) ld run (by decide) (fun w=>funext fun os=>congr (congrArg Prod.mk (la w os)) (congr (congrArg Prod.mk (lb w os)) (lc w os)))
end My
open PySem PySem.W PyProof.Rows
set_option maxRecDepth 100000 in
set_option maxHeartbeats 0 in
theorem PySem.Challenge.cw_tautcord_k84_a_desk_of_cords_holds : PySem.Challenge.rw_tautcord_k84_a_desk_of_cords.Holds := by
 refine holds_law My.said fun said=>?_
 refine holds_open (q:=My.q) (loose:=[("fraction":Str),("walked":Str),("FORMS":Str)]) (Xt:=fun s=>xlAt My.q [] s&&recOk [] s) (XP:=XL My.q []) (Yf:=Hook.obs My.hook) (Ya:=Hook.val My.hook) (YP:=Hook.says My.hook) (N:=11926) My.left (Hook.of My.hook) (Hook.keeps My.hook) (fun s e=>xl_of s (Bool.and_eq_true_iff.mp e).1) XL.keeps (by rfl) (by rfl) (by rfl) (fun s e=>recFacts_of (Bool.and_eq_true_iff.mp e).2) (by rfl) said (by decide +kernel) ⟨rfl,rfl,rfl,rfl,rfl,by decide +kernel⟩ ?hw ?hc
 case hw=>w_witness2
 delta My.hook
 k_fill
 refine My.walk (l:=PySem.Challenge.rw_tautcord_k84_a_desk_of_cords) rfl rfl (fun w h Y=>PySem.W.kIn_of Y) ?F
 case F =>
  intro w mg fa h KX G hmg
  refine' My.all_mk KX G hmg ?a1 ?l1 ?c1 ?k1 ?a2 ?l2 ?c2 ?k2 ?a3 ?l3 ?c3 ?k3 ?a4 ?l4 ?c4 ?k4 ?a5 ?l5 ?c5 ?k5 ?a6 ?l6 ?c6 ?k6 ?a7 ?i7 ?l7 ?c7 ?k7 ?a8 ?i8 ?l8 ?c8 ?k8 ?a9 ?i9 ?l9 ?c9 ?k9 ?a10 ?i10 ?l10 ?c10 ?k10 ?a11 ?i11 ?l11 ?c11 ?k11 ?a12 ?i12 ?l12 ?c12 ?k12 ?a13 ?l13 ?c13 ?k13 ?a14 ?l14 ?c14 ?k14 ?a15 ?l15 ?c15 ?k15 ?a16 ?l16 ?c16 ?k16 ?a17 ?l17 ?c17 ?k17 ?a18 ?l18 ?c18 ?k18 ?a19 ?l19 ?c19 ?k19 ?a20 ?l20 ?c20 ?k20 ?a21 ?l21 ?c21 ?k21 ?a22 ?l22 ?c22 ?k22 ?a23 ?l23 ?c23 ?k23 ?a24 ?l24 ?c24 ?k24 ?a25 ?l25 ?c25 ?k25 ?a26 ?l26 ?c26 ?k26 ?a27 ?l27 ?c27 ?k27 ?a28 ?l28 ?c28 ?k28 ?a29 ?l29 ?c29 ?k29 ?a30 ?l30 ?c30 ?k30 ?a31 ?i31 ?l31 ?c31 ?k31 ?a32 ?i32 ?l32 ?c32 ?k32 ?a33 ?i33 ?l33 ?c33 ?k33 ?a34 ?l34 ?c34 ?k34 ?a35 ?l35 ?c35 ?k35 ?a36 ?i36 ?l36 ?c36 ?k36 ?a37 ?l37 ?c37 ?k37 ?a38 ?l38 ?c38 ?k38 ?a39 ?l39 ?c39 ?k39 ?a40 ?l40 ?c40 ?k40 ?a41 ?l41 ?c41 ?k41 ?a42 ?l42 ?c42 ?k42 ?a43 ?l43 ?c43 ?k43 ?a44 ?l44 ?c44 ?k44 ?a45 ?l45 ?c45 ?k45 ?a46 ?l46 ?c46 ?k46 ?a47 ?l47 ?c47 ?k47 ?a48 ?l48 ?c48 ?k48 ?a49 ?l49 ?c49 ?k49 ?a50 ?l50 ?c50 ?k50 ?a51 ?l51 ?c51 ?k51 ?g_FORMS ?gs_FORMS ?gd_FORMS ?ge0 ?ge1 ?ge2 ?ge3 ?ge4 ?ge5 ?ge6 ?ge7 ?ge8 ?ge9 ?ge10 ?ge11 ?ge12 ?ge13 ?n_NoText ?n_NoName ?n_NoBead ?n_NoCord ?n_NoWorth ?n_NoFraction ?n_CordError ?o_NoName ?i_NoName ?x_NoName ?y_NoName ?eis_NoName ?ega_NoName ?eno_NoName ?ecl_NoName ?emb_NoName ?emo_NoName ?o_NoBead ?i_NoBead ?x_NoBead ?y_NoBead ?eis_NoBead ?ega_NoBead ?eno_NoBead ?ecl_NoBead ?emb_NoBead ?emo_NoBead ?x_NoCord ?y_NoCord ?ei_NoCord ?ek_NoCord ?eis_NoCord ?ega_NoCord ?eno_NoCord ?ecl_NoCord ?emb_NoCord ?emo_NoCord ?fo_NoCord ?fh_NoCord ?fs_NoCord ?fn_NoCord ?om_Cord ?pg_Cord ?hd_Cord ?po_Cord ?sa_Cord ?mk_Cord ?kc_Cord ?d1_Cord ?d2_Cord ?d3_Cord ?d4_Cord ?ks_Cord ?nf_Cord_kept_gaps ?nf_Cord_kept_weights ?om_Desk ?pg_Desk ?hd_Desk ?po_Desk ?sa_Desk ?mk_Desk ?kc_Desk ?d1_Desk ?d2_Desk ?d3_Desk ?d4_Desk ?ks_Desk ?nf_Desk_kept ?k_NoName_NoText ?k_NoName_NoName ?k_NoName_NoBead ?k_NoName_NoCord ?k_NoName_NoWorth ?k_NoName_NoFraction ?k_NoName_ValueError ?k_NoBead_NoText ?k_NoBead_NoName ?k_NoBead_NoBead ?k_NoBead_NoCord ?k_NoBead_NoWorth ?k_NoBead_NoFraction ?k_NoBead_ValueError ?k_NoCord_NoText ?k_NoCord_NoName ?k_NoCord_NoBead ?k_NoCord_NoCord ?k_NoCord_NoWorth ?k_NoCord_NoFraction ?k_NoCord_ValueError ?b_CordError ?z_abs ?z_len ?z_isinstance ?z_int ?z_bool ?z_tuple ?z_range ?z_list ?z_zip ?z_all ?z_str ?z_reversed ?z_max ?z_ValueError ?q_MOST_BEADS ?q_FIGURES ?q_MOST_FIGURES ?q_LETTERS ?q_LONGEST_NAME ?q_MOST_HALVINGS
  (case om_Cord=>k_is);(case om_Desk=>k_is);(case n_NoCord=>k_is);(case a1=>k_is)
  (case l1=>k_is);(case c1=>k_is);(case k1=>k_is);(case a2=>k_is)
  (case l2=>k_is);(case c2=>k_is);(case k2=>k_is);(case a3=>k_is)
  (case l3=>k_is);(case c3=>k_is);(case k3=>k_is);(case a4=>k_is)
  (case l4=>k_is);(case c4=>k_is);(case k4=>k_is);(case a5=>k_is)
  (case l5=>k_is);(case c5=>k_is);(case k5=>k_is);(case a6=>k_is)
  (case l6=>k_is);(case c6=>k_is);(case k6=>k_is);(case a7=>k_is)
  (case i7=>k_is);(case l7=>k_is);(case c7=>k_is);(case k7=>k_is)
  (case a8=>k_is);(case i8=>k_is);(case l8=>k_is);(case c8=>k_is)
  (case k8=>k_is);(case a9=>k_is);(case i9=>k_is);(case l9=>k_is)
  (case c9=>k_is);(case k9=>k_is);(case a10=>k_is);(case i10=>k_is)
  (case l10=>k_is);(case c10=>k_is);(case k10=>k_is);(case a11=>k_is)
  (case i11=>k_is);(case l11=>k_is);(case c11=>k_is);(case k11=>k_is)
  (case a12=>k_is);(case i12=>k_is);(case l12=>k_is);(case c12=>k_is)
  (case k12=>k_is);(case a13=>k_is);(case l13=>k_is);(case c13=>k_is)
  (case k13=>k_is);(case a14=>k_is);(case l14=>k_is);(case c14=>k_is)
  (case k14=>k_is);(case a15=>k_is);(case l15=>k_is);(case c15=>k_is)
  (case k15=>k_is);(case a16=>k_is);(case l16=>k_is);(case c16=>k_is)
  (case k16=>k_is);(case a17=>k_is);(case l17=>k_is);(case c17=>k_is)
  (case k17=>k_is);(case a18=>k_is);(case l18=>k_is);(case c18=>k_is)
  (case k18=>k_is);(case a19=>k_is);(case l19=>k_is);(case c19=>k_is)
  (case k19=>k_is);(case a20=>k_is);(case l20=>k_is);(case c20=>k_is)
  (case k20=>k_is);(case a21=>k_is);(case l21=>k_is);(case c21=>k_is)
  (case k21=>k_is);(case a22=>k_is);(case l22=>k_is);(case c22=>k_is)
  (case k22=>k_is);(case a23=>k_is);(case l23=>k_is);(case c23=>k_is)
  (case k23=>k_is);(case a24=>k_is);(case l24=>k_is);(case c24=>k_is)
  (case k24=>k_is);(case a25=>k_is);(case l25=>k_is);(case c25=>k_is)
  (case k25=>k_is);(case a26=>k_is);(case l26=>k_is);(case c26=>k_is)
  (case k26=>k_is);(case a27=>k_is);(case l27=>k_is);(case c27=>k_is)
  (case k27=>k_is);(case a28=>k_is);(case l28=>k_is);(case c28=>k_is)
  (case k28=>k_is);(case a29=>k_is);(case l29=>k_is);(case c29=>k_is)
  (case k29=>k_is);(case a30=>k_is);(case l30=>k_is);(case c30=>k_is)
  (case k30=>k_is);(case a31=>k_is);(case i31=>k_is);(case l31=>k_is)
  (case c31=>k_is);(case k31=>k_is);(case a32=>k_is);(case i32=>k_is)
  (case l32=>k_is);(case c32=>k_is);(case k32=>k_is);(case a33=>k_is)
  (case i33=>k_is);(case l33=>k_is);(case c33=>k_is);(case k33=>k_is)
  (case a34=>k_is);(case l34=>k_is);(case c34=>k_is);(case k34=>k_is)
  (case a35=>k_is);(case l35=>k_is);(case c35=>k_is);(case k35=>k_is)
  (case a36=>k_is);(case i36=>k_is);(case l36=>k_is);(case c36=>k_is)
  (case k36=>k_is);(case a37=>k_is);(case l37=>k_is);(case c37=>k_is)
  (case k37=>k_is);(case a38=>k_is);(case l38=>k_is);(case c38=>k_is)
  (case k38=>k_is);(case a39=>k_is);(case l39=>k_is);(case c39=>k_is)
  (case k39=>k_is);(case a40=>k_is);(case l40=>k_is);(case c40=>k_is)
  (case k40=>k_is);(case a41=>k_is);(case l41=>k_is);(case c41=>k_is)
  (case k41=>k_is);(case a42=>k_is);(case l42=>k_is);(case c42=>k_is)
  (case k42=>k_is);(case a43=>k_is);(case l43=>k_is);(case c43=>k_is)
  (case k43=>k_is);(case a44=>k_is);(case l44=>k_is);(case c44=>k_is)
  (case k44=>k_is);(case a45=>k_is);(case l45=>k_is);(case c45=>k_is)
  (case k45=>k_is);(case a46=>k_is);(case l46=>k_is);(case c46=>k_is)
  (case k46=>k_is);(case a47=>k_is);(case l47=>k_is);(case c47=>k_is)
  (case k47=>k_is);(case a48=>k_is);(case l48=>k_is);(case c48=>k_is)
  (case k48=>k_is);(case a49=>k_is);(case l49=>k_is);(case c49=>k_is)
  (case k49=>k_is);(case a50=>k_is);(case l50=>k_is);(case c50=>k_is)
  (case k50=>k_is);(case a51=>k_is);(case l51=>k_is);(case c51=>k_is)
  (case k51=>k_is);(case g_FORMS=>k_is);(case gs_FORMS=>rfl);(case gd_FORMS=>k_is)
  (case ge0=>k_is);(case ge1=>k_is);(case ge2=>k_is);(case ge3=>k_is)
  (case ge4=>k_is);(case ge5=>k_is);(case ge6=>k_is);(case ge7=>k_is)
  (case ge8=>k_is);(case ge9=>k_is);(case ge10=>k_is);(case ge11=>k_is)
  (case ge12=>k_is);(case ge13=>k_is);(case n_NoText=>k_is);(case n_NoName=>k_is)
  (case n_NoBead=>k_is);(case n_NoWorth=>k_is);(case n_NoFraction=>k_is);(case n_CordError=>k_is)
  (case o_NoName=>k_exc);(case i_NoName=>k_is);(case x_NoName=>kit_is);(case y_NoName=>rfl)
  (case eis_NoName=>k_is);(case ega_NoName=>k_is);(case eno_NoName=>k_is);(case ecl_NoName=>k_is)
  (case emb_NoName=>k_is);(case emo_NoName=>k_is);(case o_NoBead=>k_exc);(case i_NoBead=>k_is)
  (case x_NoBead=>kit_is);(case y_NoBead=>rfl);(case eis_NoBead=>k_is);(case ega_NoBead=>k_is)
  (case eno_NoBead=>k_is);(case ecl_NoBead=>k_is);(case emb_NoBead=>k_is);(case emo_NoBead=>k_is)
  (case x_NoCord=>kit_is);(case y_NoCord=>rfl);(case ei_NoCord=>kernel_rfl);(case ek_NoCord=>k_is)
  (case eis_NoCord=>k_is);(case ega_NoCord=>k_is);(case eno_NoCord=>k_is);(case ecl_NoCord=>k_is)
  (case emb_NoCord=>k_is);(case emo_NoCord=>k_is);(case fo_NoCord=>rfl);(case fh_NoCord=>k_is)
  (case fs_NoCord=>k_is);(case fn_NoCord=>k_is);(case pg_Cord=>k_is);(case hd_Cord=>k_is)
  (case po_Cord=>k_is);(case sa_Cord=>k_is);(case mk_Cord=>k_is);(case kc_Cord=>k_is)
  (case d1_Cord=>k_is);(case d2_Cord=>k_is);(case d3_Cord=>k_is);(case d4_Cord=>k_is)
  (case ks_Cord=>kit_is);(case nf_Cord_kept_gaps=>k_is);(case nf_Cord_kept_weights=>k_is);(case pg_Desk=>k_is)
  (case hd_Desk=>k_is);(case po_Desk=>k_is);(case sa_Desk=>k_is);(case mk_Desk=>k_is)
  (case kc_Desk=>k_is);(case d1_Desk=>k_is);(case d2_Desk=>k_is);(case d3_Desk=>k_is)
  (case d4_Desk=>k_is);(case ks_Desk=>kit_is);(case nf_Desk_kept=>k_is);(case k_NoName_NoText=>kit_is)
  (case k_NoName_NoName=>kit_is);(case k_NoName_NoBead=>kit_is);(case k_NoName_NoCord=>kit_is);(case k_NoName_NoWorth=>kit_is)
  (case k_NoName_NoFraction=>kit_is);(case k_NoName_ValueError=>kit_is);(case k_NoBead_NoText=>kit_is);(case k_NoBead_NoName=>kit_is)
  (case k_NoBead_NoBead=>kit_is);(case k_NoBead_NoCord=>kit_is);(case k_NoBead_NoWorth=>kit_is);(case k_NoBead_NoFraction=>kit_is)
  (case k_NoBead_ValueError=>kit_is);(case k_NoCord_NoText=>kit_is);(case k_NoCord_NoName=>kit_is);(case k_NoCord_NoBead=>kit_is)
  (case k_NoCord_NoCord=>kit_is);(case k_NoCord_NoWorth=>kit_is);(case k_NoCord_NoFraction=>kit_is);(case k_NoCord_ValueError=>kit_is)
  (case b_CordError=>k_is);(case z_abs=>k_is);(case z_len=>k_is);(case z_isinstance=>k_is)
  (case z_int=>k_is);(case z_bool=>k_is);(case z_tuple=>k_is);(case z_range=>k_is)
  (case z_list=>k_is);(case z_zip=>k_is);(case z_all=>k_is);(case z_str=>k_is)
  (case z_reversed=>k_is);(case z_max=>k_is);(case z_ValueError=>k_is);(case q_MOST_BEADS=>k_is)
  (case q_FIGURES=>k_is);(case q_MOST_FIGURES=>k_is);(case q_LETTERS=>k_is);(case q_LONGEST_NAME=>k_is)
  (case q_MOST_HALVINGS=>k_is)
