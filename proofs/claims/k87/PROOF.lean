import PyProof.Rows.All
import Wide.All
import OpenK.AllK
import Wide.FinOn
import Lean
import PyProof.EqAt
import PyProof.EqKinds
import PyProof.TupleCall
import PySem.Challenge.RW_tautcord_k87_whole_from_text_to_text
noncomputable section
set_option Elab.async false
set_option linter.all false
set_option maxRecDepth 100000
set_option compiler.extract_closed false
local macro_rules|`(tactic|omega)=>`(tactic|lia)
open PySem PySem.W in
set_option maxHeartbeats 0 in
theorem My.said:OpenLaw.wellSaid PySem.Challenge.rw_tautcord_k87_whole_from_text_to_text=true:=by
 unfold OpenLaw.wellSaid OpenRow.wellSaid OpenRow.partSaid looksOpen
 repeat' with_reducible refine Bool.and_eq_true_iff.mpr ⟨?_,?_⟩
 all_goals decide +kernel
set_option maxHeartbeats 0
open List renaming getElem?_eq_getElem→Io,length_map→ASt,getD_eq_getElem?_getD→ASu,length_cons→ASx,length_append→ASz,map_append→AS0,mem_cons→AS2,getElem?_map→AS4,getElem?_eq_some_iff→AS7,length_take→AS8,size_toArray→AS9,getElem?_append_right→ATD,mem_append_right→ATE,length_drop→ATF,take_length→ATK,mem_cons_of_mem→ATS,mem_append→ATU,length_singleton→ATX,mem_map→ATY,length_replicate→ATZ,take_succ_eq_append_getElem→ATa,take_of_length_le→ATb,range_succ→ATh,getElem?_append_left→ATi,getElem?_eq_none→ATk,length_range→ATn,mem_of_getElem?→ATp,mem_cons_self→ATq,map_singleton→ATr,mem_singleton→ATs,length_reverse→ATv,append_assoc→ATw,take_succ→ATy,getElem?_cons_succ→ATz,cons_ne_nil→AT6,mem_of_mem_drop→AT7,drop_zero→AUB,filterMap_cons→AUF,replicate_succ→AUG,length_nil→AUH,lookup_cons→AUK,getElem?_drop→AUL,forIn_cons→AUS,length_eq_zero_iff→AUY,mem_reverse→AUb,not_mem_nil→AUc,all_eq_true→AUd,find?_cons→AUj,length_filter_le→AUk,getElem?_reverse→AUl,any_cons→AUp,flatten_cons→AUq,mem_append_left→AUt,mem_of_mem_take→AUv,mem_range→AUw,drop_eq_getElem_cons→AUy,take_succ_cons→AU0,length_pos_iff→AU1,getElem?_replicate→AU6,reverse_cons→AVB,eq_nil_or_concat→AVJ,concat_eq_append→AVK,mem_filter→AVS,append_nil→AVV,nodup_cons→AVW,getElem?_range→AVY,map_eq_nil_iff→AVZ,filter_append→AVl,map_replicate→AVn,map_drop→AV0,cons_append→AV7,map_reverse→AWA,getElem?_set_self→AWB,drop_eq_nil_of_le→AWG,of_mem_zip→AWI,take_left'→AWL,getElem?_set_ne→AWP,reverse_reverse→AWT,mem_map_of_mem→AWc,mem_filterMap→AWd,map_take→AWh,filterMap_map→AWi,getElem?_take→AWj,foldl_append→AWp,ext_getElem?→AWs,all_map→AWz
open PySem renaming wpAny_bind→ASv,boot_len→AS6,wpAny_pure→ATC,wpAny_setField_rec→ATf,mem_of_lookup→ATj,wpAny_field→ATl,wpAny_mono→ATt,wpAny_callSpecial?_slot→AT0,wpAny_truthy_bool→AT3,wpAny_seqItems→AUC,wpAny_passesOwn→AUO,wpAny_call_entry→AUe,wpAny_Call_Name_kw→AUg,wpAny_execs_nil→AUi,wpAny_ite_split→AUm,wpAny_holding→AU9,wpAny_pyIter_zip→AVL,wpAny_pyIter_revIter→AVM,wpAny_updateSeq_pair→AVO,wpAny_specialOf→AVX,wpAny_letOwnedTupleGo_zip→AVp,wpAny_assign_Name→AVr,wpAny_getItem_list_slice→AVt,wpAny_newObj_type→AVw,wpAny_standAt→AVz,wpAny_onRaise→AV1,wpAny_letGo→AV2,wpAny_attempt→AV3,wpAny_execs_cons→AV6,wpAny_isInstance→AV9,intBits_le_iff→AWS,wpAny_rule→AWr
open PySem.Heap renaming get?_push_of_some→ASw,lt_size→ASy,get?_push_size→AS1,size_push→AUM,get?_update_other→AUf,get?_update_self→AVG,get?_push_cases→AVN
open Bool renaming false_ne_true→AS3,false_eq_true→AT5,and_eq_true→AUZ,eq_iff_iff→AU5,false_and→AWU
open Option.some renaming inj→AS5
open PySem.F renaming plainAttrs_str→ATA,plainAttrs_list→ATL,slot_list_append→ATN,type_list_append→ATO,slot_str_split→ATc,type_str_split→ATd,slot_tuple_iterator_next→AUJ,entry_str_split→AUR,slot_str_split→AUa,slot_str_partition→AUr,type_str_partition→AUs,slot_str_join→AVH,type_str_join→AVI,args_tuple_iterator_next_1→AVR,entry_tuple_iterator_next→AVa,slot_zip_next→AVb,slot_str_startswith→AVd,type_str_startswith→AVe,args_str_split_2→AVk,args_str_split_3→AVm,slot_dict_getitem→AVo,args_enumerate_next_1→AV4,slot_dict_pop→AWK
open Nat renaming lt_of_lt_of_le→ATB,le_trans→ATG,le_add_right→ATQ,ne_of_lt→ATR,zero_le→ATW,le_of_ble_eq_true→ATm,pow_succ→AUU,lt_irrefl→AUV,pow_le_pow_right→AUu,ne_of_gt→AU2,mul_succ→AVF,le_of_dvd→AVQ,mul_le_mul_left→AVc,le_of_eq→AVh,le_succ→AVx,sub_zero→AWM,min_eq_left→AWN,pow_pos→AWY,lt_trichotomy→AWq,le_of_lt→AWw,add_comm→AWx,log2_lt→AW1
open PySem.PassesOwn renaming never→ATI
open Int renaming emod_lt_of_pos→ATJ,natAbs_dvd_natAbs→ATM,emod_nonneg→ATV,mul_pos→ATg,ediv_pos_of_pos_of_dvd→ATo,mul_comm→ATx,ediv_eq_of_eq_mul_right→AT2,mul_assoc→AT9,ne_of_gt→AUA,toNat_natCast→AUD,mul_ediv_cancel_left→AUP,fdiv_eq_ediv_of_dvd→AUW,sub_eq_add_neg→AUh,natCast_mul→AUn,natAbs_mul→AUx,gcd_comm→AU3,mul_left_comm→AVC,gcd_pos_of_ne_zero_right→AVP,lt_trichotomy→AVu,neg_mul→AVy,mul_ediv_cancel'→AWR,mul_neg→AWa,natCast_nonneg→AWe,dvd_trans→AWl,dvd_mul_right→AWu
open PySem.W renaming mg_none_of→ATP,kia_one→ATu,mg_of→AT1,plainGet_of→AVU,callWith_K→AVi,cellsFrom_some→AWD,methodCall_KW→AWH,callWith_K0→AWW,kitx_list→AWm,kitx_dict→AWn
open PyProof.Rows renaming callWith_type1→ATe
open Rat renaming num_eq_zero→AT4,le_refl→AUN,divInt_eq_div→AUQ,num_intCast→AUT,intCast_inj→AUo,divInt_eq_divInt_iff→AU4,mul_eq_zero→AU8,num_nonneg→AVE,den_intCast→AVf,zero_mul→AVj,lt_irrefl→AV5,intCast_pos→AWO,one_mul→AWb,lt_of_le_of_ne→AWk,le_trans→AWy,mul_one→AW0
open PySem.Paired renaming length→AT8
open Option renaming map_eq_some_iff→AUI,map_some→AU7,isSome_iff_exists→AVs,isSome_map→AWo
open PySem.StrLaws renaming partsBetween_eq→AUX,occ_head→AV8
open Array renaming length_toList→AUz,getElem?_eq_getElem→AVq,getElem?_toList→AWJ,all_eq_true→AWt
open PySem.Calls renaming callWith_builtin→AVA,Name_function_global→AVg
open Nat.Coprime renaming dvd_of_dvd_mul_left→AVD
open Ne renaming symm→AVT
open PyProof renaming noPylong_of_log2→AVv
open PySem.W.KIN renaming gives_text→AWF
open Sum.inr renaming inj→AWV
open PySem.Str renaming ext'→AWf
open List.cons renaming inj→AWg
open Function renaming comp_def→AWv
set_option hygiene false
local macro_rules|`(tactic|walk_at "2")=>`(tactic|(intro aA s σ H D I h))
local macro_rules|`(tactic|walk_at "5")=>`(tactic|(have c':(0:Int)<y:=of_decide_eq_true c;refine⟨_,rfl,_,rfl,_,_,rfl,rfl,c',_,rfl,_,rfl,?_⟩;have h1:=ATV x (show y≠0 by omega)))
local macro_rules|`(tactic|walk_at "9")=>`(tactic|(intro aA s σ H xs us Q I r h))
local macro_rules|`(tactic|walk_at "A")=>`(tactic|(intro _ _ _ _ x H' R hx sH fin;refine⟨_,rfl,x,rfl,?_,fun r H4 s4 k4=>fin r H4 s4 k4⟩;rcases AS2.mp hx with rfl|hx))
local macro_rules|`(tactic|walk_at "E")=>`(tactic|(obtain⟨t,rfl⟩:=rx;obtain⟨u,rfl,ru⟩:=Iw rs;obtain⟨t',rfl⟩:=ru))
local macro_rules|`(tactic|walk_at "H")=>`(tactic|(obtain⟨t,rfl⟩:=rx))
local macro_rules|`(tactic|walk_at "J")=>`(tactic|(refine⟨_,rfl,_,_,rfl,rfl,_,rfl,Cd (by omega) ?_⟩))
local macro_rules|`(tactic|walk_at "M")=>`(tactic|(subst ex;obtain rfl:u=Value.ref a:=rx))
local macro_rules|`(tactic|walk_at "N")=>`(tactic|(intro _ _ _ _ i H1 R hi s1 fin;refine⟨_,rfl,_,rfl,a,ps,0+i,?_,ha.keep s1,fun p1 H2 s2 k1=>⟨_,rfl,_,rfl,b,qs,0+i,?_,hb.keep (s1.trans s2),fun p2 H3 s3 k2=>?_⟩⟩))
local macro_rules|`(tactic|walk_at "O")=>`(tactic|(have ex':=y _ (SqL.of hr);rw[h0]at ex';cases ex'))
local macro_rules|`(tactic|walk_at "P")=>`(tactic|(obtain⟨p,q,a,b,rfl,hp,hq,ba,bb,k⟩:=h))
local macro_rules|`(tactic|walk_at "V")=>`(tactic|(intro aA s σ H x xs v us Q I rx rs h))
local macro_rules|`(tactic|walk_at "X")=>`(tactic|(have eq:qs[i]?=some qs[i]:=Io hlt;obtain⟨p0,h0,k0⟩:=(kr.keep sm).get eq))
local macro_rules|`(tactic|walk_at "Y")=>`(tactic|(have c':¬(q.den:Int)=1:=fun z=>of_decide_eq_false (Bool.eq_false_iff.mpr c) (congrArg V.int z);unfold ftx at k;rw[if_neg (by omega)]at k))
local macro_rules|`(tactic|walk_at "a")=>`(tactic|(refine⟨_,rfl,rfl,_,rfl,sne (by decide) ?_⟩;refine⟨_,rfl,rfl,_,rfl,sne (by decide) ?_⟩))
local macro_rules|`(tactic|walk_at "a1")=>`(tactic|(obtain⟨sl,e1⟩:=I.base.slot b o e n hb hx))
local macro_rules|`(tactic|walk_at "aF")=>`(tactic|(have e:b=it:=by simpa using hb))
local macro_rules|`(tactic|walk_at "aJ")=>`(tactic|(simp only[Rat.intCast_mul]))
local macro_rules|`(tactic|walk_at "aN")=>`(tactic|(have e:b=C:=by simpa using hb))
local macro_rules|`(tactic|walk_at "aP")=>`(tactic|(rw[AWP (AVT hj)]at e2;obtain⟨u',r',q⟩:=hl j y v' e1 e2 e3;refine⟨u',r',?_⟩))
local macro_rules|`(tactic|walk_at "aQ")=>`(tactic|(subst ey;cases (show u=Value.ref b from ry);obtain⟨z,hd,xs,rel,dd⟩:=W6 I.hok e))
local macro_rules|`(tactic|walk_at "aa")=>`(tactic|(obtain⟨g0,g1,g2,g3,g4,g5⟩:=f2 b hb))
local macro_rules|`(tactic|walk_at "ao")=>`(tactic|(have a1:=mnn (show 0<=-M' by grind) (show 0<=-(H+g*M) by grind);have a2:=mnn (show 0<=-M by grind) hP))
local macro_rules|`(tactic|walk_at "ar")=>`(tactic|(obtain⟨o',e1⟩:=I.base.there b o e hx))
local macro_rules|`(tactic|walk_at "ax")=>`(tactic|(refine(I.hok b u e).stay (fun c v hc q=>k c v ?_ q) (fun _ q=>q) fun _ _ q=>q;rcases hc with z|z))
local macro_rules|`(tactic|walk_at "ay")=>`(tactic|(have c':(q.den:Int)=1:=V.int.inj (of_decide_eq_true c);unfold ftx at k;rw[if_pos (by omega)]at k))
local macro_rules|`(tactic|walk_at "b")=>`(tactic|(refine⟨_,rfl,rfl,_,rfl,sne (by decide) ?_⟩))
local macro_rules|`(tactic|walk_at "bc")=>`(tactic|(intro b o e;rw[Az (BL e hD)];exact sm _ _ e))
local macro_rules|`(tactic|walk_at "bd")=>`(tactic|(rw[show 2*j+1+1=2*(j+1) by omega,Po.tj_two]))
local macro_rules|`(tactic|walk_at "be")=>`(tactic|(rw[e]at e1;refine⟨p,_,rfl,SqT.of e1,rfl,_,_,rfl,_,_,rfl,_,_,rfl,rfl,?_⟩))
local macro_rules|`(tactic|walk_at "c")=>`(tactic|(refine⟨rfl,fun cdv A outer s hr=>?_⟩))
local macro_rules|`(tactic|walk_at "d")=>`(tactic|(have hz:(100000:Nat)<sizeLine:=by decide))
local macro_rules|`(tactic|walk_at "f")=>`(tactic|(intro X hP hw hK hc i aA s σ H E I hf st hg;subst hP hw hK))
local macro_rules|`(tactic|walk_at "g")=>`(tactic|(refine⟨_,rfl,rfl,_,rfl,Hw rfl ?_⟩))
local macro_rules|`(tactic|walk_at "i")=>`(tactic|(have hz:(1000:Nat)<sizeLine:=by decide))
local macro_rules|`(tactic|walk_at "j")=>`(tactic|(refine .inr ⟨⟨_,_,SqL.of hr,h0⟩,fun x H' y zb zc C ex=>?_⟩;obtain⟨e,y⟩:=y;subst e))
local macro_rules|`(tactic|walk_at "k")=>`(tactic|(intro aA s σ H Q I h))
local macro_rules|`(tactic|walk_at "l")=>`(tactic|(exact I1.fpOk (Nat.le_refl _) (I1.hok.fresh (Nat.le_refl _))))
local macro_rules|`(tactic|walk_at "m")=>`(tactic|(intro aA s σ H x y v u Q I rx ry h))
local macro_rules|`(tactic|walk_at "o")=>`(tactic|(cases h1;cases h2;cases h3))
local macro_rules|`(tactic|walk_at "p")=>`(tactic|(obtain⟨f0,f1,f2,f3,f4,f5⟩:=hf it (by simp)))
local macro_rules|`(tactic|walk_at "t")=>`(tactic|(generalize ((p.den:Int):Rat)=b at *;generalize (q.num:Rat)=c at *;generalize ((q.den:Int):Rat)=d at *))
local macro_rules|`(tactic|walk_at "u")=>`(tactic|(refine⟨HF _,fr,AT6 _ _,rfl,ATm rfl,rfl,sz,fun i k t x h1 h2 h3=>?_⟩))
local macro_rules|`(tactic|walk_at "w")=>`(tactic|(cases h1;cases h2))
local macro_rules|`(tactic|walk_at "y")=>`(tactic|(rintro i m ys H ⟨rfl,hi,rfl,sm,bj⟩;refine⟨bj,?_⟩))
local macro_rules|`(tactic|walk_at "z")=>`(tactic|(generalize (th:Rat)=T' at *;generalize (tl:Rat)=L' at *;generalize (m:Rat)=M' at *))
set_option hygiene true
namespace L2
open PySem PySem.Spec PyProof.Rows
abbrev Key:=Sum Int Str
def Sw:Key->Value->Bool
 | .inl k,v=>Value.isInt k v
 | .inr x,v=>Value.isStrOf x v
def AQ6(w:World):Key->Int
 | .inl k=>hashInt k
 | .inr x=>hashStr w x
theorem Cg:∀{k:Key} {v:Value},Sw k v=true->(∃i t,k=Sum.inl i/\v=Value.int i t)\/(∃x t,k=Sum.inr x/\v=Value.str x t)
 | .inl i,v,h=>by
  obtain⟨t,e⟩:=Value.isInt_shape (k:=i) (v:=v) h;exact .inl ⟨i,t,rfl,e⟩
 | .inr x,v,h=>by
  obtain⟨t,e⟩:=Value.isStrOf_shape (x:=x) (v:=v) h;exact .inr ⟨x,t,rfl,e⟩
theorem Zt(i:Int)(t:Tok):Sw (.inl i) (.int i t)=true:=by simp[Sw,Value.isInt]
theorem AAd(x:Str)(t:Tok):Sw (.inr x) (.str x t)=true:=by simp[Sw,Value.isStrOf]
theorem AHK(a b:Int):decide ((Sum.inl a:Key)=Sum.inl b)=(a==b):=by
 by_cases e:a=b
 .subst e;simp
 .have h:¬(Sum.inl a:Key)=Sum.inl b:=fun q=>e (Sum.inl.inj q);rw[decide_eq_false h];exact(beq_eq_false_iff_ne.mpr e).symm
theorem AKE(a b:Str):decide ((Sum.inr a:Key)=Sum.inr b)=decide (a=b):=by
 by_cases e:a=b
 .subst e;simp
 .have h:¬(Sum.inr a:Key)=Sum.inr b:=fun q=>e (AWV q);rw[decide_eq_false h,decide_eq_false e]
theorem AI7(a:Int)(b:Str):decide ((Sum.inl a:Key)=Sum.inr b)=false:=decide_eq_false (fun q=>nomatch q)
theorem AKK(a:Str)(b:Int):decide ((Sum.inr a:Key)=Sum.inl b)=false:=decide_eq_false (fun q=>nomatch q)
def CG(prog:Program)(w:World):PySem.KeyKind prog w Key where
 is:=Sw
 hash:=AQ6 w
 inj:=fun v a b ha hb=>by
  rcases Cg ha with⟨i,t,rfl,rfl⟩|⟨x,t,rfl,rfl⟩
  .rcases Cg hb with⟨j,u,rfl,e⟩|⟨y,u,rfl,e⟩
   .injection e with e1 _;rw[e1]
   .exact nomatch e
  .rcases Cg hb with⟨j,u,rfl,e⟩|⟨y,u,rfl,e⟩
   .exact nomatch e
   .injection e with e1 _;rw[e1]
 byValue:=fun k v h=>by
  rcases Cg h with⟨i,t,rfl,rfl⟩ | ⟨x,t,rfl,rfl⟩<;>rfl
 pyHash:=fun hv h=>by
  rcases Cg hv with⟨i,t,rfl,rfl⟩|⟨x,t,rfl,rfl⟩
  .exact wpAny_pyHash_int h
  .exact wpAny_pyHash_str h
 eqBool:=fun hu hv h=>by
  rcases Cg hu with⟨i,t,rfl,rfl⟩|⟨x,t,rfl,rfl⟩
  .rcases Cg hv with⟨j,u,rfl,rfl⟩|⟨y,u,rfl,rfl⟩
   .rw[AHK]at h;exact wpAny_eqBool_int h
   .rw[AI7]at h;exact SeqAt.EqAt.int_str i t y u _ _ _ _ h
  .rcases Cg hv with⟨j,u,rfl,rfl⟩|⟨y,u,rfl,rfl⟩
   .rw[AKK]at h;exact SeqAt.EqAt.str_int x t j u _ _ _ _ h
   .rw[AKE]at h;exact wpAny_eqBool_str h
 «strs»:=fun k x t v h=>by
  rcases Cg h with⟨i,u,rfl,e⟩|⟨y,u,rfl,e⟩
  .exact nomatch e
  .injection e with e1 _;subst e1;cases v<;>rfl
theorem V4(prog:Program)(w:World)(i:Int)(t:Tok):(CG prog w).is (.inl i) (.int i t)=true:=Zt i t
theorem JD(prog:Program)(w:World)(x:Str)(t:Tok):(CG prog w).is (.inr x) (.str x t)=true:=AAd x t
inductive V where
 | non | bl (b:Bool) | int (i:Int) | str (x:Str) | byt (b:Array UInt8) | flt (b:UInt64) | ref (a:Addr) | ty (n:String)
 deriving DecidableEq
def Bc:V->Value->Prop
 | .non,u=>u=Value.none
 | .bl b,u=>u=Value.bool b
 | .int i,u=>∃t,u=Value.int i t
 | .str x,u=>∃t,u=Value.str x t
 | .byt b,u=>∃t,u=Value.bytes b t
 | .flt b,u=>∃t,u=Value.float b t
 | .ref a,u=>u=Value.ref a
 | .ty n,u=>u=Value.type n
abbrev BW:List V->List Value->Prop:=Paired Bc
theorem BW.length{xs:List V}{us:List Value}(r:BW xs us):xs.length=us.length:=AT8 r
theorem BW.get:∀{xs:List V} {us:List Value} {i:Nat} {x:V},BW xs us->xs[i]?=some x->∃u,us[i]?=some u/\Bc x u
 | _,_,_,_,.nil,e=>by simp at e
 | _,_,0,_,.cons r _,e=>by simp at e;subst e;exact⟨_,rfl,r⟩
 | _,_,i+1,x,.cons _ t,e=>by
  obtain⟨u,h1,h2⟩:=BW.get (i:=i) (x:=x) t (by simpa using e);exact⟨u,by simpa using h1,h2⟩
theorem BW.append:∀{xs ys:List V} {us ws:List Value},BW xs us->BW ys ws->BW (xs++ys) (us++ws)
 | _,_,_,_,.nil,s=>s
 | _,_,_,_,.cons r t,s=>.cons r (BW.append t s)
theorem BW.take:∀{xs:List V} {us:List Value} (n:Nat),BW xs us->BW (xs.take n) (us.take n)
 | _,_,0,_=>.nil
 | _,_,_+1,.nil=>.nil
 | _,_,n+1,.cons r t=>.cons r (BW.take n t)
theorem BW.drop:∀{xs:List V} {us:List Value} (n:Nat),BW xs us->BW (xs.drop n) (us.drop n)
 | _,_,0,r=>r
 | _,_,_+1,.nil=>.nil
 | _,_,n+1,.cons _ t=>BW.drop n t
def JB:Option V->Option Value->Prop
 | some v,some u=>Bc v u
 | none,none=>True
 | _,_=>False
def KV{κ:Type}:List (κ×V)->List (κ×Value)->Prop:=Paired fun(p:κ×V) (q:κ×Value)=>p.1=q.1/\Bc p.2 q.2
def kV:Key->V
 | .inl i=>.int i
 | .inr x=>.str x
inductive HO where
 | lst (xs:List V)
 | tup (xs:List V)
 | dK (aG:List (Key×V)) | dT (aG:List (List Key×V))
 | set (S:Int->Bool) (n:Nat)
 | ins (C dx:Addr) (fs:List (Str×V))
 | own (x:Addr)
 | xd (fs:List (Str×V))
 | met (f x:Addr)
 | rng (lo hi:Int)
 | frz (o:Obj) (u:HO)
 | tbl (ps:Array Value)
 | ext (φ:Heap->Prop)
abbrev Hp:=Addr->Option HO
def upd(H:Hp)(a:Addr)(o:HO):Hp:=fun b=>if b=a then some o else H b
theorem Ag{H:Hp}{a:Addr}{o:HO}:upd H a o a=some o:=by unfold upd;rw[if_pos rfl]
theorem Az{H:Hp}{a b:Addr}{o:HO}(h:b≠a):upd H a o b=H b:=by unfold upd;rw[if_neg h]
theorem G3{H:Hp}{a b:Addr}{o u:HO}(h:H a=some o)(h':H b=some u)(d:o≠u):a≠b:=by
 intro e;subst e;rw[h]at h';exact d (AS5 h')
theorem BL{H:Hp}{a b:Addr}{o:HO}(h:H a=some o)(h':H b=none):a≠b:=by
 intro e;subst e;rw[h]at h';cases h'
section
variable (P:Program)(w:World)
def Ci(H:Hp)(h:Heap)(a:Addr):HO->Prop
 | .lst xs=>xs.length<=sizeLine/\∃(its:List Value) (n:Nat),BW xs its/\h.get? a=some { cls:=.type "list",data:=.seq its.toArray n }
 | .tup xs=>xs.length<=sizeLine/\∃its:List Value,BW xs its/\IsTup h a its.toArray
 | .dK aG=>aG.length<=sizeLine/\(a==sysModules)=false/\∃vs,KV aG vs/\h.DictOf (CG P w) a vs
 | .dT aG=>aG.length<=sizeLine/\(a==sysModules)=false/\∃xs:List (List Key×Addr×Value),
   Paired (fun(p:List Key×V) (q:List Key×Addr×Value)=>p.1=q.1/\H q.2.1=some (.tup (p.1.map kV))/\Bc p.2 q.2.2) aG xs /\
   ∃o es ep,h.get? a=some o/\o.ExactDict/\o.data=.dict es ep/\es.toList=xs.map (entryOfKey (tupleKind (CG P w)))/\(xs.map (·.1)).Nodup
 | .set S n=>h.SetOf (intKind P w) a S n
 | .ins C dx fs=>H dx=some (.own a)/\fs.length<=1000/\dx≠a/\h.get? a=some (W.instObj C dx) /\
   ∃mA,h.Ns1 dx mA/\(∀f,JB (fs.lookup f) (mA f))/\PySem.Within mA (fs.map (·.1))
 | .own _=>∃o,h.get? a=some o
 | .xd fs=>∃mA,h.Ns1 a mA/\∀f,JB (fs.lookup f) (mA f)
 | .rng lo hi=>∃t u v,h.get? a=some { cls:=.type "range",data:=.fields #[.int lo t,.int hi u,.int 1 v] }
 | .frz o u=>h.get? a=some o/\Ci H h a u
 | .tbl ps=>h.get? a=some { cls:=.none,data:=.fields ps }
 | .met f x=>h.get? a=some (W.methodObj (.ref f) (.ref x))
 | .ext φ=>φ h/\(∃o,h.get? a=some o)/\∀h1 h2:Heap,φ h1->(∀o,h1.get? a=some o->h2.get? a=some o)->φ h2
def HOk(H:Hp)(h:Heap):Prop:=∀a o,H a=some o->Ci P w H h a o
end
section
variable {P:Program}{w:World}{H H':Hp}{h h':Heap}{a:Addr}{o:HO}
theorem Ci.lt(x:Ci P w H h a o):a<h.objs.size:=by
 cases o with
 | lst xs=>obtain⟨_,_,_,_,e⟩:=x;exact ASy e
 | tup xs=>obtain⟨_,_,_,p⟩:=x;exact p.lt
 | dK aG=>obtain⟨_,_,_,_,o,_,_,e,_⟩:=x;exact ASy e
 | dT aG=>obtain⟨_,_,_,_,o,_,_,e,_⟩:=x;exact ASy e
 | set S n=>obtain⟨o,_,_,_,e,_⟩:=x;exact ASy e
 | ins C dx fs=>obtain⟨_,_,_,e,_⟩:=x;exact ASy e
 | own y=>obtain⟨_,e⟩:=x;exact ASy e
 | xd fs=>obtain⟨_,⟨_,_,_,e,_⟩,_⟩:=x;exact ASy e
 | rng lo hi=>obtain⟨_,_,_,e⟩:=x;exact ASy e
 | frz ob u=>obtain⟨e,_⟩:=x;exact ASy e
 | tbl ps=>exact ASy (show h.get? a=some _ from x)
 | met f y=>exact ASy (show h.get? a=some _ from x)
 | ext φ=>obtain⟨_,⟨_,e⟩,_⟩:=x;exact ASy e
theorem Paired.mapP{α β:Type}{F G:α->β->Prop}:∀{zx:List α} {zu:List β},Paired F zx zu->(∀a b,F a b->G a b)->Paired G zx zu
 | _,_,.nil,_=>.nil
 | _,_,.cons r t,f=>.cons (f _ _ r) (Paired.mapP t f)
theorem Paired.imp'{α β:Type}{F G:α->β->Prop}(f:∀a b,F a b->G a b){zx:List α}{zu:List β}(r:Paired F zx zu):Paired G zx zu:=Paired.mapP r f
theorem Ci.stay(x:Ci P w H h a o)(k:∀b u,(b=a\/H b=some (.own a))->h.get? b=some u->h'.get? b=some u)
  (ho:∀b,H b=some (.own a)->H' b=some (.own a)) (ht:∀b xs,H b=some (.tup xs)->H' b=some (.tup xs)):Ci P w H' h' a o:=by
 induction o with
 | lst xs=>obtain⟨z,its,n,r,e⟩:=x;exact⟨z,its,n,r,k _ _ (.inl rfl) e⟩
 | tup xs=>obtain⟨z,its,r,ob,e,c⟩:=x;exact⟨z,its,r,ob,k _ _ (.inl rfl) e,c⟩
 | dK aG=>obtain⟨z,y,vs,r,ob,es,ep,e,c⟩:=x;exact⟨z,y,vs,r,ob,es,ep,k _ _ (.inl rfl) e,c⟩
 | dT aG =>
  obtain⟨z,y,xs,r,ob,es,ep,e,c⟩:=x;exact⟨z,y,xs,Paired.mapP r fun p q z=>⟨z.1,ht _ _ z.2.1,z.2.2⟩,ob,es,ep,k _ _ (.inl rfl) e,c⟩
 | set S n=>obtain⟨ob,es,ep,t,e,c⟩:=x;exact⟨ob,es,ep,t,k _ _ (.inl rfl) e,c⟩
 | ins C dx fs =>
  obtain⟨d,z,ne,e,mA,⟨od,es,ep,e2,c⟩,r⟩:=x;exact⟨ho _ d,z,ne,k _ _ (.inl rfl) e,mA,⟨od,es,ep,k _ _ (.inr d) e2,c⟩,r⟩
 | own y=>obtain⟨ob,e⟩:=x;exact⟨ob,k _ _ (.inl rfl) e⟩
 | xd fs=>obtain⟨mA,⟨od,es,ep,e,c⟩,r⟩:=x;exact⟨mA,⟨od,es,ep,k _ _ (.inl rfl) e,c⟩,r⟩
 | rng lo hi=>obtain⟨t,u,v,e⟩:=x;exact⟨t,u,v,k _ _ (.inl rfl) e⟩
 | frz ob u ih=>obtain⟨e,q⟩:=x;exact⟨k _ _ (.inl rfl) e,ih q⟩
 | tbl ps =>
  have e:h.get? a=some { cls:=.none,data:=.fields ps }:=x;show h'.get? a=some { cls:=.none,data:=.fields ps };exact k a _ (.inl rfl) e
 | met f y =>
  have e:h.get? a=some (W.methodObj (.ref f) (.ref y)):=x;show h'.get? a=some (W.methodObj (.ref f) (.ref y));exact k a _ (.inl rfl) e
 | ext φ=>obtain⟨p,⟨o,e⟩,st⟩:=x;exact⟨st _ _ p fun o q=>k _ _ (.inl rfl) q,⟨o,k _ _ (.inl rfl) e⟩,st⟩
theorem HOk.lt(x:HOk P w H h)(e:H a=some o):a<h.objs.size:=(x a o e).lt
theorem HOk.fresh(x:HOk P w H h)(e:h.objs.size<=a):H a=none:=by
 cases q:H a with
 | none=>rfl
 | some u=>exact absurd (ATB (x.lt q) e) (AUV _)
theorem HOk.kept(x:HOk P w H h)(k:∀b u,h.get? b=some u->h'.get? b=some u):HOk P w H h':=fun a o e =>
 (x a o e).stay (fun b u _ q=>k b u q) (fun _ q=>q) fun _ _ q=>q
theorem HOk.laid(x:HOk P w H h)(k:∀b u,h.get? b=some u->h'.get? b=some u)(hp:h.objs.size<=a)(new:Ci P w (upd H a o) h' a o):HOk P w (upd H a o) h':=fun b u e=>by
 have hn:=x.fresh hp;by_cases hb:b=a
 .subst hb;rw[Ag]at e;cases e;exact new
 .rw[Az hb]at e;exact(x b u e).stay (fun c v _ q=>k c v q) (fun c q=>by rw[Az (BL q hn)];exact q) fun c xs q=>by rw[Az (BL q hn)];exact q
end
def Rd(H:Hp)(a:Addr)(u:HO):Prop:=H a=some u\/∃o,H a=some (.frz o u)
theorem Rd.ok{P:Program}{w:World}{H:Hp}{h:Heap}{a:Addr}{u:HO}(r:Rd H a u)(x:HOk P w H h):Ci P w H h a u:=by
 rcases r with r|⟨o,r⟩
 .exact x a u r
 .obtain⟨_,q⟩:=x a _ r;exact q
def Mut:Option HO->Prop
 | some (.lst _)=>True
 | some (.dK _)=>True
 | some (.dT _)=>True
 | some (.set _ _)=>True
 | some (.ins _ _ _)=>True
 | some (.ext _)=>True
 | _=>False
section
variable {P:Program}{w:World}{H:Hp}{h h':Heap}{x e:Addr}{o':HO}
theorem HOk.write(ok:HOk P w H h)(mu:Mut (H x))(he:e=x\/H e=some (.own x))(k:∀b u,b≠e->h.get? b=some u->h'.get? b=some u)(heo:∃u,h'.get? e=some u)
  (new:Ci P w (upd H x o') h' x o'):HOk P w (upd H x o') h':=fun b u q=>by
 have iR:∀c y,H c=some (.own y)->c≠x:=fun c y r z=>by subst z;rw[r]at mu;exact mu
 have kF:∀c xs,H c=some (.tup xs)->c≠x:=fun c xs r z=>by subst z;rw[r]at mu;exact mu
 by_cases hb:b=x
 .subst hb;rw[Ag]at q;cases q;exact new
 .rw[Az hb]at q;by_cases hbe:b=e
  .have q':H b=some (.own x):=by
    rcases he with z|z
    .exact absurd (hbe.trans z) hb
    .rw[hbe];exact z
   rw[q]at q';cases q';obtain⟨v,hv⟩:=heo;exact⟨v,by rw[hbe];exact hv⟩
  .refine(ok b u q).stay (fun c v hc r=>k c v ?_ r) (fun c r=>by rw[Az (iR c b r)];exact r) fun c xs r=>by rw[Az (kF c xs r)];exact r
   rcases hc with rfl|hc
   .exact hbe
   .rintro rfl;rcases he with z|z
    .exact iR c b hc z
    .rw[hc]at z;cases z;exact hb rfl
end
structure Un(fs ex:List Addr)(H H':Hp)(h h':Heap):Prop where
 keep:∀b o,h.get? b=some o->H b=none->b∉fs->b∉ex->h'.get? b=some o
 slot:∀b o,h.get? b=some o->H b=none->b∈fs->b∉ex->∃sl,h'.get? b=some { o with slots:=sl }
 free:∀b o,h.get? b=some o->H b=none->b∉ex->H' b=none
 there:∀b o,h.get? b=some o->b∉ex->∃o',h'.get? b=some o'
 tups:∀b xs,H b=some (.tup xs)->H' b=some (.tup xs)
 frzs:∀b o u,H b=some (.frz o u)->H' b=some (.frz o u)
 tbls:∀b ps,H b=some (.tbl ps)->∃more,H' b=some (.tbl (ps++more))
section
variable {fs fs' ex ex':List Addr}{H H1 H2:Hp}{h h1 h2 h':Heap}{a x e:Addr}{o:HO}
theorem Un.any(u:Un fs ex H H1 h h1){b:Addr}{ob:Obj}(q:h.get? b=some ob)(n:H b=none)(hx:b∉ex):∃sl,h1.get? b=some { ob with slots:=sl }:=by
 by_cases hb:b∈fs
 .exact u.slot b ob q n hb hx
 .exact⟨ob.slots,u.keep b ob q n hb hx⟩
theorem Un.kept(k:∀b u,h.get? b=some u->h'.get? b=some u):Un fs ex H H h h' :=
 ⟨fun b ob q _ _ _=>k b ob q,fun b ob q _ _ _=>⟨ob.slots,k b ob q⟩,fun _ _ _ n _=>n,fun b ob q _=>⟨ob,k b ob q⟩,fun _ _ q=>q,fun _ _ _ q=>q,fun _ ps q=>⟨#[],by rw[q];simp⟩⟩
theorem Un.refl:Un fs ex H H h h:=Un.kept fun _ _ q=>q
theorem Un.laid(k:∀b u,h.get? b=some u->h'.get? b=some u)(hp:h.objs.size<=a)(hn:H a=none):Un fs ex H (upd H a o) h h' where
 keep:=fun b u q _ _ _=>k b u q
 slot:=fun b u q _ _ _=>⟨u.slots,k b u q⟩
 free:=fun b u q n _=>by rw[Az (ATR (ATB (ASy q) hp))];exact n
 there:=fun b u q _=>⟨u,k b u q⟩
 tups:=fun b xs q=>by rw[Az (BL q hn)];exact q
 frzs:=fun b u xs q=>by rw[Az (BL q hn)];exact q
 tbls:=fun b ps q=>⟨#[],by rw[Az (BL q hn),q];simp⟩
theorem Un.write(mu:Mut (H x))(he:e=x\/H e=some (.own x))(k:∀b u,b≠e->h.get? b=some u->h'.get? b=some u)(heo:∃u,h'.get? e=some u):Un fs ex H (upd H x o) h h':=by
 have hx:∀b,H b=none->b≠x:=fun b n z=>by subst z;rw[n]at mu;exact mu
 have hb:∀b,H b=none->b≠e:=fun b n z=>by
  subst z;rcases he with r|r
  .exact hx b n r
  .rw[n]at r;cases r
 have hm:∀b u,H b=some u->¬Mut (some u)->b≠x:=fun b u q nm z=>by subst z;rw[q]at mu;exact nm mu
 refine⟨fun b u q n _ _=>k b u (hb b n) q,fun b u q n _ _=>⟨u.slots,k b u (hb b n) q⟩,fun b u q n _=>by rw[Az (hx b n)];exact n,fun b u q _=>?_,
  fun b xs q=>by rw[Az (hm b _ q fun z=>z)];exact q,fun b u xs q=>by rw[Az (hm b _ q fun z=>z)];exact q,fun b ps q=>⟨#[],by rw[Az (hm b _ q fun z=>z),q];simp⟩⟩
 by_cases hbe:b=e
 .subst hbe;exact heo
 .exact⟨u,k b u hbe q⟩
end
def trk(h:Heap)(H:Hp):List Addr:=(List.range h.objs.size).filter fun a=>(H a).isSome
def Uw(h:Heap)(H:Hp):Heap:=W.hideAll h (trk h H)
theorem AAm(h:Heap)(H:Hp):(Uw h H).objs.size=h.objs.size:=W.hideAll_size _ _
theorem ADB{h:Heap}{H:Hp}{b:Addr}{o:Obj}(e:h.get? b=some o)(n:H b=none):(Uw h H).get? b=some o :=
 W.hideAll_get _ e fun hm=>by
  have q:(H b).isSome=true:=(AVS.mp hm).2;rw[n]at q;simp at q
theorem AEd{h:Heap}{H:Hp}{b:Addr}{o:Obj}(e:(Uw h H).get? b=some o):h.get? b=some o/\H b=none:=by
 have e':h.get? b=some o:=W.of_hideAll (trk h H) e;refine⟨e',?_⟩;cases q:H b with
 | none=>rfl
 | some x =>
  have hm:b∈trk h H:=AVS.mpr ⟨AUw.mpr (ASy e'),by simp[q]⟩;have z:(Uw h H).get? b=none:=W.hideAll_none (trk h H) hm;rw[z]at e;cases e
def AEj(g h:Heap)(L:Addr):List (Addr×Obj):=(List.range h.objs.size).filterMap fun a=>if a=L\/(g.get? a).isSome=true then none else(h.get? a).map fun o=>(a,o)
def JC(g h:Heap)(L d:Addr):List (Addr×Obj):=(AEj g h L).filter fun p=>decide (p.1≠d)
structure Mod(K:W.Frag)(mg:Str->Option Value)(base:Heap):Prop where
 kin:K.In base
 glob:base.Ns mainGlobals mg
 blt:∃mb,base.Ns builtinsNs mb/\∀x:Str,x≠"__name__"->mb x=bootBuiltins x
 nolimit:base.NoLimit
structure Cx where
 prog:Program
 w:World
 K:W.Frag
 mg:Str->Option Value
 base:Heap
 A:Around
 N:List Str
 zb:Shared
 zc:Hp
 env:Env
 outer:List Env
 stack:List Env
 ex:List Addr
 fn:Str->Bool
 calm:Bool
 pn:List (Addr×Obj)
 xe:Value->Shared->Prop
def frs(l:List Env):List Addr:=l.filterMap (·.frame)
abbrev Cx.fs(X:Cx):List Addr:=frs X.outer
def Vis(sc:Scope)(x:Str):Prop:=sc.names.lookup x=some .local\/sc.names.lookup x=some .cell\/sc.names.lookup x=some .free
def Loc(sc:Scope)(x:Str):Prop:=sc.names.lookup x=some .local\/sc.names.lookup x=some .cell
def ARd(env:Env)(h:Heap)(m:Str->Option Value)(x:Str)(u:Value):Prop :=
 (env.kindOf x=some .local/\m x=some u)\/((env.kindOf x=some .cell\/env.kindOf x=some .free)/\∃c,env.cells.lookup x=some c/\h.IsCell c (some u))
structure Cx.Ok(X:Cx):Prop where
 mod:Mod X.K X.mg X.base
 kind:X.env.scope.kind=.function
 glob:X.env.globals=mainGlobals
 blt:X.env.builtins=builtinsNs
 above:X.zb.heap.objs.size<=X.env.locals
 inj:∀x y c,X.env.cells.lookup x=some c->X.env.cells.lookup y=some c->x=y
 has:∀x,(X.env.kindOf x=some .cell\/X.env.kindOf x=some .free)->∃c,X.env.cells.lookup x=some c
 cab:∀x c,X.fn x=true->X.env.cells.lookup x=some c->X.zb.heap.objs.size<=c
 hd:X.calm=true->X.A.handled=none
 frames:X.A.frames=some X.stack
 stk:X.stack=X.outer\/(X.stack=X.env::X.outer/\X.env.frame=some X.env.locals)
 exf:∀b∈X.ex,b≠X.env.locals/\∀x c,X.env.cells.lookup x=some c->c≠b
 bs:∀b o,X.base.get? b=some o->X.zb.heap.get? b=some o/\X.zc b=none
 bsz:X.base.objs.size<=X.zb.heap.objs.size
 noex:∀b o,X.base.get? b=some o->b∉X.ex
 exfs:∀b∈X.ex,b∉X.fs
 funs:X.zb.heap.FunFrames X.base X.outer
 frf:∀b∈X.fs,X.zc b=none
structure Inv(X:Cx)(aA:List (Addr×Obj))(σ:List (Option V))(H:Hp)(s:Shared):Prop where
 ok:X.Ok
 os:s.os=X.zb.os
 bare:AllBare s.gens
 base:Un X.fs X.ex X.zc H X.zb.heap s.heap
 loc:∃m,s.heap.Ns X.env.locals m/\∀(i:Nat) (x:Str) (v:V),X.N[i]?=some x->σ[i]?=some (some v)->Vis X.env.scope x->∃u,Bc v u/\ARd X.env s.heap m x u
 cell:∀x c,X.env.cells.lookup x=some c->∃v,s.heap.IsCell c v
 free:H X.env.locals=none
 freeC:∀x c,X.env.cells.lookup x=some c->H c=none
 pin:∀p∈X.pn++aA,s.heap.get? p.1=some p.2/\H p.1=none/\p.1≠X.env.locals/\p.1∉X.fs/\∀v,p.2.data≠.cell v
 hok:HOk X.prog X.w H s.heap
 len:σ.length=X.N.length
section
variable {X:Cx}{aA:List (Addr×Obj)}{σ:List (Option V)}{H H':Hp}{s:Shared}{h':Heap}
theorem Cx.Ok.nofr(ok:X.Ok){b:Addr}{o:Obj}(e:X.base.get? b=some o):b∉X.fs:=fun hb=>by
 have:=(ok.funs.mem hb).1;rw[e]at this;cases this
theorem Inv.bs(I:Inv X aA σ H s):∀b o,X.base.get? b=some o->s.heap.get? b=some o/\H b=none:=fun b o e =>
 ⟨I.base.keep b o (I.ok.bs b o e).1 (I.ok.bs b o e).2 (I.ok.nofr e) (I.ok.noex b o e),I.base.free b o (I.ok.bs b o e).1 (I.ok.bs b o e).2 (I.ok.noex b o e)⟩
theorem Inv.bk(I:Inv X aA σ H s):∀b o,X.base.get? b=some o->s.heap.get? b=some o:=fun b o e=>(I.bs b o e).1
theorem Inv.mod(I:Inv X aA σ H s):Mod X.K X.mg X.base:=I.ok.mod
theorem Inv.kIn(I:Inv X aA σ H s):X.K.In s.heap:=I.ok.mod.kin.keeps I.bk
theorem Inv.lt(I:Inv X aA σ H s):X.env.locals<s.heap.objs.size:=let ⟨_,hn,_⟩:=I.loc;hn.lt
theorem Inv.sz(I:Inv X aA σ H s):X.zb.heap.objs.size<=s.heap.objs.size:=ATG I.ok.above (AWw I.lt)
theorem Inv.nofs(I:Inv X aA σ H s){a:Addr}(h:s.heap.objs.size<=a):a∉X.fs:=fun hb=>by
 obtain⟨_,o,ho,_⟩:=I.ok.funs.mem hb;exact absurd (ATB (ASy ho) (ATG I.sz h)) (AUV _)
theorem Inv.cne(I:Inv X aA σ H s):∀x c,X.env.cells.lookup x=some c->c≠X.env.locals:=fun x c e z=>by
 obtain⟨v,o,ho,hd⟩:=I.cell x c e;obtain⟨m,⟨o',es,ep,ho',hd',_⟩,_⟩:=I.loc;rw[z,ho']at ho;cases ho;rw[hd']at hd;cases hd
theorem Inv.funs(I:Inv X aA σ H s):s.heap.FunFrames X.base X.outer:=by
 have all:∀(l:List Env),(∀b∈frs l,b∈X.fs)->X.zb.heap.FunFrames X.base l->s.heap.FunFrames X.base l:=by
  intro l
  induction l with
  | nil=>intro _ _;trivial
  | cons env r ih =>
   intro hs hl;obtain⟨hk,⟨L,o,hf,hn,ho,hd⟩,hr⟩:=hl;have hL:L∈X.fs:=hs L (by unfold frs;rw[AUF,hf];exact ATq);obtain⟨sl,e⟩:=I.base.slot L o ho (I.ok.frf L hL) hL fun z=>I.ok.exfs L z hL;exact⟨hk,⟨L,_,hf,hn,e,hd⟩,ih (fun b hb=>hs b (by unfold frs;rw[AUF,hf];exact ATS _ hb)) hr⟩
 exact all X.outer (fun _ hb=>hb) I.ok.funs
theorem Inv.stack(I:Inv X aA σ H s):s.heap.FunFrames X.base X.stack:=by
 rcases I.ok.stk with e|⟨e,hf⟩
 .rw[e];exact I.funs
 .rw[e];obtain⟨m,hn,_⟩:=I.loc;refine .cons (by rw[I.ok.kind];decide) hf hn ?_ I.funs;exact Heap.get?_none_of_le (ATG I.ok.bsz I.ok.above)
theorem Inv.stkSub(I:Inv X aA σ H s):∀b∈frs X.stack,b∈X.env.locals::X.fs:=fun b hb=>by
 rcases I.ok.stk with e|⟨e,hf⟩
 .rw[e]at hb;exact ATS _ hb
 .rw[e]at hb;unfold frs at hb;rw[AUF,hf]at hb;exact hb
theorem Inv.stkFree(I:Inv X aA σ H s):∀b∈frs X.stack,H b=none:=fun b hb=>by
 rcases AS2.mp (I.stkSub b hb) with e|hb
 .rw[e];exact I.free
 .obtain⟨_,o,ho,_⟩:=I.ok.funs.mem hb;exact I.base.free b o ho (I.ok.frf b hb) fun z=>I.ok.exfs b z hb
theorem Inv.step{g':Array GenState}{t':Nat}{d':Drawn}{ch:List Addr}(I:Inv X aA σ H s)
  (hch:∀b∈ch,(b∈X.ex\/X.zb.heap.objs.size<=b)/\b≠X.env.locals/\(∀x c,X.env.cells.lookup x=some c->c≠b)/\∀p∈X.pn++aA,p.1≠b)
  (keep:∀b o,b≠X.env.locals->b∉X.fs->b∉ch->s.heap.get? b=some o->H b=none->h'.get? b=some o)
  (slot:∀b o,b≠X.env.locals->b∈X.fs->b∉ch->s.heap.get? b=some o->H b=none->∃sl,h'.get? b=some { o with slots:=sl }) (free:∀b o,b∉ch->s.heap.get? b=some o->H b=none->H' b=none)
  (there:∀b o,b∉ch->s.heap.get? b=some o->∃o',h'.get? b=some o')
  (tups:∀b xs,H b=some (.tup xs)->H' b=some (.tup xs)) (frzs:∀b o u,H b=some (.frz o u)->H' b=some (.frz o u)) (tbls:∀b ps,H b=some (.tbl ps)->∃more,H' b=some (.tbl (ps++more)))
  (ns:∀m,s.heap.Ns X.env.locals m->h'.Ns X.env.locals m) (hok:HOk X.prog X.w H' h') (hg:AllBare g') :
  Inv X aA σ H' { s with heap:=h',gens:=g',drawn:=d',toks:=t' }:=by
 have nP:∀b o,X.zb.heap.get? b=some o->b≠X.env.locals:=fun b o e=>ATR (ATB (ASy e) I.ok.above);have jQ:∀b o,X.zb.heap.get? b=some o->b∉X.ex->b∉ch:=fun b o e hx hb=>by
  rcases(hch b hb).1 with z | z
  .exact hx z
  .exact absurd (ATB (ASy e) z) (AUV _)
 have cellK:∀x c,X.env.cells.lookup x=some c->∀v,s.heap.IsCell c v->h'.IsCell c v:=fun x c e v ⟨o,ho,hd⟩=>by
  have iS:c∉ch:=fun z=>(hch c z).2.2.1 x c e rfl;by_cases hc:c∈X.fs
  .obtain⟨sl,q⟩:=slot c o (I.cne x c e) hc iS ho (I.freeC x c e);exact⟨_,q,hd⟩
  .exact⟨o,keep c o (I.cne x c e) hc iS ho (I.freeC x c e),hd⟩
 refine⟨I.ok,I.os,hg,⟨fun b o e n hb hx=>?_,fun b o e n hb hx=>?_,fun b o e n hx=>?_,fun b o e hx=>?_,fun b xs e=>tups b xs (I.base.tups b xs e),fun b o xs e=>frzs b o xs (I.base.frzs b o xs e),fun b ps e=>?_⟩,?_,fun x c e=>?_,?_,fun x c e=>?_,fun p hp=>?_,hok,I.len⟩
 .exact keep b o (nP b o e) hb (jQ b o e hx) (I.base.keep b o e n hb hx) (I.base.free b o e n hx)
 .walk_at "a1";obtain⟨sl',e2⟩:=slot b _ (nP b o e) hb (jQ b o e hx) e1 (I.base.free b o e n hx);exact⟨sl',e2⟩
 .walk_at "ar";exact free b o' (jQ b o e hx) e1 (I.base.free b o e n hx)
 .walk_at "ar";exact there b o' (jQ b o e hx) e1
 .obtain⟨m1,e1⟩:=I.base.tbls b ps e;obtain⟨m2,e2⟩:=tbls b _ e1;exact⟨m1++m2,by rw[e2,Array.append_assoc]⟩
 .obtain⟨m,hn,hl⟩:=I.loc;refine⟨m,ns m hn,fun i x v e1 e2 e3=>?_⟩;obtain⟨u,r,l⟩:=hl i x v e1 e2 e3;refine⟨u,r,?_⟩;rcases l with l|⟨k,c,e,z⟩
  .exact .inl l
  .exact .inr ⟨k,c,e,cellK x c e _ z⟩
 .obtain⟨v,z⟩:=I.cell x c e;exact⟨v,cellK x c e v z⟩
 .obtain⟨m,⟨o,_,_,ho,_⟩,_⟩:=I.loc;exact free _ o (fun z=>(hch _ z).2.1 rfl) ho I.free
 .obtain⟨v,o,ho,hd⟩:=I.cell x c e;exact free c o (fun z=>(hch c z).2.2.1 x c e rfl) ho (I.freeC x c e)
 .obtain⟨e,n,ne,nf,d⟩:=I.pin p hp;have iS:p.1∉ch:=fun z=>(hch p.1 z).2.2.2 p hp rfl;exact⟨keep p.1 p.2 ne nf iS e n,free p.1 p.2 iS e n,ne,nf,d⟩
theorem Inv.un{t':Nat}(I:Inv X aA σ H s)(u:Un X.fs [] H H' s.heap h')(hok:HOk X.prog X.w H' h'):Inv X aA σ H' { s with heap:=h',toks:=t' }:=by
 obtain⟨m,⟨o,es,ep,ho,r⟩,_⟩:=id I.loc;obtain⟨sl,hL⟩:=u.any ho I.free (by simp);exact I.step (g':=s.gens) (d':=s.drawn) (ch:=[]) (fun _ z=>nomatch z) (fun b o _ hb _ e n=>u.keep b o e n hb (by simp)) (fun b o _ hb _ e n=>u.slot b o e n hb (by simp)) (fun b o _ e n=>u.free b o e n (by simp)) (fun b o _ e=>u.there b o e (by simp)) u.tups u.frzs u.tbls (fun m' hm=>by
  obtain⟨o',es',ep',ho',r'⟩:=hm;rw[ho]at ho';cases ho';exact⟨_,es',ep',hL,r'⟩) hok I.bare
theorem Inv.call{g':Array GenState}{t':Nat}{d':Drawn}{ch:List Addr}(I:Inv X aA σ H s)(u:Un (frs X.stack) ch H H' s.heap h')(hok:HOk X.prog X.w H' h')(hg:AllBare g')
  (hch:∀b∈ch,(b∈X.ex\/X.zb.heap.objs.size<=b)/\b≠X.env.locals/\(∀x c,X.env.cells.lookup x=some c->c≠b)/\∀p∈X.pn++aA,p.1≠b) :
  Inv X aA σ H' { s with heap:=h',gens:=g',drawn:=d',toks:=t' }:=by
 obtain⟨m,⟨o,es,ep,ho,r⟩,_⟩:=id I.loc;obtain⟨sl,hL⟩:=u.any ho I.free fun z=>(hch _ z).2.1 rfl;exact I.step (ch:=ch) hch (fun b o hL hb hc e n=>u.keep b o e n (fun z=>(AS2.mp (I.stkSub b z)).elim hL hb) hc) (fun b o _ _ hc e n=>u.any e n hc) (fun b o hc e n=>u.free b o e n hc) (fun b o hc e=>u.there b o e hc) u.tups u.frzs u.tbls (fun m' hm=>by
  obtain⟨o',es',ep',ho',r'⟩:=hm;rw[ho]at ho';cases ho';exact⟨_,es',ep',hL,r'⟩) hok hg
theorem Inv.turned{t':Nat}{it:Addr}(I:Inv X aA σ H s)(k:∀b o,b≠it->s.heap.get? b=some o->h'.get? b=some o)(hn:H it=none)(hL:it≠X.env.locals)
  (h1:it∈X.ex\/X.zb.heap.objs.size<=it) (h2:∀x c,X.env.cells.lookup x=some c->c≠it) (h3:∀p∈X.pn++aA,p.1≠it):Inv X aA σ H { s with heap:=h',toks:=t' }:=by
 have iT:∀b u,H b=some u->b≠it:=fun b u e z=>by rw[z,hn]at e;cases e
 refine I.step (g':=s.gens) (d':=s.drawn) (ch:=[it]) (fun b hb=>?_) (fun b o _ _ hc e _=>k b o (fun z=>hc (by simp[z])) e) (fun b o _ _ hc e _=>⟨o.slots,k b o (fun z=>hc (by simp[z])) e⟩) (fun _ _ _ _ n=>n)
  (fun b o hc e=>⟨o,k b o (fun z=>hc (by simp[z])) e⟩) (fun _ _ e=>e) (fun _ _ _ e=>e) (fun b ps e=>⟨#[],by rw[e];simp⟩) (fun m hm=>?_) (fun b u e=>?_) I.bare
 .walk_at "aF"
  subst e;exact⟨h1,hL,h2,h3⟩
 .obtain⟨o,es,ep,ho,r⟩:=hm;exact⟨o,es,ep,k _ o (AVT hL) ho,r⟩
 .walk_at "ax"
  .rw[z];exact iT b u e
  .exact iT c _ z
theorem Inv.tok(I:Inv X aA σ H s)(t:Nat):Inv X aA σ H { s with toks:=t }:=I.un (h':=s.heap) (t':=t) Un.refl I.hok
theorem Inv.kept{t':Nat}(I:Inv X aA σ H s)(k:∀b u,s.heap.get? b=some u->h'.get? b=some u):Inv X aA σ H { s with heap:=h',toks:=t' }:=I.un (Un.kept k) (I.hok.kept k)
theorem Inv.laid{a:Addr}{o:HO}{t':Nat}(I:Inv X aA σ H s)(k:∀b u,s.heap.get? b=some u->h'.get? b=some u)(hp:s.heap.objs.size<=a)(new:Ci X.prog X.w (upd H a o) h' a o) :
  Inv X aA σ (upd H a o) { s with heap:=h',toks:=t' }:=I.un (Un.laid k hp (I.hok.fresh hp)) (I.hok.laid k hp new)
theorem Inv.write{x e:Addr}{o:HO}{t':Nat}(I:Inv X aA σ H s)(mu:Mut (H x))(he:e=x\/H e=some (.own x))(k:∀b u,b≠e->s.heap.get? b=some u->h'.get? b=some u)(heo:∃u,h'.get? e=some u)
  (new:Ci X.prog X.w (upd H x o) h' x o):Inv X aA σ (upd H x o) { s with heap:=h',toks:=t' }:=I.un (Un.write mu he k heo) (I.hok.write mu he k heo new)
theorem Inv.weak{zd:List (Option V)}(I:Inv X aA σ H s)(hl:zd.length=σ.length)(w:∀(i:Nat) v,zd[i]?=some (some v)->σ[i]?=some (some v)):Inv X aA zd H s :=
 ⟨I.ok,I.os,I.bare,I.base,let ⟨m,hn,hl'⟩:=I.loc;⟨m,hn,fun i x v e1 e2 e3=>hl' i x v e1 (w i v e2) e3⟩,I.cell,I.free,I.freeC,I.pin,I.hok,hl.trans I.len⟩
theorem Inv.pins_of{gL:List (Addr×Obj)}(I:Inv X aA σ H s)(h:∀p∈gL,s.heap.get? p.1=some p.2/\H p.1=none/\p.1≠X.env.locals/\p.1∉X.fs/\∀v,p.2.data≠.cell v):Inv X gL σ H s :=
 ⟨I.ok,I.os,I.bare,I.base,I.loc,I.cell,I.free,I.freeC,fun p hp=>(ATU.mp hp).elim (fun z=>I.pin p (AUt _ z)) (h p),I.hok,I.len⟩
theorem Ve{N:List Str}(hN:N.Nodup){i j:Nat}{x:Str}(a:N[i]?=some x)(b:N[j]?=some x):i=j:=by
 obtain⟨h1,e1⟩:=AS7.mp a;obtain⟨h2,e2⟩:=AS7.mp b;exact(List.getElem_inj hN).mp (e1.trans e2.symm)
theorem Z4{M:Model}{A:Around}{E:Value->Shared->Prop}{i:Nat}{x:Str}{v:V}{u:Value}{Q:Unit->Shared->Prop}(I:Inv X aA σ H s)(hN:X.N.Nodup)(hi:X.N[i]?=some x)(hx:Loc X.env.scope x)(r:Bc v u)
  (h:∀s',Inv X aA (σ.set i (some v)) H s'->(∃a,Heap.SameBut a s.heap s'.heap/\(a=X.env.locals\/X.env.cells.lookup x=some a))->Q () s') (hf:X.fn x=true\/X.env.scope.names.lookup x=some .local:=by first | exact .inl rfl | exact .inr rfl | assumption):wpAny M A (storeName X.env x u) Q E s:=by
 obtain⟨m,hn,hl⟩:=id I.loc;have hcls:(X.env.scope.kind==.class || (X.env.scope.kind==.module&&X.env.locals != X.env.globals))=false:=by rw[I.ok.kind];rfl
 have nQ:i<σ.length:=by rw[I.len];exact(AS7.mp hi).1
 have cne:=I.cne;have tracked:∀{a:Addr} {h':Heap},(∃o,s.heap.get? a=some o/\H a=none)->Heap.SameBut a s.heap h'->HOk X.prog X.w H h':=fun {a h'} ha hs b ob e=>by
  obtain⟨_,_,hfree⟩:=ha;refine(I.hok b ob e).stay (fun c w' hc q=>(hs.2 c ?_).trans q) (fun _ q=>q) fun _ _ q=>q;rintro rfl;rcases hc with rfl|hc
  .rw[hfree]at e;cases e
  .rw[hfree]at hc;cases hc
 rcases hx with hk|hk
 .refine wpAny_storeName_local hk hn (fun h' hn' hs=>?_) hcls;obtain⟨oL,_,_,hoL,_⟩:=id hn;refine h _ ⟨I.ok,I.os,I.bare,⟨fun b o e n hb hx=>?_,fun b o e n hb hx=>?_,I.base.free,fun b o e hx=>?_,I.base.tups,I.base.frzs,I.base.tbls⟩,⟨_,hn',fun j y v' e1 e2 e3=>?_⟩,fun y c e=>?_,I.free,I.freeC,fun p hp=>?_,tracked ⟨oL,hoL,I.free⟩ hs,by simpa using I.len⟩ ⟨_,hs,.inl rfl⟩
  .exact(hs.2 b (ATR (ATB (ASy e) I.ok.above))).trans (I.base.keep b o e n hb hx)
  .walk_at "a1";exact⟨sl,(hs.2 b (ATR (ATB (ASy e) I.ok.above))).trans e1⟩
  .walk_at "ar";exact⟨o',(hs.2 b (ATR (ATB (ASy e) I.ok.above))).trans e1⟩
  .by_cases hj:j=i
   .subst hj;rw[hi]at e1;cases e1;rw[AWB nQ]at e2;cases e2;exact⟨u,r,.inl ⟨hk,by simp⟩⟩
   .walk_at "aP";rcases q with⟨k,e⟩|⟨k,c,e,z⟩
    .refine .inl ⟨k,?_⟩;have:y≠x:=fun e=>hj (Ve hN e1 (e ▸ hi));simp[this,e]
    .exact .inr ⟨k,c,e,z.sameBut hs (cne y c e)⟩
  .obtain⟨w',z⟩:=I.cell y c e;exact⟨w',z.sameBut hs (cne y c e)⟩
  .obtain⟨e,n,ne,nf,d⟩:=I.pin p hp;exact⟨(hs.2 p.1 ne).trans e,n,ne,nf,d⟩
 .have hfn:X.fn x=true:=by
   rcases hf with z|z
   .exact z
   .rw[z]at hk;cases hk
  obtain⟨c,hc⟩:=I.ok.has x (.inl hk);obtain⟨w',z⟩:=I.cell x c hc;refine wpAny_storeName_cell I.ok.kind hk hc z (fun h' hc' hs=>?_);obtain⟨oc,hoc,kG⟩:=id z;refine h { s with heap:=h' } ⟨I.ok,I.os,I.bare,⟨fun b o e n hb hx=>?_,fun b o e n hb hx=>?_,I.base.free,fun b o e hx=>?_,I.base.tups,I.base.frzs,I.base.tbls⟩,⟨m,hn.sameBut hs (AVT (cne x c hc)),fun j y v' e1 e2 e3=>?_⟩,fun y c' e=>?_,I.free,I.freeC,fun p hp=>?_,tracked ⟨oc,hoc,I.freeC x c hc⟩ hs,by simpa using I.len⟩ ⟨c,hs,.inr hc⟩
  .exact(hs.2 b (ATR (ATB (ASy e) (I.ok.cab x c hfn hc)))).trans (I.base.keep b o e n hb hx)
  .walk_at "a1";exact⟨sl,(hs.2 b (ATR (ATB (ASy e) (I.ok.cab x c hfn hc)))).trans e1⟩
  .walk_at "ar";exact⟨o',(hs.2 b (ATR (ATB (ASy e) (I.ok.cab x c hfn hc)))).trans e1⟩
  .by_cases hj:j=i
   .subst hj;rw[hi]at e1;cases e1;rw[AWB nQ]at e2;cases e2;exact⟨u,r,.inr ⟨.inl hk,c,hc,hc'⟩⟩
   .walk_at "aP";rcases q with q|⟨k,c',e,z'⟩
    .exact .inl q
    .refine .inr ⟨k,c',e,z'.sameBut hs ?_⟩;rintro rfl;exact hj (Ve hN e1 (I.ok.inj _ _ _ e hc ▸ hi))
  .by_cases hcc:c'=c
   .subst hcc;exact⟨_,hc'⟩
   .obtain⟨w2,z2⟩:=I.cell y c' e;exact⟨w2,z2.sameBut hs hcc⟩
  .obtain⟨e,n,ne,nf,d⟩:=I.pin p hp;refine⟨(hs.2 p.1 ?_).trans e,n,ne,nf,d⟩;intro q;rw[q,hoc]at e;have q':oc=p.2:=AS5 e;exact d w' (by rw[<-q'];exact kG)
theorem Jm{M:Model}{A:Around}{E:Value->Shared->Prop}{i:Nat}{x:Str}{v:V}{u:Value}{Q:Unit->Shared->Prop}(I:Inv X aA σ H s)(hN:X.N.Nodup)(hi:X.N[i]?=some x)(hx:Loc X.env.scope x)(r:Bc v u)
  (h:∀s',Inv X aA (σ.set i (some v)) H s'->Q () s') (hf:X.fn x=true\/X.env.scope.names.lookup x=some .local:=by first | exact .inl rfl | exact .inr rfl | assumption):wpAny M A (storeName X.env x u) Q E s :=
 Z4 I hN hi hx r (fun s' I' _=>h s' I') hf
theorem Inv.call'{s':Shared}{ch:List Addr}(I:Inv X aA σ H s)(ho:s'.os=s.os)(u:Un (frs X.stack) ch H H' s.heap s'.heap)(hok:HOk X.prog X.w H' s'.heap)(hg:AllBare s'.gens)
  (hch:∀b∈ch,(b∈X.ex\/X.zb.heap.objs.size<=b)/\b≠X.env.locals/\(∀x c,X.env.cells.lookup x=some c->c≠b)/\∀p∈X.pn++aA,p.1≠b):Inv X aA σ H' s':=by
 obtain⟨h',g',d',t',o'⟩:=s';have e:o'=s.os:=ho;subst e;exact I.call (g':=g') (t':=t') (d':=d') u hok hg hch
end
abbrev XK:=Value->Option Addr->Hp->Prop
abbrev St:=List (Option V)
abbrev VK:=V->Hp->Prop
abbrev TE:=St->Hp->VK->Prop
abbrev TT:=St->Hp->(Bool->Hp->Prop)->Prop
abbrev TA:=St->Hp->(List V->Hp->Prop)->Prop
structure Lj where
 nx:St->Hp->Prop
 rt:VK
 bk:St->Hp->Prop:=fun _ _=>False
 ct:St->Hp->Prop:=fun _ _=>False
abbrev TS:=Lj->St->Hp->Prop
def EP(X:Cx)(aA:List (Addr×Obj))(σ:St)(Q:VK)(u:Value)(s':Shared):Prop:=∃v H',Inv X aA σ H' s'/\Bc v u/\Q v H'
def TP(X:Cx)(aA:List (Addr×Obj))(σ:St)(Q:Bool->Hp->Prop)(b:Bool)(s':Shared):Prop:=∃H',Inv X aA σ H' s'/\Q b H'
def AP(X:Cx)(aA:List (Addr×Obj))(σ:St)(Q:List V->Hp->Prop)(us:List Value)(s':Shared):Prop:=∃vs H',Inv X aA σ H' s'/\BW vs us/\Q vs H'
def SP(X:Cx)(aA:List (Addr×Obj))(D:Lj)(f:Flow)(s':Shared):Prop :=
 match f with
 | .next=>∃zd H',Inv X aA zd H' s'/\D.nx zd H'
 | .brk=>∃zd H',Inv X aA zd H' s'/\D.bk zd H'
 | .cont=>∃zd H',Inv X aA zd H' s'/\D.ct zd H'
 | .ret u=>∃v zd H',Inv X aA zd H' s'/\Bc v u/\D.rt v H'
def PE(X:Cx)(e:Expr)(t:TE):Prop :=
 ∀(aA:List (Addr×Obj)) (s:Shared) (σ:St) (H:Hp) (Q:VK),Inv X aA σ H s->t σ H Q->wpAny (model X.prog X.w) X.A (eval e X.env) (EP X aA σ Q) X.xe s
def PT(X:Cx)(e:Expr)(t:TT):Prop :=
 ∀(aA:List (Addr×Obj)) (s:Shared) (σ:St) (H:Hp) (Q:Bool->Hp->Prop),Inv X aA σ H s->t σ H Q->wpAny (model X.prog X.w) X.A (isTrue e X.env (eval e X.env)) (TP X aA σ Q) X.xe s
def PW(X:Cx)(e:Expr)(t:TT):Prop :=
 ∀(whole:Sem Value) (aA:List (Addr×Obj)) (s:Shared) (σ:St) (H:Hp) (Q:Bool->Hp->Prop),Inv X aA σ H s->t σ H Q->wpAny (model X.prog X.w) X.A (isTrue e X.env whole) (TP X aA σ Q) X.xe s
theorem PW.pt{X:Cx}{e:Expr}{t:TT}(h:PW X e t):PT X e t:=h _
def PA(X:Cx)(es:List Expr)(t:TA):Prop :=
 ∀(pos:Pos) (aA:List (Addr×Obj)) (s:Shared) (σ:St) (H:Hp) (Q:List V->Hp->Prop),Inv X aA σ H s->t σ H Q->wpAny (model X.prog X.w) X.A (spliced (backTo pos (starEach es X.env))) (AP X aA σ Q) X.xe s
def PS(X:Cx)(st:Stmt)(t:TS):Prop :=
 ∀(aA:List (Addr×Obj)) (s:Shared) (σ:St) (H:Hp) (D:Lj),Inv X aA σ H s->t D σ H->wpAny (model X.prog X.w) X.A (exec st X.env) (SP X aA D) X.xe s
def PSs(X:Cx)(st:List Stmt)(t:TS):Prop :=
 ∀(aA:List (Addr×Obj)) (s:Shared) (σ:St) (H:Hp) (D:Lj),Inv X aA σ H s->t D σ H->wpAny (model X.prog X.w) X.A (execs st X.env) (SP X aA D) X.xe s
theorem thn{α:Type}{t:Sem α}{Q Q':α->Shared->Prop}{M:Model}{A:Around}{E:Value->Shared->Prop}{s:Shared}(h:wpAny M A t Q E s)(hQ:∀a s,Q a s->Q' a s):wpAny M A t Q' E s:=ATt h hQ fun _ _ x=>x
section
variable {X:Cx}
def AML(i:Nat):TE:=fun σ H Q=>∃v,σ[i]?=some (some v)/\Q v H
def tC(v:V):TE:=fun _ H Q=>Q v H
theorem AIn{i:Nat}{x:Str}{pos:Pos}(hN:X.N[i]?=some x)(hv:Vis X.env.scope x)(hd:(x==("__debug__":Str))=false:=by decide)(hcd:(x==("__classdict__":Str))=false:=by decide):PE X (.Name x pos) (AML i):=by
 walk_at "k";obtain⟨v,e,h⟩:=h;obtain⟨m,hn,hl⟩:=I.loc;obtain⟨u,r,l⟩:=hl i x v hN e hv;have fin:EP X aA σ Q u s:=⟨v,H,I,r,h⟩;rcases l with⟨hk,hm⟩|⟨hk,c,hc,hcell⟩
 .exact wpAny_Name (wpAny_loadName_local I.ok.kind hk hn hm fin) hd
 .rcases hk with hk|hk
  .exact wpAny_Name (wpAny_loadName_cell I.ok.kind hk hc hcell fin) hd
  .exact wpAny_Name (wpAny_loadName_free I.ok.kind hk hc hcell fin hcd) hd
theorem Ad{i j pos}:PE X (.Constant (.int i) j pos) (tC (.int i)):=fun _ _ _ H _ I h=>wpAny_Constant_int ⟨.int i,H,I.tok _,⟨_,rfl⟩,h⟩
theorem GF{b j pos}:PE X (.Constant (.bool b) j pos) (tC (.bl b)):=fun _ _ _ H _ I h=>Constant_bool ⟨.bl b,H,I,rfl,h⟩
theorem AB4{j pos}:PE X (.Constant .none j pos) (tC .non):=fun _ _ _ H _ I h=>Constant_none ⟨.non,H,I,rfl,h⟩
theorem Ao{x j pos}:PE X (.Constant (.str x) j pos) (tC (.str x)):=fun _ _ _ H _ I h=>Calls.Constant_str ⟨.str x,H,I.tok _,⟨_,rfl⟩,h⟩
def Gl(X:Cx)(x:Str):Prop:=X.env.kindOf x=some .globalImplicit
theorem Pj{E:Value->Shared->Prop}{aA:List (Addr×Obj)}{s:Shared}{σ:St}{H:Hp}{x:Str}{u:Value}{pos:Pos}{Q:Value->Shared->Prop}(I:Inv X aA σ H s)(hg:Gl X x)(hm:X.mg x=some u)(h:Q u s)
  (hd:(x==("__debug__":Str))=false:=by decide):wpAny (model X.prog X.w) X.A (eval (.Name x pos) X.env) Q E s :=
 AVg I.ok.kind hg (Calls.loadGlobal_global (by rw[I.ok.glob];exact I.mod.glob.keeps I.bk) hm h) hd
theorem HR{E:Value->Shared->Prop}{aA:List (Addr×Obj)}{s:Shared}{σ:St}{H:Hp}{x:Str}{u:Value}{pos:Pos}{Q:Value->Shared->Prop}(I:Inv X aA σ H s)(hg:Gl X x)(hm:X.mg x=none)(hv:bootBuiltins x=some u)(h:Q u s)
  (hn:x≠"__name__":=by decide) (hd:(x==("__debug__":Str))=false:=by decide):wpAny (model X.prog X.w) X.A (eval (.Name x pos) X.env) Q E s:=by
 obtain⟨mb,h1,h2⟩:=I.mod.blt;exact AVg I.ok.kind hg (Calls.loadGlobal_builtin (by rw[I.ok.glob];exact I.mod.glob.keeps I.bk) hm (by rw[I.ok.blt];exact h1.keeps I.bk) ((h2 x hn).trans hv) h) hd
theorem Ml{x:Str}{v:V}{u:Value}{pos:Pos}(hg:Gl X x)(hm:X.mg x=some u)(r:Bc v u)(hd:(x==("__debug__":Str))=false:=by decide):PE X (.Name x pos) (tC v) :=
 fun _ _ _ H _ I h=>Pj I hg hm ⟨v,H,I,r,h⟩ hd
theorem Ma{x:Str}{v:V}{u:Value}{pos:Pos}(hg:Gl X x)(hm:X.mg x=none)(hv:bootBuiltins x=some u)(r:Bc v u)(hn:x≠"__name__":=by decide)(hd:(x==("__debug__":Str))=false:=by decide):PE X (.Name x pos) (tC v) :=
 fun _ _ _ H _ I h=>HR I hg hm hv ⟨v,H,I,r,h⟩ hn hd
def t2I(ta tb:TE)(k:Int->Int->Hp->Prop):St->Hp->Prop:=fun σ H=>ta σ H fun x H1=>tb σ H1 fun y H2=>∃i j,x=.int i/\y=.int j/\k i j H2
def ASo(ta tb:TE):TE:=fun σ H Q=>t2I ta tb (fun i j H2=>Q (.int (i+j)) H2) σ H
def ASF(ta tb:TE):TE:=fun σ H Q=>t2I ta tb (fun i j H2=>Q (.int (i-j)) H2) σ H
def ASW(ta tb:TE):TE:=fun σ H Q=>t2I ta tb (fun i j H2=>(-(2^64)<i/\i<2^64)/\Q (.int (i*j)) H2) σ H
variable {a b:Expr}{ta tb:TE}{pos:Pos}
def PC(X:Cx)(op:CmpOp)(a b:Expr)(t:TE):Prop :=
 ∀(aA:List (Addr×Obj)) (s:Shared) (σ:St) (H:Hp) (Q:VK),Inv X aA σ H s->t σ H Q ->
  wpAny (model X.prog X.w) X.A (eval a X.env) (fun v zf=>wpAny (model X.prog X.w) X.A (eval b X.env) (fun u zl=>wpAny (model X.prog X.w) X.A (compareOp op v u) (EP X aA σ Q) X.xe zl) X.xe zf) X.xe s
def Zv(p:Int->Int->Bool)(ta tb:TE):TE:=fun σ H Q=>t2I ta tb (fun i j H2=>Q (.bl (p i j)) H2) σ H
abbrev tLt:TE->TE->TE:=Zv fun i j=>decide (i<j)
abbrev tLe:TE->TE->TE:=Zv fun i j=>decide (i<=j)
abbrev tGt:TE->TE->TE:=Zv fun i j=>decide (j<i)
abbrev tGe:TE->TE->TE:=Zv fun i j=>decide (j<=i)
abbrev ASN:TE->TE->TE:=Zv fun i j=>decide (i=j)
abbrev ASM:TE->TE->TE:=Zv fun i j=>!decide (i=j)
def ASG(ta:TE):TE:=fun σ H Q=>ta σ H fun x H1=>Q (.bl (decide (x=.non))) H1
def AR8(ta:TE):TE:=fun σ H Q=>ta σ H fun x H1=>Q (.bl (!decide (x=.non))) H1
def tB(t:TE):TT:=fun σ H Q=>t σ H fun x H1=>∃c,x=.bl c/\Q c H1
theorem ACY{op:CmpOp}{t:TE}(h:PC X op a b t)(h1:behindInMarks op b=false:=by first | exact iU _ (by decide) (by decide) | rfl):PT X (.Compare a [op] [b] pos) (tB t):=by
 intro aA s σ H Q I hw;refine wpAny_isTrue_Compare1 (thn (h aA s σ H _ I hw) fun v s1 h1=>thn h1 fun u s2 h2=>thn h2 fun c s3 ⟨x,H1,I1,r1,q1⟩=>?_) h1;obtain⟨d,rfl,q⟩:=q1;cases r1;exact AT3 ⟨H1,I1,q⟩
theorem Cj{e:Expr}{t:TE}(h:PE X e t)(he:∀whole,isTrue e X.env whole=(do let v <-whole;standAt e.pos;holding [v] (truthy v)):=by intro _;rfl):PT X e (tB t):=by
 intro aA s σ H Q I hw;refine isTrue_plain (thn (h aA s σ H _ I hw) fun v s1 ⟨x,H1,I1,r1,q1⟩=>?_) (he _);obtain⟨d,rfl,q⟩:=q1;cases r1;exact AT3 ⟨H1,I1,q⟩
variable {tA jR:TT}{JC:List Expr}
def ARa(t u:TT):TT:=fun σ H Q=>t σ H fun c H1=>if c=true then u σ H1 Q else Q false H1
def tOr(t u:TT):TT:=fun σ H Q=>t σ H fun c H1=>if c=true then Q true H1 else u σ H1 Q
def AQY(t:TT):TT:=fun σ H Q=>t σ H fun c H1=>Q (!c) H1
theorem Zb(ha:PT X a tA):PW X (.BoolOp .And [a] pos) tA:=by
 intro wh aA s σ H Q I h;refine isTrue_and (thn (ha aA s σ H Q I h) fun c s1 e=>?_);cases c with
 | true=>exact isTrue_and_nil e
 | false=>exact e
theorem CV(ha:PT X a tA):PW X (.BoolOp .Or [a] pos) tA:=by
 intro wh aA s σ H Q I h;refine isTrue_or (thn (ha aA s σ H Q I h) fun c s1 e=>?_);cases c with
 | false=>exact isTrue_or_nil e
 | true=>exact e
theorem ACk(ha:PT X a tA)(hb:PW X (.BoolOp .And (b::JC) pos) jR):PW X (.BoolOp .And (a::b::JC) pos) (ARa tA jR):=by
 intro wh aA s σ H Q I h;refine isTrue_and (thn (ha aA s σ H _ I h) fun c s1 ⟨H1,I1,q1⟩=>?_);cases c with
 | true=>exact hb wh aA s1 σ H1 Q I1 q1
 | false=>exact⟨H1,I1,q1⟩
theorem Dc(ha:PT X a tA)(hb:PW X (.BoolOp .Or (b::JC) pos) jR):PW X (.BoolOp .Or (a::b::JC) pos) (tOr tA jR):=by
 intro wh aA s σ H Q I h;refine isTrue_or (thn (ha aA s σ H _ I h) fun c s1 ⟨H1,I1,q1⟩=>?_);cases c with
 | true=>exact⟨H1,I1,q1⟩
 | false=>exact hb wh aA s1 σ H1 Q I1 q1
theorem Ck(ha:PT X a tA):PT X (.UnaryOp .Not a pos) (AQY tA):=by
 walk_at "k";exact isTrue_not (ha aA s σ H (fun c H1=>Q (!c) H1) I h)
def ANl(ta tb:TE):TE:=fun σ H Q=>ta σ H fun x H1=>∃c,x=.bl c/\if c=true then tb σ H1 Q else Q (.bl false) H1
def ASm(ta tb:TE):TE:=fun σ H Q=>ta σ H fun x H1=>∃c,x=.bl c/\if c=true then Q (.bl true) H1 else tb σ H1 Q
def AMW(ta:TE):TE:=fun σ H Q=>ta σ H fun x H1=>∃c,x=.bl c/\Q (.bl (!c)) H1
theorem QT{op}{t:TE}(h:PE X a t):PE X (.BoolOp op [a] pos) t:=fun aA s σ H Q I hw=>BoolOp_one (h aA s σ H Q I hw)
theorem M6(ha:PE X a ta)(hb:PE X (.BoolOp .And (b::JC) pos) tb):PE X (.BoolOp .And (a::b::JC) pos) (ANl ta tb):=by
 walk_at "k";refine BoolOp_and (thn (ha aA s σ H _ I h) fun v s1 ⟨x,H1,I1,r1,q1⟩=>?_);obtain⟨c,rfl,q1⟩:=q1;cases r1;refine AT3 ?_;cases c with
 | true=>exact hb aA s1 σ H1 Q I1 q1
 | false=>exact⟨.bl false,H1,I1,rfl,q1⟩
theorem AJs(ha:PE X a ta):PE X (.UnaryOp .Not a pos) (AMW ta):=by
 walk_at "k";refine UnaryOp_ (thn (ha aA s σ H _ I h) fun v s1 ⟨x,H1,I1,r1,q1⟩=>?_);obtain⟨c,rfl,q1⟩:=q1;cases r1;exact not_of (AT3 ⟨.bl (!c),H1,I1,rfl,q1⟩)
def tIf(t:TT)(ta tb:TE):TE:=fun σ H Q=>t σ H fun c H1=>if c=true then ta σ H1 Q else tb σ H1 Q
theorem QC{c:Expr}(hc:PT X c tA)(ha:PE X a ta)(hb:PE X b tb):PE X (.IfExp c a b pos) (tIf tA ta tb):=by
 walk_at "k";refine wpAny_IfExp (thn (hc aA s σ H _ I h) fun d s1 ⟨H1,I1,q1⟩=>?_);cases d with
 | true=>exact ha aA s1 σ H1 Q I1 q1
 | false=>exact hb aA s1 σ H1 Q I1 q1
end
def SqL(K:W.Frag)(H:Hp)(a:Addr)(xs:List V):Prop :=
 Rd H a (.lst xs) \/
  ∃(o:Obj) (its:Array Value) (n:Nat),K.lookup a=some o/\o.cls=.type "list"/\o.dict=none/\o.data=.seq its n/\its.size<=sizeLine/\BW xs its.toList
def SqT(K:W.Frag)(H:Hp)(a:Addr)(xs:List V):Prop :=
 Rd H a (.tup xs) \/
  ∃(o:Obj) (its:Array Value) (n:Nat),K.lookup a=some o/\o.cls=.type "tuple"/\o.data=.seq its n/\its.size<=sizeLine/\BW xs its.toList
noncomputable def ARX:Value->Option V
 | .none=>some .non
 | .bool b=>some (.bl b)
 | .int i _=>some (.int i)
 | .str x _=>some (.str x)
 | .bytes b _=>some (.byt b)
 | .float b _=>some (.flt b)
 | .ref a=>some (.ref a)
 | .type n=>some (.ty n)
 | _=>none
theorem Bc.abs{x:V}{u:Value}(r:Bc x u):ARX u=some x:=by
 cases x with
 | non=>cases r;rfl
 | bl _=>cases r;rfl
 | int _=>obtain⟨t,rfl⟩:=r;rfl
 | str _=>obtain⟨t,rfl⟩:=r;rfl
 | byt _=>obtain⟨t,rfl⟩:=r;rfl
 | flt _=>obtain⟨t,rfl⟩:=r;rfl
 | ref _=>cases r;rfl
 | ty _=>cases r;rfl
theorem Bc.inj{x y:V}{u:Value}(r:Bc x u)(q:Bc y u):x=y:=AS5 (r.abs.symm.trans q.abs)
theorem BW.inj:∀{xs ys:List V} {us:List Value},BW xs us->BW ys us->xs=ys
 | _,_,_,.nil,.nil=>rfl
 | _,_,_,.cons r t,.cons r' t'=>by rw[r.inj r',BW.inj t t']
section
variable {X:Cx}{aA:List (Addr×Obj)}{σ:St}{H:Hp}{s:Shared}{a:Addr}{xs ys:List V}
theorem SqL.of{K:W.Frag}(h:H a=some (.lst xs)):SqL K H a xs:=.inl (.inl h)
theorem SqT.of{K:W.Frag}(h:H a=some (.tup xs)):SqT K H a xs:=.inl (.inl h)
theorem Inv.list(I:Inv X aA σ H s)(h:SqL X.K H a xs):∃its:List Value,BW xs its/\PlainL s.heap a its.toArray/\xs.length<=sizeLine:=by
 rcases h with h|⟨o,its,n,hk,hc,hd,hs,hz,r⟩
 .obtain⟨z,its,n,r,e⟩:=h.ok I.hok;exact⟨its,r,⟨_,n,e,rfl,rfl,rfl⟩,z⟩
 .refine⟨its.toList,r,⟨o,n,I.kIn a o hk,hc,hd,by simpa using hs⟩,?_⟩;have e:=r.length;simp only[AUz]at e;omega
theorem Inv.tuple(I:Inv X aA σ H s)(h:SqT X.K H a xs):∃its:List Value,BW xs its/\IsTup s.heap a its.toArray/\xs.length<=sizeLine:=by
 rcases h with h|⟨o,its,n,hk,hc,hs,hz,r⟩
 .obtain⟨z,its,r,p⟩:=h.ok I.hok;exact⟨its,r,p,z⟩
 .refine⟨its.toList,r,⟨o,I.kIn a o hk,hc,n,by simpa using hs⟩,?_⟩;have e:=r.length;simp only[AUz]at e;omega
theorem Inv.list_inj(I:Inv X aA σ H s)(h:SqL X.K H a xs)(h':SqL X.K H a ys):xs=ys:=by
 obtain⟨its,r,⟨o,n,e,_,_,d⟩,_⟩:=I.list h;obtain⟨its',r',⟨o',n',e',_,_,d'⟩,_⟩:=I.list h';rw[e]at e';cases e';rw[d]at d';injection d' with d1 _;have:its=its':=by simpa using congrArg Array.toList d1
 subst this;exact r.inj r'
theorem Inv.tuple_inj(I:Inv X aA σ H s)(h:SqT X.K H a xs)(h':SqT X.K H a ys):xs=ys:=by
 obtain⟨its,r,⟨o,e,_,n,d⟩,_⟩:=I.tuple h;obtain⟨its',r',⟨o',e',_,n',d'⟩,_⟩:=I.tuple h';rw[e]at e';cases e';rw[d]at d';injection d' with d1 _;have:its=its':=by simpa using congrArg Array.toList d1
 subst this;exact r.inj r'
end
noncomputable abbrev Cx.wish(X:Cx)(E:Value->Shared->Prop):Cx:={ X with xe:=E }
abbrev Cx.nox(X:Cx):Cx:=X.wish fun _ _=>False
theorem Cx.Ok.wish{X:Cx}(ok:X.Ok)(E:Value->Shared->Prop):(X.wish E).Ok :=
 ⟨ok.mod,ok.kind,ok.glob,ok.blt,ok.above,ok.inj,ok.has,ok.cab,ok.hd,ok.frames,ok.stk,ok.exf,ok.bs,ok.bsz,ok.noex,ok.exfs,ok.funs,ok.frf⟩
theorem Cx.Ok.unwish{X:Cx}{E:Value->Shared->Prop}(ok:(X.wish E).Ok):X.Ok :=
 ⟨ok.mod,ok.kind,ok.glob,ok.blt,ok.above,ok.inj,ok.has,ok.cab,ok.hd,ok.frames,ok.stk,ok.exf,ok.bs,ok.bsz,ok.noex,ok.exfs,ok.funs,ok.frf⟩
section
variable {X:Cx}{aA:List (Addr×Obj)}{σ:St}{H:Hp}{s:Shared}{E:Value->Shared->Prop}
theorem Inv.wish(I:Inv X aA σ H s)(E:Value->Shared->Prop):Inv (X.wish E) aA σ H s:=⟨I.ok.wish E,I.os,I.bare,I.base,I.loc,I.cell,I.free,I.freeC,I.pin,I.hok,I.len⟩
theorem Inv.unwish(I:Inv (X.wish E) aA σ H s):Inv X aA σ H s:=⟨I.ok.unwish,I.os,I.bare,I.base,I.loc,I.cell,I.free,I.freeC,I.pin,I.hok,I.len⟩
theorem SP.unwish{D:Lj}{f:Flow}{s':Shared}(h:SP (X.wish E) aA D f s'):SP X aA D f s':=by
 cases f with
 | next=>obtain⟨zd,H',I,q⟩:=h;exact⟨zd,H',I.unwish,q⟩
 | brk=>obtain⟨zd,H',I,q⟩:=h;exact⟨zd,H',I.unwish,q⟩
 | cont=>obtain⟨zd,H',I,q⟩:=h;exact⟨zd,H',I.unwish,q⟩
 | ret u=>obtain⟨v,zd,H',I,r,q⟩:=h;exact⟨v,zd,H',I.unwish,r,q⟩
theorem PSs.nox{st:List Stmt}{t:TS}(h:PSs X.nox st t):PSs X st t:=fun aA s σ H D I hw =>
 ATt (h aA s σ H D (I.wish _) hw) (fun _ _ q=>q.unwish) fun _ _ z=>False.elim z
end
section
variable {X:Cx}{st:Stmt}{JC:List Stmt}{t u:TS}{e:Expr}{te:TE}{pos:Pos}
def AOA:TS:=fun D σ H=>D.nx σ H
def ARA(t u:TS):TS:=fun D σ H=>t { D with nx:=u D } σ H
theorem Aq:PSs X [] AOA:=fun _ _ σ H _ I h=>AUi ⟨σ,H,I,h⟩
theorem Ac(h1:PS X st t)(h2:PSs X JC u):PSs X (st::JC) (ARA t u):=by
 walk_at "2";refine AV6 (thn (h1 aA s σ H { D with nx:=u D } I h) fun f s1 q=>?_);cases f with
 | next =>
  obtain⟨zd,H',I',q⟩:=q;exact h2 aA s1 zd H' D I' q
 | ret v=>exact q
 | brk=>exact q
 | cont=>exact q
theorem Ae(h1:PS X st t):PSs X [st] t:=by
 walk_at "2";refine AV6 (thn (h1 aA s σ H D I h) fun f s1 q=>?_);cases f with
 | next=>exact AUi q
 | ret v=>exact q
 | brk=>exact q
 | cont=>exact q
def ARc:TS:=fun D σ H=>D.bk σ H
def ARn:TS:=fun D σ H=>D.ct σ H
theorem Inv.quiet{aA:List (Addr×Obj)}{σ:St}{H:Hp}{s:Shared}(I:Inv X aA σ H s):interactive X.env=false:=by simp[interactive,I.ok.kind]
def ALv(te:TE):TS:=fun D σ H=>te σ H fun _ H1=>D.nx σ H1
theorem Ca(he:PE X e te)(hs:swapsWith e none pos.line X.env=pure false:=by rfl):PS X (.Expr e pos) (ALv te):=by
 walk_at "2";exact wpAny_Expr_any (thn (he aA s σ H _ I h) fun v s1 ⟨x,H1,I1,r1,q1⟩=>⟨σ,H1,I1,q1⟩) I.quiet hs
def ARb(te:TE):TS:=fun D σ H=>te σ H D.rt
theorem Aj(he:PE X e te):PS X (.Return (some e) pos) (ARb te):=by
 walk_at "2";exact wpAny_Return_some (thn (he aA s σ H _ I h) fun v s1 ⟨x,H1,I1,r1,q1⟩=>⟨x,σ,H1,I1,r1,q1⟩)
def AR1:TS:=fun D _ H=>D.rt .non H
def AQb(c:TT)(t u:TS):TS:=fun D σ H=>c σ H fun b H1=>if b=true then t D σ H1 else u D σ H1
theorem BK{c:Expr}{a b:List Stmt}{tc:TT}(hc:PT X c tc)(ha:PSs X a t)(hb:PSs X b u):PS X (.If c a b pos) (AQb tc t u):=by
 walk_at "2";refine wpAny_If (thn (hc aA s σ H _ I h) fun d s1 ⟨H1,I1,q1⟩=>?_);cases d with
 | true=>exact ha aA s1 σ H1 D I1 q1
 | false=>exact hb aA s1 σ H1 D I1 q1
def AJk:TS:=fun _ _ _=>False
theorem BR:PS X st AJk:=fun _ _ _ _ _ _ h=>h.elim
end
abbrev TG:=V->St->Hp->(St->Hp->Prop)->Prop
abbrev TGs:=List V->St->Hp->(St->Hp->Prop)->Prop
def PG(X:Cx)(target:Expr)(t:TG):Prop :=
 ∀(aA:List (Addr×Obj)) (s:Shared) (σ:St) (H:Hp) (v:V) (u:Value) (Q:St->Hp->Prop),Inv X aA σ H s->Bc v u->t v σ H Q ->
  wpAny (model X.prog X.w) X.A (assign target X.env u) (fun _ s'=>∃zd H',Inv X aA zd H' s'/\Q zd H') X.xe s
def PGs(X:Cx)(ts:List Expr)(t:TGs):Prop :=
 ∀(aA:List (Addr×Obj)) (s:Shared) (σ:St) (H:Hp) (vs:List V) (us:List Value) (Q:St->Hp->Prop),Inv X aA σ H s->BW vs us->t vs σ H Q ->
  wpAny (model X.prog X.w) X.A (assignInOrder ((assignEach ts X.env).map (·.2)) us) (fun _ s'=>∃zd H',Inv X aA zd H' s'/\Q zd H') X.xe s
abbrev AHx:=V->V->V->Hp->(Hp->Prop)->Prop
def ASa(X:Cx)(t:AHx):Prop :=
 ∀(aA:List (Addr×Obj)) (s:Shared) (σ:St) (H:Hp) (o i v:V) (ov iv u:Value) (Q:Hp->Prop),Inv X aA σ H s->Bc o ov->Bc i iv->Bc v u->t o i v H Q ->
  wpAny (model X.prog X.w) X.A (setItem ov iv u) (fun _ s'=>∃H',Inv X aA σ H' s'/\Q H') X.xe s
abbrev TIp:=V->V->Hp->VK->Prop
def PIp(X:Cx)(op:Operator)(t:TIp):Prop :=
 ∀(aA:List (Addr×Obj)) (s:Shared) (σ:St) (H:Hp) (x y:V) (v u:Value) (Q:VK),Inv X aA σ H s->Bc x v->Bc y u->t x y H Q ->
  wpAny (model X.prog X.w) X.A (inplaceOp op v u) (EP X aA σ Q) X.xe s
section
variable {X:Cx}{pos:Pos}
def El(i:Nat):TG:=fun v σ H Q=>Q (σ.set i (some v)) H
theorem ZV{i:Nat}{x:Str}(hN:X.N.Nodup)(hi:X.N[i]?=some x)(hx:Loc X.env.scope x)(hf:X.fn x=true\/X.env.scope.names.lookup x=some .local:=by first | exact .inl rfl | exact .inr rfl | assumption):PG X (.Name x pos) (El i):=by
 intro aA s σ H v u Q I r h;exact AVr (Jm I hN hi hx r (fun s' I'=>⟨_,H,I',h⟩) hf)
def AAy:TGs:=fun vs σ H Q=>vs=[]/\Q σ H
def LK(t:TG)(u:TGs):TGs:=fun vs σ H Q=>∃v r,vs=v::r/\t v σ H fun zd H'=>u r zd H' Q
theorem Ga:PGs X [] AAy:=by
 intro aA s σ H vs us Q I r h;obtain⟨e,h⟩:=h;subst e;cases r;exact assignInOrder_nil ⟨σ,H,I,h⟩
theorem Bk{e:Expr}{es:List Expr}{t:TG}{u:TGs}(h1:PG X e t)(h2:PGs X es u)
  (hs:(assignEach (e::es) X.env).map (·.2)=assign e X.env::(assignEach es X.env).map (·.2):=by rfl):PGs X (e::es) (LK t u):=by
 intro aA s σ H vs us Q I r h;obtain⟨v,vr,e1,h⟩:=h;subst e1;cases r with
 | cons r rr =>
  rw[hs];refine assignInOrder_cons (thn (h1 aA s σ H _ _ _ I r h) fun _ s1 ⟨zk,H1,I1,q1⟩=>?_);exact h2 aA s1 zk H1 _ _ Q I1 rr q1
def ACg(K:W.Frag)(n:Nat)(t:TGs):TG:=fun v σ H Q=>∃a xs,v=.ref a/\SqT K H a xs/\xs.length=n/\t xs σ H Q
theorem JV{es:List Expr}{k:Nat}{t:TGs}{n:Nat}(hc:X.calm=true)(h:PGs X es t)
  (hn:(assignEach es X.env).length=n:=by rfl) (hst:(assignEach es X.env).findIdx? (·.1)=none:=by rfl):PG X (.Tuple es k pos) (ACg X.K n t):=by
 intro aA s σ H v u Q I r hw;obtain⟨a,xs,e1,hq,hl,hw⟩:=hw;subst e1;cases r;obtain⟨its,rv,ht,hz⟩:=I.tuple hq;refine assign_Tuple_tuple (I.ok.hd hc) ht (by simp[hn,<-hl,rv.length]) hst fun h' hx=>?_;(have I1:Inv X aA σ H { s with heap:=h' }:=I.kept (t':=s.toks) fun b o e=>hx b o (ATR (ASy e)) e;exact h aA _ σ H xs _ Q I1 (by simpa using rv) hw)
def ASJ(to ti:TE)(t:AHx):TG:=fun v σ H Q=>to σ H fun o H1=>ti σ H1 fun i H2=>t o i v H2 fun H3=>Q σ H3
def ABW(te:TE)(g:TG):TS:=fun D σ H=>te σ H fun x H1=>g x σ H1 D.nx
theorem Tz{tg e:Expr}{te:TE}{g:TG}(he:PE X e te)(hg:PG X tg g)(hs:swapsWithSole [tg] e pos.line X.env=pure false:=by rfl)(hw:swappedStores [tg] e X.env=pure none:=by rfl)
  (h1:(assignEach [tg] X.env).map (·.2)=[assign tg X.env]:=by rfl):PS X (.Assign [tg] e pos) (ABW te g):=by
 walk_at "2";refine wpAny_Assign_stores (thn (he aA s σ H _ I h) fun v s1 ⟨x,H1,I1,r1,q1⟩=>?_) hs hw;rw[h1];exact thn (hg aA s1 σ H1 x v _ I1 r1 q1) fun _ s2 q=>q
theorem AIc{i:Nat}{x:Str}{e:Expr}{te:TE}{pos':Pos}(hN:X.N.Nodup)(hi:X.N[i]?=some x)(hx:Loc X.env.scope x)(he:PE X e te)(hs:swapsWith e (some (.Name x pos')) pos.line X.env=pure false:=by rfl)(hf:X.fn x=true\/X.env.scope.names.lookup x=some .local:=by first | exact .inl rfl | exact .inr rfl | assumption) :
  PS X (.Assign [.Name x pos'] e pos) (ABW te (El i)):=by
 walk_at "2";refine wpAny_Assign_Name (thn (he aA s σ H _ I h) fun v s1 ⟨y,H1,I1,r1,q1⟩=>?_) hs;exact Jm I1 hN hi hx r1 (fun s2 I2=>⟨_,H1,I2,q1⟩) hf
def ASs(i j:Nat)(ta:TA):TS:=fun D σ H=>ta σ H fun vs H1=>∃v w,vs=[v,w]/\D.nx ((σ.set i (some v)).set j (some w)) H1
def ARB(i:Nat)(te:TE)(ti:TIp):TS:=fun D σ H=>∃x,σ[i]?=some (some x)/\te σ H fun y H1=>ti x y H1 fun z H2=>D.nx (σ.set i (some z)) H2
theorem AGy{i:Nat}{x:Str}{e:Expr}{te:TE}{op:Operator}{ti:TIp}{pos':Pos}(hN:X.N.Nodup)(hi:X.N[i]?=some x)(hx:Loc X.env.scope x)(he:PE X e te)(ho:PIp X op ti)(hf:X.fn x=true\/X.env.scope.names.lookup x=some .local:=by first | exact .inl rfl | exact .inr rfl | assumption) :
  PS X (.AugAssign (.Name x pos') op e pos) (ARB i te ti):=by
 walk_at "2";obtain⟨v,e1,h⟩:=h;obtain⟨m,hn,hl⟩:=I.loc;have qf:Vis X.env.scope x:=by rcases hx with k | k;exact .inl k;exact .inr (.inl k)
 obtain⟨u,r,l⟩:=hl i x v hi e1 qf;refine wpAny_AugAssign_Name ?_;have go:wpAny (model X.prog X.w) X.A (eval e X.env) (fun w zl=>wpAny (model X.prog X.w) X.A (inplaceOp op u w) (fun r zq=>wpAny (model X.prog X.w) X.A (storeName X.env x r) (fun _=>SP X aA D .next) X.xe zq) X.xe zl) X.xe s:=by
  refine thn (he aA s σ H _ I h) fun w s1 ⟨y,H1,I1,r1,q1⟩=>?_;refine thn (ho aA s1 σ H1 v y u w _ I1 r r1 q1) fun z s2 ⟨zv,H2,I2,r2,q2⟩=>?_;exact Jm I2 hN hi hx r2 (fun s3 I3=>⟨_,H2,I3,q2⟩) hf
 rcases l with⟨hk,hm⟩|⟨hk,c,hc,hcell⟩
 .exact wpAny_loadName_local I.ok.kind hk hn hm go
 .rcases hk with hk|hk
  .exact wpAny_loadName_cell I.ok.kind hk hc hcell go
  .rcases hx with k|k
   .have:X.env.scope.names.lookup x=some .free:=hk;rw[k]at this;cases this
   .have:X.env.scope.names.lookup x=some .free:=hk;rw[k]at this;cases this
def AR2(to ti te:TE)(kH:V->V->Hp->VK->Prop)(qg:TIp)(kI:AHx):TS:=fun D σ H=>to σ H fun o H1=>ti σ H1 fun i H2=>kH o i H2 fun x H3=>te σ H3 fun y H4=>qg x y H4 fun z H5=>kI o i z H5 fun H6=>D.nx σ H6
def ASL(X:Cx)(t:V->V->Hp->VK->Prop):Prop :=
 ∀(aA:List (Addr×Obj)) (s:Shared) (σ:St) (H:Hp) (o i:V) (ov iv:Value) (Q:VK),Inv X aA σ H s->Bc o ov->Bc i iv->t o i H Q ->
  wpAny (model X.prog X.w) X.A (getItem ov iv) (EP X aA σ Q) X.xe s
def ipI(f:Int->Int->Int):TIp:=fun x y H Q=>∃i j,x=.int i/\y=.int j/\Q (.int (f i j)) H
theorem AJF:PIp X .Sub (ipI fun i j=>i-j):=by
 intro aA s σ H x y v u Q I r1 r2 h;obtain⟨i,j,e1,e2,q⟩:=h;subst e1;subst e2;obtain⟨t,rfl⟩:=r1;obtain⟨t',rfl⟩:=r2;exact isub_int ⟨.int _,H,I.tok _,⟨_,rfl⟩,q⟩
end
section
variable {X:Cx}{pos:Pos}
def AGp(c:TT)(tb:TS):TS:=fun D σ H=>∃W:Nat->St->Hp->Prop,(∃m,W m σ H)/\∀m σ H,W m σ H ->
 c σ H fun b H1=>if b=true then ∃N:St->Hp->Prop,(∀zd H',N zd H'->∃m',m'<m/\W m' zd H')/\tb { D with nx:=N,ct:=N,bk:=D.nx } σ H1 else D.nx σ H1
theorem Qh{c:Expr}{body:List Stmt}{tc:TT}{tb:TS}(hp:PassesOwn (model X.prog X.w) X.A X.env X.xe)(hc:PT X c tc)(hb:PSs X body tb):PS X (.While c body [] pos) (AGp tc tb):=by
 walk_at "2";obtain⟨W,⟨m0,w0⟩,turn⟩:=h;refine wpAny_While (codeAny_whileLoop (fun n s'=>∃zd H',Inv X aA zd H' s'/\W n zd H') ?_ m0 ⟨σ,H,I,w0⟩);rintro n s1 ⟨zk,H1,I1,w1⟩;refine AUO hp (thn (hc aA s1 zk H1 _ I1 (turn n zk H1 w1)) fun b s2 ⟨H2,I2,q2⟩=>?_);cases b with
 | true =>
  obtain⟨N,hN,q2⟩:=q2;rw[if_pos rfl];refine AUO hp (thn (hb aA s2 zk H2 _ I2 q2) fun f s3 q3=>?_);cases f with
  | next =>
   (obtain⟨zm,H3,I3,n3⟩:=q3;obtain⟨m',hm,w3⟩:=hN zm H3 n3;exact⟨m',hm,zm,H3,I3,w3⟩)
  | cont =>
   (obtain⟨zm,H3,I3,n3⟩:=q3;obtain⟨m',hm,w3⟩:=hN zm H3 n3;exact⟨m',hm,zm,H3,I3,w3⟩)
  | brk=>exact q3
  | ret v=>exact q3
 | false =>
  rw[if_neg AS3];exact AUi ⟨zk,H2,I2,q2⟩
end
structure It where
 go:Nat->Hp->Prop
 yld:Nat->Hp->V->Hp->Prop
 stop:Nat->Hp->Prop
def HX(X:Cx)(aA:List (Addr×Obj))(H:Hp)(b:Addr):Prop :=
 H b=none/\b≠X.env.locals/\b∉X.fs/\(b∈X.ex\/X.zb.heap.objs.size<=b)/\(∀x c,X.env.cells.lookup x=some c->c≠b)/\∀p∈X.pn++aA,p.1≠b
theorem Inv.fpOk{X:Cx}{aA:List (Addr×Obj)}{σ:St}{H H':Hp}{s:Shared}{b:Addr}(I:Inv X aA σ H s)(hb:s.heap.objs.size<=b)(hn:H' b=none):HX X aA H' b:=by
 refine⟨hn,AU2 (ATB I.lt hb),I.nofs hb,.inr (ATG I.sz hb),fun x c e z=>?_,fun p hp z=>?_⟩
 .obtain⟨v,q⟩:=I.cell x c e;exact absurd (ATB q.lt (by rw[z];exact hb)) (AUV _)
 .exact absurd (ATB (ASy (I.pin p hp).1) (by rw[z];exact hb)) (AUV _)
structure Turn(P:Program)(w:World)(K:W.Frag)(tg:Expr)(J:It)(fp:List Addr)(it:Addr)(tn:Nat->Heap->Prop):Prop where
 mem:it∈fp
 obj:∀i h,tn i h->∀b∈fp,∃o,h.get? b=some o/\∀v,o.data≠.cell v
 keep:∀i h h',tn i h->(∀b∈fp,∀o,h.get? b=some o->h'.get? b=some o)->tn i h'
 item:∀(X:Cx),X.prog=P->X.w=w->X.K=K->X.calm=true->∀(i:Nat) (aA:List (Addr×Obj)) (s:Shared) (σ:St) (H:Hp) (E:Value->Shared->Prop),Inv X aA σ H s->(∀b∈fp,HX X aA H b)->tn i s.heap->J.go i H ->
  wpAny (model P w) X.A (pyNext (.ref it)) (fun r s1=>∃u,r=some u /\
   wpAny (model P w) X.A (letOwnedTupleGo tg (.ref it) u) (fun _ s2=>∃x H',Inv X aA σ H' s2/\Bc x u/\J.yld i H x H'/\tn (i+1) s2.heap/\∀b∈fp,H' b=none) E s1) E s
 done:∀(X:Cx),X.prog=P->X.w=w->X.K=K->X.calm=true->∀(i:Nat) (aA:List (Addr×Obj)) (s:Shared) (σ:St) (H:Hp) (E:Value->Shared->Prop),Inv X aA σ H s->(∀b∈fp,HX X aA H b)->tn i s.heap->J.stop i H ->
  wpAny (model P w) X.A (pyNext (.ref it)) (fun r s1=>r=none/\Inv X aA σ H s1) E s
 self:∀(A:Around) (i:Nat) (s:Shared) (Q:Value->Shared->Prop) (E:Value->Shared->Prop),tn i s.heap->Q (.ref it) s->wpAny (model P w) A (pyIter (.ref it)) Q E s
abbrev TI:=St->Hp->(It->Hp->Prop)->Prop
def PIE(X:Cx)(aA:List (Addr×Obj))(σ:St)(tg:Expr)(R:It->Hp->Prop)(itv:Value)(s2:Shared):Prop :=
 ∃(it:Addr) (fp:List Addr) (tn:Nat->Heap->Prop) (J:It) (H':Hp),itv=.ref it/\Inv X aA σ H' s2/\Turn X.prog X.w X.K tg J fp it tn/\tn 0 s2.heap/\(∀b∈fp,HX X aA H' b)/\R J H'
def PI(X:Cx)(tg iter:Expr)(wi:TI):Prop :=
 ∀(aA:List (Addr×Obj)) (s:Shared) (σ:St) (H:Hp) (R:It->Hp->Prop),Inv X aA σ H s->wi σ H R ->
  wpAny (model X.prog X.w) X.A (eval iter X.env) (fun v s1=>wpAny (model X.prog X.w) X.A (pyIter v) (PIE X aA σ tg R) X.xe s1) X.xe s
theorem YW{M:Model}{A:Around}{E:Value->Shared->Prop}{s:Shared}{tg:Expr}{it:Addr}{u:Value}{o:Obj}{n:String}{vs:Array Value}{Q:Unit->Shared->Prop}(ho:s.heap.get? it=some o)(hc:o.cls=.type n)(hd:o.data=.fields vs)
  (hn:["enumerate","zip","dict_itemiterator","dict_reverseitemiterator","odict_iterator","itertools.zip_longest","itertools.pairwise"].contains n=false) (hQ:Q () s):wpAny M A (letOwnedTupleGo tg (.ref it) u) Q E s:=by
 unfold letOwnedTupleGo;cases tg<;>first
  | exact ATC hQ
  | (cases u<;>first
    | exact ATC hQ
    | (refine ASv (wpAny_load ho ?_)
       rw[hc,hd];show wpAny M A (if (["enumerate","zip","dict_itemiterator","dict_reverseitemiterator","odict_iterator","itertools.zip_longest","itertools.pairwise"].contains n&&vs[0]?==some (rawInt _))=true then _ else _) Q E s;rw[if_neg (by intro h;rw[hn,AWU]at h;cases h)];exact ATC hQ))
def Itl(K:W.Frag)(a:Addr):It :=
 ⟨fun i H=>∃xs x,SqL K H a xs/\xs[i]?=some x,fun i H x H'=>H'=H/\∀xs,SqL K H a xs->xs[i]?=some x,fun i H=>∃xs,SqL K H a xs/\xs.length<=i⟩
def Itt(K:W.Frag)(a:Addr):It :=
 ⟨fun i H=>∃xs x,SqT K H a xs/\xs[i]?=some x,fun i H x H'=>H'=H/\∀xs,SqT K H a xs->xs[i]?=some x,fun i H=>∃xs,SqT K H a xs/\xs.length<=i⟩
def Itr(lo:Int)(n:Nat):It:=⟨fun i _=>i<n,fun i H x H'=>H'=H/\x=.int (lo+i),fun i _=>n<=i⟩
theorem AAv{P:Program}{w:World}{K:W.Frag}{tg:Expr}(a it:Addr):Turn P w K tg (Itl K a) [it] it (fun i h=>h.IsListIter it a i) where
 mem:=by simp
 obj:=fun i h st b hb=>by
  walk_at "aF"
  subst e;obtain⟨o,e,c,d⟩:=st;exact⟨o,e,fun v z=>by rw[d]at z;cases z⟩
 keep:=fun i h h' st k=>st.at fun o e=>k it (by simp) o e
 item:=by
  walk_at "f";obtain⟨xs,x,hq,hx⟩:=hg;(obtain⟨its,rv,p,hz⟩:=I.list hq);obtain⟨u,hu,ru⟩:=rv.get hx;walk_at "p";refine wpAny_pyNext_list_item st p.isList (x:=u) (by simpa using hu) fun h' st' sb=>?_;(have I1:Inv X aA σ H { s with heap:=h' }:=I.turned (t':=s.toks) (fun b o hb e=>(sb.2 b hb).trans e) f0 f1 f3 f4 f5;obtain⟨o,e,c,d⟩:=id st');exact⟨u,rfl,YW (s:={ s with heap:=h' }) e c d (by decide) ⟨x,H,I1,ru,⟨rfl,fun ys hy=>by rw[I.list_inj hy hq];exact hx⟩,st',fun b hb=>(hf b hb).1⟩⟩
 done:=by
  walk_at "f";obtain⟨xs,hq,hx⟩:=hg;(obtain⟨its,rv,p,hz⟩:=I.list hq);walk_at "p";have hl:=rv.length;exact wpAny_pyNext_list_end (I.ok.hd hc) st p.isList (by simp;omega) fun h' eb=>⟨rfl,I.turned (t':=s.toks) (fun b o hb e=>eb b o hb e) f0 f1 f3 f4 f5⟩
 self:=fun _ _ _ _ _ st h=>wpAny_pyIter_listiter st h
theorem XF{P:Program}{w:World}{K:PySem.W.Frag}{tg:Expr}(it:Addr)(lo:Int)(n:Nat):Turn P w K tg (Itr lo n) [it] it (fun i h=>IsRangeIter h it (lo+(i:Nat)*1) ((n:Int)-(i:Nat)) 1) where
 mem:=by simp
 obj:=fun i h st b hb=>by
  walk_at "aF"
  subst e;exact⟨_,st,fun v z=>by
   (have z':Data.fields _=Data.cell v:=z);cases z'⟩
 keep:=fun i h h' st k=>k it (by simp) _ st
 item:=by
  walk_at "f";walk_at "p";have W:=Walks.range (prog:=X.prog) (w:=X.w) (I.ok.hd hc) it lo 1 n;refine W.item i s _ _ hg st fun v h' tk hv st' kk=>?_;obtain⟨t,rfl⟩:=hv;have I1:Inv X aA σ H { s with heap:=h',toks:=tk }:=I.turned (fun b o hb e=>kk b o (by simpa using hb) e) f0 f1 f3 f4 f5;refine⟨_,rfl,YW (s:={ s with heap:=h',toks:=tk }) (n:="range_iterator") st' rfl rfl (by decide) ⟨.int (lo+i),H,I1,⟨t,?_⟩,⟨rfl,rfl⟩,st',fun b hb=>(hf b hb).1⟩⟩;rw[Int.mul_one]
 done:=by
  walk_at "f";walk_at "p";exact wpAny_pyNext_range_end (I.ok.hd hc) st (by have:n<=i:=hg;omega) fun h' eb=>⟨rfl,I.turned (t':=s.toks) (fun b o hb e=>eb b o hb e) f0 f1 f3 f4 f5⟩
 self:=fun _ _ _ _ _ st h=>wpAny_pyIter_rangeiter st h
section
variable {X:Cx}{tg:Expr}
def APZ(K:W.Frag)(tl:TE):TI:=fun σ H R=>tl σ H fun x H1=>∃a,x=.ref a/\(∃xs,SqL K H1 a xs)/\R (Itl K a) H1
def ASR(K:W.Frag)(tl:TE):TI:=fun σ H R=>tl σ H fun x H1=>∃a,x=.ref a/\(∃xs,SqT K H1 a xs)/\R (Itt K a) H1
theorem Bl{l:Expr}{tl:TE}(hl:PE X l tl):PI X tg l (APZ X.K tl):=by
 (intro aA s σ H R I h;refine thn (hl aA s σ H _ I h) fun v s1 ⟨x,H1,I1,r1,q1⟩=>?_);obtain⟨a,e,⟨xs,hq⟩,q⟩:=q1;subst e;cases r1;obtain⟨its,rv,p,hz⟩:=I1.list hq;refine wpAny_pyIter_list p.isList ?_;refine⟨s1.heap.objs.size,[s1.heap.objs.size],_,_,H1,rfl,I1.kept (t':=s1.toks) fun b o e=>ASw _ e,AAv a _,⟨_,AS1 _ rfl,rfl,rfl⟩,fun b hb=>?_,q⟩;(have e:b=s1.heap.objs.size:=by simpa using hb)
 subst e;walk_at "l"
theorem ABp{aA:List (Addr×Obj)}{σ:St}{H:Hp}{s:Shared}{R:It->Hp->Prop}{E:Value->Shared->Prop}{lo hi:Int}{t u v:Tok}{tk:Nat}(I:Inv X aA σ H s)(h1:-(2^62)<=lo)(h2:lo<2^62)(h3:-(2^62)<=hi)(h4:hi<2^62)
  (q:R (Itr lo (hi-lo).toNat) H):wpAny (model X.prog X.w) X.A (pyIter (.ref s.heap.objs.size)) (PIE X aA σ tg R) E { s with heap:=s.heap.push { cls:=.type "range",data:=.fields #[.int lo t,.int hi u,.int 1 v] },toks:=tk }:=by
 refine wpAny_pyIter_range (IsRange.new ..) (small_one h1 h2 h3 h4) ?_;have I1:Inv X aA σ H { s with heap:=s.heap.push { cls:=.type "range",data:=.fields #[.int lo t,.int hi u,.int 1 v] },toks:=tk }:=I.kept fun b o e=>ASw _ e;refine⟨(s.heap.push { cls:=.type "range",data:=.fields #[.int lo t,.int hi u,.int 1 v] }).objs.size,[(s.heap.push { cls:=.type "range",data:=.fields #[.int lo t,.int hi u,.int 1 v] }).objs.size],_,_,H,rfl,
  I1.kept (t':=tk) fun b o e=>ASw _ e,XF _ lo (hi-lo).toNat,?_,fun b hb=>?_,q⟩
 .have e1:lo+((0:Nat):Int)*1=lo:=by simp
  have e2:(((hi-lo).toNat:Nat):Int)-((0:Nat):Int)=Builtin.Range.rangeSize lo hi 1:=by rw[rangeSize_one];split<;>omega
  show IsRangeIter _ _ (lo+((0:Nat):Int)*1) ((((hi-lo).toNat:Nat):Int)-((0:Nat):Int)) 1;rw[e1,e2];exact AS1 _ rfl
 .have e:b=(s.heap.push { cls:=.type "range",data:=.fields #[.int lo t,.int hi u,.int 1 v] }).objs.size:=by simpa using hb
  subst e;walk_at "l"
def AP4(ta:TA):TI:=fun σ H R=>ta σ H fun vs H1=>∃j:Int,vs=[.int j]/\-(2^62)<=j/\j<2^62/\R (Itr 0 j.toNat) H1
def ARo(ta:TA):TI:=fun σ H R=>ta σ H fun vs H1=>∃i j:Int,vs=[.int i,.int j]/\(-(2^62)<=i/\i<2^62/\-(2^62)<=j/\j<2^62)/\R (Itr i (j-i).toNat) H1
theorem Eh{a:Expr}{ta:TA}{p pos:Pos}(hg:Gl X "range")(hm:X.mg "range"=none)(ha:PA X [a] ta)(hs:starEach [a] X.env=[(false,eval a X.env)]:=by rfl):PI X tg (.Call (.Name "range" p) [a] [] pos) (AP4 ta):=by
 intro aA s σ H R I h;refine Call_ (HR I hg hm boot_range (ATe (thn (ha pos aA s σ H _ I h) fun us s1 ⟨vs,H1,I1,r1,q1⟩=>?_) hs rfl));obtain⟨j,e,q1,q2,q⟩:=q1;subst e;cases r1 with
 | cons r rr =>
  cases rr;obtain⟨t,rfl⟩:=r;exact call_range_1 (ABp I1 (by omega) (by omega) q1 q2 (by simpa using q))
def ARh(wi:TI)(g:TG)(tb:TS):TS:=fun D σ H=>wi σ H fun J H1=>∃W:Nat->Nat->St->Hp->Prop,(∃m,W 0 m σ H1)/\∀i m σ H,W i m σ H ->
 (J.stop i H/\D.nx σ H)\/(J.go i H/\∃N:St->Hp->Prop,(∀zd H',N zd H'->∃m',m'<m/\W (i+1) m' zd H')/\∀x H',J.yld i H x H'->g x σ H' fun zj H2=>tb { D with nx:=N,ct:=N,bk:=D.nx } zj H2)
def QB(fp:List Addr)(h:Heap):List (Addr×Obj):=fp.filterMap fun b=>(h.get? b).map fun o=>(b,o)
theorem FN{fp:List Addr}{h:Heap}{b:Addr}{o:Obj}(hb:b∈fp)(e:h.get? b=some o):(b,o)∈QB fp h:=AWd.mpr ⟨b,hb,by rw[e];rfl⟩
theorem AAH{fp:List Addr}{h:Heap}{p:Addr×Obj}(hp:p∈QB fp h):p.1∈fp/\h.get? p.1=some p.2:=by
 obtain⟨b,hb,e⟩:=AWd.mp hp;cases q:h.get? b with
 | none=>rw[q]at e;cases e
 | some o =>
  rw[q]at e;have e':(b,o)=p:=AS5 e;subst e';exact⟨hb,q⟩
theorem Inv.pinned{aA:List (Addr×Obj)}{σ:St}{H:Hp}{s:Shared}{fp:List Addr}(I:Inv X aA σ H s)(hf:∀b∈fp,HX X aA H b)(ho:∀b∈fp,∃o,s.heap.get? b=some o/\∀v,o.data≠.cell v):Inv X (aA++QB fp s.heap) σ H s :=
 I.pins_of fun p hp=>(ATU.mp hp).elim (fun z=>I.pin p (ATE _ z)) fun z=>by
  obtain⟨hb,e⟩:=AAH z;obtain⟨f0,f1,f2,_⟩:=hf p.1 hb;obtain⟨o,e',d⟩:=ho p.1 hb;rw[e]at e';cases e';exact⟨e,f0,f1,f2,d⟩
theorem Inv.unpinned{aA pl:List (Addr×Obj)}{σ:St}{H:Hp}{s:Shared}(I:Inv X (aA++pl) σ H s):Inv X aA σ H s:=I.pins_of fun p hp=>I.pin p (ATE _ (AUt _ hp))
theorem Do{iter:Expr}{body:List Stmt}{wi:TI}{g:TG}{tb:TS}{pos:Pos}(hp:PassesOwn (model X.prog X.w) X.A X.env X.xe)(hc:X.calm=true)(hi:PI X tg iter wi)(hg:PG X tg g)(hb:PSs X body tb)
  (hs:∀x,foldedSetIterable iter X.env x=pure x:=by intro _;rfl):PS X (.For tg iter body [] pos) (ARh wi g tb):=by
 walk_at "2";refine wpAny_For (thn (hi aA s σ H _ I h) fun v s1 h1=>thn h1 fun itv s2 h2=>?_) hs;obtain⟨it,fp,tn,J,H2,e,I2,T,st2,f2,W,⟨m0,w0⟩,turn⟩:=h2;subst e;have stat:∀{H':Hp},(∀b∈fp,H' b=none)->∀b∈fp,HX X aA H' b:=fun hn b hb=>⟨hn b hb,(f2 b hb).2⟩;refine codeAny_forLoop_any (fun n s'=>∃i zd H',Inv X aA zd H' s'/\tn i s'.heap/\(∀b∈fp,H' b=none)/\W i n zd H') ?_ m0 ⟨0,σ,H2,I2,st2,fun b hb=>(f2 b hb).1,w0⟩;rintro n s3 ⟨i,zm,H3,I3,st3,nR,w3⟩;rcases turn i n zm H3 w3 with⟨stop,qn⟩|⟨go,N,hN,step⟩
 .refine AUO hp (thn (T.done X rfl rfl rfl hc i aA s3 zm H3 X.xe I3 (stat nR) st3 stop) fun r s4 ⟨hr,I4⟩=>?_);subst hr;exact AUi ⟨zm,H3,I4,qn⟩
 .refine AUO hp (thn (T.item X rfl rfl rfl hc i aA s3 zm H3 X.xe I3 (stat nR) st3 go) fun r s4 ⟨u,hr,h4⟩=>?_);subst hr;refine AUO hp (thn h4 fun _ s5 ⟨x,H5,I5,r5,y5,iV,jS⟩=>?_);have qh:=I5.pinned (stat jS) (T.obj _ _ iV);refine AUO hp (thn (hg _ s5 zm H5 x u _ qh r5 (step x H5 y5)) fun _ s6 ⟨yc,H6,I6,q6⟩=>?_);refine AUO hp (thn (hb _ s6 yc H6 _ I6 q6) fun f s7 q7=>?_);have again:∀{zo:St} {H7:Hp},Inv X (aA++QB fp s5.heap) zo H7 s7->N zo H7->∃m,m<n/\∃i zd H',Inv X aA zd H' s7/\tn i s7.heap/\(∀b∈fp,H' b=none)/\W i m zd H':=fun {zo H7} I7 n7=>by
   obtain⟨m',hm,w7⟩:=hN zo H7 n7;refine⟨m',hm,i+1,zo,H7,I7.unpinned,T.keep _ _ _ iV fun b hb o e=>(I7.pin (b,o) (ATE _ (ATE _ (FN hb e)))).1,fun b hb=>?_,w7⟩;obtain⟨o,e,d⟩:=T.obj _ _ iV b hb;exact(I7.pin (b,o) (ATE _ (ATE _ (FN hb e)))).2.1
  cases f with
  | next=>obtain⟨zo,H7,I7,n7⟩:=q7;exact again I7 n7
  | cont=>obtain⟨zo,H7,I7,n7⟩:=q7;exact again I7 n7
  | brk=>obtain⟨zo,H7,I7,q7⟩:=q7;exact⟨zo,H7,I7.unpinned,q7⟩
  | ret v=>obtain⟨x7,zo,H7,I7,r7,q7⟩:=q7;exact⟨x7,zo,H7,I7.unpinned,r7,q7⟩
end
theorem Hg{K:PySem.W.Frag}{a:Addr}{xs:List V}{g:TG}{tb:TS}{D:Lj}{σ:St}{H:Hp}(Pv:Nat->St->Hp->Prop)(h0:Pv 0 σ H)(hl:∀i σ H,i<=xs.length->Pv i σ H->SqL K H a xs)
  (hs:∀i x σ H,xs[i]?=some x->Pv i σ H->g x σ H fun zj H2=>tb { D with nx:=Pv (i+1),ct:=Pv (i+1),bk:=D.nx } zj H2) (hd:∀σ H,Pv xs.length σ H->D.nx σ H) :
  ∃W:Nat->Nat->St->Hp->Prop,(∃m,W 0 m σ H)/\∀i m σ H,W i m σ H ->
   ((Itl K a).stop i H/\D.nx σ H)\/((Itl K a).go i H/\∃N:St->Hp->Prop,(∀zd H',N zd H'->∃m',m'<m/\W (i+1) m' zd H')/\∀x H',(Itl K a).yld i H x H'->g x σ H' fun zj H2=>tb { D with nx:=N,ct:=N,bk:=D.nx } zj H2):=by
 (refine⟨fun i m σ H=>m=xs.length-i/\i<=xs.length/\Pv i σ H,⟨xs.length,by simp,ATW _,h0⟩,?_⟩;rintro i m σ H ⟨rfl,hi,p⟩;have q:=hl i σ H hi p);by_cases hlt:i<xs.length
 .refine .inr ⟨⟨xs,xs[i],q,by simp[hlt]⟩,Pv (i+1),fun zd H' p'=>⟨xs.length-(i+1),by omega,rfl,hlt,p'⟩,fun x H' y=>?_⟩;obtain⟨e,y⟩:=y;subst e;exact hs i x σ _ (y xs q) p
 .have e:i=xs.length:=by omega
  subst e;exact .inl ⟨⟨xs,q,Nat.le_refl _⟩,hd σ H p⟩
theorem Gb{lo:Int}{n:Nat}{g:TG}{tb:TS}{D:Lj}{σ:St}{H:Hp}(Pv:Nat->St->Hp->Prop)(h0:Pv 0 σ H)
  (hs:∀i σ H,i<n->Pv i σ H->g (.int (lo+i)) σ H fun zj H2=>tb { D with nx:=Pv (i+1),ct:=Pv (i+1),bk:=D.nx } zj H2) (hd:∀σ H,Pv n σ H->D.nx σ H) :
  ∃W:Nat->Nat->St->Hp->Prop,(∃m,W 0 m σ H)/\∀i m σ H,W i m σ H ->
   ((Itr lo n).stop i H/\D.nx σ H)\/((Itr lo n).go i H/\∃N:St->Hp->Prop,(∀zd H',N zd H'->∃m',m'<m/\W (i+1) m' zd H')/\∀x H',(Itr lo n).yld i H x H'->g x σ H' fun zj H2=>tb { D with nx:=N,ct:=N,bk:=D.nx } zj H2):=by
 (refine⟨fun i m σ H=>m=n-i/\i<=n/\Pv i σ H,⟨n,by simp,ATW _,h0⟩,?_⟩;rintro i m σ H ⟨rfl,hi,p⟩);by_cases hlt:i<n
 .refine .inr ⟨hlt,Pv (i+1),fun zd H' p'=>⟨n-(i+1),by omega,rfl,hlt,p'⟩,fun x H' y=>?_⟩;obtain⟨e,y⟩:=y;subst e y;exact hs i σ _ hlt p
 .have e:i=n:=by omega
  subst e;exact .inl ⟨Nat.le_refl _,hd σ H p⟩
abbrev R2:=V->V->Hp->VK->Prop
def OpR(X:Cx)(f:Value->Value->Sem Value)(r:R2):Prop :=
 ∀(aA:List (Addr×Obj)) (s:Shared) (σ:St) (H:Hp) (x y:V) (v u:Value) (Q:VK),Inv X aA σ H s->Bc x v->Bc y u->r x y H Q ->
  wpAny (model X.prog X.w) X.A (f v u) (EP X aA σ Q) X.xe s
def UnR(X:Cx)(f:Value->Sem Value)(r:V->Hp->VK->Prop):Prop :=
 ∀(aA:List (Addr×Obj)) (s:Shared) (σ:St) (H:Hp) (x:V) (v:Value) (Q:VK),Inv X aA σ H s->Bc x v->r x H Q ->
  wpAny (model X.prog X.w) X.A (f v) (EP X aA σ Q) X.xe s
def Jl(X:Cx)(f:Value)(r:List V->Hp->VK->Prop):Prop :=
 ∀(aA:List (Addr×Obj)) (s:Shared) (σ:St) (H:Hp) (xs:List V) (us:List Value) (Q:VK),Inv X aA σ H s->BW xs us->r xs H Q ->
  wpAny (model X.prog X.w) X.A (call f us) (EP X aA σ Q) X.xe s
def ASd(X:Cx)(r:V->Hp->(Bool->Hp->Prop)->Prop):Prop :=
 ∀(aA:List (Addr×Obj)) (s:Shared) (σ:St) (H:Hp) (x:V) (v:Value) (Q:Bool->Hp->Prop),Inv X aA σ H s->Bc x v->r x H Q ->
  wpAny (model X.prog X.w) X.A (truthy v) (TP X aA σ Q) X.xe s
def tOp(r:R2)(ta tb:TE):TE:=fun σ H Q=>ta σ H fun x H1=>tb σ H1 fun y H2=>r x y H2 Q
def tUn(r:V->Hp->VK->Prop)(ta:TE):TE:=fun σ H Q=>ta σ H fun x H1=>r x H1 Q
def rI(C:Int->Int->Prop)(g:Int->Int->V):R2:=fun x y H Q=>∃i j,x=.int i/\y=.int j/\C i j/\Q (g i j) H
def rI0(g:Int->Int->V):R2:=fun x y H Q=>∃i j,x=.int i/\y=.int j/\Q (g i j) H
def rU(g:Int->V):V->Hp->VK->Prop:=fun x H Q=>∃i,x=.int i/\Q (g i) H
section
variable {X:Cx}{a b c:Expr}{ta tb tc:TE}{pos:Pos}
theorem AG0(ha:PE X a ta)(hb:PE X b tb){aA:List (Addr×Obj)}{s:Shared}{σ:St}{H:Hp}{R:V->V->Hp->Prop}(I:Inv X aA σ H s)
  (h:ta σ H fun x H1=>tb σ H1 fun y H2=>R x y H2) {Q:Value->Shared->Prop} {f:Value->Value->Sem Value}
  (hf:∀v u s2 x y H2,Inv X aA σ H2 s2->Bc x v->Bc y u->R x y H2->wpAny (model X.prog X.w) X.A (f v u) Q X.xe s2) :
  wpAny (model X.prog X.w) X.A (eval a X.env) (fun v zf=>wpAny (model X.prog X.w) X.A (eval b X.env) (fun u zl=>wpAny (model X.prog X.w) X.A (f v u) Q X.xe zl) X.xe zf) X.xe s:=by
 refine thn (ha aA s σ H _ I h) fun v s1 ⟨x,H1,I1,r1,q1⟩=>?_;refine thn (hb aA s1 σ H1 _ I1 q1) fun u s2 ⟨y,H2,I2,r2,q2⟩=>?_;exact hf v u s2 x y H2 I2 r1 r2 q2
theorem An{op:Operator}{r:R2}(ho:OpR X (binaryOp op) r)(ha:PE X a ta)(hb:PE X b tb):PE X (.BinOp a op b pos) (tOp r ta tb):=by
 walk_at "k";exact wpAny_BinOp (AG0 ha hb I h fun v u s2 x y H2 I2 rx ry q=>ho aA s2 σ H2 x y v u Q I2 rx ry q)
theorem JM{op:UnaryOp}{r:V->Hp->VK->Prop}(ho:UnR X (unaryOp op) r)(ha:PE X a ta):PE X (.UnaryOp op a pos) (tUn r ta):=by
 walk_at "k";exact UnaryOp_ (thn (ha aA s σ H _ I h) fun v s1 ⟨x,H1,I1,r1,q1⟩=>ho aA s1 σ H1 x v Q I1 r1 q1)
theorem opI{f:Value->Value->Sem Value}{C:Int->Int->Prop}{g:Int->Int->Int}
  (rule:∀(i j:Int) (t u:Tok) (s:Shared) (Q:Value->Shared->Prop) (E:Value->Shared->Prop),C i j->Q (.int (g i j) s.toks) { s with toks:=s.toks+1 }->wpAny (model X.prog X.w) X.A (f (.int i t) (.int j u)) Q E s) :
  OpR X f (rI C fun i j=>.int (g i j)):=by
 walk_at "m";obtain⟨i,j,rfl,rfl,hc,q⟩:=h;walk_at "H";(obtain⟨t',rfl⟩:=ry);exact rule i j t t' s _ _ hc ⟨.int (g i j),H,I.tok _,⟨_,rfl⟩,q⟩
theorem AMA{f:Value->Value->Sem Value}{g:Int->Int->Int}
  (rule:∀(i j:Int) (t u:Tok) (s:Shared) (Q:Value->Shared->Prop) (E:Value->Shared->Prop),Q (.int (g i j) s.toks) { s with toks:=s.toks+1 }->wpAny (model X.prog X.w) X.A (f (.int i t) (.int j u)) Q E s) :
  OpR X f (rI0 fun i j=>.int (g i j)):=by
 walk_at "m";obtain⟨i,j,rfl,rfl,q⟩:=h;walk_at "H";(obtain⟨t',rfl⟩:=ry);exact rule i j t t' s _ _ ⟨.int (g i j),H,I.tok _,⟨_,rfl⟩,q⟩
theorem AEs{f:Value->Value->Sem Value}{g:Int->Int->Bool}
  (rule:∀(i j:Int) (t u:Tok) (s:Shared) (Q:Value->Shared->Prop) (E:Value->Shared->Prop),Q (.bool (g i j)) s->wpAny (model X.prog X.w) X.A (f (.int i t) (.int j u)) Q E s) :
  OpR X f (rI0 fun i j=>.bl (g i j)):=by
 walk_at "m";obtain⟨i,j,rfl,rfl,q⟩:=h;walk_at "H";(obtain⟨t',rfl⟩:=ry);exact rule i j t t' s _ _ ⟨.bl (g i j),H,I,rfl,q⟩
def ASh(i j:Int):Prop:=0<j/\j<1073741824
def ARz(i j:Int):Prop:=j≠0/\j.natAbs<1073741824
def AQw(i j:Int):Prop:=0<=j/\j<=1000000/\i.natAbs<2^64
def Rn(i j:Int):Prop:=(-(2^64)<i/\i<2^64)\/(-(2^64)<j/\j<2^64)
theorem Rn.ok{i j:Int}(h:Rn i j):IntMulOk i j:=by
 rcases h with⟨h1,h2⟩|⟨h1,h2⟩
 .exact .of_left (intBits_le_64 h1 h2)
 .exact .of_right (intBits_le_64 h1 h2)
theorem Bp:OpR X (binaryOp .Add) (rI0 fun i j=>.int (i+j)):=AMA fun _ _ _ _ _ _ _ q=>add_int q
theorem Jh:OpR X (binaryOp .Sub) (rI0 fun i j=>.int (i-j)):=AMA fun _ _ _ _ _ _ _ q=>sub_int q
theorem Dd:OpR X (binaryOp .Mod) (rI (fun _ j=>0<j) fun i j=>.int (i%j)):=opI fun i j _ _ _ _ _ hc q=>by
 have h1:(0:Int)<j:=hc;exact mod_int' (by omega) (by rw[Int.fmod_eq_emod_of_nonneg i (by omega)];exact q)
theorem unI{f:Value->Sem Value}{g:Int->Int}
  (rule:∀(i:Int) (t:Tok) (s:Shared) (Q:Value->Shared->Prop) (E:Value->Shared->Prop),Q (.int (g i) s.toks) { s with toks:=s.toks+1 }->wpAny (model X.prog X.w) X.A (f (.int i t)) Q E s) :
  UnR X f (rU fun i=>.int (g i)):=by
 intro aA s σ H x v Q I rx h;obtain⟨i,rfl,q⟩:=h;walk_at "H";exact rule i t s _ _ ⟨.int (g i),H,I.tok _,⟨_,rfl⟩,q⟩
theorem Gi:UnR X (unaryOp .USub) (rU fun i=>.int (-i)):=unI fun _ _ _ _ _ q=>neg_int q
end
noncomputable def AMS:V->V->Bool
 | .non,.non=>true | .non,.int _=>true | .int _,.non=>true | .non,.bl _=>true | .bl _,.non=>true | .non,.str _=>true | .str _,.non=>true
 | .int _,.int _=>true | .bl _,.bl _=>true | .str _,.str _=>true | .byt _,.byt _=>true
 | .int _,.str _=>true | .str _,.int _=>true | .bl _,.str _=>true | .str _,.bl _=>true
 | _,_=>false
def rEq:R2:=fun x y H Q=>AMS x y=true/\Q (.bl (decide (x=y))) H
def rNe:R2:=fun x y H Q=>AMS x y=true/\Q (.bl (!decide (x=y))) H
theorem YX{i j:Int}:decide (V.int i=V.int j)=(i==j):=by
 rw[AU5];simp
theorem ABn{i j:Bool}:decide (V.bl i=V.bl j)=(i==j):=by
 rw[AU5];simp
theorem ZK{i j:Str}:decide (V.str i=V.str j)=(i==j):=by
 rw[AU5];simp
theorem Yb{i j:Array UInt8}:decide (V.byt i=V.byt j)=(i.toList==j.toList):=by
 rw[AU5];cases i;cases j;simp
section
variable {X:Cx}{a b c:Expr}{ta tb tc:TE}{pos:Pos}
theorem Bf{aA:List (Addr×Obj)}{σ:St}{H:Hp}{s:Shared}{Q:VK}{k k':Bool}(I:Inv X aA σ H s)(q:Q (.bl k) H)(e:k=k'):EP X aA σ Q (.bool k') s:=by
 subst e;exact⟨.bl k,H,I,rfl,q⟩
theorem Be:OpR X (compareOp .Eq) rEq:=by
 walk_at "m";obtain⟨hs,q⟩:=h;cases x with
 | non =>
  cases rx;cases y with
  | non=>cases ry;exact PySem.EqNone.eq_none_none (Bf I q (by simp))
  | bl j=>cases ry;exact PySem.EqNone.eq_none_bool (Bf I q (by simp))
  | int j=>obtain⟨t',rfl⟩:=ry;exact PySem.EqNone.eq_none_int (Bf I q (by simp))
  | str j=>obtain⟨t',rfl⟩:=ry;exact PySem.EqNone.eq_none_str (Bf I q (by simp))
  | _=>exact absurd (show false=true from hs) AS3
 | bl i =>
  cases rx;cases y with
  | non=>cases ry;exact PySem.EqNone.eq_bool_none (Bf I q (by simp))
  | bl j=>cases ry;exact eq_bool (Bf I q ABn)
  | str j=>obtain⟨t',rfl⟩:=ry;exact PySem.EqMixed.eq_bool_str (Bf I q (by simp))
  | _=>exact absurd (show false=true from hs) AS3
 | int i =>
  walk_at "H";cases y with
  | non=>cases ry;exact PySem.EqNone.eq_int_none (Bf I q (by simp))
  | int j=>obtain⟨t',rfl⟩:=ry;exact eq_int (Bf I q YX)
  | str j=>obtain⟨t',rfl⟩:=ry;exact PySem.EqMixed.eq_int_str (Bf I q (by simp))
  | _=>exact absurd (show false=true from hs) AS3
 | str i =>
  walk_at "H";cases y with
  | non=>cases ry;exact PySem.EqNone.eq_str_none (Bf I q (by simp))
  | bl j=>cases ry;exact PySem.EqMixed.eq_str_bool (Bf I q (by simp))
  | int j=>obtain⟨t',rfl⟩:=ry;exact PySem.EqMixed.eq_str_int (Bf I q (by simp))
  | str j=>obtain⟨t',rfl⟩:=ry;exact eq_str (Bf I q ZK)
  | _=>exact absurd (show false=true from hs) AS3
 | byt i =>
  walk_at "H";cases y with
  | byt j=>obtain⟨t',rfl⟩:=ry;exact W.eq_bytes (Bf I q Yb)
  | _=>exact absurd (show false=true from hs) AS3
 | _=>cases y<;>exact absurd (show false=true from hs) AS3
theorem GD:OpR X (compareOp .NotEq) rNe:=by
 walk_at "m";obtain⟨hs,q⟩:=h;cases x with
 | non =>
  cases rx;cases y with
  | non=>cases ry;exact PySem.EqNone.ne_none_none (Bf I q (by simp))
  | bl j=>cases ry;exact PySem.EqNone.ne_none_bool (Bf I q (by simp))
  | int j=>obtain⟨t',rfl⟩:=ry;exact PySem.EqNone.ne_none_int (Bf I q (by simp))
  | str j=>obtain⟨t',rfl⟩:=ry;exact PySem.EqNone.ne_none_str (Bf I q (by simp))
  | _=>exact absurd (show false=true from hs) AS3
 | bl i =>
  cases rx;cases y with
  | non=>cases ry;exact PySem.EqNone.ne_bool_none (Bf I q (by simp))
  | bl j=>cases ry;exact ne_bool (Bf I q (congrArg not ABn))
  | str j=>obtain⟨t',rfl⟩:=ry;exact PySem.EqMixed.ne_bool_str (Bf I q (by simp))
  | _=>exact absurd (show false=true from hs) AS3
 | int i =>
  walk_at "H";cases y with
  | non=>cases ry;exact PySem.EqNone.ne_int_none (Bf I q (by simp))
  | int j=>obtain⟨t',rfl⟩:=ry;exact ne_int (Bf I q (congrArg not YX))
  | str j=>obtain⟨t',rfl⟩:=ry;exact PySem.EqMixed.ne_int_str (Bf I q (by simp))
  | _=>exact absurd (show false=true from hs) AS3
 | str i =>
  walk_at "H";cases y with
  | non=>cases ry;exact PySem.EqNone.ne_str_none (Bf I q (by simp))
  | bl j=>cases ry;exact PySem.EqMixed.ne_str_bool (Bf I q (by simp))
  | int j=>obtain⟨t',rfl⟩:=ry;exact PySem.EqMixed.ne_str_int (Bf I q (by simp))
  | str j=>obtain⟨t',rfl⟩:=ry;exact ne_str (Bf I q (congrArg not ZK))
  | _=>exact absurd (show false=true from hs) AS3
 | byt i =>
  walk_at "H";cases y with
  | byt j=>obtain⟨t',rfl⟩:=ry;exact W.ne_bytes (Bf I q (congrArg not Yb))
  | _=>exact absurd (show false=true from hs) AS3
 | _=>cases y<;>exact absurd (show false=true from hs) AS3
theorem Fy:OpR X (compareOp .Lt) (rI0 fun i j=>.bl (decide (i<j))):=AEs fun _ _ _ _ _ _ _ q=>lt_int q
theorem V8:OpR X (compareOp .LtE) (rI0 fun i j=>.bl (decide (i<=j))):=AEs fun _ _ _ _ _ _ _ q=>le_int q
theorem Gp:OpR X (compareOp .Gt) (rI0 fun i j=>.bl (decide (j<i))):=AEs fun _ _ _ _ _ _ _ q=>gt_int q
theorem Yh:OpR X (compareOp .GtE) (rI0 fun i j=>.bl (decide (j<=i))):=AEs fun _ _ _ _ _ _ _ q=>ge_int q
theorem SN:OpR X (compareOp .In) (fun x y H Q=>∃i j,x=.str i/\y=.str j/\Q (.bl (!(Builtin.Str.occurrences j i 0 j.length 1).isEmpty)) H):=by
 walk_at "m";obtain⟨i,j,rfl,rfl,q⟩:=h;walk_at "H";(obtain⟨t',rfl⟩:=ry);exact in_str (Bf I q rfl)
theorem ADq:OpR X (compareOp .IsNot) (fun x y H Q=>y=.non/\Q (.bl (!decide (x=.non))) H):=by
 intro aA s σ H x y v u Q I rx ry h;obtain⟨rfl,q⟩:=h;cases ry;refine isnot_none_gen (Bf I q ?_);cases x<;>first
  | (cases rx;rfl)
  | (obtain⟨t,rfl⟩:=rx;rfl)
def ASA:HO->Bool
 | .lst _=>true
 | .ins _ _ _=>true
 | _=>false
theorem Ar(b:Expr){op:CmpOp}(h:op≠.In:=by decide)(h2:op≠.NotIn:=by decide):behindInMarks op b=false:=by
 have e1:(op==CmpOp.In)=false:=by cases op<;>first | rfl | exact absurd rfl h
 have e2:(op==CmpOp.NotIn)=false:=by cases op<;>first | rfl | exact absurd rfl h2
 cases b<;>simp[behindInMarks,e1,e2]
theorem Et{op:CmpOp}{r:R2}(ho:OpR X (compareOp op) r)(ha:PE X a ta)(hb:PE X b tb)(hm:behindInMarks op b=false):PE X (.Compare a [op] [b] pos) (tOp r ta tb):=by
 walk_at "k";exact wpAny_Compare1 (AG0 ha hb I h fun v u s2 x y H2 I2 rx ry q=>ho aA s2 σ H2 x y v u Q I2 rx ry q) hm
def APD(t:TE):TT:=fun σ H Q=>t σ H fun x H'=>∃k,x=.bl k/\Q k H'
theorem Ak{op:CmpOp}{r:R2}(ho:OpR X (compareOp op) r)(ha:PE X a ta)(hb:PE X b tb)(hm:behindInMarks op b=false):PT X (.Compare a [op] [b] pos) (APD (tOp r ta tb)):=by
 intro aA s σ H Q I h;refine wpAny_isTrue_Compare1 (thn (ha aA s σ H _ I h) fun v s1 ⟨x,H1,I1,r1,q1⟩=>thn (hb aA s1 σ H1 _ I1 q1) fun u s2 ⟨y,H2,I2,r2,q2⟩ =>
  thn (ho aA s2 σ H2 x y v u _ I2 r1 r2 q2) fun c s3 ⟨z,H3,I3,r3,k,e,q3⟩=>?_) hm
 subst e;cases r3;exact AT3 ⟨H3,I3,q3⟩
def ARO(r r':R2)(ta tb tc:TE):TE:=fun σ H Q=>ta σ H fun x H1=>tb σ H1 fun y H2=>r x y H2 fun z H3=>∃k,z=.bl k /\
 (if k=true then tc σ H3 fun w' H4=>r' y w' H4 Q else Q (.bl false) H3)
def ASU(K:W.Frag)(x:V)(H:Hp)(k:Bool):Prop :=
 match x with
 | .non=>k=false
 | .bl b=>k=b
 | .int i=>k=(i != 0)
 | .str y=>y.length<=sizeLine/\k=((y.length:Int) != 0)
 | .byt y=>y.size<=sizeLine/\k=((y.size:Int) != 0)
 | .ref p=>(∃xs,SqL K H p xs/\k=!xs.isEmpty)\/(∃xs,SqT K H p xs/\k=!xs.isEmpty)\/∃aG,H p=some (.dK aG)/\k=!aG.isEmpty
 | _=>False
theorem Ug:(sizeLine:Nat)<2^63:=by rw[sizeLine_eq];decide
theorem BJ:OpR X (binaryOp .Add) (fun x y H Q=>∃i j,x=.str i/\y=.str j/\i.length+j.length<=sizeLine/\Q (.str (i++j)) H):=by
 walk_at "m";obtain⟨i,j,rfl,rfl,hz,q⟩:=h;walk_at "H";(obtain⟨t',rfl⟩:=ry);exact add_str (fun t' tk=>⟨.str (i++j),H,I.tok _,⟨_,rfl⟩,q⟩) hz
def AMj(b:Expr):Prop:=∀o i,subscripted b false o i=operate [o,i] (getItem o i)
theorem Iw{x:V}{us:List Value}(r:BW [x] us):∃u,us=[u]/\Bc x u:=by
 cases r with
 | cons r1 r2=>cases r2;exact⟨_,rfl,r1⟩
theorem ACA{x y:V}{us:List Value}(r:BW [x,y] us):∃u w',us=[u,w']/\Bc x u/\Bc y w':=by
 cases r with
 | cons r1 r2 =>
  cases r2 with
  | cons r3 r4=>cases r4;exact⟨_,_,rfl,r1,r3⟩
theorem Mq:Jl X (.builtin "abs") (fun xs H Q=>∃i,xs=[.int i]/\Q (.int (if i<0 then -i else i)) H):=by
 walk_at "9";obtain⟨i,rfl,q⟩:=h;obtain⟨u,rfl,t,rfl⟩:=Iw r;exact call_abs_int fun u tk=>⟨.int (if i<0 then -i else i),H,I.tok _,⟨_,rfl⟩,q⟩
theorem R1(hc:X.calm=true):Jl X (.builtin "max") (fun xs H Q=>∃i j,xs=[.int i,.int j]/\Q (.int (if j > i then j else i)) H):=by
 walk_at "9";obtain⟨i,j,rfl,q⟩:=h;obtain⟨u,w',rfl,⟨t,rfl⟩,⟨t',rfl⟩⟩:=ACA r;refine max_two_ints (I.ok.hd hc) fun h' tk k=>⟨_,H,I.kept k,?_,q⟩;by_cases hj:j > i
 .rw[if_pos hj,if_pos hj];exact⟨_,rfl⟩
 .rw[if_neg hj,if_neg hj];exact⟨_,rfl⟩
theorem CJ:Jl X (.type "str") (fun xs H Q=>∃i,xs=[.int i]/\i.natAbs.log2<1920/\Q (.str (toString i)) H):=by
 walk_at "9";obtain⟨i,rfl,hz,q⟩:=h;obtain⟨u,rfl,t,rfl⟩:=Iw r;exact PySem.P.str_of_int hz ⟨.str _,H,I.tok _,⟨_,rfl⟩,q⟩
def ASg(K:W.Frag)(x:V)(H:Hp)(n:Nat):Prop :=
 match x with
 | .str y=>y.length<=sizeLine/\n=y.length
 | .byt y=>y.size<=sizeLine/\n=y.size
 | .ref p=>(∃xs,SqL K H p xs/\n=xs.length)\/∃xs,SqT K H p xs/\n=xs.length
 | _=>False
end
structure YK(h:Heap)(x dx C:Addr)(mA:Str->Option Value):Prop where
 obj:h.get? x=some (W.instObj C dx)
 ns:h.Ns1 dx mA
 ne:dx≠x
theorem AAt{h:Heap}{dx:Addr}{mA:Str->Option Value}(n:h.Ns1 dx mA):∃od,h.get? dx=some od/\∀name,W.lookIn name od=some (mA name):=by
 obtain⟨o,es,ep,ho,hd,hk,_,hm⟩:=n;refine⟨o,ho,fun name=>?_⟩;have e:=hm name;unfold nsFind findBy at e;rw[<-Array.find?_toList]at e;unfold W.lookIn;rw[hd];dsimp only
 split
 .rename_i y q
  rw[q]at e;exact congrArg some e
 .rename_i q
  rw[q]at e;have a:es.toList.any (·.refKey)=false:=by
   rw[List.any_eq_false];intro y hy;obtain⟨z,t,hkey⟩:=hk y (Array.mem_toList_iff.mp hy);simp[DictEntry.refKey,hkey]
  have a':¬es.toList.any (·.refKey)=true:=by rw[a];exact AS3
  rw[if_neg a'];exact congrArg some e
theorem YK.look{h:Heap}{x dx C:Addr}{mA:Str->Option Value}(I:YK h x dx C mA):∃od,W.InstAt h x (W.instObj C dx) C (some od)/\∀name,W.lookIn name od=some (mA name) :=
 let ⟨od,ho,hl⟩:=AAt I.ns
 ⟨od,⟨I.obj,rfl,rfl,ho⟩,hl⟩
section
variable {prog:Program}{w:World}{A:Around}{E:Value->Shared->Prop}{s:Shared}{K:W.Frag}{x dx C f:Addr}{mA:Str->Option Value}{name:Str}{v:Value}
theorem AEp{expr:Bool}{Q:Value->Shared->Prop}(X:K.In s.heap)(I:YK s.heap x dx C mA)(hg:W.plainGet K C name=true)(hh:W.hasDictIn K C=true)
  (ha:W.findIn K (.ref C) name=some none) (hv:mA name=some v) (hv':W.handedIn v=true) (h:Q v { s with toks:=s.toks+1 }) :
  wpAny (model prog w) A (getAttr (.ref x) name expr) Q E s:=by
 obtain⟨od,J,hl⟩:=I.look;exact W.get_value X J (AVU hg).1 (W.findObj_own hh ha rfl (by rw[hl,hv])) hv' h
theorem ADC{pl:Sem Bool}{Q:Value×List Value->Shared->Prop}(X:K.In s.heap)(I:YK s.heap x dx C mA)(hg:W.plainGet K C name=true)
  (hf:W.findIn K (.ref C) name=some (some (.ref f))) (ht:W.isFn K (.ref f)=true) (hv:mA name=none) (h:Q (.ref f,[.ref x]) s) :
  wpAny (model prog w) A (getMethod (.ref x) name pl) Q E s:=by
 obtain⟨od,J,hl⟩:=I.look;exact W.method_fn X J (AVU hg).1 (AVU hg).2 hf (beq_iff_eq.mp ht) (by show(W.lookIn name od).map (·.isSome)=some false;rw[hl,hv];rfl) h
theorem AEP{ns:List Str}{Q:Unit->Shared->Prop}(X:K.In s.heap)(I:YK s.heap x dx C mA)
  (hs:W.findIn K (.ref C) "__setattr__"=some (some (.builtin "object.__setattr__"))) (hp:W.plainOver K C=true) (ht:W.takerIn K C name=some none) (hh:W.hasDictIn K C=true)
  (hw:PySem.Within mA ns) (hsz:ns.length<=sizeLine)
  (h:∀h',YK h' x dx C (fun y=>if y=name then some v else mA y)->Heap.SameBut dx s.heap h'->Q () { s with heap:=h',toks:=s.toks+2 }) :
  wpAny (model prog w) A (setAttr (.ref x) name v) Q E s:=by
 obtain⟨od,J,hl⟩:=I.look;refine W.set_plain X J hs (W.osa_open (s:={ s with toks:=s.toks+1 }) (r:=none) X J hp ht fun b=>?_);obtain⟨cd,hc,hd'⟩:=W.any_some hh;have hx:s.heap.get? x=some ⟨.ref C,some dx,.plain,#[]⟩:=I.obj;refine ASv (ATC (ASv (ASv (wpAny_loadPart hx (ASv (W.Looks.here (s:={ s with toks:=s.toks+1 }) (W.looks_clsIn X hc) ?_))))));rw[hd'];refine ATC (a:=some dx) (ASv (ATC (ASv ?_)));refine wpAny_nsSet1 (s:={ s with toks:=s.toks+1 }) I.ns fun h' hn2 hs2=>?_;obtain⟨oD,esD,epD,hoD,hdD,hcD⟩:=hn2.count (PySem.Within.cons name v hw);refine ASv (wpAny_lookBehind hoD (by rw[hdD];exact pastItsLine_dict (ATG hcD (by rw[ASx];omega))) ?_);exact ATC (h _ ⟨(hs2.2 _ (AVT I.ne)).trans I.obj,hn2,I.ne⟩ hs2)
theorem ABi{R:Result->Shared->Prop}{vs:List Value}{kw:List (Str×Value)}(X:K.In s.heap)(hm:W.makesIn K C=true)
  (hi:W.findIn K (.ref C) "__init__"=some (some (.ref f))) (hf:W.typeIn K (.ref f)=some (.type "function"))
  (h:codeAny (model prog w) (A.under (.builtin "type.__call__" ⟨.ref C::vs,kw⟩)) (.call (.ref f) ⟨.ref (s.heap.objs.size+1)::vs,kw⟩) (W.InitBack (s.heap.objs.size+1) R)
   { s with heap:=(s.heap.push W.emptyDict).push (W.instObj C s.heap.objs.size) }) :
  codeAny (model prog w) A (.call (.ref C) ⟨vs,kw⟩) R s:=by
 obtain⟨hh,g,d,t,os⟩:=s;exact W.make_core (W.makes_of X hm) (W.looks_findIn X hi) (fun self=>W.bind_fn X self hf) (.inl rfl) h
end
noncomputable def Ig(f:Str)(v:V):List (Str×V)->List (Str×V)
 | []=>[(f,v)]
 | (g,x)::r=>if g=f then(g,v)::r else(g,x)::Ig f v r
theorem Oi(f g:Str)(v:V):∀fs:List (Str×V),(Ig f v fs).lookup g=if g=f then some v else fs.lookup g
 | []=>by
  show List.lookup g [(f,v)]=_;by_cases h:g=f
  .have hb:(g==f)=true:=beq_iff_eq.mpr h;simp only[List.lookup,hb,if_pos h]
  .have hb:(g==f)=false:=beq_eq_false_iff_ne.mpr h;simp only[List.lookup,hb,if_neg h]
 | (k,x)::r=>by
  have ih:=Oi f g v r;(rw[show Ig f v ((k,x)::r)=(if k=f then(k,v)::r else(k,x)::Ig f v r) from rfl];by_cases hk:k=f)
  .rw[if_pos hk];by_cases h:g=k
   .have hb:(g==k)=true:=beq_iff_eq.mpr h;simp only[List.lookup,hb,if_pos (h.trans hk)]
   .have hb:(g==k)=false:=beq_eq_false_iff_ne.mpr h;simp only[List.lookup,hb,if_neg (fun e:g=f=>h (e.trans hk.symm))]
  .rw[if_neg hk];by_cases h:g=k
   .have hb:(g==k)=true:=beq_iff_eq.mpr h;simp only[List.lookup,hb,if_neg (fun e:g=f=>hk (h.symm.trans e))]
   .have hb:(g==k)=false:=beq_eq_false_iff_ne.mpr h;simp only[List.lookup,hb];exact ih
theorem Ny(f:Str)(v:V):∀fs:List (Str×V),f∈(Ig f v fs).map (·.1)/\∀g,g∈fs.map (·.1)->g∈(Ig f v fs).map (·.1)
 | []=>⟨by simp[Ig],fun g h=>by simp at h⟩
 | (k,x)::r=>by
  obtain⟨i1,i2⟩:=Ny f v r;(rw[show Ig f v ((k,x)::r)=(if k=f then(k,v)::r else(k,x)::Ig f v r) from rfl];by_cases hk:k=f)
  .rw[if_pos hk];subst hk;exact⟨by simp,fun g h=>by simpa using h⟩
  .rw[if_neg hk];refine⟨?_,fun g h=>?_⟩
   .rw[List.map_cons];exact ATS _ i1
   .rw[List.map_cons]at h ⊢;rcases AS2.mp h with e|e
    .exact AS2.mpr (.inl e)
    .exact ATS _ (i2 g e)
theorem Oa(f:Str)(v:V):∀fs:List (Str×V),(Ig f v fs).length<=fs.length+1
 | []=>by simp[Ig]
 | (k,x)::r=>by
  have ih:=Oa f v r;(rw[show Ig f v ((k,x)::r)=(if k=f then(k,v)::r else(k,x)::Ig f v r) from rfl];by_cases hk:k=f)
  .rw[if_pos hk,ASx,ASx];omega
  .rw[if_neg hk,ASx,ASx];omega
theorem JB.some_of{v:V}{o:Option Value}(r:JB (some v) o):∃u,o=some u/\Bc v u:=by
 cases o with
 | none=>exact(show False from r).elim
 | some u=>exact⟨u,rfl,r⟩
theorem JB.none_of{o:Option Value}(r:JB none o):o=none:=by
 cases o with
 | none=>rfl
 | some u=>exact(show False from r).elim
theorem Zy{v:V}{u:Value}(r:Bc v u):W.handedIn u=true:=by
 cases v with
 | non=>cases (show u=Value.none from r);rfl
 | bl b=>cases (show u=Value.bool b from r);rfl
 | int i=>obtain⟨t,e⟩:=(show ∃t,u=Value.int i t from r);cases e;rfl
 | str x=>obtain⟨t,e⟩:=(show ∃t,u=Value.str x t from r);cases e;rfl
 | byt b=>obtain⟨t,e⟩:=(show ∃t,u=Value.bytes b t from r);cases e;rfl
 | flt b=>obtain⟨t,e⟩:=(show ∃t,u=Value.float b t from r);cases e;rfl
 | ref a=>cases (show u=Value.ref a from r);rfl
 | ty n=>cases (show u=Value.type n from r);rfl
section
variable {P:Program}{w:World}{H H':Hp}{h h':Heap}{a C dx:Addr}{fs fs':List (Str×V)}
theorem O9(hok:HOk P w H h)(e:H a=some (.ins C dx fs)):∃mA,YK h a dx C mA/\(∀f,JB (fs.lookup f) (mA f))/\PySem.Within mA (fs.map (·.1))/\fs.length<=1000/\H dx=some (.own a):=by
 obtain⟨d,z,ne,ob,mA,n,r,q⟩:=(show Ci P w H h a (.ins C dx fs) from hok a _ e);exact⟨mA,⟨ob,n,ne⟩,r,q,z,d⟩
end
structure Cls(K:W.Frag)(C:Addr):Prop where
 pg:W.plainGet K C Str.empty=true
 hd:W.hasDictIn K C=true
 po:W.plainOver K C=true
 sa:W.findIn K (.ref C) "__setattr__"=some (some (.builtin "object.__setattr__"))
theorem Cls.get{K:W.Frag}{C:Addr}(c:Cls K C)(f:Str):W.plainGet K C f=true:=c.pg
def Fl(K:W.Frag)(C:Addr)(f:Str):Prop:=W.findIn K (.ref C) f=some none
theorem Fl.taker{K:W.Frag}{C:Addr}{f:Str}(n:Fl K C f):W.takerIn K C f=some none:=by
 unfold W.takerIn;rw[show W.findIn K (.ref C) f=some none from n];rfl
structure Con(K:W.Frag)(C:Addr)(f:Str)(v:V)(u:Value):Prop where
 at_:W.findIn K (.ref C) f=some (some u)
 rel:Bc v u
 get:W.specialIn K u "__get__"=some none
 cp:W.copiedNames.contains f=false
structure ADK(K:W.Frag)(C:Addr)(m:Str)(f:Addr):Prop where
 at_:W.findIn K (.ref C) m=some (some (.ref f))
 fn:W.isFn K (.ref f)=true
 kp:W.keepIn K (.ref f)=true
section
variable {X:Cx}{aA:List (Addr×Obj)}{σ:St}{H:Hp}{s:Shared}{a C dx:Addr}{fs:List (Str×V)}{f:Str}{v:V}{A:Around}{E:Value->Shared->Prop}
theorem W9{b:Bool}{Q:Value->Shared->Prop}(I:Inv X aA σ H s)(e:H a=some (.ins C dx fs))(c:Cls X.K C)(n:Fl X.K C f)(l:fs.lookup f=some v)
  (h:∀u s',Inv X aA σ H s'->Bc v u->Q u s'):wpAny (model X.prog X.w) A (getAttr (.ref a) f b) Q E s:=by
 obtain⟨mA,O,r,_,_,_⟩:=O9 I.hok e;obtain⟨u,hu,ru⟩:=JB.some_of (v:=v) (o:=mA f) (by rw[<-l];exact r f);exact AEp I.kIn O (c.get f) c.hd n hu (Zy ru) (h u _ (I.tok _) ru)
theorem Qy{m:Str}{g:Addr}{pl:Sem Bool}{Q:Value×List Value->Shared->Prop}(I:Inv X aA σ H s)(e:H a=some (.ins C dx fs))(c:Cls X.K C)(k:ADK X.K C m g)(l:fs.lookup m=none)
  (h:Q (.ref g,[.ref a]) s):wpAny (model X.prog X.w) A (getMethod (.ref a) m pl) Q E s:=by
 obtain⟨mA,O,r,_,_,_⟩:=O9 I.hok e;have hn:mA m=none:=JB.none_of (by rw[<-l];exact r m);exact ADC I.kIn O (c.get m) k.at_ k.fn hn h
theorem YM{y:V}{u:Value}{Q:Unit->Shared->Prop}(I:Inv X aA σ H s)(e:H a=some (.ins C dx fs))(c:Cls X.K C)(n:Fl X.K C f)(hl:fs.length<1000)(ry:Bc y u)
  (h:∀s',Inv X aA σ (upd H a (.ins C dx (Ig f y fs))) s'->Q () s'):wpAny (model X.prog X.w) A (setAttr (.ref a) f u) Q E s:=by
 obtain⟨mA,O,r,wi,_,ho⟩:=O9 I.hok e;have hz:(fs.map (·.1)).length<=sizeLine:=by rw[ASt,sizeLine_eq];omega
 refine AEP I.kIn O c.sa c.po n.taker c.hd wi hz fun h' O' sb=>h _ ?_;have hd:∃o,h'.get? dx=some o:=let ⟨o,_,_,e',_⟩:=O'.ns;⟨o,e'⟩;refine I.write (x:=a) (e:=dx) (by rw[e];exact True.intro) (.inr ho) (fun b q hb z=>(sb.2 b hb).trans z) hd ?_;refine⟨by rw[Az O.ne];exact ho,?_,O.ne,O'.obj,_,O'.ns,fun g=>?_,fun g hg=>?_⟩
 .have:=Oa f y fs;omega
 .show JB ((Ig f y fs).lookup g) (if g=f then some u else mA g);rw[Oi];by_cases q:g=f
  .rw[if_pos q,if_pos q];exact ry
  .rw[if_neg q,if_neg q];exact r g
 .by_cases q:g=f
  .rw[q];exact(Ny f y fs).1
  .refine(Ny f y fs).2 g (wi g fun z=>hg ?_);show(if g=f then some u else mA g)=none;rw[if_neg q];exact z
theorem Inv.made(I:Inv X aA σ H s):Inv X aA σ (upd (upd H s.heap.objs.size (.own (s.heap.objs.size+1))) (s.heap.objs.size+1) (.ins C s.heap.objs.size []))
  { s with heap:=(s.heap.push W.emptyDict).push (W.instObj C s.heap.objs.size) }:=by
 have e1:(s.heap.push W.emptyDict).get? s.heap.objs.size=some W.emptyDict:=AS1 s.heap rfl;have e2:((s.heap.push W.emptyDict).push (W.instObj C s.heap.objs.size)).get? (s.heap.objs.size+1)=some (W.instObj C s.heap.objs.size):=by
  have:=AS1 (s.heap.push W.emptyDict) (o:=W.instObj C s.heap.objs.size) rfl
  rwa [AUM]at this
 have e3:(s.heap.push W.emptyDict).Ns s.heap.objs.size (fun _=>none):=⟨W.emptyDict,#[],_,e1,rfl,(fun e he=>absurd he (by simp)),fun _=>rfl⟩;have I1:=I.laid (a:=s.heap.objs.size) (o:=.own (s.heap.objs.size+1)) (h':=s.heap.push W.emptyDict) (t':=s.toks) (fun b u q=>ASw _ q) (Nat.le_refl _) ⟨_,e1⟩;refine I1.laid (a:=s.heap.objs.size+1) (o:=.ins C s.heap.objs.size []) (t':=s.toks) (fun b u q=>ASw _ q) (AVh (AUM _ _)) ?_;have ne:s.heap.objs.size≠s.heap.objs.size+1:=ATR (Nat.lt_succ_self _);refine⟨by rw[Az ne,Ag],ATW _,ne,e2,fun _=>none,(Heap.Ns1.of_empty e3).at fun o q=>ASw _ q,fun _=>True.intro,fun y hy=>absurd rfl hy⟩
theorem ADr{prog:Program}{w:World}{env:Env}{e:Expr}{f:Str}{pos:Pos}{s:Shared}{Q:Value->Shared->Prop}(hb:attributeBase e f env (eval e env)=eval e env)
  (h:wpAny (model prog w) A (eval e env) (fun o zf=>wpAny (model prog w) A (getAttr o f true) Q E zf) E s):wpAny (model prog w) A (eval (.Attribute e f pos) env) Q E s :=
 Attribute_any_ h (by rw[arm_eval_Attribute,hb])
end
def AQX(K:W.Frag)(ta:TE)(f:Str):TE:=fun σ H Q=>ta σ H fun x H1=>∃a C dx fs v,x=.ref a/\H1 a=some (.ins C dx fs)/\Cls K C/\Fl K C f/\fs.lookup f=some v/\Q v H1
def ASp(K:W.Frag)(ta:TE)(f:Str):TE:=fun σ H Q=>ta σ H fun x H1=>∃a C dx fs v u,x=.ref a/\H1 a=some (.ins C dx fs)/\Cls K C/\Con K C f v u/\fs.lookup f=none/\Q v H1
def AQv(K:W.Frag)(ta tv:TE)(f:Str):TS:=fun D σ H=>tv σ H fun y H1=>ta σ H1 fun x H2=>∃a C dx fs,x=.ref a/\H2 a=some (.ins C dx fs)/\Cls K C/\Fl K C f/\fs.length<1000 /\
 D.nx σ (upd H2 a (.ins C dx (Ig f y fs)))
def ASf(X:Cx)(op:Operator)(rd:V->V->Hp->VK->Prop):Prop :=
 ∀(aA:List (Addr×Obj)) (s:Shared) (σ:St) (H:Hp) (x y:V) (u v:Value) (Q:VK),Inv X aA σ H s->Bc x u->Bc y v->rd x y H Q->wpAny (model X.prog X.w) X.A (inplaceOp op u v) (EP X aA σ Q) X.xe s
def AQS(K:W.Frag)(ta tv:TE)(rd:V->V->Hp->VK->Prop)(f:Str):TS:=fun D σ H=>ta σ H fun x H1=>∃a C dx fs v,x=.ref a/\H1 a=some (.ins C dx fs)/\Cls K C/\Fl K C f/\fs.lookup f=some v /\
 tv σ H1 fun y H2=>rd v y H2 fun z H3=>∃nS fs',H3 a=some (.ins C nS fs')/\fs'.length<1000/\D.nx σ (upd H3 a (.ins C nS (Ig f z fs')))
section
variable {X:Cx}{o e value:Expr}{f:Str}{pos pos' tpos:Pos}{ta tv:TE}
theorem Ib(he:PE X e ta)(hb:attributeBase e f X.env (eval e X.env)=eval e X.env):PE X (.Attribute e f pos) (AQX X.K ta f):=by
 walk_at "k";refine ADr hb (thn (he aA s σ H _ I h) fun u s1 ⟨x,H1,I1,rx,a,C,dx,fs,v,ex,ea,c,n,l,q⟩=>?_);walk_at "M";exact W9 I1 ea c n l fun u' s2 I2 ru=>⟨v,H1,I2,ru,q⟩
theorem Xy(ha:PE X o ta)(hv:PE X value tv)(hs:swapsWith value (some (.Attribute o f pos')) pos.line X.env=pure false):PS X (.Assign [.Attribute o f pos'] value pos) (AQv X.K ta tv f):=by
 walk_at "2";refine plainObj_wpAny_Assign_Attribute (thn (hv aA s σ H _ I h) fun u s1 ⟨y,H1,I1,ry,q⟩=>thn (ha aA s1 σ H1 _ I1 q) fun ov s2 ⟨x,H2,I2,rx,a,C,dx,fs,ex,ea,c,n,l,q2⟩=>?_) hs;subst ex;obtain rfl:ov=Value.ref a:=rx;exact YM I2 ea c n l ry fun s3 I3=>⟨σ,_,I3,q2⟩
def ASK:V->V->Hp->VK->Prop:=fun x y H Q=>∃i j,x=.int i/\y=.int j/\Q (.int (i+j)) H
def ASO:V->V->Hp->VK->Prop:=fun x y H Q=>∃i j,x=.int i/\y=.int j/\Q (.int (i-j)) H
end
section
variable {X:Cx}{aA:List (Addr×Obj)}{σ:St}{H:Hp}{s:Shared}{A:Around}{E:Value->Shared->Prop}{Q:Value->Shared->Prop}{c:Value}{b:Bool}
inductive Gz(K:W.Frag)(H:Hp):V->Value->Prop where
 | non:Gz K H .non (.type "NoneType")
 | bl (x:Bool):Gz K H (.bl x) (.type "bool")
 | int (i:Int):Gz K H (.int i) (.type "int")
 | str (x:Str):Gz K H (.str x) (.type "str")
 | flt (x:UInt64):Gz K H (.flt x) (.type "float")
 | lst {a:Addr} {xs:List V} (e:H a=some (.lst xs)):Gz K H (.ref a) (.type "list")
 | frz {a:Addr} {o:Obj} {xs:List V} (e:H a=some (.frz o (.lst xs))):Gz K H (.ref a) (.type "list")
 | tup {a:Addr} {xs:List V} (e:H a=some (.tup xs)):Gz K H (.ref a) (.type "tuple")
 | dK {a:Addr} {aG:List (Key×V)} (e:H a=some (.dK aG)):Gz K H (.ref a) (.type "dict")
 | dT {a:Addr} {aG:List (List Key×V)} (e:H a=some (.dT aG)):Gz K H (.ref a) (.type "dict")
 | ins {a C dx:Addr} {fs:List (Str×V)} (e:H a=some (.ins C dx fs)) (cl:Cls K C) (ha:W.findIn K (.ref C) "__class__"=some (some (.builtin "object.__class__")))
   (hn:W.specialIn K (.builtin "object.__class__") "__get__"=some (some (.builtin "getset_descriptor.__get__"))) (htk:W.takesIn K (.builtin "object.__class__")=some true)
   (hm:W.mroIn K C (.type "object")=some true):Gz K H (.ref a) (.ref C)
theorem Zd{x:V}{u t:Value}(I:Inv X aA σ H s)(rx:Bc x u)(ty:Gz X.K H x t)(e:W.kitOne X.K t c=some b)(h:∀tk,Q (.bool b) { s with toks:=tk }) :
  wpAny (model X.prog X.w) A (call (.builtin "isinstance") [u,c]) Q E s:=by
 cases ty with
 | non=>cases (show u=Value.none from rx);exact ATu W.kitx_none I.kIn True.intro e (fun z=>nomatch z) h
 | bl y=>cases (show u=Value.bool y from rx);exact ATu W.kitx_bool I.kIn True.intro e (fun z=>nomatch z) h
 | int i=>obtain⟨t,q⟩:=(show ∃t,u=Value.int i t from rx);cases q;exact ATu W.kitx_int I.kIn True.intro e (fun z=>nomatch z) h
 | str y=>obtain⟨t,q⟩:=(show ∃t,u=Value.str y t from rx);cases q;exact ATu W.kitx_str I.kIn True.intro e (fun z=>nomatch z) h
 | flt y=>obtain⟨t,q⟩:=(show ∃t,u=Value.float y t from rx);cases q;exact ATu W.kitx_float I.kIn True.intro e (fun z=>nomatch z) h
 | @lst a xs ea =>
  (cases (show u=Value.ref a from rx));obtain⟨_,_,n,_,h1⟩:=(show Ci X.prog X.w H s.heap a (.lst xs) from I.hok a _ ea);exact ATu AWm I.kIn ⟨_,h1,rfl⟩ e (fun z=>nomatch z) h
 | @frz a ob xs ea =>
  (cases (show u=Value.ref a from rx));obtain⟨_,_,_,n,_,h1⟩:=(show Ci X.prog X.w H s.heap a (.frz ob (.lst xs)) from I.hok a _ ea);exact ATu AWm I.kIn ⟨_,h1,rfl⟩ e (fun z=>nomatch z) h
 | @tup a xs ea =>
  (cases (show u=Value.ref a from rx));obtain⟨_,_,_,p⟩:=(show Ci X.prog X.w H s.heap a (.tup xs) from I.hok a _ ea);obtain⟨o,h1,h2,_⟩:=p;exact ATu W.kitx_tuple I.kIn ⟨o,h1,h2⟩ e (fun z=>nomatch z) h
 | @dK a aG ea =>
  (cases (show u=Value.ref a from rx));obtain⟨_,_,vs,_,p⟩:=(show Ci X.prog X.w H s.heap a (.dK aG) from I.hok a _ ea);obtain⟨o,es,ep,h1,h2,_⟩:=p;exact ATu AWn I.kIn ⟨o,h1,h2.1⟩ e (fun z=>nomatch z) h
 | @dT a aG ea =>
  (cases (show u=Value.ref a from rx));obtain⟨_,_,xs,_,o,es,ep,h1,h2,_⟩:=(show Ci X.prog X.w H s.heap a (.dT aG) from I.hok a _ ea);exact ATu AWn I.kIn ⟨o,h1,h2.1⟩ e (fun z=>nomatch z) h
 | @ins a C dx fs ea cl ha hn htk hm =>
  (cases (show u=Value.ref a from rx));obtain⟨mA,O,_⟩:=O9 I.hok ea;obtain⟨od,J,_⟩:=O.look;exact ATu (W.kitx_own (cl.get _) cl.hd ha hn htk hm) I.kIn J e (fun z=>nomatch z) h
end
structure Dz(k:Nat)(A:Around):Prop where
 hd:A.handled=none
 dp:A.depth+3*k+5<recursionLimit
 un:A.units+16*k+200<cLine
theorem Dz.mono{j k:Nat}{A:Around}(r:Dz k A)(h:j<=k):Dz j A:=⟨r.hd,by have:=r.dp;omega,by have:=r.un;omega⟩
theorem Dz.deeper{k:Nat}{A:Around}(r:Dz (k+1) A)(env:Env):Dz k (A.deeper env) :=
 ⟨r.hd,by have:=r.dp;show A.depth+1+3*k+5<_;omega,by have:=r.un;show A.units+3+16*k+200<_;omega⟩
theorem YB{A:Around}{C:Addr}{us:List Value}{kw:List (Str×Value)}:(A.under (.builtin "type.__call__" ⟨.ref C::us,kw⟩)).depth=A.depth+1:=by
 first | rfl | simp[Around.under,Code.weight,Code.isCreation,Code.isGuard,Code.isCaller,Code.frames,Code.isFrame,guardIds]
theorem Xg{A:Around}{C:Addr}{us:List Value}{kw:List (Str×Value)}:(A.under (.builtin "type.__call__" ⟨.ref C::us,kw⟩)).units=A.units+1:=by
 first | rfl | simp[Around.under,Code.cUnits,Code.frames,Code.isFrame]
theorem Dz.make{k:Nat}{A:Around}(r:Dz (k+1) A)(C:Addr)(us:List Value)(kw:List (Str×Value)):Dz k (A.under (.builtin "type.__call__" ⟨.ref C::us,kw⟩)) :=
 ⟨r.hd,by have:=r.dp;rw[YB];omega,by have:=r.un;rw[Xg];omega⟩
theorem Dz.depth{k:Nat}{A:Around}(r:Dz k A):A.depth<recursionLimit:=by have:=r.dp;omega
theorem Dz.units{k:Nat}{A:Around}(r:Dz k A):A.units+64<cLine:=by have:=r.un;omega
def YG:TA:=fun _ H Q=>Q [] H
def AEx(ta:TE)(tr:TA):TA:=fun σ H Q=>ta σ H fun x H1=>tr σ H1 fun xs H2=>Q (x::xs) H2
section
variable {X:Cx}{e:Expr}{es:List Expr}{te:TE}{t:TA}{pos:Pos}
theorem Ab:PA X [] YG:=fun _ _ _ _ H Q I h=>Calls.spliced_nil ⟨[],H,I,.nil,h⟩
theorem Aa(ha:PE X e te)(hr:PA X es t)(hs:starEach (e::es) X.env=(false,eval e X.env)::starEach es X.env:=by rfl):PA X (e::es) (AEx te t):=by
 intro pos aA s σ H Q I h;rw[hs];show wpAny _ _ (spliced ((false,eval e X.env)::backTo pos (starEach es X.env))) _ _ s;refine Calls.spliced_cons (thn (ha aA s σ H _ I h) fun u s1 ⟨x,H1,I1,r1,q1⟩=>?_);exact thn (hr pos aA s1 σ H1 _ I1 q1) fun us s2 ⟨xs,H2,I2,r2,q2⟩=>⟨x::xs,H2,I2,.cons r1 r2,q2⟩
def ARJ(t:TA):TE:=fun σ H Q=>t σ H fun xs H1=>xs.length<=sizeLine/\∀p,H1 p=none->Q (.ref p) (upd H1 p (.tup xs))
def ARi(t:TA):TE:=fun σ H Q=>t σ H fun xs H1=>xs.length<=sizeLine/\∀p,H1 p=none->Q (.ref p) (upd H1 p (.lst xs))
theorem Bb{x1}(h:PA X es t):PE X (.Tuple es x1 pos) (ARJ t):=by
 intro aA s σ H Q I hq;refine wpAny_Tuple_spliced (thn (h pos aA s σ H _ I hq) fun us s1 ⟨xs,H1,I1,r,z,q⟩=>⟨by rw[<-r.length];exact z,?_⟩);have hf:H1 s1.heap.objs.size=none:=I1.hok.fresh (Nat.le_refl _);refine⟨.ref s1.heap.objs.size,upd H1 s1.heap.objs.size (.tup xs),I1.laid (t':=s1.toks) (fun b u e=>ASw _ e) (Nat.le_refl _) ?_,rfl,q _ hf⟩;exact⟨z,us,r,⟨_,AS1 _ rfl,rfl,_,rfl⟩⟩
theorem DQ(h:PA X es t):PE X (.List es pos) (ARi t):=by
 intro aA s σ H Q I hq;refine wpAny_List_spliced (thn (h pos aA s σ H _ I hq) fun us s1 ⟨xs,H1,I1,r,z,q⟩=>⟨by rw[<-r.length];exact z,?_⟩);have hf:H1 s1.heap.objs.size=none:=I1.hok.fresh (Nat.le_refl _);refine⟨.ref s1.heap.objs.size,upd H1 s1.heap.objs.size (.lst xs),I1.laid (t':=s1.toks) (fun b u e=>ASw _ e) (Nat.le_refl _) ?_,rfl,q _ hf⟩;exact⟨z,us,0,r,AS1 _ rfl⟩
end
abbrev Sp:=List V->Hp->VK->XK->Prop
abbrev CXT:=List Env->Hp->Shared->XK->Value->Shared->Prop
structure X4(P:Program)(w:World)(K:W.Frag)(mg:Str->Option Value)(base:Heap)(A:Around)(outer:List Env)(s:Shared)(H:Hp):Prop where
 frames:A.frames=some outer
 mod:Mod K mg base
 bs:∀b o,base.get? b=some o->s.heap.get? b=some o/\H b=none
 bsz:base.objs.size<=s.heap.objs.size
 funs:s.heap.FunFrames base outer
 frf:∀b∈frs outer,H b=none
 hok:HOk P w H s.heap
 bare:AllBare s.gens
def CE(outer:List Env)(P:Program)(w:World)(H:Hp)(s:Shared)(Q:VK)(u:Value)(s':Shared):Prop :=
 ∃v H',s'.os=s.os/\AllBare s'.gens/\Un (frs outer) [] H H' s.heap s'.heap/\HOk P w H' s'.heap/\Bc v u/\Q v H'
def CR(CX:CXT)(outer:List Env)(P:Program)(w:World)(H:Hp)(s:Shared)(Q:VK)(E:XK)(r:Result)(s':Shared):Prop :=
 match r with
 | .ok (.ret u)=>CE outer P w H s Q u s'
 | .ok _=>False
 | .error e=>CX outer H s E e s'
structure BP(P:Program)(w:World)(K:W.Frag)(mg:Str->Option Value)(base:Heap)(CX:CXT)(k:Nat)(f:Addr)(fd:FuncData)(ps:List Str)(sp:Sp):Prop where
 len:∀vs H Q E,sp vs H Q E->vs.length=ps.length
 run:∀(A:Around) (outer:List Env) (s:Shared) (H:Hp) (args:Args) (us:List Value) (vs:List V) (Q:VK) (E:XK),Dz k A->X4 P w K mg base A outer s H->BindsTo s fd args (ps.zip us)->BW vs us->sp vs H Q E ->
  codeAny (model P w) A (.call (.ref f) args) (CR CX outer P w H s Q E) s
theorem BP.imp{P:Program}{w:World}{K:W.Frag}{mg:Str->Option Value}{base:Heap}{CX:CXT}{k:Nat}{f:Addr}{fd:FuncData}{ps:List Str}{sp iW:Sp}(F:BP P w K mg base CX k f fd ps sp)
  (h:∀vs H Q E,iW vs H Q E->sp vs H Q E):BP P w K mg base CX k f fd ps iW :=
 ⟨fun vs H Q E q=>F.len vs H Q E (h _ _ _ _ q),fun A outer s H args us vs Q E hr he hb hv hs=>F.run A outer s H args us vs Q E hr he hb hv (h _ _ _ _ hs)⟩
theorem X4.make{P:Program}{w:World}{K:W.Frag}{mg:Str->Option Value}{base:Heap}{A:Around}{outer:List Env}{s:Shared}{H:Hp}(e:X4 P w K mg base A outer s H)(C:Addr)(us:List Value)(kw:List (Str×Value)) :
  X4 P w K mg base (A.under (.builtin "type.__call__" ⟨.ref C::us,kw⟩)) outer s H:=⟨by first | exact e.frames | (simpa[Around.under,Code.envs,Code.isFrame,pushEnvs] using e.frames),e.mod,e.bs,e.bsz,e.funs,e.frf,e.hok,e.bare⟩
section
variable {X:Cx}{aA:List (Addr×Obj)}{σ:St}{H:Hp}{s s':Shared}
theorem Inv.env0(I:Inv X aA σ H s):X4 X.prog X.w X.K X.mg X.base X.A X.stack s H :=
 ⟨I.ok.frames,I.ok.mod,I.bs,ATG I.ok.bsz I.sz,I.stack,I.stkFree,I.hok,I.bare⟩
theorem Inv.after{Q:VK}{u:Value}(I:Inv X aA σ H s)(h:CE X.stack X.prog X.w H s Q u s'):EP X aA σ Q u s':=by
 obtain⟨v,H',os,bare,un,hok,r,q⟩:=h;obtain⟨hh,g,d,t,os'⟩:=s';obtain rfl:os'=s.os:=os;exact⟨v,H',I.call (h':=hh) (g':=g) (d':=d) (t':=t) (ch:=[]) un hok bare (fun b z=>absurd z (by simp)),r,q⟩
end
def ADL(sp:Sp)(cu:List V)(E:XK)(t:TA):TE:=fun σ H Q=>t σ H fun vs H1=>sp (vs++cu) H1 Q E
def Yk(C:Addr)(m:Str)(sp:Sp)(cu:List V)(E:XK)(ta:TE)(t:TA):TE:=fun σ H Q=>ta σ H fun x H1=>∃a dx fs,x=.ref a/\H1 a=some (.ins C dx fs)/\fs.lookup m=none /\
 t σ H1 fun vs H2=>sp (x::(vs++cu)) H2 Q E
def Yn(C:Addr)(sp:Sp)(cu:List V)(E:XK)(t:TA):TE:=fun σ H Q=>t σ H fun vs H1=>∀x dx,H1 x=none->H1 dx=none->dx≠x ->
 sp (.ref x::(vs++cu)) (upd (upd H1 dx (.own x)) x (.ins C dx [])) (fun v H2=>v=.non/\Q (.ref x) H2) E
def Ef(K:W.Frag)(fd:FuncData)(ps:List Str)(ds:List Value):Prop :=
 ∀(s:Shared) (us:List Value),K.In s.heap->(us++ds).length=ps.length->BindsTo s fd ⟨us,[]⟩ (ps.zip (us++ds))
theorem Ef.all{K:W.Frag}{fd:FuncData}{ps:List Str}(h:∀us:List Value,us.length=ps.length->bindArgs fd ⟨us,[]⟩=pure (ps.zip us)):Ef K fd ps []:=fun s us _ hl=>by
 rw[AVV]at hl ⊢;exact .of_eq (h us hl)
def JN(CX:CXT)(X:Cx)(E:XK):Prop:=∀(aA:List (Addr×Obj)) (σ:St) (H:Hp) (s:Shared) (e:Value) (s':Shared),Inv X aA σ H s->CX X.stack H s E e s'->X.xe e s'
section
variable {X:Cx}{CX:CXT}{k:Nat}{f C:Addr}{fd:FuncData}{ps:List Str}{sp:Sp}{cu:List V}{ds:List Value}{E:XK}{x m:Str}{p pos aF:Pos}{e o:Expr}{es:List Expr}{ta:TE}{t:TA}
theorem Xv{aA:List (Addr×Obj)}{σ:St}{H:Hp}{s:Shared}{Q:VK}{us:List Value}{vs:List V}(F:BP X.prog X.w X.K X.mg X.base CX k f fd ps sp)(hr:Dz k X.A)(hb:Ef X.K fd ps ds)(hd:BW cu ds)(hx:JN CX X E)
  (I:Inv X aA σ H s) (r:BW vs us) (h:sp (vs++cu) H Q E):wpAny (model X.prog X.w) X.A (call (.ref f) us) (EP X aA σ Q) X.xe s:=by
 have r2:BW (vs++cu) (us++ds):=r.append hd;have hl:(us++ds).length=ps.length:=by rw[<-r2.length];exact F.len _ _ _ _ h
 refine wpAny_call (codeAny_mono (F.run X.A X.stack s H ⟨us,[]⟩ (us++ds) (vs++cu) Q E hr I.env0 (hb s us I.kIn hl) r2 h) fun r s' hq=>?_);cases r with
 | error e=>exact hx aA σ H s e s' I hq
 | ok fl =>
  cases fl with
  | ret u=>exact I.after hq
  | next=>exact False.elim hq
  | brk=>exact False.elim hq
  | cont=>exact False.elim hq
theorem ZC(F:BP X.prog X.w X.K X.mg X.base CX k f fd ps sp)(hr:Dz k X.A)(hg:Gl X x)(hm:X.mg x=some (.ref f))(hk:W.keepIn X.K (.ref f)=true)(hb:Ef X.K fd ps ds)(hd:BW cu ds)(hx:JN CX X E)
  (ha:PA X (e::es) t) (hdb:(x==("__debug__":Str))=false:=by decide) (he:starEach (e::es) X.env=(false,eval e X.env)::starEach es X.env:=by rfl) (hpl:(backTo pos (starEach es X.env)).any (·.1)=false:=by rfl) :
  PE X (.Call (.Name x p) (e::es) [] pos) (ADL sp cu E t):=by
 walk_at "k";refine AUg (Pj I hg hm ?_ hdb);refine AVi (h₀:=X.base) I.ok.mod.kin hk (thn (ha pos aA s σ H _ I h) fun us s1 ⟨vs,H1,I1,r,q⟩=>⟨I1.kIn,?_⟩) he hpl;exact Xv F hr hb hd hx I1 r q
theorem ADj{pl:Sem Bool}(he:PE X o ta)(c:Cls X.K C)(hm:ADK X.K C m f)(F:BP X.prog X.w X.K X.mg X.base CX k f fd ps sp)(hr:Dz k X.A)(hb:Ef X.K fd ps ds)(hd:BW cu ds)(hx:JN CX X E)(ha:PA X (e::es) t)
  (hst:starEach (e::es) X.env=(false,eval e X.env)::starEach es X.env:=by rfl) (hpl:(backTo pos (starEach es X.env)).any (·.1)=false:=by rfl)
  (ht:eval (.Call (.Attribute o m aF) (e::es) [] pos) X.env=(do
   let ov <-eval o X.env
   standAt aF.atName
   let (f,first) <-holding [ov] (getMethod ov m pl)
   callWith pos f first (backTo pos (starEach (e::es) X.env)) (backToKw pos (keywordEach [] X.env))):=by rfl) :
  PE X (.Call (.Attribute o m aF) (e::es) [] pos) (Yk C m sp cu E ta t):=by
 walk_at "k";(refine AWH (pl:=pl) (thn (he aA s σ H _ I h) fun u s1 ⟨x,H1,I1,rx,a,dx,fs,ex,ea,l,q⟩=>?_) ht);walk_at "M";refine Qy I1 ea c hm l ?_;refine AVi (first:=[.ref a]) (h₀:=X.base) I.ok.mod.kin hm.kp (thn (ha pos aA s1 σ H1 _ I1 q) fun us s2 ⟨vs,H2,I2,r,q2⟩=>⟨I2.kIn,?_⟩) hst hpl;exact Xv (us:=.ref a::us) (vs:=.ref a::vs) F hr hb hd hx I2 (.cons rfl r) q2
theorem ADJ{pl:Sem Bool}(he:PE X o ta)(c:Cls X.K C)(hm:ADK X.K C m f)(F:BP X.prog X.w X.K X.mg X.base CX k f fd ps sp)(hr:Dz k X.A)(hb:Ef X.K fd ps ds)(hd:BW cu ds)(hx:JN CX X E)
  (ht:eval (.Call (.Attribute o m aF) [] [] pos) X.env=(do
   let ov <-eval o X.env
   standAt aF.atName
   let (f,first) <-holding [ov] (getMethod ov m pl)
   callWith pos f first (backTo pos (starEach [] X.env)) (backToKw pos (keywordEach [] X.env))):=by rfl) :
  PE X (.Call (.Attribute o m aF) [] [] pos) (Yk C m sp cu E ta YG):=by
 walk_at "k";(refine AWH (pl:=pl) (thn (he aA s σ H _ I h) fun u s1 ⟨x,H1,I1,rx,a,dx,fs,ex,ea,l,q⟩=>?_) ht);walk_at "M";refine Qy I1 ea c hm l ?_;exact AWW (first:=[.ref a]) I1.kIn hm.kp (Xv (us:=[.ref a]) (vs:=[.ref a]) F hr hb hd hx I1 (.cons rfl .nil) q)
structure Mk(K:W.Frag)(C f:Addr):Prop where
 makes:W.makesIn K C=true
 init:W.findIn K (.ref C) "__init__"=some (some (.ref f))
 fn:W.isFn K (.ref f)=true
 kp:W.keepIn K (.ref C)=true
theorem Wn{aA:List (Addr×Obj)}{σ:St}{H:Hp}{s:Shared}{Q:VK}{us:List Value}{vs:List V}(M:Mk X.K C f)(F:BP X.prog X.w X.K X.mg X.base CX k f fd ps sp)(hr:Dz (k+1) X.A)(hb:Ef X.K fd ps ds)(hd:BW cu ds)
  (hx:JN CX X E) (I:Inv X aA σ H s) (r:BW vs us)
  (h:∀x dx,H x=none->H dx=none->dx≠x->sp (.ref x::(vs++cu)) (upd (upd H dx (.own x)) x (.ins C dx [])) (fun v H2=>v=.non/\Q (.ref x) H2) E) :
  wpAny (model X.prog X.w) X.A (call (.ref C) us) (EP X aA σ Q) X.xe s:=by
 have hq:=h (s.heap.objs.size+1) s.heap.objs.size (I.hok.fresh (AVx _)) (I.hok.fresh (Nat.le_refl _)) (ATR (Nat.lt_succ_self _));have I2:=Inv.made (C:=C) I;have r2:BW (V.ref (s.heap.objs.size+1)::(vs++cu)) (Value.ref (s.heap.objs.size+1)::(us++ds)):=.cons rfl (r.append hd);have hl:(Value.ref (s.heap.objs.size+1)::us++ds).length=ps.length:=by
  have e:=r2.length;rw[F.len _ _ _ _ hq]at e;exact e.symm
 refine wpAny_call (ABi (f:=f) I.kIn M.makes M.init (beq_iff_eq.mp M.fn) (codeAny_mono (F.run _ X.stack _ _ ⟨Value.ref (s.heap.objs.size+1)::us,[]⟩ (Value.ref (s.heap.objs.size+1)::(us++ds)) _ _ E (hr.make C us [])
  (I2.env0.make C us []) (hb _ (Value.ref (s.heap.objs.size+1)::us) I2.kIn hl) r2 hq) fun r s' hq'=>?_))
 cases r with
 | error e=>exact hx aA σ _ _ e s' I2 hq'
 | ok fl =>
  cases fl with
  | ret u =>
   obtain⟨v,H',I3,rv,ev,q3⟩:=I2.after hq';subst ev;exact⟨rv,⟨V.ref (s.heap.objs.size+1),H',I3,rfl,q3⟩⟩
  | next=>exact False.elim hq'
  | brk=>exact False.elim hq'
  | cont=>exact False.elim hq'
theorem ADo(M:Mk X.K C f)(F:BP X.prog X.w X.K X.mg X.base CX k f fd ps sp)(hr:Dz (k+1) X.A)(hg:Gl X x)(hm:X.mg x=some (.ref C))(hb:Ef X.K fd ps ds)(hd:BW cu ds)(hx:JN CX X E)
  (ha:PA X (e::es) t) (hdb:(x==("__debug__":Str))=false:=by decide) (he:starEach (e::es) X.env=(false,eval e X.env)::starEach es X.env:=by rfl) (hpl:(backTo pos (starEach es X.env)).any (·.1)=false:=by rfl) :
  PE X (.Call (.Name x p) (e::es) [] pos) (Yn C sp cu E t):=by
 walk_at "k";refine AUg (Pj I hg hm ?_ hdb);refine AVi (h₀:=X.base) I.ok.mod.kin M.kp (thn (ha pos aA s σ H _ I h) fun us s1 ⟨vs,H1,I1,r,q⟩=>⟨I1.kIn,?_⟩) he hpl;exact Wn M F hr hb hd hx I1 r q
theorem ADR(M:Mk X.K C f)(F:BP X.prog X.w X.K X.mg X.base CX k f fd ps sp)(hr:Dz (k+1) X.A)(hg:Gl X x)(hm:X.mg x=some (.ref C))(hb:Ef X.K fd ps ds)(hd:BW cu ds)(hx:JN CX X E)
  (hdb:(x==("__debug__":Str))=false:=by decide):PE X (.Call (.Name x p) [] [] pos) (Yn C sp cu E YG):=by
 walk_at "k";refine AUg (Pj I hg hm ?_ hdb);exact AWW I.kIn M.kp (Wn (us:=[]) M F hr hb hd hx I .nil h)
end
def PK(X:Cx)(kws:List Keyword)(t:TA):Prop :=
 ∀(pos:Pos) (aA:List (Addr×Obj)) (s:Shared) (σ:St) (H:Hp) (Q:List V->Hp->Prop),Inv X aA σ H s->t σ H Q->wpAny (model X.prog X.w) X.A (evalAll ((backToKw pos (keywordEach kws X.env)).map (·.2))) (AP X aA σ Q) X.xe s
section
variable {X:Cx}{CX:CXT}{k:Nat}{f C:Addr}{fd:FuncData}{ps ks:List Str}{sp:Sp}{E:XK}{x m:Str}{p pos aF qi:Pos}{e o:Expr}{es:List Expr}{kws:List Keyword}{te ta:TE}{t tk:TA}{nm:Option Str}
structure AF4(K:W.Frag)(fd:FuncData)(ps ks:List Str)(g:List Value->List Value->List Value)(gV:List V->List V->List V):Prop where
 to:∀(s:Shared) (us ws:List Value),K.In s.heap->(g us ws).length=ps.length->BindsTo s fd ⟨us,ks.zip ws⟩ (ps.zip (g us ws))
 rel:∀{vs:List V} {us:List Value} {zs:List V} {ws:List Value},BW vs us->BW zs ws->BW (gV vs zs) (g us ws)
def ARe(sp:Sp)(gV:List V->List V->List V)(E:XK)(t tk:TA):TE:=fun σ H Q=>t σ H fun vs H1=>tk σ H1 fun zs H2=>sp (gV vs zs) H2 Q E
variable {g:List Value->List Value->List Value}{gV:List V->List V->List V}
end
structure Al(N P:List Str)(sc:Scope):Prop where
 kind:sc.kind=.function
 co:sc.isCoroutine=false
 gen:sc.isGenerator=false
 nd:N.Nodup
 pre:N.take P.length=P
 par:∀x∈P,sc.names.lookup x=some .local\/sc.names.lookup x=some .cell
 nofree:∀y∈sc.names,y.2≠.free
theorem S5{kindOf:Str->Option NameKind}{x:Str}:∀{binds:List (Str×Value)} {m:Str->Option Value},(∀v,(x,v)∉binds)->bindL kindOf binds m x=m x
 | [],_,_=>rfl
 | (n,v)::r,m,h=>by
  unfold bindL;rw[S5 fun w hw=>h w (ATS _ hw)]
  split
  .have:x≠n:=by rintro rfl;exact h v ATq
   simp[this]
  .rfl
theorem SX{kindOf:Str->Option NameKind}{x:Str}:∀{binds:List (Str×Value)} {m:Str->Option Value},(∀v,(x,v)∉binds)->bindC kindOf binds m x=m x
 | [],_,_=>rfl
 | (n,v)::r,m,h=>by
  unfold bindC;rw[SX fun w hw=>h w (ATS _ hw)]
  split
  .rfl
  .have:x≠n:=by rintro rfl;exact h v ATq
   simp[this]
theorem SQ{kindOf:Str->Option NameKind}{x:Str}{v:Value}:∀{P:List Str} {vs:List Value} {i:Nat} {m:Str->Option Value},P.Nodup->P[i]?=some x->vs[i]?=some v->kindOf x=some .local ->
  bindL kindOf (P.zip vs) m x=some v
 | [],_,_,_,_,h,_,_=>by simp at h
 | _::_,[],_,_,_,_,h,_=>by simp at h
 | p::P,w::vs,0,m,nd,h1,h2,hk=>by
  simp at h1 h2;subst h1;subst h2;show bindL kindOf ((p,w)::P.zip vs) m p=_;unfold bindL;rw[S5 fun v hv=>(AVW.mp nd).1 (AWI hv).1,if_pos hk];simp
 | p::P,w::vs,i+1,m,nd,h1,h2,hk=>by
  show bindL kindOf ((p,w)::P.zip vs) m x=_;unfold bindL;exact SQ (i:=i) (AVW.mp nd).2 (by simpa using h1) (by simpa using h2) hk
theorem S7{kindOf:Str->Option NameKind}{x:Str}{v:Value}:∀{P:List Str} {vs:List Value} {i:Nat} {m:Str->Option Value},P.Nodup->P[i]?=some x->vs[i]?=some v->kindOf x≠some .local ->
  bindC kindOf (P.zip vs) m x=some v
 | [],_,_,_,_,h,_,_=>by simp at h
 | _::_,[],_,_,_,_,h,_=>by simp at h
 | p::P,w::vs,0,m,nd,h1,h2,hk=>by
  simp at h1 h2;subst h1;subst h2;show bindC kindOf ((p,w)::P.zip vs) m p=_;unfold bindC;rw[SX fun v hv=>(AVW.mp nd).1 (AWI hv).1,if_neg hk];simp
 | p::P,w::vs,i+1,m,nd,h1,h2,hk=>by
  show bindC kindOf ((p,w)::P.zip vs) m x=_;unfold bindC;exact S7 (i:=i) (AVW.mp nd).2 (by simpa using h1) (by simpa using h2) hk
def start(N:List Str)(vs:List V):St:=vs.map some++List.replicate (N.length-vs.length) none
noncomputable def Wq(CX:CXT)(P:Program)(w:World)(K:W.Frag)(mg:Str->Option Value)(base:Heap)(N:List Str)(qual:Str)(scope:Scope)(f:Addr)(cd:Value)(A:Around)(outer:List Env)(s:Shared)(H:Hp)(E:XK):Cx where
 prog:=P
 w:=w
 K:=K
 mg:=mg
 base:=base
 A:=A.deeper (envOfC qual scope s.heap.objs.size f cd)
 N:=N
 zb:=s
 zc:=H
 env:=envOfC qual scope s.heap.objs.size f cd
 outer:=outer
 stack:=envOfC qual scope s.heap.objs.size f cd::outer
 ex:=[]
 calm:=true
 fn:=fun _=>true
 pn:=[]
 xe:=fun e s'=>wpAny (model P w) (A.deeper (envOfC qual scope s.heap.objs.size f cd)) (leaving (envOfC qual scope s.heap.objs.size f cd) e) (fun _ s''=>CX outer H s E e s'') (fun e' s''=>CX outer H s E e' s'') s'
theorem Wa{sc:Scope}{n:Nat}{x:Str}(h:sc.names.lookup x=some .cell):∃c,(cellsFrom n sc.names []).lookup x=some c:=by
 have q:=AWD sc.names n [] (.inl h);exact AVs.mp q
theorem Zi{CX:CXT}{P:Program}{w:World}{K:W.Frag}{mg:Str->Option Value}{base:Heap}{N ps:List Str}{qual:Str}{scope:Scope}{f:Addr}{cd:Value}{A:Around}{outer:List Env}{s s1:Shared}{H:Hp}{E:XK}{us:List Value}{vs:List V}
  (S:Al N ps scope) (hd:A.handled=none) (e0:X4 P w K mg base A outer s H) (hl:vs.length=ps.length) (r:BW vs us)
  (x:InCallC s s.heap.objs.size (bindL (envOfC qual scope s.heap.objs.size f cd).kindOf (ps.zip us) fun _=>none) (cellsFrom (s.heap.objs.size+1) scope.names []) (bindC (envOfC qual scope s.heap.objs.size f cd).kindOf (ps.zip us) fun _=>none) s1) :
  Inv (Wq CX P w K mg base N qual scope f cd A outer s H E) [] (start N vs) H s1:=by
 have hpl:ps.length<=N.length:=by have:=congrArg List.length S.pre;rw[AS8]at this;omega
 obtain⟨h1,tk,rfl,hk⟩:=x.done;have iX:∀b:Addr,b∉(Wq CX P w K mg base N qual scope f cd A outer s H E).ex:=fun b z=>absurd (show b∈([]:List Addr) from z) (by simp);refine⟨⟨e0.mod,S.kind,rfl,rfl,Nat.le_refl _,fun y z c h1 h2=>?_,fun y hy=>?_,fun y c _ h=>?_,fun _=>hd,Around.frames_deeper e0.frames,.inr ⟨rfl,rfl⟩,fun b z=>absurd z (iX b),e0.bs,e0.bsz,fun b _ _=>iX b,fun b z=>absurd z (iX b),e0.funs,e0.frf⟩,
  rfl,e0.bare,Un.kept hk,⟨_,x.toInCall.ns,fun i y v h1 h2 h3=>?_⟩,fun y c h=>⟨_,x.cell y c h⟩,e0.hok.fresh (Nat.le_refl _),fun y c h=>?_,fun p hp=>absurd (show p∈([]:List (Addr×Obj)) from hp) (by simp),e0.hok.kept hk,?_⟩
 .exact name_of_addr x.apart (ATj h1) (ATj h2)
 .have hy:scope.names.lookup y=some .cell\/scope.names.lookup y=some .free:=hy;rcases hy with hy|hy
  .exact Wa hy
  .exact absurd rfl (S.nofree _ (ATj hy))
 .exact AWw (x.above y c (ATj h))
 .have hi:i<vs.length:=by
   unfold start at h2;by_cases hi:i<vs.length
   .exact hi
   .rw[ATD (by simpa using hi)]at h2;rw[AU6]at h2
    split at h2<;>cases h2
  have ha:vs[i]?=some v:=by
   unfold start at h2;rw[ATi (by simpa using hi),AS4]at h2;cases e:vs[i]? with
   | none=>rw[e]at h2;cases h2
   | some a=>rw[e]at h2;cases h2;rfl
  obtain⟨u,hu,rv⟩:=r.get ha;have hp:ps[i]?=some y:=by
   rw[<-S.pre,List.getElem?_take_of_lt (by omega)];exact h1
  have nT:ps.Nodup:=by rw[<-S.pre];exact S.nd.sublist (List.take_sublist _ _)
  refine⟨u,rv,?_⟩;rcases S.par y (ATp hp) with k|k
  .exact .inl ⟨k,SQ nT hp hu k⟩
  .obtain⟨c,e⟩:=Wa (n:=s.heap.objs.size+1) k;refine .inr ⟨.inl k,c,e,?_⟩;have q:=x.cell y c e;rw[S7 nT hp hu (by show scope.names.lookup y≠_;rw[k];decide)]at q;exact q
 .exact e0.hok.fresh (AWw (x.above y c (ATj h)))
 .unfold start;show _=N.length;rw[ASz,ASt,ATZ];omega
theorem AFI{CX:CXT}{P:Program}{w:World}{K:W.Frag}{mg:Str->Option Value}{base:Heap}{k:Nat}{f:Addr}{name qual:Str}{params:Arguments}{body:List Stmt}{scope:Scope}{dV kV doc pm cdv ct oc:Value}{an od:Option Addr}
  {osl:Array (Option Value)} {N ps:List Str} {sp:Sp} (lk:K.lookup f=some ⟨oc,od,.func (W.fnOf name qual params body scope dV kV doc pm an cdv ct),osl⟩) (hcd:W.codeIn K cdv qual=true) (S:Al N ps scope)
  (len:∀vs H Q E,sp vs H Q E->vs.length=ps.length)
  (hbody:∀(A:Around) (outer:List Env) (s:Shared) (H:Hp) (vs:List V) (Q:VK) (E:XK),Dz k (A.deeper (envOfC qual scope s.heap.objs.size f cdv))->sp vs H Q E ->
   ∃t,PSs (Wq CX P w K mg base N qual scope f cdv A outer s H E) body t/\t { nx:=fun _ H'=>Q .non H',rt:=Q } (start N vs) H) :
  BP P w K mg base CX (k+1) f (W.fnOf name qual params body scope dV kV doc pm an cdv ct) ps sp:=by
 refine⟨len,fun A outer s H args us vs Q E hr e0 hb r hsp=>?_⟩;have hl:=len _ _ _ _ hsp;have KX:K.In s.heap:=e0.mod.kin.keeps fun b o e=>(e0.bs b o e).1;have lim:s.heap.NoLimit:=e0.mod.nolimit.keeps fun b o e=>(e0.bs b o e).1;have hkind:∀y∈ps.zip us,scope.names.lookup y.1=some .local\/(scope.names.lookup y.1=some .cell/\((cellsFrom (s.heap.objs.size+1) scope.names []).lookup y.1).isSome=true):=fun⟨n,v⟩ hy=>by
  rcases S.par n (AWI hy).1 with q|q
  .exact .inl q
  .exact .inr ⟨q,AWD _ _ _ (.inl q)⟩
 refine codeAny_call_function hr.depth (KX _ _ lk) rfl S.co S.gen rfl (W.codeRec_of KX hcd) (hb _ _ _ _ ?_);refine wpAny_newFunctionEnv_cells S.kind hkind fun env he s1 x=>?_;subst he;refine⟨lim.keeps x.toInCall.keep,codeAny_func ?_⟩;obtain⟨t,ht,hq⟩:=hbody A outer s H vs Q E (hr.deeper _) hsp;have I:Inv (Wq CX P w K mg base N qual scope f cdv A outer s H E) [] (start N vs) H s1:=Zi S hr.hd e0 hl r x;refine ATt (ht [] s1 (start N vs) H _ I hq) (fun fl s' hs=>?_) fun e s' hs=>hs;have fin:∀{zd:St} {H':Hp} {v:V} {u:Value},Inv (Wq CX P w K mg base N qual scope f cdv A outer s H E) [] zd H' s'->Bc v u->Q v H'->CE outer P w H s Q u s' :=
  fun {zd H' v u} J rv q=>⟨v,H',J.os,J.bare,J.base,J.hok,rv,q⟩
 cases fl with
 | ret u =>
  obtain⟨v,zd,H',J,rv,q⟩:=hs;exact fin J rv q
 | next =>
  obtain⟨zd,H',J,q⟩:=hs;exact fin (v:=V.non) (u:=Value.none) J rfl q
 | brk =>
  obtain⟨_,_,_,q⟩:=hs;exact False.elim q
 | cont =>
  obtain⟨_,_,_,q⟩:=hs;exact False.elim q
section
variable {X:Cx}{x:Str}{p pos:Pos}{e:Expr}{es:List Expr}{t:TA}{id T:String}{r:List V->Hp->VK->Prop}
def tCB(r:List V->Hp->VK->Prop)(t:TA):TE:=fun σ H Q=>t σ H fun vs H1=>r vs H1 Q
theorem Ax(hc:Jl X (.builtin id) r)(hg:Gl X x)(hm:X.mg x=none)(hv:bootBuiltins x=some (.builtin id))(ha:PA X (e::es) t)(hn:x≠"__name__":=by decide)(hdb:(x==("__debug__":Str))=false:=by decide)
  (he:starEach (e::es) X.env=(false,eval e X.env)::starEach es X.env:=by rfl) (hpl:(backTo pos (starEach es X.env)).any (·.1)=false:=by rfl):PE X (.Call (.Name x p) (e::es) [] pos) (tCB r t):=by
 walk_at "k";refine AUg (HR I hg hm hv ?_ hn hdb);exact PyProof.Rows.callWith_builtin1 (thn (ha pos aA s σ H _ I h) fun us s1 ⟨vs,H1,I1,r1,q1⟩=>hc aA s1 σ H1 vs us Q I1 r1 q1) he hpl
theorem Ba(hc:Jl X (.type T) r)(hg:Gl X x)(hm:X.mg x=none)(hv:bootBuiltins x=some (.type T))(ha:PA X (e::es) t)(hn:x≠"__name__":=by decide)(hdb:(x==("__debug__":Str))=false:=by decide)
  (he:starEach (e::es) X.env=(false,eval e X.env)::starEach es X.env:=by rfl) (hpl:(backTo pos (starEach es X.env)).any (·.1)=false:=by rfl):PE X (.Call (.Name x p) (e::es) [] pos) (tCB r t):=by
 walk_at "k";refine AUg (HR I hg hm hv ?_ hn hdb);exact ATe (thn (ha pos aA s σ H _ I h) fun us s1 ⟨vs,H1,I1,r1,q1⟩=>hc aA s1 σ H1 vs us Q I1 r1 q1) he hpl
end
end L2
namespace HT
open PySem PyProof.Rows
def lexLt:List Int->List Int->Bool
 | [],[]=>false
 | [],_::_=>true
 | _::_,[]=>false
 | x::xs,y::ys=>if x=y then lexLt xs ys else decide (x<y)
section
open PySem.SeqAt
open PySem.AutoSeq1 (wpAny_loadPart')
open PySem.MeetsSeq PySem.MeetsSeq2 PySem.MeetsSeq3
end
section
variable {prog:Program}{w:World}{A:Around}{E:Value->Shared->Prop}{s:Shared}
def sIx(n d:Nat):Option Int->Nat
 | none=>d
 | some v=>if v<0 then(v+(n:Int)).toNat else min v.toNat n
theorem sIx_none(n d:Nat):sIx n d none=d:=rfl
theorem sIx_nat(n d k:Nat):sIx n d (some (k:Int))=min k n:=by
 show(if (k:Int)<0 then((k:Int)+(n:Int)).toNat else min (k:Int).toNat n)=min k n;rw[if_neg (by omega),AUD]
end
end HT
namespace L2
open PySem PySem.Spec PyProof.Rows
abbrev TO:=St->Hp->(Option Int->Hp->Prop)->Prop
def PO(X:Cx)(e:Option Expr)(t:TO):Prop :=
 ∀(aA:List (Addr×Obj)) (s:Shared) (σ:St) (H:Hp) (Q:Option Int->Hp->Prop),Inv X aA σ H s->t σ H Q ->
  wpAny (model X.prog X.w) X.A (evalPart e X.env) (fun u s'=>∃o H',Inv X aA σ H' s'/\IsPart u o/\Q o H') X.xe s
def AEJ:TO:=fun _ H Q=>Q none H
def ANQ(t:TE):TO:=fun σ H Q=>t σ H fun x H1=>∃i,x=.int i/\Q (some i) H1
section
variable {X:Cx}{e:Expr}{te:TE}{lo hi:Option Expr}{tl th:TO}{pos p2:Pos}
theorem Ds:PO X none AEJ:=by
 walk_at "k";rw[evalPart_none];exact ATC ⟨none,H,I,.none,h⟩
theorem DR(h:PE X e te):PO X (some e) (ANQ te):=by
 intro aA s σ H Q I hw;rw[evalPart_some];refine thn (h aA s σ H _ I hw) fun u s1 ⟨x,H1,I1,r1,q1⟩=>?_;obtain⟨i,rfl,q⟩:=q1;obtain⟨t,rfl⟩:=r1;exact⟨some i,H1,I1,.int i t,q⟩
def SlR(X:Cx)(r:V->Option Int->Option Int->Hp->VK->Prop):Prop :=
 ∀(aA:List (Addr×Obj)) (s:Shared) (σ:St) (H:Hp) (x:V) (v vl vu:Value) (lo hi:Option Int) (sl:Addr) (Q:VK),Inv X aA σ H s->Bc x v->s.heap.IsSliceOf sl vl vu .none->IsPart vl lo->IsPart vu hi->r x lo hi H Q ->
  ∃T id,typeLookup (.type T) "__getitem__"=pure (some (.builtin id))/\s.TypeIs v T/\wpAny (model X.prog X.w) X.A (getItem v (.ref sl)) (EP X aA σ Q) X.xe s
def tSl(r:V->Option Int->Option Int->Hp->VK->Prop)(te:TE)(tl th:TO):TE:=fun σ H Q=>te σ H fun x H1=>tl σ H1 fun l H2=>th σ H2 fun u H3=>r x l u H3 Q
theorem DX{r:V->Option Int->Option Int->Hp->VK->Prop}(hr:SlR X r)(he:PE X e te)(hl:PO X lo tl)(hu:PO X hi th):PE X (.Subscript e (.Slice lo hi none p2) pos) (tSl r te tl th):=by
 walk_at "k";(refine Subscript_ (thn (he aA s σ H _ I h) fun v s1 ⟨x,H1,I1,r1,q1⟩=>?_));refine wpAny_Slice (thn (hl aA s1 σ H1 _ I1 q1) fun vl s2 ⟨l,H2,I2,pl,q2⟩=>thn (hu aA s2 σ H2 _ I2 q2) fun vu s3 ⟨u,H3,I3,pu,q3⟩=>?_);rw[evalPart_none];refine ATC ?_;have I4:Inv X aA σ H3 { s3 with heap:=s3.heap.push { cls:=.type "slice",data:=.fields #[vl,vu,.none] } }:=I3.kept (t':=s3.toks) fun b ob q=>ASw _ q;obtain⟨T,id,hT,ht,hg⟩:=hr aA { s3 with heap:=s3.heap.push { cls:=.type "slice",data:=.fields #[vl,vu,.none] } } σ H3 x v vl vu l u s3.heap.objs.size Q I4 r1 (Heap.IsSliceOf.new ..) pl pu q3;show wpAny (model X.prog X.w) X.A (subscriptTail e (.Slice lo hi none p2) v (.ref s3.heap.objs.size)) (EP X aA σ Q) X.xe { s3 with heap:=s3.heap.push { cls:=.type "slice",data:=.fields #[vl,vu,.none] } };exact tail_any (ops:=[.ref s3.heap.objs.size,v]) ht hT hg (by with_unfolding_all rfl)
def DP(xs:List V)(lo hi:Option Int):List V:=(xs.drop (HT.sIx xs.length 0 lo)).take (HT.sIx xs.length xs.length hi-HT.sIx xs.length 0 lo)
theorem Vw(xs:List V)(lo hi:Option Int):(DP xs lo hi).length<=xs.length:=by
 unfold DP;rw[AS8,ATF];omega
def ASi(K:W.Frag):V->Option Int->Option Int->Hp->VK->Prop:=fun x lo hi H Q=>∃a xs,x=.ref a/\SqT K H a xs /\
 ¬(HT.sIx xs.length 0 lo=0/\HT.sIx xs.length xs.length hi=xs.length)/\∀p,H p=none->Q (.ref p) (upd H p (.tup (DP xs lo hi)))
def ASQ(K:W.Frag):R2:=fun x y H Q=>∃a b ns ms,x=.ref a/\y=.ref b/\SqT K H a (ns.map V.int)/\SqT K H b (ms.map V.int)/\Q (.bl (HT.lexLt ns ms)) H
def AL5(K:W.Frag):R2:=fun x y H Q=>∃a b xs ys,x=.ref a/\y=.ref b/\SqT K H a xs/\SqT K H b ys/\xs≠[]/\xs.length+ys.length<=sizeLine /\
 (ys=[]->Q (.ref a) H)/\(ys≠[]->∀p,H p=none->Q (.ref p) (upd H p (.tup (xs++ys))))
end
def ixN(n:Nat)(i:Int):Option Nat:=if 0<=i then(if i<n then some i.toNat else none) else if -(n:Int)<=i then some (i+n).toNat else none
def atI{α:Type}(xs:List α)(i:Int):Option α:=(ixN xs.length i).bind fun j=>xs[j]?
theorem AD1{n:Nat}{i:Int}{j:Nat}(h:ixN n i=some j):seqIndex? i n=some j/\j<n/\-(n:Int)<=i/\i<n:=by
 unfold ixN at h;by_cases h0:0<=i
 .rw[if_pos h0]at h;by_cases h1:i<n
  .rw[if_pos h1]at h;have e:i.toNat=j:=AS5 h;exact⟨by rw[seqIndex_of h0 h1,e],by omega,by omega,h1⟩
  .rw[if_neg h1]at h;cases h
 .rw[if_neg h0]at h;by_cases h1:-(n:Int)<=i
  .rw[if_pos h1]at h;have e:(i+n).toNat=j:=AS5 h;exact⟨by rw[seqIndex_neg (by omega) h1,e],by omega,h1,by omega⟩
  .rw[if_neg h1]at h;cases h
theorem ZX{α:Type}{xs:List α}{i:Int}{v:α}(h:atI xs i=some v):∃j,seqIndex? i xs.length=some j/\xs[j]?=some v/\j<xs.length/\-(xs.length:Int)<=i/\i<xs.length:=by
 unfold atI at h;cases e:ixN xs.length i with
 | none=>rw[e]at h;cases h
 | some j =>
  rw[e]at h;obtain⟨h1,h2,h3,h4⟩:=AD1 e;exact⟨j,h1,h,h2,h3,h4⟩
theorem Dh{α:Type}{xs:List α}{j:Nat}{v:α}(h:xs[j]?=some v):atI xs (j:Int)=some v:=by
 have hj:j<xs.length:=(AS7.mp h).1;have e:ixN xs.length (j:Int)=some j:=by
  unfold ixN;rw[if_pos (by omega),if_pos (by omega)];simp
 unfold atI;rw[e];exact h
theorem Qm{α:Type}(xs:List α)(v:α):atI (xs++[v]) (-1)=some v:=by
 have hl:(xs++[v]).length=xs.length+1:=by simp
 have e:ixN (xs++[v]).length (-1)=some xs.length:=by
  unfold ixN;rw[hl,if_neg (by decide),if_pos (by omega)]
  congr 1
  omega
 unfold atI;rw[e];show(xs++[v])[xs.length]?=some v;simp
def Ua(b:Expr):Prop:=∀o i,subscripted b false o i=operate [o,i] (getItem o i)
def IxR(X:Cx)(r:R2):Prop :=
 ∀(value slice:Expr) (aA:List (Addr×Obj)) (s:Shared) (σ:St) (H:Hp) (x y:V) (v u:Value) (Q:VK),Inv X aA σ H s->Bc x v->Bc y u->r x y H Q ->
  subscripted slice false v u=operate [v,u] (getItem v u)->wpAny (model X.prog X.w) X.A (subscriptTail value slice v u) (EP X aA σ Q) X.xe s
def MtR(X:Cx)(id:String)(r:V->List V->Hp->VK->Prop):Prop :=
 ∀(aA:List (Addr×Obj)) (s:Shared) (σ:St) (H:Hp) (x:V) (xs:List V) (v:Value) (us:List Value) (Q:VK),Inv X aA σ H s->Bc x v->BW xs us->r x xs H Q ->
  wpAny (model X.prog X.w) X.A (call (.builtin id) (v::us)) (EP X aA σ Q) X.xe s
section
variable {X:Cx}{a b:Expr}{ta tb:TE}{pos:Pos}
theorem AEu{r:R2}(hr:IxR X r)(ha:PE X a ta)(hb:PE X b tb)(hs:Ua b):PE X (.Subscript a b pos) (tOp r ta tb):=by
 walk_at "k";exact Subscript_ (AG0 ha hb I h fun v u s2 x y H2 I2 rx ry q=>hr a b aA s2 σ H2 x y v u Q I2 rx ry q (hs _ _))
def AH6(K:W.Frag):R2:=fun x y H Q=>∃p xs i v,x=.ref p/\y=.int i/\SqL K H p xs/\atI xs i=some v/\Q v H
def AF3(K:W.Frag):R2:=fun x y H Q=>∃p xs i v,x=.ref p/\y=.int i/\SqT K H p xs/\atI xs i=some v/\Q v H
def ARk:R2:=fun x y H Q=>∃z i c,x=.str z/\y=.int i/\z.length<=sizeLine/\atI z.cps.toList i=some c/\Q (.str ⟨#[c]⟩) H
theorem ADw:IxR X (AH6 X.K):=by
 intro value slice aA s σ H x y v u Q I rx ry h hs;obtain⟨p,xs,i,z,rfl,rfl,hq,he,q⟩:=h;cases rx;obtain⟨t,rfl⟩:=ry;obtain⟨its,r,pl,hz⟩:=I.list hq;obtain⟨j,h1,h2,h3,h4,h5⟩:=ZX he;obtain⟨w,ew,cP⟩:=r.get h2;have hl:=r.length;have hn:=Ug;have fin:EP X aA σ Q w s:=⟨z,H,I,cP,q⟩;by_cases h0:0<=i
 .have hj:i.toNat=j:=by
   rw[seqIndex_of h0 h5]at h1;exact AS5 h1
  exact item_listR pl.isList h0 (by omega) (by rw[hj];simpa using ew) fin hs
 .have hj:(i+(its.toArray.size:Int)).toNat=j:=by
   rw[seqIndex_neg (by omega) h4]at h1;rw[AS9,<-hl];exact AS5 h1
  exact subscriptTail_builtinR (x:=w) pl.isList.typeIs slot_list_getitem.lookup
   (wpAny_getItem_list_neg (Q:=fun r s'=>r=w/\EP X aA σ Q r s') pl.isList (by omega) (by rw[AS9]<;>omega) (by omega) (by rw[hj];simpa using ew) ⟨rfl,fin⟩) hs
theorem AJK:IxR X (AF3 X.K):=by
 intro value slice aA s σ H x y v u Q I rx ry h hs;obtain⟨p,xs,i,z,rfl,rfl,hq,he,q⟩:=h;cases rx;obtain⟨t,rfl⟩:=ry;obtain⟨its,r,pl,hz⟩:=I.tuple hq;obtain⟨j,h1,h2,h3,h4,h5⟩:=ZX he;obtain⟨w,ew,cP⟩:=r.get h2;have hl:=r.length;have hn:=Ug;have fin:EP X aA σ Q w s:=⟨z,H,I,cP,q⟩;exact subscriptTail_builtinR (x:=w) pl.typeIs slot_tuple_getitem.lookup
  (getItem_tuple (j:=j) (Q:=fun r s'=>r=w/\EP X aA σ Q r s') pl (by omega) (by omega) (by rw[AS9,<-hl];exact h1) (by simpa using ew) ⟨rfl,fin⟩) hs
def rIx(K:W.Frag):R2:=fun x y H Q=>AH6 K x y H Q\/AF3 K x y H Q\/ARk x y H Q
def ARp:V->V->V->Hp->(Hp->Prop)->Prop:=fun o i v H Q=>∃p xs k j,o=.ref p/\i=.int k/\H p=some (.lst xs)/\ixN xs.length k=some j/\Q (upd H p (.lst (xs.set j v)))
theorem U6(lo hi:Option Int)(n:Nat):(sliceBounds lo hi none n).1=((HT.sIx n 0 lo:Nat):Int)/\(sliceBounds lo hi none n).2.1=((HT.sIx n n hi:Nat):Int)/\(sliceBounds lo hi none n).2.2=1:=by
 refine⟨?_,?_,rfl⟩
 .cases lo with
  | none=>simp[sliceBounds,HT.sIx]
  | some i =>
   (simp only[sliceBounds,HT.sIx,Option.getD_none,show(1:Int) > 0 by decide,if_true];by_cases h:i<0)
   .simp only[h,if_true]<;>omega
   .simp only[h,if_false]<;>omega
 .cases hi with
  | none=>simp[sliceBounds,HT.sIx]
  | some i =>
   (simp only[sliceBounds,HT.sIx,Option.getD_none,show(1:Int) > 0 by decide,if_true];by_cases h:i<0)
   .simp only[h,if_true]<;>omega
   .simp only[h,if_false]<;>omega
theorem Rb(its:List Value)(lo hi:Option Int):slicePick its.toArray lo hi none=((its.drop (HT.sIx its.length 0 lo)).take (HT.sIx its.length its.length hi-HT.sIx its.length 0 lo)).toArray:=by
 obtain⟨h1,h2,h3⟩:=U6 lo hi its.toArray.size;unfold slicePick;rw[h1,h2,h3];simp only[sliceRange_one,pick_run,AS9]<;>rfl
def AQi(K:W.Frag):V->Option Int->Option Int->Hp->VK->Prop:=fun x lo hi H Q=>∃a xs,x=.ref a/\SqL K H a xs/\∀p,H p=none->Q (.ref p) (upd H p (.lst (DP xs lo hi)))
theorem FW:SlR X (AQi X.K):=by
 intro aA s σ H x v vl vu lo hi sl Q I rx hs pl pu h;obtain⟨a,xs,rfl,hx,q⟩:=h;cases rx;obtain⟨its,r,ht,hz⟩:=I.list hx;have aB:=r.length;refine⟨"list",_,slot_list_getitem.lookup,ht.isList.typeIs,?_⟩;refine AVt ht.isList hs pl pu .none (by simp) ?_ (by rw[AS9]<;>omega);rw[Rb,<-aB];refine⟨.ref s.heap.objs.size,_,I.laid (t':=s.toks) (o:=.lst (DP xs lo hi)) (fun b ob q=>ASw _ q) (Nat.le_refl _) ?_,rfl,q _ (I.hok.fresh (Nat.le_refl _))⟩;exact⟨ATG (Vw xs lo hi) hz,_,0,(r.drop (HT.sIx xs.length 0 lo)).take (HT.sIx xs.length xs.length hi-HT.sIx xs.length 0 lo),AS1 _ rfl⟩
def Iv:V->Bool
 | .non=>true
 | .bl _=>true
 | .int _=>true
 | .str _=>true
 | _=>false
noncomputable def eqV:V->V->Bool
 | .non,.non=>true
 | .bl a,.bl b=>a==b
 | .bl a,.int b=>(if a then 1 else 0)==b
 | .int a,.bl b=>a==(if b then 1 else 0)
 | .int a,.int b=>a==b
 | .str a,.str b=>a==b
 | _,_=>false
theorem AGM{A:Around}{s:Shared}{y x:V}{u v:Value}(ry:Bc y u)(rx:Bc x v)(fy:Iv y=true)(fx:Iv x=true):SeqAt.EqAt A s u v (eqV y x):=by
 cases y with
 | non =>
  cases ry;cases x with
  | non=>cases rx;exact SeqAt.EqAt.same _
  | bl b=>cases rx;exact SeqAt.EqAt.none_bool b
  | int b=>obtain⟨t,rfl⟩:=rx;exact SeqAt.EqAt.none_int b t
  | str b=>obtain⟨t,rfl⟩:=rx;exact SeqAt.EqAt.none_str b t
  | _=>exact absurd (show false=true from fx) AS3
 | bl a =>
  cases ry;cases x with
  | non=>cases rx;exact SeqAt.EqAt.bool_none a
  | bl b=>cases rx;exact SeqAt.EqAt.bool_bool a b
  | int b=>obtain⟨t,rfl⟩:=rx;exact SeqAt.EqAt.bool_int a b t
  | str b=>obtain⟨t,rfl⟩:=rx;exact SeqAt.EqAt.bool_str a b t
  | _=>exact absurd (show false=true from fx) AS3
 | int a =>
  (obtain⟨t',rfl⟩:=ry);cases x with
  | non=>cases rx;exact SeqAt.EqAt.int_none a t'
  | bl b=>cases rx;exact SeqAt.EqAt.int_bool a t' b
  | int b=>obtain⟨t,rfl⟩:=rx;exact SeqAt.EqAt.int_int a t' b t
  | str b=>obtain⟨t,rfl⟩:=rx;exact SeqAt.EqAt.int_str a t' b t
  | _=>exact absurd (show false=true from fx) AS3
 | str a =>
  (obtain⟨t',rfl⟩:=ry);cases x with
  | non=>cases rx;exact SeqAt.EqAt.str_none a t'
  | bl b=>cases rx;exact SeqAt.EqAt.str_bool a t' b
  | int b=>obtain⟨t,rfl⟩:=rx;exact SeqAt.EqAt.str_int a t' b t
  | str b=>obtain⟨t,rfl⟩:=rx;exact SeqAt.EqAt.str_str a t' b t
  | _=>exact absurd (show false=true from fx) AS3
 | _=>exact absurd (show false=true from fy) AS3
def eqU(x:V)(u:Value):Bool:=match u with
 | .none=>eqV .non x
 | .bool b=>eqV (.bl b) x
 | .int i _=>eqV (.int i) x
 | .str z _=>eqV (.str z) x
 | _=>false
theorem ABQ{x y:V}{u:Value}(r:Bc y u)(f:Iv y=true):eqU x u=eqV y x:=by
 cases y with
 | non=>cases r;rfl
 | bl b=>cases r;rfl
 | int i=>obtain⟨t,rfl⟩:=r;rfl
 | str z=>obtain⟨t,rfl⟩:=r;rfl
 | _=>exact absurd (show false=true from f) AS3
theorem Ly{x:V}:∀{xs:List V} {us:List Value},BW xs us->xs.all Iv=true->us.any (eqU x)=xs.any fun y=>eqV y x
 | _,_,.nil,_=>rfl
 | y::xs,u::us,.cons r t,f=>by
  rw[List.all_cons,AUZ]at f;rw[AUp,AUp,ABQ r f.1,Ly t f.2]
theorem Ji{A:Around}{s:Shared}{x:V}{v:Value}(rx:Bc x v)(fx:Iv x=true):∀{xs:List V} {us:List Value},BW xs us->xs.all Iv=true->∀u∈us,SeqAt.EqAt A s u v (eqU x u)
 | _,_,.nil,_=>fun u hu=>by cases hu
 | y::xs,u::us,.cons r t,f=>fun u' hu=>by
  rw[List.all_cons,AUZ]at f;rcases AS2.mp hu with rfl|hu
  .rw[ABQ r f.1];exact AGM r rx f.1 fx
  .exact Ji rx fx t f.2 u' hu
def inV(x:V)(xs:List V):Bool:=xs.any fun y=>eqV y x
def rIn(K:W.Frag)(neg:Bool):R2:=fun x y H Q=>∃p xs,y=.ref p/\(SqL K H p xs\/SqT K H p xs)/\Iv x=true/\xs.all Iv=true/\Q (.bl (if neg then !inV x xs else inV x xs)) H
theorem AAr:OpR X (compareOp .In) (rIn X.K false):=by
 walk_at "m";obtain⟨p,xs,rfl,hq,fx,fs,q⟩:=h;cases ry;rcases hq with hq|hq
 .obtain⟨its,r,pl,hz⟩:=I.list hq;refine SeqAt.in_listAt (eqU x) pl.isList (fun w hw=>Ji rx fx r fs w (by simpa using hw)) ⟨.bl _,H,I,rfl,?_⟩;(rw[show its.toArray.any (eqU x)=its.any (eqU x) by simp,Ly r fs];exact q)
 .obtain⟨its,r,pl,hz⟩:=I.tuple hq;refine SeqAt.in_tupleAt (eqU x) pl (fun w hw=>Ji rx fx r fs w (by simpa using hw)) ⟨.bl _,H,I,rfl,?_⟩;(rw[show its.toArray.any (eqU x)=its.any (eqU x) by simp,Ly r fs];exact q)
theorem VD:OpR X (compareOp .NotIn) (rIn X.K true):=by
 walk_at "m";obtain⟨p,xs,rfl,hq,fx,fs,q⟩:=h;cases ry;rcases hq with hq|hq
 .obtain⟨its,r,pl,hz⟩:=I.list hq;refine SeqAt.notIn_listAt (eqU x) pl.isList (fun w hw=>Ji rx fx r fs w (by simpa using hw)) ⟨.bl _,H,I,rfl,?_⟩;(rw[show its.toArray.any (eqU x)=its.any (eqU x) by simp,Ly r fs];exact q)
 .obtain⟨its,r,pl,hz⟩:=I.tuple hq;refine SeqAt.notIn_tupleAt (eqU x) pl (fun w hw=>Ji rx fx r fs w (by simpa using hw)) ⟨.bl _,H,I,rfl,?_⟩;(rw[show its.toArray.any (eqU x)=its.any (eqU x) by simp,Ly r fs];exact q)
theorem Aw:Jl X (.builtin "len") (fun xs H Q=>∃p ys,xs=[.ref p]/\(SqL X.K H p ys\/SqT X.K H p ys)/\Q (.int ys.length) H):=by
 walk_at "9";obtain⟨p,ys,rfl,hq,q⟩:=h;obtain⟨u,rfl,rx⟩:=Iw r;cases rx;have hn:=Ug;rcases hq with hq|hq
 .obtain⟨its,r',pl,hz⟩:=I.list hq;have aB:=r'.length;exact Calls.call_len_list pl.isList (by simp only[AS9]<;>omega) ⟨.int ys.length,H,I.tok _,⟨s.toks+1,by rw[AS9,aB]⟩,q⟩
 .obtain⟨its,r',pl,hz⟩:=I.tuple hq;have aB:=r'.length;exact len_tuple pl (by simp only[AS9]<;>omega) ⟨.int ys.length,H,I.tok _,⟨s.toks+1,by rw[AS9,aB]⟩,q⟩
theorem GR:Jl X (.builtin "len") (fun xs H Q=>∃z,xs=[.str z]/\z.length<=sizeLine/\Q (.int z.length) H):=by
 walk_at "9";obtain⟨z,rfl,hz,q⟩:=h;obtain⟨u,rfl,t,rfl⟩:=Iw r;have hn:=Ug;exact len_str (by omega) ⟨.int z.length,H,I.tok _,⟨_,rfl⟩,q⟩
theorem Ew:Jl X (.type "list") (fun xs H Q=>∃p ys,xs=[.ref p]/\(SqL X.K H p ys\/SqT X.K H p ys)/\∀l,H l=none->Q (.ref l) (upd H l (.lst ys))):=by
 intro aA s σ H xs us Q I r h;obtain⟨p,ys,rfl,hq,q⟩:=h;obtain⟨u,rfl,rx⟩:=Iw r;cases rx;have fin:∀(its:List Value),BW ys its->ys.length<=sizeLine->∀(h':Heap) (c':Nat),(∀b o',s.heap.get? b=some o'->h'.get? b=some o') ->
   h'.get? s.heap.objs.size=some { cls:=.type "list",dict:=none,data:=.seq its.toArray c',slots:=#[] }->EP X aA σ Q (.ref s.heap.objs.size) { s with heap:=h' }:=fun its r' hz h' c' kp e =>
  ⟨.ref s.heap.objs.size,_,I.laid (t':=s.toks) kp (Nat.le_refl _) (show Ci X.prog X.w _ h' _ (.lst ys) from⟨hz,its,c',r',e⟩),rfl,q _ (I.hok.fresh (Nat.le_refl _))⟩
 rcases hq with hq|hq
 .obtain⟨its,r',pl,hz⟩:=I.list hq;have aB:=r'.length;obtain⟨o,ho,hc,n,hd⟩:=pl.isList;exact call_list_seq p (.inl rfl) ho hc hd (fun h' c' kp e=>fin its r' hz h' c' kp e) (by simp only[AS9]<;>omega)
 .obtain⟨its,r',pl,hz⟩:=I.tuple hq;have aB:=r'.length;obtain⟨o,ho,hc,n,hd⟩:=pl;exact call_list_seq p (.inr rfl) ho hc hd (fun h' c' kp e=>fin its r' hz h' c' kp e) (by simp only[AS9]<;>omega)
def tyV(K:W.Frag)(T:String)(x:V)(H:Hp):Prop:=match x with
 | .str _=>T="str"
 | .int _=>T="int"
 | .ref p=>(T="list"/\∃xs,SqL K H p xs)\/(T="tuple"/\∃o,K.lookup p=some o/\o.cls=.type "tuple"/\o.dict=none) \/
   (T="dict"/\((∃aG,H p=some (.dK aG))\/∃aG,H p=some (.dT aG)))\/(T="set"/\∃S n,H p=some (.set S n))
 | _=>False
theorem ABk{aA:List (Addr×Obj)}{σ:St}{H:Hp}{s:Shared}{T:String}{x:V}{v:Value}(I:Inv X aA σ H s)(r:Bc x v)(ty:tyV X.K T x H) :
  s.TypeIs v T/\∀a,v=.ref a->∃ob,s.heap.get? a=some ob/\ob.dict=none:=by
 cases x with
 | str z =>
  obtain⟨t,rfl⟩:=r;cases (show T="str" from ty);exact⟨typeIs_str s z t,fun _ e=>nomatch e⟩
 | int i =>
  obtain⟨t,rfl⟩:=r;cases (show T="int" from ty);exact⟨typeIs_int s i t,fun _ e=>nomatch e⟩
 | ref p =>
  cases r;rcases ty with⟨rfl,xs,hq⟩|⟨rfl,o,hk,hc,hd⟩|⟨rfl,hk⟩|⟨rfl,S,n,hk⟩
  .obtain⟨its,_,pl,_⟩:=I.list hq;refine⟨pl.isList.typeIs,fun a e=>?_⟩;cases e;obtain⟨o,n,e,c,hd,_⟩:=pl;exact⟨o,e,hd⟩
  .refine⟨⟨o,I.kIn p o hk,hc⟩,fun a e=>?_⟩;cases e;exact⟨o,I.kIn _ o hk,hd⟩
  .have z:∃o,s.heap.get? p=some o/\o.ExactDict:=by
    rcases hk with⟨aG,hk⟩|⟨aG,hk⟩
    .obtain⟨_,_,_,_,o,_,_,e,ex,_⟩:=I.hok p _ hk;exact⟨o,e,ex⟩
    .obtain⟨_,_,_,_,o,_,_,e,ex,_⟩:=I.hok p _ hk;exact⟨o,e,ex⟩
   obtain⟨o,e,ex⟩:=z;refine⟨⟨o,e,ex.1⟩,fun a e2=>?_⟩;cases e2;exact⟨o,e,ex.2.1⟩
  .obtain⟨o,_,_,_,e,ex,_⟩:=I.hok p _ hk;refine⟨⟨o,e,ex.1⟩,fun a e2=>?_⟩;cases e2;exact⟨o,e,ex.2.1⟩
 | _=>exact False.elim ty
def ARS(K:W.Frag)(T:String)(r:V->List V->Hp->VK->Prop)(to:TE):TE:=fun σ H Q=>to σ H fun x H1=>tyV K T x H1/\r x [] H1 Q
def tBM(K:W.Frag)(T:String)(r:V->List V->Hp->VK->Prop)(to:TE)(t:TA):TE:=fun σ H Q=>to σ H fun x H1=>tyV K T x H1/\t σ H1 fun xs H2=>r x xs H2 Q
variable {o e:Expr}{es:List Expr}{to:TE}{t:TA}{name:Str}{aF aD:Pos}{T id:String}{r:V->List V->Hp->VK->Prop}
theorem AIY(pa:PlainAttrs T)(slot:Slot T name id)(hty:typeOf (.builtin id)=pure (.type "method_descriptor"))(hm:MtR X id r)(ho:PE X o to)
  (hbase:attributeBase o name X.env (eval o X.env)=eval o X.env:=by rfl) (hline:(aF.endLine==aD.line)=true:=by rfl):PE X (.Call (.Attribute o name aF) [] [] aD) (ARS X.K T r to):=by
 walk_at "k";refine wpAny_Call_method0_late hbase hline (thn (ho aA s σ H _ I h) fun v s1 ⟨x,H1,I1,r1,ty,q1⟩=>?_);obtain⟨h1,h2⟩:=ABk I1 r1 ty;exact⟨T,id,pa,slot,hty,h1,h2,AVA rfl (PySem.evalArgs_none (hm aA s1 σ H1 x [] v [] Q I1 r1 .nil q1))⟩
theorem Cp(pa:PlainAttrs T)(slot:Slot T name id)(hty:typeOf (.builtin id)=pure (.type "method_descriptor"))(hm:MtR X id r)(ho:PE X o to)(ha:PA X (e::es) t)
  (hbase:attributeBase o name X.env (eval o X.env)=eval o X.env:=by rfl)
  (hfew:((backTo aD (starEach (e::es) X.env)).all (fun x=>!x.1)&&(backToKw aD (keywordEach [] X.env)).all (fun x=>x.1.isSome)
    &&decide ((e::es).length+([]:List Keyword).length+(if ([]:List Keyword).isEmpty then 0 else 1)<30))=true:=by rfl)
  (hline:(aF.endLine==aD.line)=true:=by rfl) (hs:starEach (e::es) X.env=(false,eval e X.env)::starEach es X.env:=by rfl) (hplain:(backTo aD (starEach es X.env)).any (·.1)=false:=by rfl) :
  PE X (.Call (.Attribute o name aF) (e::es) [] aD) (tBM X.K T r to t):=by
 walk_at "k";refine wpAny_Call_method_late hbase hfew hline rfl (thn (ho aA s σ H _ I h) fun v s1 ⟨x,H1,I1,r1,ty,q1⟩=>?_);obtain⟨h1,h2⟩:=ABk I1 r1 ty;refine⟨T,id,pa,slot,hty,h1,h2,?_⟩;have hA:=ha aD aA s1 σ H1 _ I1 q1;rw[hs]at hA ⊢;refine AVA (by show(false || (backTo aD (starEach es X.env)).any (·.1))=false;rw[hplain]<;>rfl) (Calls.evalArgs_plain ?_);exact thn hA fun us s2 ⟨vs,H2,I2,r2,q2⟩=>hm aA s2 σ H2 x vs v us Q I2 r1 r2 q2
end
def MtM(X:Cx)(id:String)(r:V->List V->Hp->VK->Prop):Prop :=
 ∀(aA:List (Addr×Obj)) (s:Shared) (σ:St) (H:Hp) (x:V) (xs:List V) (v:Value) (us:List Value) (Q:VK),Inv X aA σ H s->Bc x v->BW xs us->r x xs H Q ->
  wpAny (model X.prog X.w) X.A (call (.builtin id) (v::us)) (EP X aA σ Q) X.xe s
theorem BW.one:∀{x:V} {us:List Value},BW [x] us->∃u,us=[u]/\Bc x u
 | _,_,.cons r .nil=>⟨_,rfl,r⟩
theorem BW.zero:∀{us:List Value},BW [] us->us=[]
 | _,.nil=>rfl
theorem BW.dropLast{xs:List V}{us:List Value}(h:BW xs us):BW xs.dropLast us.dropLast:=by
 induction h with
 | nil=>exact .nil
 | cons r t ih =>
  cases t with
  | nil=>exact .nil
  | cons q t'=>exact .cons r ih
theorem BW.reverse{xs:List V}{us:List Value}(h:BW xs us):BW xs.reverse us.reverse:=by
 induction h with
 | nil=>exact .nil
 | cons r t ih=>rw[AVB,AVB];exact BW.append ih (.cons r .nil)
theorem BW.rep{xs:List V}{us:List Value}(h:BW xs us):∀k:Nat,BW (List.replicate k xs).flatten (List.replicate k us).flatten
 | 0=>.nil
 | k+1=>by
  rw[AUG,AUG,AUq,AUq];exact BW.append h (BW.rep h k)
theorem Xf{α:Type}(l:List α):l.eraseIdx (l.length-1)=l.dropLast:=by
 induction l with
 | nil=>rfl
 | cons a r ih =>
  cases r with
  | nil=>rfl
  | cons b r =>
   have e:(a::b::r).length-1=((b::r).length-1)+1:=by
    have h1:(a::b::r).length=r.length+2:=rfl;have h2:(b::r).length=r.length+1:=rfl;omega
   rw[e,List.eraseIdx_cons_succ,ih]
   all_goals rfl
theorem Sd(its:List Value):∀(k:Nat) (acc:List Value),
  List.foldl (fun x1 x2=>x1++x2) acc.toArray (List.replicate k its.toArray)=(acc++(List.replicate k its).flatten).toArray
 | 0,acc=>by simp
 | k+1,acc=>by
  have e:acc.toArray++its.toArray=(acc++its).toArray:=by simp
  have e2:(acc++its)++(List.replicate k its).flatten=acc++(List.replicate (k+1) its).flatten:=by
   rw[AUG,AUq,ATw]
  rw[<-e2,<-Sd its k (acc++its),<-e,AUG,List.foldl_cons]
section
variable {X:Cx}{aA:List (Addr×Obj)}{σ:St}{H:Hp}{s:Shared}{l b:Addr}{xs ys zs:List V}
theorem Inv.lset{its its':List Value}{n:Nat}{f:Array Value->Array Value}{t':Nat}(I:Inv X aA σ H s)(hH:H l=some (.lst xs))
  (e:s.heap.get? l=some { cls:=.type "list",data:=.seq its.toArray n }) (hf:f its.toArray=its'.toArray) (hv:BW ys its') (hz:ys.length<=sizeLine) :
  Inv X aA σ (upd H l (.lst ys)) { s with heap:=s.heap.update l (Obj.mapSeq f),toks:=t' }:=by
 have q:=PySem.IsL.update e f;rw[hf]at q;refine I.write (x:=l) (e:=l) (by rw[hH];exact trivial) (.inl rfl) (fun b' u hb hu=>(AUf s.heap (Obj.mapSeq f) (AVT hb)).trans hu) ⟨_,q⟩ ?_;exact⟨hz,its',_,hv,q⟩
theorem Inv.lnew{its:List Value}{t':Nat}(I:Inv X aA σ H s)(hv:BW ys its)(hz:ys.length<=sizeLine) :
  Inv X aA σ (upd H s.heap.objs.size (.lst ys)) { s with heap:=s.heap.push { cls:=.type "list",data:=.seq its.toArray },toks:=t' } :=
 I.laid (fun _ _ q=>ASw _ q) (Nat.le_refl _) ⟨hz,its,0,hv,AS1 _ rfl⟩
theorem Inv.fresh(I:Inv X aA σ H s):H s.heap.objs.size=none:=I.hok.fresh (Nat.le_refl _)
theorem Inv.lstM(I:Inv X aA σ H s)(hH:H l=some (.lst xs)):xs.length<=sizeLine/\∃(its:List Value) (n:Nat),BW xs its/\xs.length=its.length/\s.heap.get? l=some { cls:=.type "list",data:=.seq its.toArray n }:=by
 obtain⟨z,its,n,r,e⟩:=I.hok l _ hH;exact⟨z,its,n,r,r.length,e⟩
theorem ACQ{n:Nat}(h:n<=sizeLine):Builtin.List.listTooLong n=false:=by
 unfold Builtin.List.listTooLong;exact decide_eq_false (by omega)
end
section
variable {X:Cx}
def rAppend:V->List V->Hp->VK->Prop:=fun x vs H Q=>∃l xs y,x=.ref l/\vs=[y]/\H l=some (.lst xs)/\xs.length<sizeLine/\Q .non (upd H l (.lst (xs++[y])))
theorem Cw:MtM X "list.append" rAppend:=by
 intro aA s σ H x vs v us Q I rx rv h;obtain⟨l,xs,y,rfl,rfl,hH,hz,q⟩:=h;cases rx;obtain⟨u,rfl,ru⟩:=rv.one;obtain⟨z,its,n,r,hl,e⟩:=I.lstM hH;refine call_meets F.slot_list_append ⟨_,e,rfl⟩ F.entry_list_append (F.args_list_append_2 _ _) (PySem.list_append l its.toArray n u (by rw[AS9];omega)) ⟨e,?_⟩;refine⟨.non,_,I.lset (its':=its++[u]) hH e (by simp) (r.append (.cons ru .nil)) ?_,rfl,q⟩;rw[ASz,ATX];omega
def AQN:V->List V->Hp->VK->Prop:=fun x vs H Q=>∃l b xs zs,x=.ref l/\vs=[.ref b]/\H l=some (.lst xs)/\H b=some (.lst zs)/\xs.length+zs.length<=sizeLine/\Q .non (upd H l (.lst (xs++zs)))
def rPop:V->List V->Hp->VK->Prop:=fun x vs H Q=>∃l xs y,x=.ref l/\vs=[]/\H l=some (.lst xs)/\xs[xs.length-1]?=some y/\Q y (upd H l (.lst xs.dropLast))
theorem AHM:MtM X "list.pop" rPop:=by
 intro aA s σ H x vs v us Q I rx rv h;obtain⟨l,xs,y,rfl,rfl,hH,hy,q⟩:=h;cases rx;have hus:=rv.zero;subst hus;obtain⟨z,its,n,r,hl,e⟩:=I.lstM hH;obtain⟨u,hu,ru⟩:=r.get hy;have hy':its.toArray[its.toArray.size-1]?=some u:=by
  show its.toArray[its.length-1]?=some u;rw[<-AWJ,<-hl];exact hu
 refine call_meets F.slot_list_pop ⟨_,e,rfl⟩ F.entry_list_pop (F.args_list_pop_1 _) (MeetsSeq.list_pop_last l its.toArray n u hy' (by rw[AS9];omega)) ⟨e,?_⟩;refine⟨y,_,I.lset (its':=its.dropLast) hH e ?_ r.dropLast ?_,ru,q⟩
 .show its.toArray.eraseIdxIfInBounds (its.toArray.size-1)=its.dropLast.toArray;rw[AS9,List.eraseIdxIfInBounds_toArray,Xf]
 .rw[List.length_dropLast];omega
def ARQ:V->List V->Hp->VK->Prop:=fun x vs H Q=>∃l xs i k y,x=.ref l/\vs=[.int i]/\H l=some (.lst xs)/\-(2^63)<=i/\i<2^63/\seqIndex? i xs.length=some k/\xs[k]?=some y/\Q y (upd H l (.lst (xs.eraseIdx k)))
def AOQ:V->List V->Hp->VK->Prop:=fun x vs H Q=>∃l xs,x=.ref l/\vs=[]/\H l=some (.lst xs)/\Q .non (upd H l (.lst xs.reverse))
def ARI:V->List V->Hp->VK->Prop:=fun x vs H Q=>∃l xs,x=.ref l/\vs=[]/\H l=some (.lst xs)/\Q .non (upd H l (.lst []))
def ARl:R2:=fun x y H Q=>∃l b xs zs,x=.ref l/\y=.ref b/\H l=some (.lst xs)/\H b=some (.lst zs)/\xs.length+zs.length<=sizeLine/\∀p,H p=none->Q (.ref p) (upd H p (.lst (xs++zs)))
theorem VB:OpR X (binaryOp .Add) ARl:=by
 walk_at "m";obtain⟨l,b,xs,zs,rfl,rfl,hH,hB,hz,q⟩:=h;cases rx;cases ry;obtain⟨z,its,n,r,hl,e⟩:=I.lstM hH;obtain⟨z2,its2,n2,r2,hl2,e2⟩:=I.lstM hB;refine PySem.P.add_list e e2 ?_ (by rw[AS9,AS9];omega);have ea:its.toArray++its2.toArray=(its++its2).toArray:=by simp
 rw[ea];exact⟨.ref _,_,I.lnew (t':=s.toks) (r.append r2) (by rw[ASz];omega),rfl,q _ I.fresh⟩
def AQ9:R2:=fun x y H Q=>∃l k xs,x=.ref l/\y=.int k/\H l=some (.lst xs)/\-(2^63)<=k/\k<2^63/\xs.length*k.toNat<=sizeLine /\
 ∀p,H p=none->Q (.ref p) (upd H p (.lst (List.replicate k.toNat xs).flatten))
theorem ADc{α:Type}(xs:List α)(k:Nat):(List.replicate k xs).flatten.length=k*xs.length:=by
 induction k with
 | zero=>simp
 | succ k ih=>rw[AUG,AUq,ASz,ih,Nat.succ_mul,AWx]
theorem AHU:OpR X (binaryOp .Mult) AQ9:=by
 walk_at "m";obtain⟨l,k,xs,rfl,rfl,hH,h1,h2,hz,q⟩:=h;cases rx;obtain⟨t,rfl⟩:=ry;obtain⟨z,its,n,r,hl,e⟩:=I.lstM hH;have aB:its.toArray.size*k.toNat<=sizeLine:=by rw[AS9,<-hl];exact hz
 have kJ:¬its.toArray.size*k.toNat > (2^63-1)/8:=by
  have:(sizeLine:Nat)<=(2^63-1)/8:=by decide
  omega
 have hfit:¬(!Builtin.List.listFitsIndex k)=true:=by
  rw[fitsIndex_both h1 h2];exact AS3
 have iY:¬Builtin.List.listTooLong (its.toArray.size*k.toNat)=true:=by
  rw[ACQ aB];exact AS3
 have aL:List.foldl (fun x1 x2=>x1++x2) #[] (List.replicate (if its.toArray.isEmpty=true then 0 else k.toNat) its.toArray)=(List.replicate k.toNat its).flatten.toArray:=by
  have f0:∀m:Nat,List.foldl (fun x1 x2=>x1++x2) #[] (List.replicate m its.toArray)=(List.replicate m its).flatten.toArray:=fun m=>by
   have:=Sd its m [];rw[List.nil_append]at this;exact this
  rw[f0];cases its with
  | nil=>simp
  | cons a r'=>rw[if_neg (by simp)]
 refine wpAny_binaryOp_repeat_ref (T:="list") (U:="int") (by decide) ⟨_,e,rfl⟩ (fun s'=>typeIs_int s' k t) noFill_list_mul F.fills_int_mul F.slot_int_rmul repeat_list F.slot_int_index.lookup
  (call_meets F.slot_int_rmul (typeIs_int s k t) F.entry_int_rmul (F.args_int_rmul_2 _ _) (int___rmul___int_list k t l its.toArray n)
   ⟨e,rfl,⟨_,e,rfl⟩,call_meets F.slot_list_mul ⟨_,e,rfl⟩ F.entry_list_mul (F.args_list_mul_2 _ _) (AutoListH.list___mul___list_int_3 l its.toArray n k t hfit kJ iY) ⟨e,?_⟩⟩)
 rw[aL];exact⟨.ref _,_,I.lnew (t':=s.toks) (r.rep k.toNat) (by rw[ADc,Nat.mul_comm];exact hz),rfl,q _ I.fresh⟩
end
section
variable {prog:Program}{w:World}{A:Around}{E:Value->Shared->Prop}{s:Shared}
set_option maxRecDepth 100000 in
end
section
variable {X:Cx}
end
end L2
namespace nV
open PySem PySem.W PySem.Calls PyProof.Rows
theorem O3{P:Params}{h:Heap}:∀(ns:List Int) (vs:List Value),WellAll P h vs (ns.map WData.int)->IntsAre vs ns:=by
 intro ns
 induction ns with
 | nil =>
  intro vs w;rw[List.map_nil]at w;cases w;exact .nil
 | cons n ns ih =>
  intro vs w;rw[List.map_cons]at w;cases w with
  | cons a b =>
   cases a;exact .cons _ _ (ih _ b)
theorem AAZ{l:OpenLaw}{n:Nat}(hn:l.most=some n){P:Params}{h:Heap}{args:List WData}{vals:List Value}
  (hpre:l.row.toRowW.claim.pre args=true) (hwl:WellAll P h vals args) :
  ∃a vs ns,vals=[Value.ref a]/\args=[WData.list (ns.map WData.int)]/\h.get? a=some { cls:=.type "list",data:=.seq vs.toArray }/\IntsAre vs ns/\ns.length<=n:=by
 have hsh:WShape.hasAll [] args [.list .int]=true:=(pre_splitW hpre).1;have hc:l.pre.holds [] { args:=args }=true:=(pre_splitW hpre).2;obtain⟨d,r,rfl,h1,h2⟩:=hasAllW_cons hsh;obtain rfl:=hasAllW_nil h2;obtain⟨xs,rfl,h3⟩:=hasW_list h1;obtain⟨ns,rfl⟩:=items_int h3;have aB:ns.length<=n:=by
  unfold OpenLaw.pre at hc;have h4:(WTm.not (.lt (.lit (.int (n:Int))) (.len (.arg 0)))).holds [] { args:=[.list (ns.map .int)] }=true:=by
   have h4:=(holds_andW hc).1;rw[hn]at h4;exact h4
  have h5:=condW_of h4 (w_not (w_lt w_lit (w_len_list (w_arg rfl))));rw[ASt]at h5;refine Nat.le_of_not_lt fun q=>?_;have q':(n:Int)<((ns.length:Nat):Int):=by omega
  first
   | (rw[decide_eq_true q']at h5;exact absurd h5 (by decide))
   | (simp at h5;omega)
 cases hwl with
 | cons w1 w2 =>
  cases w2;cases w1 with
  | list ho hall=>exact⟨_,_,ns,rfl,rfl,ho,O3 ns _ hall,aB⟩
theorem Zm(l:OpenLaw)(args:List WData):l.row.toRowW.claim.post args (.bool true) args=true :=
 postW_of (r:=l.row.toRowW) (X:=(true==true))
  (show WShape.has [] (.bool true) .bool=true by first | rfl | decide | simp[WShape.has,WShape.arms,WShape.armsAll])
  (show(WTm.eq .res (.lit (.bool true))).value [] { args:=args,res:=some (.bool true),after:=args }=some (.bool (true==true)) from w_eq_bool (w_res rfl) w_lit) rfl
theorem attach_call{l:OpenLaw}{n:Nat}{q:Program}{loose:List Str}{XP:(Str->Option Value)->Heap->Prop}{YP:World->Heap->Prop}{d:DefRec}
  (hn:l.most=some n) (hdf:d.params.defaults=[])
  (call:∀(w:World) (zb zf:Shared) (mg mb:Str->Option Value) (fa:Addr) (o:Obj) (pm cd doc:Value) (a:Addr) (vs:List Value) (ns:List Int),
   Ground q loose [] XP w zb mg mb zf.heap->YP w zf.heap ->
   zf.heap.get? fa=some o->o.data=.func (docDef d.name d.params d.body d.scope pm cd doc)->zf.heap.CodeRec cd d.name->mg d.name=some (.ref fa) ->
   zf.heap.get? a=some { cls:=.type "list",data:=.seq vs.toArray }->IntsAre vs ns->ns.length<=n->zf.gens=#[] ->
   codeAny (model l.prog w) callerA (.call (.ref fa) ⟨[.ref a],[]⟩) (fun r s'=>r=.ok (.ret (.bool true))/\OldK zf.heap s'.heap/\s'.os=zf.os/\AllBare s'.gens) zf) :
  WalkO q loose XP YP l.row.toRowW d [] (fun f vs=>PySem.call f vs):=by
 intro w zb zf mg mb G Y fa o pm cd doc dV kV ho hd hcd hD hmg hg args vals as hpre hlay hrd hwl hlo;obtain rfl:dV=.none:=Dflts.none hD hdf;obtain rfl:kV=.none:=Dflts.noKw hD;obtain⟨a,vs,ns,rfl,rfl,hobj,hints,aB⟩:=AAZ hn hpre hwl;refine enter_call (codeAny_mono (call w zb zf mg mb fa o pm cd doc a vs ns G Y ho (fd_plain hd) hcd hmg hobj hints aB hg) fun r s' hq=>?_);obtain⟨rfl,h2,h3,h4⟩:=hq;exact⟨.inl ⟨.bool true,.bool true,[],rfl,fun _=>rfl,.bool true,Zm l _,fun _=>⟨List.Pairwise.nil,fun _ hm=>(nomatch hm)⟩⟩,h2,h3,h4⟩
section
variable {prog:Program}{w:World}{A:Around}{E:Value->Shared->Prop}{s:Shared}{K:Frag}
def AQd(h:Heap):Heap:={ h with objs:=#[] }
def AQg(h:Heap)(L d:Addr):List (Addr×Obj):=(List.range h.objs.size).filterMap fun a=>if a=L\/a=d then none else(h.get? a).map fun o=>(a,o)
end
end nV
namespace L2
open PySem PySem.Spec PyProof.Rows
theorem Sq:∀{vs:List Value} {ns:List Int},IntsAre vs ns->BW (ns.map V.int) vs
 | _,_,.nil=>.nil
 | _,_,.cons n t h=>.cons ⟨t,rfl⟩ (Sq h)
def AI3(H:Hp):Prop:=∀b,H b=none\/∃o xs,H b=some (.frz o (.lst xs))
theorem ADH{P:Program}{w:World}{K:W.Frag}{mg mb:Str->Option Value}{CX:CXT}{k:Nat}{fa a:Addr}{fd:FuncData}{x:Str}{sp:Sp}{zf:Shared}{vs:List Value}{ns:List Int}
  (KX:K.In zf.heap) (hns:zf.heap.Ns mainGlobals mg) (hb:zf.heap.Ns builtinsNs mb) (hbb:∀x:Str,x≠"__name__"->mb x=bootBuiltins x) (hlim:zf.heap.NoLimit) (hg:zf.gens=#[])
  (ha:zf.heap.get? a=some { cls:=.type "list",data:=.seq vs.toArray }) (hi:IntsAre vs ns) (hl:ns.length<=sizeLine) (hr:Dz k callerA)
  (F:∀base:Heap,K.In base->base.Ns mainGlobals mg->BP P w K mg base CX k fa fd [x] sp) (hbind:∀(s:Shared) (u:Value),BindsTo s fd ⟨[u],[]⟩ [(x,u)])
  (hsp:∀H:Hp,AI3 H->SqL K H a (ns.map V.int)->sp [.ref a] H (fun v _=>v=.bl true) fun _ _ _=>False)
  (kK:∀H e s',CX [] H zf (fun _ _ _=>False) e s'->False) :
  codeAny (model P w) callerA (.call (.ref fa) ⟨[.ref a],[]⟩) (fun r s'=>r=.ok (.ret (.bool true))/\OldK zf.heap s'.heap/\s'.os=zf.os/\AllBare s'.gens) zf:=by
 have rv:=Sq hi;have lenV:=hi.length;have core:∀H:Hp,AI3 H->SqL K H a (ns.map V.int)->HOk P w H zf.heap->(∀b,H b≠none->b=a)->(H a≠none->K.lookup a=none) ->
   codeAny (model P w) callerA (.call (.ref fa) ⟨[.ref a],[]⟩) (fun r s'=>r=.ok (.ret (.bool true))/\OldK zf.heap s'.heap/\s'.os=zf.os/\AllBare s'.gens) zf:=by
  intro H hO hS hok hA hK;have eX:∀{b:Addr} {o:Obj},zf.heap.get? b=some o->H b=none->(Uw zf.heap H).get? b=some o:=fun e n=>ADB e n;have iX:∀{b:Addr} {o:Obj} {es:Array DictEntry} {ep:Nat},zf.heap.get? b=some o->o.data=.dict es ep->H b=none:=fun {b o es ep} e d=>by
   cases q:H b with
   | none=>rfl
   | some u =>
    have e':b=a:=hA b (by rw[q];simp);subst e';rw[ha]at e;cases e;have d':Data.seq vs.toArray _=Data.dict es ep:=d;cases d'
  have jT:∀{b:Addr} {m:Str->Option Value},zf.heap.Ns b m->(Uw zf.heap H).Ns b m:=fun {b m} ⟨o,es,ep,e,d,r⟩=>⟨o,es,ep,eX e (iX e d),d,r⟩;have nX:K.In (Uw zf.heap H):=fun b o e=>eX (KX b o e) (by
   cases q:H b with
   | none=>rfl
   | some u =>
    have e':b=a:=hA b (by rw[q];simp);subst e';rw[hK (by rw[q];simp)]at e;cases e)
  have hM:Mod K mg (Uw zf.heap H):=⟨nX,jT hns,⟨mb,jT hb,hbb⟩,let ⟨mc,h1,h2⟩:=hlim;⟨mc,jT h1,h2⟩⟩;have e0:X4 P w K mg (Uw zf.heap H) callerA [] zf H:=⟨rfl,hM,fun b o e=>AEd e,AVh (AAm _ _),trivial,fun b hb=>absurd (show b∈([]:List Addr) from hb) (by simp),hok,.of_eq hg⟩;refine codeAny_mono ((F _ nX (jT hns)).run callerA [] zf H ⟨[.ref a],[]⟩ [.ref a] [.ref a] _ _ hr e0 (hbind zf (.ref a)) (.cons rfl .nil) (hsp H hO hS)) fun r s' h=>?_;cases r with
  | error e=>exact(kK H e s' h).elim
  | ok fl =>
   cases fl with
   | next=>exact False.elim h
   | brk=>exact False.elim h
   | cont=>exact False.elim h
   | ret u =>
    obtain⟨v,H',os,bare,un,hok',r',q⟩:=h;have q':v=.bl true:=q;subst q';obtain rfl:u=Value.bool true:=r';refine⟨rfl,OldK.of_keep fun b o e=>?_,os,bare⟩;cases q:H b with
    | none=>exact un.keep b o e q (by intro z;exact absurd (show b∈([]:List Addr) from z) (by simp)) (by simp)
    | some u =>
     rcases hO b with z|⟨ob,xs,z⟩
     .rw[q]at z;cases z
     .have z2:=un.frzs b ob _ z;obtain⟨e1,_⟩:=hok b _ z;obtain⟨e2,_⟩:=hok' b _ z2;rw[e]at e1;cases e1;exact e2
 cases hk:K.lookup a with
 | some o =>
  have e:=KX a o hk;rw[ha]at e;cases e;refine core (fun _=>none) (fun _=>.inl rfl) (.inr ⟨_,vs.toArray,_,hk,rfl,rfl,rfl,by rw[AS9,lenV];exact hl,by simpa using rv⟩) (fun b u z=>by have z':(none:Option HO)=some u:=z;cases z') (fun b z=>absurd rfl z) fun z=>absurd rfl z
 | none =>
  refine core (fun b=>if b=a then some (.frz { cls:=.type "list",data:=.seq vs.toArray } (.lst (ns.map V.int))) else none) (fun b=>?_) (.inl (.inr ⟨{ cls:=.type "list",data:=.seq vs.toArray },if_pos rfl⟩)) (fun b u z=>?_) (fun b z=>?_) fun _=>hk
  .by_cases hb:b=a
   .exact .inr ⟨_,_,if_pos hb⟩
   .exact .inl (if_neg hb)
  .by_cases hb:b=a
   .have z':=(if_pos hb).symm.trans z;cases z';subst hb;exact⟨ha,by rw[ASt];exact hl,vs,_,rv,ha⟩
   .have z':=(if_neg hb).symm.trans z;cases z'
  .by_cases hb:b=a
   .exact hb
   .exact absurd (if_neg hb) z
abbrev KOf{K:W.Frag}{h:Heap}(_:K.In h):W.Frag:=K
theorem walk_of{l:W.OpenLaw}{n k:Nat}{q:Program}{loose:List Str}{XP:(Str->Option Value)->Heap->Prop}{YP:World->Heap->Prop}{d:DefRec}{K:Params->W.Frag}{CX:World->CXT}{sp:World->Sp}{x:Str}
  (hn:l.most=some n) (hn2:n<=sizeLine) (hdf:d.params.defaults=[]) (hr:Dz k callerA)
  (hY:∀(w:World) (h:Heap),YP w h->(K w.params).In h)
  (F:∀(w:World) (mg:Str->Option Value) (fa:Addr) (h:Heap),(K w.params).In h->h.Ns mainGlobals mg->mg d.name=some (.ref fa) ->
   ∃fd:FuncData,(∀(s:Shared) (u:Value),BindsTo s fd ⟨[u],[]⟩ [(x,u)]) /\
    ∀base:Heap,(K w.params).In base->base.Ns mainGlobals mg->BP l.prog w (K w.params) mg base (CX w) k fa fd [x] (sp w))
  (hsp:∀(w:World) (H:Hp) (a:Addr) (ns:List Int),ns.length<=n->AI3 H->SqL (K w.params) H a (ns.map V.int)->sp w [.ref a] H (fun v _=>v=.bl true) fun _ _ _=>False)
  (kK:∀(w:World) (H:Hp) (s:Shared) (e:Value) (s':Shared),CX w [] H s (fun _ _ _=>False) e s'->False) :
  W.WalkO q loose XP YP l.row.toRowW d [] (fun f vs=>PySem.call f vs):=by
 refine nV.attach_call hn hdf fun w zb zf mg mb fa o pm cd doc a vs ns G Y ho hd hcd hmg hobj hints aB hg=>?_;have KX:=hY w _ Y;obtain⟨fd,hb,hF⟩:=F w mg fa _ KX G.T.g hmg;exact ADH KX G.T.g G.T.b G.T.builtins G.T.nolimit hg hobj hints (ATG aB hn2) hr hF hb (fun H hO hS=>hsp w H a ns aB hO hS) fun H e s'=>kK w H zf e s'
def BX(s:Stmt)(j:Nat):Stmt:=match s with
 | .ClassDef _ _ _ body _ _ _ _ _ _ _=>body.getD j (.Pass ⟨0,0,0,0⟩)
 | _=>.Pass ⟨0,0,0,0⟩
def Cq(s:Stmt):Arguments:=match s with
 | .FunctionDef _ a _ _ _ _ _ _ _ _=>a
 | _=>{ posonlyargs:=[],args:=[],vararg:=none,kwonlyargs:=[],kw_defaults:=[],kwarg:=none,defaults:=[] }
def CK(s:Stmt):List Stmt:=match s with
 | .FunctionDef _ _ b _ _ _ _ _ _ _=>b
 | _=>[]
def Af(s:Stmt):Scope:=match s with
 | .FunctionDef _ _ _ _ _ _ sc _ _ _=>sc
 | _=>{ kind:=.function,names:=[],isGenerator:=false,isCoroutine:=false }
abbrev CX0:CXT:=fun _ _ _ _ _ _=>False
abbrev E0:XK:=fun _ _ _=>False
theorem Su{X:Cx}:JN CX0 X E0:=fun _ _ _ _ _ _ _ h=>h.elim
structure Fun(K:W.Frag)(x qual:Str)(st:Stmt)(f:Addr)(fd:FuncData):Prop where
 ex:∃(oc:Value) (od:Option Addr) (kV doc pm:Value) (an:Option Addr) (cdv ct:Value) (osl:Array (Option Value)),
  fd=W.fnOf x qual (Cq st) (CK st) (Af st) .none kV doc pm an cdv ct/\K.lookup f=some ⟨oc,od,.func fd,osl⟩/\W.codeIn K cdv qual=true
 kp:W.keepIn K (.ref f)=true
section
variable {P:Program}{w:World}{K:W.Frag}{mg:Str->Option Value}{base:Heap}
theorem Fun.ok{x qual:Str}{st:Stmt}{f:Addr}{fd:FuncData}{N ps:List Str}{k:Nat}{sp:Sp}(F:Fun K x qual st f fd)(S:Al N ps (Af st))(len:∀vs H Q E,sp vs H Q E->vs.length=ps.length)
  (hbody:∀(cdv:Value) (A:Around) (outer:List Env) (s:Shared) (H:Hp) (vs:List V) (Q:VK) (E:XK),Dz k (A.deeper (envOfC qual (Af st) s.heap.objs.size f cdv))->sp vs H Q E ->
   ∃t,PSs (Wq CX0 P w K mg base N qual (Af st) f cdv A outer s H E).nox (CK st) t/\t { nx:=fun _ H'=>Q .non H',rt:=Q } (start N vs) H):BP P w K mg base CX0 (k+1) f fd ps sp:=by
 obtain⟨oc,od,kV,doc,pm,an,cdv,ct,osl,rfl,lk,hcd⟩:=F.ex;(refine AFI lk hcd S len fun A outer s H vs Q E hr hsp=>?_;obtain⟨t,h,q⟩:=hbody cdv A outer s H vs Q E hr hsp;exact⟨t,h.nox,q⟩)
theorem Fun.binds{x qual:Str}{st:Stmt}{f:Addr}{fd:FuncData}{ps:List Str}(F:Fun K x qual st f fd)
  (h:∀(kV doc pm:Value) (an:Option Addr) (cdv ct:Value) (us:List Value),us.length=ps.length->bindArgs (W.fnOf x qual (Cq st) (CK st) (Af st) .none kV doc pm an cdv ct) ⟨us,[]⟩=pure (ps.zip us)):Ef K fd ps []:=by
 obtain⟨oc,od,kV,doc,pm,an,cdv,ct,osl,rfl,lk,hcd⟩:=F.ex;exact .all (h kV doc pm an cdv ct)
theorem ACT{x qual:Str}{st:Stmt}{f:Addr}{oc:Value}{od an:Option Addr}{osl:Array (Option Value)}{kV doc pm cdv ct:Value}(l:K.lookup f=some ⟨oc,od,.func (W.fnOf x qual (Cq st) (CK st) (Af st) .none kV doc pm an cdv ct),osl⟩)
  (c:W.codeIn K cdv qual=true) (k:W.keepIn K (.ref f)=true):Fun K x qual st f (W.fnOf x qual (Cq st) (CK st) (Af st) .none kV doc pm an cdv ct):=⟨⟨oc,od,kV,doc,pm,an,cdv,ct,osl,rfl,l,c⟩,k⟩
end
section
variable {X:Cx}
theorem pv(i:Nat){x:Str}{pos:Pos}(hN:X.N[i]?=some x:=by rfl)(hv:Vis X.env.scope x:=by first | exact Or.inl rfl | exact Or.inr (Or.inl rfl) | exact Or.inr (Or.inr rfl))(hd:(x==("__debug__":Str))=false:=by decide)
  (hcd:(x==("__classdict__":Str))=false:=by decide):PE X (.Name x pos) (AML i):=AIn hN hv hd hcd
end
theorem FZ{A B:Prop}(h:B):if false=true then A else B:=by
 rw[if_neg AS3];exact h
theorem RV{A B:Prop}(h:A):if true=true then A else B:=by
 rw[if_pos rfl];exact h
theorem Hk{c A B:Prop}[Decidable c](h1:c->A)(h2:¬c->B):if c then A else B:=by
 by_cases h:c
 .rw[if_pos h];exact h1 h
 .rw[if_neg h];exact h2 h
theorem Fx{c A B:Prop}[Decidable c](hc:c)(h:B):if (!decide c)=true then A else B:=by
 rw[decide_eq_true hc];exact FZ h
def Am(H H':Hp):Prop:=∀b o,H b=some o->H' b=some o
theorem Am.refl(H:Hp):Am H H:=fun _ _ h=>h
theorem Am.trans{H H1 H2:Hp}(a:Am H H1)(b:Am H1 H2):Am H H2:=fun c o h=>b c o (a c o h)
theorem Am.free{H H':Hp}(e:Am H H'){l:Addr}(h:H' l=Option.none):H l=Option.none:=by
 cases q:H l with
 | none=>rfl
 | some o =>
  rw[e l o q]at h;cases h
theorem Am.seq{K:W.Frag}{H H':Hp}{a:Addr}{xs:List V}(e:Am H H')(h:SqL K H a xs):SqL K H' a xs:=by
 rcases h with(h|⟨o,h⟩)|h
 .exact .inl (.inl (e _ _ h))
 .exact .inl (.inr ⟨o,e _ _ h⟩)
 .exact .inr h
section
variable {κ:Type}[DecidableEq κ]
def Ei(aG:List (κ×V))(k:κ):Option V:=(aG.find? fun kv=>decide (kv.1=k)).map (·.2)
noncomputable def JW(aG:List (κ×V))(k:κ)(v:V):List (κ×V) :=
 if (aG.any fun kv=>decide (kv.1=k))=true then aG.map (fun kv=>if kv.1=k then(kv.1,v) else kv) else aG++[(k,v)]
def QW(aG:List (κ×V))(k:κ):List (κ×V):=aG.filter fun kv=>decide (kv.1≠k)
theorem DY{p:κ×V}{r:List (κ×V)}{k:κ}(e:p.1=k):Ei (p::r) k=some p.2:=by simp[Ei,AUj,e]
theorem DW{p:κ×V}{r:List (κ×V)}{k:κ}(e:¬p.1=k):Ei (p::r) k=Ei r k:=by simp[Ei,AUj,e]
theorem Mj(k:κ):∀aG:List (κ×V),(aG.any fun kv=>decide (kv.1=k))=(Ei aG k).isSome
 | []=>rfl
 | p::r=>by
  rw[AUp];by_cases e:p.1=k
  .simp only[DY e,decide_eq_true e,Bool.true_or,Option.isSome_some]
  .rw[DW e,decide_eq_false e,Bool.false_or];exact Mj k r
theorem Wc(k j:κ)(y:V):∀aG:List (κ×V),Ei (aG.map fun kv=>if kv.1=k then(kv.1,y) else kv) j=(Ei aG j).map fun x=>if j=k then y else x
 | []=>rfl
 | p::r=>by
  have ih:=Wc k j y r;rw[List.map_cons];by_cases h:p.1=k
  .rw[if_pos h];by_cases e:p.1=j
   .rw[DY (p:=(p.1,y)) e,DY e,AU7,if_pos (e.symm.trans h)]
   .rw[DW (p:=(p.1,y)) e,DW e,ih]
  .rw[if_neg h];by_cases e:p.1=j
   .rw[DY (p:=p) e,DY e,AU7,if_neg (fun z=>h (e.trans z))]
   .rw[DW (p:=p) e,DW e,ih]
theorem R0(k j:κ)(y:V):∀aG:List (κ×V),Ei aG k=none->Ei (aG++[(k,y)]) j=if j=k then some y else Ei aG j
 | [],_=>by
  by_cases e:k=j
  .rw[if_pos e.symm];exact DY (p:=(k,y)) e
  .rw[if_neg (fun z=>e z.symm)];exact DW (p:=(k,y)) e
 | p::r,hn=>by
  rw[AV7];have hk:¬p.1=k:=fun z=>by rw[DY z]at hn;cases hn
  rw[DW hk]at hn;have ih:=R0 k j y r hn;by_cases e:p.1=j
  .rw[DY e,DY e,if_neg (fun z=>hk (e.trans z))]
  .rw[DW e,DW e,ih]
theorem ACr(aG:List (κ×V))(k j:κ)(y:V):Ei (JW aG k y) j=if j=k then some y else Ei aG j:=by
 unfold JW;by_cases a:(aG.any fun kv=>decide (kv.1=k))=true
 .rw[if_pos a,Wc];rw[Mj]at a;by_cases e:j=k
  .obtain⟨x,hx⟩:=AVs.mp a;rw[if_pos e,e,hx,AU7,if_pos rfl]
  .rw[if_neg e];cases Ei aG j with
   | none=>rfl
   | some x=>rw[AU7,if_neg e]
 .rw[if_neg a];refine R0 k j y aG ?_;rw[Mj]at a;cases q:Ei aG k with
  | none=>rfl
  | some x=>rw[q]at a;exact(a rfl).elim
theorem N7(aG:List (κ×V))(k:κ)(v:V):(JW aG k v).length<=aG.length+1:=by
 unfold JW
 split
 .rw[ASt];omega
 .rw[ASz,ASx,AUH];omega
theorem JB.isSome_eq{o:Option V}{u:Option Value}(r:JB o u):o.isSome=u.isSome:=by
 cases o with
 | none=>cases u with
  | none=>rfl
  | some _=>exact(show False from r).elim
 | some _=>cases u with
  | none=>exact(show False from r).elim
  | some _=>rfl
theorem KV.val{aG:List (κ×V)}{vs:List (κ×Value)}(r:KV aG vs)(k:κ):JB (Ei aG k) (valueAt vs k):=by
 unfold KV at r
 induction r with
 | nil=>exact True.intro
 | @cons p q ps qs h t ih =>
  obtain⟨h1,h2⟩:=h;by_cases e:p.1=k
  .have e':q.1=k:=h1.symm.trans e;have b:valueAt (q::qs) k=some q.2:=by simp[valueAt,AUj,e']
   rw[DY e,b];exact h2
  .have e':¬q.1=k:=fun z=>e (h1.trans z);have b:valueAt (q::qs) k=valueAt qs k:=by simp[valueAt,AUj,e']
   rw[DW e,b];exact ih
theorem KV.any{aG:List (κ×V)}{vs:List (κ×Value)}(r:KV aG vs)(k:κ):(aG.any fun kv=>decide (kv.1=k))=vs.any fun kv=>decide (kv.1=k):=by
 unfold KV at r
 induction r with
 | nil=>rfl
 | cons h t ih=>rw[AUp,AUp,ih,h.1]
theorem KV.repl{aG:List (κ×V)}{vs:List (κ×Value)}(r:KV aG vs)(k:κ){y:V}{u:Value}(ry:Bc y u) :
  KV (aG.map fun kv=>if kv.1=k then(kv.1,y) else kv) (vs.map fun kv=>if kv.1=k then(kv.1,u) else kv):=by
 unfold KV at r ⊢
 induction r with
 | nil=>exact .nil
 | @cons p q ps qs h t ih =>
  rw[List.map_cons,List.map_cons];refine .cons ?_ ih;obtain⟨h1,h2⟩:=h;by_cases e:p.1=k
  .rw[if_pos e,if_pos (h1.symm.trans e)];exact⟨h1,ry⟩
  .rw[if_neg e,if_neg (fun z=>e (h1.trans z))];exact⟨h1,h2⟩
theorem KV.put{aG:List (κ×V)}{vs:List (κ×Value)}(r:KV aG vs)(k:κ){y:V}{u:Value}(ry:Bc y u):KV (JW aG k y) (stored vs k u):=by
 unfold JW stored;rw[r.any k];by_cases e:(vs.any fun kv=>decide (kv.1=k))=true
 .rw[if_pos e,if_pos e];exact r.repl k ry
 .rw[if_neg e,if_neg e];exact Paired.snoc r ⟨rfl,ry⟩
theorem KV.drop{aG:List (κ×V)}{vs:List (κ×Value)}(r:KV aG vs)(k:κ):KV (QW aG k) (without vs k):=by
 unfold KV at r ⊢;unfold QW without
 induction r with
 | nil=>exact .nil
 | @cons p q ps qs h t ih =>
  obtain⟨h1,h2⟩:=h;rw[List.filter_cons,List.filter_cons];by_cases e:p.1=k
  .have a:¬decide (p.1≠k)=true:=by simp[e]
   have b:¬decide (q.1≠k)=true:=by simp[h1.symm.trans e]
   rw[if_neg a,if_neg b];exact ih
  .have e':¬q.1=k:=fun z=>e (h1.trans z);have a:decide (p.1≠k)=true:=by simp[e]
   have b:decide (q.1≠k)=true:=by simp[e']
   rw[if_pos a,if_pos b];exact .cons ⟨h1,h2⟩ ih
theorem KV.length{aG:List (κ×V)}{vs:List (κ×Value)}(r:KV aG vs):aG.length=vs.length:=AT8 r
theorem AB1(aG:List (κ×V))(k:κ):(QW aG k).length<=aG.length:=AUk _ _
end
theorem Qx{P:Program}{w:World}{k:Key}{u:Value}(r:Bc (kV k) u):(CG P w).is k u=true:=by
 cases k with
 | inl i=>obtain⟨t,e⟩:=(show ∃t,u=Value.int i t from r);subst e;exact V4 P w i t
 | inr x=>obtain⟨t,e⟩:=(show ∃t,u=Value.str x t from r);subst e;exact JD P w x t
theorem R8{P:Program}{w:World}:∀{ks:List Key} {us:List Value},BW (ks.map kV) us->ItemsAre (CG P w) ks us
 | [],_,r=>by rw[List.map_nil]at r;cases r;exact .nil
 | k::ks,_,r=>by
  rw[List.map_cons]at r;cases r with
  | cons h t=>exact .cons (Qx h) (R8 t)
abbrev KT(H:Hp):List (List Key×V)->List (List Key×Addr×Value)->Prop:=Paired fun p q=>p.1=q.1/\H q.2.1=some (.tup (p.1.map kV))/\Bc p.2 q.2.2
theorem KT.val{H:Hp}{aG:List (List Key×V)}{xs:List (List Key×Addr×Value)}(r:KT H aG xs)(k:List Key):JB (Ei aG k) ((atKey xs k).map (·.2)):=by
 induction r with
 | nil=>exact True.intro
 | @cons p q ps qs h t ih =>
  obtain⟨h1,_,h2⟩:=h;by_cases e:p.1=k
  .have e':q.1=k:=h1.symm.trans e;have b:atKey (q::qs) k=some q.2:=by simp[atKey,AUj,e']
   rw[DY e,b];exact h2
  .have e':¬q.1=k:=fun z=>e (h1.trans z);have b:atKey (q::qs) k=atKey qs k:=by simp[atKey,AUj,e']
   rw[DW e,b];exact ih
theorem KT.repl{H:Hp}{aG:List (List Key×V)}{xs:List (List Key×Addr×Value)}(r:KT H aG xs)(k:List Key){y:V}{u:Value}(ry:Bc y u) :
  KT H (aG.map fun kv=>if kv.1=k then(kv.1,y) else kv) (xs.map (putAt k u)):=by
 induction r with
 | nil=>exact .nil
 | @cons p q ps qs h t ih =>
  rw[List.map_cons,List.map_cons];refine .cons ?_ ih;obtain⟨h1,h2,h3⟩:=h;unfold putAt;by_cases e:p.1=k
  .rw[if_pos e,if_pos (h1.symm.trans e)];exact⟨h1,h2,ry⟩
  .rw[if_neg e,if_neg (fun z=>e (h1.trans z))];exact⟨h1,h2,h3⟩
theorem KT.put{H:Hp}{aG:List (List Key×V)}{xs:List (List Key×Addr×Value)}(r:KT H aG xs)(k:List Key){b:Addr}{y:V}{u:Value}(hb:H b=some (.tup (k.map kV)))(ry:Bc y u) :
  KT H (JW aG k y) (storedH xs k b u):=by
 have e:(aG.any fun kv=>decide (kv.1=k))=(atKey xs k).isSome:=by
  rw[Mj,(r.val k).isSome_eq,AWo]
 unfold JW storedH;rw[e];by_cases q:(atKey xs k).isSome=true
 .rw[if_pos q,if_pos q];exact r.repl k ry
 .rw[if_neg q,if_neg q];exact Paired.snoc r ⟨rfl,hb,ry⟩
theorem KT.keeps{H H':Hp}{aG:List (List Key×V)}{xs:List (List Key×Addr×Value)}(r:KT H aG xs)(ht:∀b ys,H b=some (.tup ys)->H' b=some (.tup ys)):KT H' aG xs :=
 Paired.mapP r fun _ _ z=>⟨z.1,ht _ _ z.2.1,z.2.2⟩
section
variable {P:Program}{w:World}{H:Hp}{h:Heap}{a:Addr}
theorem AFT{u:HO}(ok:HOk P w H h)(e:Rd H a u):Ci P w H h a u:=e.ok ok
theorem V5{aG:List (Key×V)}(ok:HOk P w H h)(e:Rd H a (.dK aG)):aG.length<=sizeLine/\(a==sysModules)=false/\∃vs,KV aG vs/\h.DictOf (CG P w) a vs :=
 show Ci P w H h a (.dK aG) from AFT ok e
theorem AFW{aG:List (Key×V)}(ok:HOk P w H h)(e:H a=some (.dK aG)):aG.length<=sizeLine/\(a==sysModules)=false/\∃vs,KV aG vs/\h.DictOf (CG P w) a vs:=V5 ok (.inl e)
theorem Uq{ks:List Key}(ok:HOk P w H h)(e:H a=some (.tup (ks.map kV))):(tupleKind (CG P w)).is h ks a:=by
 obtain⟨_,its,r,o,h1,h2,n,h3⟩:=(show Ci P w H h a (.tup (ks.map kV)) from ok a _ e);exact⟨o,its.toArray,n,h1,h2,h3,by simpa using R8 r⟩
theorem W6{aG:List (List Key×V)}(ok:HOk P w H h)(e:Rd H a (.dT aG)):aG.length<=sizeLine/\(a==sysModules)=false /\
  ∃xs,KT H aG xs/\h.DictOfH (tupleKind (CG P w)) a xs:=by
 obtain⟨z,y,xs,r,o,es,ep,h1,h2,h3,h4,h5⟩:=(show Ci P w H h a (.dT aG) from AFT ok e);refine⟨z,y,xs,r,o,es,ep,h1,h2,h3,h4,fun x hx=>?_,h5⟩;have all:∀{l:List (List Key×V)} {m:List (List Key×Addr×Value)},KT H l m->∀x∈m,(tupleKind (CG P w)).is h x.1 x.2.1:=by
  intro l m q
  induction q with
  | nil=>intro x hx;exact nomatch hx
  | @cons p q ps qs hq t ih =>
   intro x hx;rcases AS2.mp hx with e|hx
   .subst e;exact Uq ok (by rw[<-hq.1];exact hq.2.1)
   .exact ih x hx
 exact all r x hx
theorem ANF{aG:List (List Key×V)}(ok:HOk P w H h)(e:H a=some (.dT aG)):aG.length<=sizeLine/\(a==sysModules)=false /\
  ∃xs,KT H aG xs/\h.DictOfH (tupleKind (CG P w)) a xs:=W6 ok (.inl e)
end
def Mu(H:Hp)(a:Addr)(y:V)(r:Option V):Prop :=
 (∃aG k,Rd H a (.dK aG)/\y=kV k/\r=Ei aG k)\/∃aG k b,Rd H a (.dT aG)/\y=.ref b/\H b=some (.tup (k.map kV))/\r=Ei aG k
def AAX(H:Hp)(a:Addr)(y v:V)(H':Hp):Prop :=
 (∃aG k,H a=some (.dK aG)/\y=kV k/\aG.length<sizeLine/\H'=upd H a (.dK (JW aG k v))) \/
 ∃aG k b,H a=some (.dT aG)/\y=.ref b/\H b=some (.tup (k.map kV))/\aG.length<sizeLine/\H'=upd H a (.dT (JW aG k v))
theorem Mu.k{H:Hp}{a:Addr}{aG:List (Key×V)}{k:Key}(e:H a=some (.dK aG)):Mu H a (kV k) (Ei aG k):=.inl ⟨aG,k,.inl e,rfl,rfl⟩
theorem AAX.k{H:Hp}{a:Addr}{aG:List (Key×V)}{k:Key}{v:V}(e:H a=some (.dK aG))(hl:aG.length<sizeLine):AAX H a (kV k) v (upd H a (.dK (JW aG k v))):=.inl ⟨aG,k,e,rfl,hl,rfl⟩
section
variable {X:Cx}{aA:List (Addr×Obj)}{σ:St}{H:Hp}{s:Shared}{a:Addr}{y v:V}{u r:Value}{o:Option V}{A:Around}{E:Value->Shared->Prop}
theorem Inv.big(I:Inv X aA σ H s):sysModules<s.heap.objs.size:=by
 have h:mainGlobals<s.heap.objs.size:=(I.mod.glob.keeps I.bk).lt;exact Nat.lt_trans (by decide) h
theorem Z6{Q:Value->Shared->Prop}(hu:A.units+1<cLine)(I:Inv X aA σ H s)(g:Mu H a y (some v))(ry:Bc y u)(h:∀w' s',Inv X aA σ H s'->Bc v w'->Q w' s') :
  wpAny (model X.prog X.w) A (getItem (.ref a) u) Q E s:=by
 rcases g with⟨aG,k,e,ey,l⟩|⟨aG,k,b,e,ey,eb,l⟩
 .subst ey;obtain⟨z,hd,vs,rel,dd⟩:=V5 I.hok e;obtain⟨w',hw,cP⟩:=JB.some_of (v:=v) (o:=valueAt vs k) (by rw[l];exact rel.val k);exact wpAny_getItem_of (Qx ry) dd.mapOf hw (h w' _ (I.tok _) cP)
 .walk_at "aQ";obtain⟨w',hw,cP⟩:=JB.some_of (v:=v) (o:=(atKey xs k).map (·.2)) (by rw[l];exact rel.val k);obtain⟨p,hp,hp2⟩:=AUI.mp hw;refine wpAny_getItem_heap (tupleKind_room_in1 hu) (Uq I.hok eb) dd hp ?_;rw[hp2];exact h w' _ (I.tok _) cP
theorem AEn{Q:Value->Shared->Prop}(hu:A.units+1<cLine)(I:Inv X aA σ H s)(g:Mu H a y o)(ry:Bc y u)(h:∀s',Inv X aA σ H s'->Q (.bool (!o.isSome)) s') :
  wpAny (model X.prog X.w) A (compareOp .NotIn u (.ref a)) Q E s:=by
 rcases g with⟨aG,k,e,ey,l⟩|⟨aG,k,b,e,ey,eb,l⟩
 .subst ey;obtain⟨z,hd,vs,rel,dd⟩:=V5 I.hok e;refine wpAny_notIn_of (Qx ry) hd dd.mapOf ?_;rw[<-(rel.val k).isSome_eq,<-l];exact h _ (I.tok _)
 .walk_at "aQ";refine wpAny_notIn_heap (tupleKind_room_in1 hu) (Uq I.hok eb) hd dd ?_;have q:=(rel.val k).isSome_eq;rw[AWo]at q;rw[<-q,<-l];exact h _ (I.tok _)
theorem VG{h':Heap}{t':Nat}{ob:HO}(I:Inv X aA σ H s)(mu:Mut (H a))(hs:Heap.SameBut a s.heap h')(he:∃q,h'.get? a=some q)(new:Ci X.prog X.w (upd H a ob) h' a ob) :
  Inv X aA σ (upd H a ob) { s with heap:=h',toks:=t' } :=
 I.write (x:=a) (e:=a) mu (.inl rfl) (fun b q hb z=>(hs.2 b hb).trans z) he new
theorem ACw{P:Program}{w:World}{H':Hp}{h':Heap}{aG:List (Key×V)}{vs:List (Key×Value)}(z:aG.length<=sizeLine)(hd:(a==sysModules)=false)(rel:KV aG vs)(dd:h'.DictOf (CG P w) a vs) :
  Ci P w H' h' a (.dK aG):=⟨z,hd,vs,rel,dd⟩
theorem AAh{H':Hp}{Q:Unit->Shared->Prop}(hu:A.units+1<cLine)(I:Inv X aA σ H s)(g:AAX H a y v H')(ry:Bc y u)(rv:Bc v r)(h:∀s',Inv X aA σ H' s'->Q () s') :
  wpAny (model X.prog X.w) A (setItem (.ref a) u r) Q E s:=by
 rcases g with⟨aG,k,e,ey,l,eH⟩|⟨aG,k,b,e,ey,eb,l,eH⟩
 .subst ey eH;obtain⟨z,hd,vs,rel,dd⟩:=AFW I.hok e;have hz:vs.length<=sizeLine:=by rw[<-rel.length];exact z
  have hl:(JW aG k v).length<=sizeLine:=by have:=N7 aG k v;omega
  refine wpAny_setItem_pairs (hsz:=hz) (Qx ry) dd fun h' gS hs=>h _ ?_;have he:∃q,h'.get? a=some q:=let ⟨q,_,_,hq,_⟩:=gS;⟨q,hq⟩;exact VG I (by rw[e];exact True.intro) hs he (ACw hl hd (rel.put k rv) gS)
 .subst ey eH;cases (show u=Value.ref b from ry);obtain⟨z,hd,xs,rel,dd⟩:=ANF I.hok e;have hz:xs.length<=sizeLine:=by rw[<-AT8 rel];exact z
  have hl:(JW aG k v).length<=sizeLine:=by have:=N7 aG k v;omega
  refine wpAny_setItem_heap (hsz:=hz) (tupleKind_room_in1 hu) (Uq I.hok eb) dd fun h' gS hs=>h _ ?_;obtain⟨q,es,ep,hq,h2,h3,h4,_,h5⟩:=gS;refine VG I (by rw[e];exact True.intro) hs ⟨q,hq⟩ ⟨hl,hd,_,(rel.put k eb rv).keeps fun c ys ec=>?_,q,es,ep,hq,h2,h3,h4,h5⟩;rw[Az (G3 ec e (fun z=>nomatch z))];exact ec
end
section
variable {X:Cx}{aA:List (Addr×Obj)}{σ:St}{H:Hp}{s:Shared}{a:Addr}{aG:List (Key×V)}{k:Key}{u:Value}{A:Around}{E:Value->Shared->Prop}
theorem APE{v:V}{more:List Value}{Q:Value->Shared->Prop}(I:Inv X aA σ H s)(e:H a=some (.dK aG))(ry:Bc (kV k) u)(l:Ei aG k=some v)(hm:more=[]\/∃x,more=[x])
  (h:∀w' s',Inv X aA σ (upd H a (.dK (QW aG k))) s'->Bc v w'->Q w' s'):wpAny (model X.prog X.w) A (call (.builtin "dict.pop") (.ref a::u::more)) Q E s:=by
 obtain⟨z,hd,vs,rel,dd⟩:=AFW I.hok e;obtain⟨w',hw,cP⟩:=JB.some_of (v:=v) (o:=valueAt vs k) (by rw[<-l];exact rel.val k);have hp:(keyPart u).isSome=true:=by
  cases k with
  | inl i=>obtain⟨t,q⟩:=(show ∃t,u=Value.int i t from ry);subst q;rfl
  | inr x=>obtain⟨t,q⟩:=(show ∃t,u=Value.str x t from ry);subst q;rfl
 have ha:argsOk "dict.pop" ⟨.ref a::u::more,[]⟩:=by
  rcases hm with q|⟨x,q⟩
  .subst q;exact PySem.F.args_dict_pop_2 _ _
  .subst q;exact PySem.F.args_dict_pop_3 _ _ _
 refine call_meetsIn AWK dd.typeIs PySem.F.entry_dict_pop ha (meets_dict_pop_there (CG X.prog X.w) a (Qx ry) more hm hp)
  ⟨vs,w',dd,by rw[<-rel.length];exact z,hw,fun h' gS hs=>h w' _ ?_ cP⟩
 have he:∃q,h'.get? a=some q:=let ⟨q,_,_,hq,_⟩:=gS;⟨q,hq⟩;exact VG I (by rw[e];exact True.intro) hs he (ACw (ATG (AB1 aG k) z) hd (rel.drop k) gS)
end
def AGR(i:Expr):Prop:=∀ov iv,subscripted i false ov iv=operate [ov,iv] (getItem ov iv)
theorem Y9{prog:Program}{w:World}{A:Around}{E:Value->Shared->Prop}{s:Shared}{env:Env}{value slice:Expr}{pos:Pos}{T id:String}{Q:Value->Shared->Prop}
  (hl:typeLookup (.type T) "__getitem__"=pure (some (.builtin id))) (hs:AGR slice)
  (h:wpAny (model prog w) A (eval value env) (fun o zf=>wpAny (model prog w) A (eval slice env) (fun i zl=>zl.TypeIs o T/\wpAny (model prog w) A (getItem o i) Q E zl) E zf) E s) :
  wpAny (model prog w) A (eval (.Subscript value slice pos) env) Q E s:=by
 refine Subscript_ (ATt h (fun o zf zt=>ATt zt (fun i zl zw=>?_) fun _ _ x=>x) fun _ _ x=>x);obtain⟨hT,zw⟩:=zw;unfold subscriptTail;refine ASv ?_;rw[getitemInPython_of_ne hT.not_modules];refine ASv (AVX hT hl ?_);have fin:wpAny (model prog w) A (subscripted slice false o i) (fun r zq=>wpAny (model prog w) A (letTemporaryGo value o r >>= fun _=>pure r) Q E zq) E zl:=by
  rw[hs o i];exact wpAny_operating (ATt zw (fun r zq zy=>ASv (wpAny_letTemporaryGo (ATC zy))) fun _ _ x=>x)
 first
  | exact ATC (ASv fin)
  | exact ASv (ATC (ASv fin))
  | exact ASv fin
theorem Vs{X:Cx}{aA:List (Addr×Obj)}{σ:St}{H:Hp}{s:Shared}{a:Addr}{y:V}{o:Option V}(I:Inv X aA σ H s)(g:Mu H a y o):s.TypeIs (.ref a) "dict":=by
 rcases g with⟨aG,k,e,_,_⟩|⟨aG,k,b,e,_,_,_⟩
 .obtain⟨_,_,vs,_,dd⟩:=V5 I.hok e;exact dd.typeIs
 .obtain⟨_,_,xs,_,dd⟩:=W6 I.hok e;exact dd.typeIs
def APg(td ty:TE):TE:=fun σ H Q=>td σ H fun x H1=>ty σ H1 fun y H2=>∃a v,x=.ref a/\Mu H2 a y (some v)/\Q v H2
def ASS(ty td:TE):TE:=fun σ H Q=>ty σ H fun y H1=>td σ H1 fun x H2=>∃a o,x=.ref a/\Mu H2 a y o/\Q (.bl o.isSome) H2
def AEU(ty td:TE):TE:=fun σ H Q=>ty σ H fun y H1=>td σ H1 fun x H2=>∃a o,x=.ref a/\Mu H2 a y o/\Q (.bl (!o.isSome)) H2
def AMQ(td ty tv:TE):TS:=fun D σ H=>tv σ H fun v H1=>td σ H1 fun x H2=>ty σ H2 fun y H3=>∃a H4,x=.ref a/\AAX H3 a y v H4/\D.nx σ H4
def ARv(td ty tv:TE)(rd:V->V->Hp->VK->Prop):TS:=fun D σ H=>td σ H fun x H1=>ty σ H1 fun y H2=>∃a v,x=.ref a/\Mu H2 a y (some v) /\
 tv σ H2 fun y2 H3=>rd v y2 H3 fun z H4=>∃H5,AAX H4 a y z H5/\D.nx σ H5
def ASD(td ty:TE):TS:=fun D σ H=>td σ H fun x H1=>ty σ H1 fun y H2=>∃a aG k,x=.ref a/\H2 a=some (.dK aG)/\y=kV k/\(Ei aG k).isSome=true/\D.nx σ (upd H2 a (.dK (QW aG k)))
section
variable {X:Cx}{o i e value:Expr}{pos pos' tpos:Pos}{td ty tv:TE}
theorem AEl(hu:X.A.units+1<cLine)(ho:PE X o td)(hi:PE X i ty)(hs:AGR i):PE X (.Subscript o i pos) (APg td ty):=by
 walk_at "k";refine Y9 AVo.lookup hs (thn (ho aA s σ H _ I h) fun u s1 ⟨x,H1,I1,rx,q1⟩=>thn (hi aA s1 σ H1 _ I1 q1) fun iv s2 ⟨y,H2,I2,ry,a,v,ex,g,q2⟩=>?_);walk_at "M";exact⟨Vs I2 g,Z6 hu I2 g ry fun w' s3 I3 cP=>⟨v,H2,I3,cP,q2⟩⟩
theorem Zj(hu:X.A.units+1<cLine)(hi:PE X i ty)(ho:PE X o td):PC X .NotIn i o (AEU ty td):=by
 walk_at "k";refine thn (hi aA s σ H _ I h) fun iv s1 ⟨y,H1,I1,ry,q1⟩=>thn (ho aA s1 σ H1 _ I1 q1) fun u s2 ⟨x,H2,I2,rx,a,ov,ex,g,q2⟩=>?_;walk_at "M";exact AEn hu I2 g ry fun s3 I3=>⟨.bl (!ov.isSome),H2,I3,rfl,q2⟩
theorem AEi(hu:X.A.units+1<cLine)(ho:PE X o td)(hi:PE X i ty)(hv:PE X value tv)(hs:swapsWith value (some (.Subscript o i pos')) pos.line X.env=pure false) :
  PS X (.Assign [.Subscript o i pos'] value pos) (AMQ td ty tv):=by
 walk_at "2";refine wpAny_Assign_Subscript (thn (hv aA s σ H _ I h) fun r s1 ⟨v,H1,I1,rv,q1⟩=>thn (ho aA s1 σ H1 _ I1 q1) fun u s2 ⟨x,H2,I2,rx,q2⟩=>thn (hi aA s2 σ H2 _ I2 q2) fun iv s3 ⟨y,H3,I3,ry,a,H4,ex,g,q3⟩=>?_) hs;walk_at "M";exact AAh hu I3 g ry rv fun s4 I4=>⟨σ,H4,I4,q3⟩
end
theorem ABN{P:Program}{w:World}{H:Hp}(h:Heap)(hb:sysModules<h.objs.size):Ci P w H (h.push { cls:=.type "dict",data:=.dict #[] }) h.objs.size (.dK []) :=
 ⟨ATW _,beq_eq_false_iff_ne.mpr (AVT (ATR hb)),[],.nil,Heap.DictOf.new h⟩
def AHO:TE:=fun _ H Q=>∀p,H p=none->Q (.ref p) (upd H p (.dK []))
def AQm:TE:=fun _ H Q=>∀p,H p=none->Q (.ref p) (upd H p (.dT []))
section
variable {X:Cx}{pos:Pos}
theorem ACL:PE X (.Dict [] [] pos) AHO:=fun aA s σ H Q I h =>
 wpAny_Dict_empty ⟨.ref s.heap.objs.size,_,I.laid (a:=s.heap.objs.size) (o:=.dK []) (t':=s.toks) (fun _ _ q=>ASw _ q) (Nat.le_refl _) (ABN s.heap I.big),rfl,h _ (I.hok.fresh (Nat.le_refl _))⟩
end
def XS:List (TE×TE)->St->Hp->(List (V×V)->Hp->Prop)->Prop
 | [],_,H,Q=>Q [] H
 | (tk,tv)::r,σ,H,Q=>tk σ H fun x H1=>tv σ H1 fun y H2=>XS r σ H2 fun ps H3=>Q ((x,y)::ps) H3
abbrev VV:List (V×V)->List (Value×Value)->Prop:=Paired fun p q=>Bc p.1 q.1/\Bc p.2 q.2
def PPs(X:Cx)(pos:Pos)(keys:List (Option Expr))(values:List Expr)(iZ:List (TE×TE)):Prop :=
 ∀(aA:List (Addr×Obj)) (s:Shared) (σ:St) (H:Hp) (Q:List (V×V)->Hp->Prop),Inv X aA σ H s->XS iZ σ H Q ->
  wpAny (model X.prog X.w) X.A (evalPairs (pairTrees keys values X.env pos)) (fun vs s'=>∃ps H',Inv X aA σ H' s'/\VV ps vs/\Q ps H') X.xe s
def AJL(aG more:List (Key×V)):List (Key×V):=more.foldl (fun acc kv=>JW acc kv.1 kv.2) aG
def ARy(iZ:List (TE×TE)):TE:=fun σ H Q=>∀p,H p=none->XS iZ σ (upd H p (.dK [])) fun ps H2=>H2 p=some (.dK [])/\∃aG:List (Key×V),ps=aG.map (fun kv=>(kV kv.1,kv.2))/\aG.length<=15/\Q (.ref p) (upd H2 p (.dK (AJL [] aG)))
structure M1(X:Cx)(o:Expr)(m:Str)(aF:Pos)(e:Expr)(aD:Pos):Prop where
 base:attributeBase o m X.env (eval o X.env)=eval o X.env
 few:((backTo aD (starEach [e] X.env)).all (fun x=>!x.1)&&(backToKw aD (keywordEach [] X.env)).all (fun x=>x.1.isSome)
   &&decide (([e]:List Expr).length+([]:List Keyword).length+(if ([]:List Keyword).isEmpty then 0 else 1)<30))=true
 line:(aF.endLine==aD.line)=true
 trees:backTo aD (starEach [e] X.env)=[(false,eval e X.env)]
structure M2(X:Cx)(o:Expr)(m:Str)(aF:Pos)(e f:Expr)(aD:Pos):Prop where
 base:attributeBase o m X.env (eval o X.env)=eval o X.env
 few:((backTo aD (starEach [e,f] X.env)).all (fun x=>!x.1)&&(backToKw aD (keywordEach [] X.env)).all (fun x=>x.1.isSome)
   &&decide (([e,f]:List Expr).length+([]:List Keyword).length+(if ([]:List Keyword).isEmpty then 0 else 1)<30))=true
 line:(aF.endLine==aD.line)=true
 trees:backTo aD (starEach [e,f] X.env)=[(false,eval e X.env),(false,eval f X.env)]
def IsD(H:Hp)(a:Addr):Prop:=(∃aG,Rd H a (.dK aG))\/∃aG,Rd H a (.dT aG)
theorem AFs{X:Cx}{aA:List (Addr×Obj)}{σ:St}{H:Hp}{s:Shared}{a:Addr}(I:Inv X aA σ H s)(d:IsD H a) :
  s.TypeIs (.ref a) "dict"/\(∀b,Value.ref a=.ref b->∃ob,s.heap.get? b=some ob/\ob.dict=none)/\(a==sysModules)=false:=by
 rcases d with⟨aG,e⟩|⟨aG,e⟩
 .obtain⟨_,hd,vs,_,dd⟩:=V5 I.hok e;(refine⟨dd.typeIs,fun b q=>?_,hd⟩;cases q;obtain⟨ob,_,_,h1,h2,_⟩:=dd);exact⟨ob,h1,h2.2.1⟩
 .obtain⟨_,hd,xs,_,dd⟩:=W6 I.hok e;(refine⟨dd.typeIs,fun b q=>?_,hd⟩;cases q;obtain⟨ob,_,_,h1,h2,_⟩:=dd);exact⟨ob,h1,h2.2.1⟩
section
variable {X:Cx}{aA:List (Addr×Obj)}{σ:St}{H:Hp}{s:Shared}{a:Addr}{y d:V}{u r:Value}{o:Option V}{A:Around}{E:Value->Shared->Prop}
end
def AQx(td ty:TE):TE:=fun σ H Q=>td σ H fun x H1=>∃a,x=.ref a/\IsD H1 a/\ty σ H1 fun y H2=>∃o,Mu H2 a y o/\Q (o.getD .non) H2
def AQ0(td ty tx:TE):TE:=fun σ H Q=>td σ H fun x H1=>∃a,x=.ref a/\IsD H1 a/\ty σ H1 fun y H2=>tx σ H2 fun z H3=>∃o,Mu H3 a y o/\Q (o.getD z) H3
def AK0(td ty:TE):TE:=fun σ H Q=>td σ H fun x H1=>∃a,x=.ref a/\IsD H1 a/\ty σ H1 fun y H2=>∃aG k v,H2 a=some (.dK aG)/\y=kV k/\Ei aG k=some v/\Q v (upd H2 a (.dK (QW aG k)))
def AQt(td ty tx:TE):TE:=fun σ H Q=>td σ H fun x H1=>∃a,x=.ref a/\IsD H1 a/\ty σ H1 fun y H2=>tx σ H2 fun z H3=>∃aG k,H3 a=some (.dK aG)/\y=kV k /\
 (∀v,Ei aG k=some v->Q v (upd H3 a (.dK (QW aG k))))/\(Ei aG k=none->Q z H3)
section
variable {X:Cx}{o e f:Expr}{aF aD:Pos}{td ty tx:TE}
theorem ACU(ho:PE X o td)(he:PE X e ty)(m:M1 X o "pop" aF e aD):PE X (.Call (.Attribute o "pop" aF) [e] [] aD) (AK0 td ty):=by
 walk_at "k";refine wpAny_Call_method m.base m.few m.line PySem.F.plainAttrs_dict AWK PySem.F.type_dict_pop (thn (ho aA s σ H _ I h) fun u s1 ⟨x,H1,I1,rx,a,ex,d,q1⟩=>?_);walk_at "M";obtain⟨t1,t2,_⟩:=AFs I1 d;refine⟨t1,t2,?_⟩;rw[m.trees];refine AVA rfl (Calls.evalArgs_plain (Calls.spliced_cons (thn (he aA s1 σ H1 _ I1 q1) fun iv s2 ⟨y,H2,I2,ry,aG,k,v,ea,ey,l,q2⟩=>Calls.spliced_nil ?_)));subst ey;exact APE I2 ea ry l (.inl rfl) fun w' s3 I3 cP=>⟨v,_,I3,cP,q2⟩
end
section
variable {X:Cx}{aA:List (Addr×Obj)}{σ:St}{H:Hp}{s:Shared}{a:Addr}{aG:List (Key×V)}{A:Around}{E:Value->Shared->Prop}
end
section
variable {X:Cx}{aA:List (Addr×Obj)}{σ:St}{H:Hp}{s:Shared}{a:Addr}{y:V}{u:Value}{A:Around}{E:Value->Shared->Prop}
end
end L2
namespace Ra
def Bt(n:Nat)(x:Int):Prop:=x.natAbs<2^n
theorem Bt.mono{m n:Nat}{x:Int}(h:Bt m x)(l:m<=n):Bt n x:=ATB h (AUu (by decide) l)
theorem Bt.neg{n:Nat}{x:Int}(h:Bt n x):Bt n (-x):=by unfold Bt at *;rw[Int.natAbs_neg];exact h
theorem Bt.mul{m n:Nat}{x y:Int}(h:Bt m x)(k:Bt n y):Bt (m+n) (x*y):=by
 unfold Bt at *;rw[AUx,Nat.pow_add];exact Nat.mul_lt_mul'' h k
theorem Bt.of_le{n:Nat}{x y:Int}(h:Bt n x)(k:y.natAbs<=x.natAbs):Bt n y:=Nat.lt_of_le_of_lt k h
theorem Bt.ediv{n:Nat}{x y:Int}(h:Bt n x):Bt n (x/y):=h.of_le (Int.natAbs_ediv_le_natAbs x y)
theorem Bt.zero{n:Nat}:Bt n 0:=AWY (by decide)
theorem Bt.between{n:Nat}{x:Int}(h:-(2^n:Int)<x)(k:x<(2^n:Int)):Bt n x:=by
 unfold Bt;have e:((2^n:Nat):Int)=(2:Int)^n:=by push_cast;rfl
 omega
def g(a b:Int):Int:=(Int.gcd a b:Nat)
theorem Ho(a b:Int):0<=g a b:=AWe _
theorem Di(a b:Int):g a b ∣ a:=Int.gcd_dvd_left a b
theorem Bh(a b:Int):g a b ∣ b:=Int.gcd_dvd_right a b
theorem HD{a b:Int}(h:b≠0):0<g a b:=by
 have h1:0<Int.gcd a b:=AVP a h;unfold g;omega
theorem AIl{a b:Int}(h:g a b=0):a=0/\b=0:=by
 have:Int.gcd a b=0:=by unfold g at h;omega
 exact Int.gcd_eq_zero_iff.mp this
structure Fq(a b:Int):Prop where
 pos:0<b
 one:Int.gcd a b=1
theorem Lp{a b c:Int}(h:Int.gcd a b=1)(k:Int.gcd a c=1):Int.gcd a (b*c)=1:=by
 show Nat.gcd a.natAbs (b*c).natAbs=1;rw[AUx];exact Nat.Coprime.mul_right h k
theorem Qa{a b c:Int}(h:Int.gcd a c=1)(k:Int.gcd b c=1):Int.gcd (a*b) c=1:=by
 rw[AU3];exact Lp (by rw[AU3];exact h) (by rw[AU3];exact k)
theorem Lh{a b c:Int}(h:Int.gcd a b=1)(d:c ∣ a):Int.gcd c b=1:=by
 have hd:c.natAbs ∣ a.natAbs:=ATM.mpr d;exact Nat.Coprime.coprime_dvd_left hd h
theorem Mf{a b c:Int}(h:Int.gcd a b=1)(d:c ∣ b):Int.gcd a c=1:=by
 rw[AU3];exact Lh (by rw[AU3];exact h) d
theorem Hz{a b:Int}(h:b≠0):Int.gcd (a/g a b) (b/g a b)=1:=by
 have hp:0<Int.gcd a b:=AVP a h;exact Int.gcd_ediv_gcd_ediv_gcd hp
theorem Y0{a b k:Int}(h:Int.gcd a b=1):Int.gcd (a+k*b) b=1:=by
 rw[Int.gcd_add_mul_right_left];exact h
theorem TJ{a b:Int}:g a b*(a/g a b)=a:=AWR (Di a b)
theorem Ni{a b:Int}:g a b*(b/g a b)=b:=AWR (Bh a b)
theorem AK7{t b:Int}(hb:0<b):Fq (t/g t b) (b/g t b)/\(t/g t b)*b=t*(b/g t b):=by
 have hg:0<g t b:=HD (by omega);refine⟨⟨?_,Hz (by omega)⟩,?_⟩
 .exact ATo hb (Int.le_of_lt hg) (Bh t b)
 .have e1:=@TJ t b;have e2:=@Ni t b;generalize t/g t b=x at *;generalize b/g t b=y at *
  calc x*b=x*(g t b*y):=by rw[e2]
   _=(g t b*x)*y:=by rw[<-AT9,ATx x]
   _=t*y:=by rw[e1]
def Xo(a b c d:Int):Int:=a*(d/g b d)+c*(b/g b d)
def Vy(a b c d:Int):Int:=Xo a b c d/g (Xo a b c d) (g b d)
def WT(a b c d:Int):Int:=(b/g b d)*(d/g (Xo a b c d) (g b d))
theorem AJu{a b c d:Int}(h:Fq a b)(k:Fq c d):Fq (Vy a b c d) (WT a b c d)/\Vy a b c d*(b*d)=(a*d+c*b)*WT a b c d:=by
 have hs:0<g b d:=HD (by have:=k.pos;omega);obtain⟨s,hs'⟩:∃s,s=g b d:=⟨_,rfl⟩;obtain⟨x,hx⟩:∃x,x=b/g b d:=⟨_,rfl⟩;obtain⟨y,hy⟩:∃y,y=d/g b d:=⟨_,rfl⟩;obtain⟨t,ht⟩:∃t,t=a*y+c*x:=⟨_,rfl⟩;have et:Xo a b c d=t:=by rw[ht,hx,hy];rfl
 have eb:s*x=b:=by rw[hs',hx];exact TJ
 have ed:s*y=d:=by rw[hs',hy];exact Ni
 have nY:Int.gcd x y=1:=by rw[hx,hy];exact Hz (by have:=k.pos;omega)
 have hx0:0<x:=by rw[hx];exact ATo h.pos (Ho _ _) (Di _ _)
 have qj:0<y:=by rw[hy];exact ATo k.pos (Ho _ _) (Bh _ _)
 rw[<-hs']at hs;obtain⟨l,hl⟩:∃l,l=g t s:=⟨_,rfl⟩;have hl0:0<l:=by rw[hl];exact HD (by omega)
 obtain⟨T,hT⟩:∃T,T=t/g t s:=⟨_,rfl⟩;obtain⟨S,hS⟩:∃S,S=s/g t s:=⟨_,rfl⟩;have eT:l*T=t:=by rw[hl,hT];exact TJ
 have eS:l*S=s:=by rw[hl,hS];exact Ni
 have qk:Int.gcd T S=1:=by rw[hT,hS];exact Hz (by omega)
 have hS0:0<S:=by rw[hS];exact ATo hs (Ho _ _) (Bh _ _)
 have eN:Vy a b c d=T:=by unfold Vy;rw[et,<-hs',hT]
 have eD:WT a b c d=x*(S*y):=by
  unfold WT;have hdl:d/g t s=S*y:=by rw[<-hl,<-ed,<-eS,AT9,AUP _ (by omega)]
  rw[et,<-hx,<-hs',hdl]
 have ql:Int.gcd a x=1:=Mf h.one ⟨s,by rw[<-eb,ATx]⟩;have qm:Int.gcd c y=1:=Mf k.one ⟨s,by rw[<-ed,ATx]⟩;have ctx:Int.gcd t x=1:=by
  rw[ht];exact Y0 (Qa ql (by rw[AU3];exact nY))
 have cty:Int.gcd t y=1:=by
  rw[ht,Int.add_comm];exact Y0 (Qa qm nY)
 have dT:T ∣ t:=⟨l,by rw[<-eT,ATx]⟩;rw[eN,eD];refine⟨⟨ATg hx0 (ATg hS0 qj),Lp (Lh ctx dT) (Lp qk (Lh cty dT))⟩,?_⟩;have e1:a*d+c*b=s*t:=by
  rw[<-ed,<-eb,ht,Int.mul_add];simp[ATx,AVC,AT9]
 rw[e1,<-eT,<-ed,<-eb,<-eS];simp[ATx,AVC,AT9]
def Xj(a b c d:Int):Int:=(a/g a d)*(c/g c b)
def Xp(a b c d:Int):Int:=(b/g c b)*(d/g a d)
theorem AGX{a b c d:Int}(h:Fq a b)(k:Fq c d):Fq (Xj a b c d) (Xp a b c d)/\Xj a b c d*(b*d)=(a*c)*Xp a b c d:=by
 have hb:=h.pos;have hd:=k.pos;have p1:0<g a d:=HD (by omega);have p2:0<g c b:=HD (by omega);obtain⟨f,hf⟩:∃f,f=g a d:=⟨_,rfl⟩;obtain⟨s,hs⟩:∃s,s=g c b:=⟨_,rfl⟩;obtain⟨a',ha'⟩:∃x,x=a/g a d:=⟨_,rfl⟩;obtain⟨d',hd'⟩:∃x,x=d/g a d:=⟨_,rfl⟩;obtain⟨c',hc'⟩:∃x,x=c/g c b:=⟨_,rfl⟩;obtain⟨b',hb'⟩:∃x,x=b/g c b:=⟨_,rfl⟩;have ea:f*a'=a:=by rw[hf,ha'];exact TJ
 have ed:f*d'=d:=by rw[hf,hd'];exact Ni
 have ec:s*c'=c:=by rw[hs,hc'];exact TJ
 have eb:s*b'=b:=by rw[hs,hb'];exact Ni
 have c1:Int.gcd a' d'=1:=by rw[ha',hd'];exact Hz (by omega)
 have c2:Int.gcd c' b'=1:=by rw[hc',hb'];exact Hz (by omega)
 have c3:Int.gcd a' b'=1:=Lh (Mf h.one ⟨s,by rw[<-eb,ATx]⟩) ⟨f,by rw[<-ea,ATx]⟩;have c4:Int.gcd c' d'=1:=Lh (Mf k.one ⟨f,by rw[<-ed,ATx]⟩) ⟨s,by rw[<-ec,ATx]⟩;have hb0:0<b':=by rw[hb'];exact ATo hb (Ho _ _) (Bh _ _)
 have hd0:0<d':=by rw[hd'];exact ATo hd (Ho _ _) (Bh _ _)
 have eN:Xj a b c d=a'*c':=by unfold Xj;rw[ha',hc']
 have eD:Xp a b c d=b'*d':=by unfold Xp;rw[hb',hd']
 rw[eN,eD];refine⟨⟨ATg hb0 hd0,Qa (Lp c3 c1) (Lp c2 c4)⟩,?_⟩;rw[<-ea,<-ed,<-ec,<-eb];simp[ATx,AVC,AT9]
theorem ABg{a b:Int}(ha:0<=a)(hb:0<b):g b (a%b)=g a b:=by
 unfold g;rw[AU3 a b];exact congrArg _ (by rw[Int.emod_def,AUh,<-AWa,Int.gcd_add_mul_left_right])
theorem AEv{a:Int}(ha:0<=a):g a 0=a:=by
 unfold g;rw[Int.gcd_zero_right];omega
theorem AFV(a b:Int):g (if a<0 then -a else a) (if b<0 then -b else b)=g a b:=by
 unfold g
 split<;>split<;>simp
def sh(t b:Int):Int:=if b<0 then -(g t b) else g t b
def frN(t b:Int):Int:=t.fdiv (sh t b)
def frD(t b:Int):Int:=b.fdiv (sh t b)
theorem APs{t b:Int}(h:b≠0):sh t b≠0:=by
 have:=HD (a:=t) h;unfold sh
 split<;>omega
theorem ALs{n:Nat}{t b:Int}(h:b≠0)(k:Bt n b):Bt n (sh t b):=by
 have d:(g t b).natAbs<=b.natAbs:=by
  have:=ATM.mpr (Bh t b);exact AVQ (by omega) this
 refine k.of_le ?_;unfold sh
 split
 .rw[Int.natAbs_neg];exact d
 .exact d
theorem WK(t b:Int):sh t b ∣ t:=by
 unfold sh
 split
 .exact Int.neg_dvd.mpr (Di t b)
 .exact Di t b
theorem Uc(t b:Int):sh t b ∣ b:=by
 unfold sh
 split
 .exact Int.neg_dvd.mpr (Bh t b)
 .exact Bh t b
theorem AH8(t b:Int):frN t b=if b<0 then -(t/g t b) else t/g t b:=by
 unfold frN;rw[AUW (WK t b)];unfold sh
 split
 .rw[Int.ediv_neg]
 .rfl
theorem AJh(t b:Int):frD t b=if b<0 then -(b/g t b) else b/g t b:=by
 unfold frD;rw[AUW (Uc t b)];unfold sh
 split
 .rw[Int.ediv_neg]
 .rfl
theorem AQB{t b:Int}(h:b≠0):Fq (frN t b) (frD t b)/\frN t b*b=t*frD t b:=by
 have hg:0<g t b:=HD h;have e1:=@TJ t b;have e2:=@Ni t b;have c:=Hz (a:=t) h;rw[AH8,AJh];generalize t/g t b=x at *;generalize b/g t b=y at *;generalize g t b=d at *;have key:x*b=t*y:=by
  rw[<-e1,<-e2];simp[ATx,AVC]
 by_cases hb:b<0
 .rw[if_pos hb,if_pos hb];refine⟨⟨?_,by rw[Int.neg_gcd,Int.gcd_neg];exact c⟩,by rw[AVy,AWa,key]⟩;have:y<0:=by
   rcases AVu y 0 with z|z|z
   .exact z
   .rw[z]at e2;omega
   .have:=ATg hg z;omega
  omega
 .rw[if_neg hb,if_neg hb];refine⟨⟨?_,c⟩,key⟩;rcases AVu y 0 with z|z|z
  .have:=ATg hg (show 0 < -y by omega);rw[AWa]at this;omega
  .rw[z]at e2;omega
  .exact z
def sgn(a:Int):Int:=if a > 0 then 1 else if a<0 then -1 else 0
def ab(a:Int):Int:=if a<0 then -a else a
end Ra
namespace Rq
open Ra
theorem den_pos(q:Rat):(0:Int)<(q.den:Int):=by have:=q.den_pos;omega
theorem CQ(q:Rat):((q.den:Int):Rat)≠0:=fun h=>by
 have:=den_pos q;have h2:(q.den:Int)=0:=Rat.intCast_eq_zero_iff.mp h;omega
theorem fq(q:Rat):Fq q.num q.den:=⟨den_pos q,q.reduced⟩
theorem Fw(q:Rat):(q.num:Rat)/((q.den:Int):Rat)=q:=by
 rw[<-AUQ];exact Rat.num_divInt_den q
theorem Th{N D T M:Int}(f:Fq N D)(hM:M≠0)(e:N*M=T*D){q:Rat}(hq:q=(T:Rat)/(M:Rat)):q.num=N/\(q.den:Int)=D:=by
 have hD:=f.pos;have hd:D.toNat≠0:=by omega
 have ed:((D.toNat:Nat):Int)=D:=by omega
 have hr:N.natAbs.Coprime D.toNat:=by
  have h:=f.one;have e2:D.natAbs=D.toNat:=by omega
  rw[<-e2];exact h
 have key:q=(⟨N,D.toNat,hd,hr⟩:Rat):=by
  rw[hq,<-AUQ,Rat.mk_eq_divInt,ed];exact(AU4 hM (by omega)).mpr e.symm
 rw[key];exact⟨rfl,ed⟩
theorem Vn{q:Rat}:q.num=0 ↔ q=0:=AT4
theorem ABY(p q:Rat):(((p.num*q.den+q.num*p.den:Int)):Rat)/((p.den*q.den:Int):Rat)=p+q:=by
 (have e1:=Fw p;have e2:=Fw q;have n1:=CQ p);have n2:=CQ q;simp only[Rat.intCast_add,Rat.intCast_mul];(generalize (p.num:Rat)=a at *);walk_at "t";subst e1 e2;grind
theorem AIb(p q:Rat):(((p.num*q.num:Int)):Rat)/((p.den*q.den:Int):Rat)=p*q:=by
 (have e1:=Fw p;have e2:=Fw q;have n1:=CQ p);have n2:=CQ q;walk_at "aJ";(generalize (p.num:Rat)=a at *);walk_at "t";subst e1 e2;grind
theorem Yt(p q:Rat):Vy p.num p.den q.num q.den=(p+q).num/\WT p.num p.den q.num q.den=((p+q).den:Int):=by
 obtain⟨f,e⟩:=AJu (fq p) (fq q);have h1:=den_pos p;have h2:=den_pos q;obtain⟨a,b⟩:=Th (q:=p+q) f (AUA (ATg h1 h2)) e (by
  (have e1:=Fw p;have e2:=Fw q;have n1:=CQ p);have n2:=CQ q;simp only[Rat.intCast_add,Rat.intCast_mul];(generalize (p.num:Rat)=a at *);walk_at "t";subst e1 e2;grind)
 exact⟨a.symm,b.symm⟩
theorem AE5(p q:Rat):Vy p.num p.den (-q.num) q.den=(p-q).num/\WT p.num p.den (-q.num) q.den=((p-q).den:Int):=by
 have h:=Yt p (-q);rw[Rat.neg_num,Rat.neg_den,<-Rat.sub_eq_add_neg]at h;exact h
theorem ACG(p q:Rat):Xj p.num p.den q.num q.den=(p*q).num/\Xp p.num p.den q.num q.den=((p*q).den:Int):=by
 obtain⟨f,e⟩:=AGX (fq p) (fq q);have h1:=den_pos p;have h2:=den_pos q;obtain⟨a,b⟩:=Th (q:=p*q) f (AUA (ATg h1 h2)) e (by
  (have e1:=Fw p;have e2:=Fw q;have n1:=CQ p);have n2:=CQ q;walk_at "aJ";(generalize (p.num:Rat)=a at *);walk_at "t";subst e1 e2;grind)
 exact⟨a.symm,b.symm⟩
theorem AFN{t b:Int}(hb:0<b):t/g t b=((t:Rat)/(b:Rat)).num/\b/g t b=(((t:Rat)/(b:Rat)).den:Int):=by
 obtain⟨f,e⟩:=AK7 (t:=t) hb;obtain⟨a,b⟩:=Th f (by omega) e rfl;exact⟨a.symm,b.symm⟩
def Bq(n:Nat)(q:Rat):Prop:=Bt n q.num/\Bt n (q.den:Int)
theorem Bq.mono{m n:Nat}{q:Rat}(h:Bq m q)(l:m<=n):Bq n q:=⟨h.1.mono l,h.2.mono l⟩
theorem Bq.zero{n:Nat}(h:0<n):Bq n 0:=⟨Bt.zero,Bt.mono (m:=1) (by show(1:Nat)<2^1;decide) h⟩
theorem Bq.one{n:Nat}(h:0<n):Bq n 1:=⟨Bt.mono (m:=1) (by show(1:Nat)<2^1;decide) h,Bt.mono (m:=1) (by show(1:Nat)<2^1;decide) h⟩
theorem ACX{T M:Int}{q:Rat}(hM:M≠0)(hq:q=(T:Rat)/(M:Rat)):q.num ∣ T/\(q.den:Int) ∣ M:=by
 have e:q.num*M=T*q.den:=by
  have e1:(q.num:Rat)/((q.den:Int):Rat)=(T:Rat)/(M:Rat):=(Fw q).trans hq;rw[<-AUQ,<-AUQ]at e1;exact(AU4 (by have:=den_pos q;omega) hM).mp e1
 have c:=(fq q).one;constructor
 .have d:q.num ∣ T*q.den:=⟨M,e.symm⟩;have d':=ATM.mpr d;rw[AUx]at d';exact ATM.mp (Nat.Coprime.dvd_of_dvd_mul_right c d')
 .have d:(q.den:Int) ∣ q.num*M:=⟨T,by rw[e,ATx]⟩;have d':=ATM.mpr d;rw[AUx]at d';exact ATM.mp (AVD (Nat.Coprime.symm c) d')
theorem Jc{n:Nat}{T M:Int}{q:Rat}(hM:M≠0)(hq:q=(T:Rat)/(M:Rat))(bT:Bt n T)(bM:Bt n M):Bq n q:=by
 obtain⟨d1,d2⟩:=ACX hM hq;refine⟨?_,bM.of_le (AVQ (by omega) (ATM.mpr d2))⟩;by_cases h:T=0
 .subst h;have:q=0:=by rw[hq];simp[Rat.div_def]
  rw[this];exact Bt.zero
 .exact bT.of_le (AVQ (by omega) (ATM.mpr d1))
theorem JZ{n:Nat}{x y:Int}(h:Bt n x)(k:Bt n y):Bt (n+1) (x+y):=by
 unfold Bt at *;have a:=Int.natAbs_add_le x y;rw[AUU];omega
theorem Bq.add{m n:Nat}{p q:Rat}(h:Bq m p)(k:Bq n q):Bq (m+n+1) (p+q):=by
 obtain⟨e1,e2⟩:=Yt p q;rw[Bq,<-e1,<-e2];refine⟨(JZ (h.1.mul k.2.ediv) ((k.1.mul h.2.ediv).mono (by omega))).ediv,(h.2.ediv.mul k.2.ediv).mono (by omega)⟩
theorem Bq.mul{m n:Nat}{p q:Rat}(h:Bq m p)(k:Bq n q):Bq (m+n) (p*q):=by
 obtain⟨e1,e2⟩:=ACG p q;rw[Bq,<-e1,<-e2];exact⟨h.1.ediv.mul k.1.ediv,h.2.ediv.mul k.2.ediv⟩
end Rq
namespace Po
open Ra Rq
def strip:List Rat->List Rat
 | []=>[]
 | q::qs=>match strip qs with
  | []=>if q=0 then [] else [q]
  | r::rs=>q::r::rs
theorem strip_snoc0(xs:List Rat):strip (xs++[0])=strip xs:=by
 induction xs with
 | nil=>rfl
 | cons x xs ih =>
  rw[AV7,strip,ih,strip]
theorem strip_snoc{q:Rat}(h:q≠0)(xs:List Rat):strip (xs++[q])=xs++[q]:=by
 induction xs with
 | nil=>simp[strip,h]
 | cons x xs ih =>
  rw[AV7,strip,ih];cases xs<;>rfl
theorem take_snoc{α:Type}{xs:List α}{n:Nat}{x:α}(h:xs[n]?=some x):xs.take (n+1)=xs.take n++[x]:=by
 rw[ATy,h];rfl
theorem strip_length(xs:List Rat):(strip xs).length<=xs.length:=by
 induction xs with
 | nil=>exact Nat.le_refl _
 | cons x xs ih =>
  rw[strip];cases h:strip xs with
  | nil =>
   rw[h]at ih;by_cases hx:x=0<;>simp[hx]
  | cons r rs =>
   rw[h]at ih;simp only[ASx]at *;omega
theorem Xa(xs:List Rat):strip xs=xs.take (strip xs).length:=by
 induction xs with
 | nil=>rfl
 | cons x xs ih =>
  rw[strip];cases h:strip xs with
  | nil=>by_cases hx:x=0<;>simp[hx]
  | cons r rs =>
   rw[h]at ih;simp only[ASx,AU0];rw[ASx]at ih;rw[<-ih]
theorem KH{xs:List Rat}{q:Rat}(h:q∈strip xs):q∈xs:=by
 rw[Xa]at h;exact AUv h
theorem JK(xs:List Rat):strip (strip xs)=strip xs:=by
 induction xs with
 | nil=>rfl
 | cons x xs ih =>
  rw[strip];cases h:strip xs with
  | nil=>by_cases hx:x=0<;>simp[hx,strip]
  | cons r rs =>
   rw[h]at ih;show strip (x::r::rs)=_;rw[strip,ih]
theorem Gn(xs:List Rat)(i:Nat):(strip xs).getD i 0=xs.getD i 0:=by
 induction xs generalizing i with
 | nil=>rfl
 | cons x xs ih =>
  rw[strip];cases h:strip xs with
  | nil =>
   rw[h]at ih;cases i with
   | zero=>by_cases hx:x=0<;>simp[hx]
   | succ i =>
    have e:=ih i;by_cases hx:x=0<;>simp[hx] at*<;> exact e
  | cons r rs =>
   rw[h]at ih;cases i with
   | zero=>rfl
   | succ i=>simpa using ih i
def ev:List Rat->Rat->Rat
 | [],_=>0
 | q::qs,x=>q+x*ev qs x
def padd(ps qs:List Rat):List Rat:=strip ((List.range (max ps.length qs.length)).map fun k=>ps.getD k 0+qs.getD k 0)
def psub(ps qs:List Rat):List Rat:=strip ((List.range (max ps.length qs.length)).map fun k=>ps.getD k 0-qs.getD k 0)
def pscale(qs:List Rat)(x:Rat):List Rat:=strip (qs.map (·*x))
def pslope(qs:List Rat):List Rat:=(List.range (qs.length-1)).map fun k=>qs.getD (k+1) 0*(((1:Int)+(k:Int):Int):Rat)
def sm(f:Nat->Rat)(n:Nat):Rat:=(List.range n).foldl (fun acc i=>acc+f i) 0
theorem G6(f:Nat->Rat):sm f 0=0:=rfl
theorem Dr(f:Nat->Rat)(n:Nat):sm f (n+1)=sm f n+f n:=by
 unfold sm;rw[ATh,AWp];rfl
theorem Jf{f h:Nat->Rat}{n:Nat}(e:∀i,i<n->f i=h i):sm f n=sm h n:=by
 induction n with
 | zero=>rfl
 | succ n ih=>rw[Dr,Dr,ih fun i hi=>e i (by omega),e n (by omega)]
theorem ABb(f:Nat->Rat)(n:Nat):sm f (n+1)=f 0+sm (fun i=>f (i+1)) n:=by
 induction n with
 | zero=>rw[Dr,G6,G6];grind
 | succ n ih=>rw[Dr,ih,Dr];grind
theorem ACo(f h:Nat->Rat)(n:Nat):sm (fun i=>f i+h i) n=sm f n+sm h n:=by
 induction n with
 | zero=>rw[G6,G6,G6];grind
 | succ n ih=>rw[Dr,Dr,Dr,ih];grind
theorem ADG(c:Rat)(f:Nat->Rat)(n:Nat):sm (fun i=>c*f i) n=c*sm f n:=by
 induction n with
 | zero=>rw[G6,G6];grind
 | succ n ih=>rw[Dr,Dr,ih];grind
theorem ABd{f:Nat->Rat}{n:Nat}(e:∀i,i<n->f i=0):sm f n=0:=by
 induction n with
 | zero=>rfl
 | succ n ih=>rw[Dr,ih fun i hi=>e i (by omega),e n (by omega)];grind
def conv(ps qs:List Rat)(k:Nat):Rat:=sm (fun i=>ps.getD i 0*qs.getD (k-i) 0) (k+1)
theorem getD_out{xs:List Rat}{i:Nat}(h:xs.length<=i):xs.getD i 0=0:=by
 rw[ASu,ATk h];rfl
def pmul(ps qs:List Rat):List Rat:=strip ((List.range (ps.length+qs.length)).map (conv ps qs))
theorem getD_range(f:Nat->Rat)(n i:Nat):((List.range n).map f).getD i 0=if i<n then f i else 0:=by
 rw[ASu,AS4];by_cases h:i<n
 .rw[AVY h,if_pos h];rfl
 .rw[ATk (by rw[ATn];omega),if_neg h];rfl
theorem getD_bq{n:Nat}{qs:List Rat}(hn:0<n)(h:∀q∈qs,Bq n q)(k:Nat):Bq n (qs.getD k 0):=by
 rw[ASu];by_cases hk:k<qs.length
 .rw[Io hk];exact h _ (List.getElem_mem hk)
 .rw[ATk (by omega)];exact Bq.zero hn
def Rep(n:Nat)(v:Rat)(T M:Int):Prop:=M≠0/\v=(T:Rat)/(M:Rat)/\Bt n T/\Bt n M
theorem Rep.bq{n:Nat}{v:Rat}{T M:Int}(h:Rep n v T M):Bq n v:=Jc h.1 h.2.1 h.2.2.1 h.2.2.2
theorem Rep.step{n b:Nat}{v x q:Rat}{T M:Int}(h:Rep n v T M)(bx:Bq b x)(bq:Bq b q):Rep (n+b+b+1) (q+x*v) (T*x.num*q.den+q.num*M*x.den) (M*x.den*q.den):=by
 obtain⟨hM,hv,bT,bM⟩:=h;have d1:=den_pos x;have d2:=den_pos q;refine⟨Int.mul_ne_zero (Int.mul_ne_zero hM (by omega)) (by omega),?_,JZ (((bT.mul bx.1).mul bq.2).mono (by omega)) (((bq.1.mul bM).mul bx.2).mono (by omega)),((bM.mul bx.2).mul bq.2).mono (by omega)⟩;have e1:=Fw x;have e2:=Fw q;have n1:=CQ x;have n2:=CQ q;have n3:(M:Rat)≠0:=fun z=>hM (Rat.intCast_eq_zero_iff.mp z);simp only[Rat.intCast_add,Rat.intCast_mul];generalize (x.num:Rat)=a at *;generalize ((x.den:Int):Rat)=b at *;generalize (q.num:Rat)=c at *;generalize ((q.den:Int):Rat)=d at *;generalize (T:Rat)=T' at *;generalize (M:Rat)=M' at *;subst e1 e2 hv;grind
theorem ev_snocs(qs:List Rat)(x:Rat)(i:Nat)(h:i<qs.length):ev (qs.drop (qs.length-(i+1))) x=qs.getD (qs.length-1-i) 0+x*ev (qs.drop (qs.length-i)) x:=by
 have hlt:qs.length-(i+1)<qs.length:=by omega
 rw[AUy hlt,ev];have e1:qs.length-(i+1)+1=qs.length-i:=by omega
 have e2:qs.length-1-i=qs.length-(i+1):=by omega
 rw[e1,e2,ASu,Io hlt];rfl
def lsum(qs:List Rat):Rat:=qs.foldl (·+·) 0
noncomputable def stp(gs ws:List Rat)(t h0 l0:Rat):Nat->Rat×Rat
 | 0=>(h0+gs.getD 0 0*l0,l0)
 | k+1=>((stp gs ws t h0 l0 k).1+gs.getD (k+1) 0*((stp gs ws t h0 l0 k).2-t*ws.getD k 0*(stp gs ws t h0 l0 k).1),(stp gs ws t h0 l0 k).2-t*ws.getD k 0*(stp gs ws t h0 l0 k).1)
def walkQ(gs ws:List Rat)(t h0 l0:Rat):List (Rat×Rat):=(List.range gs.length).map (stp gs ws t h0 l0)
structure R3(n:Nat)(h l:Rat)(th tl m:Int):Prop where
 pos:0<m
 eh:h=(th:Rat)/(m:Rat)
 el:l=(tl:Rat)/(m:Rat)
 bh:Bt n th
 bl:Bt n tl
 bm:Bt n m
theorem R3.bq{n:Nat}{h l:Rat}{th tl m:Int}(r:R3 n h l th tl m):Bq n h/\Bq n l :=
 ⟨Jc (by have:=r.pos;omega) r.eh r.bh r.bm,Jc (by have:=r.pos;omega) r.el r.bl r.bm⟩
theorem R3.bead{n b:Nat}{h l t w:Rat}{th tl m:Int}(r:R3 n h l th tl m)(bt:Bt b t.num/\Bt b t.den){c:Nat}(bw:Bq c w) :
  R3 (n+b+c+1) h (l-t*w*h) (th*t.den*w.den) (tl*t.den*w.den-t.num*w.num*th) (m*t.den*w.den):=by
 have d1:=den_pos t;have d2:=den_pos w;have hm:=r.pos;have e1:=Fw t;have e2:=Fw w;have n1:=CQ t;have n2:=CQ w;have n3:(m:Rat)≠0:=fun z=>by have:=Rat.intCast_eq_zero_iff.mp z;omega
 have eh:=r.eh;have el:=r.el;refine⟨ATg (ATg hm d1) d2,?_,?_,((r.bh.mul bt.2).mul bw.2).mono (by omega),?_,((r.bm.mul bt.2).mul bw.2).mono (by omega)⟩
 .walk_at "aJ";generalize ((t.den:Int):Rat)=b' at *;generalize ((w.den:Int):Rat)=d at *;generalize (th:Rat)=T' at *;generalize (m:Rat)=M' at *;subst eh;grind
 .simp only[Rat.intCast_mul,Rat.intCast_sub];generalize (t.num:Rat)=a at *;generalize ((t.den:Int):Rat)=b' at *;generalize (w.num:Rat)=c' at *;generalize ((w.den:Int):Rat)=d at *;walk_at "z";subst eh el e1 e2;grind
 .rw[AUh];exact JZ ((r.bl.mul bt.2).mul bw.2) (((bt.1.mul bw.1).mul r.bh).mono (by omega)).neg
theorem R3.gap{n b:Nat}{h l g:Rat}{th tl m:Int}(r:R3 n h l th tl m)(bg:Bq b g):R3 (n+b+1) (h+g*l) l (th*g.den+g.num*tl) (tl*g.den) (m*g.den):=by
 have d1:=den_pos g;have hm:=r.pos;have e1:=Fw g;have n1:=CQ g;have n3:(m:Rat)≠0:=fun z=>by have:=Rat.intCast_eq_zero_iff.mp z;omega
 have eh:=r.eh;have el:=r.el;refine⟨ATg hm d1,?_,?_,JZ (r.bh.mul bg.2) ((bg.1.mul r.bl).mono (by omega)),(r.bl.mul bg.2).mono (by omega),(r.bm.mul bg.2).mono (by omega)⟩
 .simp only[Rat.intCast_mul,Rat.intCast_add];generalize (g.num:Rat)=a at *;generalize ((g.den:Int):Rat)=b' at *;walk_at "z";subst eh el e1;grind
 .walk_at "aJ";generalize ((g.den:Int):Rat)=b' at *;generalize (tl:Rat)=L' at *;generalize (m:Rat)=M' at *;subst el;grind
theorem R3.mono{n n':Nat}{h l:Rat}{th tl m:Int}(r:R3 n h l th tl m)(k:n<=n'):R3 n' h l th tl m:=⟨r.pos,r.eh,r.el,r.bh.mono k,r.bl.mono k,r.bm.mono k⟩
theorem R3.start{h l:Rat}{b:Nat}(bh:Bq b h)(bl:Bq b l):R3 (b+b) h l (h.num*l.den) (l.num*h.den) (h.den*l.den):=by
 have d1:=den_pos h;have d2:=den_pos l;have e1:=Fw h;have e2:=Fw l;have n1:=CQ h;have n2:=CQ l;refine⟨ATg d1 d2,?_,?_,bh.1.mul bl.2,bl.1.mul bh.2,bh.2.mul bl.2⟩
 .walk_at "aJ";have e3:h=(h.num:Rat)/((h.den:Int):Rat):=e1.symm;generalize (h.num:Rat)=a at *;(generalize ((h.den:Int):Rat)=b' at *;generalize ((l.den:Int):Rat)=d at *;rw[e3]);grind
 .walk_at "aJ";have e3:l=(l.num:Rat)/((l.den:Int):Rat):=e2.symm;generalize (l.num:Rat)=a at *;(generalize ((h.den:Int):Rat)=b' at *;generalize ((l.den:Int):Rat)=d at *;rw[e3]);grind
def lst(xs:List Rat):Rat:=xs.getD (xs.length-1) 0
def AEz(rs qs:List Rat)(f:Rat):List Rat:=rs.take (rs.length-qs.length)++(List.range (qs.length-1)).map fun k=>rs.getD (rs.length-qs.length+k) 0-f*qs.getD k 0
noncomputable def dv(qs:List Rat):Nat->List Rat->List Rat×List Rat
 | 0,rs=>([],rs)
 | s+1,rs=>if rs.length<qs.length then([],rs) else((dv qs s (AEz rs qs (lst rs/lst qs))).1++[lst rs/lst qs],(dv qs s (AEz rs qs (lst rs/lst qs))).2)
def Ov(n:Nat)(M:Int)(q:Rat):Prop:=∃T:Int,Bt n T/\q*(M:Rat)=(T:Rat)
theorem Ov.mono{m n:Nat}{M:Int}{q:Rat}(h:Ov m M q)(l:m<=n):Ov n M q:=by
 obtain⟨T,b,e⟩:=h;exact⟨T,b.mono l,e⟩
theorem Ov.zero{n:Nat}{M:Int}:Ov n M 0:=⟨0,Bt.zero,by rw[AVj];rfl⟩
theorem Ov.add{n:Nat}{M:Int}{p q:Rat}(h:Ov n M p)(k:Ov n M q):Ov (n+1) M (p+q):=by
 obtain⟨T,b,e⟩:=h;obtain⟨U,c,f⟩:=k;exact⟨T+U,JZ b c,by rw[Rat.add_mul,e,f,Rat.intCast_add]⟩
theorem Ov.neg{n:Nat}{M:Int}{q:Rat}(h:Ov n M q):Ov n M (-q):=by
 obtain⟨T,b,e⟩:=h;exact⟨-T,b.neg,by rw[Rat.neg_mul,e,Rat.intCast_neg]⟩
theorem Ov.sub{n:Nat}{M:Int}{p q:Rat}(h:Ov n M p)(k:Ov n M q):Ov (n+1) M (p-q):=by
 rw[Rat.sub_eq_add_neg];exact h.add k.neg
theorem Ov.mul{m n:Nat}{M W:Int}{p q:Rat}(h:Ov m M p)(k:Ov n W q):Ov (m+n) (M*W) (p*q):=by
 obtain⟨T,b,e⟩:=h;obtain⟨U,c,f⟩:=k;refine⟨T*U,b.mul c,?_⟩;rw[Rat.intCast_mul,Rat.intCast_mul,<-e,<-f];grind
theorem Ov.scale{m n:Nat}{M Z:Int}{q:Rat}(h:Ov m M q)(k:Bt n Z):Ov (m+n) (M*Z) q:=by
 obtain⟨T,b,e⟩:=h;refine⟨T*Z,b.mul k,?_⟩;rw[Rat.intCast_mul,Rat.intCast_mul,<-e];grind
theorem Ov.bq{n:Nat}{M:Int}{q:Rat}(h:Ov n M q)(h0:M≠0)(b:Bt n M):Bq n q:=by
 obtain⟨T,c,e⟩:=h;have n3:(M:Rat)≠0:=fun z=>h0 (Rat.intCast_eq_zero_iff.mp z);refine Jc h0 ?_ c b;rw[<-e,Rat.div_def,Rat.mul_assoc,Rat.mul_inv_cancel _ n3,AW0]
theorem PJ{n:Nat}{M:Int}{qs:List Rat}(h:∀q∈qs,Ov n M q)(k:Nat):Ov n M (qs.getD k 0):=by
 rw[ASu];by_cases hk:k<qs.length
 .rw[Io hk];exact h _ (List.getElem_mem hk)
 .rw[ATk (by omega)];exact Ov.zero
theorem LR(ps:List Rat)(t:Rat):ev (strip ps) t=ev ps t:=by
 induction ps with
 | nil=>rfl
 | cons q qs ih =>
  rw[strip];cases h:strip qs with
  | nil =>
   rw[h]at ih;have e0:ev qs t=0:=ih.symm;by_cases hq:q=0
   .simp only[hq,if_true,ev,e0];grind
   .simp only[hq,if_false,ev,e0]
  | cons r rs =>
   rw[h]at ih;show q+t*ev (r::rs) t=q+t*ev qs t;rw[ih]
theorem WD(ps:List Rat)(t:Rat)(n:Nat)(h:ps.length<=n):ev ps t=sm (fun i=>ps.getD i 0*t^i) n:=by
 induction ps generalizing n with
 | nil=>rw[ABd fun i _=>by rw[getD_out (by simp)];grind];rfl
 | cons q qs ih =>
  obtain⟨m,rfl⟩:∃m,n=m+1:=⟨n-1,by simp only[ASx]at h;omega⟩;rw[ABb,ev,ih m (by simp only[ASx]at h;omega),<-ADG];have e1:(q::qs).getD 0 0*t^0=q:=by rw[Rat.pow_zero,AW0];rfl
  rw[e1]
  congr 1
  refine Jf fun i _=>?_;have e2:(q::qs).getD (i+1) 0=qs.getD i 0:=by simp
  rw[e2,Rat.pow_succ];grind
theorem WP(f:Nat->Rat)(n:Nat)(t:Rat):ev ((List.range n).map f) t=sm (fun i=>f i*t^i) n:=by
 rw[WD _ t n (by simp)];exact Jf fun i hi=>by rw[getD_range,if_pos hi]
theorem Y5(ps qs:List Rat)(t:Rat):ev (padd ps qs) t=ev ps t+ev qs t:=by
 unfold padd;rw[LR,WP,WD ps t (max ps.length qs.length) (by omega),WD qs t (max ps.length qs.length) (by omega),<-ACo];exact Jf fun i _=>by grind
theorem AJ9(qs:List Rat)(t:Rat)(n:Nat):sm (fun i=>-(qs.getD i 0*t^i)) n=-sm (fun i=>qs.getD i 0*t^i) n:=by
 have h:=ADG (-1) (fun i=>qs.getD i 0*t^i) n;have e:sm (fun i=>-1*(qs.getD i 0*t^i)) n=sm (fun i=>-(qs.getD i 0*t^i)) n:=Jf fun i _=>by grind
 rw[<-e,h];grind
theorem AEa(ps qs:List Rat)(t:Rat):ev (psub ps qs) t=ev ps t-ev qs t:=by
 unfold psub;rw[LR,WP,WD ps t (max ps.length qs.length) (by omega),WD qs t (max ps.length qs.length) (by omega),Rat.sub_eq_add_neg,<-AJ9,<-ACo];exact Jf fun i _=>by grind
theorem XM(qs:List Rat)(x t:Rat):ev (qs.map (·*x)) t=ev qs t*x:=by
 induction qs with
 | nil=>simp[ev,AVj]
 | cons q qs ih=>rw[List.map_cons,ev,ih,ev];grind
theorem Nx(qs:List Rat)(x t:Rat):ev (pscale qs x) t=ev qs t*x:=by
 unfold pscale;rw[LR,XM]
theorem AC6(qs:List Rat)(t:Rat):ev (strip (0::qs)) t=t*ev qs t:=by
 rw[LR,ev,Rat.zero_add]
def dif(c:Rat):List Rat->List Rat
 | []=>[]
 | q::qs=>c*q::dif (2*c+1) qs
theorem Ry(ps qs:List Rat)(i:Nat):(psub ps qs).getD i 0=ps.getD i 0-qs.getD i 0:=by
 unfold psub;rw[Gn,getD_range];by_cases h:i<max ps.length qs.length
 .rw[if_pos h]
 .rw[if_neg h,getD_out (xs:=ps) (by omega),getD_out (xs:=qs) (by omega)];grind
theorem Gf(ps qs:List Rat)(i:Nat):(padd ps qs).getD i 0=ps.getD i 0+qs.getD i 0:=by
 unfold padd;rw[Gn,getD_range];by_cases h:i<max ps.length qs.length
 .rw[if_pos h]
 .rw[if_neg h,getD_out (xs:=ps) (by omega),getD_out (xs:=qs) (by omega)];grind
theorem Dm(qs:List Rat)(x:Rat)(i:Nat):(pscale qs x).getD i 0=qs.getD i 0*x:=by
 unfold pscale;rw[Gn,ASu,AS4,ASu];cases qs[i]? with
 | none=>show(0:Rat)=0*x;grind
 | some y=>rfl
def plean(l h:List Rat)(w:Rat):List Rat:=psub l (strip (0::pscale h w))
noncomputable def pst(gs ws:List Rat)(h0 l0:List Rat):Nat->List Rat×List Rat
 | 0=>(padd h0 (pscale l0 (gs.getD 0 0)),l0)
 | k+1=>(padd (pst gs ws h0 l0 k).1 (pscale (plean (pst gs ws h0 l0 k).2 (pst gs ws h0 l0 k).1 (ws.getD k 0)) (gs.getD (k+1) 0)),plean (pst gs ws h0 l0 k).2 (pst gs ws h0 l0 k).1 (ws.getD k 0))
theorem Wy(l h:List Rat)(w t:Rat):ev (plean l h w) t=ev l t-t*w*ev h t:=by
 unfold plean;rw[AEa,AC6,Nx];grind
theorem ev_pst(gs ws h0 l0:List Rat)(t:Rat)(k:Nat):ev (pst gs ws h0 l0 k).1 t=(stp gs ws t (ev h0 t) (ev l0 t) k).1/\ev (pst gs ws h0 l0 k).2 t=(stp gs ws t (ev h0 t) (ev l0 t) k).2:=by
 induction k with
 | zero =>
  refine⟨?_,rfl⟩;show ev (padd h0 (pscale l0 (gs.getD 0 0))) t=ev h0 t+gs.getD 0 0*ev l0 t;rw[Y5,Nx];grind
 | succ k ih =>
  obtain⟨i1,i2⟩:=ih;have e2:ev (pst gs ws h0 l0 (k+1)).2 t=(stp gs ws t (ev h0 t) (ev l0 t) (k+1)).2:=by
   show ev (plean _ _ _) t=_-_;rw[Wy,i1,i2]
  refine⟨?_,e2⟩;show ev (padd _ (pscale (plean _ _ _) _)) t=_+_*(_-_);rw[Y5,Nx,Wy,i1,i2];grind
theorem pst_strip1(gs ws h0 l0:List Rat)(k:Nat):strip (pst gs ws h0 l0 k).1=(pst gs ws h0 l0 k).1:=by
 cases k with
 | zero=>exact JK _
 | succ k=>exact JK _
theorem pst_strip2(gs ws h0 l0:List Rat)(hl:strip l0=l0)(k:Nat):strip (pst gs ws h0 l0 k).2=(pst gs ws h0 l0 k).2:=by
 cases k with
 | zero=>exact hl
 | succ k=>exact JK _
theorem OJ(ps qs:List Rat):(padd ps qs).length<=max ps.length qs.length:=ATG (strip_length _) (by simp)
theorem Ww(ps qs:List Rat):(psub ps qs).length<=max ps.length qs.length:=ATG (strip_length _) (by simp)
theorem pscale_length(qs:List Rat)(x:Rat):(pscale qs x).length<=qs.length:=ATG (strip_length _) (by simp)
theorem plean_length(l h:List Rat)(w:Rat):(plean l h w).length<=max l.length (h.length+1):=by
 refine ATG (Ww _ _) ?_;have h1:=strip_length (0::pscale h w);have h2:=pscale_length h w;simp only[ASx]at h1;omega
theorem pst_length{gs ws h0 l0:List Rat}(a:h0.length<=1)(b:l0.length<=1)(k:Nat):(pst gs ws h0 l0 k).1.length<=k+1/\(pst gs ws h0 l0 k).2.length<=k+1:=by
 induction k with
 | zero =>
  have h1:=OJ h0 (pscale l0 (gs.getD 0 0));have h2:=pscale_length l0 (gs.getD 0 0);exact⟨by show(padd h0 _).length<=_;omega,by show l0.length<=_;omega⟩
 | succ k ih =>
  have h1:=plean_length (pst gs ws h0 l0 k).2 (pst gs ws h0 l0 k).1 (ws.getD k 0);have h2:=pscale_length (plean (pst gs ws h0 l0 k).2 (pst gs ws h0 l0 k).1 (ws.getD k 0)) (gs.getD (k+1) 0);have h3:=OJ (pst gs ws h0 l0 k).1 (pscale (plean (pst gs ws h0 l0 k).2 (pst gs ws h0 l0 k).1 (ws.getD k 0)) (gs.getD (k+1) 0));exact⟨by show(padd _ _).length<=_;omega,by show(plean _ _ _).length<=_;omega⟩
theorem ADk{n:Nat}{M:Int}{ps qs:List Rat}(hp:∀q∈ps,Ov n M q)(hq:∀q∈qs,Ov n M q):∀q∈padd ps qs,Ov (n+1) M q:=fun q h=>by
 obtain⟨k,_,rfl⟩:=ATY.mp (KH h);exact(PJ hp k).add (PJ hq k)
theorem AEI{n:Nat}{M:Int}{ps qs:List Rat}(hp:∀q∈ps,Ov n M q)(hq:∀q∈qs,Ov n M q):∀q∈psub ps qs,Ov (n+1) M q:=fun q h=>by
 obtain⟨k,_,rfl⟩:=ATY.mp (KH h);exact(PJ hp k).sub (PJ hq k)
theorem AEf{b:Nat}{x:Rat}(h:Bq b x):Ov b (x.den:Int) x:=⟨x.num,h.1,by
 have e:=Fw x;have n:=CQ x;generalize (x.num:Rat)=a at *;generalize ((x.den:Int):Rat)=c at *;rw[<-e];grind⟩
theorem ov_pscale{n b:Nat}{M:Int}{qs:List Rat}{x:Rat}(hq:∀q∈qs,Ov n M q)(hx:Bq b x):∀q∈pscale qs x,Ov (n+b) (M*x.den) q:=fun q h=>by
 obtain⟨y,hy,rfl⟩:=ATY.mp (KH h);exact(hq y hy).mul (AEf hx)
theorem Lg{n b:Nat}{M Z:Int}{qs:List Rat}(hq:∀q∈qs,Ov n M q)(hx:Bt b Z):∀q∈qs,Ov (n+b) (M*Z) q:=fun q h=>(hq q h).scale hx
theorem ov_shift{n:Nat}{M:Int}{qs:List Rat}(hq:∀q∈qs,Ov n M q):∀q∈strip (0::qs),Ov n M q:=fun q h=>by
 rcases AS2.mp (KH h) with rfl|h
 .exact Ov.zero
 .exact hq q h
theorem KD{m n:Nat}{M:Int}{qs:List Rat}(hq:∀q∈qs,Ov m M q)(l:m<=n):∀q∈qs,Ov n M q:=fun q h=>(hq q h).mono l
structure O2(n:Nat)(h l:List Rat)(M:Int):Prop where
 ne:M≠0
 bm:Bt n M
 oh:∀q∈h,Ov n M q
 ol:∀q∈l,Ov n M q
theorem O2.start{h0 l0:List Rat}(a:∀q∈h0,q=1)(b:∀q∈l0,q=1):O2 1 h0 l0 1 :=
 ⟨by decide,by show(1:Nat)<2^1;decide,fun q h=>⟨1,by show(1:Nat)<2^1;decide,by rw[a q h,AWb]⟩,fun q h=>⟨1,by show(1:Nat)<2^1;decide,by rw[b q h,AWb]⟩⟩
theorem O2.gap{n b:Nat}{h l:List Rat}{M:Int}{x:Rat}(o:O2 n h l M)(hx:Bq b x):O2 (n+b+1) (padd h (pscale l x)) l (M*x.den):=by
 have d:=den_pos x;refine⟨Int.mul_ne_zero o.ne (by omega),(o.bm.mul hx.2).mono (by omega),ADk (Lg o.oh hx.2) (ov_pscale o.ol hx),KD (Lg o.ol hx.2) (by omega)⟩
theorem O2.bead{n b:Nat}{h l:List Rat}{M:Int}{x:Rat}(o:O2 n h l M)(hx:Bq b x):O2 (n+b+1) h (plean l h x) (M*x.den):=by
 have d:=den_pos x;exact⟨Int.mul_ne_zero o.ne (by omega),(o.bm.mul hx.2).mono (by omega),KD (Lg o.oh hx.2) (by omega),AEI (Lg o.ol hx.2) (ov_shift (ov_pscale o.oh hx))⟩
theorem pst_o2{gs ws h0 l0:List Rat}{b:Nat}(hb:0<b)(bg:∀q∈gs,Bq b q)(bw:∀q∈ws,Bq b q)(e1:∀q∈h0,q=1)(e2:∀q∈l0,q=1)(k:Nat):∃M,O2 ((2*b+2)*(k+1)) (pst gs ws h0 l0 k).1 (pst gs ws h0 l0 k).2 M:=by
 induction k with
 | zero =>
  obtain⟨x1,x2,x3,x4⟩:=(O2.start e1 e2).gap (getD_bq hb bg 0);exact⟨_,x1,x2.mono (by omega),KD x3 (by omega),KD x4 (by omega)⟩
 | succ k ih =>
  obtain⟨M,o⟩:=ih;obtain⟨x1,x2,x3,x4⟩:=(o.bead (getD_bq hb bw k)).gap (getD_bq hb bg (k+1));have e:(2*b+2)*(k+1+1)=(2*b+2)*(k+1)+(2*b+2):=AVF _ _;exact⟨_,x1,x2.mono (by omega),KD x3 (by omega),KD x4 (by omega)⟩
theorem ev_one(t:Rat):ev [1] t=1:=by simp only[ev];grind
theorem ev_nil(t:Rat):ev [] t=0:=rfl
theorem strip_one:strip [1]=[1]:=by simp[strip]
theorem QX(l h:List Rat)(w:Rat)(k:Nat):(plean l h w).getD (k+1) 0=l.getD (k+1) 0-h.getD k 0*w:=by
 unfold plean;rw[Ry,Gn,List.getD_cons_succ,Dm]
theorem OD(l h:List Rat)(w:Rat):(plean l h w).getD 0 0=l.getD 0 0:=by
 unfold plean;rw[Ry,Gn];show _-(0:Rat)=_;grind
theorem T7{gs ws h0 l0:List Rat}(a:h0.length<=1)(b:l0.length<=1)(k:Nat) :
  (pst gs ws h0 l0 (k+1)).2.getD (k+1) 0=-((pst gs ws h0 l0 k).1.getD k 0*ws.getD k 0)/\(pst gs ws h0 l0 (k+1)).1.getD (k+1) 0=-((pst gs ws h0 l0 k).1.getD k 0*ws.getD k 0)*gs.getD (k+1) 0:=by
 obtain⟨l1,l2⟩:=pst_length (gs:=gs) (ws:=ws) a b k;have e:(plean (pst gs ws h0 l0 k).2 (pst gs ws h0 l0 k).1 (ws.getD k 0)).getD (k+1) 0=-((pst gs ws h0 l0 k).1.getD k 0*ws.getD k 0):=by
  rw[QX,getD_out (xs:=(pst gs ws h0 l0 k).2) (by omega)];grind
 refine⟨e,?_⟩;show(padd _ (pscale (plean _ _ _) _)).getD (k+1) 0=_;rw[Gf,Dm,e,getD_out (xs:=(pst gs ws h0 l0 k).1) (by omega)];grind
theorem Bs{qs:List Rat}(h:∀q∈qs,0<q){k:Nat}(hk:k<qs.length):0<qs.getD k 0:=by
 rw[ASu,Io hk];exact h _ (List.getElem_mem hk)
theorem J5{x:Rat}(h:0<x):x≠0:=fun z=>by rw[z]at h;exact absurd h (by decide)
theorem YL{gs ws h0 l0:List Rat}(a:h0.length<=1)(b:l0.length<=1)(pg:∀q∈gs,0<q)(pw:∀q∈ws,0<q)(aB:gs.length=ws.length+1)(h:h0.getD 0 0+l0.getD 0 0*gs.getD 0 0≠0) :
  ∀k,k<=ws.length->(pst gs ws h0 l0 k).1.getD k 0≠0
 | 0,_=>by
  show(padd h0 (pscale l0 (gs.getD 0 0))).getD 0 0≠0;rw[Gf,Dm];exact h
 | k+1,hk=>by
  have ih:=YL a b pg pw aB h k (by omega);rw[(T7 a b k).2];have w0:=J5 (Bs pw (show k<ws.length by omega));have g0:=J5 (Bs pg (show k+1<gs.length by omega));intro z;rcases AU8.mp z with z|z
  .have z':(pst gs ws h0 l0 k).1.getD k 0*ws.getD k 0=0:=by grind
   rcases AU8.mp z' with z|z
   .exact ih z
   .exact w0 z
  .exact g0 z
theorem ADp{gs ws h0 l0:List Rat}(a:h0.length<=1)(b:l0.length<=1)(pg:∀q∈gs,0<q)(pw:∀q∈ws,0<q)(aB:gs.length=ws.length+1)(h:h0.getD 0 0+l0.getD 0 0*gs.getD 0 0≠0)(k:Nat)(hk:k+1<=ws.length):(pst gs ws h0 l0 (k+1)).2.getD (k+1) 0≠0:=by
 have ih:=YL a b pg pw aB h k (by omega);rw[(T7 a b k).1];have w0:=J5 (Bs pw (show k<ws.length by omega));intro z;have z':(pst gs ws h0 l0 k).1.getD k 0*ws.getD k 0=0:=by grind
 rcases AU8.mp z' with z|z
 .exact ih z
 .exact w0 z
theorem S8{qs:List Rat}{k:Nat}(h:qs.getD k 0≠0)(l:qs.length<=k+1):qs.length=k+1:=by
 by_cases hk:qs.length<=k
 .exact absurd (getD_out hk) h
 .omega
def AR5(qs:List Rat):Rat:=qs.foldl (·*·) 1
def AG5(gs:List Rat)(k:Nat):Rat:=sm (fun i=>gs.getD i 0) (k+1)
theorem fig0(gs ws:List Rat)(k:Nat):(pst gs ws [] [1] k).2.getD 0 0=1/\(pst gs ws [] [1] k).1.getD 0 0=AG5 gs k:=by
 induction k with
 | zero =>
  refine⟨rfl,?_⟩;show(padd [] (pscale [1] (gs.getD 0 0))).getD 0 0=_;rw[Gf,Dm];unfold AG5;rw[Dr,G6];show(0:Rat)+1*gs.getD 0 0=_;grind
 | succ k ih =>
  obtain⟨i1,i2⟩:=ih;have e:(plean (pst gs ws [] [1] k).2 (pst gs ws [] [1] k).1 (ws.getD k 0)).getD 0 0=1:=by rw[OD,i1]
  refine⟨e,?_⟩;show(padd _ (pscale (plean _ _ _) _)).getD 0 0=_;rw[Gf,Dm,e,i2];unfold AG5;rw[Dr (fun i=>gs.getD i 0) (k+1)];grind
theorem getD_in{qs:List Rat}{k:Nat}(h:k<qs.length):qs.getD k 0=qs[k]:=by rw[ASu,Io h];rfl
def sg(n:Nat):Rat:=((1-2*((n:Int)%2):Int):Rat)
end Po
namespace PySem
open PyProof.Rows
def Up(c:Nat):Prop:=48<=c/\c<=57
def dgv(t:List Nat):Nat:=t.foldl (fun n c=>n*10+(c-48)) 0
theorem RQ(x:Str)(u:Tok)(neg:Bool)(t:List Nat)(ht:t≠[])(hd:∀c∈t,Up c)(hl:t.length<=600)(hx:x.cps.toList=if neg then 45::t else t):Gives (Builtin.«int.__new__» ⟨[.type "int",.str x u],[]⟩) (.int (if neg then -(dgv t:Int) else dgv t)):=by
 have hs:x.length<=640:=by
  show x.cps.size<=640;rw[<-AUz,hx];cases neg<;>simp<;>omega
 have hm:x.length<=4300:=by omega
 cases neg with
 | true=>exact AWF hs (intText_neg hx hd ht hm)
 | false =>
  have hx':x.cps.toList=t:=hx;refine AWF hs ((intText_digits (hx' ▸ hd) (hx' ▸ ht) hm).trans ?_);rw[hx'];rfl
end PySem
namespace L3
open PySem PySem.Spec PyProof.Rows L2 Ra
theorem Yx{j:Int}(h:Bt 9000 j):j.natAbs.log2<9000:=by
 by_cases h0:j.natAbs=0
 .rw[h0];decide
 .exact(AW1 h0).mpr h
theorem Br{i j:Int}{m n:Nat}(h:Bt m i)(k:Bt n j)(l:m+n<=134217728):IntMulOk i j :=
 PySem.IntMulOk.of_le (AWS.mpr h) (AWS.mpr k) l
section
variable {X:Cx}{a b c:Expr}{ta tb tc:TE}{pos:Pos}
theorem Ul:OpR X (binaryOp .FloorDiv) (rI (fun _ j=>j≠0/\Bt 9000 j) fun i j=>.int (i.fdiv j)) :=
 opI fun _ _ _ _ _ _ _ hc q=>floordiv_int hc.1 q (.inl (AVv (Yx hc.2)))
theorem CZ:OpR X (binaryOp .FloorDiv) (rI (fun _ j=>0<j/\Bt 9000 j) fun i j=>.int (i/j)):=opI fun i j _ _ _ _ _ hc q=>by
 have h1:(0:Int)<j:=hc.1;exact floordiv_int (by omega) (by rw[Int.fdiv_eq_ediv_of_nonneg i (by omega)];exact q) (.inl (AVv (Yx hc.2)))
theorem BZ:OpR X (binaryOp .Mult) (rI IntMulOk fun i j=>.int (i*j)):=opI fun _ _ _ _ _ _ _ hc q=>mul_int q hc
theorem Jr:Jl X (.builtin "isinstance") (fun xs H Q=>∃x T t b,xs=[x,.ty T]/\Gz X.K H x t/\W.kitOne X.K t (.type T)=some b/\Q (.bl b) H):=by
 walk_at "9";obtain⟨x,T,t,b,rfl,ty,e,q⟩:=h;obtain⟨u,w',rfl,rx,rt⟩:=ACA r;cases rt;exact Zd I rx ty e fun tk=>⟨.bl b,H,I.tok _,rfl,q⟩
end
theorem N6(K:W.Frag):W.kitOne K (.type "int") (.type "int")=some true:=rfl
theorem Lz(K:W.Frag):W.kitOne K (.type "int") (.type "bool")=some false:=by with_unfolding_all rfl
theorem Og(K:W.Frag):W.kitOne K (.type "tuple") (.type "tuple")=some true:=rfl
section
variable {X:Cx}{K:W.Frag}
end
theorem Oo{c A B:Prop}[Decidable c](h:c)(k:A):if decide c=true then A else B:=by
 rw[decide_eq_true h];exact RV k
theorem Cd{c A B:Prop}[Decidable c](h:¬c)(k:B):if decide c=true then A else B:=by
 rw[decide_eq_false h];exact FZ k
theorem QQ{b:Bool}{A B:Prop}(h:b=true)(k:B):if (!b)=true then A else B:=by
 rw[h];exact FZ k
structure Cal(P:Program)(w:World)(K:W.Frag)(mg:Str->Option Value)(base:Heap)(x:Str)(k:Nat)(ps:List Str)(sp:Sp):Prop where
 ex:∃f fd,BP P w K mg base CX0 k f fd ps sp/\Ef K fd ps []/\W.keepIn K (.ref f)=true/\mg x=some (.ref f)
theorem Cal.imp{P:Program}{w:World}{K:W.Frag}{mg:Str->Option Value}{base:Heap}{x:Str}{k:Nat}{ps:List Str}{sp iW:Sp}(C:Cal P w K mg base x k ps sp)(h:∀{vs:List V} {H:Hp} {Q:VK} {E:XK},iW vs H Q E->sp vs H Q E):Cal P w K mg base x k ps iW:=by
 obtain⟨f,fd,F,b,kp,m⟩:=C.ex;exact⟨f,fd,F.imp fun _ _ _ _ z=>h z,b,kp,m⟩
theorem Ai{X:Cx}{x:Str}{k j:Nat}{ps:List Str}{sp:Sp}{e:Expr}{es:List Expr}{t:TA}{p pos:Pos}(C:Cal X.prog X.w X.K X.mg X.base x k ps sp)(hr:Dz j X.A)(ha:PA X (e::es) t)(hkj:k<=j:=by decide)(hg:Gl X x:=by rfl)
  (hdb:(x==("__debug__":Str))=false:=by decide) (he:starEach (e::es) X.env=(false,eval e X.env)::starEach es X.env:=by rfl) (hpl:(backTo pos (starEach es X.env)).any (·.1)=false:=by rfl) :
  PE X (.Call (.Name x p) (e::es) [] pos) (ADL sp [] E0 t):=by
 obtain⟨f,fd,F,b,kp,m⟩:=C.ex;exact ZC F (hr.mono hkj) hg m kp b .nil Su ha hdb he hpl
theorem Ah{H:Hp}{p:Addr}(h:H p=none)(o:HO):Am H (upd H p o):=fun b u q=>by rw[Az (BL q h)];exact q
def Pr(H:Hp)(p:Addr)(x y:Int):Prop:=H p=some (.tup [.int x,.int y])
theorem Pr.keep{H H':Hp}{p:Addr}{x y:Int}(h:Pr H p x y)(s:Am H H'):Pr H' p x y:=s _ _ h
theorem Pr.sq{K:W.Frag}{H:Hp}{p:Addr}{x y:Int}(h:Pr H p x y):SqT K H p [.int x,.int y]:=SqT.of h
theorem Pr.new{H:Hp}{p:Addr}{x y:Int}:Pr (upd H p (.tup [.int x,.int y])) p x y:=Ag
def AOq(ns:List Int)(k:Nat):Int:=ns.getD k (2*(k:Int)+1)
noncomputable def ALq(c k:Int):Int:=if c%2=0/\10^18<c then c/2 else((c/2)%10^60+k*k)*6364136223846793013+(k+1)*1442695040888963407
def AII(n:Int):Int:=if n%2=0 then n/2 else -1-n/2
section
variable {X:Cx}
theorem DG:Jl X (.type "int") (fun xs H Q=>∃(x:Str) (neg:Bool) (t:List Nat),xs=[.str x]/\t≠[]/\(∀c∈t,Up c)/\t.length<=600/\x.cps.toList=(if neg then 45::t else t)/\Q (.int (if neg then -(dgv t:Int) else dgv t)) H):=by
 walk_at "9";obtain⟨x,neg,t,rfl,h1,h2,h3,h4,q⟩:=h;obtain⟨u,rfl,rx⟩:=Iw r;obtain⟨tk,rfl⟩:=rx;exact call_int_1 (RQ x tk neg t h1 h2 h3 h4).meets ⟨rfl,.int _,H,I.tok _,⟨_,rfl⟩,q⟩
theorem S9:MtR X "str.startswith" (fun x xs H Q=>∃a b,x=.str a/\xs=[.str b]/\Q (.bl (Txt.startswith a b)) H):=by
 walk_at "V";obtain⟨a,b,rfl,rfl,q⟩:=h;walk_at "E";exact SC.startswith ⟨.bl _,H,I,rfl,q⟩
theorem AEm:MtR X "str.endswith" (fun x xs H Q=>∃a b,x=.str a/\xs=[.str b]/\Q (.bl (Txt.endswith a b)) H):=by
 walk_at "V";obtain⟨a,b,rfl,rfl,q⟩:=h;walk_at "E";exact SC.endswith ⟨.bl _,H,I,rfl,q⟩
theorem R4:∀{ts:List Str} {its:List Value},BW (ts.map V.str) its->∃l,its=strValues l/\l.map (·.1)=ts
 | [],_,.nil=>⟨[],rfl,rfl⟩
 | x::ts,_,.cons h r=>by
  obtain⟨t,rfl⟩:=h;obtain⟨l,rfl,e⟩:=R4 r;exact⟨(x,t)::l,rfl,by rw[List.map_cons,e]⟩
theorem Tf:MtR X "str.join" (fun x xs H Q=>∃a p ts,x=.str a/\xs=[.ref p]/\SqL X.K H p (ts.map V.str)/\JoinOk a ts=true/\Q (.str (Txt.join a ts)) H):=by
 walk_at "V";obtain⟨a,p,ts,rfl,rfl,hq,ok,q⟩:=h;walk_at "H";obtain⟨u,rfl,ru⟩:=Iw rs;cases ru;obtain⟨its,r',pl,hz⟩:=I.list hq;obtain⟨l,rfl,e⟩:=R4 r';exact SC.join pl.isList e ok fun t' k=>⟨.str _,H,I.tok _,⟨_,rfl⟩,q⟩
noncomputable def Cz(x y:Str):List Str:=match Builtin.Str.occurrences x y 0 x.length 1 with
 | i::_=>[Builtin.Str.strSub x 0 i,y,Builtin.Str.strSub x (i+y.length) x.length]
 | []=>[x,Str.empty,Str.empty]
theorem U8:MtR X "str.partition" (fun x xs H Q=>∃a b,x=.str a/\xs=[.str b]/\b.length≠0/\a.length<=sizeLine/\∀p,H p=none->Q (.ref p) (upd H p (.tup ((Cz a b).map V.str)))):=by
 walk_at "V";obtain⟨a,b,rfl,rfl,hb,ha,q⟩:=h;walk_at "E";refine call_meets F.slot_str_partition (typeIs_str _ _ _) F.entry_str_partition (F.args_str_partition_2 _ _) (meets_str_partition a b t t' (by simpa using hb) ha) ?_;have q':=q s.heap.objs.size (I.hok.fresh (Nat.le_refl _));unfold Cz at q';cases ho:Builtin.Str.occurrences a b 0 a.length 1 with
 | nil =>
  rw[ho]at q';refine⟨.ref s.heap.objs.size,_,I.laid (t':=s.toks+1) (o:=.tup [.str a,.str Str.empty,.str Str.empty]) (fun b ob q=>ASw _ q) (Nat.le_refl _) ?_,rfl,q'⟩;exact⟨by show 3<=sizeLine;decide,_,.cons ⟨_,rfl⟩ (.cons ⟨_,rfl⟩ (.cons ⟨_,rfl⟩ .nil)),⟨_,AS1 _ rfl,rfl,_,rfl⟩⟩
 | cons i r =>
  rw[ho]at q';refine⟨.ref s.heap.objs.size,_,I.laid (t':=s.toks+1+1) (o:=.tup [.str (Builtin.Str.strSub a 0 i),.str b,.str (Builtin.Str.strSub a (i+b.length) a.length)]) (fun b ob q=>ASw _ q) (Nat.le_refl _) ?_,rfl,q'⟩;exact⟨by show 3<=sizeLine;decide,_,.cons ⟨_,rfl⟩ (.cons ⟨_,rfl⟩ (.cons ⟨_,rfl⟩ .nil)),⟨_,AS1 _ rfl,rfl,_,rfl⟩⟩
theorem Mr:∀(k:Nat) (ts:List Str),BW (ts.map V.str) (strsFrom k ts)
 | _,[]=>.nil
 | k,x::ts=>.cons ⟨k,rfl⟩ (Mr (k+1) ts)
theorem Fi:MtR X "str.split" (fun x xs H Q=>∃a b,x=.str a/\xs=[.str b]/\b.length≠0/\a.length<=sizeLine/\(Txt.split a b).length<=sizeLine/\∀p,H p=none->Q (.ref p) (upd H p (.lst ((Txt.split a b).map V.str)))):=by
 walk_at "V";obtain⟨a,b,rfl,rfl,hb,ha,hn,q⟩:=h;walk_at "E";have hb':(b.length==0)=false:=by simpa using hb
 have q':=q s.heap.objs.size (I.hok.fresh (Nat.le_refl _));have fin:∀(k:Nat) (ts:List Str) (its:List Value),Txt.split a b=ts->BW (ts.map V.str) its->EP X aA σ Q (.ref s.heap.objs.size) { s with toks:=k,heap:=s.heap.push { cls:=.type "list",data:=.seq its.toArray } }:=fun k ts its e r=>by
  rw[e]at q' hn;refine⟨.ref s.heap.objs.size,_,I.laid (t':=k) (o:=.lst (ts.map V.str)) (fun b ob q=>ASw _ q) (Nat.le_refl _) ?_,rfl,q'⟩;exact⟨by rw[ASt];exact hn,its,_,r,AS1 _ rfl⟩
 cases h1:(decide (a.length<b.length) || decide (Builtin.Str.strKind a<Builtin.Str.strKind b)) with
 | true =>
  have e:Txt.split a b=[a]:=by unfold Txt.split;rw[if_pos h1]
  exact call_meets AUa (typeIs_str _ _ _) AUR (AVk _ _) (meets_str_split_cannot_occur a b t t' h1) (fin s.toks [a] [.str a t] e (.cons ⟨_,rfl⟩ .nil))
 | false =>
  cases hf:(Builtin.Str.occurrences a b 0 a.length (a.length+1)).isEmpty with
  | true =>
   have e:Txt.split a b=[a]:=by unfold Txt.split;rw[h1,hf];rfl
   exact call_meets AUa (typeIs_str _ _ _) AUR (AVk _ _) (meets_str_split_not_found a b t t' h1 hb' hf) (fin s.toks [a] [.str a t] e (.cons ⟨_,rfl⟩ .nil))
  | false =>
   have e:Txt.split a b=Builtin.Str.partsBetween a (Builtin.Str.occurrences a b 0 a.length (a.length+1)) b.length:=by unfold Txt.split;rw[h1,hf];rfl
   exact call_meets AUa (typeIs_str _ _ _) AUR (AVk _ _) (meets_str_split_sep a b t t' h1 hb' hf ha (by rw[<-e];exact hn)) (fin _ _ _ e (Mr s.toks _))
def ARN:V->Option Int->Option Int->Hp->VK->Prop:=fun x lo hi H Q=>∃z,x=.str z/\z.length<=sizeLine/\Q (.str (Txt.slice z lo hi)) H
theorem ADU:SlR X ARN:=by
 intro aA s σ H x v vl vu lo hi sl Q I rx hs pl pu h;obtain⟨z,rfl,hz,q⟩:=h;obtain⟨t,rfl⟩:=rx;have pv:∀{v:Value} {o:Option Int},IsPart v o->∃l:Option (Int×Tok),v=partValue l/\o=l.map (·.1):=fun {v o} h=>by
  cases h with
  | none=>exact⟨none,rfl,rfl⟩
  | int i t=>exact⟨some (i,t),rfl,rfl⟩
 obtain⟨l,rfl,rfl⟩:=pv pl;obtain⟨u,rfl,rfl⟩:=pv pu;exact⟨"str",_,F.slot_str_getitem.lookup,typeIs_str _ _ _,wpAny_getItem_str_slice (l:=l) (u:=u) (st:=none) hs rfl (post_val_or_str ⟨ATG (Txt.slice_le z _ _) hz,fun t' k=>⟨.str _,H,I.tok _,⟨_,rfl⟩,q⟩⟩)⟩
def Its(z:Str):L2.It:=⟨fun i _=>i<z.cps.size,fun i H x H'=>H'=H/\∃c,z.cps[i]?=some c/\x=.str ⟨#[c]⟩,fun i _=>z.cps.size<=i⟩
theorem ACm{P:Program}{w:World}{K:W.Frag}{tg:Expr}(z:Str)(t:Tok)(it:Addr):L2.Turn P w K tg (Its z) [it] it (fun i h=>h.IsStrIter it "str_ascii_iterator" z t i) where
 mem:=by simp
 obj:=fun i h st b hb=>by
  walk_at "aF"
  subst e;obtain⟨o,e,c,d⟩:=st;exact⟨o,e,fun v z=>by rw[d]at z;cases z⟩
 keep:=fun i h h' st k=>by
  obtain⟨o,e,r⟩:=st;exact⟨o,k it (by simp) o e,r⟩
 item:=by
  walk_at "f";walk_at "p";have hi:i<z.cps.size:=hg;refine wpAny_pyNext_ascii_item st (c:=z.cps[i]) (by simp[hi]) fun h' st' sb=>?_;have I1:Inv X aA σ H { s with heap:=h',toks:=s.toks+1 }:=I.turned (t':=s.toks+1) (fun b o hb e=>(sb.2 b hb).trans e) f0 f1 f3 f4 f5;obtain⟨o,e,c,d⟩:=id st';exact⟨_,rfl,YW (s:={ s with heap:=h',toks:=s.toks+1 }) e c d (by decide) ⟨.str ⟨#[z.cps[i]]⟩,H,I1,⟨_,rfl⟩,⟨rfl,_,by simp[hi],rfl⟩,st',fun b hb=>(hf b hb).1⟩⟩
 done:=by
  walk_at "f";walk_at "p";have hi:z.cps.size<=i:=hg;exact wpAny_pyNext_ascii_end (I.ok.hd hc) st (by simp[hi]) fun h' eb=>⟨rfl,I.turned (t':=s.toks) (fun b o hb e=>eb b o hb e) f0 f1 f3 f4 f5⟩
 self:=fun _ _ _ _ _ st h=>wpAny_pyIter_striter_ascii st h
def AQp(tl:TE):L2.TI:=fun σ H R=>tl σ H fun x H1=>∃z,x=.str z/\z.cps.all (·<128)=true/\R (Its z) H1
theorem ADF{tg l:Expr}{tl:TE}(hl:PE X l tl):L2.PI X tg l (AQp tl):=by
 (intro aA s σ H R I h;refine thn (hl aA s σ H _ I h) fun v s1 ⟨x,H1,I1,r1,q1⟩=>?_);obtain⟨z,e,ha,q⟩:=q1;subst e;obtain⟨t,rfl⟩:=r1;refine wpAny_pyIter_ascii ha ?_;refine⟨s1.heap.objs.size,[s1.heap.objs.size],_,_,H1,rfl,I1.kept (t':=s1.toks) fun b o e=>ASw _ e,ACm z t _,⟨_,AS1 _ rfl,rfl,rfl⟩,fun b hb=>?_,q⟩;(have e:b=s1.heap.objs.size:=by simpa using hb)
 subst e;walk_at "l"
def rTx:V->Hp->VK->Prop:=fun x H Q=>∃i:Int,x=.int i/\i.natAbs.log2<1920/\Q (.str (Str.ofString (toString i))) H
theorem RD{a:Expr}{ta:TE}{p:Pos}(ha:PE X a ta):PE X (.FormattedValue a (-1) none p) (tUn rTx ta):=by
 walk_at "k";refine FormattedValue_plain (thn (ha aA s σ H _ I h) fun v s1 ⟨x,H1,I1,r1,q1⟩=>?_);obtain⟨i,rfl,hi,q⟩:=q1;obtain⟨t,rfl⟩:=r1;exact formatField_int_small hi ⟨.str _,H1,I1.tok _,⟨_,rfl⟩,q⟩
theorem AKl{a:Expr}{ta:TE}{p:Pos}(ha:PE X a ta):PE X (.JoinedStr [a] p) ta:=fun aA s σ H Q I h=>JoinedStr_one (ha aA s σ H Q I h)
def AQn(ta tb tc:TE):TE:=fun σ H Q=>ta σ H fun x H1=>∃a,x=.str a/\a.length<=sizeLine/\tb σ H1 fun y H2=>∃b,y=.str b/\a.length+b.length<=sizeLine/\tc σ H2 fun z H3=>∃c,z=.str c/\a.length+b.length+c.length<=sizeLine/\Q (.str (a++b++c)) H3
theorem EY(a b:Str):(a++b).length=a.length+b.length:=by
 show(a++b).cps.size=_;rw[Str.cps_append,Array.size_append];rfl
theorem ABJ{a b c:Expr}{ta tb tc:TE}{p:Pos}(ha:PE X a ta)(hb:PE X b tb)(hc:PE X c tc):PE X (.JoinedStr [a,b,c] p) (AQn ta tb tc):=by
 walk_at "k";have e0:∀y:Str,Str.empty++y=y:=fun y=>Str.append_left_empty rfl;refine wpAny_JoinedStr (Joins_cons (thn (ha aA s σ H _ I h) fun v s1 ⟨x,H1,I1,r1,q1⟩=>?_));obtain⟨a',rfl,l1,q1⟩:=q1;obtain⟨t1,rfl⟩:=r1;refine⟨a',t1,rfl,by rw[e0];exact l1,Joins_cons (thn (hb aA s1 σ H1 _ I1 q1) fun v s2 ⟨y,H2,I2,r2,q2⟩=>?_)⟩;obtain⟨b',rfl,l2,q2⟩:=q2;obtain⟨t2,rfl⟩:=r2;refine⟨b',t2,rfl,by rw[e0,EY];exact l2,Joins_cons (thn (hc aA s2 σ H2 _ I2 q2) fun v s3 ⟨z,H3,I3,r3,q3⟩=>?_)⟩;obtain⟨c',rfl,l3,q3⟩:=q3;obtain⟨t3,rfl⟩:=r3;refine⟨c',t3,rfl,by rw[e0,EY,EY];exact l3,Joins_nil ?_⟩;rw[e0];exact⟨by rw[EY,EY];exact l3,.str _,H3,I3.tok _,⟨_,rfl⟩,q3⟩
theorem Wm{x:Str}{n:Str}{pos:Pos}(hg:Gl X x)(hm:∃t,X.mg x=some (.str n t))(hd:(x==("__debug__":Str))=false:=by decide):PE X (.Name x pos) (tC (.str n)):=by
 obtain⟨t,hm⟩:=hm;exact Ml hg hm ⟨t,rfl⟩ hd
theorem AEW{st:Stmt}{t:TS}{h0:ExceptHandler}{hs:List ExceptHandler}{pos:Pos}(hb:PS X st t)(qo:X.xe=(fun _ _=>False):=by rfl):PS X (.Try [st] (h0::hs) [] [] pos) t:=by
 walk_at "2";have hb':=hb aA s σ H D I h;rw[qo]at hb';refine wpAny_Try_except (AV6 (ATt hb' (fun fl s1 q=>?_) (fun e s1 z=>False.elim z)));cases fl with
 | next=>exact AUi (AUi q)
 | ret v=>exact q
 | brk=>exact q
 | cont=>exact q
theorem Vo(K:W.Frag):W.kitOne K (.type "str") (.type "str")=some true:=rfl
end
open Builtin.Str
def sx(l:List Nat):Str:=⟨l.toArray⟩
theorem GZ(l:List Nat):(sx l).cps.toList=l:=rfl
theorem Ay(l:List Nat):(sx l).length=l.length:=by
 show l.toArray.size=_;simp
theorem ANp(x:Str):x=sx x.cps.toList:=AWf (by simp[sx])
theorem Bg(a b:List Nat):sx a++sx b=sx (a++b):=AWf (by rw[Str.cps_append];simp[sx])
theorem Uv{a b:List Nat}(h:sx a=sx b):a=b:=by
 have:=congrArg (fun x:Str=>x.cps.toList) h;exact this
theorem ADM(s:String):Str.ofString s=sx (s.toList.map Char.toNat):=Str.ofString_eq_toList s
def dgs(n:Nat):List Nat:=(Nat.toDigits 10 n).map Char.toNat
theorem dch:∀d,d<10->(Nat.digitChar d).toNat=48+d:=by decide
theorem J9{n:Nat}(h:n<10):dgs n=[48+n]:=by
 unfold dgs;rw[Nat.toDigits_of_lt_base h,ATr,dch n h]
theorem UL{n:Nat}(h:¬n<10):dgs n=dgs (n/10)++[48+n%10]:=by
 have e:n=10*(n/10)+n%10:=by omega
 have h1:=Nat.toDigits_append_toDigits (b:=10) (n:=n/10) (d:=n%10) (by decide) (by omega) (by omega);rw[<-e]at h1;have h2:=J9 (n:=n%10) (by omega);unfold dgs at h2 ⊢;rw[<-h1,AS0,h2]
theorem FJ:∀(n:Nat),∀c∈dgs n,Up c:=fun n=>by
 induction n using Nat.strongRecOn with
 | _ n ih =>
  intro c hc;by_cases h:n<10
  .rw[J9 h]at hc;rw[ATs.mp hc];exact⟨by omega,by omega⟩
  .rw[UL h]at hc;rcases ATU.mp hc with z|z
   .exact ih (n/10) (by omega) c z
   .rw[ATs.mp z];exact⟨by omega,by omega⟩
theorem Ia(n:Nat):dgs n≠[]:=by
 by_cases h:n<10
 .rw[J9 h];simp
 .rw[UL h];simp
theorem ACl(t:List Nat)(c:Nat):dgv (t++[c])=dgv t*10+(c-48):=by
 unfold dgv;rw[AWp];rfl
theorem Tw:∀(n:Nat),dgv (dgs n)=n:=fun n=>by
 induction n using Nat.strongRecOn with
 | _ n ih =>
  by_cases h:n<10
  .rw[J9 h];show 0*10+(48+n-48)=n;omega
  .rw[UL h,ACl,ih (n/10) (by omega)];omega
theorem Ej{k n:Nat}(hk:1<=k)(h:n<10^k):(dgs n).length<=k:=by
 unfold dgs;rw[ASt];exact digits10_le hk h
def itx(i:Int):List Nat:=if i<0 then 45::dgs i.natAbs else dgs i.natAbs
theorem tos(i:Int):Str.ofString (toString i)=sx (itx i):=by
 cases i with
 | ofNat m =>
  unfold itx;rw[if_neg (show ¬Int.ofNat m<0 from Int.not_lt.mpr (AWe m))];exact text_ofNat m
 | negSucc m =>
  unfold itx;rw[if_pos (by omega)];rw[ADM];have e:toString (Int.negSucc m)="-"++Nat.repr (m+1):=rfl;have e2:=text_ofNat (m+1);rw[ADM]at e2;have e3:(Nat.repr (m+1)).toList.map Char.toNat=(Nat.toDigits 10 (m+1)).map Char.toNat:=Uv e2;rw[e,String.toList_append,AS0,e3];rfl
def ftx(q:Rat):List Nat:=if q.den=1 then itx q.num else itx q.num++47::dgs q.den
theorem Jk{c:Nat}(h1:c≠45)(h2:¬Up c)(i:Int):c∉itx i:=fun h=>by
 unfold itx at h
 split at h
 .rcases AS2.mp h with z|z
  .exact h1 z
  .exact h2 (FJ _ c z)
 .exact h2 (FJ _ c h)
theorem Mp{c:Nat}(h1:c≠45)(h2:¬Up c)(h3:c≠47)(q:Rat):c∉ftx q:=fun h=>by
 unfold ftx at h
 split at h
 .exact Jk h1 h2 _ h
 .rcases ATU.mp h with z|z
  .exact Jk h1 h2 _ z
  .rcases AS2.mp z with y|y
   .exact h3 y
   .exact h2 (FJ _ c y)
theorem Ql(l:List Nat)(c i:Nat):StrLaws.At (sx l) (sx [c]) (sx l).length i ↔ l[i]?=some c:=StrLaws.subAt_one (sx l) c i
theorem Zg{c:Nat}{l:List Nat}(h:c∉l):Cz (sx l) (sx [c])=[sx l,Str.empty,Str.empty]:=by
 unfold Cz;rcases AV8 (sx l) (sx [c]) 1 (Nat.le_refl 1) with⟨e,_⟩|⟨i,r,e,ha,_⟩
 .rw[e]
 .exact absurd (ATp ((Ql l c i).mp ha)) h
theorem R6{c:Nat}{a b:List Nat}(h:c∉a):Cz (sx (a++c::b)) (sx [c])=[sx a,sx [c],sx b]:=by
 unfold Cz;have at1:StrLaws.At (sx (a++c::b)) (sx [c]) (sx (a++c::b)).length a.length:=(Ql _ c _).mpr (by simp);rcases AV8 (sx (a++c::b)) (sx [c]) 1 (Nat.le_refl 1) with⟨_,hn⟩|⟨i,r,e,ha,hm⟩
 .exact absurd at1 (hn _)
 .have hi:i=a.length:=by
   rcases AWq i a.length with z|z|z
   .exfalso;have:=(Ql _ c i).mp ha;rw[ATi z]at this;exact h (ATp this)
   .exact z
   .exact absurd at1 (hm _ z)
  rw[e,hi];have e1:strSub (sx (a++c::b)) 0 a.length=sx a:=AWf (by simp[strSub,sx]);have e2:strSub (sx (a++c::b)) (a.length+(sx [c]).length) (sx (a++c::b)).length=sx b:=AWf (by
   simp[strSub,sx,Str.length];exact ATb (by omega))
  show [strSub _ _ _,_,strSub _ _ _]=_;rw[e1,e2]
def jn(c:Nat):List (List Nat)->List Nat
 | []=>[]
 | [w]=>w
 | w::v::r=>w++c::jn c (v::r)
theorem ABa{c:Nat}:∀{a b a' b':List Nat},c∉a->c∉a'->a++c::b=a'++c::b'->a=a'/\b=b'
 | [],_,[],_,_,_,e=>⟨rfl,by simpa using e⟩
 | [],_,x::a',_,_,h',e=>by
  have:c=x:=by simpa using (AWg e).1
  exact absurd (by rw[this];simp) h'
 | x::a,_,[],_,h,_,e=>by
  have:x=c:=by simpa using (AWg e).1
  exact absurd (by rw[this];simp) h
 | x::a,b,y::a',b',h,h',e=>by
  obtain⟨e1,e2⟩:=AWg e;obtain⟨i1,i2⟩:=ABa (a:=a) (a':=a') (fun z=>h (by simp[z])) (fun z=>h' (by simp[z])) e2;exact⟨by rw[e1,i1],i2⟩
theorem ABy{c:Nat}{w v:List Nat}{r:List (List Nat)}:c∈jn c (w::v::r):=by
 show c∈w++c::jn c (v::r);simp
theorem ACO{c:Nat}:∀{ws vs:List (List Nat)},(∀w∈ws,c∉w)->(∀v∈vs,c∉v)->ws≠[]->vs≠[]->jn c ws=jn c vs->ws=vs
 | [w],[v],_,_,_,_,e=>by
  have:w=v:=e;rw[this]
 | [w],v::v'::r,h,_,_,_,e=>by
  have e':w=jn c (v::v'::r):=e;exact absurd (by rw[e'];exact ABy) (h w (by simp))
 | w::w'::r,[v],_,h',_,_,e=>by
  have e':jn c (w::w'::r)=v:=e;exact absurd (by rw[<-e'];exact ABy) (h' v (by simp))
 | w::w'::r,v::v'::s,h,h',_,_,e=>by
  obtain⟨e1,e2⟩:=ABa (h w (by simp)) (h' v (by simp)) e;have:=ACO (ws:=w'::r) (vs:=v'::s) (fun x hx=>h x (ATS _ hx)) (fun x hx=>h' x (ATS _ hx)) (by simp) (by simp) e2;rw[e1,this]
theorem O7(c:Nat):∀ws:List (List Nat),Str.join (sx [c]) (ws.map sx)=sx (jn c ws)
 | []=>rfl
 | [w]=>rfl
 | w::v::r=>by
  show sx w++sx [c]++Str.join (sx [c]) ((v::r).map sx)=_;rw[O7 c (v::r),Bg,Bg];show sx (w++[c]++jn c (v::r))=sx (w++c::jn c (v::r));rw[ATw];rfl
theorem ABj(x y:Str):Txt.split x y≠[]:=by
 unfold Txt.split
 split
 .simp
 .split
  .simp
  .rw[AUX];obtain⟨p,r,e⟩:=StrLaws.partsFrom_ne x y.length 0 (occurrences x y 0 x.length (x.length+1));rw[e];simp
theorem Hh{c:Nat}{ws:List (List Nat)}(h:∀w∈ws,c∉w)(hn:ws≠[]):Txt.split (sx (jn c ws)) (sx [c])=ws.map sx:=by
 have e1:=StrLaws.join_split (sx (jn c ws)) (sx [c]);have e2:Txt.split (sx (jn c ws)) (sx [c])=((Txt.split (sx (jn c ws)) (sx [c])).map fun p=>p.cps.toList).map sx:=by
  rw[List.map_map];exact(List.map_id _).symm.trans (List.map_congr_left fun p _=>ANp p)
 have f:=StrLaws.split_free (sx (jn c ws)) c;have ne:=ABj (sx (jn c ws)) (sx [c]);rw[e2,O7]at e1;have:=ACO (c:=c) (fun w hw=>by
  obtain⟨p,hp,rfl⟩:=ATY.mp hw;exact f p hp) h (fun z=>ne (AVZ.mp z)) hn (Uv e1)
 rw[e2,this]
theorem QS(c:Nat)(ws:List (List Nat)):Txt.join (sx [c]) (ws.map sx)=sx (jn c ws):=by
 unfold Txt.join;rw[StrLaws.glued_eq_join,O7]
theorem K4(l:List Nat)(c:Nat):Txt.startswith (sx l) (sx [c])=decide (l[0]?=some c):=by
 have h:=Ql l c 0;unfold StrLaws.At at h;unfold Txt.startswith;by_cases e:l[0]?=some c
 .rw[decide_eq_true e];have:=h.mpr e;rw[AUZ];exact⟨decide_eq_true this.1,this.2⟩
 .rw[decide_eq_false e];refine Bool.eq_false_iff.mpr fun z=>e (h.mp ?_);rw[AUZ]at z;exact⟨of_decide_eq_true z.1,z.2⟩
theorem Z9(l:List Nat)(c:Nat):Txt.endswith (sx (l++[c])) (sx [c])=true:=by
 have h:=(Ql (l++[c]) c l.length).mpr (by simp);unfold StrLaws.At at h;unfold Txt.endswith;have e:(sx (l++[c])).length-(sx [c]).length=l.length:=by rw[Ay,Ay];simp
 rw[e,AUZ];refine⟨decide_eq_true ?_,h.2⟩;rw[Ay,Ay];simp
theorem X6{l:List Nat}(h:l≠[]):Txt.slice (sx l) (some 1) none=sx (l.drop 1):=by
 have hl:0<l.length:=AU1.mpr h;have:=StrLaws.sliceText_from (x:=sx l) (i:=1) ⟨by decide,by rw[GZ];omega⟩;refine(show Txt.slice (sx l) (some 1) none=_ from this).trans ?_;rw[GZ];unfold sx;rw[ATb (by rw[ATF];omega)];rfl
theorem Z8(a b:Nat)(m:List Nat):Txt.slice (sx (a::(m++[b]))) (some 1) (some (-1))=sx m:=by
 have hl:(sx (a::(m++[b]))).length=m.length+2:=by rw[Ay];simp
 have e1:=StrLaws.sliceText_neg_hi (sx (a::(m++[b]))) (some 1) (j:=-1) (by decide) (by omega);have e2:=StrLaws.sliceText_plain (x:=sx (a::(m++[b]))) (i:=1) (j:=-1+((sx (a::(m++[b]))).length:Int)) ⟨by decide,by omega,by rw[GZ];simp;omega⟩;refine(show Txt.slice (sx (a::(m++[b]))) (some 1) (some (-1))=_ from e1).trans (e2.trans ?_);rw[hl,GZ,show(-1+((m.length+2:Nat):Int)-1).toNat=m.length by omega];unfold sx
 congr 1
 show((m++[b]).take m.length).toArray=_;rw[AWL];rfl
theorem ABv(l:List Nat)(c:Nat):(!(occurrences (sx l) (sx [c]) 0 (sx l).length 1).isEmpty)=decide (c∈l):=StrLaws.found_one (sx l) c
def clo(sc:Scope)(env:Env):List (Str×Addr):=((sc.names.filter fun y=>y.2==.free).map fun y=>(y.1,(env.cells.lookup y.1).getD 0)).reverse
theorem AJm{sc:Scope}{env:Env}{y:Str}{c:Addr}(h:(clo sc env).lookup y=some c):(y,NameKind.free)∈sc.names/\c=(env.cells.lookup y).getD 0:=by
 have m:(y,c)∈clo sc env:=ATj h;unfold clo at m;rw[AUb,ATY]at m;obtain⟨⟨n,k⟩,hm,e⟩:=m;rw[AVS]at hm;have hk:k=.free:=by simpa using hm.2
 subst hk;cases e;exact⟨hm.1,rfl⟩
theorem Kl{α:Type}{l:List (Str×α)}{y:Str}{c:α}(h:(y,c)∈l):∃c',l.lookup y=some c':=by
 induction l with
 | nil=>cases h
 | cons p r ih =>
  obtain⟨n,v⟩:=p;by_cases e:y=n
  .subst e;exact⟨v,by simp⟩
  .have hb:(y==n)=false:=by simpa using e
   rw[AUK,hb];rcases AS2.mp h with z|z
   .cases z;exact absurd rfl e
   .exact ih z
theorem Yz{sc:Scope}{env:Env}{y:Str}(h:(y,NameKind.free)∈sc.names):∃c,(clo sc env).lookup y=some c:=by
 refine Kl (c:=(env.cells.lookup y).getD 0) ?_;unfold clo;rw[AUb,ATY];exact⟨(y,.free),AVS.mpr ⟨h,by simp⟩,rfl⟩
theorem Jt{env:Env}:∀(ns:List (Str×NameKind)) (cs:List (Str×Addr)),(∀y∈ns,y.2=.free->∃c,env.cells.lookup y.1=some c) ->
  (forIn ns cs fun x r=>(match x with | (name,kind)=>if kind==.free then do let c <-cellOf env name;pure (ForInStep.yield ((name,c)::r)) else pure (ForInStep.yield r):Sem (ForInStep (List (Str×Addr))))) =
   pure (((ns.filter fun y=>y.2==.free).map fun y=>(y.1,(env.cells.lookup y.1).getD 0)).reverse++cs)
 | [],cs,_=>rfl
 | (n,k)::r,cs,h=>by
  have hr:∀y∈r,y.2=.free->∃c,env.cells.lookup y.1=some c:=fun y hy=>h y (ATS _ hy);rw[AUS];by_cases hk:k=.free
  .subst hk;obtain⟨c,hc⟩:=h (n,.free) ATq rfl;have e:cellOf env n=pure c:=by unfold cellOf;rw[hc]
   have e2:((n,NameKind.free)::r).filter (fun y=>y.2==.free)=(n,.free)::r.filter fun y=>y.2==.free:=by simp
   simp only[beq_self_eq_true,if_true,e,pure_bind];rw[Jt r _ hr,e2];simp[hc]
  .have hb:(k==NameKind.free)=false:=by simpa using hk
   have e2:((n,k)::r).filter (fun y=>y.2==.free)=r.filter fun y=>y.2==.free:=by simp[hk]
   simp only[hb,AT5,if_false,pure_bind];rw[Jt r _ hr,e2]
theorem X7{sc:Scope}{env:Env}(h:∀y∈sc.names,y.2=.free->∃c,env.cells.lookup y.1=some c):closureFor sc env=pure (clo sc env):=by
 have q:=Jt sc.names [] h;rw[AVV]at q;unfold closureFor clo;simp only[pure_bind,bind_pure];exact q
theorem En{sc:Scope}{env:Env}{y:Str}{k:NameKind}(h:sc.names.lookup y=some k) :
  (relabel sc env).names.lookup y=some (if (k==.free&&env.scope.kind==.function&&env.kindOf y==some .cell) then .cell else k):=by
 unfold relabel;show(sc.names.map _).lookup y=_;generalize sc.names=ns at h
 induction ns with
 | nil=>cases h
 | cons p r ih =>
  (obtain⟨n,v⟩:=p;rw[List.map_cons];show List.lookup y ((if (v==.free&&env.scope.kind==.function&&env.kindOf n==some .cell)=true then(n,NameKind.cell) else(n,v))::r.map _)=_);by_cases e:y=n
  .subst e;have ev:v=k:=by simpa using h
   subst ev;by_cases c:(v==.free&&env.scope.kind==.function&&env.kindOf y==some .cell)=true
   .rw[if_pos c,if_pos c];simp
   .rw[if_neg c,if_neg c];simp
  .have hb:(y==n)=false:=by simpa using e
   have h':r.lookup y=some k:=by
    rw[AUK,hb]at h;exact h
   (by_cases c:(v==.free&&env.scope.kind==.function&&env.kindOf n==some .cell)=true)
   .rw[if_pos c];simp only[AUK,hb];exact ih h'
   .rw[if_neg c];simp only[AUK,hb];exact ih h'
theorem UV{sc:Scope}{env:Env}{y:Str}(h:sc.names.lookup y=none):(relabel sc env).names.lookup y=none:=by
 unfold relabel;show(sc.names.map _).lookup y=_;generalize sc.names=ns at h
 induction ns with
 | nil=>rfl
 | cons p r ih =>
  (obtain⟨n,v⟩:=p;rw[List.map_cons];show List.lookup y ((if (v==.free&&env.scope.kind==.function&&env.kindOf n==some .cell)=true then(n,NameKind.cell) else(n,v))::r.map _)=_);by_cases e:y=n
  .subst e;simp at h
  .have hb:(y==n)=false:=by simpa using e
   have h':r.lookup y=none:=by
    rw[AUK,hb]at h;exact h
   (by_cases c:(v==.free&&env.scope.kind==.function&&env.kindOf n==some .cell)=true)
   .rw[if_pos c];simp only[AUK,hb];exact ih h'
   .rw[if_neg c];simp only[AUK,hb];exact ih h'
structure YQ(fsc aK:Scope)(x:Str)(js:List Nat)(N N':List Str):Prop where
 eqN:N'=x::js.map fun j=>N.getD j x
 nd:N'.Nodup
 fr:∀y∈aK.names,y.2=.free->fsc.names.lookup y.1=some .cell
 cell:∀y∈aK.names,y.2≠.cell
 kind:aK.kind=.function
 nm:∀y∈aK.names,y.2=.local->aK.names.lookup y.1=some .local
 xl:aK.names.lookup x=some .local
 js:∀j∈js,j<N.length/\aK.names.lookup (N.getD j x)=some .free
noncomputable def blk(X:Cx)(aK:Scope)(N':List Str)(zb:Shared)(zc:Hp)(C:Addr)(ex:List Addr):Cx :=
 { X with N:=N',zb:=zb,zc:=zc,env:=compEnvC aK (clo aK X.env) C X.env,outer:=X.stack,stack:=X.stack,ex:=ex,fn:=fun _=>false,pn:=[],xe:=fun _ _=>False }
def HQ(J:It)(te:Shared->Hp->Addr->List Addr->TE)(js:List Nat)(σ:L2.St)(Q:VK)(H1:Hp):Prop:=∀D,H1 D=none->∃W:Nat->Nat->List V->Hp->Prop,(∃m,W 0 m [] (upd H1 D (.lst []))) /\
 ∀i m ys H,W i m ys H->H D=some (.lst ys)/\((J.stop i H/\Q (.ref D) H)\/(J.go i H/\∀x H',J.yld i H x H'->∀zb zc C ex,te zb zc C ex (some x::js.map fun j=>(σ[j]?).join) H' fun y H2 =>
  H2 D=some (.lst ys)/\ys.length<sizeLine/\∃m',m'<m/\W (i+1) m' (ys++[y]) (upd H2 D (.lst (ys++[y])))))
def ACI(wi:TI)(te:Shared->Hp->Addr->List Addr->TE)(js:List Nat):TE:=fun σ H Q=>wi σ H fun J H1=>HQ J te js σ Q H1
theorem O8{X:Cx}{aA:List (Addr×Obj)}{σ:L2.St}{H:Hp}{s:Shared}{C:Addr}{h7:Heap}(I:Inv X aA σ H s)(f:HX X aA H C)(sb:Heap.SameBut C s.heap h7):Inv X aA σ H { s with heap:=h7 }:=by
 obtain⟨g0,g1,g2,g3,g4,g5⟩:=f;have hne:∀{b:Addr},b∉[C]->b≠C:=fun h z=>h (by rw[z];exact ATq);refine I.call' (ch:=[C]) (H':=H) rfl ⟨fun b o e _ _ hx=>(sb.2 b (hne hx)).trans e,fun b o e _ _ hx=>⟨o.slots,(sb.2 b (hne hx)).trans e⟩,fun _ _ _ n _=>n,fun b o e hx=>⟨o,(sb.2 b (hne hx)).trans e⟩,fun _ _ q=>q,fun _ _ _ q=>q,fun _ ps q=>⟨#[],by rw[Array.append_empty];exact q⟩⟩ ?_ I.bare fun b hb=>?_
 .intro b ob e;refine(I.hok b ob e).stay (fun c w' hcc q=>(sb.2 c ?_).trans q) (fun _ q=>q) fun _ _ q=>q;rintro rfl;rcases hcc with rfl|hcc
  .rw[g0]at e;cases e
  .rw[g0]at hcc;cases hcc
 .walk_at "aN"
  subst e;exact⟨g3,g1,g4,g5⟩
theorem Uh{prog:Program}{w:World}{A:Around}{R:Result->Shared->Prop}{s:Shared}{elt target iter:Expr}{ifs:List Expr}{scope:Scope}{pos:Pos}{it acc:Value}{env:Env}(I:Nat->Shared->Prop)
  (turn:∀n s,I n s->wpAny (model prog w) A (pyNext it) (fun r zf=>match r with
   | none=>R (.ok .next) zf
   | some v=>wpAny (model prog w) A (letOwnedTupleGo target it v) (fun _ nZ=>wpAny (model prog w) A (assign target env v) (fun _ zl =>
     wpAny (model prog w) A (forIn ifs true fun c r=>if r=true then do let ok <-isTrue c env (eval c env);pure (ForInStep.yield ok) else pure (ForInStep.yield r)) (fun ok zq =>
      if ok=true then wpAny (model prog w) A (eval elt env) (fun x zz =>
       wpAny (model prog w) A (call (.builtin "list.append") [acc,x]) (fun _ yb=>∃m,m<n/\I m yb) (notedBy (model prog w) A env fun e s'=>R (.error e) s') zz) (notedBy (model prog w) A env fun e s'=>R (.error e) s') zq
      else ∃m,m<n/\I m zq) (notedBy (model prog w) A env fun e s'=>R (.error e) s') zl) (notedBy (model prog w) A env fun e s'=>R (.error e) s') nZ) (notedBy (model prog w) A env fun e s'=>R (.error e) s') zf) (notedBy (model prog w) A env fun e s'=>R (.error e) s') s)
  (n:Nat) (h:I n s):codeAny (model prog w) A (.compLoop (.ListComp elt [⟨target,iter,ifs,0⟩] scope pos) 0 it acc env) R s:=by
 refine codeAny_loop rfl I (fun n s hI=>?_) n h;show wpAny _ A ((compTurn (.ListComp elt [⟨target,iter,ifs,0⟩] scope pos) 0 it acc env).onRaise (fun x=>do noteFrame x env;theTreesLotGoes x)) _ _ s;refine wpAny_noted ?_;rw[compTurn_list];refine ASv (AVz (ASv (ATt (turn n s hI) (fun r zf zt=>?_) fun _ _ h'=>h')));cases r with
 | none=>exact ATC zt
 | some v =>
  refine ASv (ATt zt (fun _ nZ qp=>?_) fun _ _ h'=>h');refine ASv (ATt qp (fun _ zl zw=>ASv (ATt zw (fun ok zq zy=>?_) fun _ _ h'=>h')) fun _ _ h'=>h');cases ok with
  | false=>exact ATC ⟨rfl,zy⟩
  | true =>
   exact ASv (ASv (ATt zy (fun x zz ye=>ASv (ATt ye (fun _ yb yd=>ATC (ATC ⟨rfl,yd⟩)) fun _ _ h'=>h')) fun _ _ h'=>h'))
def PTs(X:Cx)(ifs:List Expr)(t:TT):Prop :=
 ∀(aA:List (Addr×Obj)) (s:Shared) (σ:L2.St) (H:Hp) (Q:Bool->Hp->Prop),Inv X aA σ H s->t σ H Q ->
  wpAny (model X.prog X.w) X.A (forIn ifs true fun c r=>if r=true then do let ok <-isTrue c X.env (eval c X.env);pure (ForInStep.yield ok) else pure (ForInStep.yield r)) (TP X aA σ Q) X.xe s
def PP:TT:=fun _ H Q=>Q true H
theorem PQ{X:Cx}:PTs X [] PP:=fun _ _ _ H _ I h=>wpAny_tests_nil ⟨H,I,h⟩
theorem ZF{X:Cx}{c:Expr}{t:TT}(h:PT X c t):PTs X [c] t:=fun aA s σ H Q I hw=>wpAny_tests_one (h aA s σ H Q I hw)
structure Ph(fsc aK:Scope)(xs:List Str)(js:List Nat)(N N':List Str):Prop where
 eqN:N'=xs++js.map fun j=>N.getD j ""
 fr:∀y∈aK.names,y.2=.free->fsc.names.lookup y.1=some .cell
 cell:∀y∈aK.names,y.2≠.cell
 kind:aK.kind=.function
 nm:∀y∈aK.names,y.2=.local->aK.names.lookup y.1=some .local
 js:∀j∈js,j<N.length/\aK.names.lookup (N.getD j "")=some .free
def Mi(J:It)(tg:TG)(tt:Shared->Hp->Addr->List Addr->TT)(te:Shared->Hp->Addr->List Addr->TE)(nx:Nat)(js:List Nat)(σ:L2.St)(Q:VK)(H1:Hp):Prop:=∀D,H1 D=none->∃W:Nat->Nat->List V->Hp->Prop,(∃m,W 0 m [] (upd H1 D (.lst []))) /\
 ∀i m ys H,W i m ys H->H D=some (.lst ys)/\((J.stop i H/\Q (.ref D) H)\/(J.go i H/\∀x H',J.yld i H x H'->∀zb zc C ex (zi:L2.St),zi.length=nx->tg x (zi++js.map fun j=>(σ[j]?).join) H' fun zk H2 =>
  (∃ya:L2.St,zk=ya++(js.map fun j=>(σ[j]?).join)/\ya.length=nx)/\tt zb zc C ex zk H2 fun b H3=>if b=true then te zb zc C ex zk H3 fun y H4 =>
   H4 D=some (.lst ys)/\ys.length<sizeLine/\∃m',m'<m/\W (i+1) m' (ys++[y]) (upd H4 D (.lst (ys++[y])))
  else H3 D=some (.lst ys)/\∃m',m'<m/\W (i+1) m' ys H3))
def Xr(wi:TI)(tg:TG)(tt:Shared->Hp->Addr->List Addr->TT)(te:Shared->Hp->Addr->List Addr->TE)(nx:Nat)(js:List Nat):TE:=fun σ H Q=>wi σ H fun J H1=>Mi J tg tt te nx js σ Q H1
theorem Kh{X:Cx}{elt iter target:Expr}{ifs:List Expr}{pos pos':Pos}{aK:Scope}{wi:TI}{tg:TG}{tt:Shared->Hp->Addr->List Addr->TT}{te:Shared->Hp->Addr->List Addr->TE}(xs:List Str)(js:List Nat){N':List Str}{fsc:Scope}{N:List Str}(ok:Ph fsc aK xs js N N')(hi:PI X target iter wi)(hg:∀zb zc C ex,PG (blk X aK N' zb zc C ex) target tg)(ht:∀zb zc C ex,PTs (blk X aK N' zb zc C ex) ifs (tt zb zc C ex))
  (he:∀zb zc C ex,PE (blk X aK N' zb zc C ex) elt (te zb zc C ex)) (hc:X.calm=true) (hsc:X.env.scope=fsc) (fu:X.N=N) (hs:∀x,foldedSetIterable iter X.env x=pure x)
  (use:Option (Value->Sem Unit)) (R:Value->Shared->Prop) {aA:List (Addr×Obj)} {s:Shared} {σ:L2.St} {H:Hp} {Q:VK} (I:Inv X aA σ H s) (h:Xr wi tg tt te xs.length js σ H Q)
  (hfin:∀(D C:Addr) (s6:Shared) (H5:Hp) (m6:Str->Option Value) (r:Flow),Inv X aA σ H5 s6->HX X aA H5 C->s6.heap.Ns C m6->Q (.ref D) H5->compPost (model X.prog X.w) X.A X.xe use R (.ref D) C (.ok r) s6) :
  wpAny (model X.prog X.w) X.A (comprehension (.ListComp elt [⟨target,iter,ifs,0⟩] aK pos) aK X.env pos' (newList []) false (eval iter X.env) use) R X.xe s:=by
 have qq:X.env.scope.kind=.function:=I.ok.kind;have hfree:∀y∈aK.names,y.2=.free->∃c,X.env.cells.lookup y.1=some c:=fun y hy hk=>I.ok.has y.1 (.inl (by show X.env.scope.names.lookup y.1=_;rw[hsc];exact ok.fr y hy hk));have hcl:∀y c,(clo aK X.env).lookup y=some c->X.env.cells.lookup y=some c:=fun y c e=>by
  obtain⟨m,e2⟩:=AJm e;obtain⟨c',e3⟩:=hfree _ m rfl;rw[e3]at e2;rw[e3,e2];rfl
 refine wpAny_comprehension_free (use:=use) rfl hs (X7 hfree) ok.kind ok.nm ?_;refine thn (hi aA s σ H _ I h) fun v s1 h1=>thn h1 fun itv s2 h2=>?_;obtain⟨it,fp,tn,J,H2,e,I2,T,st2,f2,hw⟩:=h2;subst e;have hD:H2 s2.heap.objs.size=none:=I2.hok.fresh (Nat.le_refl _);obtain⟨W,⟨m0,w0⟩,turn⟩:=hw _ hD;refine AVw ?_ (by show 0<=sizeLine;decide);have I3:Inv X aA σ (upd H2 s2.heap.objs.size (.lst [])) { s2 with heap:=s2.heap.push { cls:=.type "list",data:=.seq ([]:List Value).toArray } }:=I2.lnew (t':=s2.toks) .nil (by show 0<=sizeLine;decide);generalize hs3:({ s2 with heap:=s2.heap.push { cls:=.type "list",data:=.seq ([]:List Value).toArray } }:Shared)=s3 at I3 ⊢;have hsz:s3.heap.objs.size=s2.heap.objs.size+1:=by rw[<-hs3,AUM]
 generalize qt:s2.heap.objs.size=D at *;have n5:tn 0 s3.heap:=T.keep 0 s2.heap _ st2 fun b hb o e=>by rw[<-hs3];exact ASw _ e
 have qu:∀b∈fp,b≠D:=fun b hb z=>by
  obtain⟨o,e,_⟩:=T.obj 0 _ st2 b hb;rw[z,<-qt]at e;exact absurd (ASy e) (AUV _)
 have f3:∀b∈fp,upd H2 D (.lst []) b=none:=fun b hb=>by rw[Az (qu b hb)];exact(f2 b hb).1
 refine wpAny_newFunctionEnv ok.cell (by intro y hy;simp at hy) (fun h4 hns hsb=>?_) ok.kind;generalize jU:s3.heap.objs.size=C at *;have oa:∀b o,s3.heap.get? b=some o->b<C:=fun b o e=>by
  rw[<-jU];exact ASy e
 have dW:∀b o,s3.heap.get? b=some o->h4.get? b=some o:=fun b o e=>by
  rw[hsb.2 b (ATR (oa b o e))];exact ASw _ e
 have jV:(blk X aK N' s3 (upd H2 D (.lst [])) C fp).Ok:=by
  refine⟨I3.ok.mod,?_,I3.ok.glob,I3.ok.blt,?_,fun y z c h1 h2=>I3.ok.inj y z c (hcl y c h1) (hcl z c h2),fun y hy=>?_,fun y c h1 _=>?_,I3.ok.hd,I3.ok.frames,.inl rfl,fun b hb=>?_,I3.bs,?_,fun b o e hb=>?_,fun b hb hz=>?_,I3.stack,I3.stkFree⟩
  .exact ok.kind
  .exact AVh jU
  .have hy':(relabel aK X.env).names.lookup y=some .cell\/(relabel aK X.env).names.lookup y=some .free:=hy;cases hk:aK.names.lookup y with
   | none =>
    rw[UV hk]at hy';rcases hy' with z | z<;>cases z
   | some k =>
    have hm:(y,k)∈aK.names:=ATj hk;by_cases hkf:k=.free
    .subst hkf;exact Yz hm
    .have hb:(k==NameKind.free)=false:=by simpa using hkf
     rw[En hk]at hy';simp only[hb,AWU,AT5,if_false]at hy';rcases hy' with z|z
     .exact absurd (AS5 z) (ok.cell _ hm)
     .exact absurd (AS5 z) hkf
  .exact absurd (show false=true from h1) AS3
  .walk_at "aa";refine⟨fun z=>?_,fun y c e=>g4 y c (hcl y c e)⟩;obtain⟨o,e,_⟩:=T.obj 0 _ n5 b hb;have z':b=C:=z;have l:=oa b o e;rw[z']at l;exact absurd l (AUV _)
  .exact ATG I3.ok.bsz I3.sz
  .walk_at "aa";rcases g3 with z|z
   .exact I3.ok.noex b o e z
   .exact absurd (ATB (ASy e) (ATG I3.ok.bsz z)) (AUV _)
  .walk_at "aa";rcases AS2.mp (I3.stkSub b hz) with z|z
   .exact g1 z
   .exact g2 z
 have gT:H2 C=none/\upd H2 D (.lst []) C=none:=by
  have q:upd H2 D (.lst []) C=none:=I3.hok.fresh (AVh jU);refine⟨?_,q⟩;rw[Az (by rw[hsz];exact Nat.succ_ne_self D)]at q;exact q
 have I4:Inv (blk X aK N' s3 (upd H2 D (.lst [])) C fp) [] (List.replicate xs.length none++js.map fun j=>(σ[j]?).join) (upd H2 D (.lst [])) { s3 with heap:=h4,toks:=s3.toks+([]:List (Str×Value)).length }:=by
  refine⟨jV,rfl,I3.bare,Un.kept dW,⟨_,hns,fun i y v h1 h2 h3=>?_⟩,fun y c e=>?_,gT.2,fun y c e=>I3.freeC y c (hcl y c e),fun p hp=>absurd (show p∈([]:List (Addr×Obj)) from hp) (by simp),I3.hok.kept dW,?_⟩
  .have h1':(xs++js.map fun j=>N.getD j "")[i]?=some y:=by rw[<-ok.eqN];exact h1
   by_cases hi:i<xs.length
   .rw[ATi (by rw[ATZ];exact hi),AU6]at h2;rw[if_pos hi]at h2;cases h2
   .rw[ATD (by omega),AS4]at h1';rw[ATD (by rw[ATZ];omega),ATZ,AS4]at h2;cases ej:js[i-xs.length]? with
    | none=>rw[ej]at h2;cases h2
    | some j =>
     rw[ej]at h1' h2;obtain⟨jl,jf⟩:=ok.js j (ATp ej);have ey:N.getD j ""=y:=AS5 h1';have ev:(σ[j]?).join=some v:=AS5 h2;have ev':σ[j]?=some (some v):=by
      cases q:σ[j]? with
      | none=>rw[q]at ev;cases ev
      | some o=>rw[q]at ev;rw[show o=some v from ev]
     have eN:X.N[j]?=some y:=by rw[fu,<-ey,ASu,Io jl];rfl
     rw[ey]at jf;have kX:X.env.scope.names.lookup y=some .cell:=by rw[hsc];exact ok.fr (y,.free) (ATj jf) rfl
     obtain⟨m3,n3,l3⟩:=I3.loc;obtain⟨u,ru,lk⟩:=l3 j y v eN ev' (.inr (.inl kX));refine⟨u,ru,.inr ⟨?_,?_⟩⟩
     .left
      show(relabel aK X.env).names.lookup y=some .cell;rw[En jf];have k2:X.env.kindOf y=some .cell:=kX;rw[qq,k2];rfl
     .rcases lk with⟨z,_⟩|⟨_,c,hc1,hc2⟩
      .have z':X.env.scope.names.lookup y=some .local:=z;rw[kX]at z';cases z'
      .obtain⟨c',e'⟩:=Yz (env:=X.env) (ATj jf);have:c'=c:=by
        have q:=hcl y c' e';rw[hc1]at q;exact(AS5 q).symm
       subst this;obtain⟨oc,ho,hd⟩:=hc2;exact⟨c',e',oc,dW _ _ ho,hd⟩
  .obtain⟨v,oc,ho,hd⟩:=I3.cell y c (hcl y c e);exact⟨v,oc,dW _ _ ho,hd⟩
  .show(List.replicate xs.length none++js.map _).length=N'.length;rw[ok.eqN];simp
 have stat:∀{H':Hp},(∀b∈fp,H' b=none)->∀b∈fp,HX (blk X aK N' s3 (upd H2 D (.lst [])) C fp) [] H' b:=fun hn b hb=>by
  walk_at "aa";exact⟨hn b hb,(jV.exf b hb).1,jV.exfs b hb,.inl hb,(jV.exf b hb).2,fun p hp=>absurd (show p∈([]:List (Addr×Obj)) from hp) (by simp)⟩
 have loop:∀s':Shared,Inv (blk X aK N' s3 (upd H2 D (.lst [])) C fp) [] (List.replicate xs.length none++js.map fun j=>(σ[j]?).join) (upd H2 D (.lst [])) s'->tn 0 s'.heap ->
   codeAny (model X.prog X.w) X.A (.compLoop (.ListComp elt [⟨target,iter,ifs,0⟩] aK pos) 0 (.ref it) (.ref D) (compEnvC aK (clo aK X.env) C X.env)) (compPost (model X.prog X.w) X.A X.xe use R (.ref D) C) s':=by
  rintro s' I' t0;refine Uh (fun m s=>∃i ys H',Inv (blk X aK N' s3 (upd H2 D (.lst [])) C fp) [] (List.replicate xs.length none++js.map fun j=>(σ[j]?).join) H' s/\tn i s.heap/\(∀b∈fp,H' b=none)/\W i m ys H') ?_ m0 ⟨0,[],_,I',t0,f3,w0⟩;rintro m s5 ⟨i,ys,H5,I5,t5,jS,w5⟩;obtain⟨bj,tt'⟩:=turn i m ys H5 w5;rcases tt' with⟨stop,qn⟩|⟨go,step⟩
  .refine thn (T.done (blk X aK N' s3 (upd H2 D (.lst [])) C fp) rfl rfl rfl hc i [] s5 _ H5 _ I5 (stat jS) t5 stop) fun r s6 ⟨hr,I6⟩=>?_;subst hr;obtain⟨m6,n6,_⟩:=I6.loc;have I7:Inv X aA σ H5 s6:=I3.call' (s':=s6) I6.os I6.base I6.hok I6.bare fun b hb=>by
    walk_at "aa";exact⟨g3,g1,g4,g5⟩
   exact hfin D C s6 H5 m6 _ I7 (I3.fpOk (AVh jU) I6.free) n6 qn
  .refine thn (T.item (blk X aK N' s3 (upd H2 D (.lst [])) C fp) rfl rfl rfl hc i [] s5 _ H5 _ I5 (stat jS) t5 go) fun r s6 ⟨u,hr,h6⟩=>?_;subst hr;refine thn h6 fun _ s7 ⟨xv,H6,I6,rx,y6,t6,qv⟩=>?_;have qw:=I6.pinned (stat qv) (T.obj _ _ t6);have back:∀{fc:Hp} {dN:Shared} {zk zi:L2.St},zk=zi++(js.map fun j=>(σ[j]?).join)->zi.length=xs.length->Inv (blk X aK N' s3 (upd H2 D (.lst [])) C fp) ([]++QB fp s7.heap) zk fc dN ->
     Inv (blk X aK N' s3 (upd H2 D (.lst [])) C fp) [] (List.replicate xs.length none++js.map fun j=>(σ[j]?).join) fc dN/\tn (i+1) dN.heap/\∀b∈fp,fc b=none:=by
    intro fc dN zk zi e1 e2 gU;subst e1;refine⟨(Inv.unpinned (aA:=[]) gU).weak (by simp[e2]) fun k v hk=>?_,T.keep _ _ _ t6 fun b hb o e=>(gU.pin (b,o) (ATE _ (ATE _ (FN hb e)))).1,fun b hb=>?_⟩
    .by_cases hk':k<xs.length
     .rw[ATi (by rw[ATZ];exact hk'),AU6,if_pos hk']at hk;cases hk
     .rw[ATD (by rw[ATZ];omega),ATZ]at hk;rw[ATD (by omega),e2];exact hk
    .obtain⟨o,e,d⟩:=T.obj _ _ t6 b hb;exact(gU.pin (b,o) (ATE _ (ATE _ (FN hb e)))).2.1
   have st0:=step xv H6 y6 s3 (upd H2 D (.lst [])) C fp (List.replicate xs.length none) (ATZ ..);refine ATt (hg s3 (upd H2 D (.lst [])) C fp _ s7 _ H6 xv u _ qw rx st0) (fun _ s8 h8=>?_) (fun _ _ z=>False.elim z);obtain⟨zk,H8,I8,⟨zi,e1,e2⟩,q8⟩:=h8;refine ATt (ht s3 (upd H2 D (.lst [])) C fp _ s8 zk H8 _ I8 q8) (fun ok' s9 h9=>?_) (fun _ _ z=>False.elim z);obtain⟨H9,I9,q9⟩:=h9;cases ok' with
   | false =>
    have i0:=q9;rw[if_neg AS3]at i0;obtain⟨xS,m',hm',w9⟩:=i0;show if false=true then _ else _
    rw[if_neg AS3];obtain⟨gU,qz,qA⟩:=back e1 e2 I9;exact⟨m',hm',i+1,ys,H9,gU,qz,qA,w9⟩
   | true =>
    have i0:=q9;rw[if_pos rfl]at i0;show if true=true then _ else _
    rw[if_pos rfl];refine ATt (he s3 (upd H2 D (.lst [])) C fp _ s9 zk H9 _ I9 i0) (fun yv dN h10=>?_) (fun _ _ z=>False.elim z);obtain⟨y,fc,gU,ry,kM,hlt,m',hm',w10⟩:=h10;refine ATt (Cw (X:=blk X aK N' s3 (upd H2 D (.lst [])) C fp) _ dN _ fc (.ref D) [y] (.ref D) [yv] (fun _ oj=>oj=upd fc D (.lst (ys++[y]))) gU rfl (.cons ry .nil) ⟨D,ys,y,rfl,rfl,kM,hlt,rfl⟩) (fun xT i3 h11=>?_) (fun _ _ z=>False.elim z);obtain⟨xU,qB,qC,r12,qD⟩:=h11;subst qD;obtain⟨J1,J2,J3⟩:=back e1 e2 qC;exact⟨m',hm',i+1,ys++[y],_,J1,J2,J3,w10⟩
 have kN:tn 0 h4:=T.keep 0 _ _ n5 fun b _ o e=>dW b o e;exact codeAny_compStart_list (loop _ I4 kN) (T.self X.A 0 _ _ _ kN (loop _ I4 kN))
theorem T5{X:Cx}{aK:Scope}{N':List Str}{zb:Shared}{zc:Hp}{C:Addr}{ex:List Addr}{i:Nat}{x:Str}{px:Pos}(nd:N'.Nodup)(hi:N'[i]?=some x)(hl:aK.names.lookup x=some .local):PG (blk X aK N' zb zc C ex) (.Name x px) (El i) :=
 ZV (X:=blk X aK N' zb zc C ex) nd hi (.inl (by
  show(relabel aK X.env).names.lookup x=some .local;rw[En hl];rfl)) (.inr (by
  show(relabel aK X.env).names.lookup x=some .local;rw[En hl];rfl))
theorem ADu{X:Cx}{tg iter:Expr}{wi:TI}(h:PI X tg iter wi):PI X tg iter (fun σ H R=>∃R':It->Hp->Prop,wi σ H R'/\∀J H1,R' J H1->R J H1):=by
 intro aA s σ H R I hw;obtain⟨R',hw,hm⟩:=hw;refine thn (h aA s σ H R' I hw) fun v s1 h1=>thn h1 fun itv s2 h2=>?_;obtain⟨it,fp,tn,J,H2,e,I2,T,st2,f2,hr⟩:=h2;exact⟨it,fp,tn,J,H2,e,I2,T,st2,f2,hm J H2 hr⟩
theorem Sh{X:Cx}{elt iter:Expr}{x:Str}{px pos pos':Pos}{aK:Scope}{wi:TI}{te:Shared->Hp->Addr->List Addr->TE}(js:List Nat){N':List Str}{fsc:Scope}{N:List Str}(ok:YQ fsc aK x js N N')(hi:PI X (.Name x px) iter wi)
  (he:∀zb zc C ex,PE (blk X aK N' zb zc C ex) elt (te zb zc C ex)) (hc:X.calm=true) (hsc:X.env.scope=fsc) (fu:X.N=N) (hs:∀x,foldedSetIterable iter X.env x=pure x)
  (use:Option (Value->Sem Unit)) (R:Value->Shared->Prop) {aA:List (Addr×Obj)} {s:Shared} {σ:L2.St} {H:Hp} {Q:VK} (I:Inv X aA σ H s) (h:ACI wi te js σ H Q)
  (hfin:∀(D C:Addr) (s6:Shared) (H5:Hp) (m6:Str->Option Value) (r:Flow),Inv X aA σ H5 s6->HX X aA H5 C->s6.heap.Ns C m6->Q (.ref D) H5->compPost (model X.prog X.w) X.A X.xe use R (.ref D) C (.ok r) s6) :
  wpAny (model X.prog X.w) X.A (comprehension (.ListComp elt [⟨.Name x px,iter,[],0⟩] aK pos) aK X.env pos' (newList []) false (eval iter X.env) use) R X.xe s:=by
 have ej:(js.map fun j=>N.getD j x)=js.map fun j=>N.getD j "":=List.map_congr_left fun j hj=>by
  have:=(ok.js j hj).1;rw[ASu,ASu,Io this];rfl
 have ok':Ph fsc aK [x] js N N':=⟨by rw[ok.eqN,ej];rfl,ok.fr,ok.cell,ok.kind,ok.nm,fun j hj=>by
  have:=ok.js j hj;have e:N.getD j x=N.getD j "":=by rw[ASu,ASu,Io this.1];rfl
  rw[e]at this;exact this⟩
 refine Kh (ifs:=[]) (tg:=El 0) (tt:=fun _ _ _ _=>PP) (te:=te) [x] js ok' (ADu hi) (fun zb zc C ex=>T5 ok.nd (by rw[ok.eqN];rfl) ok.xl) (fun _ _ _ _=>PQ) he hc hsc fu hs use R I ?_ hfin;refine⟨_,h,fun J H1 hw D hD=>?_⟩;obtain⟨W,w0,turn⟩:=hw D hD;refine⟨W,w0,fun i m ys H2 w=>?_⟩;obtain⟨e,t⟩:=turn i m ys H2 w;refine⟨e,t.imp id fun⟨go,y⟩=>⟨go,fun v H' yl zb zc C ex zi h0=>?_⟩⟩;obtain⟨o,rfl⟩:∃o,zi=[o]:=by
  match zi,h0 with
  | [o],_=>exact⟨o,rfl⟩
 exact⟨⟨[some v],rfl,rfl⟩,y v H' yl zb zc C ex⟩
theorem Ce{X:Cx}{elt iter:Expr}{x:Str}{px pos:Pos}{aK:Scope}{wi:TI}{te:Shared->Hp->Addr->List Addr->TE}(js:List Nat){N':List Str}{fsc:Scope}{N:List Str}(ok:YQ fsc aK x js N N')(hi:PI X (.Name x px) iter wi)
  (he:∀zb zc C ex,PE (blk X aK N' zb zc C ex) elt (te zb zc C ex)) (hc:X.calm=true:=by rfl) (hsc:X.env.scope=fsc:=by rfl) (fu:X.N=N:=by rfl) (hs:∀x,foldedSetIterable iter X.env x=pure x:=by intro _;rfl) :
  PE X (.ListComp elt [⟨.Name x px,iter,[],0⟩] aK pos) (ACI wi te js):=by
 walk_at "k";rw[eval_ListComp];exact Sh js ok hi he hc hsc fu hs none _ I h fun D C s6 H5 m6 _ I6 f6 n6 q=>⟨m6,n6,fun h7 sb=>⟨.ref D,H5,O8 I6 f6 sb,rfl,q⟩⟩
theorem K1{X:Cx}{elt iter:Expr}{x y:Str}{px py pos spos:Pos}{i:Nat}{aK:Scope}{wi:TI}{te:Shared->Hp->Addr->List Addr->TE}(hN:X.N.Nodup)(hi':X.N[i]?=some y)(hy:Loc X.env.scope y)
  (js:List Nat) {N':List Str} {fsc:Scope} {N:List Str} (ok:YQ fsc aK x js N N') (hi:PI X (.Name x px) iter wi)
  (he:∀zb zc C ex,PE (blk X aK N' zb zc C ex) elt (te zb zc C ex)) (hsw:swapsWith (.ListComp elt [⟨.Name x px,iter,[],0⟩] aK pos) (some (.Name y py)) spos.line X.env=pure true:=by rfl)
  (hc:X.calm=true:=by rfl) (hsc:X.env.scope=fsc:=by rfl) (fu:X.N=N:=by rfl) (hs:∀x,foldedSetIterable iter X.env x=pure x:=by intro _;rfl)
  (hf:X.fn y=true\/X.env.scope.names.lookup y=some .local:=by first | exact .inl rfl | exact .inr rfl | assumption) :
  PS X (.Assign [.Name y py] (.ListComp elt [⟨.Name x px,iter,[],0⟩] aK pos) spos) (ABW (ACI wi te js) (El i)):=by
 intro aA s σ H D I h;rw[exec_Assign_Name_used _ _ _ _ hsw];refine ASv (AVz (ASv ?_));show wpAny _ X.A (do let _ <-comprehension (.ListComp elt [⟨.Name x px,iter,[],0⟩] aK pos) aK X.env _ (newList []) false (eval iter X.env) (some (assign (.Name y py) X.env))) _ _ s;refine ASv (ATt (Sh js ok hi he hc hsc fu hs (some (assign (.Name y py) X.env)) (fun _ s'=>SP X aA D .next s') I h ?_) (fun _ s' hq=>ATC (ATC hq)) fun _ _ e=>e);intro D' C s6 H5 m6 r I6 f6 n6 q;show wpAny _ X.A (assign (.Name y py) X.env (.ref D')) _ _ _;obtain⟨o6,es,ep,ho,hd,hrest⟩:=id n6;have Ip:=I6.pinned (fp:=[C]) (fun b hb=>by
  walk_at "aN"
  subst e;exact f6) (fun b hb=>by
  walk_at "aN"
  subst e;exact⟨o6,ho,fun v z=>by rw[hd]at z;cases z⟩)
 (refine AVr (Jm (i:=i) Ip hN hi' hy (v:=.ref D') rfl (fun s7 I7=>?_) hf);refine⟨m6,n6.at fun o e=>(I7.pin (C,o) (ATE _ (ATE _ (FN ATq e)))).1,fun h7 sb=>?_⟩;exact⟨_,H5,O8 I7.unpinned f6 sb,q⟩)
theorem Qe{X:Cx}{elt iter target:Expr}{ifs:List Expr}{pos:Pos}{aK:Scope}{wi:TI}{tg:TG}{tt:Shared->Hp->Addr->List Addr->TT}{te:Shared->Hp->Addr->List Addr->TE}(xs:List Str)(js:List Nat){N':List Str}{fsc:Scope}{N:List Str}(ok:Ph fsc aK xs js N N')(hi:PI X target iter wi)(hg:∀zb zc C ex,PG (blk X aK N' zb zc C ex) target tg)(ht:∀zb zc C ex,PTs (blk X aK N' zb zc C ex) ifs (tt zb zc C ex))
  (he:∀zb zc C ex,PE (blk X aK N' zb zc C ex) elt (te zb zc C ex)) (hc:X.calm=true:=by rfl) (hsc:X.env.scope=fsc:=by rfl) (fu:X.N=N:=by rfl) (hs:∀x,foldedSetIterable iter X.env x=pure x:=by intro _;rfl) :
  PE X (.ListComp elt [⟨target,iter,ifs,0⟩] aK pos) (Xr wi tg tt te xs.length js):=by
 walk_at "k";rw[eval_ListComp];exact Kh xs js ok hi hg ht he hc hsc fu hs none _ I h fun D C s6 H5 m6 _ I6 f6 n6 q=>⟨m6,n6,fun h7 sb=>⟨.ref D,H5,O8 I6 f6 sb,rfl,q⟩⟩
theorem Od{X:Cx}{elt iter target:Expr}{ifs:List Expr}{y:Str}{py pos spos:Pos}{i:Nat}{aK:Scope}{wi:TI}{tg:TG}{tt:Shared->Hp->Addr->List Addr->TT}{te:Shared->Hp->Addr->List Addr->TE}(hN:X.N.Nodup)(hi':X.N[i]?=some y)(hy:Loc X.env.scope y)
  (xs:List Str) (js:List Nat) {N':List Str} {fsc:Scope} {N:List Str} (ok:Ph fsc aK xs js N N') (hi:PI X target iter wi) (hg:∀zb zc C ex,PG (blk X aK N' zb zc C ex) target tg) (ht:∀zb zc C ex,PTs (blk X aK N' zb zc C ex) ifs (tt zb zc C ex))
  (he:∀zb zc C ex,PE (blk X aK N' zb zc C ex) elt (te zb zc C ex)) (hsw:swapsWith (.ListComp elt [⟨target,iter,ifs,0⟩] aK pos) (some (.Name y py)) spos.line X.env=pure true:=by rfl)
  (hc:X.calm=true:=by rfl) (hsc:X.env.scope=fsc:=by rfl) (fu:X.N=N:=by rfl) (hs:∀x,foldedSetIterable iter X.env x=pure x:=by intro _;rfl)
  (hf:X.fn y=true\/X.env.scope.names.lookup y=some .local:=by first | exact .inl rfl | exact .inr rfl | assumption) :
  PS X (.Assign [.Name y py] (.ListComp elt [⟨target,iter,ifs,0⟩] aK pos) spos) (ABW (Xr wi tg tt te xs.length js) (El i)):=by
 intro aA s σ H D I h;rw[exec_Assign_Name_used _ _ _ _ hsw];refine ASv (AVz (ASv ?_));show wpAny _ X.A (do let _ <-comprehension (.ListComp elt [⟨target,iter,ifs,0⟩] aK pos) aK X.env _ (newList []) false (eval iter X.env) (some (assign (.Name y py) X.env))) _ _ s;refine ASv (ATt (Kh xs js ok hi hg ht he hc hsc fu hs (some (assign (.Name y py) X.env)) (fun _ s'=>SP X aA D .next s') I h ?_) (fun _ s' hq=>ATC (ATC hq)) fun _ _ e=>e);intro D' C s6 H5 m6 r I6 f6 n6 q;show wpAny _ X.A (assign (.Name y py) X.env (.ref D')) _ _ _;obtain⟨o6,es,ep,ho,hd,hrest⟩:=id n6;have Ip:=I6.pinned (fp:=[C]) (fun b hb=>by
  walk_at "aN"
  subst e;exact f6) (fun b hb=>by
  walk_at "aN"
  subst e;exact⟨o6,ho,fun v z=>by rw[hd]at z;cases z⟩)
 (refine AVr (Jm (i:=i) Ip hN hi' hy (v:=.ref D') rfl (fun s7 I7=>?_) hf);refine⟨m6,n6.at fun o e=>(I7.pin (C,o) (ATE _ (ATE _ (FN ATq e)))).1,fun h7 sb=>?_⟩;exact⟨_,H5,O8 I7.unpinned f6 sb,q⟩)
theorem Pa{X:Cx}{aK:Scope}{N':List Str}{zb:Shared}{zc:Hp}{C:Addr}{ex:List Addr}{i j:Nat}{x y:Str}{px py pt:Pos}{k}(hc:X.calm=true)(nd:N'.Nodup)(hi:N'[i]?=some x)(hl:aK.names.lookup x=some .local)(hj:N'[j]?=some y)(hl2:aK.names.lookup y=some .local) :
  PG (blk X aK N' zb zc C ex) (.Tuple [.Name x px,.Name y py] k pt) (ACg X.K 2 (LK (El i) (LK (El j) AAy))) :=
 JV (X:=blk X aK N' zb zc C ex) hc (Bk (T5 nd hi hl) (Bk (T5 nd hj hl2) Ga))
mutual
inductive Dv(H:Hp):V->PyData->Prop
 | non:Dv H .non .none
 | bl (b:Bool):Dv H (.bl b) (.bool b)
 | int (i:Int):Dv H (.int i) (.int i)
 | str (x:Str) (ok:(PyData.str x).canLay0=true):Dv H (.str x) (.str x)
 | lst {a:Addr} {xs:List V} {ds:List PyData}:H a=some (.lst xs)->DvAll H xs ds->Dv H (.ref a) (.list ds)
 | tup {a:Addr} {xs:List V} {ds:List PyData}:H a=some (.tup xs)->DvAll H xs ds->Dv H (.ref a) (.tuple ds)
inductive DvAll(H:Hp):List V->List PyData->Prop
 | nil:DvAll H [] []
 | cons {v:V} {vs:List V} {d:PyData} {ds:List PyData}:Dv H v d->DvAll H vs ds->DvAll H (v::vs) (d::ds)
end
mutual
theorem Dv.keep{H H':Hp}(s:Am H H'):∀{v:V} {d:PyData},Dv H v d->Dv H' v d
 | _,_,.non=>.non
 | _,_,.bl b=>.bl b
 | _,_,.int i=>.int i
 | _,_,.str x ok=>.str x ok
 | _,_,.lst h r=>.lst (s _ _ h) (DvAll.keep s r)
 | _,_,.tup h r=>.tup (s _ _ h) (DvAll.keep s r)
theorem DvAll.keep{H H':Hp}(s:Am H H'):∀{vs:List V} {ds:List PyData},DvAll H vs ds->DvAll H' vs ds
 | _,_,.nil=>.nil
 | _,_,.cons h r=>.cons (Dv.keep s h) (DvAll.keep s r)
end
mutual
theorem Dv.can{H:Hp}:∀{v:V} {d:PyData},Dv H v d->d.canLay0=true
 | _,_,.non=>rfl
 | _,_,.bl _=>rfl
 | _,_,.int _=>rfl
 | _,_,.str _ ok=>ok
 | _,_,.lst _ r=>by rw[PyData.canLay0];exact DvAll.can r
 | _,_,.tup _ r=>by rw[PyData.canLay0];exact DvAll.can r
theorem DvAll.can{H:Hp}:∀{vs:List V} {ds:List PyData},DvAll H vs ds->PyData.canLayAll0 ds=true
 | _,_,.nil=>rfl
 | _,_,.cons h r=>by rw[PyData.canLayAll0,Dv.can h,DvAll.can r];rfl
end
section
variable {X:Cx}{aA:List (Addr×Obj)}{σ:L2.St}{H:Hp}{s:Shared}
mutual
theorem Dv.reads(I:Inv X aA σ H s):∀{v:V} {d:PyData} {u:Value},Dv H v d->Bc v u->∃as,Reads s.heap u d as
 | _,_,_,.non,r=>by cases r;exact⟨_,.none⟩
 | _,_,_,.bl b,r=>by cases r;exact⟨_,.bool b⟩
 | _,_,_,.int i,r=>by obtain⟨t,rfl⟩:=r;exact⟨_,.int i t⟩
 | _,_,_,.str x _,r=>by obtain⟨t,rfl⟩:=r;exact⟨_,.str x t⟩
 | _,_,_,.lst h q,r=>by
  cases r;obtain⟨its,rv,p,_⟩:=I.list (SqL.of h);obtain⟨o,e,hc,n,hd⟩:=p.isList;obtain⟨as,ra⟩:=DvAll.reads I q rv;exact⟨_,.list e hc hd ra⟩
 | _,_,_,.tup h q,r=>by
  cases r;obtain⟨its,rv,p,_⟩:=I.tuple (SqT.of h);obtain⟨o,e,hc,n,hd⟩:=p;obtain⟨as,ra⟩:=DvAll.reads I q rv;exact⟨_,.tuple e hc hd ra⟩
theorem DvAll.reads(I:Inv X aA σ H s):∀{vs:List V} {ds:List PyData} {us:List Value},DvAll H vs ds->BW vs us->∃as,ReadsAll s.heap us ds as
 | _,_,_,.nil,.nil=>⟨_,.nil⟩
 | _,_,_,.cons h q,.cons r rs=>by
  obtain⟨as,ra⟩:=Dv.reads I h r;obtain⟨bs,rb⟩:=DvAll.reads I q rs;exact⟨_,.cons ra rb⟩
end
end
def AMG(c:Bool->Bool):R2:=fun x y H Q=>∃dx dy,Dv H x dx/\Dv H y dy/\dx.depth<=60/\Q (.bl (c (PyData.eqv dx dy))) H
theorem ACz{X:Cx}(hu:X.A.units+64<cLine):OpR X (compareOp .Eq) (AMG fun b=>b):=by
 walk_at "m";(obtain⟨dx,dy,hx,hy,hd,q⟩:=h;obtain⟨as,ra⟩:=hx.reads I rx;obtain⟨bs,rb⟩:=hy.reads I ry);exact SeqAt.compareEq_reads ra rb hx.can hy.can (by have:=Nat.min_le_left dx.depth dy.depth;omega) ⟨.bl _,H,I,rfl,q⟩
theorem Xb{X:Cx}(hu:X.A.units+64<cLine):OpR X (compareOp .NotEq) (AMG fun b=>!b):=by
 walk_at "m";(obtain⟨dx,dy,hx,hy,hd,q⟩:=h;obtain⟨as,ra⟩:=hx.reads I rx;obtain⟨bs,rb⟩:=hy.reads I ry);exact SeqAt.compareNe_reads ra rb hx.can hy.can (by have:=Nat.min_le_left dx.depth dy.depth;omega) ⟨.bl _,H,I,rfl,q⟩
theorem Oe{α β:Type}{F:α->β->Prop}:∀{xs:List α} {ys:List β} {x:α},Paired F xs ys->x∈xs->∃y,y∈ys/\F x y
 | _,_,_,.nil,h=>by simp at h
 | _,_,_,.cons a r,h=>by
  rcases AS2.mp h with e|e
  .exact⟨_,ATq,by rw[e];exact a⟩
  .obtain⟨y,hy,q⟩:=Oe r e;exact⟨y,ATS _ hy,q⟩
def Pq(H:Hp)(p:Addr)(q:Rat):Prop:=Pr H p q.num q.den
theorem Pq.keep{H H':Hp}{p:Addr}{q:Rat}(h:Pq H p q)(s:Am H H'):Pq H' p q:=s _ _ h
theorem Pq.sq{K:W.Frag}{H:Hp}{p:Addr}{q:Rat}(h:Pq H p q):SqT K H p [.int q.num,.int q.den]:=SqT.of h
theorem Pq.of{H:Hp}{p:Addr}{x y:Int}{q:Rat}(h:Pr H p x y)(e:q.num=x/\(q.den:Int)=y):Pq H p q:=by
 unfold Pq;rw[e.1,e.2];exact h
abbrev Pqs(H:Hp):List Addr->List Rat->Prop:=Paired (Pq H)
theorem Pqs.keep{H H':Hp}{ps:List Addr}{qs:List Rat}(h:Pqs H ps qs)(s:Am H H'):Pqs H' ps qs:=Paired.imp' (fun _ _ z=>z.keep s) h
def Rw(H:Hp)(a:Addr)(qs:List Rat):Prop:=∃ps:List Addr,H a=some (.lst (ps.map V.ref))/\Pqs H ps qs
theorem Rw.keep{H H':Hp}{a:Addr}{qs:List Rat}(h:Rw H a qs)(s:Am H H'):Rw H' a qs:=by
 obtain⟨ps,h1,h2⟩:=h;exact⟨ps,s _ _ h1,h2.keep s⟩
theorem Pqs.get:∀{H:Hp} {ps:List Addr} {qs:List Rat} {i:Nat} {q:Rat},Pqs H ps qs->qs[i]?=some q->∃p,(ps.map V.ref)[i]?=some (.ref p)/\Pq H p q
 | _,_,_,0,_,.cons h _,e=>by cases e;exact⟨_,rfl,h⟩
 | _,_,_,_+1,_,.cons _ r,e=>by
  rw[ATz]at e;obtain⟨p,h1,h2⟩:=Pqs.get r e;exact⟨p,by rw[List.map_cons,ATz];exact h1,h2⟩
theorem Pqs.take:∀{H:Hp} {ps:List Addr} {qs:List Rat} (n:Nat),Pqs H ps qs->Pqs H (ps.take n) (qs.take n)
 | _,_,_,0,_=>.nil
 | _,_,_,_+1,.nil=>.nil
 | _,_,_,n+1,.cons h r=>.cons h (Pqs.take n r)
theorem Pqs.drop:∀{H:Hp} {ps:List Addr} {qs:List Rat} (n:Nat),Pqs H ps qs->Pqs H (ps.drop n) (qs.drop n)
 | _,_,_,0,h=>h
 | _,_,_,_+1,.nil=>.nil
 | _,_,_,n+1,.cons _ r=>Pqs.drop n r
theorem Pqs.append:∀{H:Hp} {ps rs:List Addr} {qs ts:List Rat},Pqs H ps qs->Pqs H rs ts->Pqs H (ps++rs) (qs++ts)
 | _,_,_,_,_,.nil,k=>k
 | _,_,_,_,_,.cons h r,k=>.cons h (Pqs.append r k)
theorem Pqs.length{H:Hp}{ps:List Addr}{qs:List Rat}(h:Pqs H ps qs):ps.length=qs.length:=AT8 h
def dq(q:Rat):PyData:=.tuple [.int q.num,.int q.den]
def dr(qs:List Rat):PyData:=.list (qs.map dq)
theorem Pq.dv{H:Hp}{p:Addr}{q:Rat}(h:Pq H p q):Dv H (.ref p) (dq q):=.tup h (.cons (.int _) (.cons (.int _) .nil))
theorem Pqs.dv:∀{H:Hp} {ps:List Addr} {qs:List Rat},Pqs H ps qs->DvAll H (ps.map V.ref) (qs.map dq)
 | _,_,_,.nil=>.nil
 | _,_,_,.cons h r=>.cons h.dv (Pqs.dv r)
theorem Rw.dv{H:Hp}{a:Addr}{qs:List Rat}(h:Rw H a qs):Dv H (.ref a) (dr qs):=by
 obtain⟨ps,h1,h2⟩:=h;exact .lst h1 h2.dv
theorem ACc(p q:Rat):PyData.eqv (dq p) (dq q)=decide (p=q):=by
 show PyData.eqv (.tuple [.int p.num,.int p.den]) (.tuple [.int q.num,.int q.den])=_;simp only[PyData.eqv,PyData.eqvAll,Bool.and_true];by_cases h:p=q
 .subst h;simp
 .rw[decide_eq_false h];by_cases h1:p.num=q.num
  .have h2:¬(p.den:Int)=(q.den:Int):=fun z=>h (Rat.ext h1 (by omega));have:((p.den:Int)==(q.den:Int))=false:=by simpa using h2
   rw[this,Bool.and_false]
  .have:(p.num==q.num)=false:=by simpa using h1
   rw[this,AWU]
theorem ADh(ps qs:List Rat):PyData.eqvAll (ps.map dq) (qs.map dq)=decide (ps=qs):=by
 induction ps generalizing qs with
 | nil=>cases qs<;>simp[PyData.eqvAll]
 | cons p ps ih =>
  cases qs with
  | nil=>simp[PyData.eqvAll]
  | cons q qs =>
   rw[List.map_cons,List.map_cons,PyData.eqvAll,ACc,ih];by_cases h:p=q<;>by_cases k:ps=qs<;>simp[h,k]
theorem AF7(ps qs:List Rat):PyData.eqv (dr ps) (dr qs)=decide (ps=qs):=by
 show PyData.eqv (.list _) (.list _)=_;rw[PyData.eqv];exact ADh ps qs
theorem Mm(q:Rat):(dq q).depth<=2:=by
 show PyData.depth (.tuple [.int q.num,.int q.den])<=2;simp[PyData.depth,PyData.depthAll]
theorem W5(qs:List Rat):PyData.depthAll (qs.map dq)<=2:=by
 induction qs with
 | nil=>simp[PyData.depthAll]
 | cons q qs ih =>
  rw[List.map_cons,PyData.depthAll];exact Nat.max_le.mpr ⟨Mm q,ih⟩
theorem ABe(qs:List Rat):(dr qs).depth<=3:=by
 show PyData.depth (.list _)<=3;rw[PyData.depth];have:=W5 qs;omega
theorem Rw.updO{H:Hp}{a b:Addr}{xs ys:List V}{qs:List Rat}(h:Rw H b qs)(ha:H a=some (.lst xs))(n:b≠a):Rw (upd H a (.lst ys)) b qs:=by
 obtain⟨ps,h1,h2⟩:=h;exact⟨ps,by rw[Az n];exact h1,Paired.imp' (fun p q z=>by
  have z':H p=some (.tup [.int q.num,.int q.den]):=z;show upd H a (.lst ys) p=_;rw[Az (G3 z' ha (by intro w;cases w))];exact z') h2⟩
theorem Rw.lt{H:Hp}{a:Addr}{qs:List Rat}(h:Rw H a qs):∃xs,H a=some (.lst xs)/\xs.length=qs.length:=by
 obtain⟨ps,h1,h2⟩:=h;exact⟨_,h1,by rw[ASt,h2.length]⟩
theorem Rw.app{H H2:Hp}{D p:Addr}{qs:List Rat}{q:Rat}(h:Rw H D qs)(s:Am H H2)(kp:Pq H2 p q) :
  ∃xs,H2 D=some (.lst xs)/\xs.length=qs.length/\Rw (upd H2 D (.lst (xs++[.ref p]))) D (qs++[q]):=by
 obtain⟨ps,h1,h2⟩:=h.keep s;refine⟨_,h1,by rw[ASt,h2.length],ps++[p],by rw[Ag];simp,?_⟩;have up:∀p q,Pq H2 p q->Pq (upd H2 D (.lst (ps.map V.ref++[.ref p]))) p q:=fun p q z=>by
  have z':H2 p=some (.tup [.int q.num,.int q.den]):=z;show upd H2 D _ p=_;rw[Az (G3 z' h1 (by intro w;cases w))];exact z'
 have om:∀r t,Pq H2 r t->Pq (upd H2 D (.lst (ps.map V.ref++[.ref p]))) r t:=fun r t z=>by
  have z':H2 r=some (.tup [.int t.num,.int t.den]):=z;show upd H2 D _ r=_;rw[Az (G3 z' h1 (by intro w;cases w))];exact z'
 exact Pqs.append (Paired.imp' om h2) (.cons (om _ _ kp) .nil)
theorem YZ{α:Type}{xs:List α}{j:Nat}{v:α}(h:xs[j]?=some v):atI xs (0+(j:Int))=some v:=by
 rw[Int.zero_add];exact Dh h
theorem Vj(K:W.Frag):W.kitOne K (.type "list") (.type "list")=some true:=rfl
theorem Jg(q:Rat):PyData.eqv (dq q) (dq q)=true:=by rw[ACc];simp
theorem N8(qs:List Rat):PyData.eqv (dr qs) (dr qs)=true:=by rw[AF7];simp
def drr(fP:List (List Rat)):PyData:=.list (fP.map dr)
def Sx(S:List Addr)(H H':Hp):Prop:=∀b o,b∉S->H b=some o->H' b=some o
theorem Pq.int{H:Hp}{p:Addr}{i:Int}:Pq (upd H p (.tup [.int i,.int 1])) p (i:Rat):=Pq.of Pr.new ⟨rfl,rfl⟩
theorem Rw.copy{H:Hp}{a c:Addr}{qs:List Rat}{xs:List V}(h:Rw H a qs)(e:H a=some (.lst xs))(n:H c=none):Rw (upd H c (.lst xs)) c qs:=by
 obtain⟨ps,e1,e2⟩:=h;rw[e]at e1;have e3:xs=ps.map V.ref:=by
  have:=AS5 e1;injection this
 exact⟨ps,by rw[Ag,e3],e2.keep (Ah n _)⟩
theorem Rw.there{H:Hp}{a:Addr}{qs:List Rat}(h:Rw H a qs):∃xs,H a=some (.lst xs)/\xs.length=qs.length:=h.lt
theorem AKs{α:Type}(f:α->V)(ps:List α)(k:Nat):DP (ps.map f) none (some (k:Int))=(ps.take k).map f:=by
 unfold DP;rw[HT.sIx_none,HT.sIx_nat,ASt,AUB,AWM,AWh];by_cases h:k<=ps.length
 .rw[AWN h]
 .rw[Nat.min_eq_right (by omega),ATb (by rw[ASt];omega),ATb (by rw[ASt];omega)]
theorem Hl{α:Type}(f:α->V)(ps:List α)(k:Nat):DP (ps.map f) (some (k:Int)) none=(ps.drop k).map f:=by
 unfold DP;rw[HT.sIx_none,HT.sIx_nat,ASt,AV0];by_cases h:k<=ps.length
 .rw[AWN h,ATb (by rw[ATF,ASt];omega)]
 .rw[Nat.min_eq_right (by omega),AWG (by rw[ASt];omega),AWG (by rw[ASt];omega)];simp
def Itv(K:W.Frag)(a:Addr)(n:Nat):It :=
 ⟨fun i H=>i<n/\∃xs x,SqL K H a xs/\xs[n-1-i]?=some x,fun i H x H'=>H'=H/\∀xs,SqL K H a xs->xs[n-1-i]?=some x,fun i _=>i=n⟩
theorem ACy{P:Program}{w:World}{K:W.Frag}{tg:Expr}(a it:Addr)(n:Nat):Turn P w K tg (Itv K a n) [it] it (fun i h=>h.IsRevIter it a ((n:Int)-1-(i:Int))) where
 mem:=by simp
 obj:=fun i h st b hb=>by
  walk_at "aF"
  subst e;obtain⟨o,e,c,d⟩:=st;exact⟨o,e,fun v z=>by rw[d]at z;cases z⟩
 keep:=fun i h h' st k=>st.at fun o e=>k it (by simp) o e
 item:=by
  walk_at "f";obtain⟨hi,xs,x,hq,hx⟩:=hg;(obtain⟨its,rv,p,hz⟩:=I.list hq);obtain⟨u,hu,ru⟩:=rv.get hx;walk_at "p";have e:(n:Int)-1-(i:Int)=((n-1-i:Nat):Int):=by omega
  rw[e]at st;refine wpAny_pyNext_rev_item st p.isList (x:=u) (by simpa using hu) fun h' st' sb=>?_;have e2:((n-1-i:Nat):Int)-1=(n:Int)-1-((i+1:Nat):Int):=by omega
  rw[e2]at st';(have I1:Inv X aA σ H { s with heap:=h' }:=I.turned (t':=s.toks) (fun b o hb e=>(sb.2 b hb).trans e) f0 f1 f3 f4 f5;obtain⟨o,e,c,d⟩:=id st');exact⟨u,rfl,YW (s:={ s with heap:=h' }) e c d (by decide) ⟨x,H,I1,ru,⟨rfl,fun ys hy=>by rw[I.list_inj hy hq];exact hx⟩,st',fun b hb=>(hf b hb).1⟩⟩
 done:=by
  walk_at "f";have hi:i=n:=hg;subst hi;walk_at "p";have e:(i:Int)-1-(i:Int)=-1:=by omega
  rw[e]at st;exact wpAny_pyNext_rev_end (I.ok.hd hc) st fun h' eb=>⟨rfl,I.turned (t':=s.toks) (fun b o hb e=>eb b o hb e) f0 f1 f3 f4 f5⟩
 self:=fun _ _ _ _ _ st h=>AVM st h
def ARW(K:W.Frag)(ta:TA):TI:=fun σ H R=>ta σ H fun vs H1=>∃a xs,vs=[.ref a]/\SqL K H1 a xs/\R (Itv K a xs.length) H1
theorem AGc{X:Cx}{tg:Expr}{a:Expr}{ta:TA}{p pos:Pos}(hg:Gl X "reversed")(hm:X.mg "reversed"=none)(ha:PA X [a] ta)(hs:starEach [a] X.env=[(false,eval a X.env)]:=by rfl):PI X tg (.Call (.Name "reversed" p) [a] [] pos) (ARW X.K ta):=by
 intro aA s σ H R I h;refine Call_ (HR I hg hm boot_reversed (ATe (thn (ha pos aA s σ H _ I h) fun us s1 ⟨vs,H1,I1,r1,q1⟩=>?_) hs rfl));obtain⟨l,xs,e,hq,q⟩:=q1;subst e;cases r1 with
 | cons r rr =>
  cases rr;cases r;obtain⟨its,rv,pl,hz⟩:=I1.list hq;have hl:=rv.length;refine call_reversed_list pl.isList ?_;have e1:((its.toArray.size:Nat):Int)-1=(xs.length:Int)-1:=by rw[AS9,<-hl]
  rw[e1];have I2:Inv X aA σ H1 { s1 with heap:=s1.heap.push (revObj l ((xs.length:Int)-1)) }:=I1.kept (t':=s1.toks) fun b o e=>ASw _ e;have st:(s1.heap.push (revObj l ((xs.length:Int)-1))).IsRevIter s1.heap.objs.size l ((xs.length:Int)-1):=⟨_,AS1 _ rfl,rfl,rfl⟩;refine AVM st ?_;refine⟨s1.heap.objs.size,[s1.heap.objs.size],_,_,H1,rfl,I2,ACy l _ xs.length,by simpa using st,fun b hb=>?_,q⟩;(have e:b=s1.heap.objs.size:=by simpa using hb)
  subst e;walk_at "l"
theorem AEr{K:PySem.W.Frag}{a:Addr}{xs:List V}{g:TG}{tb:TS}{D:Lj}{σ:L2.St}{H:Hp}(Pv:Nat->L2.St->Hp->Prop)(h0:Pv 0 σ H)(hl:∀i σ H,i<=xs.length->Pv i σ H->SqL K H a xs)
  (hs:∀i x σ H,xs.reverse[i]?=some x->Pv i σ H->g x σ H fun zj H2=>tb { D with nx:=Pv (i+1),ct:=Pv (i+1),bk:=D.nx } zj H2) (hd:∀σ H,Pv xs.length σ H->D.nx σ H) :
  ∃W:Nat->Nat->L2.St->Hp->Prop,(∃m,W 0 m σ H)/\∀i m σ H,W i m σ H ->
   ((Itv K a xs.length).stop i H/\D.nx σ H)\/((Itv K a xs.length).go i H/\∃N:L2.St->Hp->Prop,(∀zd H',N zd H'->∃m',m'<m/\W (i+1) m' zd H')/\∀x H',(Itv K a xs.length).yld i H x H'->g x σ H' fun zj H2=>tb { D with nx:=N,ct:=N,bk:=D.nx } zj H2):=by
 (refine⟨fun i m σ H=>m=xs.length-i/\i<=xs.length/\Pv i σ H,⟨xs.length,by simp,ATW _,h0⟩,?_⟩;rintro i m σ H ⟨rfl,hi,p⟩;have q:=hl i σ H hi p);by_cases hlt:i<xs.length
 .refine .inr ⟨⟨hlt,xs,_,q,Io (by omega)⟩,Pv (i+1),fun zd H' p'=>⟨xs.length-(i+1),by omega,rfl,hlt,p'⟩,fun x H' y=>?_⟩;obtain⟨e,y⟩:=y;subst e;refine hs i x σ _ ?_ p;rw[AUl hlt];exact y xs q
 .have e:i=xs.length:=by omega
  subst e;exact .inl ⟨rfl,hd σ H p⟩
theorem Yl{i:Nat}{σ:L2.St}{H:Hp}{Q:L2.St->Hp->Prop}{P:Int->Prop}(x:Int)(hx:P x)(h:∀y:Int,P y->El i (.int y) σ H Q):El i (.int x) σ H Q:=h x hx
def AME(t:TS):TS:=fun D σ H=>∃Mid:L2.St->Hp->Prop,(∀zd H',Mid zd H'->D.nx zd H')/\t { D with nx:=Mid } σ H
theorem Nt{X:Cx}{st:Stmt}{t:TS}(h:PS X st t):PS X st (AME t):=by
 intro aA s σ H D I hw;obtain⟨Mid,hm,hw⟩:=hw;refine thn (h aA s σ H _ I hw) fun f s1 q=>?_;cases f with
 | next =>
  obtain⟨zd,H',I',q⟩:=q;exact⟨zd,H',I',hm _ _ q⟩
 | ret v=>exact q
 | brk=>exact q
 | cont=>exact q
theorem Pq.updL{H:Hp}{D p:Addr}{xs ys:List V}{q:Rat}(h:H D=some (.lst xs))(k:Pq H p q):Pq (upd H D (.lst ys)) p q:=by
 unfold Pq Pr;rw[Az (G3 k h (by intro z;cases z))];exact k
theorem Pqs.updL{H:Hp}{D:Addr}{xs ys:List V}{ps:List Addr}{qs:List Rat}(h:H D=some (.lst xs))(k:Pqs H ps qs):Pqs (upd H D (.lst ys)) ps qs:=Paired.imp' (fun _ _ z=>z.updL h) k
theorem Bd{H1 H:Hp}{D:Addr}(s:Am H1 H)(hD:H1 D=none)(o:HO):Am H1 (upd H D o):=fun b u q=>by rw[Az (BL q hD)];exact s b u q
theorem Oh{lo:Int}{n:Nat}{te:Shared->Hp->Addr->List Addr->TE}{js:List Nat}{σ:L2.St}{H1:Hp}{Q:VK}(hn:n<=100000)(f:Nat->Rat)
  (hs:∀zb zc C ex i H (R:VK),i<n->Am H1 H->(∀p H2,Am H H2->Pq H2 p (f i)->R (.ref p) H2)->te zb zc C ex (some (.int (lo+i))::js.map fun j=>(σ[j]?).join) H R)
  (hd:∀H D,Am H1 H->H1 D=none->Rw H D ((List.range n).map f)->Q (.ref D) H):HQ (Itr lo n) te js σ Q H1:=by
 intro D hD;refine⟨fun i m ys H=>m=n-i/\i<=n/\(∃ps,ys=ps.map V.ref/\Pqs H ps ((List.range i).map f))/\Am H1 H/\H D=some (.lst ys),⟨n,by simp,ATW _,⟨[],rfl,.nil⟩,Ah hD _,Ag⟩,?_⟩;(rintro i m ys H ⟨rfl,hi,⟨ps,rfl,hp⟩,sm,bj⟩;refine⟨bj,?_⟩);by_cases hlt:i<n
 .refine .inr ⟨hlt,fun x H' y zb zc C ex=>?_⟩;obtain⟨e,y⟩:=y;subst e y;refine hs zb zc C ex i H' _ hlt sm fun p H2 s2 kp=>?_;(have h2:=s2 _ _ bj;have hp2:=hp.keep s2;have hl:=hp.length);rw[ASt,ATn]at hl;walk_at "d"
  refine⟨h2,by rw[ASt];omega,n-(i+1),by omega,rfl,hlt,⟨ps++[p],by simp,?_⟩,Bd (sm.trans s2) hD _,Ag⟩;rw[ATh,AS0];(exact(hp2.updL h2).append (.cons (kp.updL h2) .nil))
 .have e:i=n:=by omega
  subst e;exact .inl ⟨Nat.le_refl _,hd H D sm hD ⟨ps,bj,hp⟩⟩
theorem QJ{K:W.Frag}{a:Addr}{qs:List Rat}{te:Shared->Hp->Addr->List Addr->TE}{js:List Nat}{σ:L2.St}{H1:Hp}{Q:VK}(hn:qs.length<=100000)(ha:Rw H1 a qs)(f:Rat->Rat)
  (hs:∀zb zc C ex p q H (R:VK),q∈qs->Pq H p q->Am H1 H->(∀p' H2,Am H H2->Pq H2 p' (f q)->R (.ref p') H2)->te zb zc C ex (some (.ref p)::js.map fun j=>(σ[j]?).join) H R)
  (hd:∀H D,Am H1 H->H1 D=none->Rw H D (qs.map f)->Q (.ref D) H):HQ (Itl K a) te js σ Q H1:=by
 (intro D hD;obtain⟨rs,hrs,kr⟩:=ha;have hlr:=kr.length);refine⟨fun i m ys H=>m=qs.length-i/\i<=qs.length/\(∃ps,ys=ps.map V.ref/\Pqs H ps ((qs.take i).map f))/\Am H1 H/\H D=some (.lst ys),⟨qs.length,by simp,ATW _,⟨[],rfl,.nil⟩,Ah hD _,Ag⟩,?_⟩;(rintro i m ys H ⟨rfl,hi,⟨ps,rfl,hp⟩,sm,bj⟩;refine⟨bj,?_⟩);(have hr:=sm _ _ hrs;by_cases hlt:i<qs.length)
 .walk_at "X";walk_at "j";walk_at "O";refine hs zb zc C ex p0 _ H' _ (List.getElem_mem hlt) k0 sm fun p H2 s2 kp=>?_;(have h2:=s2 _ _ bj;have hp2:=hp.keep s2;have hl:=hp.length);rw[ASt,AS8]at hl;walk_at "d"
  refine⟨h2,by rw[ASt];omega,qs.length-(i+1),by omega,rfl,hlt,⟨ps++[p],by simp,?_⟩,Bd (sm.trans s2) hD _,Ag⟩;rw[ATy,eq,AS0];(exact(hp2.updL h2).append (.cons (kp.updL h2) .nil))
 .have e:i=qs.length:=by omega
  subst e;rw[ATK]at hp;exact .inl ⟨⟨_,SqL.of hr,by rw[ASt];omega⟩,hd H D sm hD ⟨ps,bj,hp⟩⟩
open Rq
theorem X8{K:W.Frag}{a:Addr}{qs:List Rat}{te:Shared->Hp->Addr->List Addr->TE}{js:List Nat}{σ:L2.St}{H1:Hp}{Q:VK}(hn:qs.length<=100000)(ha:Rw H1 a qs)(f:Rat->Str)
  (hs:∀zb zc C ex p q H (R:VK),q∈qs->Pq H p q->Am H1 H->(∀H2,Am H H2->R (.str (f q)) H2)->te zb zc C ex (some (.ref p)::js.map fun j=>(σ[j]?).join) H R)
  (hd:∀H D,Am H1 H->H1 D=none->H D=some (.lst ((qs.map f).map V.str))->Q (.ref D) H):HQ (Itl K a) te js σ Q H1:=by
 (intro D hD;obtain⟨rs,hrs,kr⟩:=ha;have hlr:=kr.length);refine⟨fun i m ys H=>m=qs.length-i/\i<=qs.length/\ys=((qs.take i).map f).map V.str/\Am H1 H/\H D=some (.lst ys),⟨qs.length,by simp,ATW _,rfl,Ah hD _,Ag⟩,?_⟩;walk_at "y";(have hr:=sm _ _ hrs;by_cases hlt:i<qs.length)
 .walk_at "X";walk_at "j";walk_at "O";refine hs zb zc C ex p0 _ H' _ (List.getElem_mem hlt) k0 sm fun H2 s2=>?_;walk_at "d"
  refine⟨s2 _ _ bj,by rw[ASt,ASt,AS8];omega,qs.length-(i+1),by omega,rfl,hlt,?_,Bd (sm.trans s2) hD _,Ag⟩;rw[ATy,eq,AS0,AS0];rfl
 .have e:i=qs.length:=by omega
  subst e;rw[ATK]at bj;exact .inl ⟨⟨_,SqL.of hr,by rw[ASt];omega⟩,hd H D sm hD bj⟩
theorem QV{z:List Nat}{te:Shared->Hp->Addr->List Addr->TE}{js:List Nat}{σ:L2.St}{H1:Hp}{Q:VK}(hn:z.length<=100000)(f:Nat->Bool)
  (hs:∀zb zc C ex c H (R:VK),c∈z->Am H1 H->R (.bl (f c)) H->te zb zc C ex (some (.str (sx [c]))::js.map fun j=>(σ[j]?).join) H R)
  (hd:∀H D,Am H1 H->H1 D=none->H D=some (.lst ((z.map f).map V.bl))->Q (.ref D) H):HQ (Its (sx z)) te js σ Q H1:=by
 intro D hD;have hsz:(sx z).cps.size=z.length:=Ay z;refine⟨fun i m ys H=>m=z.length-i/\i<=z.length/\ys=((z.take i).map f).map V.bl/\Am H1 H/\H D=some (.lst ys),⟨z.length,by simp,ATW _,rfl,Ah hD _,Ag⟩,?_⟩;walk_at "y";by_cases hlt:i<z.length
 .have eq:z[i]?=some z[i]:=Io hlt;refine .inr ⟨(by show i<(sx z).cps.size;omega),fun x H' y zb zc C ex=>?_⟩;obtain⟨e,c,hc,hx⟩:=y;subst e hx;have hc':z[i]?=some c:=by
   have:(sx z).cps[i]?=z[i]?:=by simp[sx]
   rw[<-this];exact hc
  rw[eq]at hc';cases hc';refine hs zb zc C ex _ H' _ (List.getElem_mem hlt) sm ?_;walk_at "d"
  refine⟨bj,by rw[ASt,ASt,AS8];omega,z.length-(i+1),by omega,rfl,hlt,?_,Bd sm hD _,Ag⟩;rw[ATy,eq,AS0,AS0];rfl
 .have e:i=z.length:=by omega
  subst e;rw[ATK]at bj;exact .inl ⟨(by show(sx z).cps.size<=_;omega),hd H D sm hD bj⟩
theorem Dk{K:W.Frag}{a:Addr}{qs:List Rat}{te:Shared->Hp->Addr->List Addr->TE}{js:List Nat}{σ:L2.St}{H1:Hp}{Q:VK}(hn:qs.length<=100000)(g:Rat->Str)(ha:H1 a=some (.lst ((qs.map g).map V.str)))
  (hs:∀zb zc C ex q H (R:VK),q∈qs->Am H1 H->(∀p' H2,Am H H2->Pq H2 p' q->R (.ref p') H2)->te zb zc C ex (some (.str (g q))::js.map fun j=>(σ[j]?).join) H R)
  (hd:∀H D,Am H1 H->H1 D=none->Rw H D qs->Q (.ref D) H):HQ (Itl K a) te js σ Q H1:=by
 intro D hD;refine⟨fun i m ys H=>m=qs.length-i/\i<=qs.length/\(∃ps,ys=ps.map V.ref/\Pqs H ps (qs.take i))/\Am H1 H/\H D=some (.lst ys),⟨qs.length,by simp,ATW _,⟨[],rfl,.nil⟩,Ah hD _,Ag⟩,?_⟩;(rintro i m ys H ⟨rfl,hi,⟨ps,rfl,hp⟩,sm,bj⟩;refine⟨bj,?_⟩);have hr:=sm _ _ ha;by_cases hlt:i<qs.length
 .have eq:qs[i]?=some qs[i]:=Io hlt;have h0:((qs.map g).map V.str)[i]?=some (.str (g qs[i])):=by rw[AS4,AS4,eq];rfl
  walk_at "j";walk_at "O";refine hs zb zc C ex _ H' _ (List.getElem_mem hlt) sm fun p H2 s2 kp=>?_;(have h2:=s2 _ _ bj;have hp2:=hp.keep s2;have hl:=hp.length);rw[AS8]at hl;walk_at "d"
  refine⟨h2,by rw[ASt];omega,qs.length-(i+1),by omega,rfl,hlt,⟨ps++[p],by simp,?_⟩,Bd (sm.trans s2) hD _,Ag⟩;rw[ATy,eq];(exact(hp2.updL h2).append (.cons (kp.updL h2) .nil))
 .have e:i=qs.length:=by omega
  subst e;rw[ATK]at hp;exact .inl ⟨⟨_,SqL.of hr,by rw[ASt,ASt];omega⟩,hd H D sm hD ⟨ps,bj,hp⟩⟩
def Tq(H:Hp)(r:Addr)(x:Rat×Rat):Prop:=∃p q,H r=some (.tup [.ref p,.ref q])/\Pq H p x.1/\Pq H q x.2
theorem Tq.keep{H H':Hp}{r:Addr}{x:Rat×Rat}(h:Tq H r x)(s:Am H H'):Tq H' r x:=by
 obtain⟨p,q,e,h1,h2⟩:=h;exact⟨p,q,s _ _ e,h1.keep s,h2.keep s⟩
abbrev Tqs(H:Hp):List Addr->List (Rat×Rat)->Prop:=Paired (Tq H)
theorem Tqs.keep{H H':Hp}{ps:List Addr}{qs:List (Rat×Rat)}(h:Tqs H ps qs)(s:Am H H'):Tqs H' ps qs:=Paired.imp' (fun _ _ z=>z.keep s) h
theorem Q0{α β:Type}{F:α->β->Prop}:∀{xs:List α} {ys:List β} {i:Nat} {y:β},Paired F xs ys->ys[i]?=some y->∃x,xs[i]?=some x/\F x y
 | _,_,0,_,.cons h _,e=>by cases e;exact⟨_,rfl,h⟩
 | _,_,_+1,_,.cons _ r,e=>by
  rw[ATz]at e;obtain⟨x,h1,h2⟩:=Q0 r e;exact⟨x,by rw[ATz];exact h1,h2⟩
theorem Ka{α β:Type}{F:α->β->Prop}:∀{xs us:List α} {ys vs:List β},Paired F xs ys->Paired F us vs->Paired F (xs++us) (ys++vs)
 | _,_,_,_,.nil,k=>k
 | _,_,_,_,.cons h r,k=>.cons h (Ka r k)
def Rp(H:Hp)(a:Addr)(qs:List (Rat×Rat)):Prop:=∃ps:List Addr,H a=some (.lst (ps.map V.ref))/\Tqs H ps qs
theorem Rp.keep{H H':Hp}{a:Addr}{qs:List (Rat×Rat)}(h:Rp H a qs)(s:Am H H'):Rp H' a qs:=by
 obtain⟨ps,h1,h2⟩:=h;exact⟨ps,s _ _ h1,h2.keep s⟩
theorem Tq.updL{H:Hp}{D r:Addr}{xs ys:List V}{x:Rat×Rat}(h:H D=some (.lst xs))(k:Tq H r x):Tq (upd H D (.lst ys)) r x:=by
 obtain⟨p,q,e,h1,h2⟩:=k;exact⟨p,q,by rw[Az (G3 e h (by intro z;cases z))];exact e,h1.updL h,h2.updL h⟩
theorem Rp.app{H H2:Hp}{D p:Addr}{qs:List (Rat×Rat)}{q:Rat×Rat}(h:Rp H D qs)(s:Am H H2)(kp:Tq H2 p q) :
  ∃xs,H2 D=some (.lst xs)/\xs.length=qs.length/\Rp (upd H2 D (.lst (xs++[.ref p]))) D (qs++[q]):=by
 obtain⟨ps,h1,h2⟩:=h.keep s;exact⟨_,h1,by rw[ASt,AT8 h2],ps++[p],by rw[Ag];simp,Ka (Paired.imp' (fun _ _ z=>z.updL h1) h2) (.cons (kp.updL h1) .nil)⟩
theorem Rp.there{H:Hp}{a:Addr}{qs:List (Rat×Rat)}(h:Rp H a qs):∃xs,H a=some (.lst xs)/\xs.length=qs.length:=by
 obtain⟨ps,h1,h2⟩:=h;exact⟨_,h1,by rw[ASt,AT8 h2]⟩
theorem Pk{X:Cx}{aA:List (Addr×Obj)}{σ:L2.St}{H:Hp}{s:Shared}{h':Heap}{t':Nat}(S:List Addr)(I:Inv X aA σ H s)(k:∀b o,b∉S->s.heap.get? b=some o->h'.get? b=some o)(hS:∀b∈S,HX X aA H b):Inv X aA σ H { s with heap:=h',toks:=t' }:=by
 have iT:∀b u,H b=some u->b∉S:=fun b u e z=>by rw[(hS b z).1]at e;cases e
 refine I.step (g':=s.gens) (d':=s.drawn) (ch:=S) (fun b hb=>?_) (fun b o _ _ hc e _=>k b o hc e) (fun b o _ _ hc e _=>⟨o.slots,k b o hc e⟩) (fun _ _ _ _ n=>n)
  (fun b o hc e=>⟨o,k b o hc e⟩) (fun _ _ e=>e) (fun _ _ _ e=>e) (fun b ps e=>⟨#[],by rw[e];simp⟩) (fun m hm=>?_) (fun b u e=>?_) I.bare
 .obtain⟨h0,hL,_,h1,h2,h3⟩:=hS b hb;exact⟨h1,hL,h2,h3⟩
 .obtain⟨o,es,ep,ho,r⟩:=hm;exact⟨o,es,ep,k _ o (fun z=>(hS _ z).2.1 rfl) ho,r⟩
 .walk_at "ax"
  .rw[z];exact iT b u e
  .exact iT c _ z
def Itz(K:W.Frag)(a b:Addr):It :=
 ⟨fun i H=>∃xs ys x y,SqL K H a xs/\SqL K H b ys/\xs[i]?=some x/\ys[i]?=some y,
   fun i H v H'=>∃T x y,v=.ref T/\H T=none/\H'=upd H T (.tup [x,y])/\(∀xs,SqL K H a xs->xs[i]?=some x)/\∀ys,SqL K H b ys->ys[i]?=some y,
   fun i H=>∃xs ys,SqL K H a xs/\SqL K H b ys/\(xs.length<=i\/ys.length<=i)⟩
theorem AA9{P:Program}{w:World}{K:W.Frag}{es:List Expr}{k:Nat}{tp:Pos}(a b z TI TO i1 i2:Addr)(D:ZipApart z TI TO i1 i2 a b):Turn P w K (.Tuple es k tp) (Itz K a b) [z,TI,TO,i1,i2] z
  (fun i h=>IsZip h z TI TO .none/\IsPair h TI (.ref i1) (.ref i2)/\(∃u v,IsPair h TO u v)/\h.IsListIter i1 a i/\h.IsListIter i2 b i) where
 mem:=by simp
 obj:=fun i h st c hc=>by
  (obtain⟨s1,s2,⟨u,v,s3⟩,⟨o4,e4,_,d4⟩,⟨o5,e5,_,d5⟩⟩:=st;simp only[AS2,AUc,or_false]at hc;rcases hc with rfl|rfl|rfl|rfl|rfl)
  .exact⟨_,s1,fun v z=>by
    (have z':Data.fields _=Data.cell v:=z);cases z'⟩
  .exact⟨_,s2,fun v z=>by
    (have z':Data.seq _ _=Data.cell v:=z);cases z'⟩
  .exact⟨_,s3,fun v z=>by
    (have z':Data.seq _ _=Data.cell v:=z);cases z'⟩
  .exact⟨o4,e4,fun v z=>by rw[d4]at z;cases z⟩
  .exact⟨o5,e5,fun v z=>by rw[d5]at z;cases z⟩
 keep:=fun i h h' st kk=>by
  obtain⟨s1,s2,⟨u,v,s3⟩,s4,s5⟩:=st;exact⟨kk z (by simp) _ s1,kk TI (by simp) _ s2,⟨u,v,kk TO (by simp) _ s3⟩,s4.at fun o e=>kk i1 (by simp) o e,s5.at fun o e=>kk i2 (by simp) o e⟩
 item:=by
  walk_at "f";(obtain⟨s1,s2,⟨u0,v0,s3⟩,s4,s5⟩:=st);obtain⟨xs,ys,x,y,eZ,e6,hx,hy⟩:=hg;obtain⟨itx,fQ,px,_⟩:=I.list eZ;(obtain⟨i4,fR,py,_⟩:=I.list e6;obtain⟨u,hu,ru⟩:=fQ.get hx;obtain⟨v,hv,rv⟩:=fR.get hy);(have kO:z<s.heap.objs.size:=ASy s1;have qE:TI<s.heap.objs.size:=ASy s2;have qF:TO<s.heap.objs.size:=ASy s3);have qG:i1<s.heap.objs.size:=by obtain⟨_,e,_⟩:=s4;exact ASy e
  have qH:i2<s.heap.objs.size:=by obtain⟨_,e,_⟩:=s5;exact ASy e
  refine wpAny_pyNext_zip_item D s1 s2 s3 s4 s5 px.isList py.isList (x:=u) (y:=v) (by simpa using hu) (by simpa using hv) fun h1 a1 a2 a3 a4 a5 a6 hk1=>⟨_,rfl,AVp a1 fun h2 b1 cV=>?_⟩;replace cV:Heap.SameBut z h1 h2:=cV;have fresh:H s.heap.objs.size=none:=I.hok.fresh (Nat.le_refl _);have I1:Inv X aA σ (upd H s.heap.objs.size (.tup [x,y])) { s with heap:=s.heap.push { cls:=.type "tuple",data:=.seq ([u,v]:List Value).toArray },toks:=s.toks } :=
   I.laid (fun b o eb=>ASw _ eb) (Nat.le_refl _) (show Ci X.prog X.w _ _ _ (.tup _) from⟨(by show 2<=sizeLine;decide),_,.cons ru (.cons rv .nil),IsTup.new _ _⟩)
  have fo:∀b,b<s.heap.objs.size->HX X aA H b->HX X aA (upd H s.heap.objs.size (.tup [x,y])) b:=fun b lb fb=>⟨by rw[Az (ATR lb)];exact fb.1,fb.2⟩;have hfo:∀b∈[z,TI,TO,i1,i2],HX X aA (upd H s.heap.objs.size (.tup [x,y])) b:=fun b hb=>by
   refine fo b ?_ (hf b hb);simp only[AS2,AUc,or_false]at hb;rcases hb with rfl | rfl | rfl | rfl | rfl<;>assumption
  (have I2:=Pk (h':=h2) (t':=s.toks) [z,TI,TO,i1,i2] I1 (fun b o nb eb=>?_) hfo)
  .refine⟨.ref s.heap.objs.size,_,I2,rfl,⟨_,x,y,rfl,fresh,rfl,fun zs hz=>by rw[I.list_inj hz eZ];exact hx,fun zs hz=>by rw[I.list_inj hz e6];exact hy⟩,⟨b1,cV.extBut _ _ D.TIz (hk1 _ _ D.TIz D.TITO D.TIi1 D.TIi2 s2),⟨_,_,cV.extBut _ _ D.TOz a2⟩,a3.extBut cV.extBut D.i1z,a4.extBut cV.extBut D.i2z⟩,fun b hb=>(hfo b hb).1⟩
  .have n1:b≠z:=fun q=>nb (by simp[q]);(have n2:b≠TO:=fun q=>nb (by simp[q]);have n3:b≠i1:=fun q=>nb (by simp[q]);have n4:b≠i2:=fun q=>nb (by simp[q]));rcases AVN eb with⟨rfl,rfl⟩|eb
   .exact cV.extBut _ _ n1 a5
   .exact cV.extBut _ _ n1 (hk1 b o n1 n2 n3 n4 eb)
 done:=by
  walk_at "f";(obtain⟨s1,s2,⟨u0,v0,s3⟩,s4,s5⟩:=st);obtain⟨xs,ys,eZ,e6,hend⟩:=hg;obtain⟨itx,fQ,px,_⟩:=I.list eZ;obtain⟨i4,fR,py,_⟩:=I.list e6;have lx:=fQ.length;have ly:=fR.length;refine wpAny_pyNext_zip_end (I.ok.hd hc) D s1 s2 s3 s4 s5 px.isList py.isList ?_ fun h' hk=>⟨rfl,Pk (t':=s.toks) [z,TI,TO,i1,i2] I (fun b o nb e=>hk b o (fun q=>nb (by simp[q])) (fun q=>nb (by simp[q])) (fun q=>nb (by simp[q])) (fun q=>nb (by simp[q])) e) hf⟩;rcases hend with h|h
  .exact .inl (by simp;omega)
  .exact .inr (by simp;omega)
 self:=fun _ _ _ _ _ st h=>AVL st.1 h
def AQo(K:W.Frag)(ta:TA):TI:=fun σ H R=>ta σ H fun vs H1=>∃a b,vs=[.ref a,.ref b]/\(∃xs,SqL K H1 a xs)/\(∃ys,SqL K H1 b ys)/\R (Itz K a b) H1
theorem QK{X:Cx}{es:List Expr}{k:Nat}{tp:Pos}{a b:Expr}{ta:TA}{p pos:Pos}(hg:Gl X "zip")(hm:X.mg "zip"=none)(ha:PA X [a,b] ta)(hs:starEach [a,b] X.env=[(false,eval a X.env),(false,eval b X.env)]:=by rfl)(hs2:starEach [b] X.env=[(false,eval b X.env)]:=by rfl) :
  PI X (.Tuple es k tp) (.Call (.Name "zip" p) [a,b] [] pos) (AQo X.K ta):=by
 intro aA s σ H R I h;refine Call_ (HR I hg hm boot_zip (ATe (thn (ha pos aA s σ H _ I h) fun us s1 ⟨vs,H1,I1,r1,q1⟩=>?_) (by rw[hs,hs2]) (by rw[hs2];rfl)));obtain⟨l1,l2,rfl,⟨xs,eZ⟩,⟨ys,e6⟩,q⟩:=q1;cases r1 with
 | cons r rr =>
  cases rr with
  | cons r' rr =>
   cases rr;cases r;cases r';obtain⟨itx,fQ,px,_⟩:=I1.list eZ;obtain⟨i4,fR,py,_⟩:=I1.list e6;have a1:l1<s1.heap.objs.size:=by obtain⟨_,e,_⟩:=px.isList;exact ASy e
   have a2:l2<s1.heap.objs.size:=by obtain⟨_,e,_⟩:=py.isList;exact ASy e
   refine call_zip_2 px.isList py.isList fun h' hz hTI hTO hi1 hi2 hsz hk=>AVL hz ?_;(have I2:Inv X aA σ H1 { s1 with heap:=h' }:=I1.kept (t':=s1.toks) hk);refine⟨s1.heap.objs.size+4,[s1.heap.objs.size+4,s1.heap.objs.size+2,s1.heap.objs.size+3,s1.heap.objs.size,s1.heap.objs.size+1],_,_,H1,rfl,I2,AA9 l1 l2 _ _ _ _ _ (zipApart_new a1 a2),⟨hz,hTI,⟨_,_,hTO⟩,hi1,hi2⟩,fun b hb=>?_,q⟩;simp only[AS2,AUc,or_false]at hb;rcases hb with rfl|rfl|rfl|rfl|rfl
   .exact I1.fpOk (ATQ _ 4) (I1.hok.fresh (ATQ _ 4))
   .exact I1.fpOk (ATQ _ 2) (I1.hok.fresh (ATQ _ 2))
   .exact I1.fpOk (ATQ _ 3) (I1.hok.fresh (ATQ _ 3))
   .walk_at "l"
   .exact I1.fpOk (ATQ _ 1) (I1.hok.fresh (ATQ _ 1))
theorem Tt{K:PySem.W.Frag}{a b:Addr}{xs ys:List V}{g:TG}{tb:TS}{D:Lj}{σ:L2.St}{H:Hp}(n:Nat)(hn:n=min xs.length ys.length)(Pv:Nat->L2.St->Hp->Prop)(h0:Pv 0 σ H)(hl:∀i σ H,i<=n->Pv i σ H->SqL K H a xs/\SqL K H b ys)
  (hs:∀i x y σ H T,xs[i]?=some x->ys[i]?=some y->Pv i σ H->H T=none->g (.ref T) σ (upd H T (.tup [x,y])) fun zj H2=>tb { D with nx:=Pv (i+1),ct:=Pv (i+1),bk:=D.nx } zj H2) (hd:∀σ H,Pv n σ H->D.nx σ H) :
  ∃W:Nat->Nat->L2.St->Hp->Prop,(∃m,W 0 m σ H)/\∀i m σ H,W i m σ H ->
   ((Itz K a b).stop i H/\D.nx σ H)\/((Itz K a b).go i H/\∃N:L2.St->Hp->Prop,(∀zd H',N zd H'->∃m',m'<m/\W (i+1) m' zd H')/\∀x H',(Itz K a b).yld i H x H'->g x σ H' fun zj H2=>tb { D with nx:=N,ct:=N,bk:=D.nx } zj H2):=by
 (refine⟨fun i m σ H=>m=n-i/\i<=n/\Pv i σ H,⟨n,by simp,ATW _,h0⟩,?_⟩;rintro i m σ H ⟨rfl,hi,p⟩);obtain⟨qx,qy⟩:=hl i σ H hi p;by_cases hlt:i<n
 .have h1:i<xs.length:=by omega
  have h2:i<ys.length:=by omega
  refine .inr ⟨⟨xs,ys,_,_,qx,qy,Io h1,Io h2⟩,Pv (i+1),fun zd H' p'=>⟨n-(i+1),by omega,rfl,hlt,p'⟩,?_⟩;rintro v H' ⟨T,x,y,rfl,hT,rfl,ex,ey⟩;exact hs i x y σ H T (ex xs qx) (ey ys qy) p hT
 .have e:i=n:=by omega
  subst e;exact .inl ⟨⟨xs,ys,qx,qy,by omega⟩,hd σ H p⟩
open PySem.W PySem.Calls
structure Fg(P:Program)(w:World)(K:W.Frag)(mg:Str->Option Value)(base:Heap)(C:Addr)(m:Str)(k:Nat)(ps:List Str)(sp:Sp):Prop where
 ex:∃f fd,BP P w K mg base CX0 k f fd ps sp/\Ef K fd ps []/\ADK K C m f/\Cls K C
structure QM(P:Program)(w:World)(K:W.Frag)(mg:Str->Option Value)(base:Heap)(x:Str)(C:Addr)(k:Nat)(ps:List Str)(sp:Sp):Prop where
 ex:∃f fd,BP P w K mg base CX0 k f fd ps sp/\Ef K fd ps []/\Mk K C f/\mg x=some (.ref C)
section
variable {X:Cx}{C:Addr}{m x:Str}{k j:Nat}{ps:List Str}{sp:Sp}{o e:Expr}{es:List Expr}{ta:TE}{t:TA}{p aF pos:Pos}{pl:Sem Bool}
theorem GC(Cm:Fg X.prog X.w X.K X.mg X.base C m k ps sp)(hr:Dz j X.A)(he:PE X o ta)(hkj:k<=j:=by decide)
  (ht:eval (.Call (.Attribute o m aF) [] [] pos) X.env=(do
   let ov <-eval o X.env
   standAt aF.atName
   let (f,first) <-holding [ov] (getMethod ov m pl)
   callWith pos f first (backTo pos (starEach [] X.env)) (backToKw pos (keywordEach [] X.env))):=by rfl) :
  PE X (.Call (.Attribute o m aF) [] [] pos) (Yk C m sp [] E0 ta YG):=by
 obtain⟨f,fd,F,b,hm,cl⟩:=Cm.ex;exact ADJ he cl hm F (hr.mono hkj) b .nil Su ht
theorem KQ(Cm:Fg X.prog X.w X.K X.mg X.base C m k ps sp)(hr:Dz j X.A)(he:PE X o ta)(ha:PA X (e::es) t)(hkj:k<=j:=by decide)
  (hst:starEach (e::es) X.env=(false,eval e X.env)::starEach es X.env:=by rfl) (hpl:(backTo pos (starEach es X.env)).any (·.1)=false:=by rfl)
  (ht:eval (.Call (.Attribute o m aF) (e::es) [] pos) X.env=(do
   let ov <-eval o X.env
   standAt aF.atName
   let (f,first) <-holding [ov] (getMethod ov m pl)
   callWith pos f first (backTo pos (starEach (e::es) X.env)) (backToKw pos (keywordEach [] X.env))):=by rfl) :
  PE X (.Call (.Attribute o m aF) (e::es) [] pos) (Yk C m sp [] E0 ta t):=by
 obtain⟨f,fd,F,b,hm,cl⟩:=Cm.ex;exact ADj he cl hm F (hr.mono hkj) b .nil Su ha hst hpl ht
theorem V2(Cc:QM X.prog X.w X.K X.mg X.base x C k ps sp)(hr:Dz j X.A)(ha:PA X (e::es) t)(hkj:k+1<=j:=by decide)(hg:Gl X x:=by rfl)
  (hdb:(x==("__debug__":Str))=false:=by decide) (he:starEach (e::es) X.env=(false,eval e X.env)::starEach es X.env:=by rfl) (hpl:(backTo pos (starEach es X.env)).any (·.1)=false:=by rfl) :
  PE X (.Call (.Name x p) (e::es) [] pos) (Yn C sp [] E0 t):=by
 obtain⟨f,fd,F,b,M,hm⟩:=Cc.ex;exact ADo M F (hr.mono hkj) hg hm b .nil Su ha hdb he hpl
end
structure ADx(P:Program)(w:World)(K:W.Frag)(mg:Str->Option Value)(base:Heap)(x:Str)(k:Nat)(ps:List Str)(ds:List Value)(cu:List V)(sp:Sp):Prop where
 ex:∃f fd,BP P w K mg base CX0 k f fd ps sp/\Ef K fd ps ds/\W.keepIn K (.ref f)=true/\mg x=some (.ref f)
 dv:BW cu ds
theorem ADT{X:Cx}{x:Str}{k j:Nat}{ps:List Str}{ds:List Value}{cu:List V}{sp:Sp}{e:Expr}{es:List Expr}{t:TA}{p pos:Pos}(C:ADx X.prog X.w X.K X.mg X.base x k ps ds cu sp)(hr:Dz j X.A)(ha:PA X (e::es) t)(hkj:k<=j:=by decide)(hg:Gl X x:=by rfl)
  (hdb:(x==("__debug__":Str))=false:=by decide) (he:starEach (e::es) X.env=(false,eval e X.env)::starEach es X.env:=by rfl) (hpl:(backTo pos (starEach es X.env)).any (·.1)=false:=by rfl) :
  PE X (.Call (.Name x p) (e::es) [] pos) (ADL sp cu E0 t):=by
 obtain⟨f,fd,F,b,kp,m⟩:=C.ex;exact ZC F (hr.mono hkj) hg m kp b C.dv Su ha hdb he hpl
structure ASY(P:Program)(w:World)(K:W.Frag)(mg:Str->Option Value)(base:Heap)(x:Str)(k:Nat)(ps ks:List Str)(gV:List V->List V->List V)(sp:Sp):Prop where
 ex:∃f fd g,BP P w K mg base CX0 k f fd ps sp/\AF4 K fd ps ks g gV/\W.keepIn K (.ref f)=true/\mg x=some (.ref f)
abbrev APy(K:W.Frag)(x qual:Str)(st:Stmt)(dV:Value)(f:Addr)(fd:FuncData):Prop:=∃(oc:Value) (od:Option Addr) (kV doc pm:Value) (an:Option Addr) (cdv ct:Value) (osl:Array (Option Value)),
   fd=W.fnOf x qual (Cq st) (CK st) (Af st) dV kV doc pm an cdv ct/\K.lookup f=some ⟨oc,od,.func fd,osl⟩/\W.codeIn K cdv qual=true
theorem okD{P:Program}{w:World}{K:W.Frag}{mg:Str->Option Value}{base:Heap}{x qual:Str}{st:Stmt}{f:Addr}{fd:FuncData}{N ps:List Str}{k:Nat}{sp:Sp}{dV:Value}(F:APy K x qual st dV f fd)
  (S:Al N ps (Af st)) (len:∀vs H Q E,sp vs H Q E->vs.length=ps.length)
  (hbody:∀(cdv:Value) (A:Around) (outer:List Env) (s:Shared) (H:Hp) (vs:List V) (Q:VK) (E:XK),Dz k (A.deeper (envOfC qual (Af st) s.heap.objs.size f cdv))->sp vs H Q E ->
   ∃t,PSs (Wq CX0 P w K mg base N qual (Af st) f cdv A outer s H E).nox (CK st) t/\t { nx:=fun _ H'=>Q .non H',rt:=Q } (start N vs) H):BP P w K mg base CX0 (k+1) f fd ps sp:=by
 obtain⟨oc,od,kV,doc,pm,an,cdv,ct,osl,rfl,lk,hcd⟩:=F;(refine AFI lk hcd S len fun A outer s H vs Q E hr hsp=>?_;obtain⟨t,h,q⟩:=hbody cdv A outer s H vs Q E hr hsp;exact⟨t,h.nox,q⟩)
def ASE(K:W.Frag)(te ts:TE):TE:=fun σ H Q=>te σ H fun x H1=>ts σ H1 fun y H2=>∃a xs,x=.ref a/\y=.int (-1)/\SqL K H2 a xs/\∀p,H2 p=none->Q (.ref p) (upd H2 p (.lst xs.reverse))
theorem JS{X:Cx}{x:Str}{n:Int}{pos:Pos}(hg:Gl X x)(hm:∃t,X.mg x=some (.int n t))(hd:(x==("__debug__":Str))=false:=by decide):PE X (.Name x pos) (tC (.int n)):=by
 obtain⟨t,hm⟩:=hm;exact Ml hg hm ⟨t,rfl⟩ hd
theorem Qt{X:Cx}(hc:X.calm=true):Jl X (.builtin "all") (fun xs H Q=>∃p bs,xs=[.ref p]/\SqL X.K H p (List.map V.bl bs)/\Q (.bl (bs.all id)) H):=by
 intro aA s σ H xs us Q I r h;obtain⟨p,bs,rfl,hq,q⟩:=h;obtain⟨u,rfl,rx⟩:=Iw r;cases rx;obtain⟨its,rv,pl,hz⟩:=I.list hq;have aB:=rv.length;rw[ASt]at aB;have lt:p<s.heap.objs.size:=by
  obtain⟨o,ho,_⟩:=pl.isList;exact ASy ho
 refine call_all_walk (wpAny_pyIter_list pl.isList ?_);refine⟨s.heap.objs.size,_,_,_,_,_,(fun i=>(bs[i]?).getD true),rfl,Walks.list (A:=X.A.in1) (I.ok.hd hc) _ p (ATR lt) its.toArray,?st,?tr,fun h' tk hk=>?_⟩
 case st=>exact⟨⟨_,AS1 _ rfl,rfl,rfl⟩,pl.isList.at fun o e=>ASw _ e⟩
 case tr =>
  intro i v s1 Q1 E1 hv q1;have hv':its[i]?=some v:=by simpa using hv
  have hi:i<bs.length:=by
   have:=(AS7.mp hv').1;omega
  have eb:bs[i]?=some bs[i]:=Io hi;obtain⟨u,hu,ru⟩:=rv.get (i:=i) (x:=.bl bs[i]) (by rw[AS4,eb];rfl);rw[hv']at hu;cases hu;cases ru;have q2:Q1 ((bs[i]?).getD true) s1:=q1;rw[eb]at q2;exact AT3 q2
 .have e:(List.range its.toArray.size).all (fun i=>(bs[i]?).getD true)=bs.all id:=by
   rw[AS9,<-aB,AU5,AUd,AUd];constructor
   .intro hh b hb;obtain⟨i,hi,rfl⟩:=List.getElem_of_mem hb;have:=hh i (AUw.mpr hi);rw[Io hi]at this;exact this
   .intro hh i hi;have hi':=AUw.mp hi;rw[Io hi'];exact hh _ (List.getElem_mem hi')
  rw[e];refine⟨.bl (bs.all id),H,?_,rfl,q⟩;exact I.kept (h':=h') (t':=tk) fun b o eb=>hk b o (by
   simp;exact ATR (ASy eb)) (ASw _ eb)
theorem YS{K:W.Frag}{a:Addr}{xs:List V}{te:Shared->Hp->Addr->List Addr->TE}{js:List Nat}{σ:L2.St}{H1:Hp}{Q:VK}(hn:xs.length<=100000)(ha:H1 a=some (.lst xs))(f:V->Bool)
  (hs:∀zb zc C ex x H (R:VK),x∈xs->Am H1 H->(∀H2,Am H H2->R (.bl (f x)) H2)->te zb zc C ex (some x::js.map fun j=>(σ[j]?).join) H R)
  (hd:∀H D,Am H1 H->H1 D=none->H D=some (.lst ((xs.map f).map V.bl))->Q (.ref D) H):HQ (Itl K a) te js σ Q H1:=by
 intro D hD;refine⟨fun i m ys H=>m=xs.length-i/\i<=xs.length/\ys=((xs.take i).map f).map V.bl/\Am H1 H/\H D=some (.lst ys),⟨xs.length,by simp,ATW _,rfl,Ah hD _,Ag⟩,?_⟩;walk_at "y";have hr:=sm _ _ ha;by_cases hlt:i<xs.length
 .have eq:xs[i]?=some xs[i]:=Io hlt;refine .inr ⟨⟨_,_,SqL.of hr,eq⟩,fun x H' y zb zc C ex=>?_⟩;obtain⟨e,y⟩:=y;subst e;have ex':=y _ (SqL.of hr);rw[eq]at ex';cases ex';refine hs zb zc C ex _ H' _ (List.getElem_mem hlt) sm fun H2 s2=>?_;have h2:=s2 _ _ bj;walk_at "d"
  refine⟨h2,by rw[ASt,ASt,AS8];omega,xs.length-(i+1),by omega,rfl,hlt,?_,?_,Ag⟩
  .rw[ATy,eq,AS0,AS0];rfl
  .intro b o e;rw[Az (BL e hD)];exact s2 _ _ (sm _ _ e)
 .have e:i=xs.length:=by omega
  subst e;rw[ATK]at bj;exact .inl ⟨⟨_,SqL.of hr,Nat.le_refl _⟩,hd H D sm hD bj⟩
structure PEw(X:Cx)(e:Expr)(te:TE):Prop where
 h:PE X e te
structure PAw(X:Cx)(es:List Expr)(t:TA):Prop where
 h:PA X es t
section
variable {X:Cx}{es xs:List Expr}{e e2:Expr}{p p2:Pos}{te xV:TE}{t:TA}{k:Nat}
end
structure PSw(X:Cx)(st:Stmt)(t:TS):Prop where
 h:PS X st t
structure ASq(X:Cx)(ss:List Stmt)(t:TS):Prop where
 h:PSs X ss t
section
variable {X:Cx}{a b e:Expr}{pos pos':Pos}{ta tb te:TE}{st:Stmt}{ss:List Stmt}{t u:TS}
end
def ev2{α:Type}:List α->List α
 | []=>[]
 | [x]=>[x]
 | x::_::l=>x::ev2 l
theorem ev2_map{α β:Type}(f:α->β):∀l:List α,(ev2 l).map f=ev2 (l.map f)
 | []=>rfl
 | [_]=>rfl
 | x::y::l=>congrArg (f x::·) (ev2_map f l)
theorem ev2_length{α:Type}:∀l:List α,(ev2 l).length=(l.length+1)/2
 | []=>by simp[ev2]
 | [_]=>by simp[ev2]
 | x::y::l=>by
  show(ev2 l).length+1=(l.length+1+1+1)/2;rw[ev2_length l];omega
theorem WQ{α:Type}:∀l:List α,(List.range ((l.length+1)/2)).filterMap (fun k=>l[2*k]?)=ev2 l
 | []=>by simp[ev2]
 | [_]=>by simp[ev2,ATh]
 | x::y::l=>by
  rw[show((x::y::l).length+1)/2=(l.length+1)/2+1 by simp only[ASx];omega,List.range_succ_eq_map,AUF];show x::List.filterMap (fun k=>(x::y::l)[2*k]?) (List.map Nat.succ (List.range ((l.length+1)/2)))=x::ev2 l;rw[AWi];refine congrArg (x::·) ?_;rw[<-WQ l];rfl
theorem S6{α β:Type}{f h:α->Option β}:∀{l:List α},(∀x∈l,f x=h x)->l.filterMap f=l.filterMap h
 | [],_=>rfl
 | x::l,e=>by
  rw[AUF,AUF,e x ATq,S6 fun y hy=>e y (ATS _ hy)]
def AFX(lo:Option Int)(n:Nat):Prop:=(lo=none/\n=0)\/lo=some (n:Int)
theorem ABG(its:List Value){lo:Option Int}{n:Nat}(h:AFX lo n):slicePick its.toArray lo none (some 2)=(ev2 (its.drop n)).toArray:=by
 unfold slicePick
 congr 1
 obtain⟨m,hm⟩:∃m,m=min n its.length:=⟨_,rfl⟩;have eb:sliceBounds lo none (some 2) its.toArray.size=((m:Int),(its.length:Int),2):=by
  rw[AS9];rcases h with⟨rfl,rfl⟩|rfl
  .rw[hm,Nat.zero_min];rfl
  .simp only[sliceBounds,Option.getD_some,show(2:Int) > 0 by decide,if_true];refine Prod.ext ?_ rfl;show max 0 (min (if (n:Int)<0 then(n:Int)+(its.length:Int) else(n:Int)) (its.length:Int))=(m:Int);rw[if_neg (by omega)];omega
 rw[eb];have er:sliceRange (m:Int) (its.length:Int) 2=(List.range (((its.drop n).length+1)/2)).map fun k=>m+2*k:=by
  unfold sliceRange;have hc:(if (2:Int) > 0 then(if (m:Int)<(its.length:Int) then((its.length:Int)-(m:Int)+2-1)/2 else 0) else(if (m:Int) > (its.length:Int) then((m:Int)-(its.length:Int)-2-1)/(-2) else 0)).toNat=((its.drop n).length+1)/2:=by
   rw[if_pos (by decide),ATF];by_cases h:(m:Int)<(its.length:Int)
   .rw[if_pos h];omega
   .rw[if_neg h];omega
  show(List.range (if (2:Int) > 0 then _ else _:Int).toNat).map _=_;rw[hc];exact List.map_congr_left fun k _=>by omega
 show List.filterMap _ (sliceRange (m:Int) (its.length:Int) 2)=ev2 (its.drop n);rw[er,AWi,<-WQ];refine S6 fun k hk=>?_;have hk':=AUw.mp hk;rw[ATF]at hk';show its.toArray[m+2*k]?=(its.drop n)[2*k]?;rw[List.getElem?_toArray,AUL,show m=n by omega]
theorem Wb:∀{xs:List V} {us:List Value},BW xs us->BW (ev2 xs) (ev2 us)
 | _,_,.nil=>.nil
 | _,_,.cons a .nil=>.cons a .nil
 | _,_,.cons a (.cons _ r)=>.cons a (Wb r)
def AHN(K:W.Frag)(te:TE)(tl:TO)(ts:TE):TE:=fun σ H Q=>te σ H fun x H1=>tl σ H1 fun l H2=>ts σ H2 fun y H3=>∃a xs n,x=.ref a/\y=.int 2/\AFX l n/\SqL K H3 a xs/\∀p,H3 p=none->Q (.ref p) (upd H3 p (.lst (ev2 (xs.drop n))))
theorem Lx{X:Cx}{e st:Expr}{lo:Option Expr}{te ts:TE}{tl:TO}{p2 pos:Pos}(he:PE X e te)(hl:PO X lo tl)(hs:PE X st ts):PE X (.Subscript e (.Slice lo none (some st) p2) pos) (AHN X.K te tl ts):=by
 walk_at "k";(refine Subscript_ (thn (he aA s σ H _ I h) fun v s1 ⟨x,H1,I1,r1,q1⟩=>?_));refine wpAny_Slice (thn (hl aA s1 σ H1 _ I1 q1) fun vl s2 ⟨l,H2,I2,pl,q2⟩=>?_);rw[evalPart_none,evalPart_some];refine ATC (thn (hs aA s2 σ H2 _ I2 q2) fun w s3 ⟨y,H3,I3,r3,q3⟩=>?_);obtain⟨a,xs,n,rfl,rfl,hb,hx,q⟩:=q3;cases r1;obtain⟨t,rfl⟩:=r3;have I4:Inv X aA σ H3 { s3 with heap:=s3.heap.push { cls:=.type "slice",data:=.fields #[vl,.none,.int 2 t] } }:=I3.kept (t':=s3.toks) fun b ob q=>ASw _ q;obtain⟨its,rv,ht,hz⟩:=I4.list hx;have aB:=rv.length;show wpAny (model X.prog X.w) X.A (subscriptTail e (.Slice lo none (some st) p2) (.ref a) (.ref s3.heap.objs.size)) (EP X aA σ Q) X.xe { s3 with heap:=s3.heap.push { cls:=.type "slice",data:=.fields #[vl,.none,.int 2 t] } };refine tail_any (ops:=[.ref a,.ref s3.heap.objs.size]) ht.isList.typeIs slot_list_getitem.lookup ?_ (by with_unfolding_all rfl);refine AVt ht.isList (Heap.IsSliceOf.new ..) pl .none (.int 2 t) (by simp) ?_ (by rw[AS9]<;>omega);rw[ABG its hb];refine⟨.ref _,_,I4.laid (t':=s3.toks) (o:=.lst (ev2 (xs.drop n))) (fun b ob q=>ASw _ q) (Nat.le_refl _) ?_,rfl,q _ (I4.hok.fresh (Nat.le_refl _))⟩;refine⟨?_,_,0,Wb (rv.drop n),AS1 _ rfl⟩;rw[ev2_length,ATF];omega
theorem Q5{K:W.Frag}{a:Addr}{qs:List Rat}{te:Shared->Hp->Addr->List Addr->TE}{js:List Nat}{σ:L2.St}{H1:Hp}{Q:VK}(hn:qs.length<=100000)(ha:Rw H1 a qs)(f:Rat->Int)
  (hs:∀zb zc C ex p q H (R:VK),q∈qs->Pq H p q->Am H1 H->R (.int (f q)) H->te zb zc C ex (some (.ref p)::js.map fun j=>(σ[j]?).join) H R)
  (hd:∀H D,Am H1 H->H1 D=none->H D=some (.lst ((qs.map f).map V.int))->Q (.ref D) H):HQ (Itl K a) te js σ Q H1:=by
 (intro D hD;obtain⟨rs,hrs,kr⟩:=ha;have hlr:=kr.length);refine⟨fun i m ys H=>m=qs.length-i/\i<=qs.length/\ys=((qs.take i).map f).map V.int/\Am H1 H/\H D=some (.lst ys),⟨qs.length,by simp,ATW _,rfl,Ah hD _,Ag⟩,?_⟩;walk_at "y";(have hr:=sm _ _ hrs;by_cases hlt:i<qs.length)
 .walk_at "X";walk_at "j";walk_at "O";refine hs zb zc C ex p0 _ H' _ (List.getElem_mem hlt) k0 sm ?_;walk_at "d"
  refine⟨bj,by rw[ASt,ASt,AS8];omega,qs.length-(i+1),by omega,rfl,hlt,?_,?_,Ag⟩
  .rw[ATy,eq,AS0,AS0];rfl
  .walk_at "bc"
 .have e:i=qs.length:=by omega
  subst e;rw[ATK]at bj;exact .inl ⟨⟨_,SqL.of hr,by rw[ASt];omega⟩,hd H D sm hD bj⟩
theorem Ut{K:W.Frag}{a:Addr}{ns:List Int}{tt:Shared->Hp->Addr->List Addr->TT}{te:Shared->Hp->Addr->List Addr->TE}{js:List Nat}{σ:L2.St}{H1:Hp}{Q:VK}(hn:ns.length<=100000)(ha:H1 a=some (.lst (ns.map V.int)))(p:Int->Bool)
  (ht:∀zb zc C ex n H (R:Bool->Hp->Prop),R (p n) H->tt zb zc C ex (some (.int n)::js.map fun j=>(σ[j]?).join) H R)
  (hs:∀zb zc C ex n H (R:VK),R (.int n) H->te zb zc C ex (some (.int n)::js.map fun j=>(σ[j]?).join) H R)
  (hd:∀H D,Am H1 H->H1 D=none->H D=some (.lst ((ns.filter p).map V.int))->Q (.ref D) H):Mi (Itl K a) (El 0) tt te 1 js σ Q H1:=by
 intro D hD;refine⟨fun i m ys H=>m=ns.length-i/\i<=ns.length/\ys=((ns.take i).filter p).map V.int/\Am H1 H/\H D=some (.lst ys),⟨ns.length,by simp,ATW _,rfl,Ah hD _,Ag⟩,?_⟩;walk_at "y";have hr:=sm _ _ ha;by_cases hlt:i<ns.length
 .have eq:ns[i]?=some ns[i]:=Io hlt;have h0:(ns.map V.int)[i]?=some (.int ns[i]):=by rw[AS4,eq];rfl
  refine .inr ⟨⟨_,_,SqL.of hr,h0⟩,fun x H' y zb zc C ex zi hσ=>?_⟩;obtain⟨e,y⟩:=y;subst e;have ex':=y _ (SqL.of hr);rw[h0]at ex';cases ex';obtain⟨v1,rfl⟩:∃v1,zi=[v1]:=by
   match zi,hσ with
   | [v1],_=>exact⟨v1,rfl⟩
  refine⟨⟨[some (.int ns[i])],rfl,rfl⟩,?_⟩;refine ht zb zc C ex ns[i] H' _ ?_;walk_at "d"
  have et:(ns.take (i+1)).filter p=(ns.take i).filter p++if p ns[i] then [ns[i]] else []:=by
   rw[ATy,eq,AVl];cases hp:p ns[i]<;>simp[hp]
  by_cases hp:p ns[i]=true
  .rw[if_pos hp];rw[if_pos hp]at et;refine hs zb zc C ex ns[i] H' _ ⟨bj,?_,ns.length-(i+1),by omega,rfl,hlt,?_,?_,Ag⟩
   .rw[ASt];have:=AUk p (ns.take i);rw[AS8]at this;omega
   .rw[et,AS0];rfl
   .walk_at "bc"
  .rw[if_neg hp];rw[if_neg hp,AVV]at et;exact⟨bj,ns.length-(i+1),by omega,rfl,hlt,by rw[et],sm,bj⟩
 .have e:i=ns.length:=by omega
  subst e;rw[ATK]at bj;exact .inl ⟨⟨_,SqL.of hr,by rw[ASt];omega⟩,hd H D sm hD bj⟩
def cnt(p:Nat->Bool):Nat->Nat
 | 0=>0
 | n+1=>cnt p n+if p n then 1 else 0
theorem cnt_le(p:Nat->Bool)(n:Nat):cnt p n<=n:=by
 induction n with
 | zero=>exact Nat.le_refl _
 | succ n ih=>rw[cnt];split<;>omega
theorem AAs{p r:Nat->Bool}{n:Nat}(h:∀i,i<n->p i=r i):cnt p n=cnt r n:=by
 induction n with
 | zero=>rfl
 | succ n ih=>rw[cnt,cnt,ih fun i hi=>h i (by omega),h n (by omega)]
theorem Zx{K:W.Frag}{a b:Addr}{ns ms:List Int}{tt:Shared->Hp->Addr->List Addr->TT}{te:Shared->Hp->Addr->List Addr->TE}{js:List Nat}{σ:L2.St}{H1:Hp}{Q:VK}(n:Nat)(hnm:n=min ns.length ms.length)(hn:n<=100000)(ha:H1 a=some (.lst (ns.map V.int)))(hb:H1 b=some (.lst (ms.map V.int)))(p:Int->Int->Bool)
  (ht:∀zb zc C ex x y H (R:Bool->Hp->Prop),R (p x y) H->tt zb zc C ex (some (.int x)::some (.int y)::js.map fun j=>(σ[j]?).join) H R)
  (hs:∀zb zc C ex x y H (R:VK),R (.int x) H->te zb zc C ex (some (.int x)::some (.int y)::js.map fun j=>(σ[j]?).join) H R)
  (hd:∀H D xs,Am H1 H->H1 D=none->H D=some (.lst xs)->xs.length=cnt (fun i=>p (ns.getD i 0) (ms.getD i 0)) n->Q (.ref D) H):Mi (Itz K a b) (ACg K 2 (LK (El 0) (LK (El 1) AAy))) tt te 2 js σ Q H1:=by
 intro D hD;refine⟨fun i m ys H=>m=n-i/\i<=n/\ys.length=cnt (fun i=>p (ns.getD i 0) (ms.getD i 0)) i/\Am H1 H/\H D=some (.lst ys),⟨n,by simp,ATW _,rfl,Ah hD _,Ag⟩,?_⟩;(rintro i m ys H ⟨rfl,hi,hys,sm,bj⟩;refine⟨bj,?_⟩;have hra:=sm _ _ ha);have fv:=sm _ _ hb;by_cases hlt:i<n
 .have l1:i<ns.length:=by omega
  have l2:i<ms.length:=by omega
  have h1:(ns.map V.int)[i]?=some (.int ns[i]):=by rw[AS4,Io l1];rfl
  have h2:(ms.map V.int)[i]?=some (.int ms[i]):=by rw[AS4,Io l2];rfl
  refine .inr ⟨⟨_,_,_,_,SqL.of hra,SqL.of fv,h1,h2⟩,?_⟩;rintro v H' ⟨T,x,y,rfl,hT,rfl,ex,ey⟩ zb zc C fF zi hσ;have ex':=ex _ (SqL.of hra);have ey':=ey _ (SqL.of fv);rw[h1]at ex';rw[h2]at ey';cases ex';cases ey';obtain⟨v1,v2,rfl⟩:∃v1 v2,zi=[v1,v2]:=by
   match zi,hσ with
   | [v1,v2],_=>exact⟨v1,v2,rfl⟩
  (have u:=Ah hT (.tup [.int ns[i],.int ms[i]]);refine⟨T,_,rfl,SqT.of Ag,rfl,_,_,rfl,_,_,rfl,rfl,⟨[some (.int ns[i]),some (.int ms[i])],rfl,rfl⟩,?_⟩;refine ht zb zc C fF ns[i] ms[i] _ _ ?_);walk_at "d"
  have g1:ns.getD i 0=ns[i]:=by rw[ASu,Io l1];rfl
  have g2:ms.getD i 0=ms[i]:=by rw[ASu,Io l2];rfl
  have ec:cnt (fun i=>p (ns.getD i 0) (ms.getD i 0)) (i+1)=cnt (fun i=>p (ns.getD i 0) (ms.getD i 0)) i+if p ns[i] ms[i] then 1 else 0:=by rw[cnt,g1,g2]
  have dX:=u _ _ bj;have cl:=cnt_le (fun i=>p (ns.getD i 0) (ms.getD i 0)) i;by_cases hp:p ns[i] ms[i]=true
  .rw[if_pos hp];rw[if_pos hp]at ec;refine hs zb zc C fF ns[i] ms[i] _ _ ⟨dX,by omega,n-(i+1),by omega,rfl,hlt,?_,Bd (sm.trans u) hD _,Ag⟩;rw[ASz,hys,ec];rfl
  .rw[if_neg hp];rw[if_neg hp]at ec;exact⟨dX,n-(i+1),by omega,rfl,hlt,by rw[hys,ec];rfl,sm.trans u,dX⟩
 .have e:i=n:=by omega
  subst e;exact .inl ⟨⟨_,_,SqL.of hra,SqL.of fv,by rw[ASt,ASt];omega⟩,hd H D ys sm hD bj hys⟩
theorem hu1{k:Nat}{A:Around}(r:Dz k A):A.units+1<cLine:=by have:=r.un;omega
section
variable {prog:Program}{w:World}{A:Around}{E:Value->Shared->Prop}{s:Shared}
end
def Itk(a:Addr)(o:Obj)(aG:List (List Key×V)):It :=
 ⟨fun i H=>H a=some (.frz o (.dT aG))/\i<aG.length,fun i H x H'=>H'=H/\∃b p,aG[i]?=some p/\x=.ref b/\H b=some (.tup (p.1.map kV)),fun i H=>H a=some (.frz o (.dT aG))/\aG.length<=i⟩
def iDT(tl:TE):TI:=fun σ H R=>tl σ H fun x H1=>∃a aG,x=.ref a/\H1 a=some (.dT aG)/\∀o,R (Itk a o aG) (upd H1 a (.frz o (.dT aG)))
section
variable {prog:Program}{w:World}{A:Around}{E:Value->Shared->Prop}{s:Shared}
end
section
variable {prog:Program}{w:World}{A:Around}{E:Value->Shared->Prop}{s:Shared}
end
def AQK(ta:TA):TE:=fun σ H Q=>ta σ H fun vs H1=>∃j:Nat,vs=[.int j]/\j<=1000/\∀p,H1 p=none->Q (.ref p) (upd H1 p (.tup ((List.range j).map fun(i:Nat)=>V.int i)))
def ARw(K:W.Frag):V->V->Hp->VK->Prop:=fun x y H Q=>(∃a b ys,x=.ref a/\y=.ref b/\SqT K H a []/\SqT K H b ys/\Q (.ref b) H)\/AL5 K x y H Q
def AQ3(tk tv:TE):TE:=fun σ H Q=>∀p,H p=none->tk σ (upd H p (.dT [])) fun x H1=>tv σ H1 fun y H2=>∃b ks,x=.ref b/\H2 b=some (.tup (ks.map kV))/\H2 p=some (.dT [])/\Q (.ref p) (upd H2 p (.dT [(ks,y)]))
def ASV:Value->Bool
 | .bool b=>b
 | _=>false
section
variable {X:Cx}
end
theorem U5(s sub:Str)(hi limit:Nat):∀(l:List Nat) (st:Array Nat×Nat),∃r,(forIn l st (StrLaws.occBody s sub hi limit)).run.fst.toList=st.fst.toList++r
 | [],st=>⟨[],by rw[AVV];rfl⟩
 | a::l,st=>by
  rw[AUS];unfold StrLaws.occBody
  split
  .obtain⟨r,e⟩:=U5 s sub hi limit l (st.fst.push a,a+sub.length);refine⟨a::r,?_⟩;refine(show _=_ from e).trans ?_;show(st.fst.push a).toList++r=_;rw[Array.toList_push,ATw];rfl
  .exact U5 s sub hi limit l (st.fst,st.snd)
theorem Vi(s sub:Str)(hi k:Nat):∀(l:List Nat) (st:Array Nat×Nat),k<=st.fst.size->(forIn l st (StrLaws.occBody s sub hi k)).run.fst=st.fst
 | [],_,_=>rfl
 | a::l,st,h=>by
  rw[AUS];unfold StrLaws.occBody;rw[if_neg (fun z=>by have:=z.1.1.1;omega)];exact Vi s sub hi k l (st.fst,st.snd) h
theorem Wu(s sub:Str)(hi k M:Nat)(hM:k<=M):∀(l:List Nat) (st:Array Nat×Nat),st.fst.size<=k->(forIn l st (StrLaws.occBody s sub hi k)).run.fst.toList=((forIn l st (StrLaws.occBody s sub hi M)).run.fst.toList).take k
 | [],st,h=>by
  show st.fst.toList=st.fst.toList.take k;rw[ATb (by simpa using h)]
 | a::l,st,h=>by
  by_cases hk:st.fst.size=k
  .rw[Vi s sub hi k (a::l) st (by omega)];obtain⟨r,e⟩:=U5 s sub hi M (a::l) st;rw[e,List.take_append_of_le_length (by simp;omega),ATb (by simp;omega)]
  .have ih:=fun st' h'=>Wu s sub hi k M hM l st' h';rw[AUS,AUS];unfold StrLaws.occBody at *;by_cases c:(st.snd<=a/\a+sub.length<=hi)/\subAt s sub a=true
   .rw[if_pos ⟨⟨⟨by omega,c.1.1⟩,c.1.2⟩,c.2⟩,if_pos ⟨⟨⟨by omega,c.1.1⟩,c.1.2⟩,c.2⟩];exact ih (st.fst.push a,a+sub.length) (by simp only[Array.size_push];omega)
   .rw[if_neg (fun z=>c ⟨⟨z.1.1.2,z.1.2⟩,z.2⟩),if_neg (fun z=>c ⟨⟨z.1.1.2,z.1.2⟩,z.2⟩)];exact ih (st.fst,st.snd) h
theorem Sg(x:Str)(w:Nat):∀(cuts:List Nat) (a:Nat),(StrLaws.partsFrom x w a cuts).length=cuts.length+1
 | [],_=>rfl
 | c::r,a=>by
  show(_::StrLaws.partsFrom x w (c+w) r).length=_;rw[ASx,Sg x w r,ASx]
theorem Qf(x y:Str):∀(cuts:List Nat) (a f k:Nat),StrLaws.ChainTo x y x.length a cuts f->k<=cuts.length->StrLaws.partsFrom x y.length a (cuts.take k)=(StrLaws.partsFrom x y.length a cuts).take k++[Str.join y ((StrLaws.partsFrom x y.length a cuts).drop k)]
 | cuts,a,f,0,h,_=>by
  rw[List.take_zero,List.take_zero,AUB,StrLaws.join_partsFrom x y cuts a f h];rfl
 | [],a,f,k+1,h,hk=>by simp at hk
 | c::r,a,f,k+1,h,hk=>by
  rw[AU0];show strSub x a c::StrLaws.partsFrom x y.length (c+y.length) (r.take k)=_;rw[Qf x y r (c+y.length) f k h.2.2 (by simpa using hk)];rfl
theorem AAa{c:Nat}{ws:List (List Nat)}{k:Nat}(h:∀w∈ws,c∉w)(h1:1<=k)(hk:k<ws.length):Txt.splitMax (sx (jn c ws)) (sx [c]) (k:Int)=(ws.take k++[jn c (ws.drop k)]).map sx:=by
 have hn:ws≠[]:=fun z=>by rw[z]at hk;simp at hk
 have e:=Hh h hn;unfold Txt.split at e;have two:∀z:Str,[z]≠ws.map sx:=fun z q=>by
  have:=congrArg List.length q;rw[ASt,ATX]at this;omega
 unfold Txt.splitMax
 split at e
 .exact absurd e (two _)
 .rename_i hc
  rw[if_neg hc]
  split at e
  .exact absurd e (two _)
  .rw[AUX]at e;obtain⟨f,ch⟩:=StrLaws.occ_chain (sx (jn c ws)) (sx [c]) ((sx (jn c ws)).length+1);have hl:=congrArg List.length e;rw[Sg,ASt]at hl;have hle:=StrLaws.occ_length_le (sx (jn c ws)) (sx [c]) 0 (sx (jn c ws)).length ((sx (jn c ws)).length+1);have lim:limitOf (sx (jn c ws)) (k:Int)=k:=by
    unfold limitOf;rw[if_neg (by omega),AUD]
   have tk:occurrences (sx (jn c ws)) (sx [c]) 0 (sx (jn c ws)).length k=(occurrences (sx (jn c ws)) (sx [c]) 0 (sx (jn c ws)).length ((sx (jn c ws)).length+1)).take k:=by
    rw[StrLaws.occ_eq,StrLaws.occ_eq];exact Wu _ _ _ _ _ (by omega) _ _ (ATW _)
   rw[lim,tk];generalize occurrences (sx (jn c ws)) (sx [c]) 0 (sx (jn c ws)).length ((sx (jn c ws)).length+1)=cuts at *;have ne:¬((cuts.take k).isEmpty=true):=fun z=>by
    have:=List.isEmpty_iff.mp z;have:=congrArg List.length this;rw[AS8,AUH]at this;omega
   rw[if_neg ne,AUX,Qf _ _ cuts 0 f k ch (by omega),e,<-AWh,<-AV0,O7,AS0];rfl
section
variable {X:Cx}
theorem AAe:MtR X "str.split" (fun x xs H Q=>∃a b,∃k:Nat,x=.str a/\xs=[.str b,.int k]/\b.length≠0/\k<2^62/\a.length<=sizeLine/\(Txt.splitMax a b k).length<=sizeLine/\∀p,H p=none->Q (.ref p) (upd H p (.lst ((Txt.splitMax a b k).map V.str)))):=by
 walk_at "V";obtain⟨a,b,k,rfl,rfl,hb,hk,ha,hn,q⟩:=h;walk_at "H";obtain⟨u,u2,rfl,ru,qI⟩:=ACA rs;obtain⟨t',rfl⟩:=ru;obtain⟨t2,rfl⟩:=qI;have hb':(b.length==0)=false:=by simpa using hb
 have hk':(decide ((k:Int) < -(2^63:Int)) || decide ((k:Int) >= 2^63))=false:=by
  rw[Bool.or_eq_false_iff];exact⟨decide_eq_false (by omega),decide_eq_false (by omega)⟩
 have q':=q s.heap.objs.size (I.hok.fresh (Nat.le_refl _));have fin:∀(k':Nat) (ts:List Str) (its:List Value),Txt.splitMax a b k=ts->BW (ts.map V.str) its->EP X aA σ Q (.ref s.heap.objs.size) { s with toks:=k',heap:=s.heap.push { cls:=.type "list",data:=.seq its.toArray } }:=fun k' ts its e r=>by
  rw[e]at q' hn;refine⟨.ref s.heap.objs.size,_,I.laid (t':=k') (o:=.lst (ts.map V.str)) (fun b ob q=>ASw _ q) (Nat.le_refl _) ?_,rfl,q'⟩;exact⟨by rw[ASt];exact hn,its,_,r,AS1 _ rfl⟩
 cases h1:(decide (a.length<b.length) || decide (strKind a<strKind b)) with
 | true =>
  have e:Txt.splitMax a b k=[a]:=by unfold Txt.splitMax;rw[if_pos h1]
  exact call_meets AUa (typeIs_str _ _ _) AUR (AVm _ _ _) (meets_str_split_max_cannot_occur a b k t t' t2 hk' h1) (fin s.toks [a] [.str a t] e (.cons ⟨_,rfl⟩ .nil))
 | false =>
  cases hf:(occurrences a b 0 a.length (limitOf a k)).isEmpty with
  | true =>
   have e:Txt.splitMax a b k=[a]:=by unfold Txt.splitMax;rw[h1,hf];rfl
   exact call_meets AUa (typeIs_str _ _ _) AUR (AVm _ _ _) (meets_str_split_max_not_found a b k t t' t2 hk' h1 hb' hf) (fin s.toks [a] [.str a t] e (.cons ⟨_,rfl⟩ .nil))
  | false =>
   have e:Txt.splitMax a b k=partsBetween a (occurrences a b 0 a.length (limitOf a k)) b.length:=by unfold Txt.splitMax;rw[h1,hf];rfl
   exact call_meets AUa (typeIs_str _ _ _) AUR (AVm _ _ _) (meets_str_split_sep_max a b k t t' t2 hk' h1 hb' hf ha (by rw[<-e];exact hn)) (fin _ _ _ e (Mr s.toks _))
end
def DcK(P:Program)(w:World)(K:W.Frag)(a:Addr)(aG:List (Key×V)):Prop:=(a==sysModules)=false/\∃(o:Obj) (vs:List (Key×Value)),K.lookup a=some o/\Obj.IsDictOf (CG P w) o vs/\KV aG vs
def AIz(P:Program)(w:World)(K:W.Frag)(a:Addr)(tab:List (Str×List Str)):Prop:=∃aG,DcK P w K a aG/\Paired (fun(p:Key×V) (e:Str×List Str)=>p.1=.inr e.1/\∃t,p.2=.ref t/\∀H,SqT K H t (e.2.map V.str)) aG tab
def Dg:List (Str×List Str)->Str->Option (List Str)
 | [],_=>none
 | e::r,x=>if e.1=x then some e.2 else Dg r x
theorem XN{K:W.Frag}{aG:List (Key×V)}{tab:List (Str×List Str)}(h:Paired (fun(p:Key×V) (e:Str×List Str)=>p.1=.inr e.1/\∃t,p.2=.ref t/\∀H,SqT K H t (e.2.map V.str)) aG tab)(x:Str) :
  (∀row,Dg tab x=some row->∃t,Ei aG (.inr x)=some (.ref t)/\∀H,SqT K H t (row.map V.str))/\(Dg tab x=none->Ei aG (.inr x:Key)=none):=by
 induction h with
 | nil=>exact⟨fun row h=>(nomatch h),fun _=>rfl⟩
 | @cons p e ps es hp _ ih =>
  obtain⟨e1,t,e2,e3⟩:=hp;by_cases hx:e.1=x
  .refine⟨fun row h=>?_,fun h=>?_⟩
   .have h':(if e.1=x then some e.2 else Dg es x)=some row:=h;rw[if_pos hx]at h';cases h';exact⟨t,by rw[DY (by rw[e1,hx]),e2],e3⟩
   .have h':(if e.1=x then some e.2 else Dg es x)=none:=h;rw[if_pos hx]at h';cases h'
  .have ne:p.1≠.inr x:=fun z=>hx (by rw[e1]at z;exact AWV z);have er:Dg (e::es) x=Dg es x:=if_neg hx;rw[er,DW ne];exact ih
section
variable {X:Cx}{aA:List (Addr×Obj)}{σ:L2.St}{H:Hp}{s:Shared}{a:Addr}{tab:List (Str×List Str)}
theorem ACJ{aG:List (Key×V)}(I:Inv X aA σ H s)(h:DcK X.prog X.w X.K a aG):(a==sysModules)=false/\∃vs,KV aG vs/\s.heap.DictOf (CG X.prog X.w) a vs:=by
 obtain⟨h1,o,vs,hk,hd,rel⟩:=h;exact⟨h1,vs,rel,Heap.dictOf_iff.mpr ⟨o,I.kIn a o hk,hd⟩⟩
def AFu(P:Program)(w:World)(K:W.Frag)(td ty:TE):TE:=fun σ H Q=>td σ H fun x H1=>ty σ H1 fun y H2=>∃a tab t row,x=.ref a/\AIz P w K a tab/\y=.str t/\Dg tab t=some row/\∀p,SqT K H2 p (row.map V.str)->Q (.ref p) H2
def ADz(P:Program)(w:World)(K:W.Frag)(ty td:TE):TE:=fun σ H Q=>ty σ H fun y H1=>td σ H1 fun x H2=>∃a tab t,x=.ref a/\AIz P w K a tab/\y=.str t/\Q (.bl (!(Dg tab t).isSome)) H2
theorem Vx{o i:Expr}{td ty:TE}{pos:Pos}(ho:PE X o td)(hi:PE X i ty)(hs:AGR i):PE X (.Subscript o i pos) (AFu X.prog X.w X.K td ty):=by
 walk_at "k";refine Y9 AVo.lookup hs (thn (ho aA s σ H _ I h) fun u s1 ⟨x,H1,I1,rx,q1⟩=>thn (hi aA s1 σ H1 _ I1 q1) fun iv s2 ⟨y,H2,I2,ry,a,tab,t,row,ex,⟨aG,dk,pr⟩,ey,er,q2⟩=>?_);subst ex ey;obtain rfl:u=Value.ref a:=rx;obtain⟨hd,vs,rel,dd⟩:=ACJ I2 dk;obtain⟨p,hv,hp⟩:=(XN pr t).1 row er;obtain⟨w',hw,cP⟩:=JB.some_of (v:=.ref p) (o:=valueAt vs (.inr t)) (by rw[<-hv];exact rel.val _);exact⟨dd.typeIs,wpAny_getItem_of (Qx (k:=.inr t) ry) dd.mapOf hw ⟨_,H2,I2.tok _,cP,q2 p (hp H2)⟩⟩
theorem Xu{o i:Expr}{td ty:TE}(hi:PE X i ty)(ho:PE X o td):PC X .NotIn i o (ADz X.prog X.w X.K ty td):=by
 intro aA s σ H Q I h;refine thn (hi aA s σ H _ I h) fun iv s1 ⟨y,H1,I1,ry,q1⟩=>thn (ho aA s1 σ H1 _ I1 q1) fun u s2 ⟨x,H2,I2,rx,a,tab,t,ex,⟨aG,dk,pr⟩,ey,q2⟩=>?_;subst ex ey;obtain rfl:u=Value.ref a:=rx;obtain⟨hd,vs,rel,dd⟩:=ACJ I2 dk;refine wpAny_notIn_of (Qx (k:=.inr t) ry) hd dd.mapOf ?_;have e:(valueAt vs (.inr t:Key)).isSome=(Dg tab t).isSome:=by
  rw[<-(rel.val (.inr t)).isSome_eq];cases hr:Dg tab t with
  | none=>rw[(XN pr t).2 hr];rfl
  | some row =>
   obtain⟨p,hv,_⟩:=(XN pr t).1 row hr;rw[hv];rfl
 rw[e];exact⟨.bl (!(Dg tab t).isSome),H2,I2.tok _,rfl,q2⟩
inductive Ens(w:World):List DictEntry->List (Str×Addr)->Prop
 | nil:Ens w [] []
 | cons {x:Str} {t:Tok} {a:Addr} {es:List DictEntry} {ks:List (Str×Addr)}:Ens w es ks->Ens w (⟨PyData.keyHash w.params x,.str x t,.ref a⟩::es) ((x,a)::ks)
theorem Ens.keys{w:World}{P:Program}{es:List DictEntry}{ks:List (Str×Addr)}(h:Ens w es ks):(∀e∈es,∃k,(CG P w).is k e.key=true/\e.hash=(CG P w).hash k)/\Pairs (CG P w) es (ks.map fun p=>((.inr p.1:Key),Value.ref p.2)):=by
 induction h with
 | nil=>exact⟨fun e h=>by simp at h,.nil⟩
 | @cons x t a es ks _ ih =>
  refine⟨fun e h=>?_,.cons (JD P w x t) rfl ih.2⟩;rcases AS2.mp h with z|z
  .rw[z];exact⟨.inr x,JD P w x t,rfl⟩
  .exact ih.1 e z
theorem AGb{P:Program}{w:World}{K:W.Frag}{a:Addr}{es:Array DictEntry}{ep:Nat}{ks:List (Str×Addr)}(hs:(a==sysModules)=false)(hk:K.lookup a=some ⟨.type "dict",none,.dict es ep,#[]⟩)(he:Ens w es.toList ks)(nd:(ks.map (·.1)).Nodup):DcK P w K a (ks.map fun p=>((.inr p.1:Key),V.ref p.2)):=by
 obtain⟨k1,k2⟩:=he.keys (P:=P);refine⟨hs,_,_,hk,⟨es,ep,⟨rfl,rfl,rfl⟩,rfl,fun e h=>k1 e (by simpa using h),k2,?_⟩,?_⟩
 .rw[List.map_map];have:((fun(x:Key×Value)=>x.1) ∘ fun(p:Str×Addr)=>((.inr p.1:Key),Value.ref p.2))=(fun(x:Str)=>(.inr x:Key)) ∘ (fun(p:Str×Addr)=>p.1):=rfl;rw[this,<-List.map_map];exact List.pairwise_map.mpr (nd.imp fun {a b} h z=>h (AWV z))
 .clear k1 k2 he nd hk
  induction ks with
  | nil=>exact .nil
  | cons p r ih=>exact .cons ⟨rfl,rfl⟩ ih
end
structure Drw(prog:Program)(w:World)(i l:Addr)(xs:Array Value)(S:Nat->Heap->Prop):Prop where
 mv:∀{k:Nat} {h h':Heap} {c:Addr},S k h->Heap.ExtBut c h h'->i≠c->l≠c->S k h'
 ob:∀{k:Nat} {h:Heap},S k h->∃o,h.get? i=some o/\∃vs,o.data=.fields vs
 nx:∀{A:Around} {E:Value->Shared->Prop} {s:Shared} {k:Nat} {x:Value} {Q:Value->Shared->Prop},S k s.heap->xs[k]?=some x->(∀h',S (k+1) h'->Heap.SameBut i s.heap h'->Q x { s with heap:=h' })->wpAny (model prog w) A (Builtin.SmallTypes.nextOf (.ref i)) Q E s
 en:∀{A:Around} {E:Value->Shared->Prop} {s:Shared} {k:Nat} {Q:Value->Shared->Prop},A.handled=none->S k s.heap->xs[k]?=none->(∀h' e,Heap.ExtBut i s.heap h'->(∃o,h'.get? e=some o/\o.cls=.type "StopIteration")->E (.ref e) { s with heap:=h' })->wpAny (model prog w) A (Builtin.SmallTypes.nextOf (.ref i)) Q E s
theorem WF{prog:Program}{w:World}{i l:Addr}{xs:Array Value}(ne:l≠i):Drw prog w i l xs (fun k h=>h.IsListIter i l k/\h.IsList l xs) where
 mv:=fun⟨a,b⟩ e n1 n2=>⟨a.extBut e n1,b.extBut e n2⟩
 ob:=fun⟨⟨o,e,_,d⟩,_⟩=>⟨o,e,_,d⟩
 nx:=fun⟨a,b⟩ hx q=>wpAny_nextOf_list_item a b hx fun h' a' sb=>q h' ⟨a',b.extBut sb.extBut ne⟩ sb
 en:=fun hh ⟨a,b⟩ hx q=>wpAny_nextOf_list_end hh a b hx fun h' e k o=>q h' e k o
theorem ZQ{prog:Program}{w:World}{i l:Addr}{xs:Array Value}(ne:l≠i):Drw prog w i l xs (fun k h=>h.IsTupleIter i l k/\h.IsTuple l xs) where
 mv:=fun⟨a,b⟩ e n1 n2=>⟨a.extBut e n1,b.extBut e n2⟩
 ob:=fun⟨⟨o,e,_,d⟩,_⟩=>⟨o,e,_,d⟩
 nx:=fun {A E s k x Q} ⟨a,b⟩ hx q=>by
  (obtain⟨o,ho,hc,hd⟩:=id a;obtain⟨ol,hol,_,nl,hdl⟩:=id b;unfold Builtin.SmallTypes.nextOf);(refine ASv (AT0 (name:=Str.ofString "__next__") a.typeIs AUJ (AUe AUJ a.typeIs AVa ?_ (AVR _)));show wpAny _ _ (field (.ref i) 0 >>= _) _ _ s;refine ASv (ATl ho hd (x:=.ref l) rfl ?_));(rw[if_neg (show ¬((Value.ref l==Value.none)=true) from AS3)];show wpAny _ _ (field (.ref i) 1 >>= _) _ _ s;refine ASv (ATl ho hd (x:=.int k 0) rfl ?_));(show wpAny _ _ (seqItems? (.ref l) >>= _) _ _ s;refine ASv (AUC hol hdl ?_);simp only[AUD,hx]);have sb:=Heap.SameBut.update s.heap i (Obj.mapFields (·.setIfInBounds 1 (rawInt ((k:Int)+1))));refine ASv (wpAny_setField ho hd (by simp) (ATC ⟨x,rfl,ATC (q _ ⟨⟨_,AVG _ ho (Obj.isFreed_of_fields (Obj.data_mapFields hd _)),(Obj.cls_mapFields ..).trans hc,?_⟩,b.extBut sb.extBut ne⟩ sb)⟩));rw[Obj.data_mapFields hd];simp[rawInt]
 en:=fun {A E s k Q} hh ⟨a,b⟩ hx q=>by
  (obtain⟨o,ho,hc,hd⟩:=id a;obtain⟨ol,hol,_,nl,hdl⟩:=id b;unfold Builtin.SmallTypes.nextOf);(refine ASv (AT0 (name:=Str.ofString "__next__") a.typeIs AUJ (AUe AUJ a.typeIs AVa ?_ (AVR _)));show wpAny _ _ (field (.ref i) 0 >>= _) _ _ s;refine ASv (ATl ho hd (x:=.ref l) rfl ?_));(rw[if_neg (show ¬((Value.ref l==Value.none)=true) from AS3)];show wpAny _ _ (field (.ref i) 1 >>= _) _ _ s;refine ASv (ATl ho hd (x:=.int k 0) rfl ?_));(show wpAny _ _ (seqItems? (.ref l) >>= _) _ _ s;refine ASv (AUC hol hdl ?_);simp only[AUD,hx]);refine ASv (AWr (ASv (wpAny_setField ho hd (by simp) ?_)));show wpAny _ _ (newExc (.type "StopIteration") [] >>= _) _ _ _;refine ASv ?_;simp only[newExc,newTuple];refine ASv (AVw ?_ (by size_fits));refine ASv (m:=firstArgMember _ _) (wpAny_of_eq (a:=Value.none) (by first | rfl | (simp only[firstArgMember];rfl)) ?_);refine AVw ?_ (by size_fits);simp only[raiseNew];refine ASv (wpAny_handled ?_)
  first | rw[show A.in1.handled=none from hh] | rw[hh]
  exact ASv (ATC (wpAny_throw (q _ _ (((Heap.SameBut.update ..).extBut.push _).push _) ⟨_,AS1 _ rfl,rfl⟩)))
section
variable {prog:Program}{w:World}{A:Around}{E:Value->Shared->Prop}{s:Shared}{z TI TO i1 i2 l1 l2:Addr}{xs ys:Array Value}{S1 S2:Nat->Heap->Prop}{k1 k2:Nat}{a b:Value}
theorem Zu{x y:Value}{Q:Value->Shared->Prop}(D:ZipApart z TI TO i1 i2 l1 l2)(d1:Drw prog w i1 l1 xs S1)(d2:Drw prog w i2 l2 ys S2)(hz:IsZip s.heap z TI TO .none)(hTI:IsPair s.heap TI (.ref i1) (.ref i2))(hTO:IsPair s.heap TO a b)(h1:S1 k1 s.heap)(h2:S2 k2 s.heap)(hx:xs[k1]?=some x)(hy:ys[k2]?=some y)
  (hQ:∀h',IsZip h' z TI TO (rawInt s.heap.objs.size)->IsPair h' TO x y->S1 (k1+1) h'->S2 (k2+1) h'->IsPair h' s.heap.objs.size x y->(∀c o,c≠z->c≠TO->c≠i1->c≠i2->s.heap.get? c=some o->h'.get? c=some o)->Q (.ref s.heap.objs.size) { s with heap:=h' }) :
  wpAny (model prog w) A (Builtin.«zip.__next__» ⟨[.ref z],[]⟩) (fun fin s'=>∃v,fin=.done (.ret v)/\Q v s') E s:=by
 show wpAny _ _ (field (.ref z) 2 >>= _) _ _ _;refine ASv (ATl hz rfl (x:=.bool false) rfl ?_);show wpAny _ _ (field (.ref z) 3 >>= _) _ _ _;refine ASv (ATl hz rfl (x:=.ref TI) rfl (ASv (AUC hTI rfl ?_)));show wpAny _ _ (Builtin.SmallTypes.ownedTupleIsFree (.ref z) >>= _) _ _ _;refine ASv ?_;unfold Builtin.SmallTypes.ownedTupleIsFree;refine ASv (ATl hz rfl (x:=.none) rfl (ATC ?_));simp only[if_true];refine ASv (AWr (ASv (ATl hz rfl (x:=.ref TO) rfl (ASv (ATf hz (by simp) fun g1 q1 b1=>ASv ?_)))));have z1:IsZip g1 z TI TO .ellipsis:=q1;(simp only[List.zipIdx_cons,List.zipIdx_nil,AUS,List.forIn_nil];refine ASv (ASv (AV1 ?_));show wpAny _ _ (Builtin.SmallTypes.nextOf (.ref i1) >>= _) _ _ _);refine ASv (d1.nx (s:={ s with heap:=g1 }) (d1.mv h1 b1.extBut D.i1z D.l1z) hx fun g2 t1 b2=>ATC ?_);have p2:IsPair g2 TO a b:=b2.extBut _ _ D.TOi1 (b1.extBut _ _ D.TOz hTO);refine ASv (AUC p2 rfl (ASv (AVO p2 fun g3 p3 b3=>ASv (AV2 (ATC ?_)))));replace p3:IsPair g3 TO x b:=p3;refine ASv (ASv (AV1 ?_));show wpAny _ _ (Builtin.SmallTypes.nextOf (.ref i2) >>= _) _ _ _;refine ASv (d2.nx (s:={ s with heap:=g3 }) (d2.mv (d2.mv (d2.mv h2 b1.extBut D.i2z D.l2z) b2.extBut D.i12.symm D.l2i1) b3.extBut D.TOi2.symm D.l2TO) hy fun g4 t2 b4=>ATC ?_);have p4:IsPair g4 TO x b:=b4.extBut _ _ D.TOi2 p3;refine ASv (AUC p4 rfl (ASv (AVO p4 fun g5 p5 b5=>ASv (AV2 (ATC (ATC ?_))))));replace p5:IsPair g5 TO x y:=p5;refine ASv (AUC p5 rfl (ASv (wpAny_newTuple ?_)));have hsz:g5.objs.size=s.heap.objs.size:=by rw[b5.1,b4.1,b3.1,b2.1,b1.1]
 have z5:IsZip g5 z TI TO .ellipsis:=b5.extBut _ _ D.TOz.symm (b4.extBut _ _ D.i2z.symm (b3.extBut _ _ D.TOz.symm (b2.extBut _ _ D.i1z.symm z1)));have k5:∀c o,c≠z->c≠TO->c≠i1->c≠i2->s.heap.get? c=some o->g5.get? c=some o:=fun c o c1 c2 c3 c4 e=>b5.extBut _ _ c2 (b4.extBut _ _ c4 (b3.extBut _ _ c2 (b2.extBut _ _ c3 (b1.extBut _ _ c1 e))));have qJ:S1 (k1+1) g5:=d1.mv (d1.mv (d1.mv t1 b3.extBut D.TOi1.symm D.l1TO) b4.extBut D.i12 D.l1i2) b5.extBut D.TOi1.symm D.l1TO;have qK:S2 (k2+1) g5:=d2.mv t2 b5.extBut D.TOi2.symm D.l2TO;have kO:z<g5.objs.size:=ASy z5;show wpAny _ _ (Builtin.SmallTypes.ownedTupleHandOut (.ref z) (.ref g5.objs.size) >>= _) _ _ _;refine ASv ?_;unfold Builtin.SmallTypes.ownedTupleHandOut;have z6:IsZip (g5.push { cls:=.type "tuple",data:=.seq #[x,y] }) z TI TO .ellipsis:=ASw _ z5;refine ASv (ATf z6 (by simp) fun g7 q7 b7=>?_);have z7:IsZip g7 z TI TO (rawInt g5.objs.size):=q7;refine ATf z7 (by simp) fun g8 q8 b8=>?_;have z8:IsZip g8 z TI TO (rawInt g5.objs.size):=q8;have oq:Heap.ExtBut z (g5.push { cls:=.type "tuple",data:=.seq #[x,y] }) g8:=fun c o c1 e=>b8.extBut _ _ c1 (b7.extBut _ _ c1 e);have up:Heap.ExtBut z g5 g8:=fun c o c1 e=>oq c o c1 (ASw _ e);have pT:IsPair g8 g5.objs.size x y:=oq _ _ (AU2 kO) (AS1 _ rfl);rw[hsz]at z8 pT;refine ATC ⟨_,rfl,?_⟩;show Q (.ref g5.objs.size) _;rw[hsz];exact hQ g8 z8 (up _ _ D.TOz p5) (d1.mv qJ up D.i1z D.l1z) (d2.mv qK up D.i2z D.l2z) pT fun c o c1 c2 c3 c4 e=>up c o c1 (k5 c o c1 c2 c3 c4 e)
theorem ACf{Q:Fin->Shared->Prop}(hh:A.handled=none)(D:ZipApart z TI TO i1 i2 l1 l2)(d1:Drw prog w i1 l1 xs S1)(d2:Drw prog w i2 l2 ys S2)(hz:IsZip s.heap z TI TO .none)(hTI:IsPair s.heap TI (.ref i1) (.ref i2))(hTO:IsPair s.heap TO a b)(h1:S1 k1 s.heap)(h2:S2 k2 s.heap)(hend:xs[k1]?=none\/ys[k2]?=none)
  (hE:∀h' e,(∀c o,c≠z->c≠TO->c≠i1->c≠i2->s.heap.get? c=some o->h'.get? c=some o)->(∃o,h'.get? e=some o/\o.cls=.type "StopIteration")->E (.ref e) { s with heap:=h' }) :
  wpAny (model prog w) A (Builtin.«zip.__next__» ⟨[.ref z],[]⟩) Q E s:=by
 show wpAny _ _ (field (.ref z) 2 >>= _) _ _ _;refine ASv (ATl hz rfl (x:=.bool false) rfl ?_);show wpAny _ _ (field (.ref z) 3 >>= _) _ _ _;refine ASv (ATl hz rfl (x:=.ref TI) rfl (ASv (AUC hTI rfl ?_)));show wpAny _ _ (Builtin.SmallTypes.ownedTupleIsFree (.ref z) >>= _) _ _ _;refine ASv ?_;unfold Builtin.SmallTypes.ownedTupleIsFree;refine ASv (ATl hz rfl (x:=.none) rfl (ATC ?_));simp only[if_true];refine ASv (AWr (ASv (ATl hz rfl (x:=.ref TO) rfl (ASv (ATf hz (by simp) fun g1 q1 b1=>ASv ?_)))));have z1:IsZip g1 z TI TO .ellipsis:=q1;have stop:∀{h:Heap} {e:Addr},IsZip h z TI TO .ellipsis->(∃o,h.get? e=some o/\o.cls=.type "StopIteration")->e≠z:=fun q ⟨o,ho,hc⟩ y=>by
  subst y;rw[q]at ho;cases ho;simp at hc
 (simp only[List.zipIdx_cons,List.zipIdx_nil,AUS,List.forIn_nil];refine ASv (ASv (AV1 ?_));show wpAny _ _ (Builtin.SmallTypes.nextOf (.ref i1) >>= _) _ _ _);have ot:=d1.mv h1 b1.extBut D.i1z D.l1z;cases hx:xs[k1]? with
 | none =>
  refine ASv (d1.en (s:={ s with heap:=g1 }) hh ot hx fun g2 e b2 he=>?_);have z2:IsZip g2 z TI TO .ellipsis:=b2 _ _ D.i1z.symm z1;have hez:=stop z2 he;obtain⟨oe,hoe,hce⟩:=he;exact ATf z2 (by simp) fun g3 _ b3=>hE g3 e (fun c o c1 _ c3 _ y=>b3.extBut _ _ c1 (b2 _ _ c3 (b1.extBut _ _ c1 y))) ⟨oe,b3.extBut _ _ hez hoe,hce⟩
 | some x =>
  have hy:ys[k2]?=none:=hend.resolve_left (by rw[hx];exact fun y=>nomatch y);refine ASv (d1.nx (s:={ s with heap:=g1 }) ot hx fun g2 t1 b2=>ATC ?_);have p2:IsPair g2 TO a b:=b2.extBut _ _ D.TOi1 (b1.extBut _ _ D.TOz hTO);refine ASv (AUC p2 rfl (ASv (AVO p2 fun g3 p3 b3=>ASv (AV2 (ATC (ASv (ASv (AV1 ?_)))))))) ;show wpAny _ _ (Builtin.SmallTypes.nextOf (.ref i2) >>= _) _ _ _;refine ASv (d2.en (s:={ s with heap:=g3 }) hh (d2.mv (d2.mv (d2.mv h2 b1.extBut D.i2z D.l2z) b2.extBut D.i12.symm D.l2i1) b3.extBut D.TOi2.symm D.l2TO) hy fun g4 e b4 he=>?_);have z4:IsZip g4 z TI TO .ellipsis:=b4 _ _ D.i2z.symm (b3.extBut _ _ D.TOz.symm (b2.extBut _ _ D.i1z.symm z1));have hez:=stop z4 he;obtain⟨oe,hoe,hce⟩:=he;exact ATf z4 (by simp) fun g5 _ b5=>hE g5 e (fun c o c1 c2 c3 c4 y=>b5.extBut _ _ c1 (b4 _ _ c4 (b3.extBut _ _ c2 (b2.extBut _ _ c3 (b1.extBut _ _ c1 y))))) ⟨oe,b5.extBut _ _ hez hoe,hce⟩
theorem YD{x y:Value}{Q:Option Value->Shared->Prop}(D:ZipApart z TI TO i1 i2 l1 l2)(d1:Drw prog w i1 l1 xs S1)(d2:Drw prog w i2 l2 ys S2)(hz:IsZip s.heap z TI TO .none)(hTI:IsPair s.heap TI (.ref i1) (.ref i2))(hTO:IsPair s.heap TO a b)(h1:S1 k1 s.heap)(h2:S2 k2 s.heap)(hx:xs[k1]?=some x)(hy:ys[k2]?=some y)
  (hQ:∀h',IsZip h' z TI TO (rawInt s.heap.objs.size)->IsPair h' TO x y->S1 (k1+1) h'->S2 (k2+1) h'->IsPair h' s.heap.objs.size x y->(∀c o,c≠z->c≠TO->c≠i1->c≠i2->s.heap.get? c=some o->h'.get? c=some o)->Q (some (.ref s.heap.objs.size)) { s with heap:=h' }) :
  wpAny (model prog w) A (pyNext (.ref z)) Q E s:=by
 have hT:s.TypeIs (.ref z) "zip":=⟨_,hz,rfl⟩;unfold pyNext;exact ASv (AV3 (AT0 (name:=Str.ofString "__next__") hT AVb (AUe AVb hT F.entry_zip_next (Zu D d1 d2 hz hTI hTO h1 h2 hx hy fun h' a1 a2 a3 a4 a5 a6=>ATC (hQ h' a1 a2 a3 a4 a5 a6)) (F.args_zip_next_1 _))))
theorem AAu{Q:Option Value->Shared->Prop}(hh:A.handled=none)(D:ZipApart z TI TO i1 i2 l1 l2)(d1:Drw prog w i1 l1 xs S1)(d2:Drw prog w i2 l2 ys S2)(hz:IsZip s.heap z TI TO .none)(hTI:IsPair s.heap TI (.ref i1) (.ref i2))(hTO:IsPair s.heap TO a b)(h1:S1 k1 s.heap)(h2:S2 k2 s.heap)(hend:xs[k1]?=none\/ys[k2]?=none)
  (hQ:∀h',(∀c o,c≠z->c≠TO->c≠i1->c≠i2->s.heap.get? c=some o->h'.get? c=some o)->Q none { s with heap:=h' }):wpAny (model prog w) A (pyNext (.ref z)) Q E s:=by
 have hT:s.TypeIs (.ref z) "zip":=⟨_,hz,rfl⟩;unfold pyNext;refine ASv (AV3 (AT0 (name:=Str.ofString "__next__") hT AVb (AUe AVb hT F.entry_zip_next (ACf hh D d1 d2 hz hTI hTO h1 h2 hend fun h' e hk he=>?_) (F.args_zip_next_1 _))));obtain⟨o,ho,hc⟩:=he;exact ASv (AV9 (T:="StopIteration") (b:=true) ⟨o,ho,hc⟩ isSubtype_stop (ATC (hQ _ hk)))
end
def AFk(K:W.Frag)(a b:Addr):It :=
 ⟨fun i H=>∃xs ys x y,SqT K H a xs/\SqL K H b ys/\xs[i]?=some x/\ys[i]?=some y,
   fun i H v H'=>∃T x y,v=.ref T/\H T=none/\H'=upd H T (.tup [x,y])/\(∀xs,SqT K H a xs->xs[i]?=some x)/\∀ys,SqL K H b ys->ys[i]?=some y,
   fun i H=>∃xs ys,SqT K H a xs/\SqL K H b ys/\(xs.length<=i\/ys.length<=i)⟩
theorem Z0{P:Program}{w:World}{K:W.Frag}{es:List Expr}{k:Nat}{tp:Pos}(a b z TI TO i1 i2:Addr)(D:ZipApart z TI TO i1 i2 a b):Turn P w K (.Tuple es k tp) (AFk K a b) [z,TI,TO,i1,i2] z
  (fun i h=>IsZip h z TI TO .none/\IsPair h TI (.ref i1) (.ref i2)/\(∃u v,IsPair h TO u v)/\h.IsTupleIter i1 a i/\h.IsListIter i2 b i) where
 mem:=by simp
 obj:=fun i h st c hc=>by
  (obtain⟨s1,s2,⟨u,v,s3⟩,⟨o4,e4,_,d4⟩,⟨o5,e5,_,d5⟩⟩:=st;simp only[AS2,AUc,or_false]at hc;rcases hc with rfl|rfl|rfl|rfl|rfl)
  .exact⟨_,s1,fun v z=>by
    (have z':Data.fields _=Data.cell v:=z);cases z'⟩
  .exact⟨_,s2,fun v z=>by
    (have z':Data.seq _ _=Data.cell v:=z);cases z'⟩
  .exact⟨_,s3,fun v z=>by
    (have z':Data.seq _ _=Data.cell v:=z);cases z'⟩
  .exact⟨o4,e4,fun v z=>by rw[d4]at z;cases z⟩
  .exact⟨o5,e5,fun v z=>by rw[d5]at z;cases z⟩
 keep:=fun i h h' st kk=>by
  obtain⟨s1,s2,⟨u,v,s3⟩,⟨o4,e4,r4⟩,s5⟩:=st;exact⟨kk z (by simp) _ s1,kk TI (by simp) _ s2,⟨u,v,kk TO (by simp) _ s3⟩,⟨o4,kk i1 (by simp) o4 e4,r4⟩,s5.at fun o e=>kk i2 (by simp) o e⟩
 item:=by
  walk_at "f";(obtain⟨s1,s2,⟨u0,v0,s3⟩,s4,s5⟩:=st);obtain⟨xs,ys,x,y,eZ,e6,hx,hy⟩:=hg;obtain⟨itx,fQ,px,_⟩:=I.tuple eZ;(obtain⟨i4,fR,py,_⟩:=I.list e6;obtain⟨u,hu,ru⟩:=fQ.get hx;obtain⟨v,hv,rv⟩:=fR.get hy);(have kO:z<s.heap.objs.size:=ASy s1;have qE:TI<s.heap.objs.size:=ASy s2;have qF:TO<s.heap.objs.size:=ASy s3);have qG:i1<s.heap.objs.size:=by obtain⟨_,e,_⟩:=s4;exact ASy e
  have qH:i2<s.heap.objs.size:=by obtain⟨_,e,_⟩:=s5;exact ASy e
  refine YD D (ZQ D.l1i1) (WF D.l2i2) s1 s2 s3 ⟨s4,px⟩ ⟨s5,py.isList⟩ (x:=u) (y:=v) (by simpa using hu) (by simpa using hv) fun h1 a1 a2 a3 a4 a5 hk1=>⟨_,rfl,AVp a1 fun h2 b1 cV=>?_⟩;replace cV:Heap.SameBut z h1 h2:=cV;have fresh:H s.heap.objs.size=none:=I.hok.fresh (Nat.le_refl _);have I1:Inv X aA σ (upd H s.heap.objs.size (.tup [x,y])) { s with heap:=s.heap.push { cls:=.type "tuple",data:=.seq ([u,v]:List Value).toArray },toks:=s.toks } :=
   I.laid (fun b o eb=>ASw _ eb) (Nat.le_refl _) (show Ci X.prog X.w _ _ _ (.tup _) from⟨(by show 2<=sizeLine;decide),_,.cons ru (.cons rv .nil),IsTup.new _ _⟩)
  have fo:∀b,b<s.heap.objs.size->HX X aA H b->HX X aA (upd H s.heap.objs.size (.tup [x,y])) b:=fun b lb fb=>⟨by rw[Az (ATR lb)];exact fb.1,fb.2⟩;have hfo:∀b∈[z,TI,TO,i1,i2],HX X aA (upd H s.heap.objs.size (.tup [x,y])) b:=fun b hb=>by
   refine fo b ?_ (hf b hb);simp only[AS2,AUc,or_false]at hb;rcases hb with rfl | rfl | rfl | rfl | rfl<;>assumption
  (have I2:=Pk (h':=h2) (t':=s.toks) [z,TI,TO,i1,i2] I1 (fun b o nb eb=>?_) hfo)
  .refine⟨.ref s.heap.objs.size,_,I2,rfl,⟨_,x,y,rfl,fresh,rfl,fun zs hz=>?_,fun zs hz=>by rw[I.list_inj hz e6];exact hy⟩,⟨b1,cV.extBut _ _ D.TIz (hk1 _ _ D.TIz D.TITO D.TIi1 D.TIi2 s2),⟨_,_,cV.extBut _ _ D.TOz a2⟩,a3.1.extBut cV.extBut D.i1z,a4.1.extBut cV.extBut D.i2z⟩,fun b hb=>(hfo b hb).1⟩;rw[I.tuple_inj hz eZ];exact hx
  .have n1:b≠z:=fun q=>nb (by simp[q]);(have n2:b≠TO:=fun q=>nb (by simp[q]);have n3:b≠i1:=fun q=>nb (by simp[q]);have n4:b≠i2:=fun q=>nb (by simp[q]));rcases AVN eb with⟨rfl,rfl⟩|eb
   .exact cV.extBut _ _ n1 a5
   .exact cV.extBut _ _ n1 (hk1 b o n1 n2 n3 n4 eb)
 done:=by
  walk_at "f";(obtain⟨s1,s2,⟨u0,v0,s3⟩,s4,s5⟩:=st);obtain⟨xs,ys,eZ,e6,hend⟩:=hg;obtain⟨itx,fQ,px,_⟩:=I.tuple eZ;obtain⟨i4,fR,py,_⟩:=I.list e6;have lx:=fQ.length;have ly:=fR.length;refine AAu (I.ok.hd hc) D (ZQ D.l1i1) (WF D.l2i2) s1 s2 s3 ⟨s4,px⟩ ⟨s5,py.isList⟩ ?_ fun h' hk=>⟨rfl,Pk (t':=s.toks) [z,TI,TO,i1,i2] I (fun b o nb e=>hk b o (fun q=>nb (by simp[q])) (fun q=>nb (by simp[q])) (fun q=>nb (by simp[q])) (fun q=>nb (by simp[q])) e) hf⟩;rcases hend with h|h
  .exact .inl (by simp;omega)
  .exact .inr (by simp;omega)
 self:=fun _ _ _ _ _ st h=>AVL st.1 h
def zt1(h:Heap)(l1:Addr):Heap:=h.push { cls:=.type "tuple_iterator",data:=.fields #[.ref l1,.int 0 0] }
def zt2(h:Heap)(l1 l2:Addr):Heap:=(zt1 h l1).push { cls:=.type "list_iterator",data:=.fields #[.ref l2,.int 0 0] }
noncomputable def zt3(h:Heap)(l1 l2:Addr):Heap:=(zt2 h l1 l2).push { cls:=.type "tuple",data:=.seq #[.ref h.objs.size,.ref (zt1 h l1).objs.size] }
def zt4(h:Heap)(l1 l2:Addr):Heap:=(zt3 h l1 l2).push { cls:=.type "tuple",data:=.seq #[.none,.none] }
noncomputable def zt5(h:Heap)(l1 l2:Addr):Heap:=(zt4 h l1 l2).push { cls:=.type "zip",data:=.fields #[.none,.bool false,.bool false,.ref (zt2 h l1 l2).objs.size,.ref (zt3 h l1 l2).objs.size] }
theorem ABV(l1 l2:Addr)(xs ys:Array Value) :
  Meets (Builtin.«zip.__new__» ⟨[.type "zip",.ref l1,.ref l2],[]⟩) (fun _ R s=>s.heap.IsTuple l1 xs/\s.heap.IsList l2 ys/\R (.ok (.ret (.ref (zt4 s.heap l1 l2).objs.size))) { s with heap:=zt5 s.heap l1 l2 }) :=
 .of_wp fun prog w A R s h=>by
  obtain⟨hp,g,d,tk,os⟩:=s;obtain⟨hl1,hl2,h⟩:=h;have hsub:=sub_zip;have hL1:Heap.IsTuple (Shared.heap ⟨hp,g,d,tk,os⟩) l1 xs:=hl1;have hL2:Heap.IsList (Shared.heap ⟨hp.push { cls:=.type "tuple_iterator",data:=.fields #[.ref l1,.int 0 0] },g,d,tk,os⟩) l2 ys:=Heap.IsList.push hl2 _
  wp_walk using wpAny_pyIter_tuple hL1,wpAny_pyIter_list hL2
  exact⟨_,rfl,h⟩
section
variable {prog:Program}{w:World}{A:Around}{E:Value->Shared->Prop}{s:Shared}
theorem AAw{l1 l2:Addr}{xs ys:Array Value}{Q:Value->Shared->Prop}(hl1:s.heap.IsTuple l1 xs)(hl2:s.heap.IsList l2 ys)
  (h:∀h',IsZip h' (s.heap.objs.size+4) (s.heap.objs.size+2) (s.heap.objs.size+3) .none->IsPair h' (s.heap.objs.size+2) (.ref s.heap.objs.size) (.ref (s.heap.objs.size+1)) ->
   IsPair h' (s.heap.objs.size+3) .none .none->h'.IsTupleIter s.heap.objs.size l1 0->h'.IsListIter (s.heap.objs.size+1) l2 0->(∀c o,s.heap.get? c=some o->h'.get? c=some o)->Q (.ref (s.heap.objs.size+4)) { s with heap:=h' }) :
  wpAny (model prog w) A (call (.type "zip") [.ref l1,.ref l2]) Q E s:=by
 refine callType_new F.called_zip (by decide) (F.typeCall_zip_2 _ _) (F.newCall_zip_2 _ _) (fun obj=>F.args_object_init_3 obj _ _) F.entry_zip_new (ABV l1 l2 xs ys) ⟨hl1,hl2,?_⟩;have z1:(zt1 s.heap l1).objs.size=s.heap.objs.size+1:=AUM ..;have z2:(zt2 s.heap l1 l2).objs.size=s.heap.objs.size+2:=(AUM ..).trans (by rw[z1]);have z3:(zt3 s.heap l1 l2).objs.size=s.heap.objs.size+3:=(AUM ..).trans (by rw[z2]);have z4:(zt4 s.heap l1 l2).objs.size=s.heap.objs.size+4:=(AUM ..).trans (by rw[z3]);have u5:∀c o,(zt4 s.heap l1 l2).get? c=some o->(zt5 s.heap l1 l2).get? c=some o:=fun c o e=>ASw _ e;have u4:∀c o,(zt3 s.heap l1 l2).get? c=some o->(zt5 s.heap l1 l2).get? c=some o:=fun c o e=>u5 c o (ASw _ e);have u3:∀c o,(zt2 s.heap l1 l2).get? c=some o->(zt5 s.heap l1 l2).get? c=some o:=fun c o e=>u4 c o (ASw _ e);have u2:∀c o,(zt1 s.heap l1).get? c=some o->(zt5 s.heap l1 l2).get? c=some o:=fun c o e=>u3 c o (ASw _ e);have u1:∀c o,s.heap.get? c=some o->(zt5 s.heap l1 l2).get? c=some o:=fun c o e=>u2 c o (ASw _ e);have g5:(zt5 s.heap l1 l2).get? (zt4 s.heap l1 l2).objs.size=some { cls:=.type "zip",data:=.fields #[.none,.bool false,.bool false,.ref (zt2 s.heap l1 l2).objs.size,.ref (zt3 s.heap l1 l2).objs.size] }:=AS1 _ rfl;have g4:(zt5 s.heap l1 l2).get? (zt3 s.heap l1 l2).objs.size=some { cls:=.type "tuple",data:=.seq #[.none,.none] }:=u5 _ _ (AS1 _ rfl);have g3:(zt5 s.heap l1 l2).get? (zt2 s.heap l1 l2).objs.size=some { cls:=.type "tuple",data:=.seq #[.ref s.heap.objs.size,.ref (zt1 s.heap l1).objs.size] }:=u4 _ _ (AS1 _ rfl);have g2:(zt5 s.heap l1 l2).get? (zt1 s.heap l1).objs.size=some { cls:=.type "list_iterator",data:=.fields #[.ref l2,.int 0 0] }:=u3 _ _ (AS1 _ rfl);have g1:(zt5 s.heap l1 l2).get? s.heap.objs.size=some { cls:=.type "tuple_iterator",data:=.fields #[.ref l1,.int 0 0] }:=u2 _ _ (AS1 _ rfl);show _/\_;rw[z2,z3,z4]at g5;rw[z1,z2]at g3;rw[z3]at g4;rw[z1]at g2;rw[z4];exact⟨⟨_,g5,rfl⟩,h _ g5 g3 g4 ⟨_,g1,rfl,rfl⟩ ⟨_,g2,rfl,rfl⟩ u1⟩
end
def AQH(K:W.Frag)(ta:TA):TI:=fun σ H R=>ta σ H fun vs H1=>∃a b,vs=[.ref a,.ref b]/\(∃xs,SqT K H1 a xs)/\(∃ys,SqL K H1 b ys)/\R (AFk K a b) H1
theorem ZJ{X:Cx}{es:List Expr}{k:Nat}{tp:Pos}{a b:Expr}{ta:TA}{p pos:Pos}(hg:Gl X "zip")(hm:X.mg "zip"=none)(ha:PA X [a,b] ta)(hs:starEach [a,b] X.env=[(false,eval a X.env),(false,eval b X.env)]:=by rfl)(hs2:starEach [b] X.env=[(false,eval b X.env)]:=by rfl) :
  PI X (.Tuple es k tp) (.Call (.Name "zip" p) [a,b] [] pos) (AQH X.K ta):=by
 intro aA s σ H R I h;refine Call_ (HR I hg hm boot_zip (ATe (thn (ha pos aA s σ H _ I h) fun us s1 ⟨vs,H1,I1,r1,q1⟩=>?_) (by rw[hs,hs2]) (by rw[hs2];rfl)));obtain⟨l1,l2,rfl,⟨xs,eZ⟩,⟨ys,e6⟩,q⟩:=q1;cases r1 with
 | cons r rr =>
  cases rr with
  | cons r' rr =>
   cases rr;cases r;cases r';obtain⟨itx,fQ,px,_⟩:=I1.tuple eZ;obtain⟨i4,fR,py,_⟩:=I1.list e6;have a1:l1<s1.heap.objs.size:=by obtain⟨_,e,_⟩:=px;exact ASy e
   have a2:l2<s1.heap.objs.size:=by obtain⟨_,e,_⟩:=py.isList;exact ASy e
   refine AAw px py.isList fun h' hz hTI hTO hi1 hi2 hk=>AVL hz ?_;(have I2:Inv X aA σ H1 { s1 with heap:=h' }:=I1.kept (t':=s1.toks) hk);refine⟨s1.heap.objs.size+4,[s1.heap.objs.size+4,s1.heap.objs.size+2,s1.heap.objs.size+3,s1.heap.objs.size,s1.heap.objs.size+1],_,_,H1,rfl,I2,Z0 l1 l2 _ _ _ _ _ (zipApart_new a1 a2),⟨hz,hTI,⟨_,_,hTO⟩,hi1,hi2⟩,fun b hb=>?_,q⟩;simp only[AS2,AUc,or_false]at hb;rcases hb with rfl|rfl|rfl|rfl|rfl
   .exact I1.fpOk (ATQ _ 4) (I1.hok.fresh (ATQ _ 4))
   .exact I1.fpOk (ATQ _ 2) (I1.hok.fresh (ATQ _ 2))
   .exact I1.fpOk (ATQ _ 3) (I1.hok.fresh (ATQ _ 3))
   .walk_at "l"
   .exact I1.fpOk (ATQ _ 1) (I1.hok.fresh (ATQ _ 1))
theorem TX{K:W.Frag}{a b:Addr}{ks ys:List V}{β:Type}{bs:List β}{te:Shared->Hp->Addr->List Addr->TE}{js:List Nat}{σ:L2.St}{H1:Hp}{Q:VK}(G:Addr->Hp->V->β->Prop)(n:Nat)(hn:n<=100000)(hk:ks.length=n)(hy:ys.length=n)(hb:bs.length=n)
  (keep:∀{D H H' v x},G D H v x->Am H H'->G D H' v x) (put:∀{D H v x xs zs},G D H v x->H D=some (.lst xs)->G D (upd H D (.lst zs)) v x) (ha:∀H,Am H1 H->SqT K H a ks) (qL:H1 b=some (.lst ys))
  (hs:∀zb zc C ex (i:Nat) k y x H D zs (R:VK),ks[i]?=some k->ys[i]?=some y->bs[i]?=some x->Am H1 H->H1 D=none->H D=some (.lst zs)->(∀v H2,Am H H2->G D H2 v x->R v H2)->te zb zc C ex (some k::some y::js.map fun j=>(σ[j]?).join) H R)
  (hd:∀H D vs,Am H1 H->H1 D=none->H D=some (.lst vs)->Paired (G D H) vs bs->Q (.ref D) H):Mi (AFk K a b) (ACg K 2 (LK (El 0) (LK (El 1) AAy))) (fun _ _ _ _=>PP) te 2 js σ Q H1:=by
 intro D hD;refine⟨fun i m vs H=>m=n-i/\i<=n/\Paired (G D H) vs (bs.take i)/\Am H1 H/\H D=some (.lst vs),⟨n,by simp,ATW _,.nil,Ah hD _,Ag⟩,?_⟩;rintro i m vs H ⟨rfl,hi,pr,sm,bj⟩;refine⟨bj,?_⟩;have fv:=sm _ _ qL;have hra:=ha H sm;by_cases hlt:i<n
 .have h1:ks[i]?=some (ks[i]'(by omega)):=Io (by omega);have h2:ys[i]?=some (ys[i]'(by omega)):=Io (by omega);have h3:bs[i]?=some (bs[i]'(by omega)):=Io (by omega);refine .inr ⟨⟨_,_,_,_,hra,SqL.of fv,h1,h2⟩,?_⟩;rintro v H' ⟨T,x,y,rfl,hT,rfl,ex,ey⟩ zb zc C fF zi hσ;have ex':=ex _ hra;have ey':=ey _ (SqL.of fv);rw[h1]at ex';rw[h2]at ey';cases ex';cases ey';obtain⟨v1,v2,rfl⟩:∃v1 v2,zi=[v1,v2]:=by
   match zi,hσ with
   | [v1,v2],_=>exact⟨v1,v2,rfl⟩
  have u:=Ah hT (.tup [ks[i]'(by omega),ys[i]'(by omega)]);refine⟨T,_,rfl,SqT.of Ag,rfl,_,_,rfl,_,_,rfl,rfl,⟨[some (ks[i]'(by omega)),some (ys[i]'(by omega))],rfl,rfl⟩,?_⟩;dsimp only[PP];refine RV ?_;have dX:=u _ _ bj;refine hs zb zc C fF i _ _ _ _ D vs _ h1 h2 h3 (sm.trans u) hD dX fun v H2 s2 g2=>?_;walk_at "d"
  have kP:=s2 _ _ dX;have lv:vs.length=i:=by
   rw[AT8 pr,AS8];omega
  refine⟨kP,by omega,n-(i+1),by omega,rfl,hlt,?_,Bd ((sm.trans u).trans s2) hD _,Ag⟩;rw[ATy,h3];have app:∀{xs us:List V} {zs ws:List β} {HH:Hp},Paired (G D HH) xs zs->Paired (G D HH) us ws->Paired (G D HH) (xs++us) (zs++ws):=by
   intro xs us zs ws HH h k
   induction h with
   | nil=>exact k
   | cons x _ ih=>exact .cons x ih
  exact app (Paired.imp' (fun _ _ z=>put (keep z (u.trans s2)) kP) pr) (.cons (put g2 kP) .nil)
 .have e:i=n:=by omega
  subst e;rw[<-hb,ATK]at pr;exact .inl ⟨⟨_,_,hra,SqL.of fv,by omega⟩,hd H D vs sm hD bj pr⟩
structure Fly(outer:List Env)(H:Hp)(h0:Heap)(a:Addr)(C:Value)(h:Heap):Prop where
 ex:∃B T a0,Heap.FlyingW B outer a C a0 h/\(∀b o,h.get? b=some o->b∉frs outer->b≠a->b≠T->B.get? b=some o)/\H a=none/\H T=none/\h0.get? a=none/\h0.get? T=none
def CXe(P:Program)(w:World):CXT:=fun outer H s E e s'=>∃a C H',e=.ref a/\s'.os=s.os/\AllBare s'.gens/\Un (frs outer) [] H H' s.heap s'.heap/\HOk P w H' s'.heap/\Fly outer H' s.heap a C s'.heap/\E C none H'
section
variable {P:Program}{w:World}{K:W.Frag}{mg:Str->Option Value}{base:Heap}{N:List Str}{qual:Str}{scope:Scope}{f:Addr}{cd:Value}{A:Around}{outer:List Env}{s:Shared}{H:Hp}{E:XK}
 {aA:List (Addr×Obj)} {σ:L2.St} {H1:Hp} {s1:Shared}
end
noncomputable abbrev AFc:List Value:=[.type "ValueError",.type "Exception",.type "BaseException",.type "object"]
def AQa(K:W.Frag)(C:Addr):Prop:=W.excIn K C AFc "ValueError.__new__"=true
def AQ8(E:XK)(C:Addr)(ta:TA):TS:=fun _ σ H=>ta σ H fun vs H1=>vs.length<=sizeLine/\E (.ref C) none H1
section
variable {P:Program}{w:World}{K:W.Frag}{mg:Str->Option Value}{base:Heap}{N:List Str}{qual:Str}{scope:Scope}{f:Addr}{cd:Value}{A:Around}{outer:List Env}{s:Shared}{H:Hp}{E:XK}
end
structure ASe(P:Program)(w:World)(K:W.Frag)(mg:Str->Option Value)(base:Heap)(x:Str)(k:Nat)(ps:List Str)(ds:List Value)(cu:List V)(sp:Sp):Prop where
 ex:∃f fd,BP P w K mg base (CXe P w) k f fd ps sp/\Ef K fd ps ds/\W.keepIn K (.ref f)=true/\mg x=some (.ref f)
 dv:BW cu ds
def XP(X:Cx)(aA:List (Addr×Obj))(R:Value->L2.St->Hp->Prop)(e:Value)(s':Shared):Prop :=
 ∃a C zd H' H1 s1,e=.ref a/\Inv X aA zd H1 s1/\Inv X aA zd H' s'/\Fly X.stack H' s1.heap a C s'.heap/\R C zd H'
def PSx(X:Cx)(st:Stmt)(t:(Value->L2.St->Hp->Prop)->TS):Prop :=
 ∀(aA:List (Addr×Obj)) (s:Shared) (σ:L2.St) (H:Hp) (D:Lj) (R:Value->L2.St->Hp->Prop),Inv X aA σ H s->t R D σ H->wpAny (model X.prog X.w) X.A (exec st X.env) (SP X aA D) (XP X aA R) s
def ARR(sp:Sp)(cu:List V)(t:TA):(Value->L2.St->Hp->Prop)->TS:=fun R D σ H=>t σ H fun vs H1=>sp (vs++cu) H1 (fun _ H2=>D.nx σ H2) fun C _ H2=>R C σ H2
def hdl(X:Cx)(a:Addr):Cx:={ X with A:=X.A.mark (some (.ref a)),calm:=false,xe:=fun _ _=>False }
section
variable {X:Cx}{aA:List (Addr×Obj)}{σ:L2.St}{H:Hp}{s:Shared}
def more(X:Cx)(l:List Addr):Cx:={ X with ex:=X.ex++l }
def ALc(a:Addr)(C:Value)(h:Heap):Prop:=∃o,h.get? a=some o/\o.cls=C
end
def unb(i:Nat)(D:Lj):Lj:={ nx:=fun σ H=>D.nx (σ.set i none) H,rt:=D.rt,bk:=fun σ H=>D.bk (σ.set i none) H,ct:=fun σ H=>D.ct (σ.set i none) H }
def ASk(K:W.Frag)(C0:Addr)(i:Nat)(tb:(Value->L2.St->Hp->Prop)->TS)(ts:Addr->TS):TS:=fun D σ H =>
 tb (fun C zd H'=>W.exmOne K C (.ref C0)=some true/\∀a,H' a=none->ts a (unb i D) (zd.set i (some (.ref a))) (upd H' a (.ext (ALc a C)))) D σ H
def AMZ(xs ys:List V):Bool:=(List.range xs.length).all fun j=>eqV (xs.getD j .non) (ys.getD j .non)
section
variable {X:Cx}
def ASr(K:W.Frag)(neg:Bool):R2:=fun x y H Q=>∃a b xs ys,x=.ref a/\y=.ref b/\SqL K H a xs/\SqL K H b ys/\xs.length=ys.length/\xs.all Iv=true/\ys.all Iv=true/\Q (.bl (if neg then !AMZ xs ys else AMZ xs ys)) H
end
open Builtin Builtin.ObjectAttr Builtin.Getset_descriptor
structure AJO(K:W.Frag)(D:Addr):Prop where
 is:W.isClsIn K D=true
 ga:W.findIn K (.ref D) "__getattribute__"=some (some (.builtin "BaseException.__getattribute__"))
 no:W.findIn K (.ref D) "__getattr__"=some none
 cl:W.findIn K (.ref D) "__class__"=some (some (.builtin "object.__class__"))
 mb:W.mroIn K D (.type "BaseException")=some true
 mo:W.mroIn K D (.type "object")=some true
section
variable {prog:Program}{w:World}{A:Around}{E:Value->Shared->Prop}{h:Heap}{g:Array GenState}{d:Drawn}{t:Nat}{os:OsState}{a D:Addr}{K:W.Frag}
end
section
variable {X:Cx}
def ASl:V->Option Value
 | .ref a=>some (.ref a)
 | .ty n=>some (.type n)
 | _=>none
end
section
variable {P:Program}{w:World}{K:W.Frag}{mg:Str->Option Value}{base:Heap}{N:List Str}{qual:Str}{scope:Scope}{f:Addr}{cd:Value}{A:Around}{outer:List Env}{s:Shared}{H:Hp}{E:XK}
 {aA:List (Addr×Obj)} {σ:L2.St} {H1:Hp} {s1 s2:Shared}
end
noncomputable def ASc(X:Cx)(aK:Scope)(N':List Str)(zb:Shared)(zc:Hp)(C:Addr)(ex:List Addr)(Y:Value->Shared->Prop):Cx:={ blk X aK N' zb zc C ex with xe:=Y }
section
variable {P:Program}{w:World}{K:W.Frag}{mg:Str->Option Value}{base:Heap}{N:List Str}{qual:Str}{scope:Scope}{f:Addr}{cd:Value}{A:Around}{outer:List Env}{s:Shared}{H:Hp}{E:XK}
end
section
variable {P:Program}{w:World}{K:W.Frag}{mg:Str->Option Value}{base:Heap}{N:List Str}{qual:Str}{scope:Scope}{f:Addr}{cd:Value}{A:Around}{outer:List Env}{s:Shared}{H:Hp}{E:XK}
end
def TrD(h base:Heap)(e:Addr)(C:Value)(dx:Option Addr)(fl:Value):Prop :=
 ∃oe vs T oT ts,(h.get? e=some oe/\oe.cls=C/\oe.dict=dx/\oe.data=.fields vs/\vs[1]?=some (.ref T))/\(base.get? T=none/\T≠e)/\h.get? T=some oT/\oT.data=.fields ts/\ts[3]?=some fl
structure FlD(base:Heap)(l:List Env)(e:Addr)(C:Value)(dx:Option Addr)(fl:Value)(h:Heap):Prop where
 st:base.StaysIn h
 nw:base.get? e=none
 fr:h.FunFrames base l
 tr:TrD h base e C dx fl
section
variable {M:Model}{A:Around}{E:Value->Shared->Prop}{s:Shared}{base:Heap}{env:Env}{outer l:List Env}{L e:Addr}{C fl:Value}{dx:Option Addr}{Q:Unit->Shared->Prop}
end
def isR:Value->Bool
 | .ref _=>true
 | _=>false
def AGG(l:List Value):Bool:=l.dropWhile isR==[.type "ValueError",.type "Exception",.type "BaseException",.type "object"]
structure ARU(K:W.Frag)(C:Addr):Prop where
 ov:((W.clsIn K C).any fun cd=>AGG cd.mro)=true
 hd:W.hasDictIn K C=true
 sa:W.findIn K (.ref C) "__setattr__"=some (some (.builtin "object.__setattr__"))
 ga:W.findIn K (.ref C) "__getattribute__"=some (some (.builtin "BaseException.__getattribute__"))
 no:W.findIn K (.ref C) "__getattr__"=some none
 is:W.isClsIn K C=true
section
variable {prog:Program}{w:World}{A:Around}{E:Value->Shared->Prop}{s:Shared}{K:W.Frag}{x C:Addr}{name:Str}{v:Value}{ox:Obj}{vs:Array Value}
end
structure AMN(outer:List Env)(H:Hp)(h0:Heap)(a:Addr)(C:Value)(dx:Option Addr)(h:Heap):Prop where
 ex:∃B T,FlD B outer a C dx .none h/\(∀b o,h.get? b=some o->b∉frs outer->b≠a->b≠T->B.get? b=some o)/\H a=none/\H T=none/\h0.get? a=none/\h0.get? T=none
def CXd(P:Program)(w:World):CXT:=fun outer H s E e s'=>∃a C dx H',e=.ref a/\s'.os=s.os/\AllBare s'.gens/\Un (frs outer) [] H H' s.heap s'.heap/\HOk P w H' s'.heap/\AMN outer H' s.heap a C dx s'.heap/\E C dx H'
section
variable {P:Program}{w:World}{K:W.Frag}{mg:Str->Option Value}{base:Heap}{N:List Str}{qual:Str}{scope:Scope}{f:Addr}{cd:Value}{A:Around}{outer:List Env}{s:Shared}{H:Hp}{E:XK}
 {aA:List (Addr×Obj)} {σ:L2.St} {H1:Hp} {s1:Shared}
end
structure ASj(P:Program)(w:World)(K:W.Frag)(mg:Str->Option Value)(base:Heap)(x:Str)(k:Nat)(ps:List Str)(ds:List Value)(cu:List V)(sp:Sp):Prop where
 ex:∃f fd,BP P w K mg base (CXd P w) k f fd ps sp/\Ef K fd ps ds/\W.keepIn K (.ref f)=true/\mg x=some (.ref f)
 dv:BW cu ds
def XPD(X:Cx)(aA:List (Addr×Obj))(R:Value->Option Addr->L2.St->Hp->Prop)(e:Value)(s':Shared):Prop :=
 ∃a C dx zd H' H1 s1,e=.ref a/\Inv X aA zd H1 s1/\Inv X aA zd H' s'/\AMN X.stack H' s1.heap a C dx s'.heap/\R C dx zd H'
def ASP(X:Cx)(st:Stmt)(t:(Value->Option Addr->L2.St->Hp->Prop)->TS):Prop :=
 ∀(aA:List (Addr×Obj)) (s:Shared) (σ:L2.St) (H:Hp) (D:Lj) (R:Value->Option Addr->L2.St->Hp->Prop),Inv X aA σ H s->t R D σ H->wpAny (model X.prog X.w) X.A (exec st X.env) (SP X aA D) (XPD X aA R) s
def AQR(sp:Sp)(cu:List V)(t:TA):(Value->Option Addr->L2.St->Hp->Prop)->TS:=fun R D σ H=>t σ H fun vs H1=>sp (vs++cu) H1 (fun _ H2=>D.nx σ H2) fun C dx H2=>R C dx σ H2
section
variable {X:Cx}{aA:List (Addr×Obj)}{σ:L2.St}{H:Hp}{s:Shared}
def ADP(a:Addr)(C:Value)(dx:Option Addr)(h:Heap):Prop:=∃o,h.get? a=some o/\o.cls=C/\o.dict=dx/\∃vs,o.data=.fields vs
end
def ARs(K:W.Frag)(C0:Addr)(i:Nat)(tb:(Value->Option Addr->L2.St->Hp->Prop)->TS)(ts:Addr->TS):TS:=fun D σ H =>
 tb (fun C dx zd H'=>W.exmOne K C (.ref C0)=some true/\∀a,H' a=none->ts a (unb i D) (zd.set i (some (.ref a))) (upd H' a (.ext (ADP a C dx)))) D σ H
section
variable {prog:Program}{w:World}{A:Around}{E:Value->Shared->Prop}{h:Heap}{g:Array GenState}{d:Drawn}{t:Nat}{os:OsState}{K:W.Frag}{x C:Addr}{name:Str}{v:Value}{ox:Obj}{od:Option Obj}
end
def AR9(K:W.Frag)(ta:TE)(f:Str):TE:=fun σ H Q=>ta σ H fun x H1=>∃a C d fs v,x=.ref a/\H1 a=some (.ext (ADP a (.ref C) (some d)))/\AJO K C/\W.hasDictIn K C=true/\Fl K C f/\H1 d=some (.xd fs)/\fs.lookup f=some v/\Q v H1
def ADn(a:Addr)(C:Value)(dx:Option Addr)(h:Heap):Prop:=∃o vs,h.get? a=some o/\o.cls=C/\o.dict=dx/\o.data=.fields vs/\vs[1]?=some .none/\vs[2]?=some .none
def ARu(K:W.Frag)(ta tv:TE)(f:Str):TS:=fun D σ H=>tv σ H fun y H1=>ta σ H1 fun x H2=>∃a C,x=.ref a/\H2 a=some (.ext (ADn a (.ref C) none))/\ARU K C/\Fl K C f /\
 ∀d,H2 d=none->d≠a->D.nx σ (upd (upd H2 d (.xd [(f,y)])) a (.ext (ADn a (.ref C) (some d))))
noncomputable def AHp(K:W.Frag)(C fI:Addr):Bool:=match K.lookup C with
 | some ⟨.type "type",_,.cls cd,sl⟩=>(match cd.mro,sl.toList with
  | .ref C'::bm,[_,_,_,_,some (.builtin n),_]=>C'==C&&n=="ValueError.__new__"&&!cd.hasDel&&W.tailIn K AFc bm&&W.nsOkIn K cd.ns&&W.nsIn K cd.ns "__init__"==some (some (.ref fI))
  | _,_=>false)
 | _=>false
structure AQl(K:W.Frag)(C fI:Addr):Prop where
 ex:AHp K C fI=true
 fn:W.isFn K (.ref fI)=true
section
variable {prog:Program}{w:World}{A:Around}{E:Value->Shared->Prop}{h:Heap}{g:Array GenState}{d:Drawn}{t:Nat}{os:OsState}
variable {nm q:Str}{C N:Addr}{bs bm bmB:List Value}{hdct:Bool}{sn:List Str}{sub:List Value}{ab:Bool}{col:Option Bool}{dd:Option Addr}{k0 k1 k2 k3 k5:Option Value}{B newId initId:String}
end
section
variable {M:Model}{A:Around}{E:Value->Shared->Prop}{env:Env}
variable {nm q:Str}{C N:Addr}{bs bm:List Value}{hdct:Bool}{sn:List Str}{sub:List Value}{ab:Bool}{col:Option Bool}{dd:Option Addr}{k0 k1 k2 k3 k5:Option Value}{newId:String}
end
def drp(H:Hp)(a:Addr):Hp:=fun b=>if b=a then none else H b
def AQV(E:XK)(C:Addr)(sp:Sp)(ta:TA):TS:=fun _ σ H=>ta σ H fun vs H1=>vs.length<=sizeLine/\∀e,H1 e=none ->
 sp (.ref e::vs) (upd H1 e (.ext (ADn e (.ref C) none))) (fun r H2=>r=.non/\∃dx,H2 e=some (.ext (ADn e (.ref C) dx))/\E (.ref C) dx (drp H2 e)) E0
section
variable {P:Program}{w:World}{K:W.Frag}{mg:Str->Option Value}{base:Heap}{N:List Str}{qual:Str}{scope:Scope}{f:Addr}{cd:Value}{A:Around}{outer:List Env}{s:Shared}{H:Hp}{E:XK}
end
structure AR7(P:Program)(w:World)(K:W.Frag)(mg:Str->Option Value)(base:Heap)(x:Str)(C:Addr)(k:Nat)(ps:List Str)(sp:Sp):Prop where
 ex:∃f fd,BP P w K mg base (CXd P w) k f fd ps sp/\Ef K fd ps []/\Mk K C f/\mg x=some (.ref C)
section
variable {X:Cx}{C:Addr}{x:Str}{k j:Nat}{ps:List Str}{sp:Sp}{e:Expr}{es:List Expr}{t:TA}{p pos pos':Pos}
def ARF(C:Addr)(sp:Sp)(t:TA):(Value->Option Addr->L2.St->Hp->Prop)->TS:=fun R D σ H=>t σ H fun vs H1=>∀x dx,H1 x=none->H1 dx=none->dx≠x ->
 sp (.ref x::vs) (upd (upd H1 dx (.own x)) x (.ins C dx [])) (fun v H2=>v=.non/\D.nx σ H2) fun Cv d H2=>R Cv d σ H2
end
structure ASb(P:Program)(w:World)(K:W.Frag)(mg:Str->Option Value)(base:Heap)(x:Str)(C:Addr)(k:Nat)(ps:List Str)(sp:Sp):Prop where
 ex:∃fI fd,AQl K C fI/\W.keepIn K (.ref C)=true/\BP P w K mg base CX0 k fI fd ps sp/\Ef K fd ps []/\mg x=some (.ref C)
def AQZ(sp:Sp)(cu:List V)(i:Nat)(t:TA):(Value->Option Addr->L2.St->Hp->Prop)->TS:=fun R D σ H=>t σ H fun vs H1=>sp (vs++cu) H1 (fun v H2=>D.nx (σ.set i (some v)) H2) fun C dx H2=>R C dx σ H2
section
variable {M:Model}{A:Around}{E:Value->Shared->Prop}{s:Shared}{base:Heap}{env:Env}{outer l:List Env}{L e:Addr}{C fl:Value}{dx:Option Addr}
end
section
variable {P:Program}{w:World}{K:W.Frag}{mg:Str->Option Value}{base:Heap}{N:List Str}{qual:Str}{scope:Scope}{f:Addr}{cd:Value}{A:Around}{outer:List Env}{s:Shared}{H:Hp}{E:XK}
 {aA:List (Addr×Obj)} {σ:L2.St} {H1:Hp} {s1 s2:Shared}
end
structure AR6(P:Program)(w:World)(K:W.Frag)(mg:Str->Option Value)(base:Heap)(C:Addr)(m:Str)(k:Nat)(ps:List Str)(sp:Sp):Prop where
 ex:∃f fd,BP P w K mg base (CXd P w) k f fd ps sp/\Ef K fd ps []/\ADK K C m f/\Cls K C
def AQT(C:Addr)(m:Str)(sp:Sp)(i:Nat)(ta:TE)(t:TA):(Value->Option Addr->L2.St->Hp->Prop)->TS:=fun R D σ H=>ta σ H fun x H1=>∃a dx fs,x=.ref a/\H1 a=some (.ins C dx fs)/\fs.lookup m=none /\
 t σ H1 fun vs H2=>sp (x::vs) H2 (fun v H3=>D.nx (σ.set i (some v)) H3) fun C dx H3=>R C dx σ H3
def ARq(tc:TT)(t u:(Value->Option Addr->L2.St->Hp->Prop)->TS):(Value->Option Addr->L2.St->Hp->Prop)->TS:=fun R D σ H=>tc σ H fun b H1=>if b=true then t R D σ H1 else u R D σ H1
def isInt:PyData->Bool
 | .int _=>true
 | _=>false
def ARx:PyData->Bool
 | .tuple _=>true
 | _=>false
def ARt:PyData->Bool
 | .list _=>true
 | _=>false
noncomputable def frd:PyData->Bool
 | .tuple [.int a,.int b]=>decide (1<=b)&&decide (g a b=1)
 | _=>false
noncomputable def abo:PyData->Bool
 | .tuple [.int a,.int b]=>decide (1<=b)&&decide (g a b=1)&&decide (0<a)
 | _=>false
def ALi:PyData->Bool
 | .list ds=>ds.all abo
 | _=>false
def AIW:PyData->PyData->Bool
 | .list a,.list b=>decide (a.length=b.length+1)&&decide (b.length<=12)
 | _,_=>false
def AQj(a b:PyData):Bool:=ALi a&&ALi b&&AIW a b
structure Ke(K:W.Frag)(H:Hp)(v:V)(i b t l:Bool):Prop where
 ex:∃ty,Gz K H v ty/\W.kitOne K ty (.type "int")=some i/\W.kitOne K ty (.type "bool")=some b/\W.kitOne K ty (.type "tuple")=some t/\W.kitOne K ty (.type "list")=some l
mutual
def XQ:PyData->Bool
 | .list _=>false
 | .dict _=>false
 | .tuple ds=>flatAll ds
 | .none=>true
 | .bool _=>true
 | .int _=>true
 | .str _=>true
def flatAll:List PyData->Bool
 | []=>true
 | d::ds=>XQ d&&flatAll ds
end
mutual
theorem Dv.upl{H:Hp}{D:Addr}{xs ys:List V}(hD:H D=some (.lst xs)):∀{v:V} {d:PyData},Dv H v d->XQ d=true->Dv (upd H D (.lst ys)) v d
 | _,_,.non,_=>.non
 | _,_,.bl b,_=>.bl b
 | _,_,.int i,_=>.int i
 | _,_,.str x ok,_=>.str x ok
 | _,_,.lst _ _,e=>by rw[XQ]at e;cases e
 | _,_,.tup h r,e=>by
  rw[XQ]at e;exact .tup (by rw[Az (G3 h hD (by intro z;cases z))];exact h) (DvAll.upl hD r e)
theorem DvAll.upl{H:Hp}{D:Addr}{xs ys:List V}(hD:H D=some (.lst xs)):∀{vs:List V} {ds:List PyData},DvAll H vs ds->flatAll ds=true->DvAll (upd H D (.lst ys)) vs ds
 | _,_,.nil,_=>.nil
 | _,_,.cons h r,e=>by
  rw[flatAll,AUZ]at e;exact .cons (Dv.upl hD h e.1) (DvAll.upl hD r e.2)
end
def AQu:PyData->Bool
 | .list ds=>flatAll ds
 | d=>XQ d
def ASB:PyData->Bool
 | .list ds=>ds.all AQu
 | d=>XQ d
def Off(D:Addr)(H:Hp)(v:V)(d:PyData):Prop:=(XQ d=true/\Dv H v d)\/∃l zs ds,v=.ref l/\l≠D/\H l=some (.lst zs)/\DvAll H zs ds/\flatAll ds=true/\d=.list ds
abbrev ASI(D:Addr)(H:Hp):List V->List PyData->Prop:=Paired (Off D H)
section
variable {prog:Program}{w:World}{A:Around}{E:Value->Shared->Prop}{s:Shared}
theorem XR:typeLookup (.type "list_reverseiterator") "__len__"=pure none:=by rw[typeLookup_type,builtinLookup_eq_fast];kernel_rfl
theorem ADE:typeLookup (.type "list_reverseiterator") "__length_hint__"=pure (some (.builtin "list_reverseiterator.__length_hint__")):=by rw[typeLookup_type,builtinLookup_eq_fast];kernel_rfl
theorem ACh{r l:Addr}{i:Int}{Q:Bool->Shared->Prop}(hr:s.heap.IsRevIter r l i)(h:Q false s):wpAny (model prog w) A (Builtin.List.listLengthHint (.ref r)) Q E s:=by
 unfold Builtin.List.listLengthHint;refine ASv (AVX hr.typeIs XR ?_);(refine AUm (fun z=>absurd z (by decide)) (fun _=>?_));(refine AUm (fun z=>absurd z (by decide)) (fun _=>?_));refine ASv (AVX hr.typeIs ADE ?_);generalize hid:("list_reverseiterator.__length_hint__":String)=id0
 wp_delta
 rw[show splitId id0=some ("list_reverseiterator","__length_hint__") from by subst hid;decide +kernel];subst hid;refine ASv (AV9 (T:="list_reverseiterator") (b:=true) hr.typeIs (by rw[isSubtype_type];kernel_rfl) ?_);(refine AUm (fun z=>absurd z (by decide)) (fun _=>?_));refine AUm (fun _=>?_) (fun z=>absurd (by decide +kernel) z);(refine AUm (fun z=>absurd z (by decide)) (fun _=>?_));exact ATC h
theorem Rx{l r:Addr}{items:Array Value}{Q:Value->Shared->Prop}(hh:A.handled=none)(hr:s.heap.IsRevIter r l ((items.size:Int)-1))(hl:s.heap.IsList l items)(ne:l≠r)(hz:items.size<=sizeLine)
  (q:∀h' tk acc c,(∀b o,b≠r->s.heap.get? b=some o->h'.get? b=some o)->h'.get? s.heap.objs.size=some { cls:=.type "list",dict:=none,data:=.seq acc c,slots:=#[] }->ItemsOf (fun i v=>items[items.size-1-i]?=some v) acc items.size->Q (.ref s.heap.objs.size) { s with heap:=h',toks:=tk }) :
  wpAny (model prog w) A (call (.type "list") [.ref r]) Q E s:=by
 obtain⟨orr,er,ou,xW⟩:=id hr;have ow:r<s.heap.objs.size:=ASy er;obtain⟨ol,el,_⟩:=id hl;have kQ:l<s.heap.objs.size:=ASy el;refine callType_codes (Q₁:=fun ob k=>ob=.ref s.heap.objs.size/\k={ s with heap:=s.heap.push { cls:=.type "list",data:=.seq #[] } }) F.called_list (F.typeCall_list_1 _) F.entry_list_init (code_list_new _ ⟨rfl,rfl⟩) fun ob k hk=>?_;obtain⟨rfl,rfl⟩:=hk;have e0:(s.heap.push { cls:=.type "list",data:=.seq #[] }).get? s.heap.objs.size=some { cls:=.type "list",data:=.seq #[] }:=AS1 _ rfl;refine⟨⟨_,e0,rfl⟩,F.args_list_init_2 _ _,?_⟩;show wpAny (model prog w) A.in1.in1 (do let old <-Builtin.List.listItems (.ref s.heap.objs.size);Builtin.List.listUpdate (.ref s.heap.objs.size) (fun _=>#[]);letGo old.toList.reverse;Builtin.List.listExtendWith (.ref s.heap.objs.size) (.ref r) .none) _ _ _;refine ASv ?_;unfold Builtin.List.listItems;refine ASv (AUC e0 rfl (ATC ?_));show wpAny (model prog w) A.in1.in1 (updateSeq s.heap.objs.size (fun _=>#[]) >>= fun _=>letGo (#[]:Array Value).toList.reverse >>= fun _=>Builtin.List.listExtendWith (.ref s.heap.objs.size) (.ref r) .none) _ _ _;refine ASv (wpAny_updateSeq e0 rfl (ASv (AV2 ?_)));have e1:=AVG (Obj.mapSeq (fun _=>(#[]:Array Value))) e0 rfl;have up:∀b o,s.heap.get? b=some o->((s.heap.push { cls:=.type "list",data:=.seq #[] }).update s.heap.objs.size (Obj.mapSeq (fun _=>(#[]:Array Value)))).get? b=some o:=fun b o e=>(AUf _ _ (AU2 (ASy e))).trans (ASw _ e);have hr1:=hr.at fun o e=>up r o e;have hl1:=hl.at fun o e=>up l o e;generalize hk1:(s.heap.push { cls:=.type "list",data:=.seq #[] }).update s.heap.objs.size (Obj.mapSeq (fun _=>(#[]:Array Value)))=k1 at *;unfold Builtin.List.listExtendWith;refine ASv (wpAny_typeOf (T:="list_reverseiterator") hr1.typeIs ?_);have c1:Builtin.List.listSameRef (.ref s.heap.objs.size) (.ref r)=false:=by simp[Builtin.List.listSameRef];exact AU2 ow
 have c2:(Value.type "list_reverseiterator"==Value.type "list")=false:=by decide
 have c3:(Value.type "list_reverseiterator"==Value.type "tuple")=false:=by decide
 simp only[c1,c2,c3,Bool.or_false,AT5,if_false];refine ASv (AVM hr1 (ASv (AU9 (ACh hr1 ?_))));refine AUm (fun z=>absurd z (by decide +kernel)) (fun _=>?_);have W:=(Walks.listRev (prog:=prog) (w:=w) (A:=A.in1.in1) hh r l ne items).toS;refine ATC ⟨plainId_quiet F.plain_extend_loop _,codeAny_extend_loopS W hz s.heap.objs.size (by simp;exact⟨AU2 ow,AU2 kQ⟩) .none items.size 0 _ #[] _ rfl (ATW _) ⟨ATW _,by simpa using hr1,hl1⟩ e1 (ItemsOf.nil _) fun s' acc c hm e2 hacc=>?_⟩;rw[Moved.eq_with hm];refine⟨rfl,q s'.heap s'.toks acc c (fun b o nb e=>hm.heap b o ?_ (up b o e)) e2 hacc⟩;simp[nb];exact ATR (ASy e)
end
def ABm(K:W.Frag)(ta:TA):TE:=fun σ H Q=>ta σ H fun vs H1=>∃a xs,vs=[.ref a]/\SqL K H1 a xs/\∀p,H1 p=none->Q (.ref p) (upd H1 p (.lst xs.reverse))
theorem Kz{X:Cx}{a:Expr}{ta:TA}{p p2 pos pos2:Pos}(hg1:Gl X "list")(hm1:X.mg "list"=none)(hg2:Gl X "reversed")(hm2:X.mg "reversed"=none)(ha:PA X [a] ta)(hc:X.calm=true:=by rfl)
  (hs:starEach [a] X.env=[(false,eval a X.env)]:=by rfl) (hs2:starEach [.Call (.Name "reversed" p2) [a] [] pos2] X.env=[(false,eval (.Call (.Name "reversed" p2) [a] [] pos2) X.env)]:=by rfl) :
  PE X (.Call (.Name "list" p) [.Call (.Name "reversed" p2) [a] [] pos2] [] pos) (ABm X.K ta):=by
 walk_at "k";refine Call_name1 hs2 (HR I hg1 hm1 boot_list (PySem.callWith_type1 ?_));refine Call_ (HR I hg2 hm2 boot_reversed (ATe (thn (ha pos2 aA s σ H _ I h) fun us s1 ⟨vs,H1,I1,r1,q1⟩=>?_) hs rfl));obtain⟨l,xs,rfl,hq,q⟩:=q1;cases r1 with
 | cons r rr =>
  cases rr;cases r;obtain⟨its,rv,pl,hz⟩:=I1.list hq;have aB:=rv.length;refine call_reversed_list pl.isList ?_;have kQ:l<s1.heap.objs.size:=by
   obtain⟨o,ho,_⟩:=pl.isList;exact ASy ho
  have hl2:=pl.isList.at (h':=s1.heap.push (revObj l ((its.toArray.size:Int)-1))) fun o e=>ASw _ e;refine Rx (I1.ok.hd hc) ⟨_,AS1 _ rfl,rfl,rfl⟩ hl2 (ATR kQ) (by rw[AS9];omega) fun h' tk acc c hk e2 hacc=>?_;have e3:(s1.heap.push (revObj l ((its.toArray.size:Int)-1))).objs.size=s1.heap.objs.size+1:=AUM ..;have ea:acc=its.reverse.toArray:=by
   apply Array.ext';apply AWs;intro i;rw[List.toList_toArray];by_cases hi:i<its.length
   .have hs:acc.size=its.length:=by rw[hacc.1,AS9]
    have hi2:i<acc.size:=by omega
    have e4:=hacc.2 i _ (AVq hi2);rw[AUl hi,AWJ,AVq hi2,<-e4];simp
   .have hs:acc.size=its.length:=by rw[hacc.1,AS9]
    rw[ATk (by rw[AUz];omega),ATk (by rw[ATv];omega)]
  rw[e3]at e2 ⊢;subst ea;refine⟨.ref (s1.heap.objs.size+1),_,I1.laid (h':=h') (t':=tk) (o:=.lst xs.reverse) (fun b o e=>hk b o (ATR (ASy e)) (ASw _ e)) (AVx _) ?_,rfl,q _ (I1.hok.fresh (AVx _))⟩;exact⟨by rw[ATv];exact hz,_,c,rv.reverse,e2⟩
section
variable {prog:Program}{w:World}{A:Around}{E:Value->Shared->Prop}
theorem AFG{it l:Addr}{items:Array Value}(hne:l≠it):∀(n i:Nat) (s:Shared) (Q:List Value->Shared->Prop),s.heap.IsListIter it l i->s.heap.IsList l items->i+n<=items.size ->
  (∀h',h'.IsListIter it l (i+n)->Heap.SameBut it s.heap h'->Q ((items.toList.drop i).take n) { s with heap:=h' })->wpAny (model prog w) A (draw (.ref it) n) Q E s
 | 0,i,s,Q,hit,_,_,hQ=>by
  show wpAny _ _ (pure []) Q E s;exact ATC (by simpa using hQ s.heap hit (Heap.SameBut.refl ..))
 | n+1,i,s,Q,hit,ht,hle,hQ=>by
  have hlt:i<items.size:=by omega
  show wpAny _ _ (pyNext (.ref it) >>= _) Q E s;refine ASv (wpAny_pyNext_list_item hit ht (x:=items[i]) (by simp[hlt]) fun g1 t1 b1=>?_);refine ASv (AU9 (AFG hne n (i+1) _ _ t1 (ht.extBut b1.extBut hne) (by omega) fun g2 t2 b2=>ATC ?_));have:=hQ g2 (by rw[show i+(n+1)=i+1+n by omega];exact t2) (b1.trans b2);rw[show items.toList.drop i=items[i]::items.toList.drop (i+1) by simp[AUy,hlt],AU0]at this;exact this
theorem AD8{s:Shared}{l:Addr}{items:Array Value}{targets:List (Bool×(Value->Sem Unit))}{Q:Unit->Shared->Prop}(hh:A.handled=none)(ht:s.heap.IsList l items)(hn:targets.length=items.size)(hstar:targets.findIdx? (·.1)=none)
  (h:∀h',Heap.ExtBut s.heap.objs.size s.heap h'->wpAny (model prog w) A (assignInOrder (targets.map (·.2)) items.toList) Q E { s with heap:=h' }) :
  wpAny (model prog w) A (unpack (.ref l) targets) Q E s:=by
 have hlt:l≠s.heap.objs.size:=by
  obtain⟨o,ho,_⟩:=ht;exact ATR (ASy ho)
 unfold unpack;rw[hn,hstar];refine ASv (AU9 ?_);unfold unpackItems;refine ASv ?_;unfold notIterableAtAll;refine ASv (AVX ht.typeIs slot_list_iter.lookup ?_);refine ATC ?_;simp only[AT5,if_false];refine ASv (AU9 (wpAny_pyIter_list ht ?_));refine ASv (AU9 (AFG hlt items.size 0 _ _ ⟨_,AS1 _ rfl,rfl,rfl⟩ (ht.push _) (by omega) fun g1 t1 b1=>?_));rw[show List.take items.size (List.drop 0 items.toList)=items.toList by rw[AUB];exact ATb (by simp)];rw[if_neg (by simp)];refine ASv (AU9 (wpAny_pyNext_list_end hh t1 ((ht.push _).extBut b1.extBut hlt) (by simp) fun g2 e2=>?_));simp only[Option.isSome_none,AT5,if_false];exact ATC (h g2 fun b o hb e=>e2 b o hb (b1.extBut b o hb (ASw _ e)))
end
def AN7(K:W.Frag)(n:Nat)(t:TGs):TG:=fun v σ H Q=>∃a xs,v=.ref a/\SqL K H a xs/\xs.length=n/\t xs σ H Q
theorem ADl{X:Cx}{es:List Expr}{k:Nat}{t:TGs}{n:Nat}{pos:Pos}(hc:X.calm=true)(h:PGs X es t)
  (hn:(assignEach es X.env).length=n:=by rfl) (hst:(assignEach es X.env).findIdx? (·.1)=none:=by rfl):PG X (.Tuple es k pos) (AN7 X.K n t):=by
 intro aA s σ H v u Q I r hw;obtain⟨a,xs,e1,hq,hl,hw⟩:=hw;subst e1;cases r;obtain⟨its,rv,ht,hz⟩:=I.list hq;rw[assign_Tuple];refine ASv (AVz (AD8 (I.ok.hd hc) ht.isList (by simp[hn,<-hl,rv.length]) hst fun h' hx=>?_));(have I1:Inv X aA σ H { s with heap:=h' }:=I.kept (t':=s.toks) fun b o e=>hx b o (ATR (ASy e)) e;exact h aA _ σ H xs _ Q I1 (by simpa using rv) hw)
section
variable {X:Cx}{c:Expr}{a b:List Stmt}{t u:TS}{tc:TT}{pos:Pos}
end
theorem AGz{X:Cx}{C:Addr}{x:Str}{k j:Nat}{ps:List Str}{sp:Sp}{p pos:Pos}(Cc:QM X.prog X.w X.K X.mg X.base x C k ps sp)(hr:Dz j X.A)(hkj:k+1<=j:=by decide)(hg:Gl X x:=by rfl)
  (hdb:(x==("__debug__":Str))=false:=by decide):PE X (.Call (.Name x p) [] [] pos) (Yn C sp [] E0 YG):=by
 obtain⟨f,fd,F,b,M,hm⟩:=Cc.ex;exact ADR M F (hr.mono hkj) hg hm b .nil Su hdb
section
variable {prog:Program}{w:World}{A:Around}{E:Value->Shared->Prop}{s:Shared}
theorem Z2{e it l:Addr}{c:Int}{i:Nat}{items:Array Value}{x old:Value}{Q:Value->Shared->Prop}(eE:IsEnum s.heap e it c old)(eI:s.heap.IsListIter it l i)(eL:s.heap.IsList l items)(ex:items[i]?=some x)(ne:e≠it)
  (q:∀h',IsEnumOut h' e it (c+1) x s.heap.objs.size->h'.IsListIter it l (i+1)->h'.get? s.heap.objs.size=some { cls:=.type "tuple",data:=.seq #[.int c s.toks,x] } ->
   (∀b o,b≠e->b≠it->s.heap.get? b=some o->h'.get? b=some o)->Q (.ref s.heap.objs.size) { s with heap:=h',toks:=s.toks+1 }) :
  wpAny (model prog w) A (Builtin.«enumerate.__next__» ⟨[.ref e],[]⟩) (fun fin s'=>∃v,fin=.done (.ret v)/\Q v s') E s:=by
 obtain⟨hp,gg,dd,tk,oo⟩:=s;show wpAny (model prog w) A (field (.ref e) 2 >>= _) _ E _;refine ASv (ATl eE rfl (x:=.ref it) rfl (ASv (wpAny_nextOf_list_item eI eL ex fun k1 qM i5=>?_)));replace i5:Heap.SameBut it hp k1:=i5;have kR:IsEnum k1 e it c old:=(i5.2 e ne).trans eE;show wpAny (model prog w) A (field (.ref e) 3 >>= _) _ E ⟨k1,gg,dd,tk,oo⟩;refine ASv (ATl kR rfl (x:=rawInt c) rfl ?_);show wpAny (model prog w) A (field (.ref e) 4 >>= _) _ E ⟨k1,gg,dd,tk,oo⟩;refine ASv (ATl kR rfl (x:=.none) rfl ?_);show wpAny (model prog w) A (mkInt c >>= _) _ E ⟨k1,gg,dd,tk,oo⟩;refine ASv (wpAny_mkInt ?_);show wpAny (model prog w) A (setField (.ref e) 3 (rawInt (c+1)) >>= _) _ E ⟨k1,gg,dd,tk+1,oo⟩;refine ASv (ATf kR (by simp) fun k2 kS cV=>?_);replace cV:Heap.SameBut e k1 k2:=cV;replace kS:IsEnum k2 e it (c+1) old:=kS;show wpAny (model prog w) A (setField (.ref e) 4 .none >>= _) _ E ⟨k2,gg,dd,tk+1,oo⟩;refine ASv (ATf kS (by simp) fun k3 kT i6=>?_);replace i6:Heap.SameBut e k2 k3:=i6;replace kT:IsEnum k3 e it (c+1) old:=kT;show wpAny (model prog w) A (newTuple [.int c tk,x] >>= _) _ E ⟨k3,gg,dd,tk+1,oo⟩;refine ASv (wpAny_newTuple ?_);have sz:k3.objs.size=hp.objs.size:=by rw[i6.1,cV.1,i5.1]
 have lt:e<hp.objs.size:=ASy eE;have ne2:hp.objs.size≠e:=AU2 lt;obtain⟨k4,e4⟩:∃k4,k4=k3.push { cls:=.type "tuple",data:=.seq #[.int c tk,x] }:=⟨_,rfl⟩;have kU:IsEnum k4 e it (c+1) old:=by rw[e4];exact ASw _ kT
 have qN:k4.get? hp.objs.size=some { cls:=.type "tuple",data:=.seq #[.int c tk,x] }:=by rw[e4,<-sz];exact AS1 _ rfl
 have qO:∀b o,b≠e->b≠it->hp.get? b=some o->k4.get? b=some o:=fun b o z1 z2 h=>by
  rw[e4];exact ASw _ (i6.extBut b o z1 (cV.extBut b o z1 (i5.extBut b o z2 h)))
 have qP:k4.IsListIter it l (i+1):=by
  obtain⟨o,ho,r⟩:=(qM.extBut cV.extBut ne.symm).extBut i6.extBut ne.symm;exact⟨o,by rw[e4];exact ASw _ ho,r⟩
 show wpAny (model prog w) A (Builtin.SmallTypes.ownedTupleIsFree (.ref e) >>= _) _ E ⟨k3.push { cls:=.type "tuple",data:=.seq #[.int c tk,x] },gg,dd,tk+1,oo⟩;rw[sz,<-e4];refine ASv ?_;unfold Builtin.SmallTypes.ownedTupleIsFree;refine ASv (ATl kU rfl (x:=.none) rfl (ATC ?_));rw[if_pos rfl];refine ASv (AWr (ASv (ATl kU rfl (x:=old) rfl (ASv (ATf kU (by simp) fun k5 kW kY=>?_)))));replace kY:Heap.SameBut e k4 k5:=kY;replace kW:IsEnum k5 e it (c+1) x:=kW;show wpAny (model prog w) A (Builtin.SmallTypes.ownedTupleHandOut (.ref e) (.ref hp.objs.size) >>= _) _ E ⟨k5,gg,dd,tk+1,oo⟩;refine ASv ?_;unfold Builtin.SmallTypes.ownedTupleHandOut;refine ASv (ATf kW (by simp) fun k6 kZ li=>?_);replace li:Heap.SameBut e k5 k6:=li;replace kZ:IsEnumOut k6 e it (c+1) x hp.objs.size:=kZ;refine ATf kZ (by simp) fun k7 qQ lj=>?_;replace lj:Heap.SameBut e k6 k7:=lj;have up:∀b o,b≠e->k4.get? b=some o->k7.get? b=some o:=fun b o z h=>lj.extBut b o z (li.extBut b o z (kY.extBut b o z h));exact ASv (AV2 (ATC ⟨_,rfl,q k7 qQ (qP.at fun o h=>up it o ne.symm h) (up _ _ ne2 qN) fun b o z1 z2 h=>up b o z1 (qO b o z1 z2 h)⟩))
theorem Zh{e it l:Addr}{c:Int}{i:Nat}{items:Array Value}{x old:Value}{Q:Option Value->Shared->Prop}(eE:IsEnum s.heap e it c old)(eI:s.heap.IsListIter it l i)(eL:s.heap.IsList l items)(ex:items[i]?=some x)(ne:e≠it)
  (q:∀h',IsEnumOut h' e it (c+1) x s.heap.objs.size->h'.IsListIter it l (i+1)->h'.get? s.heap.objs.size=some { cls:=.type "tuple",data:=.seq #[.int c s.toks,x] } ->
   (∀b o,b≠e->b≠it->s.heap.get? b=some o->h'.get? b=some o)->Q (some (.ref s.heap.objs.size)) { s with heap:=h',toks:=s.toks+1 }):wpAny (model prog w) A (pyNext (.ref e)) Q E s:=by
 (have ty:s.TypeIs (.ref e) "enumerate":=⟨_,eE,rfl⟩;have sl:=F.slot_enumerate_next;unfold pyNext);exact ASv (AV3 (AT0 (name:=Str.ofString "__next__") ty sl (AUe sl ty F.entry_enumerate_next (Z2 eE eI eL ex ne fun h' a b c k=>ATC (q h' a b c k)) (AV4 _))))
theorem Rf{e it l:Addr}{c:Int}{i:Nat}{items:Array Value}{old:Value}{Q:Option Value->Shared->Prop}(hh:A.handled=none)(eE:IsEnum s.heap e it c old)(eI:s.heap.IsListIter it l i)(eL:s.heap.IsList l items)(ex:items[i]?=none)
  (q:∀h',Heap.ExtBut it s.heap h'->Q none { s with heap:=h' }):wpAny (model prog w) A (pyNext (.ref e)) Q E s:=by
 (have ty:s.TypeIs (.ref e) "enumerate":=⟨_,eE,rfl⟩;have sl:=F.slot_enumerate_next;unfold pyNext);refine ASv (AV3 (AT0 (name:=Str.ofString "__next__") ty sl (AUe sl ty F.entry_enumerate_next ?_ (AV4 _))));show wpAny (model prog w) _ (field (.ref e) 2 >>= _) _ _ _;refine ASv (ATl eE rfl (x:=.ref it) rfl (ASv (wpAny_nextOf_list_end hh eI eL ex fun h' x eb hx=>?_)));obtain⟨o,ho,hc⟩:=hx;exact ASv (AV9 (T:="StopIteration") (b:=true) ⟨o,ho,hc⟩ isSubtype_stop (ATC (q _ eb)))
end
theorem AEM{X:Cx}{aA:List (Addr×Obj)}{σ:L2.St}{H:Hp}{s:Shared}{h':Heap}{t':Nat}{e it:Addr}{o o':Obj}{vs:Array Value}(I:Inv X aA σ H s)(k:∀b u,b≠e->b≠it->s.heap.get? b=some u->h'.get? b=some u)(ho:s.heap.get? it=some o)(ho':h'.get? it=some o')
  (hd:o'.data=.fields vs) (fe:HX X aA H e) (fi:HX X aA H it):Inv X aA σ H { s with heap:=h',toks:=t' }:=by
 have I1:Inv X aA σ H { s with heap:=s.heap.update it fun _=>o',toks:=s.toks }:=I.turned (it:=it) (fun b u hb eb=>(AUf s.heap _ (AVT hb)).trans eb) fi.1 fi.2.1 fi.2.2.2.1 fi.2.2.2.2.1 fi.2.2.2.2.2;have I2:=I1.turned (h':=h') (t':=t') (it:=e) (fun b u hb eb=>?_) fe.1 fe.2.1 fe.2.2.2.1 fe.2.2.2.2.1 fe.2.2.2.2.2
 .exact I2
 .by_cases z:b=it
  .subst z;rw[AVG (fun _=>o') ho (Obj.isFreed_of_fields hd)]at eb;exact ho'.trans eb
  .exact k b u hb z ((AUf s.heap _ (AVT z)).symm.trans eb)
def Ite(K:W.Frag)(a:Addr)(c:Int):It :=
 ⟨fun i H=>∃xs x,SqL K H a xs/\xs[i]?=some x,fun i H v H'=>∃T x,v=.ref T/\H T=none/\H'=upd H T (.tup [.int (c+i),x])/\∀xs,SqL K H a xs->xs[i]?=some x,fun i H=>∃xs,SqL K H a xs/\xs.length<=i⟩
theorem AAf{P:Program}{w:World}{K:W.Frag}{es:List Expr}{k:Nat}{tp:Pos}(a e it:Addr)(c:Int)(ne:e≠it):Turn P w K (.Tuple es k tp) (Ite K a c) [e,it] e (fun i h=>(∃old,IsEnum h e it (c+(i:Nat)) old)/\h.IsListIter it a i) where
 mem:=by simp
 obj:=fun i h st b hb=>by
  obtain⟨⟨old,se⟩,o,so,oc,od⟩:=st;rcases AS2.mp hb with rfl|hb
  .exact⟨_,se,fun v z=>by
    (have z':Data.fields _=Data.cell v:=z);cases z'⟩
  .obtain rfl:b=it:=by simpa using hb
   exact⟨o,so,fun v z=>by rw[od]at z;cases z⟩
 keep:=fun i h h' st kk=>⟨let ⟨old,se⟩:=st.1;⟨old,kk e (by simp) _ se⟩,st.2.at fun o eo=>kk it (by simp) o eo⟩
 item:=by
  intro X hP hw hK hc i aA s σ H E I hf st hg;subst hP hw hK;obtain⟨⟨old,se⟩,si⟩:=st;obtain⟨xs,x,hq,hx⟩:=hg;obtain⟨its,rv,p,hz⟩:=I.list hq;obtain⟨u,hu,ru⟩:=rv.get hx;have fe:=hf e (by simp);have fi:=hf it (by simp);have oy:e<s.heap.objs.size:=ASy se;obtain⟨oi,hoi,hoc,hod⟩:=id si;have oz:it<s.heap.objs.size:=ASy hoi;refine Zh se si p.isList (x:=u) (by simpa using hu) ne fun h1 qR qS ht1 hk1=>⟨_,rfl,wpAny_letOwnedTupleGo_enum qR fun h2 qT cV=>?_⟩;replace cV:Heap.SameBut e h1 h2:=cV;have fresh:H s.heap.objs.size=none:=I.hok.fresh (Nat.le_refl _);have I1:Inv X aA σ (upd H s.heap.objs.size (.tup [.int (c+(i:Nat)),x])) { s with heap:=s.heap.push { cls:=.type "tuple",data:=.seq ([.int (c+(i:Nat)) s.toks,u]:List Value).toArray },toks:=s.toks } :=
   I.laid (fun b o eb=>ASw _ eb) (Nat.le_refl _) (show Ci X.prog X.w _ _ _ (.tup _) from⟨(by show 2<=sizeLine;decide),_,.cons ⟨_,rfl⟩ (.cons ru .nil),IsTup.new _ _⟩)
  have oC:h2.IsListIter it a (i+1):=qS.at fun o eo=>(cV.2 it ne.symm).trans eo;obtain⟨o2,ho2,_,hd2⟩:=id oC;have fo:∀b,b<s.heap.objs.size->HX X aA H b->HX X aA (upd H s.heap.objs.size (.tup [.int (c+(i:Nat)),x])) b:=fun b lb fb=>⟨by rw[Az (ATR lb)];exact fb.1,fb.2⟩;have I2:=AEM (h':=h2) (t':=s.toks+1) I1 (e:=e) (it:=it) (fun b o z1 z2 eb=>?_) (ASw _ hoi) ho2 hd2 (fo e oy fe) (fo it oz fi)
  .refine⟨.ref s.heap.objs.size,_,I2,rfl,⟨_,x,rfl,fresh,rfl,fun ys hy=>by rw[I.list_inj hy hq];exact hx⟩,⟨⟨u,?_⟩,oC⟩,fun b hb=>?_⟩
   .have ei:c+((i+1:Nat):Int)=c+(i:Nat)+1:=by omega
    rw[ei];exact qT
   .rcases AS2.mp hb with rfl|hb
    .exact(fo _ oy fe).1
    .obtain rfl:b=it:=by simpa using hb
     exact(fo _ oz fi).1
  .rcases AVN eb with⟨rfl,rfl⟩|eb
   .exact(cV.2 _ z1).trans ht1
   .exact(cV.2 _ z1).trans (hk1 b o z1 z2 eb)
 done:=by
  walk_at "f";obtain⟨⟨old,se⟩,si⟩:=st;obtain⟨xs,hq,hx⟩:=hg;(obtain⟨its,rv,p,hz⟩:=I.list hq);walk_at "p";have aB:=rv.length;exact Rf (I.ok.hd hc) se si p.isList (by simp;omega) fun h' eb=>⟨rfl,I.turned (t':=s.toks) (fun b o hb z=>eb b o hb z) f0 f1 f3 f4 f5⟩
 self:=fun _ _ _ _ _ st h=>let ⟨_,se⟩:=st.1;wpAny_pyIter_enum se h
def APa(K:W.Frag)(ta:TA):TI:=fun σ H R=>ta σ H fun vs H1=>∃a,vs=[.ref a]/\(∃xs,SqL K H1 a xs)/\R (Ite K a 0) H1
theorem ADm{X:Cx}{es:List Expr}{k:Nat}{tp:Pos}{a:Expr}{ta:TA}{p pos:Pos}(hg:Gl X "enumerate")(hm:X.mg "enumerate"=none)(ha:PA X [a] ta)(hs:starEach [a] X.env=[(false,eval a X.env)]:=by rfl):PI X (.Tuple es k tp) (.Call (.Name "enumerate" p) [a] [] pos) (APa X.K ta):=by
 intro aA s σ H R I h;refine Call_ (HR I hg hm boot_enumerate (ATe (thn (ha pos aA s σ H _ I h) fun us s1 ⟨vs,H1,I1,r1,q1⟩=>?_) hs rfl));obtain⟨l,rfl,⟨xs,hq⟩,q⟩:=q1;cases r1 with
 | cons r rr =>
  cases rr;cases r;obtain⟨its,rv,pl,hz⟩:=I1.list hq;refine call_enumerate_list pl.isList fun h' se si hsz hk=>wpAny_pyIter_enum se ?_;(have I2:Inv X aA σ H1 { s1 with heap:=h' }:=I1.kept (t':=s1.toks) hk);refine⟨s1.heap.objs.size+1,[s1.heap.objs.size+1,s1.heap.objs.size],_,_,H1,rfl,I2,AAf l _ _ 0 (Nat.succ_ne_self _),⟨⟨.none,by simpa using se⟩,si⟩,fun b hb=>?_,q⟩;rcases AS2.mp hb with rfl|hb
  .exact I1.fpOk (AVx _) (I1.hok.fresh (AVx _))
  .obtain rfl:b=s1.heap.objs.size:=by simpa using hb
   walk_at "l"
theorem ABP{K:PySem.W.Frag}{a:Addr}{c:Int}{xs:List V}{g:TG}{tb:TS}{D:Lj}{σ:L2.St}{H:Hp}(Pv:Nat->L2.St->Hp->Prop)(h0:Pv 0 σ H)(hl:∀i σ H,i<=xs.length->Pv i σ H->SqL K H a xs)
  (hs:∀i x σ H T,xs[i]?=some x->Pv i σ H->H T=none->g (.ref T) σ (upd H T (.tup [.int (c+i),x])) fun zj H2=>tb { D with nx:=Pv (i+1),ct:=Pv (i+1),bk:=D.nx } zj H2) (hd:∀σ H,Pv xs.length σ H->D.nx σ H) :
  ∃W:Nat->Nat->L2.St->Hp->Prop,(∃m,W 0 m σ H)/\∀i m σ H,W i m σ H ->
   ((Ite K a c).stop i H/\D.nx σ H)\/((Ite K a c).go i H/\∃N:L2.St->Hp->Prop,(∀zd H',N zd H'->∃m',m'<m/\W (i+1) m' zd H')/\∀x H',(Ite K a c).yld i H x H'->g x σ H' fun zj H2=>tb { D with nx:=N,ct:=N,bk:=D.nx } zj H2):=by
 (refine⟨fun i m σ H=>m=xs.length-i/\i<=xs.length/\Pv i σ H,⟨xs.length,by simp,ATW _,h0⟩,?_⟩;rintro i m σ H ⟨rfl,hi,p⟩;have q:=hl i σ H hi p);by_cases hlt:i<xs.length
 .refine .inr ⟨⟨xs,_,q,Io hlt⟩,Pv (i+1),fun zd H' p'=>⟨xs.length-(i+1),by omega,rfl,hlt,p'⟩,?_⟩;rintro v H' ⟨T,x,rfl,hT,rfl,y⟩;exact hs i x σ H T (y xs q) p hT
 .obtain rfl:i=xs.length:=by omega
  exact .inl ⟨⟨xs,q,Nat.le_refl _⟩,hd σ H p⟩
def Pz(n:Nat)(H:Hp)(p:Addr)(v:Rat):Prop:=∃Tp M:Int,H p=some (.tup [.int Tp,.int M])/\0<M/\Po.Rep n v Tp M
def Rz(n:Nat)(H:Hp)(a:Addr)(vs:List Rat):Prop:=∃ps:List Addr,H a=some (.lst (ps.map V.ref))/\Paired (Pz n H) ps vs
def Rc(H:Hp)(rc:Addr×List Addr)(row:List (List Rat)):Prop:=H rc.1=some (.lst (rc.2.map V.ref))/\Paired (Rw H) rc.2 row
def al(qU:List (Addr×List Addr)):List Addr:=(qU.map fun rc=>rc.1::rc.2).flatten
end L3
namespace Po
open Ra Rq
section
variable (gs ws:List Rat)(t:Rat)
def pul(k:Nat):Rat:=1/gs.getD k 0
def dd(k:Nat):Rat:=(pul gs k+pul gs (k+1))/ws.getD k 0
def dsum:Nat->Rat
 | 0=>0
 | k+1=>dsum k+dd gs ws k
def sgk:Nat->Rat
 | 0=>1
 | k+1=>-sgk k
def HK(k:Nat):Rat:=sgk k*(stp gs ws t 0 1 k).1
end
theorem Ed{a b c:Rat}(h:a<=b)(hc:0<=c):c*a<=c*b:=Rat.mul_le_mul_of_nonneg_left h hc
theorem ADy{u w w' S D H H' L d':Rat}(hu:0<u)(hw:0<w)(hw':0<w')(hH:0<H)(hS:d'<=S)(hd':u<=d'*w')(hd:u<=D*w)(hD:0<=D)(hd0:0<d')(eH:H'*u=L)(hL:w*S*H<=L):u*H<=w'*D*H':=by
 have hS0:0<S:=by grind
 have a1:(w'*D)*(w*S*H)<=(w'*D)*L:=Ed hL (Rat.mul_nonneg (Rat.le_of_lt hw') hD);have a2:(w'*S*H)*u<=(w'*S*H)*(D*w):=Ed hd (Rat.mul_nonneg (Rat.mul_nonneg (Rat.le_of_lt hw') (Rat.le_of_lt hS0)) (Rat.le_of_lt hH));have a3:(w'*H*u)*d'<=(w'*H*u)*S:=Ed hS (Rat.mul_nonneg (Rat.mul_nonneg (Rat.le_of_lt hw') (Rat.le_of_lt hH)) (Rat.le_of_lt hu));have a4:(H*u)*u<=(H*u)*(d'*w'):=Ed hd' (Rat.mul_nonneg (Rat.le_of_lt hH) (Rat.le_of_lt hu));have a5:u*(u*H)<=u*(w'*D*H'):=by
  have e1:u*(u*H)=(H*u)*u:=by grind
  have e2:(H*u)*(d'*w')=(w'*H*u)*d':=by grind
  have e3:(w'*H*u)*S=(w'*S*H)*u:=by grind
  have e4:(w'*S*H)*(D*w)=(w'*D)*(w*S*H):=by grind
  have e5:(w'*D)*L=u*(w'*D*H'):=by subst eH;grind
  rw[e1,<-e5];rw[e2]at a4;rw[e3]at a3;rw[e4]at a2;exact AWy a4 (AWy a3 (AWy a2 a1))
 exact Rat.le_of_mul_le_mul_left a5 hu
section
variable {gs ws:List Rat}{t:Rat}
theorem ACj{x:Rat}(h:0<x):0<1/x:=by
 rw[Rat.div_def,AWb];exact Rat.inv_pos.mpr h
theorem Jz{k:Nat}(h:0<gs.getD k 0):0<pul gs k:=ACj h
theorem VF{k:Nat}(h:0<gs.getD k 0)(h1:0<gs.getD (k+1) 0)(hw:0<ws.getD k 0):0<dd gs ws k:=by
 unfold dd;rw[Rat.div_def];have:=Jz h;have:=Jz h1;exact Rat.mul_pos (by grind) (Rat.inv_pos.mpr hw)
theorem AD6{k:Nat}(hw:0<ws.getD k 0):dd gs ws k*ws.getD k 0=pul gs k+pul gs (k+1):=by
 unfold dd;have:ws.getD k 0≠0:=Rat.ne_of_gt hw;grind
theorem Mz(hp:∀k,k<ws.length->0<dd gs ws k):∀(n m:Nat),n<=m->m<=ws.length->dsum gs ws n<=dsum gs ws m:=by
 intro n m h hm
 induction m with
 | zero =>
  obtain rfl:n=0:=by omega
  exact AUN
 | succ m ih =>
  by_cases e:n=m+1
  .rw[e];exact AUN
  .have:=ih (by omega) (by omega);have:=hp m (by omega);rw[dsum];grind
structure Alt(gs ws:List Rat)(t:Rat)(k:Nat):Prop where
 pos:0<HK gs ws t k
 far:ws.getD k 0*(t-dsum gs ws (k+1))*HK gs ws t k<=HK gs ws t (k+1)*pul gs (k+1)
theorem Yo(k:Nat):(stp gs ws t 0 1 k).1-(match k with | 0=>0 | j+1=>(stp gs ws t 0 1 j).1)=gs.getD k 0*(stp gs ws t 0 1 k).2:=by
 cases k with
 | zero=>simp only[stp];grind
 | succ k=>simp only[stp];grind
theorem ACV(g0:0<gs.getD 0 0)(g1:0<gs.getD 1 0)(w0:0<ws.getD 0 0):Alt gs ws t 0:=by
 have e0:HK gs ws t 0=gs.getD 0 0:=by simp only[HK,sgk,stp];grind
 refine⟨by rw[e0];exact g0,?_⟩;rw[e0];have e1:HK gs ws t 1*pul gs 1=ws.getD 0 0*(t-dsum gs ws 1)*gs.getD 0 0:=by
  have hd:=AD6 (gs:=gs) w0;have n0:gs.getD 0 0≠0:=Rat.ne_of_gt g0;have n1:gs.getD 1 0≠0:=Rat.ne_of_gt g1;simp only[HK,sgk,stp,dsum,pul]at hd ⊢;generalize gs.getD 0 0=a at *;generalize gs.getD 1 0=b at *;generalize ws.getD 0 0=c at *;generalize dd gs ws 0=d at *;grind
 rw[e1];exact AUN
theorem ADd{k:Nat}(g0:0<gs.getD k 0)(g1:0<gs.getD (k+1) 0)(g2:0<gs.getD (k+2) 0)(w1:0<ws.getD (k+1) 0) :
  HK gs ws t (k+2)*pul gs (k+2)=ws.getD (k+1) 0*(t-dd gs ws (k+1))*HK gs ws t (k+1)-pul gs (k+1)*HK gs ws t k:=by
 have hd:=AD6 (gs:=gs) w1;have n1:gs.getD (k+1) 0≠0:=Rat.ne_of_gt g1;have n2:gs.getD (k+2) 0≠0:=Rat.ne_of_gt g2;have e1:=Yo (gs:=gs) (ws:=ws) (t:=t) (k+1);have e2:(stp gs ws t 0 1 (k+2)).1=(stp gs ws t 0 1 (k+1)).1+gs.getD (k+2) 0*((stp gs ws t 0 1 (k+1)).2-t*ws.getD (k+1) 0*(stp gs ws t 0 1 (k+1)).1):=rfl;simp only[HK,sgk,pul]at hd e1 ⊢;rw[e2];generalize (stp gs ws t 0 1 (k+1)).1=x at *;generalize (stp gs ws t 0 1 (k+1)).2=y at *;generalize (stp gs ws t 0 1 k).1=z at *;generalize gs.getD (k+1) 0=b at *;generalize gs.getD (k+2) 0=c at *;generalize ws.getD (k+1) 0=v at *;generalize dd gs ws (k+1)=d at *;generalize sgk k=s at *;grind
theorem ABs{k:Nat}(a:Alt gs ws t k)(g0:0<gs.getD k 0)(g1:0<gs.getD (k+1) 0)(g2:0<gs.getD (k+2) 0)(w0:0<ws.getD k 0)(w1:0<ws.getD (k+1) 0)(hD:dd gs ws k<=dsum gs ws (k+1))(hS:dd gs ws (k+1)<=t-dsum gs ws (k+1)):Alt gs ws t (k+1):=by
 have d0:=VF g0 g1 w0;have d1:=VF g1 g2 w1;have u1:=Jz g1;have xX:=AD6 (gs:=gs) w0;have hw1:=AD6 (gs:=gs) w1;have p0:=Jz g0;have p2:=Jz g2;have pos:0<HK gs ws t (k+1):=by
  have h1:0<ws.getD k 0*(t-dsum gs ws (k+1))*HK gs ws t k:=Rat.mul_pos (Rat.mul_pos w0 (by grind)) a.pos;have h2:0<HK gs ws t (k+1)*pul gs (k+1):=by have:=a.far;grind
  refine Rat.not_le.mp fun z=>?_;have:=Ed z (Rat.le_of_lt u1);grind
 refine⟨pos,?_⟩;have hDw:pul gs (k+1)<=dsum gs ws (k+1)*ws.getD k 0:=by
  have:=Ed hD (Rat.le_of_lt w0);grind
 have st:=ADy (w':=ws.getD (k+1) 0) (D:=dsum gs ws (k+1)) u1 w0 w1 a.pos hS (by grind) hDw (by grind) d1 rfl a.far;rw[ADd g0 g1 g2 w1,dsum];grind
theorem Yj(hp:∀k,k<ws.length->0<dd gs ws k){k:Nat}(hk:k<ws.length):dd gs ws k<=dsum gs ws (k+1):=by
 have h0:=Mz hp 0 k (by omega) (by omega);rw[dsum];have e:dsum gs ws 0=0:=rfl;grind
theorem alt_all(aB:gs.length=ws.length+1)(pg:∀q∈gs,0<q)(pw:∀q∈ws,0<q)(ht:dsum gs ws ws.length<=t):∀k,k<ws.length->Alt gs ws t k:=by
 have gp:∀k,k<=ws.length->0<gs.getD k 0:=fun k hk=>by
  have h:k<gs.length:=by omega
  (rw[ASu,Io h];exact pg _ (List.getElem_mem h))
 have wp:∀k,k<ws.length->0<ws.getD k 0:=fun k h=>by
  (rw[ASu,Io h];exact pw _ (List.getElem_mem h))
 (have dp:∀k,k<ws.length->0<dd gs ws k:=fun k h=>VF (gp k (by omega)) (gp (k+1) (by omega)) (wp k h));intro k
 induction k with
 | zero=>exact fun h=>ACV (gp 0 (by omega)) (gp 1 (by omega)) (wp 0 h)
 | succ k ih =>
  intro h;refine ABs (ih (by omega)) (gp k (by omega)) (gp (k+1) (by omega)) (gp (k+2) (by omega)) (wp k (by omega)) (wp (k+1) h) (Yj dp (by omega)) ?_;have h1:=Mz dp (k+2) ws.length (by omega) (by omega);rw[dsum]at h1;grind
theorem AAS{x y z b s:Rat}(e1:x-z=b*y)(h2:0<=-s*x)(pos:0<s*z)(g1:0<b):0 < -s*y:=by
 refine Rat.not_le.mp fun q=>?_;have h:=Ed q (Rat.le_of_lt g1);have e:b*(-s*y)=-s*x+s*z:=by
  have:b*(-s*y)=-s*(b*y):=by grind
  rw[this,<-e1];grind
 rw[e,Rat.mul_zero]at h;grind
theorem dsum_pos(aB:gs.length=ws.length+1)(pg:∀q∈gs,0<q)(pw:∀q∈ws,0<q)(hn:0<ws.length):0<dsum gs ws ws.length:=by
 have gp:∀k,k<=ws.length->0<gs.getD k 0:=fun k hk=>by
  have h:k<gs.length:=by omega
  (rw[ASu,Io h];exact pg _ (List.getElem_mem h))
 have wp:∀k,k<ws.length->0<ws.getD k 0:=fun k h=>by
  (rw[ASu,Io h];exact pw _ (List.getElem_mem h))
 (have dp:∀k,k<ws.length->0<dd gs ws k:=fun k h=>VF (gp k (by omega)) (gp (k+1) (by omega)) (wp k h));have h1:=Yj dp hn;have h2:=Mz dp 1 ws.length (by omega) (Nat.le_refl _);have h3:=dp 0 hn;grind
theorem alt_held(aB:gs.length=ws.length+1)(pg:∀q∈gs,0<q)(pw:∀q∈ws,0<q)(ht:dsum gs ws ws.length<=t):0<=HK gs ws t ws.length/\(0<ws.length->0<sgk ws.length*(stp gs ws t 0 1 ws.length).2):=by
 have gp:∀k,k<=ws.length->0<gs.getD k 0:=fun k hk=>by
  have h:k<gs.length:=by omega
  (rw[ASu,Io h];exact pg _ (List.getElem_mem h))
 rcases hn:ws.length with _|n
 .rw[hn]at gp;have e0:HK gs ws t 0=gs.getD 0 0:=by simp only[HK,sgk,stp];grind
  rw[e0];exact⟨Rat.le_of_lt (gp 0 (by omega)),fun z=>absurd z (by omega)⟩
 .have a:=alt_all aB pg pw ht n (by omega);have w0:0<ws.getD n 0:=by
   have h:n<ws.length:=by omega
   (rw[ASu,Io h];exact pw _ (List.getElem_mem h))
  rw[hn]at ht;have g1:=gp (n+1) (by omega);have u1:=Jz g1;have h1:0<=ws.getD n 0*(t-dsum gs ws (n+1))*HK gs ws t n:=Rat.mul_nonneg (Rat.mul_nonneg (Rat.le_of_lt w0) (by grind)) (Rat.le_of_lt a.pos);have far:=a.far;have h2:0<=HK gs ws t (n+1):=by
   refine Rat.not_lt.mp fun z=>?_;have:=Rat.mul_pos (show 0 < -HK gs ws t (n+1) by grind) u1;grind
  refine⟨h2,fun _=>?_⟩;have e1:=Yo (gs:=gs) (ws:=ws) (t:=t) (n+1);have pos:=a.pos;simp only[HK,sgk]at e1 h2 pos ⊢;generalize (stp gs ws t 0 1 (n+1)).1=x at *;generalize (stp gs ws t 0 1 (n+1)).2=y at *;generalize (stp gs ws t 0 1 n).1=z at *;generalize gs.getD (n+1) 0=b at *;generalize sgk n=s at *;exact AAS e1 h2 pos g1
theorem stp_zero(pg:∀q∈gs,0<q):∀k,k<gs.length->(stp gs ws 0 0 1 k).2=1/\0<(stp gs ws 0 0 1 k).1:=by
 intro k
 induction k with
 | zero =>
  intro h;have g0:0<gs.getD 0 0:=by
   (rw[ASu,Io h];exact pg _ (List.getElem_mem h))
  refine⟨rfl,?_⟩;simp only[stp];grind
 | succ k ih =>
  intro h;obtain⟨a,b⟩:=ih (by omega);have g0:0<gs.getD (k+1) 0:=by
   (rw[ASu,Io h];exact pg _ (List.getElem_mem h))
  simp only[stp,a];exact⟨by grind,by grind⟩
end
def tj(T:Rat)(j i:Nat):Rat:=T*((j:Int):Rat)/(((2^i:Nat):Int):Rat)
theorem Qi(i:Nat):(((2^i:Nat):Int):Rat)≠0:=fun z=>by
 have:=Rat.intCast_eq_zero_iff.mp z;have:=AWY (n:=i) (show 0<2 by decide);omega
theorem W7(i:Nat):(((2^(i+1):Nat):Int):Rat)=2*(((2^i:Nat):Int):Rat):=by
 rw[AUU,Nat.mul_comm,AUn,Rat.intCast_mul];rfl
theorem tj_mid(T:Rat)(j i:Nat):(tj T j i+tj T (j+1) i)*(1/2)=tj T (2*j+1) (i+1):=by
 unfold tj;have n:=Qi i;rw[W7];have e1:(((j+1:Nat):Int):Rat)=((j:Int):Rat)+1:=by rw[Int.natCast_add,Rat.intCast_add];rfl
 have e2:(((2*j+1:Nat):Int):Rat)=2*((j:Int):Rat)+1:=by rw[Int.natCast_add,Rat.intCast_add,AUn,Rat.intCast_mul];rfl
 rw[e1,e2];(generalize (((2^i:Nat):Int):Rat)=M at *;generalize ((j:Int):Rat)=x at *);grind
theorem tj_two(T:Rat)(j i:Nat):tj T (2*j) (i+1)=tj T j i:=by
 unfold tj;have n:=Qi i;rw[W7];have e2:(((2*j:Nat):Int):Rat)=2*((j:Int):Rat):=by rw[AUn,Rat.intCast_mul];rfl
 rw[e2];(generalize (((2^i:Nat):Int):Rat)=M at *;generalize ((j:Int):Rat)=x at *);grind
theorem ANy(T:Rat)(j i:Nat):tj T j i=((T.num*(j:Int):Int):Rat)/(((T.den:Int)*((2^i:Nat):Int):Int):Rat):=by
 unfold tj;have n:=Qi i;have n1:=CQ T;have e1:=Fw T;rw[Rat.intCast_mul,Rat.intCast_mul];(generalize (((2^i:Nat):Int):Rat)=M at *;generalize ((j:Int):Rat)=x at *);have e3:T=(T.num:Rat)/((T.den:Int):Rat):=e1.symm;generalize (T.num:Rat)=a at *;generalize ((T.den:Int):Rat)=d at *;rw[e3];grind
theorem tj_bq{b:Nat}{T:Rat}(bT:Bq b T){j i:Nat}(h:j<=2^i):Bq (b+i+1) (tj T j i):=by
 have p:=AWY (n:=i) (show 0<2 by decide);have d:=den_pos T;have b2:∀{m:Nat},m<=2^i->Bt (i+1) (m:Int):=fun {m} hm=>by
  show(m:Int).natAbs<2^(i+1);rw[AUU];omega
 exact Jc (AUA (ATg d (by omega))) (ANy T j i) (bT.1.mul (b2 h)) (bT.2.mul (b2 (Nat.le_refl _)))
theorem tj_zero(T:Rat)(i:Nat):tj T 0 i=0:=by
 unfold tj;show T*0/_=0;rw[Rat.mul_zero,Rat.div_def,AVj]
theorem tj_one(T:Rat):tj T 1 0=T:=by
 unfold tj;show T*1/1=T;grind
theorem inv_bq{b:Nat}{x:Rat}(hx:0<x)(bx:Bq b x):Bq b (1/x):=by
 have hn:0<x.num:=by
  have h0:0<=x.num:=AVE.mpr (Rat.le_of_lt hx);have h1:x.num≠0:=fun z=>Rat.ne_of_gt hx (AT4.mp z);omega
 refine Jc (T:=x.den) (M:=x.num) (AUA hn) ?_ bx.2 bx.1;have e:=Fw x;have n1:=CQ x;have n2:(x.num:Rat)≠0:=fun z=>by have:=Rat.intCast_eq_zero_iff.mp z;omega
 (have e3:x=(x.num:Rat)/((x.den:Int):Rat):=e.symm;generalize (x.num:Rat)=u at *);generalize ((x.den:Int):Rat)=d at *;rw[e3];grind
theorem dsum_bq{b:Nat}(hb:0<b){gs ws:List Rat}(aB:gs.length=ws.length+1)(pg:∀q∈gs,0<q)(pw:∀q∈ws,0<q)(bg:∀q∈gs,Bq b q)(bw:∀q∈ws,Bq b q):∀k,k<=ws.length->Bq ((3*b+2)*k+1) (dsum gs ws k):=by
 have iv:∀{x:Rat},0<x->Bq b x->Bq b (1/x):=fun hx bx=>inv_bq hx bx;have gq:∀k,k<=ws.length->0<gs.getD k 0/\Bq b (gs.getD k 0):=fun k hk=>by
  have h:k<gs.length:=by omega
  rw[ASu,Io h];exact⟨pg _ (List.getElem_mem h),bg _ (List.getElem_mem h)⟩
 intro k
 induction k with
 | zero=>exact fun _=>Bq.zero (by omega)
 | succ k ih =>
  intro h;have hw:0<ws.getD k 0/\Bq b (ws.getD k 0):=by
   rw[ASu,Io h];exact⟨pw _ (List.getElem_mem h),bw _ (List.getElem_mem h)⟩
  have b1:=(iv (gq k (by omega)).1 (gq k (by omega)).2).add (iv (gq (k+1) h).1 (gq (k+1) h).2);have b2:=b1.mul (iv hw.1 hw.2);have e:dd gs ws k=(1/gs.getD k 0+1/gs.getD (k+1) 0)*(1/ws.getD k 0):=by
   unfold dd pul;rw[Rat.div_def (_+_),Rat.div_def 1 (ws.getD k 0),AWb]
  rw[dsum,e];refine((ih (by omega)).add b2).mono ?_;rw[AVF];omega
theorem tj_le{T:Rat}(hT:0<T){j j' i i':Nat}(h:j*2^i'<=j'*2^i):tj T j i<=tj T j' i':=by
 have pos:∀k:Nat,(0:Rat)<(((2^k:Nat):Int):Rat):=fun k=>AWO.mpr (by have:=AWY (n:=k) (show 0<2 by decide);omega);have p1:=pos i;have p2:=pos i';have n1:=Qi i;have n2:=Qi i';have hc:((j:Int):Rat)*(((2^i':Nat):Int):Rat)<=((j':Int):Rat)*(((2^i:Nat):Int):Rat):=by
  rw[<-Rat.intCast_mul,<-Rat.intCast_mul];refine Rat.intCast_le_intCast.mpr ?_;rw[<-AUn,<-AUn];omega
 unfold tj;generalize (((2^i:Nat):Int):Rat)=M at *;generalize (((2^i':Nat):Int):Rat)=M' at *;generalize ((j:Int):Rat)=x at *;generalize ((j':Int):Rat)=x' at *;refine Rat.not_lt.mp fun z=>?_;have a:=Rat.mul_pos (show 0<T*x/M-T*x'/M' by grind) (Rat.mul_pos p1 p2);have e:(T*x/M-T*x'/M')*(M*M')=T*(x*M'-x'*M):=by grind
 have b:=Rat.mul_nonneg (Rat.le_of_lt hT) (show 0<=x'*M-x*M' by grind);grind
theorem mpos{a b:Rat}(h:0<a)(k:0<b):0<a*b:=Rat.mul_pos h k
theorem mnn{a b:Rat}(h:0<=a)(k:0<=b):0<=a*b:=Rat.mul_nonneg h k
def Lt3(c c':Nat)(H L H' L':Rat):Prop:=c<c'\/(c=c'/\L'*H<L*H')
def Go(H L:Rat):Prop:=0<=H/\(H=0->L<0)
theorem Go.bead{H L x:Rat}(h:Go H L):Go H (L-x*H):=⟨h.1,fun z=>by have:=h.2 z;rw[z];grind⟩
theorem ADa{c c':Nat}{H L H' L' x x':Rat}(hH:0<=H)(hH':0<=H')(h:Lt3 c c' H L H' L')(hx:x<=x'):Lt3 c c' H (L-x*H) H' (L'-x'*H'):=by
 (rcases h with h|⟨h,k⟩)
 .exact .inl h
 .refine .inr ⟨h,?_⟩;have:=mnn (show 0<=x'-x by grind) (mnn hH hH');grind
def gc(g:Rat)(c:Nat)(H M:Rat):Nat:=if H+g*M<0 then c+1 else c
def gh(g H M:Rat):Rat:=if H+g*M<0 then -(H+g*M) else H+g*M
def gl(g H M:Rat):Rat:=if H+g*M<0 then -M else M
theorem Go.neg{g H M:Rat}(hg:0<g)(h:Go H M)(z:H+g*M<=0):M<0:=by
 refine Rat.not_le.mp fun q=>?_;have h1:=mnn (Rat.le_of_lt hg) q;have h0:=h.1;have e:H=0:=by grind
 have:=h.2 e;grind
theorem Go.gap{g H M:Rat}(hg:0<g)(h:Go H M):Go (gh g H M) (gl g H M):=by
 unfold gh gl;by_cases z:H+g*M<0
 .rw[if_pos z,if_pos z];exact⟨by grind,fun q=>by grind⟩
 .rw[if_neg z,if_neg z];exact⟨by grind,fun q=>h.neg hg (by grind)⟩
theorem Xe{c c':Nat}{g H M H' M':Rat}(hg:0<g)(o:Go H M)(o':Go H' M')(h:Lt3 c c' H M H' M'):Lt3 (gc g c H M) (gc g c' H' M') (gh g H M) (gl g H M) (gh g H' M') (gl g H' M'):=by
 have inv:M'*(H+g*M)-M*(H'+g*M')=M'*H-M*H':=by grind
 unfold gc gh gl;by_cases z:H+g*M<0
 .have hM:=o.neg hg (Rat.le_of_lt z);by_cases z':H'+g*M'<0
  .simp only[if_pos z,if_pos z'];(rcases h with h|⟨h,k⟩)
   .exact .inl (by omega)
   .refine .inr ⟨by omega,?_⟩;grind
  .simp only[if_pos z,if_neg z'];have hP:0<=H'+g*M':=Rat.not_lt.mp z';(rcases h with h|⟨h,k⟩)
   .by_cases e:c+1<c'
    .exact .inl e
    .refine .inr ⟨by omega,?_⟩;have key:0<M'*(H+g*M)-M*(H'+g*M'):=by
      by_cases m:M'<=0
      .walk_at "ao";by_cases m0:M'=0
       .have hH':H'≠0:=fun q=>by have:=o'.2 q;grind
        have p':0<H'+g*M':=by
         have:=o'.1;rw[m0,Rat.mul_zero];grind
        have:=mpos (show 0 < -M by grind) p';grind
       .have:=mpos (show 0 < -M' by grind) (show 0 < -(H+g*M) by grind);grind
      .have hm:0<M':=Rat.not_le.mp m;have hH':0<H':=by
        have h0:=o'.1;by_cases q:H'=0
        .have:=o'.2 q;grind
        .grind
       have a1:=mnn (Rat.le_of_lt hm) o.1;have a2:=mpos (show 0 < -M by grind) hH';rw[inv];grind
     grind
   .exfalso;by_cases m:M'<=0
    .walk_at "ao";have:0<=M'*(H+g*M)-M*(H'+g*M'):=by grind
     rw[inv]at this;grind
    .have a1:=mnn (show 0<=M' by grind) o.1;have a2:=mnn (show 0<=-M by grind) o'.1;grind
 .by_cases z':H'+g*M'<0
  .simp only[if_neg z,if_pos z'];refine .inl ?_;rcases h with h | ⟨h,k⟩<;>omega
  .simp only[if_neg z,if_neg z'];(rcases h with h|⟨h,k⟩)
   .exact .inl h
   .refine .inr ⟨h,?_⟩;grind
section
variable (gs ws:List Rat)(t:Rat)
noncomputable def cs:Nat->Nat×Rat
 | 0=>(0,1)
 | k+1=>if (cs k).2*(stp gs ws t 0 1 (k+1)).1<0 then((cs k).1+1,-(cs k).2) else cs k
def Hn(k:Nat):Rat:=(cs gs ws t k).2*(stp gs ws t 0 1 k).1
def Ln(k:Nat):Rat:=(cs gs ws t k).2*(stp gs ws t 0 1 k).2
def Mn(k:Nat):Rat:=Ln gs ws t k-t*ws.getD k 0*Hn gs ws t k
end
theorem cs_sq(gs ws:List Rat)(t:Rat)(k:Nat):(cs gs ws t k).2=1\/(cs gs ws t k).2=-1:=by
 induction k with
 | zero=>exact .inl rfl
 | succ k ih =>
  rw[cs]
  split
  .rcases ih with e | e<;>rw[e]
   .exact .inr rfl
   .exact .inl (by grind)
  .exact ih
theorem mn_eq(gs ws:List Rat)(t:Rat)(k:Nat):Mn gs ws t k=(cs gs ws t k).2*(stp gs ws t 0 1 (k+1)).2:=by
 unfold Mn Ln Hn;simp only[stp];grind
theorem Je(gs ws:List Rat)(t:Rat)(k:Nat):(cs gs ws t (k+1)).1=gc (gs.getD (k+1) 0) (cs gs ws t k).1 (Hn gs ws t k) (Mn gs ws t k)/\Hn gs ws t (k+1)=gh (gs.getD (k+1) 0) (Hn gs ws t k) (Mn gs ws t k)/\Ln gs ws t (k+1)=gl (gs.getD (k+1) 0) (Hn gs ws t k) (Mn gs ws t k):=by
 have e:(cs gs ws t k).2*(stp gs ws t 0 1 (k+1)).1=Hn gs ws t k+gs.getD (k+1) 0*Mn gs ws t k:=by
  rw[mn_eq];unfold Hn;simp only[stp];grind
 have e2:=mn_eq gs ws t k;unfold gc gh gl;unfold Hn at e;unfold Hn Ln;rw[cs];by_cases z:(cs gs ws t k).2*(stp gs ws t 0 1 (k+1)).1<0
 .have z':=z;rw[e]at z';simp only[if_pos z,if_pos z'];refine⟨trivial,?_,?_⟩<;>grind
 .have z':=z;rw[e]at z';simp only[if_neg z,if_neg z'];refine⟨trivial,?_,?_⟩<;>grind
section
variable {gs ws:List Rat}{t t':Rat}
theorem go_n(pg:∀k,k<gs.length->0<gs.getD k 0):∀k,k<gs.length->Go (Hn gs ws t k) (Ln gs ws t k):=by
 intro k
 induction k with
 | zero =>
  intro h;have g0:=pg 0 h;have e:Hn gs ws t 0=gs.getD 0 0:=by simp only[Hn,cs,stp];grind
  rw[e];exact⟨Rat.le_of_lt g0,fun q=>by grind⟩
 | succ k ih =>
  intro h;obtain⟨_,e1,e2⟩:=Je gs ws t k;rw[e1,e2];exact(Go.bead (ih (by omega))).gap (pg (k+1) h)
theorem AOh(pg:∀k,k<gs.length->0<gs.getD k 0)(pw:∀k,k<ws.length->0<ws.getD k 0)(aB:gs.length=ws.length+1)(ht:t<t'):∀k,k<ws.length->Lt3 (cs gs ws t k).1 (cs gs ws t' k).1 (Hn gs ws t k) (Mn gs ws t k) (Hn gs ws t' k) (Mn gs ws t' k):=by
 have tw:∀k,k<ws.length->t*ws.getD k 0<=t'*ws.getD k 0:=fun k h=>by
  have:=mpos (show 0<t'-t by grind) (pw k h);grind
 intro k
 induction k with
 | zero =>
  intro h;refine .inr ⟨rfl,?_⟩;have g0:=pg 0 (by omega);have a:=mpos (mpos (show 0<t'-t by grind) (pw 0 h)) (mpos g0 g0);have e:∀x,Hn gs ws x 0=gs.getD 0 0:=fun x=>by simp only[Hn,cs,stp];grind
  have e2:∀x,Ln gs ws x 0=1:=fun x=>by simp only[Ln,cs,stp];grind
  unfold Mn;rw[e,e,e2,e2];grind
 | succ k ih =>
  intro h;obtain⟨a1,a2,a3⟩:=Je gs ws t k;obtain⟨b1,b2,b3⟩:=Je gs ws t' k;have g1:=go_n (ws:=ws) (t:=t) pg k (by omega);have g2:=go_n (ws:=ws) (t:=t') pg k (by omega);have l:=Xe (pg (k+1) (by omega)) (Go.bead (x:=t*ws.getD k 0) g1) (Go.bead (x:=t'*ws.getD k 0) g2) (ih (by omega));have h1:=(go_n (ws:=ws) (t:=t) pg (k+1) (by omega)).1;have h2:=(go_n (ws:=ws) (t:=t') pg (k+1) (by omega)).1;have l':Lt3 (cs gs ws t (k+1)).1 (cs gs ws t' (k+1)).1 (Hn gs ws t (k+1)) (Ln gs ws t (k+1)) (Hn gs ws t' (k+1)) (Ln gs ws t' (k+1)):=by
   rw[a1,a2,a3,b1,b2,b3];exact l
  exact ADa h1 h2 l' (tw (k+1) h)
theorem held_le(pg:∀k,k<gs.length->0<gs.getD k 0)(pw:∀k,k<ws.length->0<ws.getD k 0)(aB:gs.length=ws.length+1)(ht:t<t')(hn:0<ws.length):(cs gs ws t ws.length).1+(if Hn gs ws t ws.length=0 then 1 else 0)<=(cs gs ws t' ws.length).1:=by
 obtain⟨n,e⟩:∃n,ws.length=n+1:=⟨ws.length-1,by omega⟩;have l:=AOh pg pw aB ht n (by omega);obtain⟨a1,a2,a3⟩:=Je gs ws t n;obtain⟨b1,b2,b3⟩:=Je gs ws t' n;have g1:=go_n (ws:=ws) (t:=t) pg n (by omega);have g2:=go_n (ws:=ws) (t:=t') pg n (by omega);have l2:=Xe (pg (n+1) (by omega)) (Go.bead (x:=t*ws.getD n 0) g1) (Go.bead (x:=t'*ws.getD n 0) g2) l;have o1:=go_n (ws:=ws) (t:=t) pg (n+1) (by omega);have o2:=go_n (ws:=ws) (t:=t') pg (n+1) (by omega);have l':Lt3 (cs gs ws t (n+1)).1 (cs gs ws t' (n+1)).1 (Hn gs ws t (n+1)) (Ln gs ws t (n+1)) (Hn gs ws t' (n+1)) (Ln gs ws t' (n+1)):=by
  rw[a1,a2,a3,b1,b2,b3];exact l2
 rw[e];rcases l' with h|⟨h,k⟩
 .split<;>omega
 .have hne:Hn gs ws t (n+1)≠0:=fun z=>by
   have m:=o1.2 z;rw[z,Rat.mul_zero]at k;have:=mnn (show 0<=-Ln gs ws t (n+1) by grind) o2.1;grind
  rw[if_neg hne];omega
theorem loose_le(pg:∀k,k<gs.length->0<gs.getD k 0)(pw:∀k,k<ws.length->0<ws.getD k 0)(aB:gs.length=ws.length+1)(ht:t<t'){n:Nat}(hn:ws.length=n+1):(cs gs ws t n).1+(if Mn gs ws t n<=0 then 1 else 0)<=(cs gs ws t' n).1+(if Mn gs ws t' n<0 then 1 else 0):=by
 have l:=AOh pg pw aB ht n (by omega);have g1:=(go_n (ws:=ws) (t:=t) pg n (by omega)).1;have g2:=(go_n (ws:=ws) (t:=t') pg n (by omega)).1;rcases l with h|⟨h,k⟩
 .split<;>split<;>omega
 .by_cases z:Mn gs ws t n<=0
  .have z':Mn gs ws t' n<0:=by
    refine Rat.not_le.mp fun q=>?_;have a1:=mnn q g1;have a2:=mnn (show 0<=-Mn gs ws t n by grind) g2;grind
   rw[if_pos z,if_pos z'];omega
  .rw[if_neg z];omega
theorem part_le(pg:∀k,k<gs.length->0<gs.getD k 0)(aB:gs.length=ws.length+1){n:Nat}(hn:ws.length=n+1) :
  (cs gs ws t (n+1)).1+(if Hn gs ws t (n+1)=0 then 1 else 0)<=(cs gs ws t n).1+(if Mn gs ws t n<0 then 1 else 0)/\(cs gs ws t n).1<=(cs gs ws t (n+1)).1:=by
 obtain⟨a1,a2,a3⟩:=Je gs ws t n;have g1:=Go.bead (x:=t*ws.getD n 0) (go_n (ws:=ws) (t:=t) pg n (by omega));have gp:=pg (n+1) (by omega);have ng:Hn gs ws t n+gs.getD (n+1) 0*Mn gs ws t n<=0->Mn gs ws t n<0:=fun q=>Go.neg gp g1 q;rw[a1,a2];unfold gc gh;by_cases z:Hn gs ws t n+gs.getD (n+1) 0*Mn gs ws t n<0
 .have m:=ng (Rat.le_of_lt z);simp only[if_pos z,if_pos m];have:¬-(Hn gs ws t n+gs.getD (n+1) 0*Mn gs ws t n)=0:=fun q=>by grind
  rw[if_neg this];omega
 .simp only[if_neg z];by_cases e:Hn gs ws t n+gs.getD (n+1) 0*Mn gs ws t n=0
  .have m:=ng (by grind);rw[if_pos e,if_pos m];omega
  .rw[if_neg e];omega
end
def Le3(c c':Nat)(H L H' L':Rat):Prop:=c<c'\/(c=c'/\L'*H<=L*H')
theorem Le3.trans{a b c:Nat}{H L H' L' gM iI:Rat}(hH:0<=H)(g:Go H' L')(g'':Go gM iI)(h:Le3 a b H L H' L')(k:Le3 b c H' L' gM iI):Le3 a c H L gM iI:=by
 rcases h with h|⟨h,h'⟩
 .rcases k with k | ⟨k,_⟩<;>exact .inl (by omega)
 .rcases k with k|⟨k,k'⟩
  .exact .inl (by omega)
  .refine .inr ⟨by omega,?_⟩;have g0:=g.1;have lz:=g''.1;by_cases z:H'=0
   .have l0:=g.2 z;rw[z,Rat.mul_zero]at k';have e1:gM=0:=by
     by_cases y:gM=0
     .exact y
     .have:=mpos (show 0 < -L' by grind) (show 0<gM by grind);grind
    have l1:=g''.2 e1;have:=mnn (show 0<=-iI by grind) hH;rw[e1,Rat.mul_zero];grind
   .have p:0<H':=by grind
    refine Rat.not_lt.mp fun q=>?_;have a1:=mpos p (show 0<iI*H-L*gM by grind);have a2:=mnn lz (show 0<=L*H'-L'*H by grind);have a3:=mnn hH (show 0<=L'*gM-iI*H' by grind);grind
theorem le_bead{c c':Nat}{H L H' L' x x':Rat}(hH:0<=H)(hH':0<=H')(h:Le3 c c' H L H' L')(hx:x<=x'):Le3 c c' H (L-x*H) H' (L'-x'*H'):=by
 (rcases h with h|⟨h,k⟩)
 .exact .inl h
 .refine .inr ⟨h,?_⟩;have:=mnn (show 0<=x'-x by grind) (mnn hH hH');grind
theorem Yp{g H M H' M':Rat}(hg:0<g)(o:Go H M)(o':Go H' M')(e:M'*H=M*H')(z:H+g*M<0):H'+g*M'<0:=by
 have hM:=o.neg hg (Rat.le_of_lt z);refine Rat.not_le.mp fun p=>?_;have h0:=o.1;have h0':=o'.1;by_cases m:M'<0
 .have inv:M'*(H+g*M)-M*(H'+g*M')=M'*H-M*H':=by grind
  have a1:=mpos (show 0 < -M' by grind) (show 0 < -(H+g*M) by grind);have a2:=mnn (show 0<=-M by grind) p;grind
 .have m':0<=M':=Rat.not_lt.mp m;have a1:=mnn m' h0;have hz:H'=0:=by
   by_cases y:H'=0
   .exact y
   .have:=mpos (show 0 < -M by grind) (show 0<H' by grind);grind
  have:=o'.2 hz;grind
theorem AGP{c c':Nat}{g H M H' M':Rat}(hg:0<g)(o:Go H M)(o':Go H' M')(h:Le3 c c' H M H' M'):Le3 (gc g c H M) (gc g c' H' M') (gh g H M) (gl g H M) (gh g H' M') (gl g H' M'):=by
 by_cases s:Lt3 c c' H M H' M'
 .rcases Xe hg o o' s with y|⟨y,k⟩
  .exact .inl y
  .exact .inr ⟨y,Rat.le_of_lt k⟩
 .obtain⟨hc,k⟩:c=c'/\M'*H=M*H':=by
   (rcases h with h|⟨h,k⟩)
   .exact absurd (.inl h) s
   .refine⟨h,Rat.le_antisymm k (Rat.not_lt.mp fun q=>s (.inr ⟨h,q⟩))⟩
  subst hc;unfold gc gh gl;by_cases z:H+g*M<0
  .have z':=Yp hg o o' k z;simp only[if_pos z,if_pos z'];exact .inr ⟨rfl,by grind⟩
  .have z':¬H'+g*M'<0:=fun q=>z (Yp hg o' o k.symm q);simp only[if_neg z,if_neg z'];exact .inr ⟨rfl,by grind⟩
theorem AAl{c:Nat}{g g' H M:Rat}(hg:0<g)(xY:g<=g')(o:Go H M):Le3 (gc g c H M) (gc g' c H M) (gh g H M) (gl g H M) (gh g' H M) (gl g' H M):=by
 have h0:=o.1;unfold gc gh gl;by_cases z:H+g*M<0
 .have hM:=o.neg hg (Rat.le_of_lt z);have a:=mnn (show 0<=g'-g by grind) (show 0<=-M by grind);have z':H+g'*M<0:=by grind
  simp only[if_pos z,if_pos z'];refine .inr ⟨rfl,?_⟩;have:=mnn a (show 0<=-M by grind);grind
 .simp only[if_neg z];by_cases z':H+g'*M<0
  .simp only[if_pos z'];exact .inl (by omega)
  .simp only[if_neg z'];refine .inr ⟨rfl,?_⟩;by_cases m:M<=0
   .have a:=mnn (show 0<=g'-g by grind) (mnn (show 0<=-M by grind) (show 0<=-M by grind));grind
   .have a:=mnn (show 0<=g'-g by grind) (mnn (show 0<=M by grind) (show 0<=M by grind));grind
section
variable {gs ws gs' ws':List Rat}{t:Rat}
theorem mono_n(ht:0<=t)(hl:gs'.length=gs.length)(pg:∀k,k<gs.length->0<gs.getD k 0)(lg:∀k,k<gs.length->gs.getD k 0<=gs'.getD k 0)(lw:∀k,k+1<gs.length->ws.getD k 0<=ws'.getD k 0) :
  ∀k,k<gs.length->Le3 (cs gs ws t k).1 (cs gs' ws' t k).1 (Hn gs ws t k) (Ln gs ws t k) (Hn gs' ws' t k) (Ln gs' ws' t k):=by
 have iJ:∀k,k<gs'.length->0<gs'.getD k 0:=fun k h=>by
  have a:=pg k (by omega);have b:=lg k (by omega);grind
 intro k
 induction k with
 | zero =>
  intro h;refine .inr ⟨rfl,?_⟩;have e:∀(as bs:List Rat),Hn as bs t 0=as.getD 0 0:=fun as bs=>by simp only[Hn,cs,stp];grind
  have e2:∀(as bs:List Rat),Ln as bs t 0=1:=fun as bs=>by simp only[Ln,cs,stp];grind
  rw[e,e,e2,e2];have:=lg 0 h;grind
 | succ k ih =>
  intro h;obtain⟨a1,a2,a3⟩:=Je gs ws t k;obtain⟨b1,b2,b3⟩:=Je gs' ws' t k;have g1:=go_n (ws:=ws) (t:=t) pg k (by omega);have g2:=go_n (ws:=ws') (t:=t) iJ k (by omega);have hx:t*ws.getD k 0<=t*ws'.getD k 0:=by
   have:=mnn ht (show 0<=ws'.getD k 0-ws.getD k 0 by have:=lw k h;grind);grind
  have m:=le_bead g1.1 g2.1 (ih (by omega)) hx;have o1:=Go.bead (x:=t*ws.getD k 0) g1;have o2:=Go.bead (x:=t*ws'.getD k 0) g2;have hg:=pg (k+1) h;have s1:=AGP hg o1 o2 m;have s2:=AAl (c:=(cs gs' ws' t k).1) hg (lg (k+1) h) o2;rw[a1,a2,a3,b1,b2,b3];exact Le3.trans (o1.gap hg).1 (o2.gap hg) (o2.gap (iJ (k+1) (by omega))) s1 s2
end
end Po
namespace L3
open PySem PySem.Spec PyProof.Rows L2 Ra Rq
theorem Xc{K:W.Frag}{a:Addr}{ns:List Int}{te:Shared->Hp->Addr->List Addr->TE}{js:List Nat}{σ:L2.St}{H1:Hp}{Q:VK}(hn:ns.length<=100000)(ha:H1 a=some (.lst (ns.map V.int)))(f:Int->Int)
  (hs:∀zb zc C ex x H (R:VK),x∈ns->R (.int (f x)) H->te zb zc C ex (some (.int x)::js.map fun j=>(σ[j]?).join) H R)
  (hd:∀H D,Am H1 H->H1 D=none->H D=some (.lst ((ns.map f).map V.int))->Q (.ref D) H):HQ (Itl K a) te js σ Q H1:=by
 intro D hD;refine⟨fun i m ys H=>m=ns.length-i/\i<=ns.length/\ys=((ns.take i).map f).map V.int/\Am H1 H/\H D=some (.lst ys),⟨ns.length,by simp,ATW _,rfl,Ah hD _,Ag⟩,?_⟩;walk_at "y";have hr:=sm _ _ ha;by_cases hlt:i<ns.length
 .have eq:ns[i]?=some ns[i]:=Io hlt;have h0:(ns.map V.int)[i]?=some (.int ns[i]):=by rw[AS4,eq];rfl
  walk_at "j";walk_at "O";refine hs zb zc C ex _ H' _ (List.getElem_mem hlt) ?_;walk_at "d"
  refine⟨bj,by rw[ASt,ASt,AS8];omega,ns.length-(i+1),by omega,rfl,hlt,?_,?_,Ag⟩
  .rw[ATy,eq,AS0,AS0];rfl
  .walk_at "bc"
 .have e:i=ns.length:=by omega
  subst e;rw[ATK]at bj;exact .inl ⟨⟨_,SqL.of hr,by rw[ASt];omega⟩,hd H D sm hD bj⟩
theorem Zn{K:W.Frag}{a b:Addr}{ns ms:List Int}{tt:Shared->Hp->Addr->List Addr->TT}{te:Shared->Hp->Addr->List Addr->TE}{js:List Nat}{σ:L2.St}{H1:Hp}{Q:VK}(n:Nat)(hnm:n=min ns.length ms.length)(hn:n<=100000)(ha:H1 a=some (.lst (ns.map V.int)))(hb:H1 b=some (.lst (ms.map V.int)))(f:Int->Int->Int)
  (ht:∀zb zc C ex x y H (R:Bool->Hp->Prop),R true H->tt zb zc C ex (some (.int x)::some (.int y)::js.map fun j=>(σ[j]?).join) H R)
  (hs:∀zb zc C ex x y H (R:VK),x∈ns->y∈ms->R (.int (f x y)) H->te zb zc C ex (some (.int x)::some (.int y)::js.map fun j=>(σ[j]?).join) H R)
  (hd:∀H D,Am H1 H->H1 D=none->H D=some (.lst (((List.range n).map fun i=>f (ns.getD i 0) (ms.getD i 0)).map V.int))->Q (.ref D) H):Mi (Itz K a b) (ACg K 2 (LK (El 0) (LK (El 1) AAy))) tt te 2 js σ Q H1:=by
 intro D hD;refine⟨fun i m ys H=>m=n-i/\i<=n/\ys=((List.range i).map fun i=>f (ns.getD i 0) (ms.getD i 0)).map V.int/\Am H1 H/\H D=some (.lst ys),⟨n,by simp,ATW _,rfl,Ah hD _,Ag⟩,?_⟩;(rintro i m ys H ⟨rfl,hi,hys,sm,bj⟩;refine⟨bj,?_⟩;have hra:=sm _ _ ha);have fv:=sm _ _ hb;by_cases hlt:i<n
 .have l1:i<ns.length:=by omega
  have l2:i<ms.length:=by omega
  have h1:(ns.map V.int)[i]?=some (.int ns[i]):=by rw[AS4,Io l1];rfl
  have h2:(ms.map V.int)[i]?=some (.int ms[i]):=by rw[AS4,Io l2];rfl
  refine .inr ⟨⟨_,_,_,_,SqL.of hra,SqL.of fv,h1,h2⟩,?_⟩;rintro v H' ⟨T,x,y,rfl,hT,rfl,ex,ey⟩ zb zc C fF zi hσ;have ex':=ex _ (SqL.of hra);have ey':=ey _ (SqL.of fv);rw[h1]at ex';rw[h2]at ey';cases ex';cases ey';obtain⟨v1,v2,rfl⟩:∃v1 v2,zi=[v1,v2]:=by
   match zi,hσ with
   | [v1,v2],_=>exact⟨v1,v2,rfl⟩
  (have u:=Ah hT (.tup [.int ns[i],.int ms[i]]);refine⟨T,_,rfl,SqT.of Ag,rfl,_,_,rfl,_,_,rfl,rfl,⟨[some (.int ns[i]),some (.int ms[i])],rfl,rfl⟩,?_⟩;refine ht zb zc C fF ns[i] ms[i] _ _ ?_);rw[if_pos rfl];walk_at "d"
  have g1:ns.getD i 0=ns[i]:=by rw[ASu,Io l1];rfl
  have g2:ms.getD i 0=ms[i]:=by rw[ASu,Io l2];rfl
  have dX:=u _ _ bj;have ly:ys.length=i:=by rw[hys,ASt,ASt,ATn]
  refine hs zb zc C fF ns[i] ms[i] _ _ (List.getElem_mem l1) (List.getElem_mem l2) ⟨dX,by omega,n-(i+1),by omega,rfl,hlt,?_,Bd (sm.trans u) hD _,Ag⟩;rw[hys,ATh,AS0,AS0,ATr,ATr,g1,g2]
 .have e:i=n:=by omega
  subst e;subst hys;exact .inl ⟨⟨_,_,SqL.of hra,SqL.of fv,by rw[ASt,ASt];omega⟩,hd H D sm hD bj⟩
end L3
namespace Po
open Ra Rq
def lift(A B:List Rat):List Rat:=List.replicate (A.length-B.length) 0++B
def rst(A B:List Rat):List Rat:=(List.range (A.length-1)).map fun i=>A.getD i 0-lst A/lst B*(lift A B).getD i 0
section
variable (gs ws:List Rat)
def hdp(j:Nat):List Rat:=(pst gs ws [] [1] j).1
def lsp(j:Nat):List Rat:=(pst gs ws [] [1] j).2
end
section
variable {gs ws:List Rat}
theorem AFL(pg:∀q∈gs,0<q)(aB:gs.length=ws.length+1):([]:List Rat).getD 0 0+([1]:List Rat).getD 0 0*gs.getD 0 0≠0:=by
 have g0:=Bs pg (show 0<gs.length by omega);show(0:Rat)+1*gs.getD 0 0≠0;have:=J5 g0;grind
theorem ABL(pg:∀q∈gs,0<q)(pw:∀q∈ws,0<q)(aB:gs.length=ws.length+1){j:Nat}(hj:j<=ws.length):(hdp gs ws j).getD j 0≠0:=YL (by simp) (by simp) pg pw aB (AFL pg aB) j hj
theorem ACn(pg:∀q∈gs,0<q)(pw:∀q∈ws,0<q)(aB:gs.length=ws.length+1){j:Nat}(hj:j<=ws.length):(lsp gs ws j).getD j 0≠0:=by
 cases j with
 | zero=>show(1:Rat)≠0;decide
 | succ j=>exact ADp (by simp) (by simp) pg pw aB (AFL pg aB) j hj
theorem hd_len(pg:∀q∈gs,0<q)(pw:∀q∈ws,0<q)(aB:gs.length=ws.length+1){j:Nat}(hj:j<=ws.length):(hdp gs ws j).length=j+1:=S8 (ABL pg pw aB hj) (pst_length (by simp) (by simp) j).1
theorem ls_len(pg:∀q∈gs,0<q)(pw:∀q∈ws,0<q)(aB:gs.length=ws.length+1){j:Nat}(hj:j<=ws.length):(lsp gs ws j).length=j+1:=S8 (ACn pg pw aB hj) (pst_length (by simp) (by simp) j).2
theorem NQ{A:List Rat}{j:Nat}(h:A.length=j+1):lst A=A.getD j 0:=by
 unfold lst;rw[h,Nat.add_sub_cancel]
theorem Zc(j i:Nat):(hdp gs ws (j+1)).getD i 0=(hdp gs ws j).getD i 0+(lsp gs ws (j+1)).getD i 0*gs.getD (j+1) 0:=by
 show(padd _ (pscale (plean _ _ _) _)).getD i 0=_;rw[Gf,Dm];rfl
theorem AEt(j i:Nat):(lsp gs ws (j+1)).getD (i+1) 0=(lsp gs ws j).getD (i+1) 0-(hdp gs ws j).getD i 0*ws.getD j 0:=QX _ _ _ _
theorem ABf(j:Nat):(lsp gs ws (j+1)).getD 0 0=(lsp gs ws j).getD 0 0:=OD _ _ _
theorem AGl(pg:∀q∈gs,0<q)(pw:∀q∈ws,0<q)(aB:gs.length=ws.length+1){j:Nat}(hj:j<=ws.length):(hdp gs ws j).getD j 0=(lsp gs ws j).getD j 0*gs.getD j 0:=by
 cases j with
 | zero =>
  show(padd [] (pscale [1] (gs.getD 0 0))).getD 0 0=(1:Rat)*gs.getD 0 0;rw[Gf,Dm];show(0:Rat)+1*_=_;grind
 | succ j =>
  rw[Zc,getD_out (xs:=hdp gs ws j) (by rw[hd_len pg pw aB (show j<=ws.length by omega)];omega)];grind
theorem AJW(pg:∀q∈gs,0<q)(pw:∀q∈ws,0<q)(aB:gs.length=ws.length+1){j:Nat}(hj:j+1<=ws.length):(lsp gs ws (j+1)).getD (j+1) 0=-((hdp gs ws j).getD j 0*ws.getD j 0):=(T7 (by simp) (by simp) j).1
theorem ACb(pg:∀q∈gs,0<q)(pw:∀q∈ws,0<q)(aB:gs.length=ws.length+1){j:Nat}(hj:j<=ws.length):lst (hdp gs ws j)/lst (lsp gs ws j)=gs.getD j 0:=by
 rw[NQ (hd_len pg pw aB hj),NQ (ls_len pg pw aB hj),AGl pg pw aB hj];have:=ACn pg pw aB hj;grind
theorem ABA(pg:∀q∈gs,0<q)(pw:∀q∈ws,0<q)(aB:gs.length=ws.length+1){j:Nat}(hj:j+1<=ws.length):lst (lsp gs ws (j+1))/lst (hdp gs ws j)=-ws.getD j 0:=by
 have hj':j<=ws.length:=by omega
 rw[NQ (hd_len pg pw aB hj'),NQ (ls_len pg pw aB hj),AJW pg pw aB hj];have:=ABL pg pw aB hj';grind
theorem list_ext{xs ys:List Rat}(hl:xs.length=ys.length)(h:∀i,i<ys.length->xs.getD i 0=ys.getD i 0):xs=ys:=by
 refine List.ext_getElem hl fun i h1 h2=>?_;have:=h i h2;rw[getD_in h1,getD_in h2]at this;exact this
theorem Tu(A B:List Rat):(rst A B).length=A.length-1:=by
 unfold rst;rw[ASt,ATn]
theorem AI5(pg:∀q∈gs,0<q)(pw:∀q∈ws,0<q)(aB:gs.length=ws.length+1){j:Nat}(hj:j+1<=ws.length):rst (hdp gs ws (j+1)) (lsp gs ws (j+1))=hdp gs ws j:=by
 have l1:=hd_len pg pw aB hj;have l2:=ls_len pg pw aB hj;have l3:=hd_len pg pw aB (show j<=ws.length by omega);refine list_ext (by rw[Tu,l1,l3];omega) fun i hi=>?_;unfold rst;rw[getD_range,if_pos (by omega),ACb pg pw aB hj,Zc];unfold lift;rw[l1,l2,Nat.sub_self,List.replicate_zero,List.nil_append];grind
theorem AEb(pg:∀q∈gs,0<q)(pw:∀q∈ws,0<q)(aB:gs.length=ws.length+1):rst (hdp gs ws 0) (lsp gs ws 0)=[]:=by
 have l1:=hd_len pg pw aB (show 0<=ws.length by omega);exact AUY.mp (by rw[Tu,l1])
theorem AGQ(pg:∀q∈gs,0<q)(pw:∀q∈ws,0<q)(aB:gs.length=ws.length+1){j:Nat}(hj:j+1<=ws.length):rst (lsp gs ws (j+1)) (hdp gs ws j)=lsp gs ws j:=by
 (have l1:=ls_len pg pw aB hj;have l2:=hd_len pg pw aB (show j<=ws.length by omega));have l3:=ls_len pg pw aB (show j<=ws.length by omega);refine list_ext (by rw[Tu,l1,l3];omega) fun i hi=>?_;unfold rst;rw[getD_range,if_pos (by omega),ABA pg pw aB hj];unfold lift;rw[l1,l2,show j+1+1-(j+1)=1 by omega];cases i with
 | zero =>
  rw[ABf];show _-_*(0:Rat)=_;grind
 | succ i =>
  rw[AEt];show _-_*(hdp gs ws j).getD i 0=_;grind
def PA(gs ws:List Rat)(p:Nat):List Rat:=if p%2=0 then hdp gs ws (ws.length-p/2) else lsp gs ws (ws.length-p/2)
def PB(gs ws:List Rat)(p:Nat):List Rat:=if p%2=0 then lsp gs ws (ws.length-p/2) else if p/2<ws.length then hdp gs ws (ws.length-p/2-1) else []
def duP(gs ws:List Rat)(p:Nat):Rat:=if p%2=0 then gs.getD (ws.length-p/2) 0 else ws.getD (ws.length-p/2-1) 0
theorem place_step(pg:∀q∈gs,0<q)(pw:∀q∈ws,0<q)(aB:gs.length=ws.length+1){p:Nat}(hp:p<2*ws.length+1) :
  PA gs ws (p+1)=PB gs ws p/\rst (PA gs ws p) (PB gs ws p)=PB gs ws (p+1)/\0<(PA gs ws p).length/\0<(PB gs ws p).length/\(PB gs ws p).length<=(PA gs ws p).length/\(PA gs ws p).length<=ws.length+1/\lst (PB gs ws p)≠0/\(if p%2=0 then lst (PA gs ws p)/lst (PB gs ws p) else -(lst (PA gs ws p)/lst (PB gs ws p)))=duP gs ws p/\0<duP gs ws p:=by
 unfold PA PB duP;by_cases e:p%2=0
 .have hj:ws.length-p/2<=ws.length:=by omega
  have l1:=hd_len pg pw aB hj;have l2:=ls_len pg pw aB hj;simp only[if_pos e,if_neg (show ¬(p+1)%2=0 by omega),show(p+1)/2=p/2 by omega];refine⟨trivial,?_,by omega,by omega,by omega,by omega,?_,ACb pg pw aB hj,Bs pg (by omega)⟩
  .by_cases h0:p/2<ws.length
   .rw[if_pos h0];obtain⟨j,ej⟩:∃j,ws.length-p/2=j+1:=⟨ws.length-p/2-1,by omega⟩;rw[ej,Nat.add_sub_cancel];exact AI5 pg pw aB (by omega)
   .rw[if_neg h0,show ws.length-p/2=0 by omega];exact AEb pg pw aB
  .rw[NQ l2];exact ACn pg pw aB hj
 .have h0:p/2<ws.length:=by omega
  obtain⟨j,ej⟩:∃j,ws.length-p/2=j+1:=⟨ws.length-p/2-1,by omega⟩;have hj:j+1<=ws.length:=by omega
  (have l1:=ls_len pg pw aB hj;have l2:=hd_len pg pw aB (show j<=ws.length by omega));simp only[if_neg e,if_pos h0,if_pos (show(p+1)%2=0 by omega),show(p+1)/2=p/2+1 by omega,ej,Nat.add_sub_cancel,show ws.length-(p/2+1)=j by omega];refine⟨trivial,AGQ pg pw aB hj,by omega,by omega,by omega,by omega,?_,?_,Bs pw (by omega)⟩
  .rw[NQ l2];exact ABL pg pw aB (by omega)
  .rw[ABA pg pw aB hj];grind
theorem place_ov{b:Nat}(hb:0<b)(bg:∀q∈gs,Bq b q)(bw:∀q∈ws,Bq b q)(hbb:(2*b+2)*(ws.length+1)<=1300)(p:Nat) :
  (∃M:Int,M≠0/\Bt 1300 M/\∀q∈PA gs ws p,Ov 1300 M q)/\∃M:Int,M≠0/\Bt 1300 M/\∀q∈PB gs ws p,Ov 1300 M q:=by
 have key:∀j,j<=ws.length->(∃M:Int,M≠0/\Bt 1300 M/\(∀q∈hdp gs ws j,Ov 1300 M q)/\∀q∈lsp gs ws j,Ov 1300 M q):=fun j hj=>by
  obtain⟨M,o⟩:=pst_o2 (h0:=[]) (l0:=[1]) hb bg bw (by simp) (by simp) j;have hle:(2*b+2)*(j+1)<=1300:=ATG (AVc _ (by omega)) hbb;exact⟨M,o.ne,o.bm.mono hle,fun q h=>(o.oh q h).mono hle,fun q h=>(o.ol q h).mono hle⟩
 unfold PA PB;obtain⟨M,h1,h2,h3,h4⟩:=key (ws.length-p/2) (by omega);obtain⟨M',h1',h2',h3',h4'⟩:=key (ws.length-p/2-1) (by omega);by_cases e:p%2=0
 .simp only[if_pos e];exact⟨⟨M,h1,h2,h3⟩,⟨M,h1,h2,h4⟩⟩
 .simp only[if_neg e];refine⟨⟨M,h1,h2,h4⟩,?_⟩;by_cases h0:p/2<ws.length
  .rw[if_pos h0];exact⟨M',h1',h2',h3'⟩
  .rw[if_neg h0];exact⟨1,by decide,Bt.mono (m:=1) (by show(1:Nat)<2^1;decide) (by decide),fun q h=>absurd h (by simp)⟩
end
end Po
namespace L2
open PySem PySem.Spec PyProof.Rows
def Itd(hi:Int)(n:Nat):It:=⟨fun i _=>i<n,fun i H x H'=>H'=H/\x=.int (hi-i),fun i _=>n<=i⟩
section
variable {X:Cx}{tg:Expr}
def ARr(ta:TA):TI:=fun σ H R=>ta σ H fun vs H1=>∃i j:Int,vs=[.int i,.int j,.int (-1)]/\(-(2^62)<=i/\i<2^62/\-(2^62)<=j/\j<2^62)/\R (Itd i (i-j).toNat) H1
end
end L2
namespace L3
open PySem PySem.Spec PyProof.Rows L2 Ra
def PLk(X:Cx)(pos:Pos)(ops:List CmpOp)(cs:List Expr)(t:V->TT):Prop :=
 ∀(aA:List (Addr×Obj)) (s:Shared) (σ:L2.St) (H:Hp) (x:V) (v:Value) (Q:Bool->Hp->Prop),Inv X aA σ H s->Bc x v->t x σ H Q->wpAny (model X.prog X.w) X.A (testChain pos v ops (evalEach cs X.env)) (TP X aA σ Q) X.xe s
section
variable {X:Cx}{pos:Pos}{op op':CmpOp}{ops:List CmpOp}{a b c:Expr}{cs:List Expr}{r:R2}{ta tb:TE}{t:V->TT}
def ALJ(r:R2)(tb:TE):V->TT:=fun x σ H Q=>tb σ H fun y H2=>r x y H2 fun z H3=>∃k,z=.bl k/\Q k H3
def AHX(r:R2)(tb:TE)(t:V->TT):V->TT:=fun x σ H Q=>tb σ H fun y H2=>r x y H2 fun z H3=>∃k,z=.bl k/\if k=true then t y σ H3 Q else Q false H3
def ALr(ta:TE)(t:V->TT):TT:=fun σ H Q=>ta σ H fun x H1=>t x σ H1 Q
theorem AJR(ho:OpR X (compareOp op) r)(hb:PE X b tb):PLk X pos [op] [b] (ALJ r tb):=by
 intro aA s σ H x v Q I rx h;refine test_last (thn (hb aA s σ H _ I h) fun u s2 ⟨y,H2,I2,r2,q2⟩=>thn (ho aA s2 σ H2 x y v u _ I2 rx r2 q2) fun d s3 ⟨z,H3,I3,r3,k,e,q3⟩=>?_);subst e;cases r3;exact AT3 ⟨H3,I3,q3⟩
theorem O5(ho:OpR X (compareOp op) r)(hb:PE X b tb)(hl:PLk X pos (op'::ops) (c::cs) t):PLk X pos (op::op'::ops) (b::c::cs) (AHX r tb t):=by
 intro aA s σ H x v Q I rx h;refine test_link (thn (hb aA s σ H _ I h) fun u s2 ⟨y,H2,I2,r2,q2⟩=>thn (ho aA s2 σ H2 x y v u _ I2 rx r2 q2) fun d s3 ⟨z,H3,I3,r3,k,e,q3⟩=>?_);subst e;cases r3;refine AT3 ?_;cases k with
 | false=>exact ite_ff ⟨H3,I3,by simpa using q3⟩
 | true=>exact ite_tt (hl aA s3 σ H3 y u Q I3 r2 (by simpa using q3))
theorem AAQ(ha:PE X a ta)(hl:PLk X pos (op::op'::ops) (b::c::cs) t)(hm:lastMarks (op::op'::ops) (b::c::cs)=false:=by with_unfolding_all rfl):PT X (.Compare a (op::op'::ops) (b::c::cs) pos) (ALr ta t):=by
 walk_at "k";exact isTrue_chain (thn (ha aA s σ H _ I h) fun v s1 ⟨x,H1,I1,r1,q1⟩=>hl aA s1 σ H1 x v Q I1 r1 q1) hm
end
theorem fsc{N ps:List Str}{sc:Scope}(h1:sc.kind=.function:=by rfl)(h2:sc.isCoroutine=false:=by rfl)(h3:sc.isGenerator=false:=by rfl)(h4:N.Nodup:=by decide +kernel)(h5:N.take ps.length=ps:=by rfl)(h6:∀x∈ps,sc.names.lookup x=some .local\/sc.names.lookup x=some .cell:=by decide +kernel)(h7:∀y∈sc.names,y.2≠.free:=by decide +kernel):Al N ps sc:=⟨h1,h2,h3,h4,h5,h6,h7⟩
section
variable {X:Cx}{a b e:Expr}{ta tb te:TE}{i:Nat}{x:Str}{pos pos':Pos}
theorem ixL(ha:PE X a ta)(hb:PE X b tb)(hs:Ua b:=by exact fun _ _=>rfl):PE X (.Subscript a b pos) (tOp (AH6 X.K) ta tb):=AEu ADw ha hb hs
theorem ixT(ha:PE X a ta)(hb:PE X b tb)(hs:Ua b:=by exact fun _ _=>rfl):PE X (.Subscript a b pos) (tOp (AF3 X.K) ta tb):=AEu AJK ha hb hs
theorem pS(i:Nat)(hN:X.N.Nodup)(he:PE X e te)(hi:X.N[i]?=some x:=by rfl)(hx:Loc X.env.scope x:=by first | exact Or.inl rfl | exact Or.inr rfl)(hs:swapsWith e (some (.Name x pos')) pos.line X.env=pure false:=by rfl)(hf:X.fn x=true\/X.env.scope.names.lookup x=some .local:=by first | exact .inl rfl | exact .inr rfl | assumption):PS X (.Assign [.Name x pos'] e pos) (ABW te (El i)):=AIc hN hi hx he hs hf
theorem gN(i:Nat)(hN:X.N.Nodup)(hi:X.N[i]?=some x:=by rfl)(hx:Loc X.env.scope x:=by first | exact Or.inl rfl | exact Or.inr rfl)(hf:X.fn x=true\/X.env.scope.names.lookup x=some .local:=by first | exact .inl rfl | exact .inr rfl | assumption):PG X (.Name x pos) (El i):=ZV hN hi hx hf
end
section
variable {P:Program}{w:World}{K:W.Frag}{mg:Str->Option Value}{base h:Heap}{x q m:Str}{st:Stmt}{f C:Addr}{fd:FuncData}{N ps:List Str}{k:Nat}{sp:Sp}
theorem _root_.L2.Fun.okk(F:Fun K x q st f fd)(S:Al N ps (Af st)) (h:∀vs H Q E,sp vs H Q E->vs.length=ps.length/\∀(cdv:Value) (A:Around) (outer:List Env) (s:Shared),Dz k (A.deeper (envOfC q (Af st) s.heap.objs.size f cdv)) ->
   ∃t,PSs (Wq CX0 P w K mg base N q (Af st) f cdv A outer s H E).nox (CK st) t/\t { nx:=fun _ H'=>Q .non H',rt:=Q } (start N vs) H):BP P w K mg base CX0 (k+1) f fd ps sp :=
 F.ok S (fun vs H Q E z=>(h vs H Q E z).1) fun cdv A outer s H vs Q E hr z=>(h vs H Q E z).2 cdv A outer s hr
theorem lb1{us:List Value}(h:us.length=1):∃a,us=[a]:=match us,h with | [a],_=>⟨a,rfl⟩
theorem lb2{us:List Value}(h:us.length=2):∃a b,us=[a,b]:=match us,h with | [a,b],_=>⟨a,b,rfl⟩
theorem lb3{us:List Value}(h:us.length=3):∃a b c,us=[a,b,c]:=match us,h with | [a,b,c],_=>⟨a,b,c,rfl⟩
theorem lb4{us:List Value}(h:us.length=4):∃a b c d,us=[a,b,c,d]:=match us,h with | [a,b,c,d],_=>⟨a,b,c,d,rfl⟩
def Dq(K:W.Frag)(x q:Str)(st:Stmt)(f:Addr):Prop:=∃(oc:Value) (od:Option Addr) (kV doc pm:Value) (an:Option Addr) (cdv ct:Value) (osl:Array (Option Value)),K.lookup f=some ⟨oc,od,.func (W.fnOf x q (Cq st) (CK st) (Af st) .none kV doc pm an cdv ct),osl⟩/\W.codeIn K cdv q=true/\W.keepIn K (.ref f)=true
def Gd(K:W.Frag)(x:Str)(st:Stmt):Prop:=∃f,W.nsIn K mainGlobals x=some (some (.ref f))/\Dq K x x st f
def Gm(K:W.Frag)(C:Addr)(m q:Str)(st:Stmt):Prop:=∃f,W.findIn K (.ref C) m=some (some (.ref f))/\W.isFn K (.ref f)=true/\Dq K m q st f
theorem Dq.g(d:Dq K x q st f):∃fd,Fun K x q st f fd/\W.keepIn K (.ref f)=true:=by
 obtain⟨oc,od,kV,doc,pm,an,cdv,ct,osl,l,c,k⟩:=d;exact⟨_,ACT l c k,k⟩
theorem Gd.g(d:Gd K x st)(X:K.In h)(G:h.Ns mainGlobals mg):∃f fd,Fun K x x st f fd/\W.keepIn K (.ref f)=true/\mg x=some (.ref f):=by
 obtain⟨f,a,d⟩:=d;obtain⟨fd,F,k⟩:=d.g;exact⟨f,fd,F,k,AT1 X G a⟩
theorem Gm.g(d:Gm K C m q st):∃f fd,Fun K m q st f fd/\W.findIn K (.ref C) m=some (some (.ref f))/\W.isFn K (.ref f)=true/\W.keepIn K (.ref f)=true:=by
 obtain⟨f,a,i,d⟩:=d;obtain⟨fd,F,k⟩:=d.g;exact⟨f,fd,F,a,i,k⟩
structure Zz(P:Program)(w:World)(K:W.Frag)(mg:Str->Option Value)(base:Heap):Prop where
 ex:∃h:Heap,K.In h/\h.Ns mainGlobals mg
theorem Gd.cal(d:Gd K x st)(Z:Zz P w K mg base)(ok:∀{f fd},Fun K x x st f fd->BP P w K mg base CX0 k f fd ps sp)
  (hb:∀(kV doc pm:Value) (an:Option Addr) (cdv ct:Value) (us:List Value),us.length=ps.length->bindArgs (W.fnOf x x (Cq st) (CK st) (Af st) .none kV doc pm an cdv ct) ⟨us,[]⟩=pure (ps.zip us):=by
   intro _ _ _ _ _ _ us hl;first | (obtain⟨_,rfl⟩:=L3.lb1 hl;rfl) | (obtain⟨_,_,rfl⟩:=L3.lb2 hl;rfl) | (obtain⟨_,_,_,rfl⟩:=L3.lb3 hl;rfl) | (obtain⟨_,_,_,_,rfl⟩:=L3.lb4 hl;rfl) | (obtain⟨_,_,_,_,_,rfl⟩:=L3.lb5 hl;rfl)):Cal P w K mg base x k ps sp:=by
 obtain⟨_,X,G⟩:=Z.ex;obtain⟨f,fd,F,kp,a⟩:=d.g X G;exact⟨f,fd,ok F,F.binds hb,kp,a⟩
theorem Gm.cal(d:Gm K C m q st)(_:Zz P w K mg base)(cl:Cls K C)(ok:∀{f fd},Fun K m q st f fd->BP P w K mg base CX0 k f fd ps sp)
  (hb:∀(kV doc pm:Value) (an:Option Addr) (cdv ct:Value) (us:List Value),us.length=ps.length->bindArgs (W.fnOf m q (Cq st) (CK st) (Af st) .none kV doc pm an cdv ct) ⟨us,[]⟩=pure (ps.zip us):=by
   intro _ _ _ _ _ _ us hl;first | (obtain⟨_,rfl⟩:=L3.lb1 hl;rfl) | (obtain⟨_,_,rfl⟩:=L3.lb2 hl;rfl) | (obtain⟨_,_,_,rfl⟩:=L3.lb3 hl;rfl) | (obtain⟨_,_,_,_,rfl⟩:=L3.lb4 hl;rfl) | (obtain⟨_,_,_,_,_,rfl⟩:=L3.lb5 hl;rfl)):Fg P w K mg base C m k ps sp:=by
 obtain⟨f,fd,F,a,i,kp⟩:=d.g;exact⟨f,fd,ok F,F.binds hb,⟨a,i,kp⟩,cl⟩
theorem Gm.calC(d:Gm K C "__init__" q st)(_:Zz P w K mg base)(mk:W.makesIn K C=true)(kc:W.keepIn K (.ref C)=true)(mx:mg x=some (.ref C))(ok:∀{f fd},Fun K "__init__" q st f fd->BP P w K mg base CX0 k f fd ps sp)
  (hb:∀(kV doc pm:Value) (an:Option Addr) (cdv ct:Value) (us:List Value),us.length=ps.length->bindArgs (W.fnOf "__init__" q (Cq st) (CK st) (Af st) .none kV doc pm an cdv ct) ⟨us,[]⟩=pure (ps.zip us):=by
   intro _ _ _ _ _ _ us hl;first | (obtain⟨_,rfl⟩:=L3.lb1 hl;rfl) | (obtain⟨_,_,rfl⟩:=L3.lb2 hl;rfl) | (obtain⟨_,_,_,rfl⟩:=L3.lb3 hl;rfl) | (obtain⟨_,_,_,_,rfl⟩:=L3.lb4 hl;rfl) | (obtain⟨_,_,_,_,_,rfl⟩:=L3.lb5 hl;rfl)):QM P w K mg base x C k ps sp:=by
 obtain⟨f,fd,F,a,i,_⟩:=d.g;exact⟨f,fd,ok F,F.binds hb,⟨mk,a,i,kc⟩,mx⟩
end
end L3
namespace My
open PySem L2 L3 Ra Rq PyProof.Rows
theorem bt2{n:Nat}{x:Int}(h:x.natAbs<2^n):Bt n x:=h
local macro_rules | `(tactic| walk_at "s")=>`(tactic| first
 | refine⟨_,rfl,?_⟩
 | refine⟨_,_,rfl,rfl,?_⟩
 | refine⟨_,_,rfl,?_⟩
 | refine⟨rfl,?_⟩
 | refine⟨_,_,_,_,rfl,rfl,Pr.sq (by assumption),rfl,?_⟩
 | refine⟨_,_,_,_,rfl,Gz.int _,N6 _,?_⟩
 | refine⟨_,_,_,_,rfl,Gz.int _,Lz _,?_⟩
 | refine⟨_,_,_,_,rfl,Gz.tup (by assumption),Og _,?_⟩
 | refine⟨_,_,rfl,.inr (Pr.sq (by assumption)),?_⟩
 | refine FZ ?_
 | refine RV ?_
 | refine⟨(by show(0:Int)<_;decide),?_⟩
 | refine⟨⟨(by decide),bt2 (by decide +kernel)⟩,?_⟩
 | refine⟨(⟨(by decide),(by decide),(by decide)⟩:AQw _ _),?_⟩)
local macro_rules | `(tactic| walk_at "r")=>`(tactic| repeat walk_at "s")
structure Txt(mg:Str->Option Value):Prop where
 z_abs:mg "abs"=none
 z_len:mg "len"=none
 z_isinstance:mg "isinstance"=none
 z_int:mg "int"=none
 z_bool:mg "bool"=none
 z_tuple:mg "tuple"=none
 z_range:mg "range"=none
 z_list:mg "list"=none
 z_zip:mg "zip"=none
 z_all:mg "all"=none
 z_str:mg "str"=none
 z_reversed:mg "reversed"=none
 z_max:mg "max"=none
 z_enumerate:mg "enumerate"=none
 c_MOST_BEADS:∃t,mg "MOST_BEADS"=some (.int 12 t)
 c_FIGURES:∃t,mg "FIGURES"=some (.str "0123456789" t)
 c_MOST_FIGURES:∃t,mg "MOST_FIGURES"=some (.int 30 t)
 c_LETTERS:∃t,mg "LETTERS"=some (.str "abcdefghijklmnopqrstuvwxyz" t)
 c_LONGEST_NAME:∃t,mg "LONGEST_NAME"=some (.int 8 t)
 c_MOST_HALVINGS:∃t,mg "MOST_HALVINGS"=some (.int 60 t)
structure J0(K:W.Frag)(mg:Str->Option Value)(C:Addr):Prop where
 m:mg "Cord"=some (.ref C)
 cl:Cls K C
 c1:W.findIn K (.ref C) "__class__"=some (some (.builtin "object.__class__"))
 c2:W.specialIn K (.builtin "object.__class__") "__get__"=some (some (.builtin "getset_descriptor.__get__"))
 c3:W.takesIn K (.builtin "object.__class__")=some true
 c4:W.mroIn K C (.type "object")=some true
 self:W.kitOne K (.ref C) (.ref C)=some true
 n_kept_gaps:Fl K C "kept_gaps"
 n_kept_weights:Fl K C "kept_weights"
structure Mh(K:W.Frag)(mg:Str->Option Value)(C:Addr):Prop where
 m:mg "Desk"=some (.ref C)
 cl:Cls K C
 c1:W.findIn K (.ref C) "__class__"=some (some (.builtin "object.__class__"))
 c2:W.specialIn K (.builtin "object.__class__") "__get__"=some (some (.builtin "getset_descriptor.__get__"))
 c3:W.takesIn K (.builtin "object.__class__")=some true
 c4:W.mroIn K C (.type "object")=some true
 self:W.kitOne K (.ref C) (.ref C)=some true
 n_kept:Fl K C "kept"
noncomputable def CN:List (Str×List Str):=[("cord",["new","cord"]),("turn",["new","name"]),("join",["new","name","name"]),("heavier",["new","name","whole","fraction"]),("longer",["new","name","whole","fraction"]),("find",["new","two polys"]),("even",["new","length and worths"]),("drop",["name"]),("show",["name"]),("poly",["name","which"]),("count",["name","end","fraction"]),("span",["name","end","whole","halvings"]),("mode",["name","end","fraction"]),("alike",["name","name","end"])]
structure Mt(P:Program)(w:World)(K:W.Frag)(mg:Str->Option Value)(d:Addr):Prop where
 m:mg "FORMS"=some (.ref d)
 t:AIz P w K d CN
def top(i:Nat):Stmt:=PySem.Challenge.pw_tautcord_k87_whole_from_text_to_text.main.body.getD i (.Pass ⟨0,0,0,0⟩)
abbrev ADV:Stmt:=BX (top 3) 0
abbrev K7:Stmt:=top 9
abbrev M5:Stmt:=top 10
abbrev HW:Stmt:=top 12
abbrev Dj:Stmt:=top 13
abbrev Xi:Stmt:=top 14
abbrev Pg:Stmt:=top 15
abbrev Pb:Stmt:=top 16
abbrev Xn:Stmt:=top 17
abbrev AJV:Stmt:=top 18
abbrev XH:Stmt:=top 19
abbrev AFa:Stmt:=top 20
abbrev Ex:Stmt:=top 23
abbrev JF:Stmt:=BX (top 24) 0
abbrev Ju:Stmt:=BX (top 24) 1
abbrev Gs:Stmt:=BX (top 24) 2
abbrev Hy:Stmt:=BX (top 24) 3
abbrev ADX:Stmt:=BX (top 24) 4
abbrev Hb:Stmt:=BX (top 24) 5
abbrev Nk:Stmt:=top 26
abbrev Qk:Stmt:=top 27
abbrev APP:Stmt:=top 28
abbrev Hv:Stmt:=top 29
abbrev JX:Stmt:=top 30
abbrev Pn:Stmt:=top 32
abbrev Lf:Stmt:=top 33
abbrev Gk:Stmt:=top 34
abbrev Ux:Stmt:=top 35
abbrev Qs:Stmt:=top 36
abbrev X3:Stmt:=top 38
abbrev JG:Stmt:=top 39
abbrev G5:Stmt:=top 40
abbrev GQ:Stmt:=top 41
abbrev LQ:Stmt:=top 42
abbrev Fp:Stmt:=top 43
abbrev Ea:Stmt:=top 44
abbrev ADW:Stmt:=top 45
abbrev QL:Stmt:=top 47
abbrev Eu:Stmt:=top 48
abbrev HY:Stmt:=top 49
abbrev J4:Stmt:=top 50
abbrev Df:Stmt:=top 51
abbrev Xm:Stmt:=top 53
abbrev U0:Stmt:=top 54
abbrev ARK:Stmt:=top 55
abbrev ARL:Stmt:=top 56
abbrev Xz:Stmt:=top 57
abbrev Gx:Stmt:=top 58
abbrev JT:Stmt:=top 60
abbrev AQy:Stmt:=top 61
abbrev AAg:Stmt:=top 62
abbrev Yi:Stmt:=top 63
abbrev ADY:Stmt:=top 64
abbrev ANk:Stmt:=top 66
abbrev AEV:Stmt:=top 68
abbrev AQs:Stmt:=top 69
abbrev Fj:Stmt:=top 73
abbrev IW:Stmt:=top 74
abbrev JP:Stmt:=top 75
abbrev Fv:Stmt:=top 76
abbrev Il:Stmt:=top 77
abbrev Fe:Stmt:=top 78
abbrev Ij:Stmt:=top 79
abbrev FQ:Stmt:=top 80
abbrev Fo:Stmt:=top 81
abbrev Eo:Stmt:=top 82
abbrev HN:Stmt:=top 88
abbrev Km:Stmt:=top 89
abbrev Hq:Stmt:=top 90
abbrev G8:Stmt:=top 91
abbrev Ih:Stmt:=top 92
abbrev Ft:Stmt:=top 93
abbrev Hf:Stmt:=top 94
abbrev JL:Stmt:=top 95
abbrev Du:Stmt:=top 96
abbrev AQO:Stmt:=top 98
abbrev Xw:Stmt:=top 100
abbrev HB:Stmt:=top 101
abbrev Jq:Stmt:=BX (top 103) 0
abbrev LC:Stmt:=BX (top 103) 1
abbrev De:Stmt:=BX (top 103) 2
abbrev Gj:Stmt:=BX (top 103) 3
abbrev XJ:Stmt:=top 104
abbrev QF:Stmt:=top 105
abbrev YJ:Stmt:=top 106
abbrev Ng:Stmt:=top 107
abbrev HS:Stmt:=top 109
abbrev Nj:Stmt:=top 110
abbrev Kv:Stmt:=top 111
abbrev Js:Stmt:=top 112
abbrev Ja:Stmt:=top 113
abbrev K3:Stmt:=top 114
abbrev JQ:Stmt:=top 115
abbrev Ks:Stmt:=top 116
abbrev Jp:Stmt:=top 117
abbrev Kd:Stmt:=top 118
abbrev Jb:Stmt:=top 119
abbrev Ir:Stmt:=top 120
abbrev Cy:Stmt:=top 121
abbrev Ik:Stmt:=top 122
abbrev CP:Stmt:=top 123
abbrev Hd:Stmt:=top 124
abbrev RG:Stmt:=top 125
def Jx:Sp:=fun vs H Q _=>∃a b,vs=[.int a,.int b]/\Q (.int (g a b)) H
def AQM(K:W.Frag):Sp:=fun vs H Q _=>∃(a:Addr) (ns:List Int) (k:Nat),vs=[.ref a,.int k]/\SqL K H a (ns.map V.int)/\Q (.int (AOq ns k)) H
def AMs:Sp:=fun vs H Q _=>∃c k,vs=[.int c,.int k]/\(0<=k/\k<=1000)/\Q (.int (ALq c k)) H
def ALA:Sp:=fun vs H Q _=>∃n,vs=[.int n]/\∀H',Am H H'->Q (.int (AII n)) H'
def AQ4:Sp:=fun vs H Q _=>∃t b,vs=[.int t,.int b]/\0<b/\Bt 8000 b/\∀r H',Am H H'->Pr H' r (t/g t b) (b/g t b)->Q (.ref r) H'
def APn:Sp:=fun vs H Q _=>∃n,vs=[.int n]/\0<=n/\∀r x y H',Am H H'->Fq x y->Bt 101 x->Bt 101 y->Pr H' r x y->Q (.ref r) H'
def Q6:Sp:=fun vs H Q _=>∃i,vs=[.int i]/\Q (.bl true) H
def AR3:Sp:=fun vs H Q _=>∃r x y t b,vs=[.ref r,.int t,.int b]/\Pr H r x y/\Fq x y/\x*b=t*y/\IntMulOk x b/\IntMulOk t y/\Q (.bl true) H
def O4:Sp:=fun vs H Q _=>∃p q a b c d,vs=[.ref p,.ref q]/\Pr H p a b/\Pr H q c d/\0<b/\0<d/\Bt 8000 a/\Bt 8000 b/\Bt 8000 c/\Bt 8000 d/\∀r H',Am H H'->Pr H' r (Vy a b c d) (WT a b c d)->Q (.ref r) H'
def Vt:Sp:=fun vs H Q _=>∃p q a b c d,vs=[.ref p,.ref q]/\Pr H p a b/\Pr H q c d/\0<b/\0<d/\Bt 8000 a/\Bt 8000 b/\Bt 8000 c/\Bt 8000 d/\∀r H',Am H H'->Pr H' r (Vy a b (-c) d) (WT a b (-c) d)->Q (.ref r) H'
def Vr:Sp:=fun vs H Q _=>∃p q a b c d,vs=[.ref p,.ref q]/\Pr H p a b/\Pr H q c d/\0<b/\0<d/\Bt 8000 a/\Bt 8000 b/\Bt 8000 c/\Bt 8000 d/\∀r H',Am H H'->Pr H' r (Xj a b c d) (Xp a b c d)->Q (.ref r) H'
def U7(K:W.Frag):Sp:=fun vs H Q _=>∃(a:Addr) (ns:List Int),vs=[.ref a]/\SqL K H a (ns.map V.int)/\ns.length<=63/\∀H',Q (.bl true) H'
theorem Zr{n:Nat}{t b:Int}(h:0<b)(k:Bt n b):Bt n (g t b):=by
 refine k.of_le ?_;have h1:g t b<=b:=Int.le_of_dvd h (Bh t b);have h2:=Ho t b;omega
section
variable {P:Program}{w:World}{K:W.Frag}{mg:Str->Option Value}{base:Heap}{f:Addr}{fd:FuncData}
theorem FP:Al ["one","other","first","second","rest"] ["one","other"] (Af M5):=fsc
theorem XC(F:Fun K "divisor" "divisor" M5 f fd)(T:Txt mg):BP P w K mg base CX0 1 f fd ["one","other"] Jx:=by
 refine F.okk FP fun vs H Q E h=>?_;obtain⟨a,b,rfl,q⟩:=h;refine⟨rfl,fun cdv A outer s hr=>?_⟩;refine⟨_,(Ac (pS 2 FP.nd (Ax Mq rfl T.z_abs boot_abs (Aa (pv 0) Ab)))
   (Ac (pS 3 FP.nd (Ax Mq rfl T.z_abs boot_abs (Aa (pv 1) Ab)))
   (Ac (Qh ATI (Ak Gp (pv 3) Ad (Ar _))
    (Ac (pS 4 FP.nd (An Dd (pv 2) (pv 3)))
    (Ac (pS 2 FP.nd (pv 3))
    (Ae (pS 3 FP.nd (pv 4))))))
   (Ae (Aj (pv 2)))))),?_⟩
 refine⟨_,rfl,_,rfl,_,rfl,_,rfl,?_⟩;refine⟨fun m σ H'=>∃x y r,σ=[some (.int a),some (.int b),some (.int x),some (.int y),r]/\H=H'/\0<=x/\0<=y/\g x y=g a b/\m=y.toNat,⟨_,_,_,_,rfl,rfl,?_,?_,AFV a b,rfl⟩,?_⟩
 .split<;>omega
 .split<;>omega
 rintro m σ _ ⟨x,y,r,rfl,rfl,hx,hy,e,rfl⟩;(refine⟨_,rfl,_,_,rfl,rfl,_,rfl,?_⟩);refine Hk (fun c=>⟨fun zd H'=>∃m',m'<y.toNat/\∃x y r,zd=[some (.int a),some (.int b),some (.int x),some (.int y),r]/\H=H'/\0<=x/\0<=y/\g x y=g a b/\m'=y.toNat,fun _ _ h=>h,?_⟩) (fun c=>?_)
 .walk_at "5";(have h2:=ATJ x c';exact⟨_,by omega,y,x%y,_,rfl,rfl,hy,h1,by rw[ABg hx c',e],rfl⟩)
 .have c':¬(0:Int)<y:=of_decide_eq_false (Bool.eq_false_iff.mpr c);have y0:y=0:=by omega
  refine⟨_,rfl,?_⟩;rw[<-e,y0,AEv hx]at q;exact q
theorem PX:Al ["one","other","shared","top","left"] ["one","other"] (Af Xi):=fsc
theorem ADf(F:Fun K "plus" "plus" Xi f fd)(T:Txt mg)(aq:Cal P w K mg base "divisor" 1 ["one","other"] Jx):BP P w K mg base CX0 2 f fd ["one","other"] O4:=by
 refine F.okk PX fun vs H Q E h=>?_;obtain⟨p,q,a,b,c,d,rfl,hp,hq,hb,hd,ba,bb,bc,bd,k⟩:=h;refine⟨rfl,fun cdv A outer s hr=>?_⟩;have c1:0<g b d/\Bt 9000 (g b d):=⟨HD (by omega),(Zr hd bd).mono (by decide)⟩;have c2:0<g (Xo a b c d) (g b d)/\Bt 9000 (g (Xo a b c d) (g b d)):=⟨HD (by omega),Zr c1.1 c1.2⟩;have m1:IntMulOk a (d/g b d):=Br ba bd.ediv (by decide);have m2:IntMulOk c (b/g b d):=Br bc bb.ediv (by decide);have m3:IntMulOk (b/g b d) (d/g (Xo a b c d) (g b d)):=Br bb.ediv bd.ediv (by decide);refine⟨_,(Ac (pS 2 PX.nd (Ai aq hr (Aa (ixT (pv 0) Ad) (Aa (ixT (pv 1) Ad) Ab))))
   (Ac (pS 3 PX.nd (An Bp (An BZ (ixT (pv 0) Ad) (An CZ (ixT (pv 1) Ad) (pv 2))) (An BZ (ixT (pv 1) Ad) (An CZ (ixT (pv 0) Ad) (pv 2)))))
   (Ac (pS 4 PX.nd (Ai aq hr (Aa (pv 3) (Aa (pv 2) Ab))))
   (Ae (Aj (Bb (Aa (An CZ (pv 3) (pv 4)) (Aa (An BZ (An CZ (ixT (pv 0) Ad) (pv 2)) (An CZ (ixT (pv 1) Ad) (pv 4))) Ab)))))))),?_⟩
 (refine⟨_,rfl,_,_,_,_,rfl,rfl,hp.sq,rfl,_,rfl,_,_,_,_,rfl,rfl,hq.sq,rfl,_,_,rfl,?_⟩);refine⟨_,rfl,_,_,_,_,rfl,rfl,hp.sq,rfl,_,rfl,_,_,_,_,rfl,rfl,hq.sq,rfl,_,rfl,_,_,rfl,rfl,c1,_,_,rfl,rfl,m1,_,rfl,_,_,_,_,rfl,rfl,hq.sq,rfl,_,rfl,_,_,_,_,rfl,rfl,hp.sq,rfl,_,rfl,_,_,rfl,rfl,c1,_,_,rfl,rfl,m2,_,_,rfl,rfl,?_⟩;refine⟨_,rfl,_,rfl,_,_,rfl,?_⟩;exact⟨_,rfl,_,rfl,_,_,rfl,rfl,c2,_,rfl,_,_,_,_,rfl,rfl,hp.sq,rfl,_,rfl,_,_,rfl,rfl,c1,_,rfl,_,_,_,_,rfl,rfl,hq.sq,rfl,_,rfl,_,_,rfl,rfl,c2,_,_,rfl,rfl,m3,(by show 2<=sizeLine;decide),fun r h=>k r _ (Ah h _) Pr.new⟩
theorem AAz:Al ["one","other"] ["one","other"] (Af Pg):=fsc
theorem ABx(F:Fun K "minus" "minus" Pg f fd)(T:Txt mg)(aR:Cal P w K mg base "plus" 2 ["one","other"] O4):BP P w K mg base CX0 3 f fd ["one","other"] Vt:=by
 refine F.okk AAz fun vs H Q E h=>?_;obtain⟨p,q,a,b,c,d,rfl,hp,hq,hb,hd,ba,bb,bc,bd,k⟩:=h;walk_at "c";refine⟨_,(Ae (Aj (Ai aR hr (Aa (pv 0) (Aa (Bb (Aa (JM Gi (ixT (pv 1) Ad)) (Aa (ixT (pv 1) Ad) Ab))) Ab))))),?_⟩;refine⟨_,rfl,_,rfl,_,_,_,_,rfl,rfl,hq.sq,rfl,_,rfl,_,rfl,_,_,_,_,rfl,rfl,hq.sq,rfl,(by show 2<=sizeLine;decide),fun r h=>?_⟩;exact⟨_,_,_,_,_,_,rfl,hp.keep (Ah h _),Pr.new,hb,hd,ba,bb,bc.neg,bd,fun r' H' s' h'=>k r' H' ((Ah h _).trans s') h'⟩
theorem Qz:Al ["one","other","first","second"] ["one","other"] (Af Pb):=fsc
theorem ABc(F:Fun K "times" "times" Pb f fd)(T:Txt mg)(aq:Cal P w K mg base "divisor" 1 ["one","other"] Jx):BP P w K mg base CX0 2 f fd ["one","other"] Vr:=by
 refine F.okk Qz fun vs H Q E h=>?_;obtain⟨p,q,a,b,c,d,rfl,hp,hq,hb,hd,ba,bb,bc,bd,k⟩:=h;refine⟨rfl,fun cdv A outer s hr=>?_⟩;have c1:0<g a d/\Bt 9000 (g a d):=⟨HD (by omega),(Zr hd bd).mono (by decide)⟩;have c2:0<g c b/\Bt 9000 (g c b):=⟨HD (by omega),(Zr hb bb).mono (by decide)⟩;have m1:IntMulOk (a/g a d) (c/g c b):=Br ba.ediv bc.ediv (by decide);have m2:IntMulOk (b/g c b) (d/g a d):=Br bb.ediv bd.ediv (by decide);refine⟨_,(Ac (pS 2 Qz.nd (Ai aq hr (Aa (ixT (pv 0) Ad) (Aa (ixT (pv 1) Ad) Ab))))
   (Ac (pS 3 Qz.nd (Ai aq hr (Aa (ixT (pv 1) Ad) (Aa (ixT (pv 0) Ad) Ab))))
   (Ae (Aj (Bb (Aa (An BZ (An CZ (ixT (pv 0) Ad) (pv 2)) (An CZ (ixT (pv 1) Ad) (pv 3))) (Aa (An BZ (An CZ (ixT (pv 0) Ad) (pv 3)) (An CZ (ixT (pv 1) Ad) (pv 2))) Ab))))))),?_⟩
 (refine⟨_,rfl,_,_,_,_,rfl,rfl,hp.sq,rfl,_,rfl,_,_,_,_,rfl,rfl,hq.sq,rfl,_,_,rfl,?_⟩);refine⟨_,rfl,_,_,_,_,rfl,rfl,hq.sq,rfl,_,rfl,_,_,_,_,rfl,rfl,hp.sq,rfl,_,_,rfl,?_⟩;exact⟨_,rfl,_,_,_,_,rfl,rfl,hp.sq,rfl,_,rfl,_,_,rfl,rfl,c1,_,rfl,_,_,_,_,rfl,rfl,hq.sq,rfl,_,rfl,_,_,rfl,rfl,c2,_,_,rfl,rfl,m1,_,rfl,_,_,_,_,rfl,rfl,hp.sq,rfl,_,rfl,_,_,rfl,rfl,c2,_,rfl,_,_,_,_,rfl,rfl,hq.sq,rfl,_,rfl,_,_,rfl,rfl,c1,_,_,rfl,rfl,m2,(by show 2<=sizeLine;decide),fun r h=>k r _ (Ah h _) Pr.new⟩
def ALE:Sp:=fun vs H Q _=>∃i,vs=[.int i]/\Q (.bl true) H
def AFR(c:Addr):Sp:=fun vs H Q E=>∃t b,vs=[.int t,.int b]/\(b=0->E (.ref c) none H)/\(b≠0->Bt 8000 b/\∀r H',Am H H'->Pr H' r (frN t b) (frD t b)->Q (.ref r) H')
def AQI(cN:Addr):Sp:=fun vs H Q E=>∃p q a b c d,vs=[.ref p,.ref q]/\Pr H p a b/\Pr H q c d/\(c=0->E (.ref cN) none H) /\
 (c≠0->0<b/\0<d/\Bt 8000 a/\Bt 8000 b/\Bt 8000 c/\Bt 8000 d/\∀r H',Am H H'->Pr H' r (Xj a b (frN d c) (frD d c)) (Xp a b (frN d c) (frD d c))->Q (.ref r) H')
def AN0:Sp:=fun vs H Q _=>∃p q a b c d,vs=[.ref p,.ref q]/\Pr H p a b/\Pr H q c d/\IntMulOk a d/\IntMulOk c b/\Q (.bl (decide (a*d<c*b))) H
def IV:Sp:=fun vs H Q _=>∃p a b,vs=[.ref p]/\Pr H p a b/\Q (.int (sgn a)) H
def ALb:Sp:=fun vs H Q _=>∃p a b,vs=[.ref p]/\Pr H p a b/\Bt 9000 a/\Q (.int (sgn a)) H
theorem Vc:Al ["thing"] ["thing"] (Af K7):=fsc
theorem Vh(F:Fun K "is_whole" "is_whole" K7 f fd)(T:Txt mg):BP P w K mg base CX0 1 f fd ["thing"] Q6:=by
 refine F.okk Vc fun vs H Q E h=>?_;obtain⟨i,rfl,q⟩:=h;walk_at "c";refine⟨_,(Ae (Aj (M6 (Ax Jr rfl T.z_isinstance boot_isinstance (Aa (pv 0) (Aa (Ma (v:=.ty "int") rfl T.z_int boot_int rfl) Ab))) (QT (AJs (Ax Jr rfl T.z_isinstance boot_isinstance (Aa (pv 0) (Aa (Ma (v:=.ty "bool") rfl T.z_bool boot_bool rfl) Ab)))))))),?_⟩;refine⟨_,rfl,_,_,_,_,rfl,Gz.int _,N6 _,_,rfl,RV ?_⟩;exact⟨_,rfl,_,_,_,_,rfl,Gz.int _,Lz _,_,rfl,q⟩
theorem ADi:Al ["one"] ["one"] (Af XH):=fsc
theorem AD7(F:Fun K "side" "side" XH f fd)(T:Txt mg):BP P w K mg base CX0 1 f fd ["one"] IV:=by
 refine F.okk ADi fun vs H Q E h=>?_;obtain⟨p,a,b,rfl,hp,q⟩:=h;refine⟨rfl,fun cdv A outer s hr=>?_⟩;unfold sgn at q;refine⟨_,(Ac (BK (Ak Gp (ixT (pv 0) Ad) Ad (Ar _))
    (Ae (Aj Ad))
    Aq)
   (Ac (BK (Ak Fy (ixT (pv 0) Ad) Ad (Ar _))
    (Ae (Aj (JM Gi Ad)))
    Aq)
   (Ae (Aj Ad)))),?_⟩
 refine⟨_,rfl,_,_,_,_,rfl,rfl,hp.sq,rfl,_,_,rfl,rfl,_,rfl,?_⟩;(refine Hk (fun c=>?_) (fun c=>?_))
 .have z:a > 0:=of_decide_eq_true c;rw[if_pos z]at q;exact q
 .have z:¬a > 0:=of_decide_eq_false (Bool.eq_false_iff.mpr c);rw[if_neg z]at q;refine⟨_,rfl,_,_,_,_,rfl,rfl,hp.sq,rfl,_,_,rfl,rfl,_,rfl,?_⟩;refine Hk (fun c2=>?_) (fun c2=>?_)
  .have z2:a<0:=of_decide_eq_true c2;rw[if_pos z2]at q;exact⟨_,rfl,q⟩
  .have z2:¬a<0:=of_decide_eq_false (Bool.eq_false_iff.mpr c2);rw[if_neg z2]at q;exact q
def Bw(n:Nat)(op:Rat->Rat->Rat):Sp:=fun vs H Q _=>∃p q a b,vs=[.ref p,.ref q]/\Pq H p a/\Pq H q b/\Bq n a/\Bq n b/\∀r H',Am H H'->Pq H' r (op a b)->Q (.ref r) H'
def Ht:Sp:=fun vs H Q _=>∃t b,vs=[.int t,.int b]/\0<b/\Bt 8000 b/\∀r H',Am H H'->Pq H' r ((t:Rat)/(b:Rat))->Q (.ref r) H'
def AK9:Sp:=fun vs H Q _=>∃n,vs=[.int n]/\0<=n/\∀r q H',Am H H'->Bq 101 q->Pq H' r q->Q (.ref r) H'
def AQ7:Sp:=fun vs H Q _=>∃r q t b,vs=[.ref r,.int t,.int b]/\Pq H r q/\b≠0/\q=(t:Rat)/(b:Rat)/\IntMulOk q.num b/\IntMulOk t q.den/\Q (.bl true) H
def YH:Sp:=fun vs H Q _=>∃(a:Addr) (qs:List Rat) (k:Nat),vs=[.ref a,.int k]/\Rw H a qs/\∀p H',Am H H'->Pq H' p (qs.getD k 0)->Q (.ref p) H'
def Gh:Sp:=fun vs H Q _=>∃a qs,vs=[.ref a]/\Rw H a qs/\qs.length<=1000/\∀r H',Am H H'->H r=none->Rw H' r (Po.strip qs)->Q (.ref r) H'
def ALC:Sp:=fun vs H Q _=>∃c k w,vs=[.int c,.int k,.int w]/\(0<=k/\k<=900)/\(w=2\/w=3)/\∀r qs H',Am H H'->H r=none->Rw H' r qs->qs.length<=13->(∀q∈qs,Bq 101 q)->(w=2->∀q∈qs,Bq 6 q)->Q (.ref r) H'
def AMU:Sp:=fun vs H Q _=>∃a b qs,vs=[.ref a,.ref b]/\Rw H a qs/\Rw H b qs/\qs.length<=1000/\Q (.bl true) H
abbrev Rws(H:Hp):List Addr->List (List Rat)->Prop:=Paired (Rw H)
def ADs(a h k:Addr)(H:Hp)(R:Hp->Prop):Prop:=∃qs as bs fP,Rw H a qs/\qs.length<=1000/\H h=some (.lst (as.map V.ref))/\Rws H as fP/\H k=some (.lst (bs.map V.ref))/\Rws H bs fP /\
 a∉as/\a∉bs/\a≠h/\a≠k/\h∉as/\as.length<=2/\(∀rs∈fP,rs.length<=1000)/\∀H',Sx (a::as) H H'->R H'
def APh:Sp:=fun vs H Q _=>∃a h k,vs=[.ref a,.ref h,.ref k]/\ADs a h k H fun H'=>Q (.bl true) H'
theorem MJ{vs:List V}{H:Hp}{Q:VK}{E:XK}(h:Bw 8000 (·+·) vs H Q E):O4 vs H Q E:=by
 walk_at "P";exact⟨p,q,_,_,_,_,rfl,hp,hq,den_pos a,den_pos b,ba.1,ba.2,bb.1,bb.2,fun r H' s hr=>k r H' s (Pq.of hr ⟨(Yt a b).1.symm,(Yt a b).2.symm⟩)⟩
theorem Zo{vs:List V}{H:Hp}{Q:VK}{E:XK}(h:Bw 8000 (·-·) vs H Q E):Vt vs H Q E:=by
 walk_at "P";exact⟨p,q,_,_,_,_,rfl,hp,hq,den_pos a,den_pos b,ba.1,ba.2,bb.1,bb.2,fun r H' s hr=>k r H' s (Pq.of hr ⟨(AE5 a b).1.symm,(AE5 a b).2.symm⟩)⟩
theorem AAk{vs:List V}{H:Hp}{Q:VK}{E:XK}(h:Bw 8000 (·*·) vs H Q E):Vr vs H Q E:=by
 walk_at "P";exact⟨p,q,_,_,_,_,rfl,hp,hq,den_pos a,den_pos b,ba.1,ba.2,bb.1,bb.2,fun r H' s hr=>k r H' s (Pq.of hr ⟨(ACG a b).1.symm,(ACG a b).2.symm⟩)⟩
theorem AAj(F:Fun K "minus" "minus" Pg f fd)(T:Txt mg)(aR:Cal P w K mg base "plus" 2 ["one","other"] O4):BP P w K mg base CX0 3 f fd ["one","other"] (Bw 8000 (·-·)):=(ABx F T aR).imp fun _ _ _ _=>Zo
theorem AAL(F:Fun K "times" "times" Pb f fd)(T:Txt mg)(aq:Cal P w K mg base "divisor" 1 ["one","other"] Jx):BP P w K mg base CX0 2 f fd ["one","other"] (Bw 8000 (·*·)):=(ABc F T aq).imp fun _ _ _ _=>AAk
def Py(op:List Rat->List Rat->List Rat):Sp:=fun vs H Q _=>∃a b ps qs,vs=[.ref a,.ref b]/\Rw H a ps/\Rw H b qs/\ps.length<=30/\qs.length<=30/\(∀q∈ps,Bq 1500 q)/\(∀q∈qs,Bq 1500 q)/\∀r H',Am H H'->H r=none->Rw H' r (op ps qs)->Q (.ref r) H'
def TV:Sp:=fun vs H Q _=>∃a p qs x,vs=[.ref a,.ref p]/\Rw H a qs/\Pq H p x/\qs.length<=30/\(∀q∈qs,Bq 1500 q)/\Bq 1500 x/\∀r H',Am H H'->H r=none->Rw H' r (Po.pscale qs x)->Q (.ref r) H'
def AQA:Sp:=fun vs H Q _=>∃a qs,vs=[.ref a]/\Rw H a qs/\qs.length<=30/\(∀q∈qs,Bq 1500 q)/\∀r H',Am H H'->H r=none->Rw H' r (Po.pslope qs)->Q (.ref r) H'
def ARj:Sp:=fun vs H Q _=>∃a b ps qs sg,vs=[.ref a,.ref b,.int sg]/\Rw H a ps/\Rw H b qs/\(sg=1\/sg=-1)/\ps.length<=30/\qs.length<=30/\(∀q∈ps,Bq 1500 q)/\(∀q∈qs,Bq 1500 q) /\
 ∀r H',Am H H'->H r=none->Rw H' r (if sg=1 then Po.padd ps qs else Po.psub ps qs)->Q (.ref r) H'
def AGe:Sp:=fun vs H Q _=>∃a b ps qs,vs=[.ref a,.ref b]/\Rw H a ps/\Rw H b qs/\ps.length<=13/\qs.length<=13/\(∀q∈ps,Bq 101 q)/\(∀q∈qs,Bq 101 q)/\∀r H',Am H H'->H r=none->Rw H' r (Po.pmul ps qs)->Q (.ref r) H'
def AJM(a d h k:Addr)(H:Hp)(R:Hp->Prop):Prop:=∃qs as bs fP,Rw H a qs/\Rw H d qs/\qs.length<=1000/\H h=some (.lst (as.map V.ref))/\Rws H as fP/\H k=some (.lst (bs.map V.ref))/\Rws H bs fP /\
 a∉as/\a∉bs/\a≠h/\a≠k/\h∉as/\as.length<=2/\(∀rs∈fP,rs.length<=1000)/\∀H',Sx (a::as) H H'->R H'
def AQQ:Sp:=fun vs H Q _=>∃a d h k,vs=[.ref a,.ref d,.ref h,.ref k]/\AJM a d h k H fun H'=>Q (.bl true) H'
structure Two(H:Hp)(kp o1 o2:Addr)(ps qs:List Rat):Prop where
 one:Rw H o1 ps
 other:Rw H o2 qs
 kept:H kp=some (.lst [.ref o1,.ref o2])
def ALG:Sp:=fun vs H Q _=>∃a b ps qs tw,vs=[.ref a,.ref b,.bl tw]/\Rw H a ps/\Rw H b qs/\(tw=true->ps=qs)/\ps.length<=30/\qs.length<=30 /\
 ∀r x y H',Am H H'->H r=none->H x=none->H y=none->H' r=some (.lst [.ref x,.ref y])->Rw H' x ps->Rw H' y qs->r≠x->r≠y->Q (.ref r) H'
theorem PN{a:Int}:sgn a=0 ↔ a=0:=by
 unfold sgn
 split
 .omega
 .split<;>omega
theorem U4:Al ["figures","most"] ["figures"] (Af X3):=fsc
theorem AD3(F:Fun K "poly" "poly" X3 f fd)(T:Txt mg)(aS:Cal P w K mg base "side" 1 ["one"] IV):BP P w K mg base CX0 2 f fd ["figures"] Gh:=by
 refine F.okk U4 fun vs H Q E h=>?_;obtain⟨a,qs,rfl,⟨ps,h1,h2⟩,hz,q⟩:=h;refine⟨rfl,fun cdv A outer s hr=>?_⟩;have hl:=h2.length;refine⟨_,(Ac (pS 1 U4.nd (Ax Aw rfl T.z_len AS6 (Aa (pv 0) Ab)))
   (Ac (Qh ATI (PW.pt (ACk (Ak Gp (pv 1) Ad (Ar _)) (Zb (Ak Be (Ai aS hr (Aa (ixL (pv 0) (An Jh (pv 1) Ad)) Ab)) Ad (Ar _)))))
    (Ae (AGy (i:=1) U4.nd rfl (Or.inl rfl) Ad AJF)))
   (Ae (Aj (DX FW (pv 0) Ds (DR (pv 1))))))),?_⟩
 refine⟨_,rfl,a,_,rfl,.inl (SqL.of h1),?_⟩;refine⟨fun m σ H'=>∃n:Nat,σ=[some (.ref a),some (.int n)]/\H=H'/\n<=qs.length/\Po.strip (qs.take n)=Po.strip qs/\m=n,⟨_,qs.length,?_,rfl,Nat.le_refl _,by rw[ATK],rfl⟩,?_⟩
 .rw[ASt,hl];rfl
 rintro m σ _ ⟨n,rfl,rfl,hn,e,rfl⟩;have fin:Po.strip qs=qs.take m->∀p,H p=none->Q (.ref p) (upd H p (.lst (DP (ps.map V.ref) none (some (m:Int))))):=fun e2 p hp=>by
  refine q p _ (Ah hp _) hp ⟨ps.take m,?_,?_⟩
  .rw[Ag];unfold DP;rw[HT.sIx_none,HT.sIx_nat,ASt,AWN (by omega),AUB,AWh];rfl
  .rw[e2];exact(h2.take m).keep (Ah hp _)
 (refine⟨_,rfl,_,_,rfl,rfl,_,rfl,?_⟩);(refine Hk (fun c=>?_) (fun c=>?_))
 .have c':(0:Int)<m:=of_decide_eq_true c;obtain⟨n,rfl⟩:∃n,m=n+1:=⟨m-1,by omega⟩;have hlt:n<qs.length:=by omega
  have eq:=Io hlt;obtain⟨p,e1,hp⟩:=h2.get eq;have e0:((n+1:Nat):Int)-1=(n:Int):=by omega
  have ei:atI (ps.map V.ref) (((n+1:Nat):Int)-1)=some (.ref p):=by
   rw[e0];exact Dh e1
  refine⟨_,rfl,_,rfl,_,_,rfl,rfl,a,_,_,_,rfl,rfl,SqL.of h1,ei,_,_,_,rfl,hp,rfl,_,rfl,?_⟩;refine Hk (fun c2=>⟨fun zd H'=>∃m',m'<n+1/\∃n:Nat,zd=[some (.ref a),some (.int n)]/\H=H'/\n<=qs.length/\Po.strip (qs.take n)=Po.strip qs/\m'=n,fun _ _ h=>h,?_⟩) (fun c2=>?_)
  .have z:qs[n]=0:=Vn.mp (PN.mp (V.int.inj (of_decide_eq_true c2)));refine⟨_,rfl,_,_,rfl,rfl,n,by omega,n,?_,rfl,by omega,?_,rfl⟩
   .show [some (V.ref a),some (V.int (((n+1:Nat):Int)-1))]=_;rw[e0]
   .rw[Po.take_snoc eq,z,Po.strip_snoc0]at e;exact e
  .have z:qs[n]≠0:=fun z=>of_decide_eq_false (Bool.eq_false_iff.mpr c2) (congrArg V.int (PN.mpr (Vn.mpr z)));refine⟨_,rfl,_,rfl,_,rfl,_,_,rfl,SqL.of h1,fun p hp=>fin ?_ p hp⟩;rw[Po.take_snoc eq,Po.strip_snoc z]at e;rw[<-e,Po.take_snoc eq]
 .have c':¬(0:Int)<m:=of_decide_eq_false (Bool.eq_false_iff.mpr c);obtain rfl:m=0:=by omega
  refine FZ ?_;refine⟨_,rfl,_,rfl,_,rfl,_,_,rfl,SqL.of h1,fun p hp=>fin ?_ p hp⟩;rw[<-e];rfl
theorem Tn:Al ["one","power"] ["one","power"] (Af JG):=fsc
theorem Tj(F:Fun K "figure_at" "figure_at" JG f fd)(T:Txt mg):BP P w K mg base CX0 1 f fd ["one","power"] YH:=by
 refine F.okk Tn fun vs H Q E h=>?_;obtain⟨a,qs,k,rfl,⟨ps,h1,h2⟩,q⟩:=h;refine⟨rfl,fun cdv A outer s hr=>?_⟩;have hl:=h2.length;refine⟨_,(Ac (BK (Ak Fy (pv 1) (Ax Aw rfl T.z_len AS6 (Aa (pv 0) Ab)) (Ar _))
    (Ae (Aj (ixL (pv 0) (pv 1))))
    Aq)
   (Ae (Aj (Bb (Aa Ad (Aa Ad Ab)))))),?_⟩
 refine⟨_,rfl,_,rfl,a,_,rfl,.inl (SqL.of h1),_,_,rfl,rfl,_,rfl,?_⟩;(refine Hk (fun c=>?_) (fun c=>?_))
 .have c':(k:Int)<(((ps.map V.ref).length:Nat):Int):=of_decide_eq_true c;rw[ASt]at c';have hk:k<qs.length:=by omega
  obtain⟨p,e,hp⟩:=h2.get (Io hk);refine⟨_,rfl,_,rfl,a,_,_,_,rfl,rfl,SqL.of h1,Dh e,q p H (Am.refl _) ?_⟩;rw[ASu,Io hk];exact hp
 .have c':¬(k:Int)<(((ps.map V.ref).length:Nat):Int):=of_decide_eq_false (Bool.eq_false_iff.mpr c);rw[ASt]at c';refine⟨(by show 2<=sizeLine;decide),fun p hp=>q p _ (Ah hp _) ?_⟩;rw[ASu,ATk (by omega)];exact Pq.of Pr.new ⟨rfl,rfl⟩
theorem Li:Al ["one","other","most"] ["one","other"] (Af G5):=fsc
theorem VN(F:Fun K "poly_plus" "poly_plus" G5 f fd)(T:Txt mg)(aN:Cal P w K mg base "figure_at" 1 ["one","power"] YH)(aR:Cal P w K mg base "plus" 2 ["one","other"] (Bw 8000 (·+·)))
  (aY:Cal P w K mg base "poly" 2 ["figures"] Gh):BP P w K mg base CX0 4 f fd ["one","other"] (Py Po.padd):=by
 refine F.okk Li fun vs H Q E h=>?_;obtain⟨a,b,ps,qs,rfl,ha,hb,lp,lq,bp,bq,q⟩:=h;refine⟨rfl,fun cdv A outer s hr=>?_⟩;obtain⟨xa,ea,la⟩:=ha.there;obtain⟨xb,eb,lb⟩:=hb.there;refine⟨_,(Ac (pS 2 Li.nd (Ax (R1 rfl) rfl T.z_max boot_max (Aa (Ax Aw rfl T.z_len AS6 (Aa (pv 0) Ab)) (Aa (Ax Aw rfl T.z_len AS6 (Aa (pv 1) Ab)) Ab))))
   (Ae (Aj (Ai aY hr (Aa (Ce (N':=["power","one","other"]) (fsc:=Af G5) (N:=["one","other","most"]) [0,1] ⟨rfl,by decide +kernel,by decide +kernel,by decide +kernel,rfl,by decide +kernel,rfl,by decide +kernel⟩ (Eh rfl T.z_range (Aa (pv 2) Ab)) (fun _ _ _ _=>(Ai aR hr (Aa (Ai aN hr (Aa (pv 1) (Aa (pv 0) Ab))) (Aa (Ai aN hr (Aa (pv 2) (Aa (pv 0) Ab))) Ab))))) Ab))))),?_⟩
 refine⟨_,rfl,_,_,rfl,.inl (SqL.of ea),_,rfl,_,_,rfl,.inl (SqL.of eb),_,_,rfl,?_⟩;have en:(if (xb.length:Int) > (xa.length:Int) then(xb.length:Int) else(xa.length:Int)).toNat=max ps.length qs.length:=by
  split<;>omega
 refine⟨_,rfl,_,rfl,?_,?_,Oh ?_ (fun k=>ps.getD k 0+qs.getD k 0) ?_ fun H1 D s1 nD gW=>?_⟩
 .split<;>omega
 .split<;>omega
 .rw[en];omega
 .walk_at "N"
  .simp
  .simp
  (rw[Nat.zero_add]at k1 k2;exact⟨p1,p2,_,_,rfl,k1.keep s3,k2,(Po.getD_bq (by decide) bp i).mono (by decide),(Po.getD_bq (by decide) bq i).mono (by decide),fun p3 H4 s4 k3=>fin p3 H4 (s2.trans (s3.trans s4)) k3⟩)
 .rw[en]at gW;exact⟨D,_,rfl,gW,by simp;omega,fun r H2 s2 n2 fG=>q r H2 (s1.trans s2) (s1.free n2) fG⟩
theorem KZ:Al ["one","other","most"] ["one","other"] (Af GQ):=fsc
theorem Rm(F:Fun K "poly_minus" "poly_minus" GQ f fd)(T:Txt mg)(aN:Cal P w K mg base "figure_at" 1 ["one","power"] YH)(cQ:Cal P w K mg base "minus" 3 ["one","other"] (Bw 8000 (·-·)))
  (aY:Cal P w K mg base "poly" 2 ["figures"] Gh):BP P w K mg base CX0 4 f fd ["one","other"] (Py Po.psub):=by
 refine F.okk KZ fun vs H Q E h=>?_;obtain⟨a,b,ps,qs,rfl,ha,hb,lp,lq,bp,bq,q⟩:=h;refine⟨rfl,fun cdv A outer s hr=>?_⟩;obtain⟨xa,ea,la⟩:=ha.there;obtain⟨xb,eb,lb⟩:=hb.there;refine⟨_,(Ac (pS 2 KZ.nd (Ax (R1 rfl) rfl T.z_max boot_max (Aa (Ax Aw rfl T.z_len AS6 (Aa (pv 0) Ab)) (Aa (Ax Aw rfl T.z_len AS6 (Aa (pv 1) Ab)) Ab))))
   (Ae (Aj (Ai aY hr (Aa (Ce (N':=["power","one","other"]) (fsc:=Af GQ) (N:=["one","other","most"]) [0,1] ⟨rfl,by decide +kernel,by decide +kernel,by decide +kernel,rfl,by decide +kernel,rfl,by decide +kernel⟩ (Eh rfl T.z_range (Aa (pv 2) Ab)) (fun _ _ _ _=>(Ai cQ hr (Aa (Ai aN hr (Aa (pv 1) (Aa (pv 0) Ab))) (Aa (Ai aN hr (Aa (pv 2) (Aa (pv 0) Ab))) Ab))))) Ab))))),?_⟩
 refine⟨_,rfl,_,_,rfl,.inl (SqL.of ea),_,rfl,_,_,rfl,.inl (SqL.of eb),_,_,rfl,?_⟩;have en:(if (xb.length:Int) > (xa.length:Int) then(xb.length:Int) else(xa.length:Int)).toNat=max ps.length qs.length:=by
  split<;>omega
 refine⟨_,rfl,_,rfl,?_,?_,Oh ?_ (fun k=>ps.getD k 0-qs.getD k 0) ?_ fun H1 D s1 nD gW=>?_⟩
 .split<;>omega
 .split<;>omega
 .rw[en];omega
 .walk_at "N"
  .simp
  .simp
  (rw[Nat.zero_add]at k1 k2;exact⟨p1,p2,_,_,rfl,k1.keep s3,k2,(Po.getD_bq (by decide) bp i).mono (by decide),(Po.getD_bq (by decide) bq i).mono (by decide),fun p3 H4 s4 k3=>fin p3 H4 (s2.trans (s3.trans s4)) k3⟩)
 .rw[en]at gW;exact⟨D,_,rfl,gW,by simp;omega,fun r H2 s2 n2 fG=>q r H2 (s1.trans s2) (s1.free n2) fG⟩
theorem AAT:Al ["one","number"] ["one","number"] (Af LQ):=fsc
theorem AAq(F:Fun K "scaled" "scaled" LQ f fd)(T:Txt mg)(aX:Cal P w K mg base "times" 2 ["one","other"] (Bw 8000 (·*·)))(aY:Cal P w K mg base "poly" 2 ["figures"] Gh):BP P w K mg base CX0 4 f fd ["one","number"] TV:=by
 refine F.okk AAT fun vs H Q E h=>?_;obtain⟨a,p,qs,x,rfl,ha,hp,lq,bq,bx,q⟩:=h;walk_at "c";obtain⟨xa,ea,la⟩:=ha.there;refine⟨_,(Ae (Aj (Ai aY hr (Aa (Ce (N':=["figure","number"]) (fsc:=Af LQ) (N:=["one","number"]) [1] ⟨rfl,by decide +kernel,by decide +kernel,by decide +kernel,rfl,by decide +kernel,rfl,by decide +kernel⟩ (Bl (pv 0)) (fun _ _ _ _=>(Ai aX hr (Aa (pv 0) (Aa (pv 1) Ab))))) Ab)))),?_⟩;refine⟨_,rfl,a,rfl,⟨_,SqL.of ea⟩,QJ (qs:=qs) (by omega) ha (fun y=>y*x) ?_ fun H1 D s1 nD gW=>?_⟩
 .intro _ _ _ _ p1 y H1 R hy k1 s1 fin;exact⟨_,rfl,_,rfl,p1,p,_,_,rfl,k1,hp.keep s1,(bq y hy).mono (by decide),bx.mono (by decide),fun p3 H4 s4 k3=>fin p3 H4 s4 k3⟩
 .exact⟨D,_,rfl,gW,by simp;omega,fun r H2 s2 n2 fG=>q r H2 (s1.trans s2) (s1.free n2) fG⟩
def Kc(ns:List Int)(k:Nat):Int:=ns.getD k 0
def Qp(K:W.Frag):Sp:=fun vs H Q _=>∃(a:Addr) (ns:List Int) (k:Nat),vs=[.ref a,.int k]/\SqL K H a (ns.map V.int)/\Q (.int (Kc ns k)) H
def ARH:Sp:=fun vs H Q _=>∃a b,vs=[.int a,.int b]/\0<=b/\Q (.int (g a b)) H
def AKk:Sp:=fun vs H Q _=>∃(c:Int) (m:Nat),vs=[.int c,.int m]/\m<=100/\∀(r:Addr) (ns:List Int) (H':Hp),Am H H'->H r=none->H' r=some (.lst (ns.map V.int))->ns.length=m->(∀n∈ns,0<=n/\n<100000)->Q (.ref r) H'
def abv(v:Int):Rat:=((1+v%12:Int):Rat)/((1+v/12%12:Int):Rat)
theorem AKy(v:Int):Bq 4 (abv v):=by
 have h1:=ATV v (show(12:Int)≠0 by decide);have h2:=ATJ v (show(0:Int)<12 by decide);have h3:=ATV (v/12) (show(12:Int)≠0 by decide);have h4:=ATJ (v/12) (show(0:Int)<12 by decide);exact Jc (by omega) rfl (Bt.between (by omega) (by omega)) (Bt.between (by omega) (by omega))
theorem Yy{t b:Int}(ht:0<t)(hb:0<b):0<(t:Rat)/(b:Rat):=by
 rw[Rat.div_def];exact Rat.mul_pos (AWO.mpr ht) (Rat.inv_pos.mpr (AWO.mpr hb))
theorem AEX(v:Int):0<abv v:=by
 have h1:=ATV v (show(12:Int)≠0 by decide);have h3:=ATV (v/12) (show(12:Int)≠0 by decide);exact Yy (by omega) (by omega)
def ALy:Sp:=fun vs H Q _=>∃v,vs=[.int v]/\∀r H',Am H H'->Pq H' r (abv v)->Q (.ref r) H'
structure Drawn(mo:Nat)(gs ws:List Rat):Prop where
 len:gs.length=ws.length+1
 most:ws.length<=mo
 pos:(∀q∈gs,0<q)/\∀q∈ws,0<q
 size:((∀q∈gs,Bq 4 q)/\∀q∈ws,Bq 4 q)\/(ws.length<=1+mo/11/\(∀q∈gs,Bq 101 q)/\∀q∈ws,Bq 101 q)
def AIU(K:W.Frag):Sp:=fun vs H Q _=>∃(a:Addr) (ns:List Int) (most:Nat),vs=[.ref a,.int most]/\SqL K H a (ns.map V.int)/\(∀n∈ns,Bt 1048576 n)/\(4<=most/\most<=12) /\
 ∀r ga wa gs ws H',Am H H'->H' r=some (.tup [.ref ga,.ref wa])->H ga=none->H wa=none->ga≠wa->Rw H' ga gs->Rw H' wa ws->Drawn most gs ws->Q (.ref r) H'
def AQU(K:W.Frag):Sp:=fun vs H Q _=>∃(a:Addr) (ns:List Int),vs=[.ref a]/\SqL K H a (ns.map V.int)/\ns.length<=63/\(∀n∈ns,Bt 1048576 n)/\∀H',Q (.bl true) H'
def ASn(H:Hp)(a xs:Addr)(mo:Nat)(hd:Int)(zd:L2.St)(H':Hp):Prop:=∃(m':Nat) (pt:Addr) (qs:List Rat) (v w:Option V),zd=[some (.ref a),some (.int mo),some (.int hd),some (.int m'),some (.ref xs),some (.ref pt),v,w]/\Am H H'/\H pt=none/\Rw H' pt qs/\qs.length=2*m'+1/\m'<=mo/\(∀q∈qs,0<q)/\((∀q∈qs,Bq 4 q)\/(m'<=1+mo/11/\∀q∈qs,Bq 101 q))
def ASX(H2:Hp)(a xs pt:Addr)(mo m':Nat)(hd:Int)(i:Nat)(σ:L2.St)(H':Hp):Prop:=∃(v w:Option V) (qs:List Rat),σ=[some (.ref a),some (.int mo),some (.int hd),some (.int m'),some (.ref xs),some (.ref pt),v,w]/\Am H2 H'/\Rw H' pt qs/\qs.length=i/\(∀q∈qs,0<q)/\∀q∈qs,Bq 101 q
theorem RJ:Al ["_law_script","_law_k"] ["_law_script","_law_k"] (Af HS):=fsc
theorem RL(F:Fun K "_law_cell_at" "_law_cell_at" HS f fd)(T:Txt mg):BP P w K mg base CX0 1 f fd ["_law_script","_law_k"] (Qp K):=by
 refine F.okk RJ fun vs H Q E h=>?_;obtain⟨a,ns,k,rfl,hS,q⟩:=h;refine⟨rfl,fun cdv A outer s hr=>?_⟩;refine⟨_,(Ac (BK (Ak Fy (pv 1) (Ax Aw rfl T.z_len AS6 (Aa (pv 0) Ab)) (Ar _))
    (Ae (Aj (ixL (pv 0) (pv 1))))
    Aq)
   (Ae (Aj Ad))),?_⟩
 have hl:(ns.map V.int).length=ns.length:=ASt _;refine⟨_,rfl,_,rfl,a,_,rfl,.inl hS,_,_,rfl,rfl,_,rfl,?_⟩;(refine Hk (fun c=>?_) (fun c=>?_))
 .have c':(k:Int)<(((ns.map V.int).length:Nat):Int):=of_decide_eq_true c;rw[hl]at c';have hk:k<ns.length:=by omega
  refine⟨_,rfl,_,rfl,a,_,_,_,rfl,rfl,hS,Dh (v:=.int (Kc ns k)) ?_,q⟩;unfold Kc;rw[AS4,ASu,Io hk];rfl
 .have c':¬(k:Int)<(((ns.map V.int).length:Nat):Int):=of_decide_eq_false (Bool.eq_false_iff.mpr c);rw[hl]at c';have e:Kc ns k=0:=by
   unfold Kc;rw[ASu,ATk (by omega)];rfl
  rw[e]at q;exact q
def Co(C:Addr)(H:Hp)(c ga wa:Addr)(gs ws:List Rat):Prop:=(∃dx,H c=some (.ins C dx [("kept_gaps",.ref ga),("kept_weights",.ref wa)]))/\Rw H ga gs/\Rw H wa ws
theorem Co.keep{C:Addr}{H H':Hp}{c ga wa:Addr}{gs ws:List Rat}(h:Co C H c ga wa gs ws)(s:Am H H'):Co C H' c ga wa gs ws:=by
 obtain⟨⟨dx,e⟩,r1,r2⟩:=h;exact⟨⟨dx,s _ _ e⟩,r1.keep s,r2.keep s⟩
structure Dy(gs ws:List Rat):Prop where
 len:gs.length=ws.length+1
 most:ws.length<=12
 pos:(∀q∈gs,0<q)/\∀q∈ws,0<q
 bq:(∀q∈gs,Bq 101 q)/\∀q∈ws,Bq 101 q
theorem Dy.rev{gs ws:List Rat}(h:Dy gs ws):Dy gs.reverse ws.reverse :=
 ⟨by rw[ATv,ATv];exact h.len,by rw[ATv];exact h.most,⟨fun q hq=>h.pos.1 q (AUb.mp hq),fun q hq=>h.pos.2 q (AUb.mp hq)⟩,⟨fun q hq=>h.bq.1 q (AUb.mp hq),fun q hq=>h.bq.2 q (AUb.mp hq)⟩⟩
def AQP(C:Addr):Sp:=fun vs H Q _=>∃x a b gs ws dx,vs=[.ref x,.ref a,.ref b]/\H x=some (.ins C dx [])/\Rw H a gs/\Rw H b ws/\Dy gs ws /\
 ∀ga wa H',(∀b o,b≠x->H b=some o->H' b=some o)->H ga=none->H wa=none->Co C H' x ga wa gs ws->Q .non H'
structure Nz(gs ws:List Rat):Prop where
 len:gs.length=ws.length+1
 most:ws.length<=12
 pos:(∀q∈gs,0<q)/\∀q∈ws,0<q
theorem Dy.fine0{gs ws:List Rat}(h:Dy gs ws):Nz gs ws:=⟨h.len,h.most,h.pos⟩
def Gv(C:Addr):Sp:=fun vs H Q _=>∃x a b gs ws dx,vs=[.ref x,.ref a,.ref b]/\H x=some (.ins C dx [])/\Rw H a gs/\Rw H b ws/\Nz gs ws /\
 ∀ga wa H',(∀b o,b≠x->H b=some o->H' b=some o)->H ga=none->H wa=none->Co C H' x ga wa gs ws->Q .non H'
def Ii(C:Addr):Sp:=fun vs H Q _=>∃c ga wa gs ws,vs=[.ref c]/\Co C H c ga wa gs ws/\∀r H',Am H H'->H r=none->Rw H' r gs->Q (.ref r) H'
def Ec(C:Addr):Sp:=fun vs H Q _=>∃c ga wa gs ws,vs=[.ref c]/\Co C H c ga wa gs ws/\∀r H',Am H H'->H r=none->Rw H' r ws->Q (.ref r) H'
def MK(C:Addr):Sp:=fun vs H Q _=>∃c ga wa gs ws,vs=[.ref c]/\Co C H c ga wa gs ws/\Q (.int ws.length) H
def ALD(C:Addr):Sp:=fun vs H Q _=>∃c ga wa gs ws,vs=[.ref c]/\Co C H c ga wa gs ws/\gs.length<=13/\(∀q∈gs,Bq 101 q)/\∀r H',Am H H'->Pq H' r (Po.lsum gs)->Q (.ref r) H'
def SJ(C:Addr):Sp:=fun vs H Q _=>∃c ga wa gs ws,vs=[.ref c]/\Co C H c ga wa gs ws/\Dy gs ws/\∀c' fH fJ H',Am H H'->H c'=none->H fH=none->H fJ=none->Co C H' c' fH fJ gs.reverse ws.reverse->Q (.ref c') H'
def O6:Sp:=fun vs H Q _=>∃p q,vs=[.ref p]/\Pq H p q/\Q (.bl true) H
def La:Sp:=fun vs H Q _=>∃a qs,vs=[.ref a]/\Rw H a qs/\(∀q∈qs,0<q)/\qs.length<=1000/\∀H',Am H H'->Q (.bl true) H'
theorem Pqs.reverse{H:Hp}{ps:List Addr}{qs:List Rat}(h:Pqs H ps qs):Pqs H ps.reverse qs.reverse:=by
 induction h with
 | nil=>exact .nil
 | cons x _ ih=>rw[AVB,AVB];exact ih.append (.cons x .nil)
def ALB:Sp:=fun vs H Q _=>∃i,vs=[.int i]/\Q (.bl true) H
def AOF:Sp:=fun vs H Q _=>∃p p' q,vs=[.ref p,.ref p']/\Pq H p q/\Pq H p' q/\Q (.bl true) H
def ADe:Sp:=fun vs H Q _=>∃a b qs,vs=[.ref a,.ref b]/\Rw H a qs/\Rw H b qs/\qs.length<=1000/\Q (.bl true) H
def AQe:Sp:=fun vs H Q _=>∃a gs,vs=[.ref a]/\Rw H a gs/\gs.length<=13/\(∀q∈gs,Bq 101 q)/\∀r H',Am H H'->Pq H' r (Po.lsum gs)->Q (.ref r) H'
def AQJ(C:Addr):Sp:=fun vs H Q _=>∃c ga wa g w gs ws,vs=[.ref c,.ref g,.ref w]/\Co C H c ga wa gs ws/\Rw H g gs/\Rw H w ws/\Dy gs ws/\∀H',Am H H'->Q (.bl true) H'
variable {af:Addr}
theorem VM:Al ["self"] ["self"] (Af Ju):=fsc
theorem Ui(F:Fun K "gaps" "Cord.gaps" Ju f fd)(T:Txt mg)(O:J0 K mg af):BP P w K mg base CX0 1 f fd ["self"] (Ii af):=by
 refine F.okk VM fun vs H Q E h=>?_;(obtain⟨c,ga,wa,gs,ws,rfl,⟨⟨dx,e⟩,r1,r2⟩,q⟩:=h);walk_at "c";obtain⟨xs,hx,_⟩:=r1.there;(refine⟨_,(Ae (Aj (Ba Ew rfl T.z_list boot_list (Aa (Ib (pv 0) rfl) Ab)))),?_⟩);exact⟨_,rfl,c,_,dx,_,_,rfl,e,O.cl,O.n_kept_gaps,rfl,ga,_,rfl,.inl (SqL.of hx),fun r hr'=>q r _ (Ah hr' _) hr' (r1.copy hx hr')⟩
theorem Oq:Al ["self"] ["self"] (Af Gs):=fsc
theorem Ow(F:Fun K "weights" "Cord.weights" Gs f fd)(T:Txt mg)(O:J0 K mg af):BP P w K mg base CX0 1 f fd ["self"] (Ec af):=by
 refine F.okk Oq fun vs H Q E h=>?_;(obtain⟨c,ga,wa,gs,ws,rfl,⟨⟨dx,e⟩,r1,r2⟩,q⟩:=h);walk_at "c";obtain⟨xs,hx,_⟩:=r2.there;(refine⟨_,(Ae (Aj (Ba Ew rfl T.z_list boot_list (Aa (Ib (pv 0) rfl) Ab)))),?_⟩);exact⟨_,rfl,c,_,dx,_,_,rfl,e,O.cl,O.n_kept_weights,rfl,wa,_,rfl,.inl (SqL.of hx),fun r hr'=>q r _ (Ah hr' _) hr' (r2.copy hx hr')⟩
theorem Rk:Al ["self"] ["self"] (Af Hy):=fsc
theorem Ro(F:Fun K "beads" "Cord.beads" Hy f fd)(T:Txt mg)(O:J0 K mg af):BP P w K mg base CX0 1 f fd ["self"] (MK af):=by
 refine F.okk Rk fun vs H Q E h=>?_;(obtain⟨c,ga,wa,gs,ws,rfl,⟨⟨dx,e⟩,r1,r2⟩,q⟩:=h);walk_at "c";obtain⟨xs,hx,hl⟩:=r2.there;refine⟨_,(Ae (Aj (Ax Aw rfl T.z_len AS6 (Aa (Ib (pv 0) rfl) Ab)))),?_⟩;rw[<-hl]at q;exact⟨_,rfl,c,_,dx,_,_,rfl,e,O.cl,O.n_kept_weights,rfl,wa,_,rfl,.inl (SqL.of hx),q⟩
theorem Qu:Al ["thing"] ["thing"] (Af HW):=fsc
theorem RM(F:Fun K "is_fraction" "is_fraction" HW f fd)(T:Txt mg)(aU:Cal P w K mg base "is_whole" 1 ["thing"] Q6)(aq:Cal P w K mg base "divisor" 1 ["one","other"] Jx):BP P w K mg base CX0 2 f fd ["thing"] O6:=by
 refine F.okk Qu fun vs H Q E h=>?_;obtain⟨p,q0,rfl,kp,q⟩:=h;refine⟨rfl,fun cdv A outer s hr=>?_⟩;have hp:=den_pos q0;have hg:g q0.num q0.den=1:=by
  unfold g;rw[(fq q0).one];rfl
 refine⟨_,(Ac (BK (PW.pt (Dc (Ck (Cj (Ax Jr rfl T.z_isinstance boot_isinstance (Aa (pv 0) (Aa (Ma (v:=.ty "tuple") rfl T.z_tuple boot_tuple rfl) Ab))))) (CV (Ak GD (Ax Aw rfl T.z_len AS6 (Aa (pv 0) Ab)) Ad (Ar _)))))
    (Ae (Aj GF))
    Aq)
   (Ac (BK (PW.pt (Dc (Ck (Cj (Ai aU hr (Aa (ixT (pv 0) Ad) Ab)))) (CV (Ck (Cj (Ai aU hr (Aa (ixT (pv 0) Ad) Ab)))))))
    (Ae (Aj GF))
    Aq)
   (Ae (Aj (M6 (Et Yh (ixT (pv 0) Ad) Ad (Ar _)) (QT (Et Be (Ai aq hr (Aa (ixT (pv 0) Ad) (Aa (ixT (pv 0) Ad) Ab))) Ad (Ar _)))))))),?_⟩
 refine⟨_,rfl,_,_,_,_,rfl,Gz.tup kp,Og _,_,rfl,FZ ?_⟩;refine⟨_,rfl,_,_,rfl,.inr kp.sq,rfl,_,rfl,Fx rfl ?_⟩;refine⟨_,rfl,_,_,_,_,rfl,rfl,kp.sq,rfl,_,rfl,_,rfl,FZ ?_⟩;refine⟨_,rfl,_,_,_,_,rfl,rfl,kp.sq,rfl,_,rfl,_,rfl,FZ ?_⟩;refine⟨_,rfl,_,_,_,_,rfl,rfl,kp.sq,rfl,_,_,rfl,rfl,_,rfl,Oo (by omega) ?_⟩;refine⟨_,rfl,_,_,_,_,rfl,rfl,kp.sq,rfl,_,rfl,_,_,_,_,rfl,rfl,kp.sq,rfl,_,_,rfl,rfl,?_⟩;rw[hg];exact q
theorem Ou:Al ["thing"] ["thing"] (Af Ex):=fsc
theorem O1(F:Fun K "is_row_above" "is_row_above" Ex f fd)(T:Txt mg)(aE:Cal P w K mg base "is_fraction" 2 ["thing"] O6)(aS:Cal P w K mg base "side" 1 ["one"] IV):BP P w K mg base CX0 3 f fd ["thing"] La:=by
 refine F.okk Ou fun vs H Q E h=>?_;obtain⟨a,qs,rfl,ra,hpos,aB,q⟩:=h;refine⟨rfl,fun cdv A outer s hr=>?_⟩;obtain⟨ps,hx,kp⟩:=id ra;have hl:=kp.length;refine⟨_,(Ac (BK (Ck (Cj (Ax Jr rfl T.z_isinstance boot_isinstance (Aa (pv 0) (Aa (Ma (v:=.ty "list") rfl T.z_list boot_list rfl) Ab)))))
    (Ae (Aj GF))
    Aq)
   (Ae (Aj (Ax (Qt rfl) rfl T.z_all boot_all (Aa (Ce (N':=["part"]) (fsc:=Af Ex) (N:=["thing"]) [] ⟨rfl,by decide +kernel,by decide +kernel,by decide +kernel,rfl,by decide +kernel,rfl,by decide +kernel⟩ (Bl (pv 0)) (fun _ _ _ _=>(M6 (Ai aE hr (Aa (pv 0) Ab)) (QT (Et Be (Ai aS hr (Aa (pv 0) Ab)) Ad (Ar _)))))) Ab))))),?_⟩
 refine⟨_,rfl,_,_,_,_,rfl,Gz.lst hx,Vj _,_,rfl,FZ ?_⟩;refine⟨_,rfl,a,rfl,⟨_,SqL.of hx⟩,YS (xs:=ps.map V.ref) (by rw[ASt];omega) hx (fun _=>true) ?_ fun H1 D s1 nD eD=>?_⟩
 .intro _ _ _ _ x H1 R oE s1 fin;obtain⟨p1,hp1,rfl⟩:=ATY.mp oE;obtain⟨q1,hq1,k1⟩:=Oe kp hp1;have hn:0<q1.num:=by
   have:=hpos _ hq1;have h0:0<=q1.num:=AVE.mpr (Rat.le_of_lt this);have h1:q1.num≠0:=fun z=>Rat.ne_of_gt this (AT4.mp z);omega
  have k2:=k1.keep s1;refine⟨_,rfl,p1,_,rfl,k2,_,rfl,RV ?_⟩;refine⟨_,rfl,p1,_,_,rfl,k2,rfl,?_⟩;have es:sgn q1.num=1:=by unfold sgn;rw[if_pos hn]
  rw[es];exact fin H1 (Am.refl _)
 .refine⟨D,_,rfl,SqL.of eD,?_⟩;have e:((ps.map V.ref).map fun _=>true).all id=true:=by simp
  rw[e];exact q H1 s1
theorem Tv:Al ["self","gaps","weights"] ["self","gaps","weights"] (Af JF):=fsc
theorem Ru(F:Fun K "__init__" "Cord.__init__" JF f fd)(T:Txt mg)(O:J0 K mg af)(bn:Cal P w K mg base "is_row_above" 3 ["thing"] La):BP P w K mg base CX0 4 f fd ["self","gaps","weights"] (Gv af):=by
 refine F.okk Tv fun vs H Q E h=>?_;obtain⟨x,a,b,gs,ws,dx,rfl,fF,lC,lD,fine,q0⟩:=h;refine⟨rfl,fun cdv A outer s hr=>?_⟩;have aB:=fine.len;have aC:=fine.most;refine⟨_,(Ac (BK (PW.pt (Dc (Ck (Cj (Ai bn hr (Aa (pv 1) Ab)))) (CV (Ck (Cj (Ai bn hr (Aa (pv 2) Ab)))))))
    (Ae BR)
    Aq)
   (Ac (BK (PW.pt (Dc (Ak GD (Ax Aw rfl T.z_len AS6 (Aa (pv 1) Ab)) (An Bp (Ax Aw rfl T.z_len AS6 (Aa (pv 2) Ab)) Ad) (Ar _)) (CV (Ak Gp (Ax Aw rfl T.z_len AS6 (Aa (pv 2) Ab)) (JS rfl T.c_MOST_BEADS) (Ar _)))))
    (Ae BR)
    Aq)
   (Ac (Xy (pv 0) (Ba Ew rfl T.z_list boot_list (Aa (pv 1) Ab)) rfl)
   (Ae (Xy (pv 0) (Ba Ew rfl T.z_list boot_list (Aa (pv 2) Ab)) rfl))))),?_⟩
 refine⟨_,rfl,a,gs,rfl,lC,fine.pos.1,by omega,fun H1 t1=>⟨_,rfl,FZ ?_⟩⟩;refine⟨_,rfl,b,ws,rfl,lD.keep t1,fine.pos.2,by omega,fun H2 t2=>⟨_,rfl,FZ ?_⟩⟩;have gX:=t1.trans t2;have ex:=gX _ _ fF;have ra:=lC.keep gX;have rb:=lD.keep gX;have q:∀ga wa H',(∀b o,b≠x->H2 b=some o->H' b=some o)->H2 ga=none->H2 wa=none->Co af H' x ga wa gs ws->Q .non H':=fun ga wa H' k n1 n2 co=>q0 ga wa H' (fun b o n e=>k b o n (gX _ _ e)) (gX.free n1) (gX.free n2) co;clear q0 fF lC lD t1;clear gX;clear t2;clear H1;generalize H2=H at *;obtain⟨xa,ea,la⟩:=ra.there;obtain⟨xb,eb,lb⟩:=rb.there;refine⟨_,rfl,_,_,rfl,.inl (SqL.of ea),_,rfl,_,_,rfl,.inl (SqL.of eb),_,_,rfl,rfl,rfl,_,rfl,Fx (by rw[la,lb];exact congrArg V.int (by omega)) ?_⟩;refine⟨_,rfl,_,_,rfl,.inl (SqL.of eb),_,_,rfl,rfl,_,rfl,Cd (by omega) ?_⟩;refine⟨_,rfl,a,_,rfl,.inl (SqL.of ea),fun ga hga=>?_⟩;have s1:=Ah hga (.lst xa);have r1:=ra.copy ea hga;refine⟨_,rfl,x,_,dx,_,rfl,s1 _ _ ex,O.cl,O.n_kept_gaps,by decide,?_⟩;have xZ:x≠ga:=BL ex hga;have nb:b≠x:=G3 eb ex (by intro z;cases z);obtain⟨H2,e2⟩:∃H2,H2=upd (upd H ga (.lst xa)) x (.ins af dx (Ig "kept_gaps" (.ref ga) [])):=⟨_,rfl⟩;rw[<-e2];have k2:∀c o,c≠x->(upd H ga (.lst xa)) c=some o->H2 c=some o:=fun c o n e=>by rw[e2,Az n];exact e
 have rows:∀{c:Addr} {qs:List Rat},Rw (upd H ga (.lst xa)) c qs->Rw H2 c qs:=fun {c qs} r=>by
  obtain⟨ps,h1,h2⟩:=r;exact⟨ps,k2 _ _ (G3 h1 (s1 _ _ ex) (by intro z;cases z)) h1,Paired.imp' (fun p t z=>by
   have z':(upd H ga (.lst xa)) p=some (.tup [.int t.num,.int t.den]):=z;exact k2 _ _ (G3 z' (s1 _ _ ex) (by intro w;cases w)) z') h2⟩
 have oF:=rows (rb.keep s1);have qV:=rows r1;have jW:H2 x=some (.ins af dx [("kept_gaps",.ref ga)]):=by rw[e2,Ag];rfl
 obtain⟨i7,oG,lb2⟩:=oF.there;refine⟨_,rfl,b,_,rfl,.inl (SqL.of oG),fun wa iK=>?_⟩;have s3:=Ah iK (.lst i7);have r3:=oF.copy oG iK;refine⟨_,rfl,x,_,dx,_,rfl,s3 _ _ jW,O.cl,O.n_kept_weights,(by show 1<1000;decide),?_⟩;obtain⟨H4,e4⟩:∃H4,H4=upd (upd H2 wa (.lst i7)) x (.ins af dx (Ig "kept_weights" (.ref wa) [("kept_gaps",.ref ga)])):=⟨_,rfl⟩;have k4:∀c o,c≠x->(upd H2 wa (.lst i7)) c=some o->H4 c=some o:=fun c o n e=>by rw[e4,Az n];exact e
 have gO:∀{c:Addr} {qs:List Rat},Rw (upd H2 wa (.lst i7)) c qs->Rw H4 c qs:=fun {c qs} r=>by
  obtain⟨ps,h1,h2⟩:=r;exact⟨ps,k4 _ _ (G3 h1 (s3 _ _ jW) (by intro z;cases z)) h1,Paired.imp' (fun p t z=>by
   have z':(upd H2 wa (.lst i7)) p=some (.tup [.int t.num,.int t.den]):=z;exact k4 _ _ (G3 z' (s3 _ _ jW) (by intro w;cases w)) z') h2⟩
 have fin:=q ga wa H4 (fun c o n e=>k4 c o n (s3 _ _ (k2 c o n (s1 _ _ e)))) hga ?_ ⟨⟨dx,?_⟩,gO (qV.keep s3),gO r3⟩
 .rw[e4]at fin;exact fin
 .cases hw:H wa with
  | none=>rfl
  | some o =>
   by_cases n:wa=x
   .rw[n,jW]at iK;cases iK
   .rw[k2 wa o n (s1 _ _ hw)]at iK;cases iK
 .rw[e4,Ag];rfl
theorem RN{C:Addr}{H:Hp}{a b:Addr}{gs ws:List Rat}{R:Hp->Prop}{E:XK}{x dx:Addr}(nx:H x=none)(ndx:H dx=none)(ra:Rw H a gs)(rb:Rw H b ws)(fine:Nz gs ws)
  (q:∀ga wa H',Am H H'->H ga=none->H wa=none->Co C H' x ga wa gs ws->R H') :
  Gv C (.ref x::([.ref a,.ref b]++[])) (upd (upd H dx (.own x)) x (.ins C dx [])) (fun v H'=>v=.non/\R H') E:=by
 have s3:Am H (upd (upd H dx (.own x)) x (.ins C dx [])):=fun b o e=>by
  rw[Az (BL e nx),Az (BL e ndx)];exact e
 exact⟨x,a,b,gs,ws,dx,rfl,Ag,ra.keep s3,rb.keep s3,fine,fun fH fJ H' kp n1 n2 co=>⟨rfl,q fH fJ H' (fun b o z=>kp b o (BL z nx) (s3 _ _ z)) (s3.free n1) (s3.free n2) co⟩⟩
theorem Rw.cto{H:Hp}{p:Addr}{ps:List Addr}{qs:List Rat}(kp:Pqs H ps qs)(hp:H p=none)(k:Nat):Rw (upd H p (.lst (DP (ps.map V.ref) none (some (k:Int))))) p (qs.take k) :=
 ⟨ps.take k,by rw[Ag,AKs],(kp.take k).keep (Ah hp _)⟩
theorem Rw.cfr{H:Hp}{p:Addr}{ps:List Addr}{qs:List Rat}(kp:Pqs H ps qs)(hp:H p=none)(k:Nat):Rw (upd H p (.lst (DP (ps.map V.ref) (some (k:Int)) none))) p (qs.drop k) :=
 ⟨ps.drop k,by rw[Ag,Hl],(kp.drop k).keep (Ah hp _)⟩
theorem Rw.cat{H:Hp}{p:Addr}{ps rs:List Addr}{qs ts:List Rat}(kp:Pqs H ps qs)(kr:Pqs H rs ts)(hp:H p=none):Rw (upd H p (.lst (ps.map V.ref++rs.map V.ref))) p (qs++ts) :=
 ⟨ps++rs,by rw[Ag,AS0],(kp.append kr).keep (Ah hp _)⟩
def jng(gs hs:List Rat):List Rat:=gs.take (gs.length-1)++[gs.getD (gs.length-1) 0+hs.getD 0 0]++hs.drop 1
theorem Vl{gs:List Rat}{i:Nat}(h:i<gs.length):gs.getD i 0∈gs:=by rw[Po.getD_in h];exact List.getElem_mem h
def ALH(C:Addr):Sp:=fun vs H Q _=>∃c ga wa gs ws d ha xa hs xs,vs=[.ref c,.ref d]/\Co C H c ga wa gs ws/\Co C H d ha xa hs xs/\Dy gs ws/\Dy hs xs/\ws.length+xs.length<=12 /\
 ∀r g w H',Am H H'->H r=none->H g=none->H w=none->Co C H' r g w (jng gs hs) (ws++xs)->Q (.ref r) H'
def YT(C:Addr):Sp:=fun vs H Q _=>∃c ga wa gs ws,∃(n:Nat),vs=[.ref c,.int n]/\Co C H c ga wa gs ws/\1<=n/\n<=ws.length/\Q .non H
def AQf(C:Addr):Sp:=fun vs H Q _=>∃c ga wa gs ws,∃(n:Nat),vs=[.ref c,.int n]/\Co C H c ga wa gs ws/\Nz gs ws/\1<=n/\n<=ws.length /\
 ∀r c1 g1 w1 c2 g2 w2 H',Am H H'->H' r=some (.tup [.ref c1,.ref c2])->Co C H' c1 g1 w1 (gs.take n) (ws.take (n-1))->Co C H' c2 g2 w2 (gs.drop n) (ws.drop n)->Q (.ref r) H'
theorem Rg:Al ["cord","bead"] ["cord","bead"] (Af Hv):=fsc
theorem RW(F:Fun K "check_bead" "check_bead" Hv f fd)(T:Txt mg)(aI:Fg P w K mg base af "beads" 1 ["self"] (MK af)):BP P w K mg base CX0 2 f fd ["cord","bead"] (YT af):=by
 refine F.okk Rg fun vs H Q E h=>?_;obtain⟨c,ga,wa,gs,ws,n,rfl,co,h1,h2,q⟩:=h;refine⟨rfl,fun cdv A outer s hr=>?_⟩;obtain⟨dx,ec⟩:=co.1;refine⟨_,(Ae (BK (PW.pt (Dc (Ak Fy (pv 1) Ad (Ar _)) (CV (Ak Gp (pv 1) (GC aI hr (pv 0)) (Ar _)))))
    (Ae BR)
    Aq)),?_⟩
 walk_at "J";exact⟨_,rfl,_,rfl,c,dx,_,rfl,ec,rfl,c,ga,wa,gs,ws,rfl,co,_,_,rfl,rfl,_,rfl,Cd (by omega) q⟩
def mor(qs:List Rat)(k:Nat)(x:Rat):List Rat:=qs.take k++[qs.getD k 0+x]++qs.drop (k+1)
theorem Gu{qs:List Rat}{k:Nat}(x:Rat)(h:k<qs.length):(mor qs k x).length=qs.length:=by
 unfold mor;simp only[ASz,AS8,ATF,ASx,AUH];omega
theorem KC{P:Rat->Prop}{qs:List Rat}{k:Nat}{x:Rat}(hq:∀q∈qs,P q)(hm:P (qs.getD k 0+x)):∀q∈mor qs k x,P q:=fun q h=>by
 unfold mor at h;rcases ATU.mp h with h|h
 .rcases ATU.mp h with h|h
  .exact hq q (AUv h)
  .rw[ATs.mp h];exact hm
 .exact hq q (AT7 h)
theorem Ob{qs:List Rat}{k:Nat}{x:Rat}(hx:0<=x)(h:k<qs.length)(i:Nat):qs.getD i 0<=(mor qs k x).getD i 0:=by
 unfold mor;have l1:(qs.take k).length=k:=by rw[AS8];omega
 rcases AWq i k with z|z|z
 .rw[ATw,ASu,ASu,ATi (by omega),AWj,if_pos z];exact AUN
 .subst z;have e:(qs.take i++[qs.getD i 0+x]++qs.drop (i+1)).getD i 0=qs.getD i 0+x:=by
   rw[ATw,ASu,ATD (by omega),l1,Nat.sub_self];rfl
  rw[e];grind
 .have l2:(qs.take k++[qs.getD k 0+x]).length=k+1:=by rw[ASz,l1];rfl
  rw[ASu,ASu,ATD (by omega),l2,AUL,show k+1+(i-(k+1))=i by omega];exact AUN
def ACR:Sp:=fun vs H Q _=>∃(a p:Addr) (k:Nat) (qs:List Rat) (x:Rat),vs=[.ref a,.int k,.ref p]/\Rw H a qs/\Pq H p x/\k<qs.length/\qs.length<=100/\0<x/\Bq 8000 x/\(∀q∈qs,Bq 8000 q)/\∀r H',Am H H'->H r=none->Rw H' r (mor qs k x)->Q (.ref r) H'
def Kr(C:Addr):Sp:=fun vs H Q _=>∃(c ga wa p:Addr) (gs ws:List Rat) (n:Nat) (x:Rat),vs=[.ref c,.int n,.ref p]/\Co C H c ga wa gs ws/\Pq H p x/\Dy gs ws/\1<=n/\n<=ws.length/\0<x/\Bq 101 x /\
 ∀r g w H',Am H H'->H r=none->H g=none->H w=none->Co C H' r g w gs (mor ws (n-1) x)->Q (.ref r) H'
def Mw(C:Addr):Sp:=fun vs H Q _=>∃(c ga wa p:Addr) (gs ws:List Rat) (n:Nat) (x:Rat),vs=[.ref c,.int n,.ref p]/\Co C H c ga wa gs ws/\Pq H p x/\Dy gs ws/\n<=ws.length/\0<x/\Bq 101 x /\
 ∀r g w H',Am H H'->H r=none->H g=none->H w=none->Co C H' r g w (mor gs n x) ws->Q (.ref r) H'
theorem Dy.heavy{gs ws:List Rat}{n:Nat}{x:Rat}(f:Dy gs ws)(hn:n<ws.length)(hx:0<x):Nz gs (mor ws n x):=by
 refine⟨by rw[Gu x hn];exact f.len,by rw[Gu x hn];exact f.most,f.pos.1,KC f.pos.2 ?_⟩;have:=f.pos.2 _ (Vl hn);grind
theorem Dy.long{gs ws:List Rat}{n:Nat}{x:Rat}(f:Dy gs ws)(hn:n<gs.length)(hx:0<x):Nz (mor gs n x) ws:=by
 refine⟨by rw[Gu x hn];exact f.len,f.most,KC f.pos.1 ?_,f.pos.2⟩;have:=f.pos.1 _ (Vl hn);grind
theorem T4:Al ["row","place","more"] ["row","place","more"] (Af JX):=fsc
theorem T6(F:Fun K "with_more" "with_more" JX f fd)(T:Txt mg)(aE:Cal P w K mg base "is_fraction" 2 ["thing"] O6)(aS:Cal P w K mg base "side" 1 ["one"] IV)(aR:Cal P w K mg base "plus" 2 ["one","other"] (Bw 8000 (·+·))):BP P w K mg base CX0 3 f fd ["row","place","more"] ACR:=by
 refine F.okk T4 fun vs H Q E h=>?_;obtain⟨a,pm,k,qs,x,rfl,⟨ps,ea,ka⟩,km,hk,hl,hx,bx,bq,q⟩:=h;walk_at "c";have lp:=ka.length;walk_at "i"
 refine⟨_,(Ac (BK (PW.pt (Dc (Ck (Cj (Ai aE hr (Aa (pv 2) Ab)))) (CV (Ak GD (Ai aS hr (Aa (pv 2) Ab)) Ad (Ar _)))))
    (Ae BR)
    Aq)
   (Ae (Aj (An VB (An VB (DX FW (pv 0) Ds (DR (pv 1))) (DQ (Aa (Ai aR hr (Aa (ixL (pv 0) (pv 1)) (Aa (pv 2) Ab))) Ab))) (DX FW (pv 0) (DR (An Bp (pv 1) Ad)) Ds))))),?_⟩
 refine⟨_,rfl,pm,x,rfl,km,_,rfl,FZ ?_⟩;have sg:sgn x.num=1:=by
  have h0:0<x.num:=by
   have h0:0<=x.num:=AVE.mpr (Rat.le_of_lt hx);have h1:x.num≠0:=fun z=>by
    rw[AT4.mp z]at hx;exact absurd hx (by decide)
   omega
  unfold sgn;rw[if_pos h0]
 refine⟨_,rfl,pm,_,_,rfl,km,rfl,_,rfl,Fx (congrArg V.int sg) ?_⟩;refine⟨_,rfl,_,rfl,_,rfl,a,_,rfl,SqL.of ea,fun m1 hm1=>?_⟩;have u1:=Ah hm1 (.lst (DP (ps.map V.ref) none (some (k:Int))));have t1:Rw (upd H m1 (.lst (DP (ps.map V.ref) none (some (k:Int))))) m1 (qs.take k):=Rw.cto ka hm1 k;have oH:=u1 _ _ ea;have oI:=ka.keep u1;have qW:=km.keep u1;clear hm1;generalize upd H m1 (.lst (DP (ps.map V.ref) none (some (k:Int))))=H1 at *;obtain⟨y,ey,ky⟩:=oI.get (Io hk);refine⟨_,rfl,_,rfl,a,_,_,_,rfl,rfl,SqL.of oH,Dh ey,_,rfl,y,pm,_,_,rfl,ky,qW,bq _ (List.getElem_mem hk),bx,fun z H2 s2 kz=>⟨(by show 1<=sizeLine;decide),fun m2 hm2=>?_⟩⟩;obtain⟨q1,f1,j1⟩:=t1.keep s2;have qX:=j1.length;rw[AS8]at qX;have v1:=Ah hm2 (.lst [.ref z]);have hz':(fun x1 x2:Rat=>x1+x2) qs[k] x=qs.getD k 0+x:=by rw[Po.getD_in hk]
 rw[hz']at kz;refine⟨m1,m2,_,_,rfl,rfl,v1 _ _ f1,Ag,by simp only[ASt,ASx,AUH];omega,fun m3 iL=>?_⟩;have v2:=Ah iL (.lst (q1.map V.ref++[.ref z]));have t3:Rw (upd (upd H2 m2 (.lst [.ref z])) m3 (.lst (q1.map V.ref++[.ref z]))) m3 (qs.take k++[qs.getD k 0+x]):=Rw.cat (rs:=[z]) (j1.keep v1) (.cons (kz.keep v1) .nil) iL;have s3:=s2.trans (v1.trans v2);have qY:=s3 _ _ oH;have qZ:=oI.keep s3;have di:=u1.trans s3;clear v1 v2 hm2 iL s3 s2 u1;generalize upd (upd H2 m2 (.lst [.ref z])) m3 (.lst (q1.map V.ref++[.ref z]))=H3 at *;refine⟨_,rfl,_,rfl,_,_,rfl,rfl,_,rfl,a,_,rfl,SqL.of qY,fun m4 jX=>?_⟩;have u4:=Ah jX (.lst (DP (ps.map V.ref) (some ((k:Int)+1)) none));have t4:Rw (upd H3 m4 (.lst (DP (ps.map V.ref) (some ((k:Int)+1)) none))) m4 (qs.drop (k+1)):=Rw.cfr qZ jX (k+1);have q5:=t3.keep u4;have gP:=di.trans u4;clear u4 jX t3;generalize upd H3 m4 (.lst (DP (ps.map V.ref) (some ((k:Int)+1)) none))=H4 at *;obtain⟨q3,f3,j3⟩:=q5;obtain⟨q4,f4,j4⟩:=t4;have rf:=j3.length;have rh:=j4.length;rw[ASz,AS8,ATX]at rf;rw[ATF]at rh;refine⟨m3,m4,_,_,rfl,rfl,f3,f4,by rw[ASt,ASt];omega,fun m5 fS=>?_⟩;exact q m5 _ (gP.trans (Ah fS _)) (gP.free fS) (Rw.cat j3 j4 fS)
theorem YC:Al ["cord","bead","more"] ["cord","bead","more"] (Af Nk):=fsc
theorem XX(F:Fun K "heavier" "heavier" Nk f fd)(T:Txt mg)(cg:Cal P w K mg base "check_bead" 2 ["cord","bead"] (YT af))(aZ:Cal P w K mg base "with_more" 3 ["row","place","more"] ACR)(ap:Fg P w K mg base af "gaps" 1 ["self"] (Ii af))(aj:Fg P w K mg base af "weights" 1 ["self"] (Ec af))
  (au:QM P w K mg base "Cord" af 4 ["self","gaps","weights"] (Gv af)):BP P w K mg base CX0 6 f fd ["cord","bead","more"] (Kr af):=by
 refine F.okk YC fun vs H Q E h=>?_;obtain⟨c,ga,wa,p,gs,ws,n,x,rfl,co,kx,fine,h1,h2,hx,bx,q⟩:=h;refine⟨rfl,fun cdv A outer s hr=>?_⟩;have aC:=fine.most;refine⟨_,(Ac (Ca (Ai cg hr (Aa (pv 0) (Aa (pv 1) Ab))))
   (Ae (Aj (V2 au hr (Aa (GC ap hr (pv 0)) (Aa (Ai aZ hr (Aa (GC aj hr (pv 0)) (Aa (An Jh (pv 1) Ad) (Aa (pv 2) Ab)))) Ab)))))),?_⟩
 refine⟨_,rfl,_,rfl,c,ga,wa,gs,ws,n,rfl,co,h1,h2,?_⟩;obtain⟨dx,ec⟩:=co.1;(refine⟨_,rfl,c,dx,_,rfl,ec,rfl,c,ga,wa,gs,ws,rfl,co,fun g1 H1 s1 n1 r1=>?_⟩);refine⟨_,rfl,c,dx,_,rfl,s1 _ _ ec,rfl,c,ga,wa,gs,ws,rfl,co.keep s1,fun w1 H2 s2 n2 r2=>?_⟩;have s12:=s1.trans s2;have hn:n-1<ws.length:=by omega
 refine⟨_,rfl,_,_,rfl,rfl,_,rfl,w1,p,n-1,ws,x,?_,r2,kx.keep s12,hn,by omega,hx,bx.mono (by decide),fun q h=>(fine.bq.2 q h).mono (by decide),fun w2 H3 s3 n3 r3=>?_⟩
 .rw[show((n-1:Nat):Int)=(n:Int)-1 by omega];rfl
 have dj:=s12.trans s3;intro x' fj nx ndx _;exact RN nx ndx (r1.keep (s2.trans s3)) r3 (fine.heavy hn hx) fun g w H' s' ng nw eC=>q x' g w H' (dj.trans s') (dj.free nx) (dj.free ng) (dj.free nw) eC
theorem AAp:Al ["cord","gap","more"] ["cord","gap","more"] (Af Qk):=fsc
theorem AAG(F:Fun K "longer" "longer" Qk f fd)(T:Txt mg)(aZ:Cal P w K mg base "with_more" 3 ["row","place","more"] ACR)(ap:Fg P w K mg base af "gaps" 1 ["self"] (Ii af))(aj:Fg P w K mg base af "weights" 1 ["self"] (Ec af))(aI:Fg P w K mg base af "beads" 1 ["self"] (MK af))
  (au:QM P w K mg base "Cord" af 4 ["self","gaps","weights"] (Gv af)):BP P w K mg base CX0 6 f fd ["cord","gap","more"] (Mw af):=by
 refine F.okk AAp fun vs H Q E h=>?_;obtain⟨c,ga,wa,p,gs,ws,n,x,rfl,co,kx,fine,h2,hx,bx,q⟩:=h;refine⟨rfl,fun cdv A outer s hr=>?_⟩;have aC:=fine.most;have aB:=fine.len;obtain⟨dx,ec⟩:=co.1;refine⟨_,(Ac (BK (PW.pt (Dc (Ak Fy (pv 1) Ad (Ar _)) (CV (Ak Gp (pv 1) (GC aI hr (pv 0)) (Ar _)))))
    (Ae BR)
    Aq)
   (Ae (Aj (V2 au hr (Aa (Ai aZ hr (Aa (GC ap hr (pv 0)) (Aa (pv 1) (Aa (pv 2) Ab)))) (Aa (GC aj hr (pv 0)) Ab)))))),?_⟩
 walk_at "J";refine⟨_,rfl,_,rfl,c,dx,_,rfl,ec,rfl,c,ga,wa,gs,ws,rfl,co,_,_,rfl,rfl,_,rfl,Cd (by omega) ?_⟩;(refine⟨_,rfl,c,dx,_,rfl,ec,rfl,c,ga,wa,gs,ws,rfl,co,fun g1 H1 s1 n1 r1=>?_⟩);have hn:n<gs.length:=by omega
 refine⟨_,rfl,_,rfl,g1,p,n,gs,x,rfl,r1,kx.keep s1,hn,by omega,hx,bx.mono (by decide),fun q h=>(fine.bq.1 q h).mono (by decide),fun g2 H2 s2 n2 r2=>?_⟩;have s12:=s1.trans s2;refine⟨_,rfl,c,dx,_,rfl,s12 _ _ ec,rfl,c,ga,wa,gs,ws,rfl,co.keep s12,fun w1 H3 s3 n3 r3=>?_⟩;have dj:=s12.trans s3;intro x' fj nx ndx _;exact RN nx ndx (r2.keep s3) r3 (fine.long hn hx) fun g w H' s' ng nw eC=>q x' g w H' (dj.trans s') (dj.free nx) (dj.free ng) (dj.free nw) eC
def F30(q:Rat):Prop:=q.num.natAbs<10^30/\q.den<10^30
theorem F30.log{q:Rat}(h:F30 q):q.num.natAbs.log2<1920/\(q.den:Int).natAbs.log2<1920:=by
 have k:∀n:Nat,n<10^30->n.log2<1920:=fun n hn=>by
  by_cases z:n=0
  .rw[z];decide
  .refine(AW1 z).mpr (ATB hn ?_);exact ATG (show 10^30<=2^100 by decide +kernel) (AUu (by decide) (by decide))
 exact⟨k _ h.1,k _ h.2⟩
theorem Hr{i:Int}(h:i.natAbs<10^30):(itx i).length<=31:=by
 have:=Ej (k:=30) (by decide) h;unfold itx
 split
 .rw[ASx];omega
 .omega
theorem By{q:Rat}(h:F30 q):(ftx q).length<=62:=by
 have h1:=Hr h.1;have h2:=Ej (k:=30) (by decide) h.2;unfold ftx
 split
 .omega
 .rw[ASz,ASx];omega
def Fb:Sp:=fun vs H Q _=>∃p q,vs=[.ref p]/\Pq H p q/\F30 q/\Q (.str (sx (ftx q))) H
def AD4(l:List Nat):Bool:=if l.length<1 then false else if 30<l.length then false else(l.map fun c=>decide (c∈([48,49,50,51,52,53,54,55,56,57]:List Nat))).all id
def Wr:Sp:=fun vs H Q _=>∃l,vs=[.str (sx l)]/\(∀c∈l,c<128)/\l.length<=100000/\∀H',Am H H'->Q (.bl (AD4 l)) H'
def ACF(l:List Nat):List Nat:=if l[0]?=some 45 then l.drop 1 else l
def Yu:Sp:=fun vs H Q _=>∃l,vs=[.str (sx l)]/\l.length<=100000/\Q (.str (sx (ACF l))) H
theorem ACs(n:Int):ACF (itx n)=dgs n.natAbs:=by
 unfold ACF itx;by_cases h:n<0
 .rw[if_pos h,if_pos (by rfl)];rfl
 .rw[if_neg h,if_neg];intro z;have:=FJ _ 45 (ATp z);exact absurd this.1 (by decide)
theorem Ym{m:Nat}(h:m<10^30):AD4 (dgs m)=true:=by
 have h1:=Ej (k:=30) (by decide) h;have h2:=AU1.mpr (Ia m);unfold AD4;rw[if_neg (by omega),if_neg (by omega),AUd];intro b hb;obtain⟨c,hc,rfl⟩:=ATY.mp hb;obtain⟨k1,k2⟩:=FJ m c hc;refine decide_eq_true ?_;have:c=48\/c=49\/c=50\/c=51\/c=52\/c=53\/c=54\/c=55\/c=56\/c=57:=by omega
 simpa using this
theorem MP(n:Int):(if decide (n<0)=true then -(dgv (dgs n.natAbs):Int) else(dgv (dgs n.natAbs):Int))=n:=by
 rw[Tw];by_cases h:n<0
 .rw[if_pos (decide_eq_true h)];omega
 .rw[if_neg (fun z=>h (of_decide_eq_true z))];omega
theorem Lq(n:Int):(sx (itx n)).cps.toList=(if decide (n<0)=true then 45::dgs n.natAbs else dgs n.natAbs):=by
 rw[GZ];unfold itx;by_cases h:n<0
 .rw[if_pos h,if_pos (decide_eq_true h)]
 .rw[if_neg h,if_neg (fun z=>h (of_decide_eq_true z))]
theorem Y6{m c:Nat}(h:c∈dgs m):c<128:=by
 have:=(FJ m c h).2;omega
theorem TF(q:Rat):(q.den=1/\Cz (sx (ftx q)) (sx [47])=[sx (itx q.num),Str.empty,Str.empty])\/(q.den≠1/\Cz (sx (ftx q)) (sx [47])=[sx (itx q.num),sx [47],sx (dgs q.den)]):=by
 have hf:47∉itx q.num:=Jk (by decide) (fun z=>absurd z.1 (by decide)) _;unfold ftx;by_cases h:q.den=1
 .rw[if_pos h];exact .inl ⟨h,Zg hf⟩
 .rw[if_neg h];exact .inr ⟨h,R6 hf⟩
theorem ALf{b:Bool}{ta tb:TE}{σ:L2.St}{H:Hp}{R:VK}(M:V)(h1:b=true->R M H->ta σ H R)(h2:¬b=true->R M H->tb σ H R)(h:R M H):if b=true then ta σ H R else tb σ H R:=by
 by_cases z:b=true
 .rw[if_pos z];exact h1 z h
 .rw[if_neg z];exact h2 z h
theorem Kg{c:Nat}:∀{ws:List (List Nat)},(∀w∈ws,w.length<=64)->(jn c ws).length<=65*ws.length
 | [],_=>ATW _
 | [w],h=>by
  have:=h w (by simp);show w.length<=65*1;omega
 | w::v::r,h=>by
  have h1:=h w (by simp);have h2:=Kg (c:=c) (ws:=v::r) fun x hx=>h x (by simp[AS2.mp hx]);show(w++c::jn c (v::r)).length<=65*((v::r).length+1);rw[ASz,ASx];omega
theorem AKA{c:Nat}:∀{ws:List (List Nat)},(∀w∈ws,w≠[])->jn c ws=[]->ws=[]
 | [],_,_=>rfl
 | [w],h,e=>absurd e (h w (by simp))
 | w::v::r,_,e=>absurd e (by show w++c::jn c (v::r)≠[];simp)
theorem AHE(i:Int):itx i≠[]:=by
 unfold itx
 split
 .simp
 .exact Ia _
theorem AKT(q:Rat):ftx q≠[]:=by
 unfold ftx
 split
 .exact AHE _
 .simp
theorem RT(q:Rat):32∉ftx q:=Mp (by decide) (fun z=>absurd z.1 (by decide)) (by decide) q
def Av(qs:List Rat):List (List Nat):=qs.map ftx
theorem Hj{qs:List Rat}(h:∀q∈qs,F30 q):∀t∈Av qs,t.length<=64:=fun t ht=>by
 obtain⟨q,hm,rfl⟩:=ATY.mp ht;have:=By (h q hm);omega
theorem VL{ts:List (List Nat)}(h:∀t∈ts,t.length<=64)(hn:ts.length<=1000):JoinOk (sx [32]) (ts.map sx)=true:=by
 have hf:=StrLaws.joinFits (sep:=sx [32]) (texts:=ts.map sx) (B:=64) (fun y hy=>by
  obtain⟨t,ht,rfl⟩:=ATY.mp hy;rw[Ay];exact h t ht) (by
  rw[ASt];show ts.length*64+ts.length*1<=_;omega)
 unfold JoinOk;rw[hf];rfl
def Vk:Sp:=fun vs H Q _=>∃a qs,vs=[.ref a]/\Rw H a qs/\qs.length<=100/\(∀q∈qs,F30 q)/\∀H',Am H H'->Q (.str (sx (jn 32 (Av qs)))) H'
theorem Ez:Al ["one","top","bottom"] ["one"] (Af Fj):=fsc
theorem Mv(F:Fun K "show_fraction" "show_fraction" Fj f fd)(T:Txt mg):BP P w K mg base CX0 1 f fd ["one"] Fb:=by
 refine F.okk Ez fun vs H Q E h=>?_;obtain⟨p,q,rfl,kp,hq,k⟩:=h;walk_at "c";(obtain⟨l1,l2⟩:=hq.log;have h1:=Hr hq.1;have h2:=Ej (k:=30) (by decide) hq.2);walk_at "i"
 have eb:itx (q.den:Int)=dgs q.den:=by
  unfold itx;rw[if_neg (by omega)];rfl
 refine⟨_,(Ac (pS 1 Ez.nd (ixT (pv 0) Ad))
   (Ac (pS 2 Ez.nd (ixT (pv 0) Ad))
   (Ac (BK (Ak Be (pv 2) Ad (Ar _))
    (Ae (Aj (AKl (RD (pv 1)))))
    Aq)
   (Ae (Aj (ABJ (RD (pv 1)) Ao (RD (pv 2)))))))),?_⟩
 refine⟨_,rfl,_,_,_,_,rfl,rfl,kp.sq,rfl,_,rfl,_,_,_,_,rfl,rfl,kp.sq,rfl,_,rfl,rfl,_,rfl,Hk (fun c=>?_) (fun c=>?_)⟩
 .walk_at "ay";refine⟨_,rfl,_,rfl,l1,?_⟩;rw[tos];exact k
 .walk_at "Y";refine⟨_,rfl,_,rfl,l1,_,rfl,?_,_,rfl,?_,_,rfl,_,rfl,l2,_,rfl,?_,?_⟩
  .rw[tos,Ay];omega
  .rw[tos,Ay];show _+1<=_;omega
  .rw[tos,tos,Ay,Ay,eb];show _+1+_<=_;omega
  .rw[tos,tos,eb,show(Str.ofString "/")=sx [47] from rfl,Bg,Bg,ATw];exact k
theorem VP:Al ["row"] ["row"] (Af IW):=fsc
theorem Vv(F:Fun K "show_row" "show_row" IW f fd)(T:Txt mg)(ar:Cal P w K mg base "show_fraction" 1 ["one"] Fb):BP P w K mg base CX0 2 f fd ["row"] Vk:=by
 refine F.okk VP fun vs H Q E h=>?_;obtain⟨a,qs,rfl,ra,hl,hq,k⟩:=h;walk_at "c";obtain⟨x,e,_⟩:=ra.there;refine⟨_,(Ae (Aj (Cp ATA AVH AVI Tf Ao (Aa (Ce (N':=["one"]) (fsc:=Af IW) (N:=["row"]) [] ⟨rfl,by decide +kernel,by decide +kernel,by decide +kernel,rfl,by decide +kernel,rfl,by decide +kernel⟩ (Bl (pv 0)) (fun _ _ _ _=>(Ai ar hr (Aa (pv 0) Ab)))) Ab)))),?_⟩;refine⟨rfl,_,rfl,a,rfl,⟨_,SqL.of e⟩,X8 (by omega) ra (fun q=>sx (ftx q)) ?_ fun H1 D s1 nD eD=>?_⟩
 .intro _ _ _ _ p q H1 R hm kp s1 fin;exact⟨_,rfl,p,q,rfl,kp,hq q hm,fin H1 (Am.refl _)⟩
 have em:(qs.map fun q=>sx (ftx q))=(Av qs).map sx:=by unfold Av;rw[List.map_map];rfl
 rw[em]at eD;have k1:=k H1 s1;rw[<-QS]at k1;exact⟨_,D,_,rfl,rfl,SqL.of eD,VL (fun t ht=>by
  obtain⟨q,hm,rfl⟩:=ATY.mp ht;have:=By (hq q hm);omega) (by unfold Av;rw[ASt];omega),k1⟩
theorem Qq:Al ["text"] ["text"] (Af FQ):=fsc
theorem RP(F:Fun K "are_figures" "are_figures" FQ f fd)(T:Txt mg):BP P w K mg base CX0 1 f fd ["text"] Wr:=by
 refine F.okk Qq fun vs H Q E h=>?_;obtain⟨l,rfl,ha,hl,q⟩:=h;walk_at "c";walk_at "d"
 refine⟨_,(Ac (BK (PW.pt (Dc (Ak Fy (Ax GR rfl T.z_len AS6 (Aa (pv 0) Ab)) Ad (Ar _)) (CV (Ak Gp (Ax GR rfl T.z_len AS6 (Aa (pv 0) Ab)) (JS rfl T.c_MOST_FIGURES) (Ar _)))))
    (Ae (Aj GF))
    Aq)
   (Ae (Aj (Ax (Qt rfl) rfl T.z_all boot_all (Aa (Ce (N':=["sign"]) (fsc:=Af FQ) (N:=["text"]) [] ⟨rfl,by decide +kernel,by decide +kernel,by decide +kernel,rfl,by decide +kernel,rfl,by decide +kernel⟩ (ADF (pv 0)) (fun _ _ _ _=>(Et SN (pv 0) (Wm rfl T.c_FIGURES) (by with_unfolding_all rfl)))) Ab))))),?_⟩
 unfold AD4 at q;refine⟨_,rfl,sx l,rfl,by rw[Ay];omega,_,_,rfl,rfl,_,rfl,Hk (fun c=>?_) (fun c=>?_)⟩
 .have c':((sx l).length:Int)<1:=of_decide_eq_true c;rw[Ay]at c';rw[if_pos (by omega)]at q;exact q H (Am.refl H)
 have c0:¬((sx l).length:Int)<1:=of_decide_eq_false (Bool.eq_false_iff.mpr c);rw[Ay]at c0;rw[if_neg (by omega)]at q;refine⟨_,rfl,sx l,rfl,by rw[Ay];omega,_,_,rfl,rfl,_,rfl,Hk (fun c=>?_) (fun c=>?_)⟩
 .have c':(30:Int)<((sx l).length:Int):=of_decide_eq_true c;rw[Ay]at c';rw[if_pos (by omega)]at q;exact q H (Am.refl H)
 have c1:¬(30:Int)<((sx l).length:Int):=of_decide_eq_false (Bool.eq_false_iff.mpr c);rw[Ay]at c1;rw[if_neg (by omega)]at q;refine⟨_,rfl,sx l,rfl,?_,QV (by omega) (fun c=>decide (c∈([48,49,50,51,52,53,54,55,56,57]:List Nat))) ?_ fun H1 D s1 nD eD=>?_⟩
 .rw[AWt];intro i hi;exact decide_eq_true (ha _ (by simp[sx]))
 .intro _ _ _ _ c H1 R hc s1 fin;refine⟨_,rfl,_,_,rfl,rfl,?_⟩;rw[show Str.ofString "0123456789"=sx [48,49,50,51,52,53,54,55,56,57] from rfl,ABv];exact fin
 .exact⟨D,_,rfl,SqL.of eD,q H1 s1⟩
theorem Mx:Al ["text"] ["text"] (Af Fo):=fsc
theorem NZ(F:Fun K "without_minus" "without_minus" Fo f fd)(T:Txt mg):BP P w K mg base CX0 1 f fd ["text"] Yu:=by
 refine F.okk Mx fun vs H Q E h=>?_;obtain⟨l,rfl,hl,q⟩:=h;walk_at "c";walk_at "d"
 refine⟨_,(Ac (BK (Cj (Cp ATA AVd AVe S9 (pv 0) (Aa Ao Ab)))
    (Ae (Aj (DX ADU (pv 0) (DR Ad) Ds)))
    Aq)
   (Ae (Aj (pv 0)))),?_⟩
 unfold ACF at q;refine⟨_,rfl,rfl,_,_,rfl,rfl,_,rfl,Hk (fun c=>?_) (fun c=>?_)⟩
 .rw[show Str.ofString "-"=sx [45] from rfl,K4]at c;have c':=of_decide_eq_true c;rw[if_pos c']at q;refine⟨_,rfl,_,rfl,_,rfl,by rw[Ay];omega,?_⟩;rw[X6 (fun z=>by rw[z]at c';simp at c')];exact q
 .rw[show Str.ofString "-"=sx [45] from rfl,K4]at c;have c':¬l[0]?=some 45:=fun z=>c (decide_eq_true z);rw[if_neg c']at q;exact⟨_,rfl,q⟩
noncomputable def cw:List Rat->List Rat->List (List Nat)
 | w::ws,g::gs=>(40::(ftx w++[41]))::ftx g::cw ws gs
 | _,_=>[]
def Bo(gs ws:List Rat):List (List Nat):=ftx (gs.getD 0 0)::cw ws (gs.drop 1)
theorem U9:∀{ws gs:List Rat} (w g:Rat),ws.length=gs.length->cw (ws++[w]) (gs++[g])=cw ws gs++[40::(ftx w++[41])]++[ftx g]
 | [],[],_,_,_=>rfl
 | a::ws,b::gs,w,g,h=>by
  show(40::(ftx a++[41]))::ftx b::cw (ws++[w]) (gs++[g])=_;rw[U9 w g (by simpa using h)];rfl
 | [],_::_,_,_,h=>by simp at h
 | _::_,[],_,_,h=>by simp at h
theorem Ub:∀{ws gs:List Rat},ws.length=gs.length->(cw ws gs).length=2*ws.length
 | [],[],_=>rfl
 | a::ws,b::gs,h=>by
  show(cw ws gs).length+1+1=2*(ws.length+1);rw[Ub (by simpa using h)];omega
 | [],_::_,h=>by simp at h
 | _::_,[],h=>by simp at h
theorem ADN:∀{ws gs:List Rat} {P:List Nat->Prop},(∀w∈ws,P (40::(ftx w++[41])))->(∀g∈gs,P (ftx g))->∀t∈cw ws gs,P t
 | [],_,_,_,_,t,h=>by cases h
 | _::_,[],_,_,_,t,h=>by cases h
 | w::ws,g::gs,P,h1,h2,t,h=>by
  rcases AS2.mp h with z|z
  .rw[z];exact h1 w (by simp)
  .rcases AS2.mp z with z|z
   .rw[z];exact h2 g (by simp)
   .exact ADN (fun q hq=>h1 q (by simp[hq])) (fun q hq=>h2 q (by simp[hq])) t z
structure C30(gs ws:List Rat):Prop where
 fine:Nz gs ws
 g30:∀q∈gs,F30 q
 w30:∀q∈ws,F30 q
theorem C30.mem{gs ws:List Rat}(h:C30 gs ws){P:List Nat->Prop}(h1:∀w∈ws,P (40::(ftx w++[41])))(h2:∀g∈gs,P (ftx g)):∀t∈Bo gs ws,P t:=fun t ht=>by
 have hl:=h.fine.len;rcases AS2.mp ht with z|z
 .rw[z,Po.getD_in (show 0<gs.length by omega)];exact h2 _ (List.getElem_mem _)
 .exact ADN h1 (fun g hg=>h2 g (AT7 hg)) t z
theorem C30.len{gs ws:List Rat}(h:C30 gs ws):∀t∈Bo gs ws,t.length<=64:=h.mem (fun w hw=>by
  have:=By (h.w30 w hw);rw[ASx,ASz];show _+1+1<=_;omega) fun g hg=>by have:=By (h.g30 g hg);omega
theorem C30.cnt{gs ws:List Rat}(h:C30 gs ws):(Bo gs ws).length=2*ws.length+1:=by
 have hl:=h.fine.len;show(cw ws (gs.drop 1)).length+1=_;rw[Ub (by rw[ATF];omega)]
theorem Vf:∀{ws gs:List Rat} (x:List Nat),ws.length=gs.length->L3.ev2 (x::cw ws gs)=x::gs.map ftx
 | [],[],_,_=>rfl
 | w::ws,g::gs,x,h=>by
  show x::L3.ev2 (ftx g::cw ws gs)=_;rw[Vf (ftx g) (by simpa using h)];rfl
 | [],_::_,_,h=>by simp at h
 | _::_,[],_,h=>by simp at h
def brx(q:Rat):List Nat:=40::(ftx q++[41])
theorem ZP:∀{ws gs:List Rat},ws.length=gs.length->L3.ev2 (cw ws gs)=ws.map brx
 | [],[],_=>rfl
 | w::ws,g::gs,h=>by
  show(40::(ftx w++[41]))::L3.ev2 (cw ws gs)=_;rw[ZP (by simpa using h)];rfl
 | [],_::_,h=>by simp at h
 | _::_,[],h=>by simp at h
def Qn(C:Addr):Sp:=fun vs H Q _=>∃c ga wa gs ws,vs=[.ref c]/\Co C H c ga wa gs ws/\C30 gs ws/\∀H',Am H H'->Q (.str (sx (jn 32 (Bo gs ws)))) H'
theorem Ep:Al ["cord","gaps","words","weight","gap"] ["cord"] (Af JP):=fsc
theorem Uo(F:Fun K "show_cord" "show_cord" JP f fd)(T:Txt mg)(ar:Cal P w K mg base "show_fraction" 1 ["one"] Fb)(ap:Fg P w K mg base af "gaps" 1 ["self"] (Ii af))(aj:Fg P w K mg base af "weights" 1 ["self"] (Ec af)):BP P w K mg base CX0 2 f fd ["cord"] (Qn af):=by
 refine F.okk Ep fun vs H Q E h=>?_;obtain⟨c,ga,wa,gs,ws,rfl,co,c30,k⟩:=h;walk_at "c";(have aB:=c30.fine.len;have aC:=c30.fine.most);walk_at "i"
 obtain⟨dx,ec⟩:=co.1;have h0:0<gs.length:=by omega
 refine⟨_,(Ac (pS 1 Ep.nd (GC ap hr (pv 0)))
   (Ac (pS 2 Ep.nd (DQ (Aa (Ai ar hr (Aa (ixL (pv 1) Ad) Ab)) Ab)))
   (Ac (Do ATI rfl (QK rfl T.z_zip (Aa (GC aj hr (pv 0)) (Aa (DX FW (pv 1) (DR Ad) Ds) Ab))) (JV rfl (Bk (gN 3 Ep.nd) (Bk (gN 4 Ep.nd) Ga)))
    (Ac (Ca (Cp ATL ATN ATO Cw (pv 2) (Aa (An BJ (An BJ Ao (Ai ar hr (Aa (pv 3) Ab))) Ao) Ab)))
    (Ae (Ca (Cp ATL ATN ATO Cw (pv 2) (Aa (Ai ar hr (Aa (pv 4) Ab)) Ab))))))
   (Ae (Aj (Cp ATA AVH AVI Tf Ao (Aa (pv 2) Ab))))))),?_⟩
 refine⟨_,rfl,c,dx,_,rfl,ec,rfl,c,ga,wa,gs,ws,rfl,co,fun g1 H1 s1 n1 jY=>?_⟩;obtain⟨pg,eg,kg⟩:=id jY;have ri:=kg.length;obtain⟨p0,e0,k0⟩:=kg.get (Io h0);refine⟨_,rfl,g1,_,_,_,rfl,rfl,SqL.of eg,Dh (j:=0) e0,p0,_,rfl,k0,c30.g30 _ (List.getElem_mem h0),(by show 1<=sizeLine;decide),fun D hD=>?_⟩;have u2:=Ah hD (.lst [.str (sx (ftx gs[0]))]);have s2:=s1.trans u2;have iM:upd H1 D (.lst [.str (sx (ftx gs[0]))]) D=some (.lst (([ftx gs[0]].map sx).map V.str)):=Ag;have jZ:=u2 _ _ eg;have j2:=kg.keep u2;generalize upd H1 D (.lst [.str (sx (ftx gs[0]))])=H2 at *;refine⟨_,rfl,c,dx,_,rfl,s2 _ _ ec,rfl,c,ga,wa,gs,ws,rfl,co.keep s2,fun w1 H3 s3 n3 lF=>?_⟩;have di:=s2.trans s3;have oJ:=s3 _ _ jZ;have oK:=j2.keep s3;have i8:=s3 _ _ iM;obtain⟨pw,oM,lG⟩:=id lF;have oN:=lG.length;refine⟨_,rfl,_,rfl,g1,_,rfl,SqL.of oJ,fun l hl=>?_⟩;have u4:=Ah hl (.lst (DP (pg.map V.ref) (some 1) none));have oO:upd H3 l (.lst (DP (pg.map V.ref) (some 1) none)) l=some (.lst ((pg.drop 1).map V.ref)):=by
  rw[Ag];exact congrArg (fun z=>some (HO.lst z)) (Hl V.ref pg 1)
 have rj:=(oK.drop 1).keep u4;have oP:=u4 _ _ oM;have rk:=lG.keep u4;have oQ:=u4 _ _ i8;have gP:=di.trans u4;have gY:H D=none:=s1.free hD;have nw:w1≠D:=AVT (BL iM n3);have nl:l≠D:=AVT (BL i8 hl);clear oJ oK oM lG i8 u4 hl di s3 jZ j2 iM u2 eg kg;generalize upd H3 l (.lst (DP (pg.map V.ref) (some 1) none))=H4 at *;have rm:(pg.drop 1).length=ws.length:=by rw[ATF];omega
 have iN:(gs.drop 1).length=ws.length:=by rw[ATF];omega
 refine⟨w1,l,rfl,⟨_,SqL.of oP⟩,⟨_,SqL.of oO⟩,?_⟩;refine Tt (xs:=pw.map V.ref) (ys:=(pg.drop 1).map V.ref) ws.length (by rw[ASt,ASt];omega) (fun i σ H'=>(∃v u,σ=[some (.ref c),some (.ref g1),some (.ref D),v,u])/\Am H H'/\(∀b o,b≠D->H4 b=some o->H' b=some o)/\H' D=some (.lst (((ftx gs[0]::cw (ws.take i) ((gs.drop 1).take i)).map sx).map V.str))) ⟨⟨_,_,rfl⟩,gP,fun _ _ _ e=>e,oQ⟩ ?_ ?_ ?_
 .rintro i σ H5 _ ⟨_,sm,kp,eD⟩;exact⟨SqL.of (kp _ _ nw oP),SqL.of (kp _ _ nl oO)⟩
 .rintro i x y σ H5 T0 hx hy ⟨⟨v,u,rfl⟩,fK,fT,lH⟩ hT;have hi:i<ws.length:=by
   have h:=(AS7.mp hx).1;rw[ASt]at h;omega
  have hi2:i<(gs.drop 1).length:=by omega
  have kq:∀{p:Addr} {q:Rat},Pq H4 p q->Pq H5 p q:=fun {p q} h=>fT _ _ (fun z=>by
   rw[z]at h;have h':H4 D=some (.tup [.int q.num,.int q.den]):=h;rw[oQ]at h';cases h') h
  obtain⟨p1,e1,k1⟩:=rk.get (Io hi);obtain rfl:x=.ref p1:=AS5 (hx.symm.trans e1);obtain⟨p2,e2,k2⟩:=rj.get (Io hi2);obtain rfl:y=.ref p2:=AS5 (hy.symm.trans e2);have f1:=c30.w30 _ (List.getElem_mem hi);have f2:F30 (gs.drop 1)[i]:=c30.g30 _ (AT7 (List.getElem_mem hi2));have l1:=By f1;refine⟨T0,_,rfl,SqT.of Ag,rfl,_,_,rfl,_,_,rfl,rfl,?_⟩;have sT:=Ah hT (.tup [.ref p1,.ref p2]);have k1':=(kq k1).keep sT;have k2':=(kq k2).keep sT;have gZ:=sT _ _ lH;have sm:=fK.trans sT;have ro:∀b o,b≠D->H4 b=some o->upd H5 T0 (.tup [.ref p1,.ref p2]) b=some o:=fun b o n e=>sT _ _ (fT b o n e);generalize upd H5 T0 (.tup [.ref p1,.ref p2])=H6 at *;have lc:(cw (ws.take i) ((gs.drop 1).take i)).length=2*i:=by
   rw[Ub (by rw[AS8,AS8];omega),AS8];omega
  have lI:Str.ofString "("++sx (ftx ws[i])++Str.ofString ")"=sx (40::(ftx ws[i]++[41])):=by
   (rw[show Str.ofString "("=sx [40] from rfl,show Str.ofString ")"=sx [41] from rfl,Bg,Bg]);rfl
  refine⟨_,rfl,.inl ⟨rfl,_,SqL.of gZ⟩,_,rfl,p1,_,rfl,k1',f1,_,_,rfl,rfl,?_,_,_,rfl,rfl,?_,D,_,_,rfl,rfl,gZ,?_,?_⟩
  .rw[Ay];show 1+_<=_;omega
  .rw[EY,Ay];show 1+_+1<=_;omega
  .rw[ASt,ASt,ASx];omega
  rw[lI];have k2'':Pq (upd H6 D (.lst (((ftx gs[0]::cw (ws.take i) ((gs.drop 1).take i)).map sx).map V.str++[.str (sx (40::(ftx ws[i]++[41])))]))) p2 (gs.drop 1)[i]:=k2'.updL gZ;refine⟨_,rfl,.inl ⟨rfl,_,SqL.of Ag⟩,_,rfl,p2,_,rfl,k2'',f2,D,_,_,rfl,rfl,Ag,?_,⟨_,_,rfl⟩,Bd (Bd sm gY _) gY _,fun b o n e=>?_,?_⟩
  .rw[ASz,ASt,ASt,ASx];show _+1<_;omega
  .rw[Az n,Az n];exact ro b o n e
  .rw[Ag,ATa hi,ATa hi2,U9 _ _ (by rw[AS8,AS8];omega)];simp
 .rintro σ H5 ⟨⟨v,u,rfl⟩,sm,kp,eD⟩;rw[ATK,show(gs.drop 1).take ws.length=gs.drop 1 by rw[<-iN,ATK]]at eD;have e0':(ftx gs[0]::cw ws (gs.drop 1))=Bo gs ws:=by
   unfold Bo;rw[Po.getD_in h0]
  rw[e0']at eD;have k1:=k H5 sm;rw[<-QS]at k1;exact⟨rfl,_,rfl,_,D,_,rfl,rfl,SqL.of eD,VL c30.len (by rw[c30.cnt];omega),k1⟩
def JH:Sp:=fun vs H Q _=>∃x,vs=[.str x]/\Q .non H
theorem Rv:Al ["thing"] ["thing"] (Af Ij):=fsc
theorem RX(F:Fun K "check_text" "check_text" Ij f fd)(T:Txt mg):BP P w K mg base CX0 1 f fd ["thing"] JH:=by
 refine F.okk Rv fun vs H Q E h=>?_;obtain⟨x,rfl,q⟩:=h;refine⟨rfl,fun cdv A outer s hr=>?_⟩;refine⟨_,(Ae (BK (Ck (Cj (Ax Jr rfl T.z_isinstance boot_isinstance (Aa (pv 0) (Aa (Ma (v:=.ty "str") rfl T.z_str boot_str rfl) Ab)))))
    (Ae BR)
    Aq)),?_⟩
 exact⟨_,rfl,_,_,_,_,rfl,Gz.str _,Vo _,_,rfl,FZ q⟩
def ABH:Sp:=fun vs H Q _=>∃l,vs=[.str (sx (40::(l++[41])))]/\l.length<=10000/\Q (.str (sx l)) H
theorem K9:Al ["word"] ["word"] (Af Eo):=fsc
theorem Ko(F:Fun K "within_brackets" "within_brackets" Eo f fd)(T:Txt mg):BP P w K mg base CX0 1 f fd ["word"] ABH:=by
 refine F.okk K9 fun vs H Q E h=>?_;obtain⟨l,rfl,hl,q⟩:=h;walk_at "c";walk_at "d"
 have e1:Txt.startswith (sx (40::(l++[41]))) (Str.ofString "(")=true:=by
  rw[show Str.ofString "("=sx [40] from rfl,K4];rfl
 have e2:Txt.endswith (sx (40::(l++[41]))) (Str.ofString ")")=true:=by
  rw[show Str.ofString ")"=sx [41] from rfl];exact Z9 (40::l) 41
 refine⟨_,(Ac (BK (PW.pt (Dc (Ck (Cj (Cp ATA AVd AVe S9 (pv 0) (Aa Ao Ab)))) (CV (Ck (Cj (Cp ATA PySem.F.slot_str_endswith PySem.F.type_str_endswith AEm (pv 0) (Aa Ao Ab)))))))
    (Ae BR)
    Aq)
   (Ae (Aj (DX ADU (pv 0) (DR Ad) (DR (JM Gi Ad)))))),?_⟩
 refine⟨_,rfl,rfl,_,_,rfl,rfl,?_⟩;rw[e1];refine⟨_,rfl,FZ ⟨_,rfl,rfl,_,_,rfl,rfl,?_⟩⟩;rw[e2];refine⟨_,rfl,FZ ⟨_,rfl,_,rfl,_,rfl,_,rfl,_,rfl,?_,?_⟩⟩
 .rw[Ay,ASx,ASz];show _+1+1<=_;omega
 .rw[Z8];exact q
def JR:Sp:=fun vs H Q _=>∃q,vs=[.str (sx (ftx q))]/\F30 q/\∀p H',Am H H'->Pq H' p q->Q (.ref p) H'
theorem Cr:Al ["text","parts","top","bottom","one"] ["text"] (Af Fv):=fsc
theorem Nb(F:Fun K "read_fraction" "read_fraction" Fv f fd)(T:Txt mg)(ax:Cal P w K mg base "check_text" 1 ["thing"] JH)(bH:Cal P w K mg base "are_figures" 1 ["text"] Wr)(bK:Cal P w K mg base "without_minus" 1 ["text"] Yu)(aE:Cal P w K mg base "is_fraction" 2 ["thing"] O6)(ar:Cal P w K mg base "show_fraction" 1 ["one"] Fb):BP P w K mg base CX0 3 f fd ["text"] JR:=by
 refine F.okk Cr fun vs H Q E h=>?_;obtain⟨q,rfl,hq,k⟩:=h;walk_at "c";walk_at "i"
 have l0:=By hq;have l1:=Hr hq.1;refine⟨_,(Ac (Ca (Ai ax hr (Aa (pv 0) Ab)))
   (Ac (pS 1 Cr.nd (Cp ATA AUr AUs U8 (pv 0) (Aa Ao Ab)))
   (Ac (pS 2 Cr.nd (ixT (pv 1) Ad))
   (Ac (pS 3 Cr.nd (QC (Ak Be (ixT (pv 1) Ad) Ao (Ar _)) (ixT (pv 1) Ad) Ao))
   (Ac (BK (PW.pt (Dc (Ck (Cj (Ai bH hr (Aa (Ai bK hr (Aa (pv 2) Ab)) Ab)))) (CV (Ck (Cj (Ai bH hr (Aa (pv 3) Ab)))))))
    (Ae BR)
    Aq)
   (Ac (pS 4 Cr.nd (Bb (Aa (Ba DG rfl T.z_int boot_int (Aa (pv 2) Ab)) (Aa (Ba DG rfl T.z_int boot_int (Aa (pv 3) Ab)) Ab))))
   (Ac (BK (PW.pt (Dc (Ck (Cj (Ai aE hr (Aa (pv 4) Ab)))) (CV (Ak GD (Ai ar hr (Aa (pv 4) Ab)) (pv 0) (Ar _)))))
    (Ae BR)
    Aq)
   (Ae (Aj (pv 4)))))))))),?_⟩
 refine⟨_,rfl,_,rfl,_,rfl,rfl,_,_,rfl,rfl,(by decide),by rw[Ay];omega,fun p hp=>?_⟩;have s1:=Ah hp (.tup ((Cz (sx (ftx q)) (Str.ofString "/")).map V.str));have e1:upd H p (.tup ((Cz (sx (ftx q)) (Str.ofString "/")).map V.str)) p=some (.tup ((Cz (sx (ftx q)) (sx [47])).map V.str)):=Ag;generalize upd H p (.tup ((Cz (sx (ftx q)) (Str.ofString "/")).map V.str))=H1 at *;have e0:∃x y,H1 p=some (.tup [.str (sx (itx q.num)),.str x,.str y])/\((q.den=1/\x=Str.empty)\/(x=sx [47]/\y=sx (dgs q.den))):=by
  rcases TF q with⟨d,e⟩|⟨d,e⟩
  .rw[e]at e1;exact⟨_,_,e1,.inl ⟨d,rfl⟩⟩
  .rw[e]at e1;exact⟨_,_,e1,.inr ⟨rfl,rfl⟩⟩
 obtain⟨x,y,e2,hxy⟩:=e0;refine⟨_,rfl,p,_,_,_,rfl,rfl,SqT.of e2,rfl,?_⟩;refine⟨_,rfl,p,_,_,_,rfl,rfl,SqT.of e2,rfl,rfl,_,rfl,?_⟩;have JC:(sx (dgs q.den))=(if x=sx [47] then y else Str.ofString "1"):=by
  rcases hxy with⟨d,h⟩|⟨h,h'⟩
  .rw[if_neg (by rw[h];intro z;exact absurd (congrArg (fun a:Str=>a.cps.size) z) (by decide)),d];rfl
  .rw[if_pos h,h']
 refine ALf (V.str (sx (dgs q.den))) (fun c fin=>?_) (fun c fin=>?_) ?_
 .have c':x=sx [47]:=V.str.inj (of_decide_eq_true c);rw[if_pos c']at JC;rw[<-JC]at e2;refine⟨_,rfl,p,_,_,_,rfl,rfl,SqT.of e2,rfl,?_⟩;exact fin
 .have c':¬x=sx [47]:=fun z=>of_decide_eq_false (Bool.eq_false_iff.mpr c) (congrArg V.str z);rw[if_neg c']at JC;rw[<-JC];exact fin
 have hw:=ACs q.num;have g1:=Ej (k:=30) (by decide) hq.1;have g2:=Ej (k:=30) (by decide) hq.2;refine⟨_,rfl,itx q.num,rfl,by omega,ACF (itx q.num),rfl,by rw[hw];exact fun c=>Y6,by rw[hw];omega,fun H2 s2=>?_⟩;rw[hw,Ym hq.1];refine⟨_,rfl,FZ ⟨_,rfl,dgs q.den,rfl,fun c=>Y6,by omega,fun H3 s3=>?_⟩⟩;rw[Ym hq.2];refine⟨_,rfl,FZ ⟨_,rfl,sx (itx q.num),decide (q.num<0),dgs q.num.natAbs,rfl,Ia _,FJ _,by omega,Lq _,_,rfl,sx (dgs q.den),false,dgs q.den,rfl,Ia _,FJ _,by omega,rfl,(by show 2<=sizeLine;decide),fun o ho=>?_⟩⟩;rw[MP,if_neg (by decide),Tw];have s4:=Ah ho (.tup [.int q.num,.int (q.den:Int)]);have kq:Pq (upd H3 o (.tup [.int q.num,.int (q.den:Int)])) o q:=Ag;exact⟨_,rfl,o,q,rfl,kq,_,rfl,FZ ⟨_,rfl,o,q,rfl,kq,hq,_,rfl,rfl,_,rfl,Fx rfl ⟨_,rfl,k o _ (s1.trans (s2.trans (s3.trans s4))) kq⟩⟩⟩
def Wx:Sp:=fun vs H Q _=>∃qs,vs=[.str (sx (jn 32 (Av qs)))]/\qs.length<=100/\(∀q∈qs,F30 q)/\∀r H',Am H H'->H r=none->Rw H' r qs->Q (.ref r) H'
theorem Wd:Al ["text"] ["text"] (Af Il):=fsc
theorem WN(F:Fun K "read_row" "read_row" Il f fd)(T:Txt mg)(ax:Cal P w K mg base "check_text" 1 ["thing"] JH)(ao:Cal P w K mg base "read_fraction" 3 ["text"] JR):BP P w K mg base CX0 4 f fd ["text"] Wx:=by
 refine F.okk Wd fun vs H Q E h=>?_;obtain⟨qs,rfl,hl,hq,k⟩:=h;walk_at "c";walk_at "d"
 have lw:(Av qs).length=qs.length:=ASt _;have l0:=Kg (c:=32) (Hj hq);refine⟨_,(Ac (Ca (Ai ax hr (Aa (pv 0) Ab)))
   (Ac (BK (Ak Be (pv 0) Ao (Ar _))
    (Ae (Aj (DQ Ab)))
    Aq)
   (Ae (Aj (Ce (N':=["word"]) (fsc:=Af Il) (N:=["text"]) [] ⟨rfl,by decide +kernel,by decide +kernel,by decide +kernel,rfl,by decide +kernel,rfl,by decide +kernel⟩ (Bl (Cp ATA ATc ATd Fi (pv 0) (Aa Ao Ab))) (fun _ _ _ _=>(Ai ao hr (Aa (pv 0) Ab)))))))),?_⟩
 refine⟨_,rfl,_,rfl,_,rfl,rfl,_,rfl,Hk (fun c=>?_) (fun c=>?_)⟩
 .have c':sx (jn 32 (Av qs))=sx []:=V.str.inj (of_decide_eq_true c);have e:=AKA (fun w hw=>by
   obtain⟨q,_,rfl⟩:=ATY.mp hw;exact AKT q) (Uv c')
  have e':qs=[]:=AVZ.mp e;subst e';exact⟨(by show 0<=sizeLine;decide),fun D hD=>k D _ (Ah hD _) hD ⟨[],Ag,.nil⟩⟩
 .have ne:Av qs≠[]:=fun z=>c (decide_eq_true (by rw[z];rfl));have es:Txt.split (sx (jn 32 (Av qs))) (Str.ofString " ")=qs.map fun q=>sx (ftx q):=by
   rw[show Str.ofString " "=sx [32] from rfl,Hh (fun w hw=>by
    obtain⟨q,_,rfl⟩:=ATY.mp hw;exact RT q) ne]
   unfold Av;rw[List.map_map];rfl
  refine⟨_,rfl,rfl,_,_,rfl,rfl,(by decide),by rw[Ay];omega,by rw[es,ASt];omega,fun D hD=>?_⟩;rw[es];have s1:=Ah hD (.lst ((qs.map fun q=>sx (ftx q)).map V.str));refine⟨D,rfl,⟨_,SqL.of Ag⟩,Dk (by omega) (fun q=>sx (ftx q)) Ag ?_ fun H2 D2 s2 n2 r2=>?_⟩
  .intro _ _ _ _ q H2 R hm s2 fin;exact⟨_,rfl,q,rfl,hq q hm,fin⟩
  .exact k D2 H2 (s1.trans s2) (s1.free n2) r2
def AMp(C:Addr):Sp:=fun vs H Q _=>∃gs ws,vs=[.str (sx (jn 32 (Bo gs ws)))]/\C30 gs ws/\∀c ga wa H',Am H H'->Co C H' c ga wa gs ws->Q (.ref c) H'
open PySem.Builtin PySem.Builtin.Str in
theorem at3{a b:List Nat}(ha:59∉a)(hb:59∉b)(i:Nat):StrLaws.At (sx (a++32::59::32::b)) (sx [32,59,32]) (sx (a++32::59::32::b)).length i ↔ i=a.length:=by
 unfold StrLaws.At;rw[StrLaws.subAt_eq,GZ,GZ,Ay,Ay];constructor
 .rintro⟨h1,h2⟩;have e:((a++32::59::32::b).drop i).take 3=[32,59,32]:=by simpa using h2
  have e1:(a++32::59::32::b)[i+1]?=some 59:=by
   have:=congrArg (fun l=>l[1]?) e;simp only[AWj,AUL]at this;simpa using this
  by_cases h:i+1<a.length
  .rw[ATi h]at e1;exact absurd (ATp e1) ha
  .rw[ATD (by omega)]at e1
   match k:i+1-a.length,e1 with
   | 0,e1=>cases e1
   | 1,_=>omega
   | 2,e1=>cases e1
   | j+3,e1=>exact absurd (ATp (show b[j]?=some 59 from e1)) hb
 .rintro rfl;refine⟨by rw[ASz];show a.length+3<=a.length+(b.length+3);omega,?_⟩;rw[List.drop_left']
  .simp
  .rfl
theorem AJw{a b:List Nat}(ha:59∉a)(hb:59∉b):Txt.split (sx (a++32::59::32::b)) (sx [32,59,32])=[sx a,sx b]:=by
 have hl:(sx (a++32::59::32::b)).length=a.length+(b.length+3):=by rw[Ay,ASz];rfl
 have hs:(sx [32,59,32]).length=3:=rfl;have rz:PySem.Builtin.Str.occurrences (sx (a++32::59::32::b)) (sx [32,59,32]) 0 (sx (a++32::59::32::b)).length ((sx (a++32::59::32::b)).length+1)=[a.length]:=by
  rcases AV8 (sx (a++32::59::32::b)) (sx [32,59,32]) ((sx (a++32::59::32::b)).length+1) (by omega) with⟨_,h⟩|⟨i,r,e,hi,_⟩
  .exact absurd ((at3 ha hb _).mpr rfl) (h a.length)
  .obtain rfl:=(at3 ha hb i).mp hi;obtain⟨f,ch⟩:=StrLaws.occ_chain (sx (a++32::59::32::b)) (sx [32,59,32]) ((sx (a++32::59::32::b)).length+1);rw[e]at ch ⊢;cases r with
   | nil=>rfl
   | cons j r =>
    obtain⟨_,_,h1,h2,_⟩:=ch;have:=(at3 ha hb j).mp h2;rw[hs]at h1;omega
 unfold Txt.split;rw[if_neg,rz,if_neg (by simp),AUX]
 .show [_,_]=_;refine congr (congrArg List.cons ?_) (congrArg (fun x=>[x]) ?_)
  .refine AWf ?_;have:=StrLaws.strSub_toList (sx (a++32::59::32::b)) 0 a.length;rw[GZ,AUB,AWM,AWL rfl]at this;exact Array.toList_inj.mp this
  .refine AWf ?_;have:=StrLaws.strSub_toList (sx (a++32::59::32::b)) (a.length+3) (sx (a++32::59::32::b)).length;rw[GZ,hl]at this;have e:((a++32::59::32::b).drop (a.length+3)).take (a.length+(b.length+3)-(a.length+3))=b:=by
    rw[List.drop_append,List.drop_of_length_le (by omega),List.nil_append,show a.length+3-a.length=3 by omega];show(b.take _)=b;exact ATb (by omega)
   rw[e]at this;rw[hl];exact Array.toList_inj.mp this
 .intro z;rw[Bool.or_eq_true]at z;rcases z with z|z
  .have:=of_decide_eq_true z;rw[hl,hs]at this;omega
  .have:=of_decide_eq_true z;have k:PySem.Builtin.Str.strKind (sx [32,59,32])=1:=by decide +kernel
   have p:=strKind_pos (sx (a++32::59::32::b));rw[k]at this;omega
def Nm(l:List Nat):Prop:=(1<=l.length/\l.length<=8)/\∀c∈l,c∈(List.range 26).map (97+·)
inductive Tg where
 | txt (l:List Nat)
 | cord (gs ws:List Rat)
 | frac (q:Rat)
 | whl (k:Int)
 | wrd (l:List Nat)
 | hlv (n:Nat)
 | pols (U L:List Rat)
def TgD(C:Addr)(D:Addr)(H:Hp)(v:V):Tg->Prop
 | .txt l=>v=.str (sx l)
 | .cord gs ws=>∃c ga wa,v=.ref c/\Co C H c ga wa gs ws/\ga≠D/\wa≠D
 | .frac q=>∃p,v=.ref p/\Pq H p q
 | .whl k=>v=.int k
 | .wrd l=>v=.str (sx l)
 | .hlv n=>v=.int n
 | .pols U L=>∃D' u l,v=.ref D'/\H D'=some (.lst [.ref u,.ref l])/\Rw H u U/\Rw H l L/\D'≠D/\u≠D/\l≠D
theorem TgD.keep{C D:Addr}{H H':Hp}{v:V}{x:Tg}(h:TgD C D H v x)(s:Am H H'):TgD C D H' v x:=by
 cases x with
 | txt l=>exact h
 | cord gs ws =>
  obtain⟨c,ga,wa,e,co,n1,n2⟩:=h;exact⟨c,ga,wa,e,co.keep s,n1,n2⟩
 | frac q =>
  obtain⟨p,e,k⟩:=h;exact⟨p,e,k.keep s⟩
 | whl k=>exact h
 | wrd l=>exact h
 | hlv n=>exact h
 | pols U L =>
  obtain⟨D',u,l,e,ed,r1,r2,n0,n1,n2⟩:=h;exact⟨D',u,l,e,s _ _ ed,r1.keep s,r2.keep s,n0,n1,n2⟩
theorem TgD.put{C D:Addr}{H:Hp}{v:V}{x:Tg}{xs zs:List V}(h:TgD C D H v x)(e:H D=some (.lst xs)):TgD C D (upd H D (.lst zs)) v x:=by
 cases x with
 | txt l=>exact h
 | cord gs ws =>
  obtain⟨c,ga,wa,ev,⟨⟨dx,ec⟩,r1,r2⟩,n1,n2⟩:=h;refine⟨c,ga,wa,ev,⟨⟨dx,?_⟩,r1.updO e n1,r2.updO e n2⟩,n1,n2⟩;rw[Az (fun z=>by rw[z,e]at ec;cases ec)];exact ec
 | frac q =>
  obtain⟨p,ev,k⟩:=h;refine⟨p,ev,?_⟩;show upd H D (.lst zs) p=_;rw[Az (fun z=>by
   have k':H p=_:=k;rw[z,e]at k';cases k')]
  exact k
 | whl k=>exact h
 | wrd l=>exact h
 | hlv n=>exact h
 | pols U L =>
  obtain⟨D',u,l,ev,ed,r1,r2,n0,n1,n2⟩:=h;refine⟨D',u,l,ev,?_,r1.updO e n1,r2.updO e n2,n0,n1,n2⟩;rw[Az n0];exact ed
noncomputable def whs:List (List Nat):=[[104,101,108,100],[108,111,111,115,101],[110,101,97,114],[102,114,101,101]]
def Wg:List (List Nat):=[[104,101,108,100],[108,111,111,115,101]]
theorem AEO:whs.map sx=[("held":Str),"loose","near","free"]:=by decide +kernel
theorem ABq:Wg.map sx=[("held":Str),"loose"]:=by decide +kernel
def ptx(U L:List Rat):List Nat:=jn 32 (Av U)++32::59::32::jn 32 (Av L)
def RdT(k:Str)(l:List Nat):Tg->Prop
 | .txt m=>(k="new"\/k="name")/\l=m/\Nm m
 | .cord gs ws=>k="cord"/\l=jn 32 (Bo gs ws)/\C30 gs ws
 | .frac q=>k="fraction"/\l=ftx q/\F30 q
 | .whl i=>k="whole"/\l=ftx (i:Rat)/\F30 (i:Rat)
 | .wrd m=>((k="end"/\m∈Wg)\/(k="which"/\m∈whs))/\l=m
 | .hlv n=>k="halvings"/\l=ftx ((n:Int):Rat)/\n<=60
 | .pols U L=>k="two polys"/\l=ptx U L/\(U≠[]/\U.length<=20/\Po.strip U=U/\∀q∈U,F30 q)/\(L≠[]/\L.length<=20/\Po.strip L=L/\∀q∈L,F30 q)
def Vd:Sp:=fun vs H Q _=>∃l,vs=[.str (sx l)]/\Nm l/\∀H',Am H H'->Q (.str (sx l)) H'
def Nh:Sp:=fun vs H Q _=>∃i:Int,vs=[.str (sx (ftx (i:Rat)))]/\F30 (i:Rat)/\∀H',Am H H'->Q (.int i) H'
def NP(C:Addr):Sp:=fun vs H Q _=>∃gs ws,vs=[.str (sx (jn 32 (Bo gs ws)))]/\C30 gs ws/\∀c ga wa H',Am H H'->H ga=none->H wa=none->Co C H' c ga wa gs ws->Q (.ref c) H'
def Nq(C:Addr):Sp:=fun vs H Q _=>∃k l x,vs=[.str k,.str (sx l)]/\RdT k l x/\∀v H',Am H H'->(∀D,H D≠none->TgD C D H' v x)->Q v H'
theorem sne{a b:Str}{A B:Prop}(h:a≠b)(k:B):if decide (V.str a=V.str b)=true then A else B:=Cd (fun z=>h (V.str.inj z)) k
theorem Hw{a b:Str}{A B:Prop}(h:a=b)(k:A):if decide (V.str a=V.str b)=true then A else B:=Oo (by rw[h]) k
theorem Td:Al ["text"] ["text"] (Af G8):=fsc
theorem Uk(F:Fun K "read_name" "read_name" G8 f fd)(T:Txt mg):BP P w K mg base CX0 1 f fd ["text"] Vd:=by
 refine F.okk Td fun vs H Q E h=>?_;obtain⟨l,rfl,⟨⟨h1,h8⟩,hm⟩,q⟩:=h;walk_at "c";walk_at "d"
 have lt:∀c∈l,c<128:=fun c hc=>by
  obtain⟨i,hi,rfl⟩:=ATY.mp (hm c hc);have:=AUw.mp hi;show 97+i<128;omega
 refine⟨_,(Ac (BK (PW.pt (Dc (Ak Fy (Ax GR rfl T.z_len AS6 (Aa (pv 0) Ab)) Ad (Ar _)) (Dc (Ak Gp (Ax GR rfl T.z_len AS6 (Aa (pv 0) Ab)) (JS rfl T.c_LONGEST_NAME) (Ar _)) (CV (Ck (Cj (Ax (Qt rfl) rfl T.z_all boot_all (Aa (Ce (N':=["sign"]) (fsc:=Af G8) (N:=["text"]) [] ⟨rfl,by decide +kernel,by decide +kernel,by decide +kernel,rfl,by decide +kernel,rfl,by decide +kernel⟩ (ADF (pv 0)) (fun _ _ _ _=>(Et SN (pv 0) (Wm rfl T.c_LETTERS) (by with_unfolding_all rfl)))) Ab))))))))
    (Ae BR)
    Aq)
   (Ae (Aj (pv 0)))),?_⟩
 refine⟨_,rfl,sx l,rfl,by rw[Ay];omega,_,_,rfl,rfl,_,rfl,Cd (by rw[Ay];omega) ?_⟩;refine⟨_,rfl,sx l,rfl,by rw[Ay];omega,_,_,rfl,rfl,_,rfl,Cd (by rw[Ay];omega) ?_⟩;refine⟨_,rfl,sx l,rfl,?_,QV (by omega) (fun c=>decide (c∈(List.range 26).map (97+·))) ?_ fun H1 D s1 nD eD=>?_⟩
 .rw[AWt];intro i hi;exact decide_eq_true (lt _ (by simp[sx]))
 .intro _ _ _ _ c H1 R hc s1 fin;refine⟨_,rfl,_,_,rfl,rfl,?_⟩;rw[show Str.ofString "abcdefghijklmnopqrstuvwxyz"=sx ((List.range 26).map (97+·)) from rfl,ABv];exact fin
 .refine⟨D,_,rfl,SqL.of eD,_,rfl,?_⟩;have e:(l.map fun c=>decide (c∈(List.range 26).map (97+·))).all id=true:=by
   rw[AWz];exact AUd.mpr fun c hc=>decide_eq_true (hm c hc)
  rw[e];exact FZ ⟨_,rfl,q H1 s1⟩
theorem KR:Al ["text","one"] ["text"] (Af Ih):=fsc
theorem Ri(F:Fun K "read_whole" "read_whole" Ih f fd)(T:Txt mg)(ao:Cal P w K mg base "read_fraction" 3 ["text"] JR):BP P w K mg base CX0 4 f fd ["text"] Nh:=by
 refine F.okk KR fun vs H Q E h=>?_;obtain⟨i,rfl,h30,q⟩:=h;refine⟨rfl,fun cdv A outer s hr=>?_⟩;refine⟨_,(Ac (pS 1 KR.nd (Ai ao hr (Aa (pv 0) Ab)))
   (Ac (BK (Ak GD (ixT (pv 1) Ad) Ad (Ar _))
    (Ae BR)
    Aq)
   (Ae (Aj (ixT (pv 1) Ad))))),?_⟩
 refine⟨_,rfl,(i:Rat),rfl,h30,fun p H1 s1 k1=>?_⟩;refine⟨_,rfl,_,_,_,_,rfl,rfl,k1.sq,rfl,rfl,_,rfl,Fx rfl ?_⟩;exact⟨_,rfl,_,_,_,_,rfl,rfl,k1.sq,rfl,q H1 s1⟩
def VR:Sp:=fun vs H Q _=>∃n:Nat,vs=[.str (sx (ftx ((n:Int):Rat)))]/\n<=60/\∀H',Am H H'->Q (.int n) H'
def Q3:Sp:=fun vs H Q _=>∃(l:Str) (t:Addr) (cs:List Str),vs=[.str l,.ref t]/\H t=some (.tup (cs.map V.str))/\l∈cs/\∀H',Am H H'->Q (.str l) H'
theorem Zk(row:List Str):(row.map V.str).all Iv=true:=by
 rw[AWz];exact AUd.mpr fun _ _=>rfl
theorem AEZ(l:Str)(row:List Str):inV (.str l) (row.map V.str)=decide (l∈row):=by
 unfold inV
 induction row with
 | nil=>rfl
 | cons c r ih =>
  rw[List.map_cons,AUp,ih];have e:eqV (V.str c) (V.str l)=decide (c=l):=by
   by_cases h:c=l
   .rw[decide_eq_true h];simp[eqV,h]
   .rw[decide_eq_false h];simp[eqV,h]
  rw[e];by_cases h:c=l
  .simp[h]
  .have:¬l=c:=fun z=>h z.symm;simp[h,this]
theorem Hi:Al ["text","halvings"] ["text"] (Af Ft):=fsc
theorem M3(F:Fun K "read_halvings" "read_halvings" Ft f fd)(T:Txt mg)(aV:Cal P w K mg base "read_whole" 4 ["text"] Nh):BP P w K mg base CX0 5 f fd ["text"] VR:=by
 refine F.okk Hi fun vs H Q E h=>?_;obtain⟨n,rfl,oR,q⟩:=h;refine⟨rfl,fun cdv A outer s hr=>?_⟩;have dL:F30 ((n:Int):Rat):=by
  have hz:(100:Nat)<10^30:=by decide
  refine⟨?_,?_⟩
  .rw[AUT];omega
  .rw[AVf];omega
 refine⟨_,(Ac (pS 1 Hi.nd (Ai aV hr (Aa (pv 0) Ab)))
   (Ac (BK (PW.pt (Dc (Ak Fy (pv 1) Ad (Ar _)) (CV (Ak Gp (pv 1) (JS rfl T.c_MOST_HALVINGS) (Ar _)))))
    (Ae BR)
    Aq)
   (Ae (Aj (pv 1))))),?_⟩
 refine⟨_,rfl,(n:Int),rfl,dL,fun H1 s1=>?_⟩;walk_at "J";exact⟨_,rfl,_,_,rfl,rfl,_,rfl,Cd (by omega) ⟨_,rfl,q H1 s1⟩⟩
theorem QR:Al ["text","choices"] ["text","choices"] (Af Hf):=fsc
theorem Q9(F:Fun K "read_choice" "read_choice" Hf f fd)(T:Txt mg):BP P w K mg base CX0 1 f fd ["text","choices"] Q3:=by
 refine F.okk QR fun vs H Q E h=>?_;obtain⟨l,t,cs,rfl,et,hl,q⟩:=h;refine⟨rfl,fun cdv A outer s hr=>?_⟩;refine⟨_,(Ac (BK (Ak VD (pv 0) (pv 1) (by with_unfolding_all rfl))
    (Ae BR)
    Aq)
   (Ae (Aj (pv 0)))),?_⟩
 refine⟨_,rfl,_,rfl,t,_,rfl,.inr (SqT.of et),rfl,Zk cs,_,rfl,?_⟩;rw[AEZ,decide_eq_true hl];exact FZ ⟨_,rfl,q H (Am.refl _)⟩
theorem Xk{α β:Type}{T:α->β->Prop}{xs us:List α}{zs ws:List β}(h:Paired T xs zs)(k:Paired T us ws):Paired T (xs++us) (zs++ws):=by
 induction h with
 | nil=>exact k
 | cons x _ ih=>exact .cons x ih
theorem Zw{K:W.Frag}{a:Addr}{ys:List V}{β:Type}{bs:List β}{te:Shared->Hp->Addr->List Addr->TE}{js:List Nat}{σ:L2.St}{H1:Hp}{Q:VK}(G:Addr->Hp->V->β->Prop)(hn:ys.length<=100000)(hb:bs.length=ys.length)
  (keep:∀{D H H' v x},G D H v x->Am H H'->G D H' v x) (put:∀{D H v x xs zs},G D H v x->H D=some (.lst xs)->G D (upd H D (.lst zs)) v x) (ha:H1 a=some (.lst ys))
  (hs:∀zb zc C ex (i:Nat) y x H D zs (R:VK),ys[i]?=some y->bs[i]?=some x->Am H1 H->H1 D=none->H D=some (.lst zs)->(∀v H2,Am H H2->G D H2 v x->R v H2)->te zb zc C ex (some y::js.map fun j=>(σ[j]?).join) H R)
  (hd:∀H D vs,Am H1 H->H1 D=none->H D=some (.lst vs)->Paired (G D H) vs bs->Q (.ref D) H):HQ (Itl K a) te js σ Q H1:=by
 intro D hD;refine⟨fun i m vs H=>m=ys.length-i/\i<=ys.length/\Paired (G D H) vs (bs.take i)/\Am H1 H/\H D=some (.lst vs),⟨ys.length,by simp,ATW _,.nil,Ah hD _,Ag⟩,?_⟩;rintro i m vs H ⟨rfl,hi,pr,sm,bj⟩;refine⟨bj,?_⟩;have hr:=sm _ _ ha;by_cases hlt:i<ys.length
 .have h1:ys[i]?=some ys[i]:=Io hlt;have h3:bs[i]?=some (bs[i]'(by omega)):=Io (by omega);refine .inr ⟨⟨_,_,SqL.of hr,h1⟩,fun x H' y zb zc C ex=>?_⟩;obtain⟨e,y⟩:=y;subst e;have ex':=y _ (SqL.of hr);rw[h1]at ex';cases ex';refine hs zb zc C ex i _ _ H' D vs _ h1 h3 sm hD bj fun v H2 s2 g2=>?_;walk_at "d"
  have lv:=AT8 pr;rw[AS8]at lv;have hD2:=s2 _ _ bj;refine⟨hD2,by omega,ys.length-(i+1),by omega,rfl,hlt,?_,Bd (sm.trans s2) hD _,Ag⟩;rw[ATy,h3];refine Xk (Paired.imp' (fun _ _ z=>put (keep z s2) hD2) pr) (.cons (put g2 hD2) .nil)
 .have e:i=ys.length:=by omega
  subst e;refine .inl ⟨⟨_,SqL.of hr,Nat.le_refl _⟩,hd H D vs sm hD bj ?_⟩;rw[<-hb,ATK]at pr;exact pr
def Vu:Sp:=fun vs H Q _=>∃qs,vs=[.str (sx (jn 32 (Av qs)))]/\qs≠[]/\qs.length<=100/\(∀q∈qs,F30 q)/\∀r H',Am H H'->H r=none->Rw H' r qs->Q (.ref r) H'
def Wi:Sp:=fun vs H Q _=>∃U L,vs=[.str (sx (ptx U L))]/\(U≠[]/\U.length<=20/\Po.strip U=U/\∀q∈U,F30 q)/\(L≠[]/\L.length<=20/\Po.strip L=L/\∀q∈L,F30 q)/\∀D' u l H',Am H H'->H D'=none->H u=none->H l=none->H' D'=some (.lst [.ref u,.ref l])->Rw H' u U->Rw H' l L->Q (.ref D') H'
theorem w59(qs:List Rat):∀{ws:List (List Nat)},ws=Av qs->59∉jn 32 ws:=fun {ws} e z=>by
 have h:∀w∈ws,59∉w:=fun w hw=>by
  rw[e]at hw;obtain⟨q,_,rfl⟩:=ATY.mp hw;exact Mp (by decide) (fun y=>absurd y.2 (by decide)) (by decide) q
 clear e
 induction ws with
 | nil=>cases z
 | cons w r ih =>
  cases r with
  | nil=>exact h w (by simp) z
  | cons v r =>
   have z':59∈w++32::jn 32 (v::r):=z;rcases ATU.mp z' with y|y
   .exact h w (by simp) y
   rcases AS2.mp y with y|y
   .cases y
   .exact ih y fun x hx=>h x (ATS _ hx)
theorem MN:Al ["text","row"] ["text"] (Af JL):=fsc
theorem U3(F:Fun K "read_some" "read_some" JL f fd)(T:Txt mg)(cS:Cal P w K mg base "read_row" 4 ["text"] Wx):BP P w K mg base CX0 5 f fd ["text"] Vu:=by
 refine F.okk MN fun vs H Q E h=>?_;obtain⟨qs,rfl,ne,l1,dL,q⟩:=h;refine⟨rfl,fun cdv A outer s hr=>?_⟩;refine⟨_,(Ac (pS 1 MN.nd (Ai cS hr (Aa (pv 0) Ab)))
   (Ac (BK (Ak Be (Ax Aw rfl T.z_len AS6 (Aa (pv 1) Ab)) Ad (Ar _))
    (Ae BR)
    Aq)
   (Ae (Aj (pv 1))))),?_⟩
 refine⟨_,rfl,qs,rfl,l1,dL,fun r H1 s1 n1 r1=>?_⟩;obtain⟨ps,e,k⟩:=id r1;have lk:=k.length;have l0:=AU1.mpr ne;refine⟨_,rfl,r,_,rfl,.inl (SqL.of e),rfl,_,rfl,Cd (fun z=>?_) ⟨_,rfl,q r H1 s1 n1 r1⟩⟩;have:=V.int.inj z;rw[ASt]at this;omega
theorem HJ:Al ["text","parts"] ["text"] (Af Du):=fsc
theorem MT(F:Fun K "read_two_polys" "read_two_polys" Du f fd)(T:Txt mg)(cv:Cal P w K mg base "read_some" 5 ["text"] Vu)(aY:Cal P w K mg base "poly" 2 ["figures"] Gh):BP P w K mg base CX0 6 f fd ["text"] Wi:=by
 refine F.okk HJ fun vs H Q E h=>?_;obtain⟨U,L,rfl,⟨u1,u2,u3,u4⟩,⟨l1,l2,l3,l4⟩,q⟩:=h;refine⟨rfl,fun cdv A outer s hr=>?_⟩;refine⟨_,(Ac (pS 1 HJ.nd (Cp ATA ATc ATd Fi (pv 0) (Aa Ao Ab)))
   (Ac (BK (Ak GD (Ax Aw rfl T.z_len AS6 (Aa (pv 1) Ab)) Ad (Ar _))
    (Ae BR)
    Aq)
   (Ae (Aj (Ce (N':=["part"]) (fsc:=Af Du) (N:=["text","parts"]) [] ⟨rfl,by decide +kernel,by decide +kernel,by decide +kernel,rfl,by decide +kernel,rfl,by decide +kernel⟩ (Bl (pv 1)) (fun _ _ _ _=>(Ai aY hr (Aa (Ai cv hr (Aa (pv 0) Ab)) Ab)))))))),?_⟩
 walk_at "d"
 have es:Txt.split (sx (ptx U L)) (Str.ofString " ; ")=[jn 32 (Av U),jn 32 (Av L)].map sx:=by
  rw[show Str.ofString " ; "=sx [32,59,32] by decide +kernel];exact AJw (w59 U rfl) (w59 L rfl)
 have wl:∀{qs:List Rat},qs.length<=20->(∀q∈qs,F30 q)->(jn 32 (Av qs)).length<=1300:=fun {qs} h1 h2=>by
  have:=Kg (c:=32) (Hj h2);unfold Av at *;rw[ASt]at this;omega
 have lp:(ptx U L).length<=5000:=by
  have a:=wl u2 u4;have b:=wl l2 l4;unfold ptx;rw[ASz,ASx,ASx,ASx];omega
 refine⟨_,rfl,rfl,_,_,rfl,rfl,(by decide),by rw[Ay];omega,by rw[es];show 2<=_;omega,fun D hD=>?_⟩;rw[es];have u:=Ah hD (.lst (([jn 32 (Av U),jn 32 (Av L)].map sx).map V.str));have eD:upd H D (.lst (([jn 32 (Av U),jn 32 (Av L)].map sx).map V.str)) D=some (.lst [.str (sx (jn 32 (Av U))),.str (sx (jn 32 (Av L)))]):=Ag;generalize upd H D (.lst (([jn 32 (Av U),jn 32 (Av L)].map sx).map V.str))=H1 at *;refine⟨_,rfl,D,_,rfl,.inl (SqL.of eD),rfl,_,rfl,Fx rfl ?_⟩;refine⟨_,rfl,D,rfl,⟨_,SqL.of eD⟩,Zw (bs:=[U,L]) (fun D H v X=>∃p,v=.ref p/\Rw H p X/\p≠D/\H1 p=none) (by show 2<=100000;omega) rfl (fun⟨p,e,r,n,f⟩ s=>⟨p,e,r.keep s,n,f⟩) (fun⟨p,e,r,n,f⟩ z=>⟨p,e,r.updO z n,n,f⟩) eD ?_ fun H4 L' vs s4 nL eL pr=>?_⟩
 .intro zb zc C ex i y x H' D' zs R hy hx sH nD i9 fin;obtain⟨rfl,x1,x2,x3,x4⟩:y=.str (sx (jn 32 (Av x)))/\x≠[]/\x.length<=20/\Po.strip x=x/\∀q∈x,F30 q:=by
   match i with
   | 0 =>
    cases hy;cases hx;exact⟨rfl,u1,u2,u3,u4⟩
   | 1 =>
    cases hy;cases hx;exact⟨rfl,l1,l2,l3,l4⟩
   | j+2=>cases hy
  refine⟨_,rfl,x,rfl,x1,by omega,x4,fun r H2 s2 n2 r2=>?_⟩;refine⟨r,x,rfl,r2,by omega,fun r' H3 s3 n3 r3=>?_⟩;rw[x3]at r3;exact fin _ H3 (s2.trans s3) ⟨r',rfl,r3,(fun z=>by rw[z,s2 _ _ i9]at n3;cases n3),(sH.trans s2).free n3⟩
 .cases pr with
  | cons t0 pr=>cases pr with
   | cons t1 pr =>
    cases pr;obtain⟨u',rfl,ru,_,f1⟩:=t0;obtain⟨l',rfl,rl,_,f2⟩:=t1;exact q L' u' l' H4 (u.trans s4) (u.free nL) (u.free f1) (u.free f2) eL ru rl
theorem Rh:Al ["kind","text"] ["kind","text"] (Af Hq):=fsc
theorem RZ(F:Fun K "read_thing" "read_thing" Hq f fd)(T:Txt mg)(cx:Cal P w K mg base "read_cord" 6 ["text"] (NP af))(ao:Cal P w K mg base "read_fraction" 3 ["text"] JR)(aV:Cal P w K mg base "read_whole" 4 ["text"] Nh)(bN:Cal P w K mg base "read_halvings" 5 ["text"] VR)(bI:Cal P w K mg base "read_choice" 1 ["text","choices"] Q3)(bD:Cal P w K mg base "read_two_polys" 6 ["text"] Wi)(cA:Cal P w K mg base "read_name" 1 ["text"] Vd):BP P w K mg base CX0 7 f fd ["kind","text"] (Nq af):=by
 refine F.okk Rh fun vs H Q E h=>?_;obtain⟨k,l,x,rfl,hx,q⟩:=h;refine⟨rfl,fun cdv A outer s hr=>?_⟩;refine⟨_,(Ac (BK (Ak Be (pv 0) Ao (Ar _))
    (Ae (Aj (Ai cx hr (Aa (pv 1) Ab))))
    Aq)
   (Ac (BK (Ak Be (pv 0) Ao (Ar _))
    (Ae (Aj (Ai ao hr (Aa (pv 1) Ab))))
    Aq)
   (Ac (BK (Ak Be (pv 0) Ao (Ar _))
    (Ae (Aj (Ai aV hr (Aa (pv 1) Ab))))
    Aq)
   (Ac (BK (Ak Be (pv 0) Ao (Ar _))
    (Ae (Aj (Ai bN hr (Aa (pv 1) Ab))))
    Aq)
   (Ac (BK (Ak Be (pv 0) Ao (Ar _))
    (Ae (Aj (Ai bI hr (Aa (pv 1) (Aa (Bb (Aa Ao (Aa Ao Ab))) Ab)))))
    Aq)
   (Ac (BK (Ak Be (pv 0) Ao (Ar _))
    (Ae (Aj (Ai bI hr (Aa (pv 1) (Aa (Bb (Aa Ao (Aa Ao (Aa Ao (Aa Ao Ab))))) Ab)))))
    Aq)
   (Ac (BK (Ak Be (pv 0) Ao (Ar _))
    (Ae (Aj (Ai bD hr (Aa (pv 1) Ab))))
    Aq)
   (Ac (BK (Ak Be (pv 0) Ao (Ar _))
    (Ae BR)
    Aq)
   (Ae (Aj (Ai cA hr (Aa (pv 1) Ab)))))))))))),?_⟩
 cases x with
 | cord gs ws =>
  obtain⟨rfl,rfl,hc⟩:=hx;walk_at "g";exact⟨_,rfl,gs,ws,rfl,hc,fun c ga wa H' s' n1 n2 co=>q _ H' s' fun D hD=>⟨c,ga,wa,rfl,co,fun z=>hD (z ▸ n1),fun z=>hD (z ▸ n2)⟩⟩
 | frac p =>
  obtain⟨rfl,rfl,hp⟩:=hx;walk_at "b";walk_at "g";exact⟨_,rfl,p,rfl,hp,fun a H' s' k=>q _ H' s' fun D hD=>⟨a,rfl,k⟩⟩
 | whl i =>
  obtain⟨rfl,rfl,hp⟩:=hx;walk_at "a";walk_at "g";exact⟨_,rfl,i,rfl,hp,fun H' s'=>q _ H' s' fun D hD=>rfl⟩
 | txt m =>
  obtain⟨hk,rfl,hp⟩:=hx;have nk:∀{b:Str},(("new":Str)≠b/\("name":Str)≠b)->k≠b:=fun h z=>by
   rcases hk with e|e
   .exact h.1 (by rw[<-e,z])
   .exact h.2 (by rw[<-e,z])
  (refine⟨_,rfl,rfl,_,rfl,sne (nk (by decide)) ?_⟩;refine⟨_,rfl,rfl,_,rfl,sne (nk (by decide)) ?_⟩;refine⟨_,rfl,rfl,_,rfl,sne (nk (by decide)) ?_⟩);(refine⟨_,rfl,rfl,_,rfl,sne (nk (by decide)) ?_⟩;refine⟨_,rfl,rfl,_,rfl,sne (nk (by decide)) ?_⟩;refine⟨_,rfl,rfl,_,rfl,sne (nk (by decide)) ?_⟩);refine⟨_,rfl,rfl,_,rfl,sne (nk (by decide)) ?_⟩;refine⟨_,rfl,rfl,_,rfl,sne (nk (by decide)) ?_⟩;exact⟨_,rfl,l,rfl,hp,fun H' s'=>q _ H' s' fun D hD=>rfl⟩
 | hlv n =>
  obtain⟨rfl,rfl,hp⟩:=hx;walk_at "a";walk_at "b";walk_at "g";exact⟨_,rfl,n,rfl,hp,fun H' s'=>q _ H' s' fun D hD=>rfl⟩
 | wrd m =>
  obtain⟨hk,rfl⟩:=hx;rcases hk with⟨rfl,hm⟩|⟨rfl,hm⟩
  .walk_at "a";walk_at "a";walk_at "g";refine⟨_,rfl,(by show 2<=sizeLine;decide),fun t ht=>?_⟩;have u:=Ah ht (.tup [.str (Str.ofString "held"),.str (Str.ofString "loose")]);exact⟨sx l,t,[Str.ofString "held",Str.ofString "loose"],rfl,Ag,ABq ▸ AWc hm,fun H' s'=>q _ H' (u.trans s') fun D hD=>rfl⟩
  .walk_at "a";walk_at "a";walk_at "b";walk_at "g";refine⟨_,rfl,(by show 4<=sizeLine;decide),fun t ht=>?_⟩;have u:=Ah ht (.tup [.str (Str.ofString "held"),.str (Str.ofString "loose"),.str (Str.ofString "near"),.str (Str.ofString "free")]);exact⟨sx l,t,[Str.ofString "held",Str.ofString "loose",Str.ofString "near",Str.ofString "free"],rfl,Ag,AEO ▸ AWc hm,fun H' s'=>q _ H' (u.trans s') fun D hD=>rfl⟩
 | pols U L =>
  obtain⟨rfl,rfl,h1,h2⟩:=hx;walk_at "a";walk_at "a";walk_at "a";walk_at "g";exact⟨_,rfl,U,L,rfl,h1,h2,fun D' u l H' s' n0 n1 n2 ed r1 r2=>q _ H' s' fun D hD=>⟨D',u,l,rfl,ed,r1,r2,fun z=>hD (z ▸ n0),fun z=>hD (z ▸ n1),fun z=>hD (z ▸ n2)⟩⟩
theorem Qg{K:W.Frag}{H H':Hp}{a:Addr}{xs:List V}(h:SqT K H a xs)(s:Am H H'):SqT K H' a xs:=by
 rcases h with(h|⟨o,h⟩)|h
 .exact .inl (.inl (s _ _ h))
 .exact .inl (.inr ⟨o,s _ _ h⟩)
 .exact .inr h
structure ABr(dl:List Nat)(row:List Str)(init lastw:List (List Nat))(ths:List Tg):Prop where
 form:Dg CN (sx dl)=some row
 free:∀w∈dl::(init++lastw),32∉w
 last:lastw≠[]
 len:row.length=init.length+1
 few:row.length<=10
 lth:ths.length=row.length
 size:(jn 32 (dl::(init++lastw))).length<=50000
 rd:∀(i:Nat) k l x,row[i]?=some k->(init++[jn 32 lastw])[i]?=some l->ths[i]?=some x->RdT k l x
def Wl(K:W.Frag):Sp:=fun vs H Q _=>∃d row,vs=[.str d]/\Dg CN d=some row/\∀t,SqT K H t (row.map V.str)->Q (.ref t) H
def Nv(C:Addr):Sp:=fun vs H Q _=>∃dl row init lastw ths,vs=[.str (sx (jn 32 (dl::(init++lastw))))]/\ABr dl row init lastw ths /\
 ∀r L vs H',Am H H'->H' r=some (.tup [.str (sx dl),.ref L])->H L=none->H' L=some (.lst vs)->Paired (TgD C L H') vs ths->Q (.ref r) H'
theorem Wv:Al ["deed"] ["deed"] (Af Km):=fsc
theorem WY{bV:Addr}(F:Fun K "kinds_of" "kinds_of" Km f fd)(T:Txt mg)(FM:Mt P w K mg bV):BP P w K mg base CX0 1 f fd ["deed"] (Wl K):=by
 refine F.okk Wv fun vs H Q E h=>?_;obtain⟨d,row,rfl,hr',q⟩:=h;walk_at "c";refine⟨_,(Ae (Aj (Vx (Ml (v:=.ref _) rfl FM.m rfl) (pv 0) (fun _ _=>rfl)))),?_⟩;exact⟨_,rfl,_,_,_,row,rfl,FM.t,rfl,hr',fun t ht=>q t ht⟩
theorem GX:Al ["row","deed","form","texts"] ["row"] (Af HN):=fsc
theorem UW{bV:Addr}(F:Fun K "read_told" "read_told" HN f fd)(T:Txt mg)(FM:Mt P w K mg bV)(ax:Cal P w K mg base "check_text" 1 ["thing"] JH)(cj:Cal P w K mg base "read_thing" 7 ["kind","text"] (Nq af)):BP P w K mg base CX0 8 f fd ["row"] (Nv af):=by
 refine F.okk GX fun vs H Q E h=>?_;obtain⟨dl,row,init,lastw,ths,rfl,td,q⟩:=h;walk_at "c";walk_at "d"
 have hsz:=td.size;have hne:init++lastw≠[]:=fun z=>td.last (List.append_eq_nil_iff.mp z).2;have rA:jn 32 (dl::(init++lastw))=dl++32::jn 32 (init++lastw):=by
  cases e:init++lastw with
  | nil=>exact absurd e hne
  | cons a r=>rfl
 refine⟨_,(Ac (Ca (Ai ax hr (Aa (pv 0) Ab)))
   (Ac (pS 1 GX.nd (ixT (Cp ATA AUr AUs U8 (pv 0) (Aa Ao Ab)) Ad))
   (Ac (BK (ACY (Xu (pv 1) (Ml (v:=.ref _) rfl FM.m rfl)))
    (Ae BR)
    Aq)
   (Ac (pS 2 GX.nd (Vx (Ml (v:=.ref _) rfl FM.m rfl) (pv 1) (fun _ _=>rfl)))
   (Ac (pS 3 GX.nd (DX FW (Cp ATA ATc ATd AAe (pv 0) (Aa Ao (Aa (Ax Aw rfl T.z_len AS6 (Aa (pv 2) Ab)) Ab))) (DR Ad) Ds))
   (Ac (BK (Ak GD (Ax Aw rfl T.z_len AS6 (Aa (pv 3) Ab)) (Ax Aw rfl T.z_len AS6 (Aa (pv 2) Ab)) (Ar _))
    (Ae BR)
    Aq)
   (Ae (Aj (Bb (Aa (pv 1) (Aa (Qe (N':=["kind","text"]) (fsc:=Af HN) (N:=["row","deed","form","texts"]) ["kind","text"] [] ⟨rfl,by decide +kernel,by decide +kernel,rfl,by decide +kernel,by decide +kernel⟩ (ZJ rfl T.z_zip (Aa (pv 2) (Aa (pv 3) Ab))) (fun _ _ _ _=>(Pa (N':=["kind","text"]) (i:=0) (j:=1) rfl (by decide +kernel) rfl rfl rfl rfl)) (fun _ _ _ _=>PQ) (fun _ _ _ _=>(Ai cj hr (Aa (pv 0) (Aa (pv 1) Ab))))) Ab))))))))))),?_⟩
 refine⟨_,rfl,_,rfl,_,rfl,rfl,_,_,rfl,rfl,(by decide),by rw[Ay];omega,fun p hp=>?_⟩;have s1:=Ah hp (.tup ((Cz (sx (jn 32 (dl::(init++lastw)))) (Str.ofString " ")).map V.str));have e1:upd H p (.tup ((Cz (sx (jn 32 (dl::(init++lastw)))) (Str.ofString " ")).map V.str)) p=some (.tup [.str (sx dl),.str (sx [32]),.str (sx (jn 32 (init++lastw)))]):=by
  rw[Ag,rA,show Str.ofString " "=sx [32] from rfl,R6 (td.free dl (by simp))];rfl
 generalize upd H p (.tup ((Cz (sx (jn 32 (dl::(init++lastw)))) (Str.ofString " ")).map V.str))=H1 at *;refine⟨p,_,_,_,rfl,rfl,SqT.of e1,rfl,?_⟩;refine⟨_,rfl,_,_,_,rfl,FM.t,rfl,_,rfl,?_⟩;rw[td.form];refine FZ ?_;refine⟨_,rfl,_,_,_,row,rfl,FM.t,rfl,td.form,fun fp hf=>?_⟩;have hlr:=td.len;have es:Txt.splitMax (sx (jn 32 (dl::(init++lastw)))) (Str.ofString " ") (((row.map V.str).length:Nat):Int)=((dl::init)++[jn 32 lastw]).map sx:=by
  rw[ASt,show Str.ofString " "=sx [32] from rfl,AAa td.free (by omega) (by
   rw[ASx,ASz];have:=AU1.mpr td.last;omega),hlr]
  congr 2
  .rw[AU0,AWL];rfl
  .rw[List.drop_succ_cons,List.drop_left'];rfl
 refine⟨_,rfl,rfl,_,rfl,fp,_,rfl,.inr hf,_,_,(row.map V.str).length,rfl,rfl,(by decide),?_,by rw[Ay];omega,?_,fun D hD=>?_⟩
 .have:=td.few;rw[ASt];show row.length<4611686018427387904;omega
 .have:=td.few;rw[es,ASt,ASz,ASx,ATX];omega
 rw[es];have sD:=Ah hD (.lst ((((dl::init)++[jn 32 lastw]).map sx).map V.str));refine⟨1,rfl,D,_,rfl,SqL.of Ag,fun tp htp=>?_⟩;have ec:DP ((((dl::init)++[jn 32 lastw]).map sx).map V.str) (some 1) none=((init++[jn 32 lastw]).map sx).map V.str:=Hl V.str (((dl::init)++[jn 32 lastw]).map sx) 1;rw[ec];have sT:=Ah htp (.lst (((init++[jn 32 lastw]).map sx).map V.str));have et:upd (upd H1 D (.lst ((((dl::init)++[jn 32 lastw]).map sx).map V.str))) tp (.lst (((init++[jn 32 lastw]).map sx).map V.str)) tp=some (.lst (((init++[jn 32 lastw]).map sx).map V.str)):=Ag;have s2:=sD.trans sT;generalize upd (upd H1 D (.lst ((((dl::init)++[jn 32 lastw]).map sx).map V.str))) tp (.lst (((init++[jn 32 lastw]).map sx).map V.str))=H2 at *;have hf2:=Qg hf s2;have lt:(((init++[jn 32 lastw]).map sx).map V.str).length=row.length:=by
  rw[ASt,ASt,ASz,ATX,hlr]
 refine⟨_,rfl,tp,_,rfl,.inl (SqL.of et),_,rfl,fp,_,rfl,.inr hf2,rfl,_,rfl,Fx (congrArg V.int (by rw[lt,ASt])) ?_⟩;have few:=td.few;refine⟨_,rfl,_,rfl,_,rfl,fp,tp,rfl,⟨_,hf2⟩,⟨_,SqL.of et⟩,TX (TgD af) row.length (by omega) (ASt _) lt td.lth (fun h s=>h.keep s) (fun h e=>h.put e) (fun H' s'=>Qg hf2 s') et ?_ fun H4 L vs s4 nL eL pr=>?_⟩
 .intro zb zc C ex i k y x H' D' zs R hk hy hx sH nD eD fin;rw[AS4]at hk;rw[List.map_map,AS4]at hy;obtain⟨kind,hk',rfl⟩:=AUI.mp hk;obtain⟨l,hl',rfl⟩:=AUI.mp hy;exact⟨_,rfl,_,rfl,kind,l,x,rfl,td.rd i kind l x hk' hl' hx,fun v H5 s5 hv=>fin v H5 s5 (hv D' (by rw[eD];exact fun z=>nomatch z))⟩
 .refine⟨(by show 2<=sizeLine;decide),fun r hr'=>?_⟩;have u:=Ah hr' (.tup [.str (sx dl),.ref L]);exact q r L vs _ (s1.trans (s2.trans (s4.trans u))) Ag ((s1.trans s2).free nL) (u _ _ eL) (Paired.imp' (fun _ _ z=>TgD.keep z u) pr)
theorem Q7:Al ["self"] ["self"] (Af Hb):=fsc
theorem Qd(F:Fun K "turned" "Cord.turned" Hb f fd)(T:Txt mg)(O:J0 K mg af)(au:QM P w K mg base "Cord" af 4 ["self","gaps","weights"] (Gv af)):BP P w K mg base CX0 6 f fd ["self"] (SJ af):=by
 refine F.okk Q7 fun vs H Q E h=>?_;obtain⟨c,ga,wa,gs,ws,rfl,⟨⟨dx,e⟩,⟨pg,eg,kg⟩,⟨pw,ew,kw⟩⟩,fine,q⟩:=h;refine⟨rfl,fun cdv A outer s hr=>?_⟩;refine⟨_,(Ae (Aj (V2 au hr (Aa (Kz rfl T.z_list rfl T.z_reversed (Aa (Ib (pv 0) rfl) Ab)) (Aa (Kz rfl T.z_list rfl T.z_reversed (Aa (Ib (pv 0) rfl) Ab)) Ab))))),?_⟩;refine⟨_,rfl,c,_,dx,_,_,rfl,e,O.cl,O.n_kept_gaps,rfl,ga,_,rfl,SqL.of eg,fun a ha=>?_⟩;have s1:=Ah ha (.lst (pg.map V.ref).reverse);refine⟨_,rfl,c,_,dx,_,_,rfl,s1 _ _ e,O.cl,O.n_kept_weights,rfl,wa,_,rfl,SqL.of (s1 _ _ ew),fun b hb=>?_⟩;have s2:=Ah hb (.lst (pw.map V.ref).reverse);intro x fj nx ndx ne;have s3:Am (upd (upd H a (.lst (pg.map V.ref).reverse)) b (.lst (pw.map V.ref).reverse)) (upd (upd (upd (upd H a (.lst (pg.map V.ref).reverse)) b (.lst (pw.map V.ref).reverse)) fj (.own x)) x (.ins af fj [])):=fun b o e=>by
  rw[Az (BL e nx),Az (BL e ndx)];exact e
 have s12:=s1.trans s2;have ra:Rw (upd (upd H a (.lst (pg.map V.ref).reverse)) b (.lst (pw.map V.ref).reverse)) a gs.reverse:=⟨pg.reverse,by rw[s2 _ _ Ag,AWA],Pqs.reverse (kg.keep s12)⟩;have rb:Rw (upd (upd H a (.lst (pg.map V.ref).reverse)) b (.lst (pw.map V.ref).reverse)) b ws.reverse:=⟨pw.reverse,by rw[Ag,AWA],Pqs.reverse (kw.keep s12)⟩;refine⟨x,a,b,gs.reverse,ws.reverse,fj,rfl,Ag,ra.keep s3,rb.keep s3,fine.rev.fine0,fun fH fJ H' kp n1 n2 co=>⟨rfl,q x fH fJ H' (fun b o z=>kp b o (BL (s12 _ _ z) nx) ((s12.trans s3) _ _ z)) (s12.free nx) ((s12.trans s3).free n1) ((s12.trans s3).free n2) co⟩⟩
theorem GK:Al ["text","words","gaps","weights"] ["text"] (Af Fe):=fsc
theorem Us(F:Fun K "read_cord" "read_cord" Fe f fd)(T:Txt mg)(ax:Cal P w K mg base "check_text" 1 ["thing"] JH)(ao:Cal P w K mg base "read_fraction" 3 ["text"] JR)(br:Cal P w K mg base "within_brackets" 1 ["word"] ABH)(au:QM P w K mg base "Cord" af 4 ["self","gaps","weights"] (Gv af)):BP P w K mg base CX0 6 f fd ["text"] (NP af):=by
 refine F.okk GK fun vs H Q E h=>?_;obtain⟨gs,ws,rfl,c30,k⟩:=h;walk_at "c";walk_at "d"
 (have aB:=c30.fine.len;have aC:=c30.fine.most);have l0:=Kg (c:=32) c30.len;have l1:=c30.cnt;have h0:0<gs.length:=by omega
 have es:Txt.split (sx (jn 32 (Bo gs ws))) (Str.ofString " ")=(Bo gs ws).map sx:=by
  rw[show Str.ofString " "=sx [32] from rfl,Hh (c30.mem (fun w _ z=>by
   rcases AS2.mp z with y|y
   .cases y
   .rcases ATU.mp y with y|y
    .exact RT w y
    .cases ATs.mp y) fun g _=>RT g) (by unfold Bo;simp)]
 have iN:ws.length=(gs.drop 1).length:=by rw[ATF];omega
 have eg:L3.ev2 (((((Bo gs ws).map sx).map V.str)).drop 0)=((gs.map fun q=>sx (ftx q)).map V.str):=by
  rw[AUB,<-L3.ev2_map,<-L3.ev2_map];unfold Bo;rw[Vf _ iN,Po.getD_in h0,<-List.map_cons (f:=ftx),<-AUy h0,AUB];simp only[List.map_map];rfl
 have ew:L3.ev2 (((((Bo gs ws).map sx).map V.str)).drop 1)=((ws.map fun q=>sx (brx q)).map V.str):=by
  show L3.ev2 (((cw ws (gs.drop 1)).map sx).map V.str)=_;rw[<-L3.ev2_map,<-L3.ev2_map,ZP iN];simp only[List.map_map];rfl
 refine⟨_,(Ac (Ca (Ai ax hr (Aa (pv 0) Ab)))
   (Ac (pS 1 GK.nd (Cp ATA ATc ATd Fi (pv 0) (Aa Ao Ab)))
   (Ac (K1 (i:=2) GK.nd rfl (Or.inl rfl) (N':=["word"]) (fsc:=Af Fe) (N:=["text","words","gaps","weights"]) [] ⟨rfl,by decide +kernel,by decide +kernel,by decide +kernel,rfl,by decide +kernel,rfl,by decide +kernel⟩ (Bl (Lx (pv 1) Ds Ad)) (fun _ _ _ _=>(Ai ao hr (Aa (pv 0) Ab))))
   (Ac (K1 (i:=3) GK.nd rfl (Or.inl rfl) (N':=["word"]) (fsc:=Af Fe) (N:=["text","words","gaps","weights"]) [] ⟨rfl,by decide +kernel,by decide +kernel,by decide +kernel,rfl,by decide +kernel,rfl,by decide +kernel⟩ (Bl (Lx (pv 1) (DR Ad) Ad)) (fun _ _ _ _=>(Ai ao hr (Aa (Ai br hr (Aa (pv 0) Ab)) Ab))))
   (Ae (AEW (Aj (V2 au hr (Aa (pv 2) (Aa (pv 3) Ab)))))))))),?_⟩
 refine⟨_,rfl,_,rfl,_,rfl,rfl,_,_,rfl,rfl,(by decide),by rw[Ay];omega,by rw[es,ASt];omega,fun D hD=>?_⟩;rw[es];have s1:=Ah hD (.lst (((Bo gs ws).map sx).map V.str));have e1:upd H D (.lst (((Bo gs ws).map sx).map V.str)) D=some (.lst (((Bo gs ws).map sx).map V.str)):=Ag;generalize upd H D (.lst (((Bo gs ws).map sx).map V.str))=H1 at *;refine⟨_,rfl,D,_,0,rfl,rfl,.inl ⟨rfl,rfl⟩,SqL.of e1,fun g1 n1=>?_⟩;rw[eg];have s2:=Ah n1 (.lst ((gs.map fun q=>sx (ftx q)).map V.str));refine⟨g1,rfl,⟨_,SqL.of Ag⟩,Dk (by omega) (fun q=>sx (ftx q)) Ag ?_ fun H3 G s3 nG rG=>?_⟩
 .intro _ _ _ _ q H2 R hm s2 fin;exact⟨_,rfl,q,rfl,c30.g30 q hm,fin⟩
 have e3:=(s2.trans s3) _ _ e1;refine⟨_,rfl,_,rfl,D,_,1,rfl,rfl,.inr rfl,SqL.of e3,fun w1 n2=>?_⟩;rw[ew];have s4:=Ah n2 (.lst ((ws.map fun q=>sx (brx q)).map V.str));refine⟨w1,rfl,⟨_,SqL.of Ag⟩,Dk (by omega) (fun q=>sx (brx q)) Ag ?_ fun H5 W s5 nW rW=>?_⟩
 .intro _ _ _ _ q H2 R hm s2 fin;have:=By (c30.w30 q hm);exact⟨_,rfl,ftx q,rfl,by omega,q,rfl,c30.w30 q hm,fin⟩
 have fN:=s1.trans (s2.trans (s3.trans (s4.trans s5)));have rB:=rG.keep (s4.trans s5);clear e3 e1 s1 s2 s3 s4 s5 rG;refine⟨_,rfl,_,rfl,?_⟩;intro x fj nx ndx ne;have s6:Am H5 (upd (upd H5 fj (.own x)) x (.ins af fj [])):=fun b o e=>by
  rw[Az (BL e nx),Az (BL e ndx)];exact e
 refine⟨x,G,W,gs,ws,fj,rfl,Ag,rB.keep s6,rW.keep s6,c30.fine,fun fH fJ H' kp n1 n2 co=>⟨rfl,k x fH fJ H' (fun b o z=>kp b o (BL (fN _ _ z) nx) ((fN.trans s6) _ _ z)) ((fN.trans s6).free n1) ((fN.trans s6).free n2) co⟩⟩
def DkM(C:Addr)(H:Hp)(aG:List (Key×V))(m:List Nat->Option (List Rat×List Rat)):Prop:=∀l,(m l=none->Ei aG (.inr (sx l):Key)=none)/\∀g,m l=some g->∃c ga wa,Ei aG (.inr (sx l):Key)=some (.ref c)/\Co C H c ga wa g.1 g.2
def Em(CD C:Addr)(N:Nat)(H:Hp)(d ka:Addr)(m:List Nat->Option (List Rat×List Rat)):Prop:=∃dx aG,H d=some (.ins CD dx [("kept",.ref ka)])/\H ka=some (.dK aG)/\aG.length<=N/\DkM C H aG m
theorem DkM.keep{C:Addr}{H H':Hp}{aG:List (Key×V)}{m:List Nat->Option (List Rat×List Rat)}(h:DkM C H aG m)(s:Am H H'):DkM C H' aG m:=fun l=>⟨(h l).1,fun g hg=>by
 obtain⟨c,ga,wa,e,co⟩:=(h l).2 g hg;exact⟨c,ga,wa,e,co.keep s⟩⟩
theorem Em.keep{CD C:Addr}{N:Nat}{H H':Hp}{d ka:Addr}{m:List Nat->Option (List Rat×List Rat)}(h:Em CD C N H d ka m)(s:Am H H'):Em CD C N H' d ka m:=by
 obtain⟨dx,aG,e1,e2,hl,dm⟩:=h;exact⟨dx,aG,s _ _ e1,s _ _ e2,hl,dm.keep s⟩
theorem Ys{C:Addr}{H:Hp}{c ga wa ka:Addr}{gs ws:List Rat}{aG kvs':List (Key×V)}(h:Co C H c ga wa gs ws)(e:H ka=some (.dK aG)):Co C (upd H ka (.dK kvs')) c ga wa gs ws:=by
 obtain⟨⟨dx,ec⟩,⟨ps,ea,kp⟩,⟨qs,eb,kq⟩⟩:=h;have ne:∀{b:Addr} {o:HO},H b=some o->(∀k,o≠.dK k)->upd H ka (.dK kvs') b=some o:=fun {b o} q n=>by
  rw[Az (fun z=>by rw[z,e]at q;exact n _ (AS5 q).symm)];exact q
 have pq:∀{ps:List Addr} {qs:List Rat},Pqs H ps qs->Pqs (upd H ka (.dK kvs')) ps qs:=fun k=>by
  induction k with
  | nil=>exact .nil
  | cons x _ ih=>exact .cons (ne x fun k z=>(nomatch z)) ih
 exact⟨⟨dx,ne ec fun k z=>(nomatch z)⟩,⟨ps,ne ea fun k z=>(nomatch z),pq kp⟩,⟨qs,ne eb fun k z=>(nomatch z),pq kq⟩⟩
noncomputable def rsv(m:List Nat->Option (List Rat×List Rat))(k:Str):Tg->Option Tg
 | .txt l=>if k="name" then(m l).map fun g=>.cord g.1 g.2 else some (.txt l)
 | x=>if k="name" then none else some x
def Wh(CD:Addr):Sp:=fun vs H Q _=>∃x dx,vs=[.ref x]/\H x=some (.ins CD dx [])/\∀ka,H ka=none->Q .non (upd (upd H ka (.dK [])) x (.ins CD dx [("kept",.ref ka)]))
theorem TgD.re{C D D':Addr}{H:Hp}{v:V}{x:Tg}(h:TgD C D H v x)(n:H D'=none):TgD C D' H v x:=by
 cases x with
 | pols U L =>
  obtain⟨E,u,l,e,ed,⟨ps,ea,k1⟩,⟨qs,eb,k2⟩,_,_,_⟩:=h;exact⟨E,u,l,e,ed,⟨ps,ea,k1⟩,⟨qs,eb,k2⟩,(fun z=>by rw[z,n]at ed;cases ed),(fun z=>by rw[z,n]at ea;cases ea),(fun z=>by rw[z,n]at eb;cases eb)⟩
 | cord gs ws =>
  obtain⟨c,ga,wa,e,co,_,_⟩:=h;obtain⟨_,⟨ps,ea,_⟩,⟨qs,eb,_⟩⟩:=id co;exact⟨c,ga,wa,e,co,(fun z=>by rw[z,n]at ea;cases ea),(fun z=>by rw[z,n]at eb;cases eb)⟩
 | _=>exact h
def Rsv(m:List Nat->Option (List Rat×List Rat))(row:List Str)(ths cW:List Tg):Prop:=cW.length=ths.length/\∀(i:Nat) k x,row[i]?=some k->ths[i]?=some x->rsv m k x=cW[i]?
def RK(CD:Addr):Sp:=fun vs H Q _=>∃d dx ka aG l c,vs=[.ref d,.str (sx l)]/\H d=some (.ins CD dx [("kept",.ref ka)])/\H ka=some (.dK aG)/\Ei aG (.inr (sx l):Key)=some (.ref c)/\Q (.ref c) H
def Nu(K:W.Frag)(CD C:Addr):Sp:=fun vs H Q _=>∃(N:Nat) (d ka:Addr) (m:List Nat->Option (List Rat×List Rat)) (kp tl:Addr) (ks:List Str) (tvs:List V) (ths cW:List Tg),vs=[.ref d,.ref kp,.ref tl]/\Em CD C N H d ka m/\SqT K H kp (ks.map V.str)/\H tl=some (.lst tvs)/\Paired (TgD C tl H) tvs ths/\ks.length=ths.length/\ths.length<=100/\(∀(i:Nat) x,ks[i]?=some ("name":Str)->ths[i]?=some x->∃l,x=.txt l)/\Rsv m ks ths cW /\
 ∀r vs' H',Am H H'->H r=none->H' r=some (.lst vs')->Paired (TgD C r H') vs' cW->Q (.ref r) H'
theorem Uu:Al ["self"] ["self"] (Af Jq):=fsc
theorem Uz(F:Fun K "__init__" "Desk.__init__" Jq f fd)(T:Txt mg)(O:Mh K mg ai):BP P w K mg base CX0 1 f fd ["self"] (Wh ai):=by
 refine F.okk Uu fun vs H Q E h=>?_;obtain⟨x,dx,rfl,ex,q⟩:=h;walk_at "c";refine⟨_,(Ae (Xy (pv 0) ACL rfl)),?_⟩;intro ka hka;have u:=Ah hka (.dK []);exact⟨_,rfl,x,ai,dx,_,rfl,u _ _ ex,O.cl,O.n_kept,by decide,q ka hka⟩
theorem Om:Al ["self","name"] ["self","name"] (Af Gj):=fsc
theorem Oz(F:Fun K "cord_by" "Desk.cord_by" Gj f fd)(T:Txt mg)(O:Mh K mg ai):BP P w K mg base CX0 1 f fd ["self","name"] (RK ai):=by
 refine F.okk Om fun vs H Q E h=>?_;obtain⟨d,dx,ka,aG,l,c,rfl,e1,e2,ev,q⟩:=h;refine⟨rfl,fun cdv A outer s hr=>?_⟩;refine⟨_,(Ac (BK (ACY (Zj (hu1 hr) (pv 1) (Ib (pv 0) rfl)))
    (Ae BR)
    Aq)
   (Ae (Aj (AEl (hu1 hr) (Ib (pv 0) rfl) (pv 1) (fun _ _=>rfl))))),?_⟩
 refine⟨_,rfl,_,rfl,d,_,dx,_,_,rfl,e1,O.cl,O.n_kept,rfl,ka,_,rfl,Mu.k (k:=.inr (sx l)) e2,_,rfl,?_⟩;rw[ev];refine FZ ?_;exact⟨_,rfl,d,_,dx,_,_,rfl,e1,O.cl,O.n_kept,rfl,_,rfl,ka,_,rfl,by rw[<-ev];exact Mu.k (k:=.inr (sx l)) e2,q⟩
theorem K8:Al ["self","kinds","things"] ["self","kinds","things"] (Af De):=fsc
theorem Kf(F:Fun K "with_cords" "Desk.with_cords" De f fd)(T:Txt mg)(O:Mh K mg ai)(bQ:Fg P w K mg base ai "cord_by" 1 ["self","name"] (RK ai)):BP P w K mg base CX0 2 f fd ["self","kinds","things"] (Nu K ai af):=by
 refine F.okk K8 fun vs H Q E h=>?_;obtain⟨N,d,ka,m,kp,tl,ks,tvs,ths,cW,rfl,⟨dx,aG,e1,e2,hl,dm⟩,hk,ht,pr,lk,few,nt,rs,q⟩:=h;refine⟨rfl,fun cdv A outer s hr=>?_⟩;have lt:tvs.length=ths.length:=AT8 pr;refine⟨_,(Ae (Aj (Qe (N':=["kind","thing","self"]) (fsc:=Af De) (N:=["self","kinds","things"]) ["kind","thing"] [0] ⟨rfl,by decide +kernel,by decide +kernel,rfl,by decide +kernel,by decide +kernel⟩ (ZJ rfl T.z_zip (Aa (pv 1) (Aa (pv 2) Ab))) (fun _ _ _ _=>(Pa (N':=["kind","thing","self"]) (i:=0) (j:=1) rfl (by decide +kernel) rfl rfl rfl rfl)) (fun _ _ _ _=>PQ) (fun _ _ _ _=>(QC (Ak Be (pv 0) Ao (Ar _)) (KQ bQ hr (pv 2) (Aa (pv 1) Ab)) (pv 1)))))),?_⟩;refine⟨_,rfl,_,rfl,kp,tl,rfl,⟨_,hk⟩,⟨_,SqL.of ht⟩,TX (TgD af) ths.length (by omega) (by rw[ASt,lk]) lt rs.1 (fun h s=>h.keep s) (fun h z=>h.put z) (fun H' s'=>Qg hk s') ht ?_ fun H4 r vs' s4 nr er rC=>q r vs' H4 s4 nr er rC⟩;intro zb zc C ex i k y o H' D zs R hk' hy ho sH nD eD fin;rw[AS4]at hk';obtain⟨kind,hk2,rfl⟩:=AUI.mp hk';have hi:i<ths.length:=by
  have:=(AS7.mp hk2).1;omega
 have hx:ths[i]?=some ths[i]:=Io hi;obtain⟨y',hy',ty⟩:=Q0 pr hx;rw[hy]at hy';cases hy';have eo:=rs.2 i kind _ hk2 hx;rw[ho]at eo;generalize ths[i]=x at *;refine⟨_,rfl,rfl,_,rfl,?_⟩;by_cases hn:kind="name"
 .obtain⟨l,rfl⟩:=nt i x (by rw[hk2,hn]) hx;have ey:y=.str (sx l):=ty;subst ey;have er:rsv m kind (.txt l)=(m l).map fun g=>.cord g.1 g.2:=by
   show(if kind=("name":Str) then(m l).map (fun g=>Tg.cord g.1 g.2) else some (.txt l))=_;rw[if_pos hn]
  rw[er]at eo;obtain⟨g,hm,rfl⟩:=AUI.mp eo;obtain⟨c',ga,wa,ev,co⟩:=(dm l).2 g hm;refine Hw hn ⟨_,rfl,d,dx,_,rfl,sH _ _ e1,rfl,_,rfl,d,dx,ka,aG,l,c',rfl,sH _ _ e1,sH _ _ e2,ev,?_⟩;have tg:TgD af D H (.ref c') (.cord g.1 g.2):=by
   obtain⟨_,⟨ps,ea,_⟩,⟨qs,eb,_⟩⟩:=id co;exact⟨c',ga,wa,rfl,co,(fun z=>by rw[z,nD]at ea;cases ea),(fun z=>by rw[z,nD]at eb;cases eb)⟩
  exact fin _ H' (Am.refl _) (tg.keep sH)
 .have e:rsv m kind x=some x:=by
   unfold rsv;cases x<;>simp[hn]
  rw[e]at eo;cases eo;exact sne hn ⟨_,rfl,fin _ H' (Am.refl _) ((ty.re nD).keep sH)⟩
theorem AIM(p q:Rat):(((p.num*q.den-q.num*p.den:Int)):Rat)/((p.den*q.den:Int):Rat)=p-q:=by
 have e:=ABY p (-q);rw[Rat.neg_num,Rat.neg_den]at e;rw[AUh,<-AVy,e,Rat.sub_eq_add_neg]
def ANx:Sp:=fun vs H Q _=>∃p q,vs=[.ref p]/\Pq H p q/\Bq 8000 q/\∀H',Am H H'->Q (.bl true) H'
def AQW:Sp:=fun vs H Q _=>∃a b qs,vs=[.ref a,.ref b]/\Rw H a qs/\Rw H b qs/\qs.length<=1000/\(∀q∈qs,Bq 8000 q)/\∀H',Am H H'->Q (.bl true) H'
def AEy:Sp:=fun vs H Q _=>∃(c:Int) (m:Nat),vs=[.int c,.int m]/\m<=100/\∀r qs H',Am H H'->H r=none->Rw H' r qs->qs.length=m->(∀q∈qs,0<q)->(∀q∈qs,Bq 4 q)->Q (.ref r) H'
def ANP(K:W.Frag):Sp:=fun vs H Q _=>∃(a:Addr) (ns:List Int),vs=[.ref a]/\SqL K H a (ns.map V.int) /\
 ∀r ga wa gs ws H',Am H H'->H' r=some (.tup [.ref ga,.ref wa])->H ga=none->H wa=none->ga≠wa->Rw H' ga gs->Rw H' wa ws->Drawn 12 gs ws->ws.length<=4->Q (.ref r) H'
def AGV:Sp:=fun vs H Q _=>∃c o,vs=[.int c,.int o]/\∀r t H',Am H H'->Bq 334 t->Pq H' r t->Q (.ref r) H'
theorem Eb:Al ["_law_top","_law_bottom","_law_one","_law_other","_law_rest"] ["_law_top","_law_bottom"] (Af Nj):=fsc
theorem X5(F:Fun K "_law_low" "_law_low" Nj f fd)(T:Txt mg):BP P w K mg base CX0 1 f fd ["_law_top","_law_bottom"] Ht:=by
 refine F.okk Eb fun vs H Q E h=>?_;obtain⟨t,b,rfl,hb,bb,q⟩:=h;refine⟨rfl,fun cdv A outer s hr=>?_⟩;have c1:0<g t b/\Bt 9000 (g t b):=⟨HD (by omega),(Zr hb bb).mono (by decide)⟩;refine⟨_,(Ac (pS 2 Eb.nd (Ax Mq rfl T.z_abs boot_abs (Aa (pv 0) Ab)))
   (Ac (pS 3 Eb.nd (Ax Mq rfl T.z_abs boot_abs (Aa (pv 1) Ab)))
   (Ac (Qh ATI (Ak Gp (pv 3) Ad (Ar _))
    (Ac (pS 4 Eb.nd (An Dd (pv 2) (pv 3)))
    (Ac (pS 2 Eb.nd (pv 3))
    (Ae (pS 3 Eb.nd (pv 4))))))
   (Ac (BK (Ak Fy (pv 1) Ad (Ar _))
    (Ae (pS 2 Eb.nd (JM Gi (pv 2))))
    Aq)
   (Ae (Aj (Bb (Aa (An CZ (pv 0) (pv 2)) (Aa (An CZ (pv 1) (pv 2)) Ab))))))))),?_⟩
 refine⟨_,rfl,_,rfl,_,rfl,_,rfl,?_⟩;refine⟨fun m σ H'=>∃x y r,σ=[some (.int t),some (.int b),some (.int x),some (.int y),r]/\H=H'/\0<=x/\0<=y/\g x y=g t b/\m=y.toNat,⟨_,_,_,_,rfl,rfl,?_,?_,AFV t b,rfl⟩,?_⟩
 .split<;>omega
 .split<;>omega
 rintro m σ _ ⟨x,y,r,rfl,rfl,hx,hy,e,rfl⟩;(refine⟨_,rfl,_,_,rfl,rfl,_,rfl,?_⟩);refine Hk (fun c=>⟨fun zd H'=>∃m',m'<y.toNat/\∃x y r,zd=[some (.int t),some (.int b),some (.int x),some (.int y),r]/\H=H'/\0<=x/\0<=y/\g x y=g t b/\m'=y.toNat,fun _ _ h=>h,?_⟩) (fun c=>?_)
 .walk_at "5";(have h2:=ATJ x c';exact⟨_,by omega,y,x%y,_,rfl,rfl,hy,h1,by rw[ABg hx c',e],rfl⟩)
 .have c':¬(0:Int)<y:=of_decide_eq_false (Bool.eq_false_iff.mpr c);obtain rfl:y=0:=by omega
  rw[AEv hx]at e;subst e;walk_at "J";exact⟨_,rfl,_,rfl,_,_,rfl,rfl,c1,_,rfl,_,rfl,_,_,rfl,rfl,c1,(by show 2<=sizeLine;decide),fun p hp=>q p _ (Ah hp _) (Pq.of Pr.new ⟨(AFN hb).1.symm,(AFN hb).2.symm⟩)⟩
theorem V1:Al ["_law_one","_law_other"] ["_law_one","_law_other"] (Af Kv):=fsc
theorem Wz(F:Fun K "_law_plus" "_law_plus" Kv f fd)(T:Txt mg)(aw:Cal P w K mg base "_law_low" 1 ["_law_top","_law_bottom"] Ht):BP P w K mg base CX0 2 f fd ["_law_one","_law_other"] (Bw 3900 (·+·)):=by
 refine F.okk V1 fun vs H Q E h=>?_;walk_at "P";walk_at "c";refine⟨_,(Ae (Aj (Ai aw hr (Aa (An Bp (An BZ (ixT (pv 0) Ad) (ixT (pv 1) Ad)) (An BZ (ixT (pv 1) Ad) (ixT (pv 0) Ad))) (Aa (An BZ (ixT (pv 0) Ad) (ixT (pv 1) Ad)) Ab))))),?_⟩;(refine⟨_,rfl,_,_,_,_,rfl,rfl,hp.sq,rfl,_,rfl,_,_,_,_,rfl,rfl,hq.sq,rfl,_,_,rfl,rfl,Br ba.1 bb.2 (by decide),_,rfl,_,_,_,_,rfl,rfl,hq.sq,rfl,_,rfl,_,_,_,_,rfl,rfl,hp.sq,rfl,_,_,rfl,rfl,Br bb.1 ba.2 (by decide),_,_,rfl,rfl,_,rfl,_,_,_,_,rfl,rfl,hp.sq,rfl,_,rfl,_,_,_,_,rfl,rfl,hq.sq,rfl,_,_,rfl,rfl,Br ba.2 bb.2 (by decide),_,_,rfl,ATg (den_pos a) (den_pos b),(ba.2.mul bb.2).mono (by decide),fun r H' s' kr=>k r H' s' ?_⟩);rw[ABY]at kr;exact kr
theorem Ud:Al ["_law_one","_law_other"] ["_law_one","_law_other"] (Af Js):=fsc
theorem VJ(F:Fun K "_law_minus" "_law_minus" Js f fd)(T:Txt mg)(aw:Cal P w K mg base "_law_low" 1 ["_law_top","_law_bottom"] Ht):BP P w K mg base CX0 2 f fd ["_law_one","_law_other"] (Bw 3900 (·-·)):=by
 refine F.okk Ud fun vs H Q E h=>?_;walk_at "P";walk_at "c";refine⟨_,(Ae (Aj (Ai aw hr (Aa (An Jh (An BZ (ixT (pv 0) Ad) (ixT (pv 1) Ad)) (An BZ (ixT (pv 1) Ad) (ixT (pv 0) Ad))) (Aa (An BZ (ixT (pv 0) Ad) (ixT (pv 1) Ad)) Ab))))),?_⟩;(refine⟨_,rfl,_,_,_,_,rfl,rfl,hp.sq,rfl,_,rfl,_,_,_,_,rfl,rfl,hq.sq,rfl,_,_,rfl,rfl,Br ba.1 bb.2 (by decide),_,rfl,_,_,_,_,rfl,rfl,hq.sq,rfl,_,rfl,_,_,_,_,rfl,rfl,hp.sq,rfl,_,_,rfl,rfl,Br bb.1 ba.2 (by decide),_,_,rfl,rfl,_,rfl,_,_,_,_,rfl,rfl,hp.sq,rfl,_,rfl,_,_,_,_,rfl,rfl,hq.sq,rfl,_,_,rfl,rfl,Br ba.2 bb.2 (by decide),_,_,rfl,ATg (den_pos a) (den_pos b),(ba.2.mul bb.2).mono (by decide),fun r H' s' kr=>k r H' s' ?_⟩);rw[AIM]at kr;exact kr
theorem T3:Al ["_law_one","_law_other"] ["_law_one","_law_other"] (Af Ja):=fsc
theorem Uj(F:Fun K "_law_times" "_law_times" Ja f fd)(T:Txt mg)(aw:Cal P w K mg base "_law_low" 1 ["_law_top","_law_bottom"] Ht):BP P w K mg base CX0 2 f fd ["_law_one","_law_other"] (Bw 3900 (·*·)):=by
 refine F.okk T3 fun vs H Q E h=>?_;walk_at "P";walk_at "c";refine⟨_,(Ae (Aj (Ai aw hr (Aa (An BZ (ixT (pv 0) Ad) (ixT (pv 1) Ad)) (Aa (An BZ (ixT (pv 0) Ad) (ixT (pv 1) Ad)) Ab))))),?_⟩;refine⟨_,rfl,_,_,_,_,rfl,rfl,hp.sq,rfl,_,rfl,_,_,_,_,rfl,rfl,hq.sq,rfl,_,_,rfl,rfl,Br ba.1 bb.1 (by decide),_,rfl,_,_,_,_,rfl,rfl,hp.sq,rfl,_,rfl,_,_,_,_,rfl,rfl,hq.sq,rfl,_,_,rfl,rfl,Br ba.2 bb.2 (by decide),_,_,rfl,ATg (den_pos a) (den_pos b),(ba.2.mul bb.2).mono (by decide),fun r H' s' kr=>k r H' s' ?_⟩;rw[AIb]at kr;exact kr
structure R9(gs ws:List Rat):Prop where
 len:gs.length=ws.length+1
 most:ws.length<=12
 bq:∃b,0<b/\(∀q∈gs,Bq b q)/\(∀q∈ws,Bq b q)/\(2*b+2)*(ws.length+1)<=1300
def W2:Sp:=fun vs H Q _=>∃a qs,vs=[.ref a]/\Rw H a qs/\qs.length<=900/\∀r H',Am H H'->H r=none->Rw H' r (Po.strip (0::qs))->Q (.ref r) H'
def Px(C:Addr):Sp:=fun vs H Q _=>∃c ga wa ha la gs ws h0 l0,vs=[.ref c,.ref ha,.ref la]/\Co C H c ga wa gs ws/\Rw H ha h0/\Rw H la l0/\R9 gs ws/\h0.length<=1/\l0.length<=1/\(∀q∈h0,q=1)/\(∀q∈l0,q=1) /\
 ∀r x y H',Am H H'->H' r=some (.tup [.ref x,.ref y])->H x=none->(y=la\/H y=none)->Rw H' x (Po.pst gs ws h0 l0 ws.length).1->Rw H' y (Po.pst gs ws h0 l0 ws.length).2->Q (.ref r) H'
def ZZ(gs ws:List Rat):List Rat:=(Po.pst gs ws [] [1] ws.length).1
def Um(gs ws:List Rat):List Rat:=(Po.pst gs ws [] [1] ws.length).2
def AR4(gs ws:List Rat):List Rat:=(Po.pst gs ws [1] [] ws.length).1
def AR0(gs ws:List Rat):List Rat:=(Po.pst gs ws [1] [] ws.length).2
def KN(C:Addr)(f:List Rat->List Rat->List Rat):Sp:=fun vs H Q _=>∃c ga wa gs ws,vs=[.ref c]/\Co C H c ga wa gs ws/\R9 gs ws/\∀r H',Am H H'->H r=none->Rw H' r (f gs ws)->Q (.ref r) H'
def SM(H H5:Hp)(c ha la rg:Addr)(gs ws h0 l0:List Rat)(i:Nat)(σ:L2.St)(H':Hp):Prop:=∃(x y:Addr) (v u:Option V),σ=[some (.ref c),some (.ref ha),some (.ref la),some (.ref rg),some (.ref x),some (.ref y),v,u]/\Am H5 H'/\H x=none/\(y=la\/H y=none)/\Rw H' x (Po.pst gs ws h0 l0 i).1/\Rw H' y (Po.pst gs ws h0 l0 i).2
theorem SM.elim{H H5:Hp}{c ha la rg:Addr}{gs ws h0 l0:List Rat}{i:Nat}{σ:L2.St}{H':Hp}{G:Prop}(h:SM H H5 c ha la rg gs ws h0 l0 i σ H')(k:∀(x y:Addr) (v u:Option V),σ=[some (.ref c),some (.ref ha),some (.ref la),some (.ref rg),some (.ref x),some (.ref y),v,u]->(Am H5 H')->(H x=none)->((y=la\/H y=none))->(Rw H' x (Po.pst gs ws h0 l0 i).1)->(Rw H' y (Po.pst gs ws h0 l0 i).2)->G):G:=by
 obtain⟨x,y,v,u,h0',h1',h2',h3',h4',rE⟩:=h;exact k _ _ _ _ h0' h1' h2' h3' h4' rE
theorem Oj:Al ["one"] ["one"] (Af Gx):=fsc
theorem Ol(F:Fun K "times_number" "times_number" Gx f fd)(T:Txt mg)(aY:Cal P w K mg base "poly" 2 ["figures"] Gh):BP P w K mg base CX0 3 f fd ["one"] W2:=by
 refine F.okk Oj fun vs H Q E h=>?_;obtain⟨a,qs,rfl,⟨pa,ea,ka⟩,lq,q⟩:=h;walk_at "c";have la:=ka.length;walk_at "i"
 refine⟨_,(Ae (Aj (Ai aY hr (Aa (An VB (DQ (Aa (Bb (Aa Ad (Aa Ad Ab))) Ab)) (pv 0)) Ab)))),?_⟩;refine⟨(by show 2<=sizeLine;decide),fun p0 hp0=>⟨(by show 1<=sizeLine;decide),fun l0 hl0=>?_⟩⟩;have s0:=Ah hp0 (.tup [.int 0,.int 1]);have s1:=Ah hl0 (.lst [.ref p0]);have j5:=s0.trans s1;(have k0:Pq (upd H p0 (.tup [.int 0,.int 1])) p0 0:=Pq.of Pr.new ⟨rfl,rfl⟩);refine⟨_,rfl,l0,a,_,_,rfl,rfl,Ag,j5 _ _ ea,?_,fun l hl=>?_⟩
 .simp only[ASz,ASx,AUH,ASt];omega
 have s2:=Ah hl (.lst ([.ref p0]++pa.map V.ref));have eF:=j5.trans s2;refine⟨l,0::qs,rfl,⟨p0::pa,by rw[Ag];rfl,.cons (k0.keep (s1.trans s2)) (ka.keep eF)⟩,by simp only[ASx];omega,fun r H' s' n' cP=>q r H' (eF.trans s') (eF.free n') cP⟩
theorem G4:Al ["cord","height","lean","gaps","here","leaning","weight","gap"] ["cord","height","lean"] (Af Xz):=fsc
theorem ADb(F:Fun K "ends" "ends" Xz f fd)(T:Txt mg)(bW:Cal P w K mg base "poly_plus" 4 ["one","other"] (Py Po.padd))(ck:Cal P w K mg base "poly_minus" 4 ["one","other"] (Py Po.psub))(cB:Cal P w K mg base "scaled" 4 ["one","number"] TV)
  (bR:Cal P w K mg base "times_number" 3 ["one"] W2) (ap:Fg P w K mg base af "gaps" 1 ["self"] (Ii af)) (aj:Fg P w K mg base af "weights" 1 ["self"] (Ec af)):BP P w K mg base CX0 5 f fd ["cord","height","lean"] (Px af):=by
 refine F.okk G4 fun vs H Q E h=>?_;obtain⟨c,ga,wa,ha,la,gs,ws,h0,l0,rfl,co,rF,oS,sz,lh,ll,eh,el,q⟩:=h;refine⟨rfl,fun cdv A outer s hr=>?_⟩;have aB:=sz.len;have aC:=sz.most;obtain⟨b,hb,bg,bw,hbb⟩:=sz.bq;have bnd:∀k,k<=ws.length->(2*b+2)*(k+1)<=1300:=fun k hk=>ATG (AVc _ (by omega)) hbb;have rH:=bnd 0 (ATW _);have AIW:=fun k=>Po.pst_length (gs:=gs) (ws:=ws) lh ll k;refine⟨_,(Ac (pS 3 G4.nd (GC ap hr (pv 0)))
   (Ac (pS 4 G4.nd (Ai bW hr (Aa (pv 1) (Aa (Ai cB hr (Aa (pv 2) (Aa (ixL (pv 3) Ad) Ab))) Ab))))
   (Ac (pS 5 G4.nd (pv 2))
   (Ac (Do ATI rfl (QK rfl T.z_zip (Aa (GC aj hr (pv 0)) (Aa (DX FW (pv 3) (DR Ad) Ds) Ab))) (JV rfl (Bk (gN 6 G4.nd) (Bk (gN 7 G4.nd) Ga)))
    (Ac (pS 5 G4.nd (Ai ck hr (Aa (pv 5) (Aa (Ai bR hr (Aa (Ai cB hr (Aa (pv 4) (Aa (pv 6) Ab))) Ab)) Ab))))
    (Ae (pS 4 G4.nd (Ai bW hr (Aa (pv 4) (Aa (Ai cB hr (Aa (pv 5) (Aa (pv 7) Ab))) Ab)))))))
   (Ae (Aj (Bb (Aa (pv 4) (Aa (pv 5) Ab))))))))),?_⟩
 obtain⟨dx,e⟩:=co.1;(refine⟨_,rfl,c,dx,_,rfl,e,rfl,c,ga,wa,gs,ws,rfl,co,fun rg H1 s1 n1 ⟨pg,eg,kg⟩=>?_⟩;have lg:=kg.length;have hg0:0<gs.length:=by omega)
 obtain⟨p0,e0,k0⟩:=kg.get (Io hg0);have lJ:gs.getD 0 0=gs[0]:=by rw[ASu,Io hg0];rfl
 have o0:=Po.O2.start eh el;have cX:∀{n:Nat} {M:Int} {qs:List Rat},(∀q∈qs,Po.Ov n M q)->M≠0->Bt n M->n<=1500->∀q∈qs,Bq 1500 q:=fun ho hM bM hn q hq=>((ho q hq).bq hM bM).mono hn;have g6:=bg _ (List.getElem_mem hg0);refine⟨_,rfl,_,rfl,_,rfl,rg,_,_,_,rfl,rfl,SqL.of eg,Dh (j:=0) e0,la,p0,l0,_,rfl,oS.keep s1,k0,by omega,cX o0.ol o0.ne o0.bm (by decide),g6.mono (by omega),fun r2 H2 s2 n2 fG=>?_⟩;have d0:=den_pos gs[0];have og:=Po.ov_pscale o0.ol g6;refine⟨ha,r2,h0,_,rfl,rF.keep (s1.trans s2),fG,by omega,?_,cX o0.oh o0.ne o0.bm (by decide),cX og (Int.mul_ne_zero o0.ne (by omega)) ((o0.bm.mul g6.2)) (by omega),fun r3 H3 s3 n3 lF=>?_⟩
 .have:=Po.pscale_length l0 gs[0];omega
 have dj:=s1.trans (s2.trans s3);refine⟨_,rfl,?_⟩;have ja:=co.keep dj;obtain⟨jb,e3⟩:=ja.1;refine⟨_,rfl,c,jb,_,rfl,e3,rfl,c,ga,wa,gs,ws,rfl,ja,fun cP H4 s4 n4 ⟨pw,ew,kw⟩=>?_⟩;have lw:=kw.length;have lK:=(s2.trans (s3.trans s4)) _ _ eg;refine⟨_,rfl,_,rfl,rg,_,rfl,SqL.of lK,fun l hl=>?_⟩;(have s5:=Ah hl (.lst (DP (pg.map V.ref) (some 1) none));have ec:DP (pg.map V.ref) (some 1) none=(pg.drop 1).map V.ref:=Hl V.ref pg 1;have jc:(upd H4 l (.lst (DP (pg.map V.ref) (some 1) none))) l=some (.lst ((pg.drop 1).map V.ref)):=by rw[Ag,ec])
 have jd:=s5 _ _ ew;have lM:=kw.keep s5;have lO:=kg.keep (s2.trans (s3.trans (s4.trans s5)));have fN:=dj.trans (s4.trans s5);have lP:Rw (upd H4 l (.lst (DP (pg.map V.ref) (some 1) none))) r3 (Po.pst gs ws h0 l0 0).1:=by
  show Rw _ _ (Po.padd h0 (Po.pscale l0 (gs.getD 0 0)));rw[lJ];exact lF.keep (s4.trans s5)
 have lQ:=oS.keep fN;have n30:H r3=none:=(s1.trans s2).free n3;generalize upd H4 l (.lst (DP (pg.map V.ref) (some 1) none))=H5 at *;refine⟨cP,l,rfl,⟨_,SqL.of jd⟩,⟨_,SqL.of jc⟩,?_⟩;refine Tt (xs:=pw.map V.ref) (ys:=(pg.drop 1).map V.ref) ws.length (by rw[ASt,ASt,ATF];omega) (SM H H5 c ha la rg gs ws h0 l0)
  ⟨r3,la,_,_,rfl,Am.refl _,n30,.inl rfl,lP,lQ⟩ ?_ ?_ ?_
 .intro i σ H6 _ hI;refine SM.elim hI fun x y v u eσ sm nx ny rx ry=>?_;exact⟨SqL.of (sm _ _ jd),SqL.of (sm _ _ jc)⟩
 .intro i xw xg σ H6 T0 hxw je hI hT;refine SM.elim hI fun x y v u eσ fK nx ny oU oV=>?_;subst eσ;have hi:i<ws.length:=by
   have h:=(AS7.mp hxw).1;rw[ASt]at h;omega
  have hi1:i+1<gs.length:=by omega
  obtain⟨p1,e1,k1⟩:=lM.get (Io hi);obtain rfl:xw=.ref p1:=AS5 (hxw.symm.trans e1);obtain⟨p2,e2,k2⟩:=lO.get (Io hi1);obtain rfl:xg=.ref p2:=by
   rw[AS4,AUL,AWx 1 i,<-AS4]at je;exact AS5 (je.symm.trans e2)
  (refine⟨T0,_,rfl,SqT.of Ag,rfl,_,_,rfl,_,_,rfl,rfl,?_⟩);have u0:=Ah hT (.tup [.ref p1,.ref p2]);have sm:=fK.trans u0;have rx:=oU.keep u0;have ry:=oV.keep u0;clear fK oU oV;generalize upd H6 T0 (.tup [.ref p1,.ref p2])=H7 at *;obtain⟨M,o⟩:=Po.pst_o2 hb bg bw eh el i;obtain⟨lx,ly⟩:=AIW i;have bi:=bnd i (by omega);have g9:=bw _ (List.getElem_mem hi);have fm:=bg _ (List.getElem_mem hi1);have gw:ws.getD i 0=ws[i]:=by rw[ASu,Io hi];rfl
  have gg:gs.getD (i+1) 0=gs[i+1]:=by rw[ASu,Io hi1];rfl
  have es1:(Po.pst gs ws h0 l0 (i+1)).1=Po.padd (Po.pst gs ws h0 l0 i).1 (Po.pscale (Po.plean (Po.pst gs ws h0 l0 i).2 (Po.pst gs ws h0 l0 i).1 ws[i]) gs[i+1]):=by rw[<-gw,<-gg];rfl
  have es2:(Po.pst gs ws h0 l0 (i+1)).2=Po.plean (Po.pst gs ws h0 l0 i).2 (Po.pst gs ws h0 l0 i).1 ws[i]:=by rw[<-gw];rfl
  have x0:(2*b+2)*(i+1)+2*b+2<=1500:=by
   have h:=bnd (i+1) (by omega);rw[AVF]at h;omega
  generalize (2*b+2)*(i+1)=N at *;generalize (Po.pst gs ws h0 l0 i).1=hs at *;generalize (Po.pst gs ws h0 l0 i).2=ls at *;have dw:=den_pos ws[i];have rJ:=Po.ov_pscale o.oh g9;have ne1:M*(ws[i].den:Int)≠0:=Int.mul_ne_zero o.ne (by omega);have rK:=o.bm.mul g9.2;have l1:=Po.pscale_length hs ws[i];refine⟨_,rfl,_,rfl,_,rfl,x,p1,hs,_,rfl,rx,k1.keep sm,by omega,cX o.oh o.ne o.bm (by omega),g9.mono (by omega),fun r1 H8 s8 n8 hC=>?_⟩;refine⟨r1,_,rfl,hC,by omega,fun r9 H9 s9 n9 rM=>?_⟩;have l2:=Po.strip_length (0::Po.pscale hs ws[i]);simp only[ASx]at l2;refine⟨y,r9,ls,_,rfl,ry.keep (s8.trans s9),rM,by omega,by omega,cX o.ol o.ne o.bm (by omega),cX (Po.ov_shift rJ) ne1 rK (by omega),fun r10 fc dN n10 lR=>?_⟩;have ob:=o.bead g9;have gQ:Rw fc r10 (Po.plean ls hs ws[i]):=lR;have eG:=s8.trans (s9.trans dN);have l3:=Po.plean_length ls hs ws[i];refine⟨_,rfl,_,rfl,_,rfl,r10,p2,_,_,rfl,gQ,k2.keep (sm.trans eG),by omega,cX ob.ol ob.ne ob.bm (by omega),fm.mono (by omega),fun r11 oj i3 x5 lT=>?_⟩;have l4:=Po.pscale_length (Po.plean ls hs ws[i]) gs[i+1];have dg:=den_pos gs[i+1];refine⟨x,r11,hs,_,rfl,rx.keep (eG.trans i3),lT,by omega,by omega,cX o.oh o.ne o.bm (by omega),cX (Po.ov_pscale ob.ol fm) (Int.mul_ne_zero ob.ne (by omega)) (ob.bm.mul fm.2) (by omega),fun r12 qB s12 n12 lU=>?_⟩;have lV:=eG.trans (i3.trans s12);have f0:=fN.trans sm;refine⟨r12,r10,_,_,rfl,sm.trans lV,(f0.trans (eG.trans i3)).free n12,.inr ((f0.trans (s8.trans s9)).free n10),?_,?_⟩
  .rw[es1];exact lU
  .rw[es2];exact gQ.keep (i3.trans s12)
 .intro σ H6 hI;refine SM.elim hI fun x y v u eσ sm nx ny rx ry=>?_;subst eσ;refine⟨_,rfl,_,rfl,(by show 2<=sizeLine;decide),fun r hr'=>?_⟩;have u0:=Ah hr' (.tup [.ref x,.ref y]);exact q r x y _ ((fN.trans sm).trans u0) Ag nx ny (rx.keep u0) (ry.keep u0)
theorem ADg:Al ["cord"] ["cord"] (Af Xm):=fsc
theorem AD9(F:Fun K "held" "held" Xm f fd)(T:Txt mg)(cZ:Cal P w K mg base "ends" 5 ["cord","height","lean"] (Px af)):BP P w K mg base CX0 6 f fd ["cord"] (KN af ZZ):=by
 refine F.okk ADg fun vs H Q E h=>?_;obtain⟨c,ga,wa,gs,ws,rfl,co,sz,q⟩:=h;walk_at "c";(refine⟨_,(Ae (Aj (ixT (Ai cZ hr (Aa (pv 0) (Aa (DQ Ab) (Aa (DQ (Aa (Bb (Aa Ad (Aa Ad Ab))) Ab)) Ab)))) Ad))),?_⟩);refine⟨_,rfl,(by show 0<=sizeLine;decide),fun a ha=>⟨(by show 2<=sizeLine;decide),fun p hp=>⟨(by show 1<=sizeLine;decide),fun b hb=>?_⟩⟩⟩;have s1:=Ah ha (.lst []);have s2:=Ah hp (.tup [.int 1,.int 1]);(have s3:=Ah hb (.lst [.ref p]);have dj:=s1.trans (s2.trans s3);refine⟨c,ga,wa,a,b,gs,ws,[],[1],rfl,co.keep dj,⟨[],(s2.trans s3) _ _ Ag,.nil⟩,⟨[p],Ag,.cons ((Pq.of Pr.new ⟨rfl,rfl⟩:Pq _ p 1).keep s3) .nil⟩,sz,by simp,by simp,by simp,by simp,fun r x y H' s' er nx ny rx ry=>?_⟩);exact⟨r,_,_,_,rfl,rfl,SqT.of er,rfl,q x H' (dj.trans s') (dj.free nx) rx⟩
theorem ADQ:Al ["cord"] ["cord"] (Af U0):=fsc
theorem ABU(F:Fun K "loose" "loose" U0 f fd)(T:Txt mg)(cZ:Cal P w K mg base "ends" 5 ["cord","height","lean"] (Px af)):BP P w K mg base CX0 6 f fd ["cord"] (KN af Um):=by
 refine F.okk ADQ fun vs H Q E h=>?_;obtain⟨c,ga,wa,gs,ws,rfl,co,sz,q⟩:=h;walk_at "c";(refine⟨_,(Ae (Aj (ixT (Ai cZ hr (Aa (pv 0) (Aa (DQ Ab) (Aa (DQ (Aa (Bb (Aa Ad (Aa Ad Ab))) Ab)) Ab)))) Ad))),?_⟩);refine⟨_,rfl,(by show 0<=sizeLine;decide),fun a ha=>⟨(by show 2<=sizeLine;decide),fun p hp=>⟨(by show 1<=sizeLine;decide),fun b hb=>?_⟩⟩⟩;have s1:=Ah ha (.lst []);have s2:=Ah hp (.tup [.int 1,.int 1]);(have s3:=Ah hb (.lst [.ref p]);have dj:=s1.trans (s2.trans s3);refine⟨c,ga,wa,a,b,gs,ws,[],[1],rfl,co.keep dj,⟨[],(s2.trans s3) _ _ Ag,.nil⟩,⟨[p],Ag,.cons ((Pq.of Pr.new ⟨rfl,rfl⟩:Pq _ p 1).keep s3) .nil⟩,sz,by simp,by simp,by simp,by simp,fun r x y H' s' er nx ny rx ry=>?_⟩);refine⟨r,_,_,_,rfl,rfl,SqT.of er,rfl,q y H' (dj.trans s') ?_ ry⟩;rcases ny with rfl|ny
 .exact(s1.trans s2).free hb
 .exact dj.free ny
def sgs(qs:List Rat):List Int:=qs.map fun q=>sgn q.num
def kept(qs:List Rat):List Int:=(sgs qs).filter fun n=>!decide (V.int n=V.int 0)
def BV(qs:List Rat):Nat:=cnt (fun i=>!decide (V.int ((kept qs).getD i 0)=V.int (((kept qs).drop 1).getD i 0))) ((kept qs).length-1)
def Vp:Sp:=fun vs H Q _=>∃a qs,vs=[.ref a]/\Rw H a qs/\qs.length<=1000/\∀r H',Am H H'->H r=none->H' r=some (.lst ((sgs qs).map V.int))->Q (.ref r) H'
def Qw:Sp:=fun vs H Q _=>∃a qs,vs=[.ref a]/\Rw H a qs/\qs.length<=1000/\∀H',Am H H'->Q (.int (BV qs)) H'
theorem ABS:Al ["row"] ["row"] (Af Pn):=fsc
theorem ACd(F:Fun K "signs" "signs" Pn f fd)(T:Txt mg)(aS:Cal P w K mg base "side" 1 ["one"] IV):BP P w K mg base CX0 2 f fd ["row"] Vp:=by
 refine F.okk ABS fun vs H Q E h=>?_;obtain⟨a,qs,rfl,ra,hl,q⟩:=h;walk_at "c";obtain⟨xa,ea,la⟩:=ra.there;refine⟨_,(Ae (Aj (Ce (N':=["number"]) (fsc:=Af Pn) (N:=["row"]) [] ⟨rfl,by decide +kernel,by decide +kernel,by decide +kernel,rfl,by decide +kernel,rfl,by decide +kernel⟩ (Bl (pv 0)) (fun _ _ _ _=>(Ai aS hr (Aa (pv 0) Ab)))))),?_⟩;refine⟨_,rfl,a,rfl,⟨_,SqL.of ea⟩,Q5 (by omega) ra (fun q=>sgn q.num) ?_ fun H1 D s1 nD eD=>q D H1 s1 nD eD⟩;intro _ _ _ _ p x H1 R hx kp s1 fin;exact⟨_,rfl,p,_,_,rfl,kp,fin⟩
theorem Vg:Al ["row","sides"] ["row"] (Af Lf):=fsc
theorem ABu(F:Fun K "turns" "turns" Lf f fd)(T:Txt mg)(dO:Cal P w K mg base "signs" 2 ["row"] Vp):BP P w K mg base CX0 3 f fd ["row"] Qw:=by
 refine F.okk Vg fun vs H Q E h=>?_;obtain⟨a,qs,rfl,ra,hl,q⟩:=h;refine⟨rfl,fun cdv A outer s hr=>?_⟩;refine⟨_,(Ac (Od (i:=1) Vg.nd rfl (Or.inl rfl) (N':=["sign"]) (fsc:=Af Lf) (N:=["row","sides"]) ["sign"] [] ⟨rfl,by decide +kernel,by decide +kernel,rfl,by decide +kernel,by decide +kernel⟩ (Bl (Ai dO hr (Aa (pv 0) Ab))) (fun _ _ _ _=>(T5 (N':=["sign"]) (i:=0) (by decide +kernel) rfl rfl)) (fun _ _ _ _=>(ZF (Ak GD (pv 0) Ad (Ar _)))) (fun _ _ _ _=>(pv 0)))
   (Ae (Aj (Ax Aw rfl T.z_len AS6 (Aa (Qe (N':=["sign","behind"]) (fsc:=Af Lf) (N:=["row","sides"]) ["sign","behind"] [] ⟨rfl,by decide +kernel,by decide +kernel,rfl,by decide +kernel,by decide +kernel⟩ (QK rfl T.z_zip (Aa (pv 1) (Aa (DX FW (pv 1) (DR Ad) Ds) Ab))) (fun _ _ _ _=>(Pa (N':=["sign","behind"]) (i:=0) (j:=1) rfl (by decide +kernel) rfl rfl rfl rfl)) (fun _ _ _ _=>(ZF (Ak GD (pv 0) (pv 1) (Ar _)))) (fun _ _ _ _=>(pv 0))) Ab))))),?_⟩
 have lk:(kept qs).length<=1000:=ATG (AUk _ _) (by unfold sgs;rw[ASt];exact hl);refine⟨_,rfl,a,qs,rfl,ra,hl,fun r1 H1 s1 n1 e1=>?_⟩;refine⟨r1,rfl,⟨_,SqL.of e1⟩,Ut (ns:=sgs qs) (by unfold sgs;rw[ASt];omega) e1 (fun n=>!decide (V.int n=V.int 0)) ?_ ?_ fun H2 D s2 nD eD=>?_⟩
 .intro _ _ _ _ n H2 R fin;exact⟨_,rfl,rfl,_,rfl,fin⟩
 .intro _ _ _ _ n H2 R fin;exact⟨_,rfl,fin⟩
 have i9:H2 D=some (.lst ((kept qs).map V.int)):=eD;refine⟨_,rfl,_,rfl,_,rfl,D,_,rfl,SqL.of i9,fun l hl'=>?_⟩;have u:=Ah hl' (.lst (DP ((kept qs).map V.int) (some 1) none));have ec:DP ((kept qs).map V.int) (some 1) none=((kept qs).drop 1).map V.int:=Hl V.int (kept qs) 1;have el:(upd H2 l (.lst (DP ((kept qs).map V.int) (some 1) none))) l=some (.lst (((kept qs).drop 1).map V.int)):=by rw[Ag,ec]
 refine⟨D,l,rfl,⟨_,SqL.of (u _ _ i9)⟩,⟨_,SqL.of Ag⟩,Zx (ns:=kept qs) (ms:=(kept qs).drop 1) ((kept qs).length-1) (by rw[ATF];omega) (by omega) (u _ _ i9) el (fun x y=>!decide (V.int x=V.int y)) ?_ ?_ fun H3 D3 xs s3 x6 i8 hx=>?_⟩
 .intro _ _ _ _ x y H3 R fin;exact⟨_,rfl,_,rfl,rfl,_,rfl,fin⟩
 .intro _ _ _ _ x y H3 R fin;exact⟨_,rfl,fin⟩
 refine⟨D3,_,rfl,.inl (SqL.of i8),?_⟩;have hx':xs.length=BV qs:=hx;rw[hx'];exact q H3 (s1.trans (s2.trans (u.trans s3)))
def Ue(ks:List Int):Nat:=L3.cnt (fun i=>!decide (V.int (ks.getD i 0)=V.int ((ks.drop 1).getD i 0))) (ks.length-1)
theorem Bj(qs:List Rat):BV qs=Ue (kept qs):=rfl
theorem Xq{xs ys:List Int}{k:Nat}(h:k<xs.length):(xs++ys).getD k 0=xs.getD k 0:=by
 rw[ASu,ASu,ATi h]
theorem Ff(ks:List Int)(z a:Int):Ue (ks++[z]++[a])=Ue (ks++[z])+if z=a then 0 else 1:=by
 unfold Ue;have l1:(ks++[z]++[a]).length-1=ks.length+1:=by simp
 have l2:(ks++[z]).length-1=ks.length:=by simp
 rw[l1,l2,L3.cnt];have ed:(ks++[z]++[a]).drop 1=(ks++[z]).drop 1++[a]:=by
  rw[List.drop_append_of_le_length (by simp)]
 congr 1
 .refine AAs fun i hi=>?_;have a1:(ks++[z]++[a]).getD i 0=(ks++[z]).getD i 0:=Xq (by simp;omega);have a2:((ks++[z]).drop 1++[a]).getD i 0=((ks++[z]).drop 1).getD i 0:=Xq (by simp;omega);rw[ed,a1,a2]
 .have g1:(ks++[z]++[a]).getD ks.length 0=z:=by
   rw[Xq (by simp),ASu,ATD (Nat.le_refl _),Nat.sub_self];rfl
  have g2:((ks++[z]++[a]).drop 1).getD ks.length 0=a:=by
   have hl:((ks++[z]).drop 1).length=ks.length:=by simp
   rw[ed,ASu,ATD (by rw[hl];exact Nat.le_refl _),hl,Nat.sub_self];rfl
  rw[g1,g2];by_cases h:z=a<;>simp[h]
theorem DK{x:Rat}(h:0<x):sgn x.num=1:=by
 have h0:0<=x.num:=AVE.mpr (Rat.le_of_lt h);have h1:x.num≠0:=fun z=>Rat.ne_of_gt h (AT4.mp z);unfold sgn;rw[if_pos (by omega)]
theorem Gy{x:Rat}(h:x<0):sgn x.num=-1:=by
 have h1:=DK (show 0 < -x by grind);rw[Rat.neg_num]at h1;unfold sgn at h1 ⊢
 split at h1
 .rw[if_neg (by omega),if_pos (by omega)]
 .split at h1<;>omega
theorem Z1{x:Rat}(h:x≠0):sgn x.num≠0:=fun z=>h (AT4.mp (PN.mp z))
theorem We{x:Rat}(h:x≠0):0<x\/x<0:=by
 rcases(Rat.le_total:0<=x\/x<=0) with z | z
 .exact .inl (by grind)
 .exact .inr (by grind)
theorem Hm(xs:List Rat){y:Rat}(h:y=0):kept (xs++[y])=kept xs:=by
 unfold kept sgs;rw[AS0,AVl];have:sgn y.num=0:=by rw[h];rfl
 simp[this]
theorem Er(xs:List Rat){y:Rat}(h:y≠0):kept (xs++[y])=kept xs++[sgn y.num]:=by
 unfold kept sgs;rw[AS0,AVl];have:=Z1 h;simp[this]
def rq(gs ws:List Rat)(lo:Bool)(t:Rat)(k:Nat):Rat:=if lo=true/\k=ws.length then(Po.stp gs ws t 0 1 k).2 else(Po.stp gs ws t 0 1 k).1
def Bx(gs ws:List Rat)(lo:Bool)(t:Rat):List Rat:=(List.range (ws.length+1)).map (rq gs ws lo t)
def J8(C:Addr):Sp:=fun vs H Q _=>∃(c ga wa tp:Addr) (gs ws:List Rat) (lo:Bool) (t:Rat),vs=[.ref c,.str (if lo then "loose" else "held"),.ref tp]/\Co C H c ga wa gs ws/\Pq H tp t/\Dy gs ws/\Bq 400 t/\∀r rs H',Am H H'->H r=none->Rw H' r rs->rs.length=ws.length+1->sgs rs=sgs (Bx gs ws lo t)->Q (.ref r) H'
def Qc(C:Addr):Sp:=fun vs H Q _=>∃(c ga wa tp:Addr) (gs ws:List Rat) (lo:Bool) (t:Rat),vs=[.ref c,.str (if lo then "loose" else "held"),.ref tp]/\Co C H c ga wa gs ws/\Pq H tp t/\Dy gs ws/\Bq 400 t/\∀H',Am H H'->Q (.int (BV (Bx gs ws lo t))) H'
def Lk(C:Addr):Sp:=fun vs H Q _=>∃(c ga wa tp:Addr) (gs ws:List Rat) (lo:Bool) (t:Rat),vs=[.ref c,.str (if lo then "loose" else "held"),.ref tp]/\Co C H c ga wa gs ws/\Pq H tp t/\Dy gs ws/\Bq 400 t/\∀H',Am H H'->Q (.int ((BV (Bx gs ws lo t):Int)+if rq gs ws lo t ws.length=0 then 1 else 0)) H'
theorem WW(gs ws:List Rat)(lo:Bool)(t:Rat):Bx gs ws lo t=(List.range ws.length).map (fun k=>(Po.stp gs ws t 0 1 k).1)++[rq gs ws lo t ws.length]:=by
 unfold Bx;rw[ATh,AS0]
 congr 1
 refine List.map_congr_left fun k hk=>?_;rw[AUw]at hk;unfold rq;rw[if_neg (by omega)]
theorem TQ{a b:List Rat}(h:sgs a=sgs b):BV a=BV b:=by
 unfold BV kept;rw[h]
theorem Pu(a b:List Rat):sgs (a++b)=sgs a++sgs b:=AS0
theorem QZ{x:Rat}{T M:Int}(hM:0<M)(e:x=(T:Rat)/(M:Rat)):sgn x.num=sgn ((T:Rat)).num:=by
 have e1:x.num*M=T*x.den:=by
  have e1:(x.num:Rat)/((x.den:Int):Rat)=(T:Rat)/(M:Rat):=(Fw x).trans e;rw[<-AUQ,<-AUQ]at e1;exact(AU4 (by have:=den_pos x;omega) (by omega)).mp e1
 have hd:=den_pos x;show sgn x.num=sgn T;have pos:∀{a b c d:Int},0<b->0<d->a*b=c*d->0<a->0<c:=fun {a b c d} hb hd e ha=>by
  have h1:=ATg ha hb;rw[e]at h1;rcases AVu c 0 with z|z|z
  .have:=ATg (show 0 < -c by omega) hd;rw[AVy]at this;omega
  .rw[z,Int.zero_mul]at h1;omega
  .exact z
 have en:(-x.num)*M=(-T)*x.den:=by rw[AVy,AVy,e1]
 unfold sgn;by_cases h1:x.num > 0
 .rw[if_pos h1,if_pos (pos hM hd e1 h1)]
 .have t1:¬T > 0:=fun z=>h1 (pos hd hM e1.symm z);rw[if_neg h1,if_neg t1];by_cases h2:x.num<0
  .have t2:T<0:=by
    have:=pos hM hd en (by omega);omega
   rw[if_pos h2,if_pos t2]
  .have t2:¬T<0:=fun z=>h2 (by
    have:=pos hd hM en.symm (by omega);omega)
   rw[if_neg h2,if_neg t2]
theorem AJn{n b c:Nat}{h l p g:Rat}{th tl m:Int}(r:Po.R3 n h l th tl m)(bp:Bq b p)(bg:Bq c g) :
  Po.R3 (n+b+c+2) (h+g*(l-p*h)) (l-p*h) (g.den*p.den*th+g.num*(p.den*tl-p.num*th)) (g.den*(p.den*tl-p.num*th)) (m*p.den*g.den):=by
 have d1:=den_pos p;have d2:=den_pos g;have hm:=r.pos;have e1:=Fw p;have e2:=Fw g;have n1:=CQ p;have n2:=CQ g;have n3:(m:Rat)≠0:=fun z=>by have:=Rat.intCast_eq_zero_iff.mp z;omega
 have eh:=r.eh;have el:=r.el;have bl:Bt (n+b+1) (p.den*tl-p.num*th):=by
  rw[AUh];exact JZ ((bp.2.mul r.bl).mono (by omega)) ((bp.1.mul r.bh).mono (by omega)).neg
 refine⟨ATg (ATg hm d1) d2,?_,?_,(JZ (n:=n+b+c+1) (((bg.2.mul bp.2).mul r.bh).mono (by omega)) ((bg.1.mul bl).mono (by omega))).mono (by omega),(bg.2.mul bl).mono (by omega),((r.bm.mul bp.2).mul bg.2).mono (by omega)⟩
 .simp only[Rat.intCast_mul,Rat.intCast_add,Rat.intCast_sub];(generalize (p.num:Rat)=a at *);generalize ((p.den:Int):Rat)=b' at *;generalize (g.num:Rat)=c' at *;generalize ((g.den:Int):Rat)=d at *;walk_at "z";subst eh el e1 e2;grind
 .simp only[Rat.intCast_mul,Rat.intCast_sub];(generalize (p.num:Rat)=a at *);generalize ((p.den:Int):Rat)=b' at *;generalize ((g.den:Int):Rat)=d at *;walk_at "z";subst eh el e1;grind
theorem Cu:Al ["cord","end","t","gaps","height","lean","row","weight","gap","pull"] ["cord","end","t"] (Af Qs):=fsc
theorem AAc(F:Fun K "row_at" "row_at" Qs f fd)(T:Txt mg)(aX:Cal P w K mg base "times" 2 ["one","other"] (Bw 8000 (·*·)))(ap:Fg P w K mg base af "gaps" 1 ["self"] (Ii af))(aj:Fg P w K mg base af "weights" 1 ["self"] (Ec af)):BP P w K mg base CX0 5 f fd ["cord","end","t"] (J8 af):=by
 refine F.okk Cu fun vs H Q E h=>?_;obtain⟨c,ga,wa,tp,gs,ws,lo,t,rfl,co,kt,fine,bt,q⟩:=h;walk_at "c";have aB:=fine.len;have aC:=fine.most;walk_at "i"
 refine⟨_,(Ac (pS 3 Cu.nd (GC ap hr (pv 0)))
   (Ac (pS 4 Cu.nd (ixT (ixL (pv 3) Ad) Ad))
   (Ac (pS 5 Cu.nd (ixT (ixL (pv 3) Ad) Ad))
   (Ac (pS 6 Cu.nd (DQ Ab))
   (Ac (Do ATI rfl (QK rfl T.z_zip (Aa (GC aj hr (pv 0)) (Aa (DX FW (pv 3) (DR Ad) Ds) Ab))) (JV rfl (Bk (gN 7 Cu.nd) (Bk (gN 8 Cu.nd) Ga)))
    (Ac (Ca (Cp ATL ATN ATO Cw (pv 6) (Aa (Bb (Aa (pv 4) (Aa Ad Ab))) Ab)))
    (Ac (pS 9 Cu.nd (Ai aX hr (Aa (pv 2) (Aa (pv 7) Ab))))
    (Ac (pS 5 Cu.nd (An Jh (An BZ (ixT (pv 9) Ad) (pv 5)) (An BZ (ixT (pv 9) Ad) (pv 4))))
    (Ac (pS 4 Cu.nd (An Bp (An BZ (An BZ (ixT (pv 8) Ad) (ixT (pv 9) Ad)) (pv 4)) (An BZ (ixT (pv 8) Ad) (pv 5))))
    (Ae (pS 5 Cu.nd (An BZ (ixT (pv 8) Ad) (pv 5)))))))))
   (Ac (Ca (Cp ATL ATN ATO Cw (pv 6) (Aa (Bb (Aa (QC (Ak Be (pv 1) Ao (Ar _)) (pv 4) (pv 5)) (Aa Ad Ab))) Ab)))
   (Ae (Aj (pv 6))))))))),?_⟩
 obtain⟨dx,e⟩:=co.1;(refine⟨_,rfl,c,dx,_,rfl,e,rfl,c,ga,wa,gs,ws,rfl,co,fun rg H1 s1 n1 ⟨pg,eg,kg⟩=>?_⟩;have lg:=kg.length;have hg0:0<gs.length:=by omega)
 obtain⟨p0,e0,k0⟩:=kg.get (Io hg0);have lJ:gs.getD 0 0=gs[0]:=by rw[ASu,Io hg0];rfl
 (refine⟨_,rfl,rg,_,_,_,rfl,rfl,SqL.of eg,Dh (j:=0) e0,_,_,_,_,rfl,rfl,k0.sq,rfl,?_⟩);(refine⟨_,rfl,rg,_,_,_,rfl,rfl,SqL.of eg,Dh (j:=0) e0,_,_,_,_,rfl,rfl,k0.sq,rfl,?_⟩);refine⟨(by show 0<=sizeLine;decide),fun D hD=>?_⟩;have u2:=Ah hD (.lst []);have oW:=co.keep (s1.trans u2);obtain⟨fj,e2⟩:=oW.1;refine⟨_,rfl,c,fj,_,rfl,e2,rfl,c,ga,wa,gs,ws,rfl,oW,fun cP H4 s4 n4 ⟨pw,ew,kw⟩=>?_⟩;have lw:=kw.length;have lK:=(u2.trans s4) _ _ eg;refine⟨_,rfl,_,rfl,rg,_,rfl,SqL.of lK,fun l hl=>?_⟩;(have s5:=Ah hl (.lst (DP (pg.map V.ref) (some 1) none));have ec:DP (pg.map V.ref) (some 1) none=(pg.drop 1).map V.ref:=Hl V.ref pg 1;have jc:(upd H4 l (.lst (DP (pg.map V.ref) (some 1) none))) l=some (.lst ((pg.drop 1).map V.ref)):=by rw[Ag,ec])
 have jd:=s5 _ _ ew;have lM:=kw.keep s5;have lO:=kg.keep (u2.trans (s4.trans s5));have j6:(upd H4 l (.lst (DP (pg.map V.ref) (some 1) none))) D=some (.lst []):=(s4.trans s5) _ _ Ag;have rN:=kt.keep (s1.trans (u2.trans (s4.trans s5)));have rO:cP≠D:=fun z=>by
  rw[z,Ag]at n4;cases n4
 have rP:l≠D:=(BL (s4 _ _ Ag) hl).symm;have fN:Am H1 (upd H4 l (.lst (DP (pg.map V.ref) (some 1) none))):=u2.trans (s4.trans s5);generalize upd H4 l (.lst (DP (pg.map V.ref) (some 1) none))=H5 at *;refine⟨cP,l,rfl,⟨_,SqL.of jd⟩,⟨_,SqL.of jc⟩,?_⟩;have g6:=fine.bq.1 _ (List.getElem_mem hg0);have r0:Po.R3 (102+604*0) (Po.stp gs ws t 0 1 0).1 (Po.stp gs ws t 0 1 0).2 gs[0].num gs[0].den gs[0].den:=by
  refine⟨den_pos _,?_,?_,g6.1.mono (by decide),g6.2.mono (by decide),g6.2.mono (by decide)⟩
  .show 0+gs.getD 0 0*1=_;rw[lJ,Fw,Rat.zero_add,AW0]
  .show(1:Rat)=_;have:=CQ gs[0];grind
 refine Tt (xs:=pw.map V.ref) (ys:=(pg.drop 1).map V.ref) ws.length (by rw[ASt,ASt,ATF];omega) (fun i σ H'=>∃(th tl m:Int) (v u x:Option V),σ=[some (.ref c),some (.str (if lo then "loose" else "held")),some (.ref tp),some (.ref rg),some (.int th),some (.int tl),some (.ref D),v,u,x] /\
   Po.R3 (102+604*i) (Po.stp gs ws t 0 1 i).1 (Po.stp gs ws t 0 1 i).2 th tl m/\Am H1 H'/\H' cP=some (.lst (pw.map V.ref))/\H' l=some (.lst ((pg.drop 1).map V.ref))/\Pqs H' pw ws/\Pqs H' pg gs/\Pq H' tp t /\
   ∃rs,Rw H' D rs/\rs.length=i/\sgs rs=sgs ((List.range i).map fun k=>(Po.stp gs ws t 0 1 k).1))
  ⟨_,_,_,_,_,_,rfl,r0,fN,jd,jc,lM,lO,rN,[],⟨[],j6,.nil⟩,rfl,rfl⟩ ?_ ?_ ?_
 .rintro i σ H6 _ ⟨_,_,_,_,_,_,rfl,_,_,a1,a2,_⟩;exact⟨SqL.of a1,SqL.of a2⟩
 .rintro i xw xg σ H6 T0 hxw je ⟨th,tl,m,v,u,x,rfl,r3,fK,oX,oY,lW,lX,kt0,rs,oZ,lr,es⟩ hT;have hi:i<ws.length:=by
   have h:=(AS7.mp hxw).1;rw[ASt]at h;omega
  have hi1:i+1<gs.length:=by omega
  obtain⟨p1,e1,k10⟩:=lW.get (Io hi);obtain rfl:xw=.ref p1:=AS5 (hxw.symm.trans e1);obtain⟨p2,e2,o3⟩:=lX.get (Io hi1);obtain rfl:xg=.ref p2:=by
   rw[AS4,AUL,AWx 1 i,<-AS4]at je;exact AS5 (je.symm.trans e2)
  (refine⟨T0,_,rfl,SqT.of Ag,rfl,_,_,rfl,_,_,rfl,rfl,?_⟩);have u0:=Ah hT (.tup [.ref p1,.ref p2]);have rr:=oZ.keep u0;have rQ:=u0 _ _ oX;have rR:=u0 _ _ oY;have kwa:=lW.keep u0;have rS:=lX.keep u0;have kta:=kt0.keep u0;have rT:=fK.trans u0;have rV:=k10.keep u0;have rX:=o3.keep u0;clear oZ oX oY lW lX kt0 fK k10 o3;generalize upd H6 T0 (.tup [.ref p1,.ref p2])=H7 at *;have g9:=fine.bq.2 _ (List.getElem_mem hi);have fm:=fine.bq.1 _ (List.getElem_mem hi1);have gw:ws.getD i 0=ws[i]:=by rw[ASu,Io hi];rfl
  have gg:gs.getD (i+1) 0=gs[i+1]:=by rw[ASu,Io hi1];rfl
  obtain⟨x4,e4,_⟩:=rr.there;refine⟨_,rfl,.inl ⟨rfl,_,SqL.of e4⟩,_,rfl,(by show 2<=sizeLine;decide),fun pz hpz=>?_⟩;have u8:=Ah hpz (.tup [.int th,.int 1]);have kz:Pq (upd H7 pz (.tup [.int th,.int 1])) pz (th:Rat):=Pq.int;obtain⟨dZ,hxs,gR,hC⟩:=rr.app u8 kz;refine⟨D,dZ,_,rfl,rfl,hxs,by omega,?_⟩;have gY:H1 D=none:=hD;have rY:Am H1 (upd (upd H7 pz (.tup [.int th,.int 1])) D (.lst (dZ++[.ref pz]))):=Bd (rT.trans u8) gY _;have rZ:(upd (upd H7 pz (.tup [.int th,.int 1])) D (.lst (dZ++[.ref pz]))) cP=some (.lst (pw.map V.ref)):=by rw[Az rO];exact u8 _ _ rQ
  have sd:(upd (upd H7 pz (.tup [.int th,.int 1])) D (.lst (dZ++[.ref pz]))) l=some (.lst ((pg.drop 1).map V.ref)):=by rw[Az rP];exact u8 _ _ rR
  have sf:=(kwa.keep u8).updL (ys:=dZ++[.ref pz]) hxs;have sj:=(rS.keep u8).updL (ys:=dZ++[.ref pz]) hxs;have kt9:=(kta.keep u8).updL (ys:=dZ++[.ref pz]) hxs;have lY:=(rV.keep u8).updL (ys:=dZ++[.ref pz]) hxs;have lZ:=(rX.keep u8).updL (ys:=dZ++[.ref pz]) hxs;generalize upd (upd H7 pz (.tup [.int th,.int 1])) D (.lst (dZ++[.ref pz]))=H9 at *;refine⟨_,rfl,_,rfl,tp,p1,_,_,rfl,kt9,lY,bt.mono (by decide),g9.mono (by decide),fun pp fc dN kp=>?_⟩;have hG:=lZ.keep dN;have bp:Bq 501 (t*ws[i]):=bt.mul g9;replace kp:Pq fc pp (t*ws[i]):=kp;have r4:=AJn r3 bp fm;obtain⟨hm,l7,o7,b1,b2,b3⟩:=id r3;have bl:Bt (102+604*i+501+1) ((t*ws[i]).den*tl-(t*ws[i]).num*th):=by
   rw[AUh];exact JZ ((bp.2.mul b2).mono (by omega)) ((bp.1.mul b1).mono (by omega)).neg
  refine⟨_,rfl,_,_,_,_,rfl,rfl,kp.sq,rfl,_,rfl,_,_,rfl,rfl,Br bp.2 b2 (by omega),_,rfl,_,_,_,_,rfl,rfl,kp.sq,rfl,_,rfl,_,_,rfl,rfl,Br bp.1 b1 (by omega),_,_,rfl,rfl,?_⟩;refine⟨_,rfl,_,_,_,_,rfl,rfl,hG.sq,rfl,_,rfl,_,_,_,_,rfl,rfl,kp.sq,rfl,_,_,rfl,rfl,Br fm.2 bp.2 (by omega),_,rfl,_,_,rfl,rfl,Br (fm.2.mul bp.2) b1 (by omega),_,rfl,_,_,_,_,rfl,rfl,hG.sq,rfl,_,rfl,_,_,rfl,rfl,Br fm.1 bl (by omega),_,_,rfl,rfl,?_⟩;refine⟨_,rfl,_,_,_,_,rfl,rfl,hG.sq,rfl,_,rfl,_,_,rfl,rfl,Br fm.2 bl (by omega),?_⟩;have es1:(Po.stp gs ws t 0 1 (i+1)).1=(Po.stp gs ws t 0 1 i).1+gs[i+1]*((Po.stp gs ws t 0 1 i).2-t*ws[i]*(Po.stp gs ws t 0 1 i).1):=by rw[<-gw,<-gg];rfl
  have es2:(Po.stp gs ws t 0 1 (i+1)).2=(Po.stp gs ws t 0 1 i).2-t*ws[i]*(Po.stp gs ws t 0 1 i).1:=by rw[<-gw];rfl
  rw[<-es1,<-es2]at r4;refine⟨_,_,_,_,_,_,rfl,r4.mono (by omega),rY.trans dN,dN _ _ rZ,dN _ _ sd,sf.keep dN,sj.keep dN,kt9.keep dN,_,hC.keep dN,by simp[lr],?_⟩;rw[ATh,AS0,Pu,Pu,es];show _++[sgn ((th:Rat)).num]=_++[sgn (Po.stp gs ws t 0 1 i).1.num];rw[QZ hm l7]
 .rintro σ H6 ⟨th,tl,m,v,u,x,rfl,r3,sm,x9,yg,yh,yj,yk,rs,rr,lr,es⟩;obtain⟨x4,e4,_⟩:=rr.there;obtain⟨hm,l7,o7,_⟩:=id r3;have fin:∀(z:Int),sgn ((z:Rat)).num=sgn (rq gs ws lo t ws.length).num->∀pz,H6 pz=none->∀xs,(upd H6 pz (.tup [.int z,.int 1])) D=some (.lst xs)->Rw (upd (upd H6 pz (.tup [.int z,.int 1])) D (.lst (xs++[.ref pz]))) D (rs++[(z:Rat)])->Q (.ref D) (upd (upd H6 pz (.tup [.int z,.int 1])) D (.lst (xs++[.ref pz]))):=fun z ez pz hpz xs hxs su=>by
   refine q D _ _ (s1.trans (Bd (sm.trans (Ah hpz _)) hD _)) (s1.free hD) su (by simp[lr]) ?_;rw[WW,Pu,Pu,es];show _++[sgn ((z:Rat)).num]=_++[sgn (rq gs ws lo t ws.length).num];rw[ez]
  refine⟨_,rfl,.inl ⟨rfl,_,SqL.of e4⟩,_,rfl,rfl,_,rfl,?_⟩;cases lo with
  | false =>
   refine Oo rfl ⟨_,rfl,(by show 2<=sizeLine;decide),fun pz hpz=>?_⟩;have u8:=Ah hpz (.tup [.int th,.int 1]);obtain⟨dZ,hxs,gR,hC⟩:=rr.app u8 (Pq.int (i:=th));exact⟨D,dZ,_,rfl,rfl,hxs,by omega,_,rfl,fin th (by unfold rq;simp;exact(QZ hm l7).symm) pz hpz dZ hxs hC⟩
  | true =>
   refine Cd (by decide) ⟨_,rfl,(by show 2<=sizeLine;decide),fun pz hpz=>?_⟩;have u8:=Ah hpz (.tup [.int tl,.int 1]);obtain⟨dZ,hxs,gR,hC⟩:=rr.app u8 (Pq.int (i:=tl));exact⟨D,dZ,_,rfl,rfl,hxs,by omega,_,rfl,fin tl (by unfold rq;simp;exact(QZ hm o7).symm) pz hpz dZ hxs hC⟩
theorem Ox:Al ["cord","end","t"] ["cord","end","t"] (Af Gk):=fsc
theorem Ot(F:Fun K "worths_below" "worths_below" Gk f fd)(T:Txt mg)(cm:Cal P w K mg base "turns" 3 ["row"] Qw)(ce:Cal P w K mg base "row_at" 5 ["cord","end","t"] (J8 af)):BP P w K mg base CX0 6 f fd ["cord","end","t"] (Qc af):=by
 refine F.okk Ox fun vs H Q E h=>?_;obtain⟨c,ga,wa,tp,gs,ws,lo,t,rfl,co,kt,fine,bt,q⟩:=h;walk_at "c";have aC:=fine.most;refine⟨_,(Ae (Aj (Ai cm hr (Aa (Ai ce hr (Aa (pv 0) (Aa (pv 1) (Aa (pv 2) Ab)))) Ab)))),?_⟩;refine⟨_,rfl,_,rfl,_,rfl,c,ga,wa,tp,gs,ws,lo,t,rfl,co,kt,fine,bt,fun r rs H1 s1 n1 r1 l1 e1=>⟨r,_,rfl,r1,by omega,fun H2 s2=>?_⟩⟩;rw[TQ e1];exact q H2 (s1.trans s2)
theorem Wo:Al ["cord","end","t","row"] ["cord","end","t"] (Af Ux):=fsc
theorem ACv(F:Fun K "up_to" "up_to" Ux f fd)(T:Txt mg)(aS:Cal P w K mg base "side" 1 ["one"] IV)(cm:Cal P w K mg base "turns" 3 ["row"] Qw)(ce:Cal P w K mg base "row_at" 5 ["cord","end","t"] (J8 af)):BP P w K mg base CX0 6 f fd ["cord","end","t"] (Lk af):=by
 refine F.okk Wo fun vs H Q E h=>?_;obtain⟨c,ga,wa,tp,gs,ws,lo,t,rfl,co,kt,fine,bt,q⟩:=h;refine⟨rfl,fun cdv A outer s hr=>?_⟩;have aC:=fine.most;refine⟨_,(Ac (pS 3 Wo.nd (Ai ce hr (Aa (pv 0) (Aa (pv 1) (Aa (pv 2) Ab)))))
   (Ac (BK (Ak Be (Ai aS hr (Aa (ixL (pv 3) (JM Gi Ad)) Ab)) Ad (Ar _))
    (Ae (Aj (An Bp (Ai cm hr (Aa (pv 3) Ab)) Ad)))
    Aq)
   (Ae (Aj (Ai cm hr (Aa (pv 3) Ab)))))),?_⟩
 refine⟨_,rfl,_,rfl,_,rfl,c,ga,wa,tp,gs,ws,lo,t,rfl,co,kt,fine,bt,fun r rs H1 s1 n1 r1 lr er=>?_⟩;obtain⟨pd,ed,kd⟩:=id r1;have rm:=kd.length;have hl:ws.length<rs.length:=by omega
 obtain⟨y,ey,ky⟩:=kd.get (Io hl);have es:sgn rs[ws.length].num=sgn (rq gs ws lo t ws.length).num:=by
  have e2:=congrArg (fun z:List Int=>z[ws.length]?) er;simp only[sgs,Bx,AS4,Io hl,AVY (show ws.length<ws.length+1 by omega),AU7]at e2;exact AS5 e2
 have ey':atI (pd.map V.ref) (-1)=some (.ref y):=by
  rcases AVJ (pd.map V.ref) with z|⟨L,p,z⟩
  .rw[z]at ey;simp at ey
  .rw[AVK]at z;have sv:L.length=ws.length:=by
    have:=congrArg List.length z;rw[ASt,ASz,ATX]at this;omega
   rw[z,ATD (by omega),sv,Nat.sub_self]at ey;have:p=.ref y:=by simpa using ey
   rw[z,this];exact Qm _ _
 refine⟨_,rfl,_,rfl,r,_,_,_,rfl,rfl,SqL.of ed,ey',y,_,_,rfl,ky,rfl,_,rfl,?_⟩;have ht:=TQ er;by_cases h0:rq gs ws lo t ws.length=0
 .have e0:sgn rs[ws.length].num=0:=by rw[es,h0];rfl
  refine Oo (congrArg V.int e0) ?_;refine⟨_,rfl,r,_,rfl,r1,by omega,fun H2 s2=>⟨_,_,rfl,rfl,?_⟩⟩;have:=q H2 (s1.trans s2);rw[if_pos h0]at this;rw[ht];exact this
 .have e0:sgn rs[ws.length].num≠0:=fun z=>h0 (AT4.mp (PN.mp (es.symm.trans z)));refine Cd (fun z=>e0 (V.int.inj z)) ?_;refine⟨_,rfl,r,_,rfl,r1,by omega,fun H2 s2=>?_⟩;have:=q H2 (s1.trans s2);rw[if_neg h0,Int.add_zero]at this;rw[ht];exact this
def al:Nat->Int
 | 0=>1
 | k+1=>-al k
theorem Y7(k:Nat):al k=1\/al k=-1:=by
 induction k with
 | zero=>exact .inl rfl
 | succ k ih=>rw[al];omega
theorem ABo(k:Nat):Po.sgk k=(al k:Rat):=by
 induction k with
 | zero=>rfl
 | succ k ih=>rw[Po.sgk,al,ih,Rat.intCast_neg]
theorem XD{x:Rat}{k:Nat}(h:0<Po.sgk k*x):sgn x.num=al k/\x≠0:=by
 rw[ABo]at h;rcases Y7 k with e|e
 .rw[e]at h ⊢;have h':0<x:=by
   have:((1:Int):Rat)=1:=rfl;rw[this]at h;grind
  exact⟨DK h',Rat.ne_of_gt h'⟩
 .rw[e]at h ⊢;have h':x<0:=by
   have:((-1:Int):Rat)=-1:=rfl;rw[this]at h;grind
  exact⟨Gy h',Rat.ne_of_lt h'⟩
theorem AKq{f:Nat->Rat}(k:Nat)(h:∀j,j<=k->0<Po.sgk j*f j):∃ks,kept ((List.range (k+1)).map f)=ks++[al k]/\BV ((List.range (k+1)).map f)=k:=by
 induction k with
 | zero =>
  obtain⟨a,b⟩:=XD (h 0 (by omega));have e:kept ((List.range 1).map f)=[]++[al 0]:=by
   rw[<-a];exact Er [] b
  refine⟨[],e,?_⟩;rw[Bj,e];rfl
 | succ k ih =>
  obtain⟨ks,e1,e2⟩:=ih fun j hj=>h j (by omega);obtain⟨a,b⟩:=XD (h (k+1) (by omega));have e:kept ((List.range (k+1+1)).map f)=ks++[al k]++[al (k+1)]:=by
   rw[ATh,AS0,ATr,Er _ b,e1,a]
  refine⟨_,e,?_⟩;rw[Bj,e,Ff,<-e1,<-Bj,e2,if_neg (by rw[al];have:=Y7 k;omega)]
theorem AIu{f:Nat->Rat}(k:Nat)(h:∀j,j<=k->0<f j):∃ks,kept ((List.range (k+1)).map f)=ks++[1]/\BV ((List.range (k+1)).map f)=0:=by
 induction k with
 | zero =>
  have p:=h 0 (by omega);have e:kept ((List.range 1).map f)=[]++[1]:=by
   rw[<-DK p];exact Er [] (Rat.ne_of_gt p)
  refine⟨[],e,?_⟩;rw[Bj,e];rfl
 | succ k ih =>
  obtain⟨ks,e1,e2⟩:=ih fun j hj=>h j (by omega);have p:=h (k+1) (by omega);have e:kept ((List.range (k+1+1)).map f)=ks++[1]++[1]:=by
   rw[ATh,AS0,ATr,Er _ (Rat.ne_of_gt p),e1,DK p]
  refine⟨_,e,?_⟩;rw[Bj,e,Ff,<-e1,<-Bj,e2,if_pos rfl]
def cU(gs ws:List Rat)(lo:Bool)(t:Rat):Int:=(BV (Bx gs ws lo t):Int)+if rq gs ws lo t ws.length=0 then 1 else 0
theorem Te{gs ws:List Rat}(lo:Bool)(aB:gs.length=ws.length+1)(pg:∀q∈gs,0<q):cU gs ws lo 0=0:=by
 have p:∀j,j<=ws.length->0<rq gs ws lo 0 j:=fun j hj=>by
  obtain⟨a,b⟩:=Po.stp_zero (ws:=ws) pg j (by omega);unfold rq
  split
  .rw[a];decide
  .exact b
 obtain⟨_,_,e⟩:=AIu ws.length p;unfold cU Bx;rw[e,if_neg (Rat.ne_of_gt (p _ (Nat.le_refl _)))];rfl
theorem T8{gs ws:List Rat}(lo:Bool){t:Rat}(aB:gs.length=ws.length+1)(pg:∀q∈gs,0<q)(pw:∀q∈ws,0<q)(hn:0<ws.length)(ht:Po.dsum gs ws ws.length<=t):cU gs ws lo t=ws.length:=by
 have aa:=Po.alt_all aB pg pw ht;obtain⟨ah,sw⟩:=Po.alt_held aB pg pw ht;have lst:rq gs ws lo t ws.length=0\/0<Po.sgk ws.length*rq gs ws lo t ws.length:=by
  unfold rq;cases lo with
  | true=>exact .inr (by simpa using sw hn)
  | false =>
   have sy:0<=Po.sgk ws.length*(Po.stp gs ws t 0 1 ws.length).1:=ah;by_cases z:(Po.stp gs ws t 0 1 ws.length).1=0
   .exact .inl (by simpa using z)
   .refine .inr ?_;have nz:Po.sgk ws.length*(Po.stp gs ws t 0 1 ws.length).1≠0:=fun q=>by
     rw[ABo]at q;rcases Y7 ws.length with e|e
     .rw[e]at q;have:((1:Int):Rat)=1:=rfl;rw[this]at q;exact z (by grind)
     .rw[e]at q;have:((-1:Int):Rat)=-1:=rfl;rw[this]at q;exact z (by grind)
    simp only[AT5,false_and,if_false];exact AWk sy (AVT nz)
 obtain⟨m,hm⟩:∃m,ws.length=m+1:=⟨ws.length-1,by omega⟩;have p:∀j,j<=m->0<Po.sgk j*rq gs ws lo t j:=fun j hj=>by
  have:=(aa j (by omega)).pos;unfold rq;rw[if_neg (by omega)];exact this
 obtain⟨ks,e1,e2⟩:=AKq m p;unfold cU Bx;rw[hm]at lst ⊢;rw[ATh,AS0,ATr];rcases lst with z|z
 .rw[if_pos z,Bj,Hm _ z,<-Bj,e2];rfl
 .obtain⟨a,b⟩:=XD z;rw[if_neg b,Bj,Er _ b,e1,Ff,<-e1,<-Bj,e2,a,if_neg (by rw[al];have:=Y7 m;omega)];rfl
def lsm(xs ys:List Rat):List Rat:=(List.range (max xs.length ys.length)).map fun k=>xs.getD k 0+ys.getD k 0
def AQL:Sp:=fun vs H Q _=>∃a b xs ys,vs=[.ref a,.ref b]/\Rw H a xs/\Rw H b ys/\xs.length<=100/\ys.length<=100/\(∀q∈xs,Bq 3900 q)/\(∀q∈ys,Bq 3900 q)/\(0<max xs.length ys.length->(lsm xs ys).getD (max xs.length ys.length-1) 0≠0)/\∀r H',Am H H'->H r=none->Rw H' r (lsm xs ys)->Q (.ref r) H'
def AHS:Sp:=fun vs H Q _=>∃a p xs x,vs=[.ref a,.ref p]/\Rw H a xs/\Pq H p x/\x≠0/\xs.length<=100/\(∀q∈xs,Bq 3900 q)/\Bq 3900 x/\∀r H',Am H H'->H r=none->Rw H' r (xs.map (·*x))->Q (.ref r) H'
def AIT:Sp:=fun vs H Q _=>∃a xs,vs=[.ref a]/\Rw H a xs/\0<xs.length/\xs.length<=100/\∀r H',Am H H'->H r=none->Rw H' r (0::xs)->Q (.ref r) H'
section
variable {gs ws:List Rat}
def hdP(gs ws:List Rat):Nat->List Rat
 | 0=>[]
 | j+1=>Po.hdp gs ws j
end
structure Drw(b:Nat)(gs ws:List Rat):Prop where
 len:gs.length=ws.length+1
 most:ws.length<=12
 pg:∀q∈gs,0<q
 pw:∀q∈ws,0<q
 hb:0<b
 bg:∀q∈gs,Bq b q
 bw:∀q∈ws,Bq b q
 bb:(2*b+2)*(ws.length+1)<=1300
 b8:b<=101
def ANc:Sp:=fun vs H Q _=>∃(g w:Addr) (gs ws:List Rat) (b:Nat),vs=[.ref g,.ref w]/\Rw H g gs/\Rw H w ws/\Drw b gs ws/\∀r u l H',Am H H'->H' r=some (.tup [.ref u,.ref l])->H u=none->Rw H' u (Po.hdp gs ws ws.length)->Rw H' l (Po.lsp gs ws ws.length)->Q (.ref r) H'
def cq(ns:List Int):List Rat:=ns.map fun(z:Int)=>(z:Rat)
theorem Ze(ns:List Int):(cq ns).length=ns.length:=ASt _
def Iz(H:Hp)(a:Addr)(ns:List Int):Prop:=H a=some (.lst (ns.map V.int))
theorem Z5{α:Type}(x:α)(n:Nat):(List.replicate n [x]).flatten=List.replicate n x:=by
 induction n with
 | zero=>rfl
 | succ n ih=>rw[AUG,AUq,ih];rfl
theorem AEh{s x y:Rat}(h:s≠0)(e:s*x=s*y):x=y:=by grind
def Lw(b:Int)(A:List Rat):Prop:=∀M:Int,(∀q∈A,∃T:Int,q*(M:Rat)=(T:Rat))->b ∣ M
def Fz(H:Hp)(p:Addr)(A:List Rat):Prop:=∃(fa:Addr) (fs:List Int) (b:Int),H p=some (.tup [.ref fa,.int b])/\Iz H fa fs/\b≠0/\cq fs=A.map (·*(b:Rat))/\Lw b A
theorem Fz.keep{H H':Hp}{p:Addr}{A:List Rat}(h:Fz H p A)(s:Am H H'):Fz H' p A:=by
 obtain⟨fa,fs,b,h1,h2,h3⟩:=h;exact⟨fa,fs,b,s _ _ h1,s _ _ h2,h3⟩
theorem M8{fs:List Int}{A:List Rat}{b:Int}(e:cq fs=A.map (·*(b:Rat))):fs.length=A.length:=by
 have:=congrArg List.length e;rw[Ze,ASt]at this;exact this
theorem Tr{fs:List Int}{A:List Rat}{b:Int}(e:cq fs=A.map (·*(b:Rat)))(i:Nat):((fs.getD i 0:Int):Rat)=A.getD i 0*(b:Rat):=by
 have h:=congrArg (fun l:List Rat=>l[i]?) e;simp only[cq,AS4]at h;rw[ASu,ASu];cases hf:fs[i]? with
 | none =>
  rw[hf]at h;cases hA:A[i]? with
  | none=>show((0:Int):Rat)=0*_;rw[AVj];rfl
  | some a=>rw[hA]at h;cases h
 | some f =>
  rw[hf]at h;cases hA:A[i]? with
  | none=>rw[hA]at h;cases h
  | some a=>rw[hA]at h;exact AS5 h
theorem APz{fs:List Int}{A:List Rat}{b M:Int}{N:Nat}(e:cq fs=A.map (·*(b:Rat)))(lw:Lw b A)(hM:M≠0)(bM:Bt N M)(o:∀q∈A,Po.Ov N M q):Bt N b/\∀f∈fs,Bt N f:=by
 have hd:b ∣ M:=lw M fun q hq=>by
  obtain⟨T,_,e⟩:=o q hq;exact⟨T,e⟩
 refine⟨bM.of_le (AVQ (by omega) (ATM.mpr hd)),fun f hf=>?_⟩;obtain⟨c,hc⟩:=hd;have hf':((f:Int):Rat)∈cq fs:=ATY.mpr ⟨f,hf,rfl⟩;rw[e]at hf';obtain⟨q,hq,eq⟩:=ATY.mp hf';obtain⟨T,bT,eT⟩:=o q hq;have sA:T=f*c:=by
  have:((T:Int):Rat)=((f*c:Int):Rat):=by
   rw[<-eT,hc,Rat.intCast_mul,Rat.intCast_mul,<-eq];grind
  exact AUo.mp this
 have hc0:c≠0:=fun z=>hM (by rw[hc,z,Int.mul_zero]);refine bT.of_le ?_;rw[sA,AUx];exact Nat.le_mul_of_pos_right _ (by omega)
theorem AD2{q:Rat}{M T:Int}(h:q*(M:Rat)=(T:Rat)):(q.den:Int) ∣ M:=by
 by_cases hM:M=0
 .rw[hM];exact Int.dvd_zero _
 .have hM':(M:Rat)≠0:=fun z=>hM (Rat.intCast_eq_zero_iff.mp z);exact(ACX hM (show q=(T:Rat)/(M:Rat) by rw[<-h];grind)).2
theorem AEk{B d M:Int}(hB:0<B)(hd:0<d)(h1:B ∣ M)(h2:d ∣ M):B*(d/g B d) ∣ M:=by
 have hg:0<g B d:=HD (by omega);obtain⟨x,hx⟩:=Di B d;obtain⟨y,hy⟩:=Bh B d;have c:Int.gcd x y=1:=by
  have h:=Hz (a:=B) (b:=d) (by omega);have e1:B/g B d=x:=AT2 (AUA hg) hx;have e2:d/g B d=y:=AT2 (AUA hg) hy;rw[e1,e2]at h;exact h
 have e2:d/g B d=y:=AT2 (AUA hg) hy;rw[e2];obtain⟨z,hz⟩:=h1;obtain⟨v,hv⟩:=h2;generalize g B d=gg at *;have k:x*z=y*v:=by
  have:gg*(x*z)=gg*(y*v):=by
   rw[<-AT9,<-AT9,<-hx,<-hy,<-hz,<-hv]
  exact Int.eq_of_mul_eq_mul_left (AUA hg) this
 have dy:y ∣ x*z:=⟨v,k⟩;have dz:y ∣ z:=by
  have d':=ATM.mpr dy;rw[AUx]at d';exact ATM.mp (AVD (Nat.Coprime.symm c) d')
 obtain⟨u,hu⟩:=dz;exact⟨u,by rw[hz,hu,AT9]⟩
def ZW:Sp:=fun vs H Q _=>∃a qs β,vs=[.ref a]/\Rw H a qs/\qs.length<=13/\(∀q∈qs,Bq β q)/\β<=1300/\∀B:Int,0<B->(∀q∈qs,(q.den:Int) ∣ B)->(∀M:Int,(∀q∈qs,(q.den:Int) ∣ M)->B ∣ M)->Bt (1300*13+1) B->Q (.int B) H
theorem Dt:Al ["figures","bottom","figure"] ["figures"] (Af Fp):=fsc
theorem Nr(F:Fun K "shared_bottom" "shared_bottom" Fp f fd)(T:Txt mg)(aq:Cal P w K mg base "divisor" 1 ["one","other"] Jx):BP P w K mg base CX0 2 f fd ["figures"] ZW:=by
 refine F.okk Dt fun vs H Q E h=>?_;obtain⟨a,qs,β,rfl,⟨ps,ea,kp⟩,hl,bq,hβ,q⟩:=h;refine⟨rfl,fun cdv A outer s hr=>?_⟩;have lp:=kp.length;refine⟨_,(Ac (pS 1 Dt.nd Ad)
   (Ac (Do ATI rfl (Bl (pv 0)) (gN 2 Dt.nd)
    (Ae (pS 1 Dt.nd (An BZ (pv 1) (An CZ (ixT (pv 2) Ad) (Ai aq hr (Aa (pv 1) (Aa (ixT (pv 2) Ad) Ab))))))))
   (Ae (Aj (pv 1))))),?_⟩
 refine⟨_,rfl,a,rfl,⟨_,SqL.of ea⟩,?_⟩;refine Hg (xs:=ps.map V.ref) (fun i σ H'=>H=H'/\∃(B:Int) (v:Option V),σ=[some (.ref a),some (.int B),v]/\0<B/\(∀q∈qs.take i,(q.den:Int) ∣ B)/\(∀M:Int,(∀q∈qs.take i,(q.den:Int) ∣ M)->B ∣ M)/\Bt (1300*i+1) B)
  ⟨rfl,1,_,rfl,by decide,fun q hq=>absurd hq (by simp),fun M _=>⟨M,(Int.one_mul M).symm⟩,Bt.mono (m:=1) (by show(1:Nat)<2^1;decide) (by omega)⟩ ?_ ?_ ?_
 .rintro i σ _ _ ⟨rfl,_⟩;exact SqL.of ea
 .rintro i x σ _ hi ⟨rfl,B,v,rfl,hB,hd,hm,bB⟩;have hlt:i<qs.length:=by
   have:=(AS7.mp hi).1;rw[ASt]at this;omega
  have eq:=Io hlt;obtain⟨p1,e1,k1⟩:=kp.get eq;rw[hi]at e1;cases e1;have b1:Bq 1300 qs[i]:=(bq _ (List.getElem_mem hlt)).mono hβ;have d1:=den_pos qs[i];have hg:0<g B qs[i].den:=HD (by omega);have bg:Bt 9000 (g B qs[i].den):=(Zr d1 b1.2).mono (by decide);have gd:=Bh B (qs[i].den:Int);have gB:=Di B (qs[i].den:Int);have o8:Bt 1300 ((qs[i].den:Int)/g B qs[i].den):=b1.2.ediv;have et:qs.take (i+1)=qs.take i++[qs[i]]:=ATa hlt;refine⟨_,rfl,_,rfl,_,_,_,_,rfl,rfl,k1.sq,rfl,_,rfl,_,rfl,_,_,_,_,rfl,rfl,k1.sq,rfl,_,_,rfl,_,_,rfl,rfl,⟨hg,bg⟩,_,_,rfl,rfl,Br bB o8 (by omega),rfl,_,_,rfl,?_,fun q hq=>?_,fun M hM=>?_,?_⟩
  .obtain⟨c,hc⟩:=gd;have:(qs[i].den:Int)/g B qs[i].den=c:=AT2 (AUA hg) hc;rw[this];refine ATg hB ?_;by_cases h0:0<c
   .exact h0
   .exfalso;have:g B qs[i].den*c<=0:=Int.mul_nonpos_of_nonneg_of_nonpos (by omega) (by omega);omega
  .rw[et]at hq;rcases ATU.mp hq with z|z
   .exact AWl (hd q z) (AWu _ _)
   .have:q=qs[i]:=by simpa using z
    rw[this];obtain⟨c,hc⟩:=gd;obtain⟨e,he⟩:=gB;have e1:(qs[i].den:Int)/g B qs[i].den=c:=AT2 (AUA hg) hc;rw[e1];refine⟨e,?_⟩;generalize g B (qs[i].den:Int)=gg at *;rw[hc,he,AT9,AT9,ATx e c]
  .rw[et]at hM;exact AEk hB d1 (hm M fun q hq=>hM q (AUt _ hq)) (hM _ (ATE _ (by simp)))
  .rw[AVF];exact(bB.mul o8).mono (by omega)
 .rintro σ _ ⟨rfl,B,v,rfl,hB,hd,hm,bB⟩;rw[ASt,lp]at hd hm bB;rw[ATK]at hd hm;exact⟨_,rfl,q B hB hd hm (bB.mono (by omega))⟩
def Yv:Sp:=fun vs H Q _=>∃a qs B,vs=[.ref a,.int B]/\Rw H a qs/\qs.length<=100/\0<B/\(∀q∈qs,(q.den:Int) ∣ B)/\(∀q∈qs,Bq 1300 q)/\Bt 20000 B /\
 ∀r ns H',Am H H'->H r=none->Iz H' r ns->cq ns=qs.map (·*(B:Rat))->Q (.ref r) H'
theorem NB:Al ["one","bottom"] ["one","bottom"] (Af Ea):=fsc
theorem Ms(F:Fun K "whole_figures" "whole_figures" Ea f fd)(T:Txt mg):BP P w K mg base CX0 1 f fd ["one","bottom"] Yv:=by
 refine F.okk NB fun vs H Q E h=>?_;obtain⟨a,qs,B,rfl,ra,hl,hB,hd,bq,bB,q⟩:=h;walk_at "c";obtain⟨xa,ea,la⟩:=ra.there;refine⟨_,(Ae (Aj (Ce (N':=["figure","bottom"]) (fsc:=Af Ea) (N:=["one","bottom"]) [1] ⟨rfl,by decide +kernel,by decide +kernel,by decide +kernel,rfl,by decide +kernel,rfl,by decide +kernel⟩ (Bl (pv 0)) (fun _ _ _ _=>(An BZ (ixT (pv 0) Ad) (An CZ (pv 1) (ixT (pv 0) Ad))))))),?_⟩;refine⟨_,rfl,a,rfl,⟨_,SqL.of ea⟩,Q5 (by omega) ra (fun q=>q.num*(B/q.den)) ?_ fun H1 D s1 nD eD=>q D _ H1 s1 nD eD ?_⟩
 .intro _ _ _ _ p x H1 R hx kp s1 fin;have b1:=bq x hx;exact⟨_,rfl,_,_,_,_,rfl,rfl,kp.sq,rfl,_,rfl,_,rfl,_,_,_,_,rfl,rfl,kp.sq,rfl,_,_,rfl,rfl,⟨den_pos x,b1.2.mono (by decide)⟩,_,_,rfl,rfl,Br b1.1 (bB.ediv) (by decide),fin⟩
 .unfold cq;rw[List.map_map];refine List.map_congr_left fun x hx=>?_;show((x.num*(B/(x.den:Int)):Int):Rat)=x*(B:Rat);obtain⟨c,hc⟩:=hd x hx;have d:=den_pos x;have e1:B/(x.den:Int)=c:=by
   rw[hc];exact AUP _ (by omega)
  rw[e1,hc,Rat.intCast_mul,Rat.intCast_mul];have e:=Fw x;have n:=CQ x;(have e3:x=(x.num:Rat)/((x.den:Int):Rat):=e.symm;generalize (x.num:Rat)=u at *);generalize ((x.den:Int):Rat)=v at *;rw[e3];grind
def ACu:Sp:=fun vs H Q _=>∃a A,vs=[.ref a]/\Rw H a A/\A.length<=13/\(∀q∈A,Bq 1300 q)/\∀r H',Am H H'->Fz H' r A->Q (.ref r) H'
theorem Gr:Al ["one","bottom"] ["one"] (Af Eu):=fsc
theorem Ky(F:Fun K "over_one_bottom" "over_one_bottom" Eu f fd)(T:Txt mg)(bO:Cal P w K mg base "shared_bottom" 2 ["figures"] ZW)(bP:Cal P w K mg base "whole_figures" 1 ["one","bottom"] Yv):BP P w K mg base CX0 3 f fd ["one"] ACu:=by
 refine F.okk Gr fun vs H Q E h=>?_;obtain⟨a,A',rfl,ra,hl,bq,q⟩:=h;refine⟨rfl,fun cdv A outer s hr=>?_⟩;refine⟨_,(Ac (pS 1 Gr.nd (Ai bO hr (Aa (pv 0) Ab)))
   (Ae (Aj (Bb (Aa (Ai bP hr (Aa (pv 0) (Aa (pv 1) Ab))) (Aa (pv 1) Ab)))))),?_⟩
 refine⟨_,rfl,a,A',1300,rfl,ra,hl,bq,Nat.le_refl _,fun B hB hd hm bB=>?_⟩;refine⟨_,rfl,_,rfl,a,A',B,rfl,ra,by omega,hB,hd,bq,bB.mono (by decide),fun r1 ns H1 s1 n1 iz e=>?_⟩;refine⟨_,rfl,(by show 2<=sizeLine;decide),fun r hr'=>?_⟩;have u:=Ah hr' (.tup [.ref r1,.int B]);refine q r _ (s1.trans u) ⟨r1,ns,B,Ag,u _ _ iz,AUA hB,e,fun M h=>hm M fun q hq=>?_⟩;obtain⟨T,eT⟩:=h q hq;exact AD2 eT
theorem AKc{n:Nat}{a b:Int}(h:a≠0)(k:Bt n a):Bt n (g a b):=by
 refine k.of_le ?_;exact AVQ (by omega) (ATM.mpr (Di a b))
theorem AAV{x a b M:Int}(h1:x ∣ a*M)(h2:x ∣ b*M):x ∣ g a b*M:=by
 have h:x ∣ ((Int.gcd (a*M) (b*M):Nat):Int):=Int.dvd_coe_gcd h1 h2;rw[Int.gcd_mul_right,AUn]at h;have h':x ∣ g a b*((M.natAbs:Nat):Int):=h;rcases Int.natAbs_eq M with e|e
 .rw[e];exact h'
 .rw[e,AWa];exact Int.dvd_neg.mpr h'
def ACZ:Sp:=fun vs H Q _=>∃fa fs b A,vs=[.ref fa,.int b]/\Iz H fa fs/\fs.length<=13/\b≠0/\Bt 9000 b/\cq fs=A.map (·*(b:Rat))/\∀r H',Am H H'->Fz H' r A->Q (.ref r) H'
theorem DN:Al ["figures","bottom","shared","figure"] ["figures","bottom"] (Af Df):=fsc
theorem Kp(F:Fun K "in_lowest_terms" "in_lowest_terms" Df f fd)(T:Txt mg)(aq:Cal P w K mg base "divisor" 1 ["one","other"] Jx):BP P w K mg base CX0 2 f fd ["figures","bottom"] ACZ:=by
 refine F.okk DN fun vs H Q E h=>?_;obtain⟨fa,fs,b,A',rfl,iz,hl,hb,bb,e,q⟩:=h;refine⟨rfl,fun cdv A outer s hr=>?_⟩;refine⟨_,(Ac (pS 2 DN.nd (pv 1))
   (Ac (Do ATI rfl (Bl (pv 0)) (gN 3 DN.nd)
    (Ae (pS 2 DN.nd (Ai aq hr (Aa (pv 2) (Aa (pv 3) Ab))))))
   (Ae (Aj (Bb (Aa (Ce (N':=["figure","shared"]) (fsc:=Af Df) (N:=["figures","bottom","shared","figure"]) [2] ⟨rfl,by decide +kernel,by decide +kernel,by decide +kernel,rfl,by decide +kernel,rfl,by decide +kernel⟩ (Bl (pv 0)) (fun _ _ _ _=>(An Ul (pv 0) (pv 1)))) (Aa (An Ul (pv 1) (pv 2)) Ab))))))),?_⟩
 refine⟨_,rfl,_,rfl,fa,rfl,⟨_,SqL.of iz⟩,?_⟩;refine Hg (xs:=fs.map V.int) (fun i σ H'=>H=H'/\∃(S:Int) (v:Option V),σ=[some (.ref fa),some (.int b),some (.int S),v]/\S≠0/\Bt 9000 S/\S ∣ b/\(∀f∈fs.take i,S ∣ f)/\∀x M:Int,x ∣ b*M->(∀f∈fs.take i,x ∣ f*M)->x ∣ S*M)
  ⟨rfl,b,_,rfl,hb,bb,Int.dvd_refl b,fun f hf=>absurd hf (by simp),fun x M h _=>h⟩ ?_ ?_ ?_
 .rintro i σ _ _ ⟨rfl,_⟩;exact SqL.of iz
 .rintro i x σ _ hi ⟨rfl,S,v,rfl,hS,bS,dS,df,hx⟩;have hlt:i<fs.length:=by
   have:=(AS7.mp hi).1;rw[ASt]at this;exact this
  have e1:(fs.map V.int)[i]?=some (.int fs[i]):=by rw[AS4,Io hlt];rfl
  obtain rfl:x=.int fs[i]:=AS5 (hi.symm.trans e1);have et:fs.take (i+1)=fs.take i++[fs[i]]:=ATa hlt;have g1:=Di S fs[i];have g2:=Bh S fs[i];refine⟨_,rfl,_,rfl,_,_,rfl,rfl,_,_,rfl,fun z=>hS (AIl z).1,AKc hS bS,AWl g1 dS,fun f hf=>?_,fun x M h1 h2=>?_⟩
  .rw[et]at hf;rcases ATU.mp hf with z|z
   .exact AWl g1 (df f z)
   .rw[ATs.mp z];exact g2
  .rw[et]at h2;exact AAV (hx x M h1 fun f hf=>h2 f (AUt _ hf)) (h2 _ (ATE _ (by simp)))
 .rintro σ _ ⟨rfl,S,v,rfl,hS,bS,dS,df,hx⟩;rw[ASt,ATK]at df hx;refine⟨_,rfl,fa,rfl,⟨_,SqL.of iz⟩,Xc (ns:=fs) (by omega) iz (fun f=>f.fdiv S) ?_ fun H1 D s1 nD eD=>?_⟩
  .intro _ _ _ _ x H1 R oE fin;exact⟨_,rfl,_,rfl,_,_,rfl,rfl,⟨hS,bS⟩,fin⟩
  refine⟨_,rfl,_,rfl,_,_,rfl,rfl,⟨hS,bS⟩,(by show 2<=sizeLine;decide),fun r hr'=>?_⟩;have u:=Ah hr' (.tup [.ref D,.int (b.fdiv S)]);obtain⟨b',hb'⟩:=dS;have eb:b.fdiv S=b':=by
   rw[AUW ⟨b',hb'⟩,hb'];exact AUP _ hS
  have hS':(S:Rat)≠0:=fun z=>hS (Rat.intCast_eq_zero_iff.mp z);refine q r _ (s1.trans u) ⟨D,fs.map fun f=>f.fdiv S,b',?_,u _ _ eD,fun z=>hb (by rw[hb',z,Int.mul_zero]),?_,fun M h=>?_⟩
  .rw[Ag];show some (HO.tup [V.ref D,V.int (b.fdiv S)])=some (HO.tup [V.ref D,V.int b']);rw[eb]
  .refine AWs fun i=>?_;have h:=congrArg (fun l:List Rat=>l[i]?) e;simp only[cq,AS4]at h ⊢;cases hf:fs[i]? with
   | none =>
    rw[hf]at h;cases hA:A'[i]? with
    | none=>rfl
    | some a=>rw[hA]at h;cases h
   | some f =>
    rw[hf]at h;cases hA:A'[i]? with
    | none=>rw[hA]at h;cases h
    | some a =>
     rw[hA]at h;have h':((f:Int):Rat)=a*(b:Rat):=AS5 h;obtain⟨f',hf'⟩:=df f (ATp hf);have ef:f.fdiv S=f':=by
      rw[AUW ⟨f',hf'⟩,hf'];exact AUP _ hS
     show some (((f.fdiv S:Int)):Rat)=some (a*(b':Rat));rw[ef];rw[hf',hb',Rat.intCast_mul,Rat.intCast_mul]at h'
     congr 1
     have:(S:Rat)*(f':Rat)=(S:Rat)*(a*(b':Rat)):=by rw[h'];grind
     exact AEh hS' this
  .have o9:b ∣ S*M:=hx b M (AWu _ _) fun f hf=>by
    have hf':((f:Int):Rat)∈cq fs:=ATY.mpr ⟨f,hf,rfl⟩;rw[e]at hf';obtain⟨a,ha,ea⟩:=ATY.mp hf';obtain⟨T,eT⟩:=h a ha;refine⟨T,?_⟩;have:((f*M:Int):Rat)=((b*T:Int):Rat):=by
     rw[Rat.intCast_mul,Rat.intCast_mul,<-eT,<-ea];grind
    exact AUo.mp this
   rw[hb']at o9;exact Int.dvd_of_mul_dvd_mul_left hS o9
def Ls:Sp:=fun vs H Q _=>∃t b,vs=[.int t,.int b]/\b≠0/\Bt 8000 b/\∀r H',Am H H'->Pq H' r ((t:Rat)/(b:Rat))->Q (.ref r) H'
theorem Jo:Al ["top","bottom","shared"] ["top","bottom"] (Af Dj):=fsc
theorem Wf{dV:Value}(F:APy K "fraction" "fraction" Dj dV f fd)(T:Txt mg)(aU:Cal P w K mg base "is_whole" 1 ["thing"] Q6)(aq:Cal P w K mg base "divisor" 1 ["one","other"] Jx):BP P w K mg base CX0 2 f fd ["top","bottom"] Ls:=by
 refine okD F Jo (fun vs H Q E h=>?_) (fun cdv A outer s H vs Q E hr h=>?_)
 .obtain⟨t,b,rfl,_⟩:=h;rfl
 obtain⟨t,b,rfl,hb,bb,q⟩:=h;have fin:∀x,x=sh t b->(x≠0/\Bt 9000 x)/\∀r,H r=none->Q (.ref r) (upd H r (.tup [.int (t.fdiv x),.int (b.fdiv x)])):=fun x e=>by
  subst e;obtain⟨f1,e1⟩:=AQB (t:=t) hb;exact⟨⟨APs hb,(ALs hb bb).mono (by decide)⟩,fun r hr=>q r _ (Ah hr _) (Pq.of Pr.new (Th f1 hb e1 rfl))⟩
 refine⟨_,(Ac (BK (PW.pt (Dc (Ck (Cj (Ai aU hr (Aa (pv 0) Ab)))) (CV (Ck (Cj (Ai aU hr (Aa (pv 1) Ab)))))))
    (Ae BR)
    Aq)
   (Ac (BK (Ak Be (pv 1) Ad (Ar _))
    (Ae BR)
    Aq)
   (Ac (pS 2 Jo.nd (Ai aq hr (Aa (pv 0) (Aa (pv 1) Ab))))
   (Ac (BK (Ak Fy (pv 1) Ad (Ar _))
    (Ae (pS 2 Jo.nd (JM Gi (pv 2))))
    Aq)
   (Ae (Aj (Bb (Aa (An Ul (pv 0) (pv 2)) (Aa (An Ul (pv 1) (pv 2)) Ab))))))))),?_⟩
 refine⟨_,rfl,_,rfl,_,rfl,FZ ?_⟩;refine⟨_,rfl,_,rfl,_,rfl,FZ ?_⟩;refine⟨_,rfl,rfl,_,rfl,Cd (fun z=>hb (V.int.inj z)) ?_⟩;refine⟨_,rfl,_,rfl,_,_,rfl,?_⟩;(refine⟨_,rfl,_,_,rfl,rfl,_,rfl,?_⟩);refine Hk (fun c2=>?_) (fun c2=>?_)
 .have d2:b<0:=of_decide_eq_true c2;obtain⟨c3,q3⟩:=fin (-(g t b)) (by unfold sh;rw[if_pos d2]);refine⟨_,rfl,_,rfl,?_⟩;exact⟨_,rfl,_,rfl,_,_,rfl,rfl,c3,_,rfl,_,rfl,_,_,rfl,rfl,c3,(by show 2<=sizeLine;decide),q3⟩
 .have d2:¬b<0:=of_decide_eq_false (Bool.eq_false_iff.mpr c2);obtain⟨c3,q3⟩:=fin (g t b) (by unfold sh;rw[if_neg d2]);exact⟨_,rfl,_,rfl,_,_,rfl,rfl,c3,_,rfl,_,rfl,_,_,rfl,rfl,c3,(by show 2<=sizeLine;decide),q3⟩
theorem KJ{fs:List Int}(h:0<fs.length):atI (fs.map V.int) (-1)=some (.int (fs.getD (fs.length-1) 0)):=by
 rcases AVJ fs with z|⟨L,x,z⟩
 .rw[z]at h;simp at h
 .rw[AVK]at z;have e:fs.getD (fs.length-1) 0=x:=by
   rw[z,ASz,ATX,Nat.add_sub_cancel,ASu,ATD (Nat.le_refl _),Nat.sub_self];rfl
  rw[e,z,AS0];exact Qm _ _
theorem Lb{fs:List Int}{i:Nat}(h:i<fs.length):fs.getD i 0∈fs:=by
 rw[ASu,Io h];exact List.getElem_mem h
def OvM(A:List Rat):Prop:=∃M:Int,M≠0/\Bt 1300 M/\∀q∈A,Po.Ov 1300 M q
theorem OvM.bt{fs:List Int}{A:List Rat}{b:Int}(o:OvM A)(e:cq fs=A.map (·*(b:Rat)))(lw:Lw b A):Bt 1300 b/\∀f∈fs,Bt 1300 f:=by
 obtain⟨M,h1,h2,h3⟩:=o;exact APz e lw h1 h2 h3
theorem Yd{fs:List Int}{A:List Rat}{b:Int}(e:cq fs=A.map (·*(b:Rat))):((fs.getD (fs.length-1) 0:Int):Rat)=Po.lst A*(b:Rat):=by
 unfold Po.lst;rw[Tr e,M8 e]
def ZM:Sp:=fun vs H Q _=>∃(k:Nat) (p p':Addr) (A B:List Rat),vs=[.int k,.ref p,.ref p']/\Fz H p A/\Fz H p' B/\0<A.length/\0<B.length/\Po.lst B≠0/\OvM A/\OvM B/\∀r H',Am H H'->Pq H' r (if k%2=0 then Po.lst A/Po.lst B else -(Po.lst A/Po.lst B))->Q (.ref r) H'
theorem Ek:Al ["place","one","other","last","divided_by","quotient"] ["place","one","other"] (Af HY):=fsc
theorem QD(F:Fun K "quotient_at" "quotient_at" HY f fd)(T:Txt mg)(aQ:ADx P w K mg base "fraction" 2 ["top","bottom"] [] [] Ls)(cQ:Cal P w K mg base "minus" 3 ["one","other"] (Bw 8000 (·-·))):BP P w K mg base CX0 4 f fd ["place","one","other"] ZM:=by
 refine F.okk Ek fun vs H Q E h=>?_;obtain⟨k,p,p',A',B,rfl,⟨fa,fs,b,ep,iz,hb,e,lw⟩,⟨fb,gs',b',ep',jg,hb',e',l8⟩,lA,lB,hL,oA,oB,q⟩:=h;refine⟨rfl,fun cdv A outer s hr=>?_⟩;have lf:=M8 e;have lg:=M8 e';obtain⟨bb,bf⟩:=oA.bt e lw;obtain⟨l9,j7⟩:=oB.bt e' l8;have eA:=Yd e;have eB:=Yd e';have m1:=bf _ (Lb (show fs.length-1<fs.length by omega));have m2:=j7 _ (Lb (show gs'.length-1<gs'.length by omega));have a1:=KJ (fs:=fs) (by omega);have a2:=KJ (fs:=gs') (by omega);generalize fs.getD (fs.length-1) 0=hJ at *;generalize gs'.getD (gs'.length-1) 0=dg at *;have sB:(b:Rat)≠0:=fun z=>hb (Rat.intCast_eq_zero_iff.mp z);have hU:(b':Rat)≠0:=fun z=>hb' (Rat.intCast_eq_zero_iff.mp z);have hdg:dg≠0:=fun z=>by
  (rw[z]at eB;have:Po.lst B*(b':Rat)=0:=eB.symm.trans rfl;rcases AU8.mp this with w|w)
  .exact hL w
  .exact hU w
 refine⟨_,(Ac (pS 3 Ek.nd (ixL (ixT (pv 1) Ad) (JM Gi Ad)))
   (Ac (pS 4 Ek.nd (ixL (ixT (pv 2) Ad) (JM Gi Ad)))
   (Ac (BK (Ak Be (pv 4) Ad (Ar _))
    (Ae (Aj (Bb (Aa Ad (Aa Ad Ab)))))
    Aq)
   (Ac (pS 5 Ek.nd (ADT aQ hr (Aa (An BZ (pv 3) (ixT (pv 2) Ad)) (Aa (An BZ (pv 4) (ixT (pv 1) Ad)) Ab))))
   (Ac (BK (Ak Be (An Dd (pv 0) Ad) Ad (Ar _))
    (Ae (Aj (pv 5)))
    Aq)
   (Ae (Aj (Ai cQ hr (Aa (Bb (Aa Ad (Aa Ad Ab))) (Aa (pv 5) Ab)))))))))),?_⟩
 refine⟨_,rfl,p,_,_,_,rfl,rfl,SqT.of ep,rfl,_,rfl,fa,_,_,_,rfl,rfl,SqL.of iz,a1,?_⟩;refine⟨_,rfl,p',_,_,_,rfl,rfl,SqT.of ep',rfl,_,rfl,fb,_,_,_,rfl,rfl,SqL.of jg,a2,?_⟩;refine⟨_,rfl,rfl,_,rfl,Cd (fun z=>hdg (V.int.inj z)) ?_⟩;refine⟨_,rfl,_,rfl,p',_,_,_,rfl,rfl,SqT.of ep',rfl,_,_,rfl,rfl,Br m1 l9 (by decide),_,rfl,_,rfl,p,_,_,_,rfl,rfl,SqT.of ep,rfl,_,_,rfl,rfl,Br m2 bb (by decide),_,_,rfl,Int.mul_ne_zero hdg hb,(m2.mul bb).mono (by decide),fun r1 H1 s1 k1=>?_⟩;have ev:((hJ*b':Int):Rat)/((dg*b:Int):Rat)=Po.lst A'/Po.lst B:=by
  rw[Rat.intCast_mul,Rat.intCast_mul,eA,eB];grind
 rw[ev]at k1;have bq:Bq 2600 (Po.lst A'/Po.lst B):=Jc (Int.mul_ne_zero hdg hb) ev.symm (m1.mul l9) (m2.mul bb);refine⟨_,rfl,_,_,rfl,rfl,(by show(0:Int)<2;decide),rfl,_,rfl,Hk (fun c=>?_) (fun c=>?_)⟩
 .have c':(k:Int)%2=0:=V.int.inj (of_decide_eq_true c);refine⟨_,rfl,q r1 H1 s1 ?_⟩;rw[if_pos (by omega)];exact k1
 .have c':¬(k:Int)%2=0:=fun z=>of_decide_eq_false (Bool.eq_false_iff.mpr c) (congrArg V.int z);refine⟨(by show 2<=sizeLine;decide),fun z hz=>?_⟩;have u:=Ah hz (.tup [.int 0,.int 1]);have kz:Pq (upd H1 z (.tup [.int 0,.int 1])) z 0:=Pq.of Pr.new ⟨rfl,rfl⟩;refine⟨_,rfl,z,r1,_,_,rfl,kz,k1.keep u,Bq.zero (by decide),bq.mono (by decide),fun r2 H2 s2 k2=>q r2 H2 (s1.trans (u.trans s2)) ?_⟩;rw[if_neg (by omega)];have:-(Po.lst A'/Po.lst B)=0-Po.lst A'/Po.lst B:=by grind
  rw[this];exact k2
def Yg:Sp:=fun vs H Q _=>∃(p p':Addr) (A B:List Rat),vs=[.ref p,.ref p']/\Fz H p A/\Fz H p' B/\A.length<=13/\0<B.length/\B.length<=A.length/\Po.lst B≠0/\OvM A/\OvM B/\∀r H',Am H H'->Fz H' r (Po.rst A B)->Q (.ref r) H'
theorem Z3{gs':List Int}{B:List Rat}{b':Int}(e':cq gs'=B.map (·*(b':Rat)))(m i:Nat):(((List.replicate m (0:Int)++gs').getD i 0:Int):Rat)=(List.replicate m (0:Rat)++B).getD i 0*(b':Rat):=by
 refine Tr (fs:=List.replicate m (0:Int)++gs') (A:=List.replicate m (0:Rat)++B) ?_ i;unfold cq at e' ⊢;rw[AS0,AS0,e',AVn,AVn,AVj];rfl
theorem Gw:Al ["one","other","lifted","last","divided_by","figures"] ["one","other"] (Af J4):=fsc
theorem Xh(F:Fun K "rest_of" "rest_of" J4 f fd)(T:Txt mg)(bA:Cal P w K mg base "in_lowest_terms" 2 ["figures","bottom"] ACZ):BP P w K mg base CX0 3 f fd ["one","other"] Yg:=by
 refine F.okk Gw fun vs H Q E h=>?_;obtain⟨p,p',A',B,rfl,⟨fa,fs,b,ep,iz,hb,e,lw⟩,⟨fb,gs',b',ep',jg,hb',e',l8⟩,yo,lB,yp,hL,oA,oB,q⟩:=h;refine⟨rfl,fun cdv A outer s hr=>?_⟩;have lf:=M8 e;have lg:=M8 e';obtain⟨bb,bf⟩:=oA.bt e lw;obtain⟨l9,j7⟩:=oB.bt e' l8;have eA:=Yd e;have eB:=Yd e';have m1:=bf _ (Lb (show fs.length-1<fs.length by omega));have m2:=j7 _ (Lb (show gs'.length-1<gs'.length by omega));have a1:=KJ (fs:=fs) (by omega);have a2:=KJ (fs:=gs') (by omega);generalize fs.getD (fs.length-1) 0=hJ at *;generalize gs'.getD (gs'.length-1) 0=dg at *;have sB:(b:Rat)≠0:=fun z=>hb (Rat.intCast_eq_zero_iff.mp z);have hU:(b':Rat)≠0:=fun z=>hb' (Rat.intCast_eq_zero_iff.mp z);have hdg:dg≠0:=fun z=>by
  (rw[z]at eB;have:Po.lst B*(b':Rat)=0:=eB.symm.trans rfl;rcases AU8.mp this with w|w)
  .exact hL w
  .exact hU w
 walk_at "i"
 have j8:(fs.map V.int).length=fs.length:=ASt _;have jh:(gs'.map V.int).length=gs'.length:=ASt _;refine⟨_,(Ac (pS 2 Gw.nd (An VB (An AHU (DQ (Aa Ad Ab)) (An Jh (Ax Aw rfl T.z_len AS6 (Aa (ixT (pv 0) Ad) Ab)) (Ax Aw rfl T.z_len AS6 (Aa (ixT (pv 1) Ad) Ab)))) (ixT (pv 1) Ad)))
   (Ac (pS 3 Gw.nd (ixL (ixT (pv 0) Ad) (JM Gi Ad)))
   (Ac (pS 4 Gw.nd (ixL (ixT (pv 1) Ad) (JM Gi Ad)))
   (Ac (Od (i:=5) Gw.nd rfl (Or.inl rfl) (N':=["figure","less","divided_by","last"]) (fsc:=Af J4) (N:=["one","other","lifted","last","divided_by","figures"]) ["figure","less"] [4,3] ⟨rfl,by decide +kernel,by decide +kernel,rfl,by decide +kernel,by decide +kernel⟩ (QK rfl T.z_zip (Aa (ixT (pv 0) Ad) (Aa (pv 2) Ab))) (fun _ _ _ _=>(Pa (N':=["figure","less","divided_by","last"]) (i:=0) (j:=1) rfl (by decide +kernel) rfl rfl rfl rfl)) (fun _ _ _ _=>PQ) (fun _ _ _ _=>(An Jh (An BZ (pv 2) (pv 0)) (An BZ (pv 3) (pv 1)))))
   (Ac (Ca (AIY ATL PySem.F.slot_list_pop PySem.F.type_list_pop AHM (pv 5)))
   (Ae (Aj (Ai bA hr (Aa (pv 5) (Aa (An BZ (pv 4) (ixT (pv 0) Ad)) Ab)))))))))),?_⟩
 refine⟨(by show 1<=sizeLine;decide),fun l0 hl0=>?_⟩;have s1:=Ah hl0 (.lst [.int 0]);refine⟨_,rfl,p,_,_,_,rfl,rfl,SqT.of (s1 _ _ ep),rfl,fa,_,rfl,.inl (SqL.of (s1 _ _ iz)),_,rfl,p',_,_,_,rfl,rfl,SqT.of (s1 _ _ ep'),rfl,fb,_,rfl,.inl (SqL.of (s1 _ _ jg)),_,_,rfl,rfl,l0,_,_,rfl,rfl,Ag,?_,?_,?_,fun l1 hl1=>?_⟩
 .rw[j8,jh];omega
 .rw[j8,jh];omega
 .rw[j8,jh,ATX];omega
 have en:(((fs.map V.int).length:Int)-((gs'.map V.int).length:Int)).toNat=fs.length-gs'.length:=by
  rw[j8,jh];omega
 rw[en,Z5];have s2:=Ah hl1 (.lst (List.replicate (fs.length-gs'.length) (V.int 0)));have s12:=s1.trans s2;refine⟨_,rfl,p',_,_,_,rfl,rfl,SqT.of (s12 _ _ ep'),rfl,l1,fb,_,_,rfl,rfl,Ag,s12 _ _ jg,by rw[jh,ATZ];omega,fun L sC=>?_⟩;have s3:=Ah sC (.lst (List.replicate (fs.length-gs'.length) (V.int 0)++gs'.map V.int));have pc:Iz (upd (upd (upd H l0 (.lst [.int 0])) l1 (.lst (List.replicate (fs.length-gs'.length) (V.int 0)))) L (.lst (List.replicate (fs.length-gs'.length) (V.int 0)++gs'.map V.int))) L (List.replicate (fs.length-gs'.length) 0++gs'):=by
  unfold Iz;rw[Ag,AS0,AVn]
 have di:=s12.trans s3;have pe:=di _ _ ep;have md:=di _ _ ep';have me:=di _ _ iz;have mh:=di _ _ jg;generalize upd (upd (upd H l0 (.lst [.int 0])) l1 (.lst (List.replicate (fs.length-gs'.length) (V.int 0)))) L (.lst (List.replicate (fs.length-gs'.length) (V.int 0)++gs'.map V.int))=H3 at *;have lL:(List.replicate (fs.length-gs'.length) (0:Int)++gs').length=fs.length:=by rw[ASz,ATZ];omega
 have bL:∀z∈List.replicate (fs.length-gs'.length) (0:Int)++gs',Bt 1300 z:=fun z hz=>by
  rcases ATU.mp hz with w|w
  .rw[List.eq_of_mem_replicate w];exact Bt.zero
  .exact j7 z w
 refine⟨_,rfl,p,_,_,_,rfl,rfl,SqT.of pe,rfl,_,rfl,fa,_,_,_,rfl,rfl,SqL.of me,a1,?_⟩;refine⟨_,rfl,p',_,_,_,rfl,rfl,SqT.of md,rfl,_,rfl,fb,_,_,_,rfl,rfl,SqL.of mh,a2,?_⟩;refine⟨_,rfl,p,_,_,_,rfl,rfl,SqT.of pe,rfl,_,rfl,fa,L,rfl,⟨_,SqL.of me⟩,⟨_,SqL.of pc⟩,Zn (ns:=fs) (ms:=List.replicate (fs.length-gs'.length) (0:Int)++gs') fs.length (by rw[lL];omega) (by omega) me pc (fun x y=>dg*x-hJ*y) ?_ ?_ fun H4 D s4 nD eD=>?_⟩
 .intro _ _ _ _ x y H4 R fin;exact fin
 .intro _ _ _ _ x y H4 R hx hy fin;exact⟨_,rfl,_,rfl,_,_,rfl,rfl,Br m2 (bf x hx) (by decide),_,rfl,_,rfl,_,_,rfl,rfl,Br m1 (bL y hy) (by decide),_,_,rfl,rfl,fin⟩
 obtain⟨m,hm⟩:∃m,fs.length=m+1:=⟨fs.length-1,by omega⟩;rw[hm]at eD;rw[ATh,AS0,AS0,ATr,ATr]at eD;refine⟨_,rfl,.inl ⟨rfl,_,SqL.of eD⟩,D,_,V.int (dg*fs.getD m 0-hJ*(List.replicate (m+1-gs'.length) (0:Int)++gs').getD m 0),rfl,rfl,eD,?_,?_⟩
 .rw[ASz,ATX,Nat.add_sub_cancel,ATD (Nat.le_refl _),Nat.sub_self];rfl
 rw[List.dropLast_concat];have s5:Am H (upd H4 D (.lst (((List.range m).map fun i=>dg*fs.getD i 0-hJ*(List.replicate (m+1-gs'.length) (0:Int)++gs').getD i 0).map V.int))):=Bd (di.trans s4) (di.free nD) _;have sE:(upd H4 D (.lst (((List.range m).map fun i=>dg*fs.getD i 0-hJ*(List.replicate (m+1-gs'.length) (0:Int)++gs').getD i 0).map V.int))) p=some (.tup [.ref fa,.int b]):=s5 _ _ ep;refine⟨_,rfl,_,rfl,_,rfl,p,_,_,_,rfl,rfl,SqT.of sE,rfl,_,_,rfl,rfl,Br m2 bb (by decide),D,_,dg*b,Po.rst A' B,rfl,Ag,by rw[ASt,ATn];omega,Int.mul_ne_zero hdg hb,(m2.mul bb).mono (by decide),?_,fun r H6 s6 fz=>q r H6 (s5.trans s6) fz⟩;have pi:A'.length=m+1:=by omega
 unfold cq Po.rst;rw[List.map_map,List.map_map,pi,Nat.add_sub_cancel];refine List.map_congr_left fun i hi=>?_;show((dg*fs.getD i 0-hJ*(List.replicate (m+1-gs'.length) (0:Int)++gs').getD i 0:Int):Rat)=(A'.getD i 0-Po.lst A'/Po.lst B*(Po.lift A' B).getD i 0)*((dg*b:Int):Rat);have e1:=Tr e i;have e2:=Z3 e' (m+1-gs'.length) i;unfold Po.lift;rw[pi,<-lg,Rat.intCast_sub,Rat.intCast_mul,Rat.intCast_mul,Rat.intCast_mul,e1,e2,eA,eB];generalize A'.getD i 0=x at *;generalize (List.replicate (m+1-gs'.length) (0:Rat)++B).getD i 0=y at *;generalize Po.lst A'=u at *;generalize Po.lst B=v at *;grind
theorem Fz.updD{H:Hp}{p D:Addr}{A qs:List Rat}{ys:List V}(h:Fz H p A)(hA:0<A.length)(rD:Rw H D qs):Fz (upd H D (.lst ys)) p A:=by
 obtain⟨fa,fs,b,h1,h2,h3,h4,h5⟩:=h;obtain⟨ps,e,_⟩:=rD;refine⟨fa,fs,b,?_,?_,h3,h4,h5⟩
 .rw[Az (G3 h1 e (by intro z;cases z))];exact h1
 .unfold Iz;rw[Az]
  .exact h2
  .intro z;rw[z]at h2;have h2':H D=some (.lst (fs.map V.int)):=h2;rw[e]at h2';injection h2' with w;injection w with w;have l:=M8 h4;cases fs with
   | nil=>simp at l;omega
   | cons f fs =>
    cases ps with
    | nil=>simp at w
    | cons q ps=>simp at w
def duQ(gs ws:List Rat):List Rat:=(List.range (2*ws.length+1)).map (Po.duP gs ws)
def Sv:Sp:=fun vs H Q _=>∃(u l:Addr) (gs ws:List Rat) (b:Nat),vs=[.ref u,.ref l]/\Rw H u (Po.hdp gs ws ws.length)/\Rw H l (Po.lsp gs ws ws.length)/\gs.length=ws.length+1/\ws.length<=12/\(∀q∈gs,0<q)/\(∀q∈ws,0<q)/\0<b/\(∀q∈gs,Bq b q)/\(∀q∈ws,Bq b q)/\(2*b+2)*(ws.length+1)<=1300 /\
 ∀r lq H',Am H H'->H' r=some (.tup [.ref lq,.non])->H lq=none->Rw H' lq (duQ gs ws)->Q (.ref r) H'
theorem Dp:Al ["upper","lower","one","other","quotients","place","quotient","rest"] ["upper","lower"] (Af QL):=fsc
theorem AAP(F:Fun K "ladder" "ladder" QL f fd)(T:Txt mg)(aT:Cal P w K mg base "over_one_bottom" 3 ["one"] ACu)(bZ:Cal P w K mg base "quotient_at" 4 ["place","one","other"] ZM)(aS:Cal P w K mg base "side" 1 ["one"] IV)(c5:Cal P w K mg base "rest_of" 3 ["one","other"] Yg):BP P w K mg base CX0 5 f fd ["upper","lower"] Sv:=by
 refine F.okk Dp fun vs H Q E h=>?_;obtain⟨u,l,gs,ws,b,rfl,ru,rl,aB,aC,pg,pw,hb,bg,bw,hbb,q⟩:=h;refine⟨rfl,fun cdv A outer s hr=>?_⟩;have lu:=Po.hd_len pg pw aB (Nat.le_refl ws.length);have ll:=Po.ls_len pg pw aB (Nat.le_refl ws.length);have ov:=Po.place_ov hb bg bw hbb;have sF:∀q∈Po.hdp gs ws ws.length,Bq 1300 q:=by
  obtain⟨⟨M,h1,h2,h3⟩,_⟩:=ov 0;exact fun q hq=>(h3 q hq).bq h1 h2
 have sG:∀q∈Po.lsp gs ws ws.length,Bq 1300 q:=by
  obtain⟨_,⟨M,h1,h2,h3⟩⟩:=ov 0;exact fun q hq=>(h3 q hq).bq h1 h2
 obtain⟨xu,eu,sI⟩:=ru.there;obtain⟨pl,el,kl⟩:=id rl;have sJ:=kl.length;walk_at "i"
 have l0:(Po.lsp gs ws ws.length)[0]?=some 1:=by
  have h0:0<(Po.lsp gs ws ws.length).length:=by omega
  rw[Io h0,<-Po.getD_in h0];exact congrArg some (Po.fig0 gs ws ws.length).1
 obtain⟨p1,e1,k1⟩:=kl.get l0;refine⟨_,(Ac (BK (PW.pt (Dc (Ak GD (Ax Aw rfl T.z_len AS6 (Aa (pv 0) Ab)) (Ax Aw rfl T.z_len AS6 (Aa (pv 1) Ab)) (Ar _)) (Dc (Ak Fy (Ax Aw rfl T.z_len AS6 (Aa (pv 0) Ab)) Ad (Ar _)) (CV (Ak Gp (Ax Aw rfl T.z_len AS6 (Aa (pv 0) Ab)) (An Bp (JS rfl T.c_MOST_BEADS) Ad) (Ar _))))))
    (Ae BR)
    Aq)
   (Ac (BK (Ak (Xb hr.units) (ixL (pv 1) Ad) (Bb (Aa Ad (Aa Ad Ab))) (Ar _))
    (Ae BR)
    Aq)
   (Ac (pS 2 Dp.nd (Ai aT hr (Aa (pv 0) Ab)))
   (Ac (pS 3 Dp.nd (Ai aT hr (Aa (pv 1) Ab)))
   (Ac (pS 4 Dp.nd (DQ Ab))
   (Ac (Do ATI rfl (Eh rfl T.z_range (Aa (An Jh (An BZ Ad (Ax Aw rfl T.z_len AS6 (Aa (pv 0) Ab))) Ad) Ab)) (gN 5 Dp.nd)
    (Ac (pS 6 Dp.nd (Ai bZ hr (Aa (pv 5) (Aa (pv 2) (Aa (pv 3) Ab)))))
    (Ac (BK (Ak GD (Ai aS hr (Aa (pv 6) Ab)) Ad (Ar _))
     (Ae (Aj (Bb (Aa (pv 4) (Aa (pv 5) Ab)))))
     Aq)
    (Ac (Ca (Cp ATL ATN ATO Cw (pv 4) (Aa (pv 6) Ab)))
    (Ac (pS 7 Dp.nd (Ai c5 hr (Aa (pv 2) (Aa (pv 3) Ab))))
    (Ac (pS 2 Dp.nd (pv 3))
    (Ae (pS 3 Dp.nd (pv 7)))))))))
   (Ae (Aj (Bb (Aa (pv 4) (Aa AB4 Ab))))))))))),?_⟩
 refine⟨_,rfl,_,_,rfl,.inl (SqL.of eu),_,rfl,_,_,rfl,.inl (SqL.of el),rfl,_,rfl,Fx (by rw[sI,lu,ASt,sJ,ll]) ?_⟩;refine⟨_,rfl,_,_,rfl,.inl (SqL.of eu),_,_,rfl,rfl,_,rfl,Cd (by omega) ?_⟩;refine⟨_,rfl,_,_,rfl,.inl (SqL.of eu),_,_,rfl,rfl,_,_,rfl,rfl,_,rfl,Cd (by omega) ?_⟩;refine⟨_,rfl,l,_,_,_,rfl,rfl,SqL.of el,Dh (j:=0) e1,(by show 2<=sizeLine;decide),fun z hz'=>?_⟩;have uz:=Ah hz' (.tup [.int 1,.int 1]);have kz:Pq (upd H z (.tup [.int 1,.int 1])) z 1:=Pq.of Pr.new ⟨rfl,rfl⟩;refine⟨_,_,(k1.keep uz).dv,kz.dv,ATG (Mm _) (by decide),_,rfl,QQ (Jg _) ?_⟩;refine⟨_,rfl,u,_,rfl,ru.keep uz,by omega,sF,fun a1 H1 s1 f1=>?_⟩;refine⟨_,rfl,l,_,rfl,rl.keep (uz.trans s1),by omega,sG,fun a2 H2 s2 f2=>?_⟩;refine⟨(by show 0<=sizeLine;decide),fun D hD=>?_⟩;have eF:=uz.trans (s1.trans s2);have u3:=Ah hD (.lst []);have pA:H D=none:=eF.free hD;refine⟨_,rfl,_,_,rfl,.inl (SqL.of ((eF.trans u3) _ _ eu)),_,_,rfl,rfl,Rn.ok (.inl ⟨by decide,by decide⟩),_,_,rfl,rfl,_,rfl,by omega,by omega,?_⟩;rw[show(2*((xu.length:Nat):Int)-1).toNat=2*ws.length+1 by omega];refine Gb (n:=2*ws.length+1) (fun i σ H'=>(∃(x y:Addr) (v1 v2 v3:Option V),σ=[some (.ref u),some (.ref l),some (.ref x),some (.ref y),some (.ref D),v1,v2,v3]/\Fz H' x (Po.PA gs ws i)/\Fz H' y (Po.PB gs ws i))/\Am H H'/\Rw H' D ((List.range i).map (Po.duP gs ws)))
  ⟨⟨a1,a2,_,_,_,rfl,f1.keep (s2.trans u3),f2.keep u3⟩,eF.trans u3,⟨[],Ag,.nil⟩⟩ ?_ ?_
 .rintro i σ H3 hi ⟨⟨x,y,v1,v2,v3,rfl,fx,fy⟩,sm,rD⟩;obtain⟨st1,st2,st3,mi,iV,yq,pB,sK,pC⟩:=Po.place_step pg pw aB hi;obtain⟨oA,oB⟩:=ov i;refine⟨_,rfl,_,rfl,_,rfl,i,x,y,_,_,?_,fx,fy,st3,mi,pB,oA,oB,fun r4 H4 s4 k4=>?_⟩
  .rw[Int.zero_add];rfl
  rw[sK]at k4;have es:sgn (Po.duP gs ws i).num=1:=by
   have h0:0<=(Po.duP gs ws i).num:=AVE.mpr (Rat.le_of_lt pC);have h1:(Po.duP gs ws i).num≠0:=fun z=>Rat.ne_of_gt pC (AT4.mp z);unfold sgn;rw[if_pos (by omega)]
  refine⟨_,rfl,r4,_,_,rfl,k4,rfl,_,rfl,Fx (congrArg V.int es) ?_⟩;obtain⟨fO,hxs,gR,sL⟩:=rD.app s4 k4;rw[ASt,ATn]at gR;refine⟨_,rfl,.inl ⟨rfl,_,SqL.of hxs⟩,_,rfl,D,fO,_,rfl,rfl,hxs,by omega,?_⟩;have sM:=(fx.keep s4).updD (ys:=fO++[.ref r4]) st3 (rD.keep s4);have pE:=(fy.keep s4).updD (ys:=fO++[.ref r4]) mi (rD.keep s4);have s5:Am H (upd H4 D (.lst (fO++[.ref r4]))):=Bd (sm.trans s4) pA _;generalize upd H4 D (.lst (fO++[.ref r4]))=H5 at *;refine⟨_,rfl,_,rfl,x,y,_,_,rfl,sM,pE,by omega,mi,iV,pB,oA,oB,fun r6 H6 s6 f6=>?_⟩;rw[st2]at f6;refine⟨_,rfl,_,rfl,⟨y,r6,_,_,_,rfl,?_,f6⟩,s5.trans s6,?_⟩
  .rw[st1];exact pE.keep s6
  .rw[ATh,AS0];exact sL.keep s6
 .rintro σ H3 ⟨⟨x,y,v1,v2,v3,rfl,_,_⟩,sm,rD⟩;refine⟨_,rfl,(by show 2<=sizeLine;decide),fun r hr'=>?_⟩;have u:=Ah hr' (.tup [.ref D,.non]);exact q r D _ (sm.trans u) Ag pA (rD.keep u)
theorem ADA(gs ws:List Rat):(duQ gs ws).length=2*ws.length+1:=by unfold duQ;rw[ASt,ATn]
def WX:Sp:=fun vs H Q _=>∃p q x y,vs=[.ref p,.ref q]/\Pq H p x/\Pq H q y/\y≠0/\Bq 7000 x/\Bq 7000 y/\∀r H',Am H H'->Pq H' r (x/y)->Q (.ref r) H'
theorem AEc:Al ["one","other"] ["one","other"] (Af Xn):=fsc
theorem AEe(F:Fun K "over" "over" Xn f fd)(T:Txt mg)(aX:Cal P w K mg base "times" 2 ["one","other"] (Bw 8000 (·*·)))(aQ:ADx P w K mg base "fraction" 2 ["top","bottom"] [] [] Ls):BP P w K mg base CX0 3 f fd ["one","other"] WX:=by
 refine F.okk AEc fun vs H Q E h=>?_;obtain⟨p,p',x,y,rfl,kp,kq,hy,bx,ji,q⟩:=h;refine⟨rfl,fun cdv A outer s hr=>?_⟩;have hn:y.num≠0:=fun z=>hy (AT4.mp z);have e:=Fw y;have n1:=CQ y;have n2:(y.num:Rat)≠0:=fun z=>hn (Rat.intCast_eq_zero_iff.mp z);have ed:x*((((y.den:Int)):Rat)/(y.num:Rat))=x/y:=by
  have e':y=(y.num:Rat)/((y.den:Int):Rat):=e.symm;generalize (y.num:Rat)=u at *;generalize ((y.den:Int):Rat)=v at *;rw[e'];grind
 refine⟨_,(Ac (BK (Ak Be (ixT (pv 1) Ad) Ad (Ar _))
    (Ae BR)
    Aq)
   (Ae (Aj (Ai aX hr (Aa (pv 0) (Aa (ADT aQ hr (Aa (ixT (pv 1) Ad) (Aa (ixT (pv 1) Ad) Ab))) Ab)))))),?_⟩
 refine⟨_,rfl,_,_,_,_,rfl,rfl,kq.sq,rfl,rfl,_,rfl,Cd (fun z=>hn (V.int.inj z)) ?_⟩;refine⟨_,rfl,_,rfl,_,_,_,_,rfl,rfl,kq.sq,rfl,_,rfl,_,_,_,_,rfl,rfl,kq.sq,rfl,y.den,y.num,rfl,hn,ji.1.mono (by decide),fun r1 H1 s1 k1=>?_⟩;refine⟨p,r1,_,_,rfl,kp.keep s1,k1,bx.mono (by decide),Jc (T:=y.den) (M:=y.num) hn rfl (ji.2.mono (by decide)) (ji.1.mono (by decide)),fun r H2 s2 k2=>q r H2 (s1.trans s2) ?_⟩;rw[<-ed];exact k2
def V6:Sp:=fun vs H Q _=>∃p q x y,vs=[.ref p,.ref q]/\Pq H p x/\Pq H q y/\0<y/\Bq 7000 x/\Bq 7000 y/\∀r H',Am H H'->Pq H' r (x/y)->Q (.ref r) H'
theorem AHQ{vs:List V}{H:Hp}{Q:VK}{E:XK}(h:V6 vs H Q E):WX vs H Q E:=by
 obtain⟨p,q,x,y,rfl,hp,hq,py,bx,ji,k⟩:=h;exact⟨p,q,x,y,rfl,hp,hq,Rat.ne_of_gt py,bx,ji,k⟩
def Iu(C:Addr):Sp:=fun vs H Q _=>∃(c ga wa:Addr) (gs ws:List Rat) (b:Nat),vs=[.ref c]/\Co C H c ga wa gs ws/\Dy gs ws/\0<b/\(∀q∈gs,Bq b q)/\(∀q∈ws,Bq b q)/\(3*b+2)*(ws.length+1)<=7000/\∀r H',Am H H'->Pq H' r (Po.dsum gs ws ws.length)->Q (.ref r) H'
theorem Dw:Al ["cord","pulls","whole","place","weight"] ["cord"] (Af HB):=fsc
theorem TY(F:Fun K "above_all" "above_all" HB f fd)(T:Txt mg)(aR:Cal P w K mg base "plus" 2 ["one","other"] (Bw 8000 (·+·)))(dP:Cal P w K mg base "over" 3 ["one","other"] V6)(ap:Fg P w K mg base af "gaps" 1 ["self"] (Ii af))(aj:Fg P w K mg base af "weights" 1 ["self"] (Ec af)):BP P w K mg base CX0 4 f fd ["cord"] (Iu af):=by
 refine F.okk Dw fun vs H Q E h=>?_;obtain⟨c,ga,wa,gs,ws,b,rfl,co,fine,hb,bg,bw,hbb,q⟩:=h;refine⟨rfl,fun cdv A outer s hr=>?_⟩;have aB:=fine.len;have aC:=fine.most;have db:=Po.dsum_bq hb aB fine.pos.1 fine.pos.2 bg bw;refine⟨_,(Ac (K1 (i:=1) Dw.nd rfl (Or.inl rfl) (N':=["gap"]) (fsc:=Af HB) (N:=["cord","pulls","whole","place","weight"]) [] ⟨rfl,by decide +kernel,by decide +kernel,by decide +kernel,rfl,by decide +kernel,rfl,by decide +kernel⟩ (Bl (GC ap hr (pv 0))) (fun _ _ _ _=>(Ai dP hr (Aa (Bb (Aa Ad (Aa Ad Ab))) (Aa (pv 0) Ab)))))
   (Ac (pS 2 Dw.nd (Bb (Aa Ad (Aa Ad Ab))))
   (Ac (Do ATI rfl (ADm rfl T.z_enumerate (Aa (GC aj hr (pv 0)) Ab)) (JV rfl (Bk (gN 3 Dw.nd) (Bk (gN 4 Dw.nd) Ga)))
    (Ae (pS 2 Dw.nd (Ai aR hr (Aa (pv 2) (Aa (Ai dP hr (Aa (Ai aR hr (Aa (ixL (pv 1) (pv 3)) (Aa (ixL (pv 1) (An Bp (pv 3) Ad)) Ab))) (Aa (pv 4) Ab))) Ab))))))
   (Ae (Aj (pv 2)))))),?_⟩
 obtain⟨dx,e⟩:=co.1;refine⟨_,rfl,c,dx,_,rfl,e,rfl,c,ga,wa,gs,ws,rfl,co,fun rg H1 s1 n1 jY=>?_⟩;obtain⟨xg,eg,lg⟩:=jY.there;refine⟨rg,rfl,⟨_,SqL.of eg⟩,QJ (qs:=gs) (by omega) jY (fun y=>1/y) ?_ fun H2 D s2 nD rD=>?_⟩
 .intro _ _ _ _ p y H2 R hy kp s2 fin;refine⟨(by show 2<=sizeLine;decide),fun z hz=>?_⟩;have u:=Ah hz (.tup [.int 1,.int 1]);have kz:Pq (upd H2 z (.tup [.int 1,.int 1])) z 1:=Pq.of Pr.new ⟨rfl,rfl⟩;exact⟨_,rfl,z,p,_,_,rfl,kz,kp.keep u,fine.pos.1 y hy,Bq.one (by decide),(fine.bq.1 y hy).mono (by decide),fun r H3 s3 k3=>fin r H3 (u.trans s3) k3⟩
 obtain⟨pD,eD,kD⟩:=id rD;refine⟨(by show 2<=sizeLine;decide),fun p0 hp0=>?_⟩;have u0:=Ah hp0 (.tup [.int 0,.int 1]);have k0:Pq (upd H2 p0 (.tup [.int 0,.int 1])) p0 0:=Pq.of Pr.new ⟨rfl,rfl⟩;have di:=s1.trans (s2.trans u0);have ja:=co.keep di;obtain⟨jb,e3⟩:=ja.1;refine⟨_,rfl,c,jb,_,rfl,e3,rfl,c,ga,wa,gs,ws,rfl,ja,fun cP H4 s4 n4 ⟨pw,ew,kw⟩=>⟨cP,rfl,⟨_,SqL.of ew⟩,?_⟩⟩;have lw:=kw.length;have hV:=u0.trans s4;refine ABP (xs:=pw.map V.ref) (fun i σ H'=>(∃(pz:Addr) (v u:Option V),σ=[some (.ref c),some (.ref D),some (.ref pz),v,u]/\Pq H' pz (Po.dsum gs ws i))/\Am H4 H')
  ⟨⟨p0,_,_,rfl,k0.keep s4⟩,Am.refl _⟩ ?_ ?_ ?_
 .rintro i σ H5 _ ⟨_,sm⟩;exact SqL.of (sm _ _ ew)
 .rintro i x σ H5 T0 hx ⟨⟨pz,v,u,rfl,pG⟩,fK⟩ hT;have hi:i<ws.length:=by
   have h:=(AS7.mp hx).1;rw[ASt]at h;omega
  obtain⟨p1,e1,k1⟩:=kw.get (Io hi);obtain rfl:x=.ref p1:=AS5 (hx.symm.trans e1);(refine⟨T0,_,rfl,SqT.of Ag,rfl,_,_,rfl,_,_,rfl,rfl,?_⟩);have pH:=Ah hT (.tup [.int (0+(i:Int)),.ref p1]);have kz:=pG.keep pH;have sm:=fK.trans pH;clear pG fK;generalize upd H5 T0 (.tup [.int (0+(i:Int)),.ref p1])=H6 at *;have h0:i<gs.length:=by omega
  have h1:i+1<gs.length:=by omega
  obtain⟨p2,e2,k2⟩:=kD.get (i:=i) (q:=1/gs[i]) (by rw[AS4,Io h0];rfl);obtain⟨p3,e3',k3⟩:=kD.get (i:=i+1) (q:=1/gs[i+1]) (by rw[AS4,Io h1];rfl);have mj:atI (pD.map V.ref) (0+(i:Int)+1)=some (.ref p3):=by
   rw[show(0:Int)+(i:Int)+1=((i+1:Nat):Int) by omega];exact Dh e3'
  have j9:=hV.trans sm;have g0:gs.getD i 0=gs[i]:=by rw[ASu,Io h0];rfl
  have g1:gs.getD (i+1) 0=gs[i+1]:=by rw[ASu,Io h1];rfl
  have g2:ws.getD i 0=ws[i]:=by rw[ASu,Io hi];rfl
  have ba:=Po.inv_bq (fine.pos.1 _ (List.getElem_mem h0)) (fine.bq.1 _ (List.getElem_mem h0));have bb:=Po.inv_bq (fine.pos.1 _ (List.getElem_mem h1)) (fine.bq.1 _ (List.getElem_mem h1));have bc:=fine.bq.2 _ (List.getElem_mem hi);have bd:=db i (by omega);have hm:(3*b+2)*i+(3*b+2)<=7000:=by
   have:(3*b+2)*(i+1)<=(3*b+2)*(ws.length+1):=AVc _ (by omega);rw[AVF]at this;omega
  have bq:Bq 8000 ((1/gs[i]+1/gs[i+1])/ws[i]):=by
   rw[show(1/gs[i]+1/gs[i+1])/ws[i]=(1/gs[i]+1/gs[i+1])*(1/ws[i]) by grind];exact((ba.add bb).mul (Po.inv_bq (fine.pos.2 _ (List.getElem_mem hi)) bc)).mono (by decide)
  refine⟨_,rfl,_,rfl,_,rfl,D,_,_,_,rfl,rfl,SqL.of (j9 _ _ eD),YZ e2,_,rfl,_,rfl,_,_,rfl,rfl,D,_,_,_,rfl,rfl,SqL.of (j9 _ _ eD),mj,p2,p3,_,_,rfl,k2.keep j9,k3.keep j9,ba.mono (by decide),bb.mono (by decide),fun r7 H7 s7 k7=>?_⟩;refine⟨_,rfl,r7,p1,_,_,rfl,k7,k1.keep (sm.trans s7),fine.pos.2 _ (List.getElem_mem hi),(ba.add bb).mono (by decide),bc.mono (by decide),fun r8 H8 s8 k8=>?_⟩;refine⟨pz,r8,_,_,rfl,kz.keep (s7.trans s8),k8,bd.mono (by omega),bq,fun r9 H9 s9 k9=>⟨⟨r9,_,_,rfl,?_⟩,sm.trans (s7.trans (s8.trans s9))⟩⟩;show Pq H9 r9 (Po.dsum gs ws i+(1/gs.getD i 0+1/gs.getD (i+1) 0)/ws.getD i 0);rw[g0,g1,g2];exact k9
 .rintro σ H5 ⟨⟨pz,v,u,rfl,kz⟩,sm⟩;rw[ASt,lw]at kz;exact⟨_,rfl,q pz H5 (di.trans (s4.trans sm)) kz⟩
def QG(C:Addr):Sp:=fun vs H Q _=>∃(c ga wa:Addr) (gs ws:List Rat) (lo:Bool) (k:Int) (hv b:Nat),vs=[.ref c,.str (if lo then "loose" else "held"),.int k,.int hv]/\Co C H c ga wa gs ws/\Dy gs ws/\0<b/\(∀q∈gs,Bq b q)/\(∀q∈ws,Bq b q)/\(3*b+2)*(ws.length+1)<=7000/\(3*b+2)*ws.length+hv<=390/\hv<=60 /\
 (1<=k/\k<=(ws.length:Int)) /\
 (∀r pl ph j H',Am H H'->H' r=some (.tup [.ref pl,.ref ph])->Pq H' pl (Po.tj (Po.dsum gs ws ws.length) j hv)->Pq H' ph (Po.tj (Po.dsum gs ws ws.length) (j+1) hv)->j<2^hv->cU gs ws lo (Po.tj (Po.dsum gs ws ws.length) j hv)<k->k<=cU gs ws lo (Po.tj (Po.dsum gs ws ws.length) (j+1) hv)->Q (.ref r) H')
theorem Im:Al ["cord","end","k","halvings","low","high","halving","middle"] ["cord","end","k","halvings"] (Af Xw):=fsc
theorem AEH(F:Fun K "span" "span" Xw f fd)(T:Txt mg)(aR:Cal P w K mg base "plus" 2 ["one","other"] (Bw 8000 (·+·)))(aX:Cal P w K mg base "times" 2 ["one","other"] (Bw 8000 (·*·)))(cR:Cal P w K mg base "up_to" 6 ["cord","end","t"] (Lk af))(cC:Cal P w K mg base "above_all" 4 ["cord"] (Iu af))(aI:Fg P w K mg base af "beads" 1 ["self"] (MK af)):BP P w K mg base CX0 7 f fd ["cord","end","k","halvings"] (QG af):=by
 refine F.okk Im fun vs H Q E h=>?_;obtain⟨c,ga,wa,gs,ws,lo,k,hv,b,rfl,co,fine,hb,bg,bw,hbb,hbt,yr,hk,q⟩:=h;refine⟨rfl,fun cdv A outer s hr=>?_⟩;have aB:=fine.len;have aC:=fine.most;refine⟨_,(Ac (BK (PW.pt (Dc (Ak Fy (pv 2) Ad (Ar _)) (CV (Ak Gp (pv 2) (GC aI hr (pv 0)) (Ar _)))))
    (Ae BR)
    Aq)
   (Ac (pS 4 Im.nd (Bb (Aa Ad (Aa Ad Ab))))
   (Ac (pS 5 Im.nd (Ai cC hr (Aa (pv 0) Ab)))
   (Ac (Do ATI rfl (Eh rfl T.z_range (Aa (pv 3) Ab)) (gN 6 Im.nd)
    (Ac (pS 7 Im.nd (Ai aX hr (Aa (Ai aR hr (Aa (pv 4) (Aa (pv 5) Ab))) (Aa (Bb (Aa Ad (Aa Ad Ab))) Ab))))
    (Ae (BK (Ak Yh (Ai cR hr (Aa (pv 0) (Aa (pv 1) (Aa (pv 7) Ab)))) (pv 2) (Ar _))
     (Ae (pS 5 Im.nd (pv 7)))
     (Ae (pS 4 Im.nd (pv 7)))))))
   (Ae (Aj (Bb (Aa (pv 4) (Aa (pv 5) Ab))))))))),?_⟩
 walk_at "J";obtain⟨dx,e⟩:=co.1;refine⟨_,rfl,_,rfl,c,dx,_,rfl,e,rfl,c,ga,wa,gs,ws,rfl,co,_,_,rfl,rfl,_,rfl,Cd (by omega) ?_⟩;have hn:0<ws.length:=by omega
 have bT:=Po.dsum_bq hb aB fine.pos.1 fine.pos.2 bg bw ws.length (Nat.le_refl _);refine⟨(by show 2<=sizeLine;decide),fun p0 hp0=>?_⟩;have u0:=Ah hp0 (.tup [.int 0,.int 1]);have fT:Pq (upd H p0 (.tup [.int 0,.int 1])) p0 0:=Pq.of Pr.new ⟨rfl,rfl⟩;refine⟨_,rfl,c,ga,wa,gs,ws,b,rfl,co.keep u0,fine,hb,bg,bw,hbb,fun r1 H1 s1 sN=>?_⟩;have j5:=u0.trans s1;have c0:=Te (ws:=ws) lo aB fine.pos.1;have ct:=T8 lo aB fine.pos.1 fine.pos.2 hn AUN;generalize Po.dsum gs ws ws.length=DT at *;walk_at "i"
 refine⟨_,rfl,_,rfl,by omega,by omega,?_⟩;rw[AUD];refine Gb (n:=hv) (fun i σ H'=>∃(pl ph:Addr) (j:Nat) (v u:Option V),σ=[some (.ref c),some (.str (if lo then "loose" else "held")),some (.int k),some (.int hv),some (.ref pl),some (.ref ph),v,u]/\Am H H'/\Pq H' pl (Po.tj DT j i)/\Pq H' ph (Po.tj DT (j+1) i)/\j<2^i/\cU gs ws lo (Po.tj DT j i)<k/\k<=cU gs ws lo (Po.tj DT (j+1) i))
  ⟨p0,r1,0,_,_,rfl,j5,by rw[Po.tj_zero];exact fT.keep s1,by rw[Po.tj_one];exact sN,by decide,by rw[Po.tj_zero,c0];omega,by rw[Po.tj_one,ct];omega⟩ ?_ ?_
 .rintro i σ H2 hi ⟨pl,ph,j,v,u,rfl,sm,kl,kh,hj,hlo,hhi⟩;have b1:=(Po.tj_bq bT (j:=j) (i:=i) (by omega)).mono (show(3*b+2)*ws.length+1+i+1<=400 by omega);have b2:=(Po.tj_bq bT (j:=j+1) (i:=i) (by omega)).mono (show(3*b+2)*ws.length+1+i+1<=400 by omega);have hj2:2*j+1<2^(i+1):=by rw[AUU];omega
  have b3:=(Po.tj_bq bT (j:=2*j+1) (i:=i+1) (by omega)).mono (show(3*b+2)*ws.length+1+(i+1)+1<=400 by omega);refine⟨_,rfl,_,rfl,pl,ph,_,_,rfl,kl,kh,b1.mono (by decide),b2.mono (by decide),fun r3 H3 s3 k3=>⟨(by show 2<=sizeLine;decide),fun z hz'=>?_⟩⟩;have u3:=Ah hz' (.tup [.int 1,.int 2]);have kz:Pq (upd H3 z (.tup [.int 1,.int 2])) z (1/2):=Pq.of Pr.new ⟨by decide +kernel,by decide +kernel⟩;refine⟨r3,z,_,_,rfl,k3.keep u3,kz,(b1.add b2).mono (by decide),⟨bt2 (by decide +kernel),bt2 (by decide +kernel)⟩,fun r4 H4 s4 k4=>?_⟩;replace k4:Pq H4 r4 (Po.tj DT (2*j+1) (i+1)):=by
   rw[<-Po.tj_mid];exact k4
  have hV:=s3.trans (u3.trans s4);refine⟨_,rfl,_,rfl,_,rfl,c,ga,wa,r4,gs,ws,lo,_,rfl,co.keep (sm.trans hV),k4,fine,b3,fun H5 s5=>?_⟩;have fV:=hV.trans s5;have mm:=kl.keep fV;have sO:=kh.keep fV;refine⟨_,rfl,_,_,rfl,rfl,_,rfl,Hk (fun c3=>?_) (fun c3=>?_)⟩
  .have z:k<=cU gs ws lo (Po.tj DT (2*j+1) (i+1)):=of_decide_eq_true c3;refine⟨_,rfl,pl,r4,2*j,_,_,rfl,sm.trans fV,?_,k4.keep s5,by omega,?_,z⟩
   .rw[Po.tj_two];exact mm
   .rw[Po.tj_two];exact hlo
  .have z:¬k<=cU gs ws lo (Po.tj DT (2*j+1) (i+1)):=of_decide_eq_false (Bool.eq_false_iff.mpr c3);refine⟨_,rfl,r4,ph,2*j+1,_,_,rfl,sm.trans fV,k4.keep s5,?_,by omega,by omega,?_⟩
   .walk_at "bd";exact sO
   .walk_at "bd";exact hhi
 .rintro σ H2 ⟨pl,ph,j,v,u,rfl,sm,kl,kh,hj,hlo,hhi⟩;refine⟨_,rfl,_,rfl,(by show 2<=sizeLine;decide),fun r hr'=>?_⟩;have u:=Ah hr' (.tup [.ref pl,.ref ph]);exact q r pl ph j _ (sm.trans u) Ag (kl.keep u) (kh.keep u) hj hlo hhi
theorem QH:∀(l:List Rat) (i:Nat),(L3.ev2 l).getD i 0=l.getD (2*i) 0
 | [],i=>by cases i<;>rfl
 | [x],i=>by
  cases i with
  | zero=>rfl
  | succ i =>
   rw[Po.getD_out (xs:=L3.ev2 [x]) (by show 1<=i+1;omega),Po.getD_out (xs:=[x]) (by show 1<=_;omega)]
 | x::y::l,i=>by
  cases i with
  | zero=>rfl
  | succ i =>
   show(L3.ev2 l).getD i 0=_;rw[QH l i,show 2*(i+1)=2*i+1+1 by omega];rfl
theorem Wj{l:List Rat}{i:Nat}(h:i<l.length):l.reverse.getD i 0=l.getD (l.length-1-i) 0:=by
 rw[ASu,AUl h,<-ASu]
theorem W4{gs ws:List Rat}{p:Nat}(h:p<2*ws.length+1):(duQ gs ws).getD p 0=Po.duP gs ws p:=by
 unfold duQ;rw[Po.getD_range,if_pos h]
theorem ADv{gs ws:List Rat}(aB:gs.length=ws.length+1):L3.ev2 ((duQ gs ws).reverse.drop 0)=gs:=by
 have l:=ADA gs ws;rw[AUB];refine Po.list_ext (by rw[L3.ev2_length,ATv];omega) fun i hi=>?_;rw[QH,Wj (by omega),l,W4 (by omega)];unfold Po.duP;rw[if_pos (by omega),show ws.length-(2*ws.length+1-1-2*i)/2=i by omega]
theorem Xl{gs ws:List Rat}(aB:gs.length=ws.length+1):L3.ev2 ((duQ gs ws).reverse.drop 1)=ws:=by
 have l:=ADA gs ws;refine Po.list_ext (by rw[L3.ev2_length,ATF,ATv];omega) fun i hi=>?_;rw[QH,ASu,AUL,<-ASu,Wj (by omega),l,W4 (by omega)];unfold Po.duP;rw[if_neg (by omega),show ws.length-(2*ws.length+1-1-(1+2*i))/2-1=i by omega]
theorem Pqs.rev2{H:Hp}{ps:List Addr}{qs:List Rat}(h:Pqs H ps qs):Pqs H (L3.ev2 ps) (L3.ev2 qs):=by
 match ps,qs,h with
 | _,_,.nil=>exact .nil
 | _,_,.cons a .nil=>exact .cons a .nil
 | _,_,.cons a (.cons _ r)=>exact .cons a (Pqs.rev2 r)
theorem Drw.fine0{b:Nat}{gs ws:List Rat}(d:Drw b gs ws):Nz gs ws:=⟨d.len,d.most,d.pg,d.pw⟩
def ABt(C:Addr):Sp:=fun vs H Q _=>∃(u l:Addr) (gs ws:List Rat) (b:Nat),vs=[.ref u,.ref l]/\Rw H u (Po.hdp gs ws ws.length)/\Rw H l (Po.lsp gs ws ws.length)/\Drw b gs ws /\
 ∀r g w H',Am H H'->H r=none->H g=none->H w=none->Co C H' r g w gs ws->Q (.ref r) H'
theorem IK:Al ["upper","lower","told","steps"] ["upper","lower"] (Af JT):=fsc
theorem VH(F:Fun K "cord_with" "cord_with" JT f fd)(T:Txt mg)(dF:Cal P w K mg base "ladder" 5 ["upper","lower"] Sv)(au:QM P w K mg base "Cord" af 4 ["self","gaps","weights"] (Gv af)):BP P w K mg base CX0 6 f fd ["upper","lower"] (ABt af):=by
 refine F.okk IK fun vs H Q E h=>?_;obtain⟨u,l,gs,ws,b,rfl,ru,rl,d,q⟩:=h;refine⟨rfl,fun cdv A outer s hr=>?_⟩;have aB:=d.len;refine⟨_,(Ac (pS 2 IK.nd (Ai dF hr (Aa (pv 0) (Aa (pv 1) Ab))))
   (Ac (BK (Ak ADq (ixT (pv 2) Ad) AB4 (Ar _))
    (Ae BR)
    Aq)
   (Ac (pS 3 IK.nd (Kz rfl T.z_list rfl T.z_reversed (Aa (ixT (pv 2) Ad) Ab)))
   (Ae (Aj (V2 au hr (Aa (Lx (pv 3) Ds Ad) (Aa (Lx (pv 3) (DR Ad) Ad) Ab)))))))),?_⟩
 refine⟨_,rfl,_,rfl,u,l,gs,ws,b,rfl,ru,rl,aB,d.most,d.pg,d.pw,d.hb,d.bg,d.bw,d.bb,fun r lq H1 s1 er yt rq=>?_⟩;refine⟨_,rfl,r,_,_,_,rfl,rfl,SqT.of er,rfl,rfl,_,rfl,Fx rfl ?_⟩;obtain⟨pq,eq,kq⟩:=rq;refine⟨_,rfl,r,_,_,_,rfl,rfl,SqT.of er,rfl,lq,_,rfl,SqL.of eq,fun m1 hm1=>?_⟩;have u1:=Ah hm1 (.lst (pq.map V.ref).reverse);have e1:(upd H1 m1 (.lst (pq.map V.ref).reverse)) m1=some (.lst (pq.reverse.map V.ref)):=by rw[Ag,AWA]
 have k1:=Pqs.reverse (kq.keep u1);have s2:=s1.trans u1;clear u1 hm1 eq er;generalize upd H1 m1 (.lst (pq.map V.ref).reverse)=H2 at *;refine⟨_,rfl,m1,_,0,rfl,rfl,.inl ⟨rfl,rfl⟩,SqL.of e1,fun m2 hm2=>?_⟩;have u2:=Ah hm2 (.lst (L3.ev2 ((pq.reverse.map V.ref).drop 0)));refine⟨_,rfl,_,rfl,m1,_,1,rfl,rfl,.inr rfl,SqL.of (u2 _ _ e1),fun m3 iL=>?_⟩;have u3:=Ah iL (.lst (L3.ev2 ((pq.reverse.map V.ref).drop 1)));have u23:=u2.trans u3;have t2:Rw (upd (upd H2 m2 (.lst (L3.ev2 ((pq.reverse.map V.ref).drop 0)))) m3 (.lst (L3.ev2 ((pq.reverse.map V.ref).drop 1)))) m2 gs:=by
  rw[<-ADv aB];exact⟨L3.ev2 (pq.reverse.drop 0),by rw[u3 _ _ Ag,L3.ev2_map,AV0],Pqs.keep (Pqs.rev2 (Pqs.drop 0 k1)) u23⟩
 have t3:Rw (upd (upd H2 m2 (.lst (L3.ev2 ((pq.reverse.map V.ref).drop 0)))) m3 (.lst (L3.ev2 ((pq.reverse.map V.ref).drop 1)))) m3 ws:=by
  have z:Rw (upd (upd H2 m2 (.lst (L3.ev2 ((pq.reverse.map V.ref).drop 0)))) m3 (.lst (L3.ev2 ((pq.reverse.map V.ref).drop 1)))) m3 (L3.ev2 ((duQ gs ws).reverse.drop 1)):=⟨L3.ev2 (pq.reverse.drop 1),by rw[Ag,L3.ev2_map,AV0],Pqs.keep (Pqs.rev2 (Pqs.drop 1 k1)) u23⟩;rw[Xl aB]at z;exact z
 have s3:=s2.trans u23;clear u2 u3 u23 hm2 iL;generalize upd (upd H2 m2 (.lst (L3.ev2 ((pq.reverse.map V.ref).drop 0)))) m3 (.lst (L3.ev2 ((pq.reverse.map V.ref).drop 1)))=H3 at *;intro x fj nx ndx _;exact RN nx ndx t2 t3 d.fine0 fun g w H' s' ng nw eC=>q x g w H' (s3.trans s') (s3.free nx) (s3.free ng) (s3.free nw) eC
inductive MkQ:Str->List Tg->List Rat->List Rat->Prop
 | turn {x:Tg} {gs ws:List Rat}:Dy gs ws->MkQ "turn" [x,.cord gs ws] gs.reverse ws.reverse
 | cord {x:Tg} {gs ws:List Rat}:MkQ "cord" [x,.cord gs ws] gs ws
 | heavier {x:Tg} {gs ws:List Rat} {n:Nat} {q:Rat}:Dy gs ws->1<=n->n<=ws.length->0<q->Bq 101 q->MkQ "heavier" [x,.cord gs ws,.whl n,.frac q] gs (mor ws (n-1) q)
 | longer {x:Tg} {gs ws:List Rat} {n:Nat} {q:Rat}:Dy gs ws->n<=ws.length->0<q->Bq 101 q->MkQ "longer" [x,.cord gs ws,.whl n,.frac q] (mor gs n q) ws
 | find {x:Tg} {gs ws:List Rat} {b:Nat}:Drw b gs ws->MkQ "find" [x,.pols (Po.hdp gs ws ws.length) (Po.lsp gs ws ws.length)] gs ws
def M7(C:Addr):Sp:=fun vs H Q _=>∃deed L tvs ths gs ws,vs=[.str deed,.ref L]/\H L=some (.lst tvs)/\Paired (TgD C L H) tvs ths/\MkQ deed ths gs ws/\∀c ga wa H',Am H H'->Co C H' c ga wa gs ws->Q (.ref c) H'
def eW(lo:Bool):List Nat:=if lo then [108,111,111,115,101] else [104,101,108,100]
theorem Wk(lo:Bool):sx (eW lo)=if lo then Str.ofString "loose" else Str.ofString "held":=by
 cases lo
 .exact(by decide +kernel:sx [104,101,108,100]=Str.ofString "held")
 .exact(by decide +kernel:sx [108,111,111,115,101]=Str.ofString "loose")
def eQ(lo:Bool):List Rat->List Rat->List Rat:=if lo then Um else ZZ
def ABK(gs ws:List Rat)(lo:Bool)(t:Rat):List Nat:=jn 32 [itx (BV (Bx gs ws lo t)),itx (cU gs ws lo t)]
def SpJ(gs ws:List Rat)(lo:Bool)(k:Int)(hv j:Nat):Prop:=j<2^hv/\cU gs ws lo (Po.tj (Po.dsum gs ws ws.length) j hv)<k/\k<=cU gs ws lo (Po.tj (Po.dsum gs ws ws.length) (j+1) hv)
def AHz(gs ws:List Rat)(hv:Nat):Prop:=Dy gs ws/\hv<=60/\∃b,0<b/\(∀q∈gs,Bq b q)/\(∀q∈ws,Bq b q)/\(3*b+2)*(ws.length+1)<=7000/\(3*b+2)*ws.length+hv<=390
inductive Va:Str->List Tg->List Nat->Prop
 | shown {gs ws:List Rat}:C30 gs ws->Va "show" [.cord gs ws] (jn 32 (Bo gs ws))
 | poly {gs ws:List Rat} {lo:Bool}:R9 gs ws->(eQ lo gs ws).length<=20->(∀q∈eQ lo gs ws,F30 q)->Va "poly" [.cord gs ws,.wrd (eW lo)] (jn 32 (Av (eQ lo gs ws)))
 | count {gs ws:List Rat} {lo:Bool} {t:Rat}:Dy gs ws->Bq 400 t->Va "count" [.cord gs ws,.wrd (eW lo),.frac t] (ABK gs ws lo t)
 | span {gs ws:List Rat} {lo:Bool} {k:Int} {hv j:Nat}:AHz gs ws hv->1<=k/\k<=(ws.length:Int)->(∀i,SpJ gs ws lo k hv i->i=j)->(∀i,i<=2^hv->F30 (Po.tj (Po.dsum gs ws ws.length) i hv))->Va "span" [.cord gs ws,.wrd (eW lo),.whl k,.hlv hv] (jn 32 (Av [Po.tj (Po.dsum gs ws ws.length) j hv,Po.tj (Po.dsum gs ws ws.length) (j+1) hv]))
def NK(C:Addr):Sp:=fun vs H Q _=>∃c ga wa gs ws lo,vs=[.ref c,.str (if lo=true then "loose" else "held")]/\Co C H c ga wa gs ws/\R9 gs ws/\∀r H',Am H H'->H r=none->Rw H' r (eQ lo gs ws)->Q (.ref r) H'
def Kw(C:Addr):Sp:=fun vs H Q _=>∃(c ga wa tp:Addr) (gs ws:List Rat) (lo:Bool) (t:Rat),vs=[.ref c,.str (if lo then "loose" else "held"),.ref tp]/\Co C H c ga wa gs ws/\Pq H tp t/\Dy gs ws/\Bq 400 t/\∀H',Am H H'->Q (.str (sx (ABK gs ws lo t))) H'
def Jy(C:Addr):Sp:=fun vs H Q _=>∃deed L tvs ths l,vs=[.str deed,.ref L]/\H L=some (.lst tvs)/\Paired (TgD C L H) tvs ths/\Va deed ths l/\∀H',Am H H'->Q (.str (sx l)) H'
theorem AAR(qs:List Rat):BV qs<=qs.length:=by
 have h1:BV qs<=(kept qs).length-1:=L3.cnt_le _ _;have h2:(kept qs).length<=(sgs qs).length:=AUk _ _;have h3:(sgs qs).length=qs.length:=ASt _;omega
theorem UG(gs ws:List Rat)(lo:Bool)(t:Rat):BV (Bx gs ws lo t)<=ws.length+1:=by
 have h:=AAR (Bx gs ws lo t);have e:(Bx gs ws lo t).length=ws.length+1:=by
  unfold Bx;rw[ASt,ATn]
 omega
theorem AEq:Al ["deed","things"] ["deed","things"] (Af XJ):=fsc
theorem AEQ(F:Fun K "made" "made" XJ f fd)(T:Txt mg)(b9:Fg P w K mg base af "turned" 6 ["self"] (SJ af))(c8:Cal P w K mg base "heavier" 6 ["cord","bead","more"] (Kr af))(dG:Cal P w K mg base "longer" 6 ["cord","gap","more"] (Mw af))(cD:Cal P w K mg base "cord_with" 6 ["upper","lower"] (ABt af)):BP P w K mg base CX0 7 f fd ["deed","things"] (M7 af):=by
 refine F.okk AEq fun vs H Q E h=>?_;obtain⟨deed,L,tvs,ths,gs,ws,rfl,eL,pr,mk,q⟩:=h;refine⟨rfl,fun cdv A outer s hr=>?_⟩;refine⟨_,(Ac (BK (Ak Be (pv 0) Ao (Ar _))
    (Ae (Aj (GC b9 hr (ixL (pv 1) Ad))))
    Aq)
   (Ac (BK (Ak Be (pv 0) Ao (Ar _))
    (Ae BR)
    Aq)
   (Ac (BK (Ak Be (pv 0) Ao (Ar _))
    (Ae (Aj (Ai c8 hr (Aa (ixL (pv 1) Ad) (Aa (ixL (pv 1) Ad) (Aa (ixL (pv 1) Ad) Ab))))))
    Aq)
   (Ac (BK (Ak Be (pv 0) Ao (Ar _))
    (Ae (Aj (Ai dG hr (Aa (ixL (pv 1) Ad) (Aa (ixL (pv 1) Ad) (Aa (ixL (pv 1) Ad) Ab))))))
    Aq)
   (Ac (BK (Ak Be (pv 0) Ao (Ar _))
    (Ae (Aj (Ai cD hr (Aa (ixL (ixL (pv 1) Ad) Ad) (Aa (ixL (ixL (pv 1) Ad) Ad) Ab)))))
    Aq)
   (Ac (BK (Ak Be (pv 0) Ao (Ar _))
    (Ae BR)
    Aq)
   (Ae (Aj (ixL (pv 1) Ad))))))))),?_⟩
 cases mk with
 | turn fn =>
  cases pr with
  | cons t0 pr=>cases pr with
   | cons t1 pr =>
    (cases pr;obtain⟨c,ga,wa,rfl,co,_,_⟩:=t1);obtain⟨⟨dx,ec⟩,_⟩:=id co;walk_at "g";exact⟨_,rfl,L,_,_,_,rfl,rfl,SqL.of eL,rfl,c,dx,_,rfl,ec,rfl,c,ga,wa,_,_,rfl,co,fn,fun c' g' w' H' s' _ _ _ eC=>q c' g' w' H' s' eC⟩
 | cord =>
  cases pr with
  | cons t0 pr=>cases pr with
   | cons t1 pr =>
    (cases pr;obtain⟨c,ga,wa,rfl,co,_,_⟩:=t1);walk_at "a";walk_at "a";walk_at "a";exact⟨_,rfl,L,_,_,_,rfl,rfl,SqL.of eL,rfl,q c ga wa H (Am.refl _) co⟩
 | @heavier x _ ws n y fn h1 h2 hy bq =>
  cases pr with
  | cons t0 pr=>cases pr with
   | cons t1 pr=>cases pr with
    | cons t2 pr=>cases pr with
     | cons t3 pr =>
      (cases pr;obtain⟨c,ga,wa,rfl,co,_,_⟩:=t1);obtain rfl:=(show _=V.int (n:Int) from t2);obtain⟨p,rfl,kp⟩:=t3;walk_at "a";walk_at "g";exact⟨_,rfl,L,_,_,_,rfl,rfl,SqL.of eL,rfl,_,rfl,L,_,_,_,rfl,rfl,SqL.of eL,rfl,_,rfl,L,_,_,_,rfl,rfl,SqL.of eL,rfl,c,ga,wa,p,gs,ws,n,y,rfl,co,kp,fn,h1,h2,hy,bq,fun r g w H' s' _ _ _ eC=>q r g w H' s' eC⟩
 | @longer x gs _ n y fn h2 hy bq =>
  cases pr with
  | cons t0 pr=>cases pr with
   | cons t1 pr=>cases pr with
    | cons t2 pr=>cases pr with
     | cons t3 pr =>
      (cases pr;obtain⟨c,ga,wa,rfl,co,_,_⟩:=t1);obtain rfl:=(show _=V.int (n:Int) from t2);obtain⟨p,rfl,kp⟩:=t3;walk_at "a";walk_at "b";walk_at "g";exact⟨_,rfl,L,_,_,_,rfl,rfl,SqL.of eL,rfl,_,rfl,L,_,_,_,rfl,rfl,SqL.of eL,rfl,_,rfl,L,_,_,_,rfl,rfl,SqL.of eL,rfl,c,ga,wa,p,gs,ws,n,y,rfl,co,kp,fn,h2,hy,bq,fun r g w H' s' _ _ _ eC=>q r g w H' s' eC⟩
 | @find x _ _ b d =>
  cases pr with
  | cons t0 pr=>cases pr with
   | cons t1 pr =>
    cases pr;obtain⟨D',u,l,rfl,ed,r1,r2,_,_,_⟩:=t1;walk_at "a";walk_at "a";walk_at "g";exact⟨_,rfl,L,_,_,_,rfl,rfl,SqL.of eL,rfl,D',_,_,_,rfl,rfl,SqL.of ed,rfl,_,rfl,L,_,_,_,rfl,rfl,SqL.of eL,rfl,D',_,_,_,rfl,rfl,SqL.of ed,rfl,u,l,gs,ws,b,rfl,r1,r2,d,fun r g w H' s' _ _ _ eC=>q r g w H' s' eC⟩
theorem ADZ:Al ["cord","which"] ["cord","which"] (Af YJ):=fsc
theorem AD5(F:Fun K "tone" "tone" YJ f fd)(T:Txt mg)(eJ:Cal P w K mg base "held" 6 ["cord"] (KN af ZZ))(dQ:Cal P w K mg base "loose" 6 ["cord"] (KN af Um)):BP P w K mg base CX0 7 f fd ["cord","which"] (NK af):=by
 refine F.okk ADZ fun vs H Q E h=>?_;obtain⟨c,ga,wa,gs,ws,lo,rfl,co,sz,q⟩:=h;refine⟨rfl,fun cdv A outer s hr=>?_⟩;refine⟨_,(Ac (BK (Ak Be (pv 1) Ao (Ar _))
    (Ae (Aj (Ai eJ hr (Aa (pv 0) Ab))))
    Aq)
   (Ac (BK (Ak Be (pv 1) Ao (Ar _))
    (Ae (Aj (Ai dQ hr (Aa (pv 0) Ab))))
    Aq)
   (Ac (BK (Ak Be (pv 1) Ao (Ar _))
    (Ae BR)
    Aq)
   (Ae BR)))),?_⟩
 cases lo with
 | false =>
  walk_at "g";exact⟨_,rfl,c,ga,wa,gs,ws,rfl,co,sz,q⟩
 | true =>
  walk_at "b";walk_at "g";exact⟨_,rfl,c,ga,wa,gs,ws,rfl,co,sz,q⟩
theorem K6:Al ["cord","end","t","below","most"] ["cord","end","t"] (Af Ng):=fsc
theorem Xd(F:Fun K "counted" "counted" Ng f fd)(T:Txt mg)(bU:Cal P w K mg base "worths_below" 6 ["cord","end","t"] (Qc af))(cR:Cal P w K mg base "up_to" 6 ["cord","end","t"] (Lk af)):BP P w K mg base CX0 7 f fd ["cord","end","t"] (Kw af):=by
 refine F.okk K6 fun vs H Q E h=>?_;obtain⟨c,ga,wa,tp,gs,ws,lo,t,rfl,co,kt,fine,bt,q⟩:=h;refine⟨rfl,fun cdv A outer s hr=>?_⟩;refine⟨_,(Ac (pS 3 K6.nd (Ai bU hr (Aa (pv 0) (Aa (pv 1) (Aa (pv 2) Ab)))))
   (Ac (pS 4 K6.nd (Ai cR hr (Aa (pv 0) (Aa (pv 1) (Aa (pv 2) Ab)))))
   (Ae (Aj (ABJ (RD (pv 3)) Ao (RD (pv 4))))))),?_⟩
 refine⟨_,rfl,_,rfl,_,rfl,c,ga,wa,tp,gs,ws,lo,t,rfl,co,kt,fine,bt,fun H1 s1=>?_⟩;refine⟨_,rfl,_,rfl,_,rfl,c,ga,wa,tp,gs,ws,lo,t,rfl,co.keep s1,kt.keep s1,fine,bt,fun H2 s2=>?_⟩;have tl:=UG gs ws lo t;have most:=fine.most;walk_at "i"
 have h30:(100:Nat)<10^30:=by decide
 have sm:∀{i:Int},0<=i->i<=20->i.natAbs.log2<1920/\(itx i).length<=31:=fun {i} h0 h1=>by
  refine⟨?_,Hr (by omega)⟩;by_cases z:i.natAbs=0
  .rw[z];decide
  .refine(AW1 z).mpr (ATB (show i.natAbs<2^5 by omega) (AUu (by decide) (by decide)))
 obtain⟨l1,h1⟩:=sm (i:=(BV (Bx gs ws lo t):Int)) (by omega) (by omega);obtain⟨l2,h2⟩:=sm (i:=(BV (Bx gs ws lo t):Int)+if rq gs ws lo t ws.length=0 then 1 else 0) (by split<;>omega) (by split<;>omega);have k:=q H2 (s1.trans s2);replace k:Q (.str (sx (itx (BV (Bx gs ws lo t))++32::itx ((BV (Bx gs ws lo t):Int)+if rq gs ws lo t ws.length=0 then 1 else 0)))) H2:=k;refine⟨_,rfl,_,rfl,l1,_,rfl,?_,_,rfl,?_,_,rfl,_,rfl,l2,_,rfl,?_,?_⟩
 .rw[tos,Ay];omega
 .rw[tos,Ay];show _+1<=_;omega
 .rw[tos,tos,Ay,Ay];show _+1+_<=_;omega
 .rw[tos,tos,show(Str.ofString " ")=sx [32] from rfl,Bg,Bg,ATw];exact k
theorem AAi:Al ["deed","things"] ["deed","things"] (Af QF):=fsc
theorem AAo(F:Fun K "answer" "answer" QF f fd)(T:Txt mg)(cF:Cal P w K mg base "show_cord" 2 ["cord"] (Qn af))(cn:Cal P w K mg base "show_row" 2 ["row"] Vk)(eK:Cal P w K mg base "tone" 7 ["cord","which"] (NK af))(c9:Cal P w K mg base "counted" 7 ["cord","end","t"] (Kw af))(eM:Cal P w K mg base "span" 7 ["cord","end","k","halvings"] (QG af)):BP P w K mg base CX0 8 f fd ["deed","things"] (Jy af):=by
 refine F.okk AAi fun vs H Q E h=>?_;obtain⟨deed,L,tvs,ths,l,rfl,eL,pr,an,q⟩:=h;refine⟨rfl,fun cdv A outer s hr=>?_⟩;refine⟨_,(Ac (BK (Ak Be (pv 0) Ao (Ar _))
    (Ae (Aj (Ai cF hr (Aa (ixL (pv 1) Ad) Ab))))
    Aq)
   (Ac (BK (Ak Be (pv 0) Ao (Ar _))
    (Ae (Aj (Ai cn hr (Aa (Ai eK hr (Aa (ixL (pv 1) Ad) (Aa (ixL (pv 1) Ad) Ab))) Ab))))
    Aq)
   (Ac (BK (Ak Be (pv 0) Ao (Ar _))
    (Ae (Aj (Ai c9 hr (Aa (ixL (pv 1) Ad) (Aa (ixL (pv 1) Ad) (Aa (ixL (pv 1) Ad) Ab))))))
    Aq)
   (Ac (BK (Ak Be (pv 0) Ao (Ar _))
    (Ae (Aj (Ai cn hr (Aa (Ba Ew rfl T.z_list boot_list (Aa (Ai eM hr (Aa (ixL (pv 1) Ad) (Aa (ixL (pv 1) Ad) (Aa (ixL (pv 1) Ad) (Aa (ixL (pv 1) Ad) Ab))))) Ab)) Ab))))
    Aq)
   (Ac (BK (Ak Be (pv 0) Ao (Ar _))
    (Ae BR)
    Aq)
   (Ae BR)))))),?_⟩
 cases an with
 | @shown gs ws c30 =>
  cases pr with
  | cons t0 pr =>
   cases pr;obtain⟨c,ga,wa,rfl,co,_,_⟩:=t0;walk_at "g";exact⟨_,rfl,L,_,_,_,rfl,rfl,SqL.of eL,rfl,c,ga,wa,gs,ws,rfl,co,c30,fun H' s'=>q H' s'⟩
 | @poly gs ws lo sz l6 b6 =>
  cases pr with
  | cons t0 pr=>cases pr with
   | cons t1 pr =>
    (cases pr;obtain⟨c,ga,wa,rfl,co,_,_⟩:=t0;obtain rfl:=(show _=V.str (sx (eW lo)) from t1));walk_at "b";walk_at "g";refine⟨_,rfl,L,_,_,_,rfl,rfl,SqL.of eL,rfl,_,rfl,L,_,_,_,rfl,rfl,SqL.of eL,rfl,c,ga,wa,gs,ws,lo,by rw[Wk];rfl,co,sz,fun r H1 s1 n1 r1=>?_⟩;exact⟨r,_,rfl,r1,by omega,b6,fun H2 s2=>q H2 (s1.trans s2)⟩
 | @count gs ws lo t fine bt =>
  cases pr with
  | cons t0 pr=>cases pr with
   | cons t1 pr=>cases pr with
    | cons t2 pr =>
     (cases pr;obtain⟨c,ga,wa,rfl,co,_,_⟩:=t0;obtain rfl:=(show _=V.str (sx (eW lo)) from t1));obtain⟨p,rfl,kp⟩:=t2;walk_at "a";walk_at "g";exact⟨_,rfl,L,_,_,_,rfl,rfl,SqL.of eL,rfl,_,rfl,L,_,_,_,rfl,rfl,SqL.of eL,rfl,_,rfl,L,_,_,_,rfl,rfl,SqL.of eL,rfl,c,ga,wa,p,gs,ws,lo,t,by rw[Wk];rfl,co,kp,fine,bt,fun H2 s2=>q H2 s2⟩
 | @span gs ws lo k hv j ok hk hj dL =>
  cases pr with
  | cons t0 pr=>cases pr with
   | cons t1 pr=>cases pr with
    | cons t2 pr=>cases pr with
     | cons t3 pr =>
      (cases pr;obtain⟨c,ga,wa,rfl,co,_,_⟩:=t0;obtain rfl:=(show _=V.str (sx (eW lo)) from t1));obtain rfl:=(show _=V.int k from t2);obtain rfl:=(show _=V.int (hv:Int) from t3);obtain⟨fine,oR,b,hb,bg,bw,z1,z2⟩:=ok;walk_at "a";walk_at "b";walk_at "g";refine⟨_,rfl,L,_,_,_,rfl,rfl,SqL.of eL,rfl,_,rfl,L,_,_,_,rfl,rfl,SqL.of eL,rfl,_,rfl,L,_,_,_,rfl,rfl,SqL.of eL,rfl,_,rfl,L,_,_,_,rfl,rfl,SqL.of eL,rfl,c,ga,wa,gs,ws,lo,k,hv,b,by rw[Wk];rfl,co,fine,hb,bg,bw,z1,z2,oR,hk,fun r pl ph i H1 s1 er kl kh hi hlo hhi=>?_⟩;obtain rfl:=hj i ⟨hi,hlo,hhi⟩;refine⟨r,_,rfl,.inr (SqT.of er),fun l hl=>?_⟩;have u:=Ah hl (.lst [.ref pl,.ref ph]);have b1:=dL i (by omega);have b2:=dL (i+1) (by omega);refine⟨l,_,rfl,⟨[pl,ph],Ag,.cons (kl.keep u) (.cons (kh.keep u) .nil)⟩,by show 2<=100;decide,fun x hx=>?_,fun H2 s2=>q H2 (s1.trans (u.trans s2))⟩;(rcases AS2.mp hx with rfl|hx)
      .exact b1
      (rcases AS2.mp hx with rfl|hx)
      .exact b2
      .cases hx
def Sk(ka:Addr)(H H':Hp):Prop:=∀b o,b≠ka->H b=some o->H' b=some o
def Jd(m:List Nat->Option (List Rat×List Rat))(l:List Nat)(g:Option (List Rat×List Rat)):List Nat->Option (List Rat×List Rat):=fun x=>if x=l then g else m x
theorem ADt(aG:List (Key×V))(k:Key)(v:V):(JW aG k v).length<=aG.length+1:=by
 unfold JW
 split
 .rw[ASt];omega
 .rw[ASz,ATX];omega
theorem DkM.put{C:Addr}{H:Hp}{aG kvs':List (Key×V)}{m:List Nat->Option (List Rat×List Rat)}{ka c ga wa:Addr}{l:List Nat}{g:List Rat×List Rat}(h:DkM C H aG m)(e:H ka=some (.dK aG))(co:Co C H c ga wa g.1 g.2)(hk:kvs'=JW aG (.inr (sx l)) (.ref c)):DkM C (upd H ka (.dK kvs')) kvs' (Jd m l (some g)):=by
 intro x;unfold Jd;rw[hk,ACr];by_cases hx:x=l
 .rw[if_pos hx,if_pos (by rw[hx])];exact⟨fun z=>(nomatch z),fun g' hg=>by
   cases hg;exact⟨c,ga,wa,rfl,Ys co e⟩⟩
 .rw[if_neg hx,if_neg (fun z=>hx (Uv (AWV z)))];exact⟨(h x).1,fun g' hg=>by
   obtain⟨c',fH,fJ,ev,eC⟩:=(h x).2 g' hg;exact⟨c',fH,fJ,ev,Ys eC e⟩⟩
theorem ABr.nt{dl:List Nat}{row:List Str}{init lastw:List (List Nat)}{ths:List Tg}(td:ABr dl row init lastw ths)(i:Nat)(x:Tg)(h1:row[i]?=some ("name":Str))(h2:ths[i]?=some x):∃l,x=.txt l:=by
 have hi:=(AS7.mp h1).1;have aB:=td.len;have h3:(init++[jn 32 lastw])[i]?=some ((init++[jn 32 lastw])[i]'(by rw[ASz,ATX];omega)):=Io _;have h:=td.rd i _ _ x h1 h3 h2;cases x with
 | txt l=>exact⟨l,rfl⟩
 | cord gs ws=>exact absurd h.1 (by decide)
 | frac q=>exact absurd h.1 (by decide)
 | whl k=>exact absurd h.1 (by decide)
 | hlv k=>exact absurd h.1 (by decide)
 | pols U L=>exact absurd h.1 (by decide)
 | wrd k =>
  rcases h.1 with⟨z,_⟩|⟨z,_⟩
  .exact absurd z (by decide)
  .exact absurd z (by decide)
theorem Y4(row:List Str):inV (.str "new") (row.map V.str)=decide (("new":Str)∈row):=by
 unfold inV
 induction row with
 | nil=>rfl
 | cons c r ih =>
  rw[List.map_cons,AUp,ih];have e:eqV (V.str c) (V.str "new")=decide (c=("new":Str)):=by
   by_cases h:c=("new":Str)
   .rw[decide_eq_true h];simp[eqV,h]
   .rw[decide_eq_false h];simp[eqV,h]
  rw[e];by_cases h:c=("new":Str)
  .simp[h]
  .have:¬("new":Str)=c:=fun z=>h z.symm;simp[h,this]
theorem ABM(row:List Str):(row.map V.str).all Iv=true:=by
 rw[AWz];exact AUd.mpr fun _ _=>rfl
def CT(CD C:Addr):Sp:=fun vs H Q _=>∃(N:Nat) (d ka:Addr) (m:List Nat->Option (List Rat×List Rat)) (dl:List Nat) (row:List Str) (init lastw:List (List Nat)) (ths cW:List Tg),vs=[.ref d,.str (sx (jn 32 (dl::(init++lastw))))]/\Em CD C N H d ka m/\N<1000/\ABr dl row init lastw ths/\sx dl≠"drop"/\Rsv m row ths cW /\
 ((∃l JC gs ws,("new":Str)∈row/\ths=.txt l::JC/\MkQ (sx dl) cW gs ws/\∀H',Sk ka H H'->Em CD C (N+1) H' d ka (Jd m l (some (gs,ws)))->Q (.str "ok") H') \/
   (∃l,("new":Str)∉row/\Va (sx dl) cW l/\∀H',Am H H'->Q (.str (sx l)) H'))
theorem Eg:Al ["self","row","order","deed","told","things","cord"] ["self","row"] (Af LC):=fsc
theorem V9(F:Fun K "say" "Desk.say" LC f fd)(T:Txt mg)(O:Mh K mg ai)(cH:Cal P w K mg base "read_told" 8 ["row"] (Nv af))(cr:Cal P w K mg base "kinds_of" 1 ["deed"] (Wl K))(bC:Fg P w K mg base ai "with_cords" 2 ["self","kinds","things"] (Nu K ai af))(eO:Cal P w K mg base "made" 7 ["deed","things"] (M7 af))(dH:Cal P w K mg base "answer" 8 ["deed","things"] (Jy af)):BP P w K mg base CX0 9 f fd ["self","row"] (CT ai af):=by
 refine F.okk Eg fun vs H Q E h=>?_;obtain⟨N,d,ka,m,dl,row,init,lastw,ths,cW,rfl,pI,hN,td,nd,rs,hout⟩:=h;walk_at "c";walk_at "d"
 have lth:=td.lth;have few:=td.few;refine⟨_,(Ac (pS 2 Eg.nd (Ai cH hr (Aa (pv 1) Ab)))
   (Ac (pS 3 Eg.nd (ixT (pv 2) Ad))
   (Ac (pS 4 Eg.nd (ixT (pv 2) Ad))
   (Ac (pS 5 Eg.nd (KQ bC hr (pv 0) (Aa (Ai cr hr (Aa (pv 3) Ab)) (Aa (pv 4) Ab))))
   (Ac (BK (Ak Be (pv 3) Ao (Ar _))
    (Ac (Ca (ACU (Ib (pv 0) rfl) (ixL (pv 4) Ad) ⟨rfl,rfl,rfl,rfl⟩))
    (Ae (Aj Ao)))
    Aq)
   (Ac (BK (Ak AAr Ao (Ai cr hr (Aa (pv 3) Ab)) (by with_unfolding_all rfl))
    (Ac (pS 6 Eg.nd (Ai eO hr (Aa (pv 3) (Aa (pv 5) Ab))))
    (Ac (AEi (hu1 hr) (Ib (pv 0) rfl) (ixL (pv 4) Ad) (pv 6) rfl)
    (Ae (Aj Ao))))
    Aq)
   (Ae (Aj (Ai dH hr (Aa (pv 3) (Aa (pv 5) Ab))))))))))),?_⟩
 refine⟨_,rfl,dl,row,init,lastw,ths,rfl,td,fun r L tvs H1 s1 er nL eL pr=>?_⟩;refine⟨_,rfl,r,_,_,_,rfl,rfl,SqT.of er,rfl,?_⟩;refine⟨_,rfl,r,_,_,_,rfl,rfl,SqT.of er,rfl,?_⟩;have iO:=pI.keep s1;obtain⟨dx,_,e1,_⟩:=id iO;refine⟨_,rfl,d,dx,_,rfl,e1,rfl,_,rfl,sx dl,row,rfl,td.form,fun kp hkp=>⟨_,rfl,N,d,ka,m,kp,L,row,tvs,ths,cW,rfl,iO,hkp,eL,pr,lth.symm,by omega,td.nt,rs,fun r' vs' H2 s2 yu pJ pK=>?_⟩⟩;clear e1 iO hkp kp;have eF:=s1.trans s2;obtain⟨dx,aG,e1,e2,hl,dm⟩:=pI.keep eF;have sP:=s2 _ _ eL;have iZ:∀{H3:Hp} {o:HO},Am H2 H3->Sk ka H (upd H3 ka o):=fun {H3 o} s3 b ob nb eb=>by
  rw[Az nb];exact s3 _ _ (eF _ _ eb)
 refine⟨_,rfl,rfl,_,rfl,sne nd ?_⟩;refine⟨_,rfl,sx dl,row,rfl,td.form,fun sQ mq=>⟨sQ,_,rfl,.inr mq,rfl,ABM row,_,rfl,?_⟩⟩;rcases hout with⟨l,JC,gs,ws,aL,rfl,mk,q⟩|⟨l,aL,an,q⟩
 .cases pr with
  | cons t0 pr =>
   obtain rfl:=(show _=V.str (sx l) from t0);rw[Y4,decide_eq_true aL];refine RV ?_;refine⟨_,rfl,_,rfl,sx dl,r',vs',cW,gs,ws,rfl,pJ,pK,mk,fun c ga wa H3 s3 co=>?_⟩;have mr:=s3 _ _ e1;have mw:=s3 _ _ e2;refine⟨_,rfl,_,rfl,d,_,dx,_,_,rfl,mr,O.cl,O.n_kept,rfl,_,rfl,L,_,_,_,rfl,rfl,SqL.of (s3 _ _ sP),Dh (j:=0) rfl,ka,_,rfl,AAX.k (k:=.inr (sx l)) mw (by omega),?_⟩;refine q _ (iZ s3) ⟨dx,_,?_,Ag,?_,(dm.keep s3).put (g:=(gs,ws)) mw co rfl⟩
   .rw[Az (G3 mr mw (by intro z;cases z))];exact mr
   .have:=ADt aG (.inr (sx l):Key) (.ref c);omega
 .rw[Y4,decide_eq_false aL];refine FZ ?_;exact⟨_,rfl,_,rfl,sx dl,r',vs',cW,l,rfl,pJ,pK,an,fun H3 s3=>q H3 (eF.trans s3)⟩
theorem Yc{gs ws:List Rat}{t:Rat}(g0:0<gs.getD 0 0)(k:Nat):∃ks z,kept ((List.range (k+1)).map fun j=>(Po.stp gs ws t 0 1 j).1)=ks++[z]/\((z:Int):Rat)=(Po.cs gs ws t k).2/\BV ((List.range (k+1)).map fun j=>(Po.stp gs ws t 0 1 j).1)=(Po.cs gs ws t k).1:=by
 induction k with
 | zero =>
  have p:0<(Po.stp gs ws t 0 1 0).1:=by
   simp only[Po.stp];grind
  have e:kept ((List.range 1).map fun j=>(Po.stp gs ws t 0 1 j).1)=[]++[1]:=by
   rw[<-DK p];exact Er [] (Rat.ne_of_gt p)
  refine⟨[],1,e,rfl,?_⟩;rw[Bj,e];rfl
 | succ k ih =>
  obtain⟨ks,z,e1,e2,e3⟩:=ih;rw[ATh,AS0,ATr];have sq:=Po.cs_sq gs ws t k;rw[Po.cs];by_cases h0:(Po.stp gs ws t 0 1 (k+1)).1=0
  .rw[if_neg (by rw[h0,Rat.mul_zero];exact AV5)];refine⟨ks,z,by rw[Hm _ h0,e1],e2,?_⟩;rw[Bj,Hm _ h0,<-Bj,e3]
  .rw[Bj,Er _ h0,e1,Ff,<-e1,<-Bj,e3];have zp:(Po.cs gs ws t k).2=1->z=1:=fun q=>by
    rw[q]at e2;exact AUo.mp e2
   have zn:(Po.cs gs ws t k).2=-1->z=-1:=fun q=>by
    rw[q]at e2;exact AUo.mp (e2.trans rfl)
   rcases We h0 with p | p<;>rcases sq with s | s
   .rw[if_neg (by rw[s];grind),zp s,DK p,if_pos rfl,s];exact⟨_,1,rfl,rfl,rfl⟩
   .rw[if_pos (by rw[s];grind),zn s,DK p,if_neg (by decide),s];exact⟨_,1,rfl,by grind,rfl⟩
   .rw[if_pos (by rw[s];grind),zp s,Gy p,if_neg (by decide),s];exact⟨_,-1,rfl,rfl,rfl⟩
   .rw[if_neg (by rw[s];grind),zn s,Gy p,if_pos rfl,s];exact⟨_,-1,rfl,rfl,rfl⟩
section
variable {gs ws:List Rat}{t:Rat}
theorem Bs{xs:List Rat}(h:∀q∈xs,0<q):∀k,k<xs.length->0<xs.getD k 0:=fun k hk=>by
 rw[ASu,Io hk];exact h _ (List.getElem_mem hk)
theorem ZD{x y:Rat}(h:x=1\/x=-1):x*y=0 ↔ y=0:=by
 rcases h with h | h<;>rw[h]<;>constructor<;>intro z<;>grind
theorem Gq(aB:gs.length=ws.length+1)(pg:∀q∈gs,0<q):BV (Bx gs ws false t)=(Po.cs gs ws t ws.length).1/\(rq gs ws false t ws.length=0 ↔ Po.Hn gs ws t ws.length=0):=by
 obtain⟨_,_,_,_,e⟩:=Yc (ws:=ws) (t:=t) (Bs pg 0 (by omega)) ws.length;have er:Bx gs ws false t=(List.range (ws.length+1)).map fun j=>(Po.stp gs ws t 0 1 j).1:=by
  unfold Bx rq;simp
 refine⟨by rw[er,e],?_⟩;unfold rq Po.Hn;simp only[AT5,false_and,if_false];exact(ZD (Po.cs_sq gs ws t ws.length)).symm
theorem Fd(aB:gs.length=ws.length+1)(pg:∀q∈gs,0<q){m:Nat}(hm:ws.length=m+1):BV (Bx gs ws true t)=(Po.cs gs ws t m).1+(if Po.Mn gs ws t m<0 then 1 else 0)/\(rq gs ws true t ws.length=0 ↔ Po.Mn gs ws t m=0):=by
 obtain⟨ks,z,e1,e2,e3⟩:=Yc (ws:=ws) (t:=t) (Bs pg 0 (by omega)) m;have el:rq gs ws true t ws.length=(Po.stp gs ws t 0 1 (m+1)).2:=by
  unfold rq;rw[if_pos ⟨rfl,rfl⟩,hm]
 have em:=Po.mn_eq gs ws t m;have sq:=Po.cs_sq gs ws t m;refine⟨?_,by rw[el,em];exact(ZD sq).symm⟩;rw[WW,el,em,hm];by_cases h0:(Po.stp gs ws t 0 1 (m+1)).2=0
 .rw[h0,Rat.mul_zero,if_neg AV5,Bj,Hm _ rfl,<-Bj,e3];rfl
 .rw[Bj,Er _ h0,e1,Ff,<-e1,<-Bj,e3];have zp:(Po.cs gs ws t m).2=1->z=1:=fun q=>by
   rw[q]at e2;exact AUo.mp e2
  have zn:(Po.cs gs ws t m).2=-1->z=-1:=fun q=>by
   rw[q]at e2;exact AUo.mp (e2.trans rfl)
  rcases We h0 with p | p<;>rcases sq with s | s
  .rw[if_neg (c:=_<(0:Rat)) (by rw[s];grind),zp s,DK p,if_pos rfl]
  .rw[if_pos (c:=_<(0:Rat)) (by rw[s];grind),zn s,DK p,if_neg (by decide)]
  .rw[if_pos (c:=_<(0:Rat)) (by rw[s];grind),zp s,Gy p,if_neg (by decide)]
  .rw[if_neg (c:=_<(0:Rat)) (by rw[s];grind),zn s,Gy p,if_pos rfl]
theorem AEw{lo:Bool}{t':Rat}(aB:gs.length=ws.length+1)(pg:∀q∈gs,0<q)(pw:∀q∈ws,0<q)(hn:0<ws.length)(h:t<t'):cU gs ws lo t<=(BV (Bx gs ws lo t'):Int):=by
 obtain⟨m,hm⟩:∃m,ws.length=m+1:=⟨ws.length-1,by omega⟩;unfold cU;cases lo with
 | false =>
  obtain⟨a1,a2⟩:=Gq (t:=t) aB pg;obtain⟨b1,b2⟩:=Gq (t:=t') aB pg;have l:=Po.held_le (Bs pg) (Bs pw) aB h hn;rw[a1,b1];by_cases z:rq gs ws false t ws.length=0
  .rw[if_pos z];rw[if_pos (a2.mp z)]at l;omega
  .rw[if_neg z];rw[if_neg (fun q=>z (a2.mpr q))]at l;omega
 | true =>
  obtain⟨a1,a2⟩:=Fd (t:=t) aB pg hm;obtain⟨b1,b2⟩:=Fd (t:=t') aB pg hm;have l:=Po.loose_le (Bs pg) (Bs pw) aB h hm;rw[a1,b1];by_cases z:rq gs ws true t ws.length=0
  .have z':=a2.mp z;rw[if_pos z,if_neg (by rw[z'];exact AV5)];rw[if_pos (by rw[z'];exact AUN)]at l;omega
  .rw[if_neg z];by_cases y:Po.Mn gs ws t m<0
   .rw[if_pos y];rw[if_pos (Rat.le_of_lt y)]at l;omega
   .rw[if_neg y];omega
theorem ZS{lo:Bool}{t':Rat}(aB:gs.length=ws.length+1)(pg:∀q∈gs,0<q)(pw:∀q∈ws,0<q)(hn:0<ws.length)(h:t<=t'):cU gs ws lo t<=cU gs ws lo t':=by
 by_cases e:t=t'
 .rw[e];exact Int.le_refl _
 .have l:=AEw (lo:=lo) aB pg pw hn (AWk h e);have:(BV (Bx gs ws lo t'):Int)<=cU gs ws lo t':=by
   unfold cU
   split<;>omega
  omega
theorem ZG(aB:gs.length=ws.length+1)(pg:∀q∈gs,0<q)(hn:0<ws.length):cU gs ws false t<=(BV (Bx gs ws true t):Int)/\cU gs ws true t<=(BV (Bx gs ws false t):Int)+1:=by
 obtain⟨m,hm⟩:∃m,ws.length=m+1:=⟨ws.length-1,by omega⟩;obtain⟨a1,a2⟩:=Gq (t:=t) aB pg;obtain⟨b1,b2⟩:=Fd (t:=t) aB pg hm;obtain⟨l1,l2⟩:=Po.part_le (ws:=ws) (t:=t) (Bs pg) aB hm;rw[<-hm]at l1 l2;unfold cU;rw[a1,b1];constructor
 .by_cases z:rq gs ws false t ws.length=0
  .rw[if_pos z];rw[if_pos (a2.mp z)]at l1;omega
  .rw[if_neg z];rw[if_neg (fun q=>z (a2.mpr q))]at l1;omega
 .by_cases z:rq gs ws true t ws.length=0
  .have z':=b2.mp z;rw[if_pos z,if_neg (by rw[z'];exact AV5)];omega
  .rw[if_neg z]
   split<;>omega
end
theorem M4(lo:Bool){gs ws:List Rat}{t:Rat}(aB:gs.length=ws.length+1)(pg:∀q∈gs,0<q)(h0:ws.length=0):BV (Bx gs ws lo t)=0:=by
 have e:Bx gs ws lo t=[]++[rq gs ws lo t 0]:=by
  unfold Bx;rw[h0];rfl
 rw[e,Bj];by_cases z:rq gs ws lo t 0=0
 .rw[Hm _ z];rfl
 .rw[Er _ z];rfl
theorem AAb(lo:Bool){gs ws:List Rat}{t:Rat}(aB:gs.length=ws.length+1)(pg:∀q∈gs,0<q)(pw:∀q∈ws,0<q)(ht:t<0):BV (Bx gs ws lo t)=0:=by
 by_cases h0:ws.length=0
 .exact M4 lo aB pg h0
 .have l:=AEw (lo:=lo) aB pg pw (by omega) ht;have z:=Te (ws:=ws) lo aB pg;have a:(BV (Bx gs ws lo 0):Int)<=cU gs ws lo 0:=by unfold cU;split<;>omega
  have b:(BV (Bx gs ws lo t):Int)<=cU gs ws lo t:=by unfold cU;split<;>omega
  omega
theorem P0(lo:Bool){gs ws gs' ws':List Rat}{t:Rat}(aB:gs.length=ws.length+1)(hlen':gs'.length=ws'.length+1)(hl:gs'.length=gs.length)(pg:∀q∈gs,0<q)(pw:∀q∈ws,0<q)(iJ:∀q∈gs',0<q)(lg:∀k,gs.getD k 0<=gs'.getD k 0)(lw:∀k,ws.getD k 0<=ws'.getD k 0) :
  BV (Bx gs ws lo t)<=BV (Bx gs' ws' lo t):=by
 by_cases ht:t<0
 .rw[AAb lo aB pg pw ht];omega
 .have m:=Po.mono_n (gs:=gs) (ws:=ws) (gs':=gs') (ws':=ws') (Rat.not_lt.mp ht) hl (Bs pg) (fun k _=>lg k) (fun k _=>lw k);by_cases h0:ws.length=0
  .rw[M4 lo aB pg h0];omega
  .obtain⟨n,hn⟩:∃n,ws.length=n+1:=⟨ws.length-1,by omega⟩;have hn':ws'.length=n+1:=by omega
   cases lo with
   | false =>
    rw[(Gq (t:=t) aB pg).1,(Gq (t:=t) hlen' iJ).1,show ws'.length=ws.length by omega];rcases m ws.length (by omega) with h | ⟨h,_⟩<;>omega
   | true =>
    rw[(Fd (t:=t) aB pg hn).1,(Fd (t:=t) hlen' iJ hn').1];have g1:=Po.go_n (ws:=ws) (t:=t) (Bs pg) n (by omega);have g2:=Po.go_n (ws:=ws') (t:=t) (Bs iJ) n (by omega);have hx:t*ws.getD n 0<=t*ws'.getD n 0:=by
     have:=Po.mnn (Rat.not_lt.mp ht) (show 0<=ws'.getD n 0-ws.getD n 0 by have:=lw n;grind);grind
    have o2:=Po.Go.bead (x:=t*ws'.getD n 0) g2;have b:=Po.le_bead g1.1 g2.1 (m n (by omega)) hx
    change Po.Le3 _ _ (Po.Hn gs ws t n) (Po.Mn gs ws t n) (Po.Hn gs' ws' t n) (Po.Mn gs' ws' t n) at b
    change Po.Go (Po.Hn gs' ws' t n) (Po.Mn gs' ws' t n) at o2
    rcases b with h|⟨h,k⟩
    .split<;>split<;>omega
    .by_cases z:Po.Mn gs ws t n<0
     .have z':Po.Mn gs' ws' t n<0:=by
       refine Rat.not_le.mp fun p=>?_;have a1:=Po.mnn p g1.1;have hz:Po.Hn gs' ws' t n=0:=by
        by_cases y:Po.Hn gs' ws' t n=0
        .exact y
        .have:=Po.mpos (show 0 < -Po.Mn gs ws t n by grind) (show 0<Po.Hn gs' ws' t n by have:=g2.1;grind);grind
       have:=o2.2 hz;grind
      rw[if_pos z,if_pos z'];omega
     .rw[if_neg z];omega
theorem Hu(k:Int):ftx (k:Rat)=itx k:=by
 unfold ftx;rw[AVf,AUT,if_pos rfl]
theorem Nm.free{l:List Nat}(h:Nm l):32∉l:=fun z=>by
 obtain⟨i,_,e⟩:=ATY.mp (h.2 32 z);have e':97+i=32:=e;omega
theorem Nm.len{l:List Nat}(h:Nm l):l.length<=64:=by
 have:=h.1.2;omega
theorem C30.free{gs ws:List Rat}(h:C30 gs ws):∀t∈Bo gs ws,32∉t:=h.mem (fun w _ z=>by
  rcases AS2.mp z with z|z
  .exact absurd z (by decide)
  rcases ATU.mp z with z|z
  .exact Mp (by decide) (by unfold Up;decide) (by decide) w z
  .exact absurd z (by decide)) (fun g _ z=>Mp (by decide) (by unfold Up;decide) (by decide) g z)
theorem Hx(qs:List Rat):∀t∈Av qs,32∉t:=fun t ht=>by
 obtain⟨q,_,rfl⟩:=ATY.mp ht;exact RT q
theorem Q8(c:Nat):∀{A B:List (List Nat)},A≠[]->B≠[]->jn c (A++B)=jn c A++c::jn c B
 | [],_,h,_=>absurd rfl h
 | [a],[],_,h=>absurd rfl h
 | [a],b::B,_,_=>rfl
 | a::a'::A,B,_,h=>by
  show a++c::jn c (a'::A++B)=(a++c::jn c (a'::A))++c::jn c B;rw[Q8 c (A:=a'::A) (AT6 _ _) h,ATw];rfl
theorem Qv{qs:List Rat}(h:qs≠[]):Av qs≠[]:=fun z=>h (AVZ.mp z)
theorem ACP{U L:List Rat}(hu:U≠[])(hl:L≠[]):jn 32 (Av U++([[59]]++Av L))=ptx U L:=by
 rw[Q8 32 (Qv hu) (by simp),Q8 32 (by simp) (Qv hl)];rfl
inductive Sy where
 | shw (l:List Nat)
 | poly (l:List Nat) (lo:Bool)
 | count (l:List Nat) (lo:Bool) (t:Rat)
 | span (l:List Nat) (lo:Bool) (k:Int) (hv:Nat)
 | cord (n:List Nat) (gs ws:List Rat)
 | turn (n o:List Nat)
 | find (n:List Nat) (U L:List Rat)
 | more (hv:Bool) (n o:List Nat) (k:Nat) (x:Rat)
noncomputable def Sy.deed:Sy->List Nat
 | .shw _=>[115,104,111,119]
 | .poly _ _=>[112,111,108,121]
 | .count _ _ _=>[99,111,117,110,116]
 | .span _ _ _ _=>[115,112,97,110]
 | .cord _ _ _=>[99,111,114,100]
 | .turn _ _=>[116,117,114,110]
 | .find _ _ _=>[102,105,110,100]
 | .more hv _ _ _ _=>if hv then [104,101,97,118,105,101,114] else [108,111,110,103,101,114]
def Sy.form:Sy->List Str
 | .shw _=>["name"]
 | .poly _ _=>["name","which"]
 | .count _ _ _=>["name","end","fraction"]
 | .span _ _ _ _=>["name","end","whole","halvings"]
 | .cord _ _ _=>["new","cord"]
 | .turn _ _=>["new","name"]
 | .find _ _ _=>["new","two polys"]
 | .more _ _ _ _ _=>["new","name","whole","fraction"]
noncomputable def Sy.init:Sy->List (List Nat)
 | .shw _=>[]
 | .poly l _=>[l]
 | .count l lo _=>[l,eW lo]
 | .span l lo k _=>[l,eW lo,itx k]
 | .cord n _ _=>[n]
 | .turn n _=>[n]
 | .find n _ _=>[n]
 | .more _ n o k _=>[n,o,itx k]
noncomputable def Sy.lastw:Sy->List (List Nat)
 | .shw l=>[l]
 | .poly _ lo=>[eW lo]
 | .count _ _ t=>[ftx t]
 | .span _ _ _ hv=>[itx hv]
 | .cord _ gs ws=>Bo gs ws
 | .turn _ o=>[o]
 | .find _ U L=>Av U++([[59]]++Av L)
 | .more _ _ _ _ x=>[ftx x]
noncomputable def Sy.ths:Sy->List Tg
 | .shw l=>[.txt l]
 | .poly l lo=>[.txt l,.wrd (eW lo)]
 | .count l lo t=>[.txt l,.wrd (eW lo),.frac t]
 | .span l lo k hv=>[.txt l,.wrd (eW lo),.whl k,.hlv hv]
 | .cord n gs ws=>[.txt n,.cord gs ws]
 | .turn n o=>[.txt n,.txt o]
 | .find n U L=>[.txt n,.pols U L]
 | .more _ n o k x=>[.txt n,.txt o,.whl k,.frac x]
def Sy.ok:Sy->Prop
 | .shw l=>Nm l
 | .poly l _=>Nm l
 | .count l _ t=>Nm l/\F30 t
 | .span l _ k hv=>Nm l/\F30 (k:Rat)/\hv<=60
 | .cord n gs ws=>Nm n/\C30 gs ws
 | .turn n o=>Nm n/\Nm o
 | .find n U L=>Nm n/\(U≠[]/\U.length<=20/\Po.strip U=U/\∀q∈U,F30 q)/\(L≠[]/\L.length<=20/\Po.strip L=L/\∀q∈L,F30 q)
 | .more _ n o k x=>Nm n/\Nm o/\F30 ((k:Int):Rat)/\F30 x
def Sy.row(w:Sy):List Nat:=jn 32 (w.deed::(w.init++w.lastw))
theorem ABX(lo:Bool):(eW lo).length<=64/\32∉eW lo/\eW lo∈Wg/\eW lo∈whs:=by
 cases lo
 .exact(by decide:([104,101,108,100]:List Nat).length<=64/\32∉([104,101,108,100]:List Nat)/\[104,101,108,100]∈Wg/\[104,101,108,100]∈whs)
 .exact(by decide:([108,111,111,115,101]:List Nat).length<=64/\32∉([108,111,111,115,101]:List Nat)/\[108,111,111,115,101]∈Wg/\[108,111,111,115,101]∈whs)
theorem HF(w:Sy):Dg CN (sx w.deed)=some w.form:=by
 cases w with
 | shw l=>exact(by decide +kernel:Dg CN (sx [115,104,111,119])=some (["name"]:List Str))
 | poly l lo=>exact(by decide +kernel:Dg CN (sx [112,111,108,121])=some (["name","which"]:List Str))
 | count l lo t=>exact(by decide +kernel:Dg CN (sx [99,111,117,110,116])=some (["name","end","fraction"]:List Str))
 | span l lo k hv=>exact(by decide +kernel:Dg CN (sx [115,112,97,110])=some (["name","end","whole","halvings"]:List Str))
 | cord n gs ws=>exact(by decide +kernel:Dg CN (sx [99,111,114,100])=some (["new","cord"]:List Str))
 | turn n o=>exact(by decide +kernel:Dg CN (sx [116,117,114,110])=some (["new","name"]:List Str))
 | find n U L=>exact(by decide +kernel:Dg CN (sx [102,105,110,100])=some (["new","two polys"]:List Str))
 | more hv n o k x =>
  cases hv
  .exact(by decide +kernel:Dg CN (sx [108,111,110,103,101,114])=some (["new","name","whole","fraction"]:List Str))
  .exact(by decide +kernel:Dg CN (sx [104,101,97,118,105,101,114])=some (["new","name","whole","fraction"]:List Str))
theorem Yw(w:Sy):w.deed.length<=64/\32∉w.deed:=by
 cases w with
 | shw l=>exact(by decide:([115,104,111,119]:List Nat).length<=64/\32∉([115,104,111,119]:List Nat))
 | poly l lo=>exact(by decide:([112,111,108,121]:List Nat).length<=64/\32∉([112,111,108,121]:List Nat))
 | count l lo t=>exact(by decide:([99,111,117,110,116]:List Nat).length<=64/\32∉([99,111,117,110,116]:List Nat))
 | span l lo k hv=>exact(by decide:([115,112,97,110]:List Nat).length<=64/\32∉([115,112,97,110]:List Nat))
 | cord n gs ws=>exact(by decide:([99,111,114,100]:List Nat).length<=64/\32∉([99,111,114,100]:List Nat))
 | turn n o=>exact(by decide:([116,117,114,110]:List Nat).length<=64/\32∉([116,117,114,110]:List Nat))
 | find n U L=>exact(by decide:([102,105,110,100]:List Nat).length<=64/\32∉([102,105,110,100]:List Nat))
 | more hv n o k x =>
  cases hv
  .exact(by decide:([108,111,110,103,101,114]:List Nat).length<=64/\32∉([108,111,110,103,101,114]:List Nat))
  .exact(by decide:([104,101,97,118,105,101,114]:List Nat).length<=64/\32∉([104,101,97,118,105,101,114]:List Nat))
theorem ABl{w:Sy}(h:w.ok):(∀t∈w.init++w.lastw,t.length<=64/\32∉t)/\(w.init++w.lastw).length<=60:=by
 have f:∀{q:Rat},F30 q->(ftx q).length<=64/\32∉ftx q:=fun {q} h=>⟨by have:=By h;omega,RT q⟩;have fi:∀{k:Int},F30 (k:Rat)->(itx k).length<=64/\32∉itx k:=fun {k} h=>by
  have:=f h
  rwa [Hu]at this
 have nm:∀{l:List Nat},Nm l->l.length<=64/\32∉l:=fun h=>⟨h.len,h.free⟩;have one:∀{P:List Nat->Prop} {a:List Nat} {r:List (List Nat)},P a->(∀t∈r,P t)->∀t∈a::r,P t:=fun h k t ht=>by
  rcases AS2.mp ht with rfl|ht
  .exact h
  .exact k t ht
 have nil:∀{P:List Nat->Prop},∀t∈([]:List (List Nat)),P t:=fun t ht=>by cases ht
 have ew:∀lo,(eW lo).length<=64/\32∉eW lo:=fun lo=>⟨(ABX lo).1,(ABX lo).2.1⟩;cases w with
 | shw l=>exact⟨one (nm h) nil,by show 1<=60;decide⟩
 | poly l lo=>exact⟨one (nm h) (one (ew lo) nil),by show 2<=60;decide⟩
 | count l lo t=>exact⟨one (nm h.1) (one (ew lo) (one (f h.2) nil)),by show 3<=60;decide⟩
 | span l lo k hv =>
  have f2:F30 ((hv:Int):Rat):=by
   have hz:(100:Nat)<10^30:=by decide
   have:=h.2.2;exact⟨by rw[AUT];omega,by rw[AVf];omega⟩
  exact⟨one (nm h.1) (one (ew lo) (one (fi h.2.1) (one (fi f2) nil))),by show 4<=60;decide⟩
 | cord n gs ws =>
  have hc:(Bo gs ws).length=2*ws.length+1:=h.2.cnt;have:=h.2.fine.most;exact⟨one (nm h.1) fun t ht=>⟨h.2.len t ht,h.2.free t ht⟩,by show(Bo gs ws).length+1<=60;omega⟩
 | turn n o=>exact⟨one (nm h.1) (one (nm h.2) nil),by show 2<=60;decide⟩
 | find n U L =>
  obtain⟨h0,⟨_,u2,_,u4⟩,⟨_,l2,_,l4⟩⟩:=h;have wu:=Hj u4;have wl:=Hj l4;refine⟨one (nm h0) fun t ht=>?_,?_⟩
  .have ht':t∈Av U++([[59]]++Av L):=ht;rcases ATU.mp ht' with z|z
   .exact⟨wu t z,Hx U t z⟩
   rcases ATU.mp z with z|z
   .rw[ATs.mp z];exact⟨by decide,by decide⟩
   .exact⟨wl t z,Hx L t z⟩
  .show(Av U++([[59]]++Av L)).length+1<=60;unfold Av;rw[ASz,ASz,ASt,ASt];show U.length+(1+L.length)+1<=60;omega
 | more hv n o k x=>exact⟨one (nm h.1) (one (nm h.2.1) (one (fi h.2.2.1) (one (f h.2.2.2) nil))),by show 4<=60;decide⟩
theorem GP{w:Sy}(h:w.ok):ABr w.deed w.form w.init w.lastw w.ths:=by
 obtain⟨hw,hn⟩:=ABl h;have fr:∀t∈w.deed::(w.init++w.lastw),32∉t:=fun t ht=>by
  rcases AS2.mp ht with rfl|ht
  .exact(Yw w).2
  .exact(hw t ht).2
 have sz:(jn 32 (w.deed::(w.init++w.lastw))).length<=50000:=by
  have:=Kg (c:=32) (ws:=w.deed::(w.init++w.lastw)) fun t ht=>by
   rcases AS2.mp ht with rfl|ht
   .exact(Yw w).1
   .exact(hw t ht).1
  rw[ASx]at this;omega
 have ew:=ABX;cases w with
 | shw l =>
  walk_at "u"
  match i with
  | 0 =>
   walk_at "o";exact⟨.inr rfl,rfl,h⟩
  | j+1=>cases h1
 | poly l lo =>
  walk_at "u"
  match i with
  | 0 =>
   walk_at "o";exact⟨.inr rfl,rfl,h⟩
  | 1 =>
   walk_at "o";exact⟨.inr ⟨rfl,(ew lo).2.2.2⟩,rfl⟩
  | j+2=>cases h1
 | count l lo t =>
  walk_at "u"
  match i with
  | 0 =>
   walk_at "o";exact⟨.inr rfl,rfl,h.1⟩
  | 1 =>
   walk_at "o";exact⟨.inl ⟨rfl,(ew lo).2.2.1⟩,rfl⟩
  | 2 =>
   walk_at "o";exact⟨rfl,rfl,h.2⟩
  | j+3=>cases h1
 | span l lo k hv =>
  refine⟨HF _,fr,AT6 _ _,rfl,ATm rfl,rfl,sz,fun i k' t x h1 h2 h3=>?_⟩
  match i with
  | 0 =>
   walk_at "o";exact⟨.inr rfl,rfl,h.1⟩
  | 1 =>
   walk_at "o";exact⟨.inl ⟨rfl,(ew lo).2.2.1⟩,rfl⟩
  | 2 =>
   walk_at "o";exact⟨rfl,(Hu k).symm,h.2.1⟩
  | 3 =>
   walk_at "o";exact⟨rfl,(Hu hv).symm,h.2.2⟩
  | j+4=>cases h1
 | cord n gs ws =>
  walk_at "u"
  match i with
  | 0 =>
   walk_at "o";exact⟨.inl rfl,rfl,h.1⟩
  | 1 =>
   walk_at "o";exact⟨rfl,rfl,h.2⟩
  | j+2=>cases h1
 | turn n o =>
  walk_at "u"
  match i with
  | 0 =>
   walk_at "o";exact⟨.inl rfl,rfl,h.1⟩
  | 1 =>
   walk_at "o";exact⟨.inr rfl,rfl,h.2⟩
  | j+2=>cases h1
 | find n U L =>
  refine⟨HF _,fr,by show Av U++_≠[];simp,rfl,ATm rfl,rfl,sz,fun i k t x h1 h2 h3=>?_⟩
  match i with
  | 0 =>
   walk_at "o";exact⟨.inl rfl,rfl,h.1⟩
  | 1 =>
   walk_at "o";exact⟨rfl,ACP h.2.1.1 h.2.2.1,h.2⟩
  | j+2=>cases h1
 | more hv n o k x =>
  refine⟨HF _,fr,AT6 _ _,rfl,ATm rfl,rfl,sz,fun i k' t y h1 h2 h3=>?_⟩
  match i with
  | 0 =>
   walk_at "o";exact⟨.inl rfl,rfl,h.1⟩
  | 1 =>
   walk_at "o";exact⟨.inr rfl,rfl,h.2.1⟩
  | 2 =>
   walk_at "o";exact⟨rfl,(Hu k).symm,h.2.2.1⟩
  | 3 =>
   walk_at "o";exact⟨rfl,rfl,h.2.2.2⟩
  | j+4=>cases h1
theorem ACi:sx [115,104,111,119]="show":=by decide +kernel
theorem Yr:sx [112,111,108,121]="poly":=by decide +kernel
theorem WL:sx [99,111,117,110,116]="count":=by decide +kernel
theorem Ye:sx [115,112,97,110]="span":=by decide +kernel
theorem Y8:sx [99,111,114,100]="cord":=by decide +kernel
theorem ZR:sx [116,117,114,110]="turn":=by decide +kernel
theorem Za:sx [102,105,110,100]="find":=by decide +kernel
theorem ZL:sx [108,111,110,103,101,114]="longer":=by decide +kernel
theorem Vz:sx [104,101,97,118,105,101,114]="heavier":=by decide +kernel
section
variable {CD C:Addr}{N:Nat}{H:Hp}{d ka:Addr}{m:List Nat->Option (List Rat×List Rat)}{Q:VK}{E:XK}
theorem Nf{l:List Nat}{g:List Rat×List Rat}(e:m l=some g):rsv m "name" (.txt l)=some (.cord g.1 g.2):=by
 simp[rsv,e]
theorem Mg{a b:Str}{xs:List Tg}{l:List Nat}(e:a=b)(h:Va b xs l):Va a xs l:=e ▸ h
theorem Jj{a b:Str}{xs:List Tg}{gs ws:List Rat}(e:a=b)(h:MkQ b xs gs ws):MkQ a xs gs ws:=e ▸ h
theorem PL{l:List Nat}{g:List Rat×List Rat}(dk:Em CD C N H d ka m)(hN:N<1000)(ok:(Sy.shw l).ok)(hm:m l=some g)(c:C30 g.1 g.2)(q:∀H',Am H H'->Q (.str (sx (jn 32 (Bo g.1 g.2)))) H'):CT CD C [.ref d,.str (sx (Sy.shw l).row)] H Q E:=by
 refine⟨N,d,ka,m,_,_,_,_,_,[.cord g.1 g.2],rfl,dk,hN,GP ok,by rw[show sx (Sy.shw l).deed="show" from ACi];decide,⟨rfl,fun i k x h1 h2=>?_⟩,.inr ⟨_,(by decide:("new":Str)∉(["name"]:List Str)),Mg ACi (.shown c),q⟩⟩
 match i with
 | 0 =>
  walk_at "w";exact Nf hm
 | j+1=>cases h1
theorem WM{l:List Nat}{lo:Bool}{g:List Rat×List Rat}(dk:Em CD C N H d ka m)(hN:N<1000)(ok:(Sy.poly l lo).ok)(hm:m l=some g)(sz:R9 g.1 g.2)(sR:(eQ lo g.1 g.2).length<=20)(f:∀q∈eQ lo g.1 g.2,F30 q)(q:∀H',Am H H'->Q (.str (sx (jn 32 (Av (eQ lo g.1 g.2))))) H'):CT CD C [.ref d,.str (sx (Sy.poly l lo).row)] H Q E:=by
 refine⟨N,d,ka,m,_,_,_,_,_,[.cord g.1 g.2,.wrd (eW lo)],rfl,dk,hN,GP ok,by rw[show sx (Sy.poly l lo).deed="poly" from Yr];decide,⟨rfl,fun i k x h1 h2=>?_⟩,.inr ⟨_,(by decide:("new":Str)∉(["name","which"]:List Str)),Mg Yr (.poly sz sR f),q⟩⟩
 match i with
 | 0 =>
  walk_at "w";exact Nf hm
 | 1 =>
  walk_at "w";rfl
 | j+2=>cases h1
theorem Zf{l:List Nat}{lo:Bool}{t:Rat}{g:List Rat×List Rat}(dk:Em CD C N H d ka m)(hN:N<1000)(ok:(Sy.count l lo t).ok)(hm:m l=some g)(fine:Dy g.1 g.2)(bt:Bq 400 t)(q:∀H',Am H H'->Q (.str (sx (ABK g.1 g.2 lo t))) H'):CT CD C [.ref d,.str (sx (Sy.count l lo t).row)] H Q E:=by
 refine⟨N,d,ka,m,_,_,_,_,_,[.cord g.1 g.2,.wrd (eW lo),.frac t],rfl,dk,hN,GP ok,by rw[show sx (Sy.count l lo t).deed="count" from WL];decide,⟨rfl,fun i k x h1 h2=>?_⟩,.inr ⟨_,(by decide:("new":Str)∉(["name","end","fraction"]:List Str)),Mg WL (.count fine bt),q⟩⟩
 match i with
 | 0 =>
  walk_at "w";exact Nf hm
 | 1 =>
  walk_at "w";rfl
 | 2 =>
  walk_at "w";rfl
 | j+3=>cases h1
theorem Ws{l:List Nat}{lo:Bool}{k:Int}{hv j:Nat}{g:List Rat×List Rat}(dk:Em CD C N H d ka m)(hN:N<1000)(ok:(Sy.span l lo k hv).ok)(hm:m l=some g)(so:AHz g.1 g.2 hv)(hk:1<=k/\k<=(g.2.length:Int))(hj:∀i,SpJ g.1 g.2 lo k hv i->i=j)(f:∀i,i<=2^hv->F30 (Po.tj (Po.dsum g.1 g.2 g.2.length) i hv))(q:∀H',Am H H'->Q (.str (sx (jn 32 (Av [Po.tj (Po.dsum g.1 g.2 g.2.length) j hv,Po.tj (Po.dsum g.1 g.2 g.2.length) (j+1) hv])))) H'):CT CD C [.ref d,.str (sx (Sy.span l lo k hv).row)] H Q E:=by
 refine⟨N,d,ka,m,_,_,_,_,_,[.cord g.1 g.2,.wrd (eW lo),.whl k,.hlv hv],rfl,dk,hN,GP ok,by rw[show sx (Sy.span l lo k hv).deed="span" from Ye];decide,⟨rfl,fun i k' x h1 h2=>?_⟩,.inr ⟨_,(by decide:("new":Str)∉(["name","end","whole","halvings"]:List Str)),Mg Ye (.span so hk hj f),q⟩⟩
 match i with
 | 0 =>
  walk_at "w";exact Nf hm
 | 1 =>
  walk_at "w";rfl
 | 2 =>
  walk_at "w";rfl
 | 3 =>
  walk_at "w";rfl
 | j+4=>cases h1
theorem ACp{n:List Nat}{gs ws:List Rat}(dk:Em CD C N H d ka m)(hN:N<1000)(ok:(Sy.cord n gs ws).ok)(q:∀H',Sk ka H H'->Em CD C (N+1) H' d ka (Jd m n (some (gs,ws)))->Q (.str "ok") H'):CT CD C [.ref d,.str (sx (Sy.cord n gs ws).row)] H Q E:=by
 refine⟨N,d,ka,m,_,_,_,_,_,[.txt n,.cord gs ws],rfl,dk,hN,GP ok,by rw[show sx (Sy.cord n gs ws).deed="cord" from Y8];decide,⟨rfl,fun i k x h1 h2=>?_⟩,.inl ⟨n,_,gs,ws,(by decide:("new":Str)∈(["new","cord"]:List Str)),rfl,Jj Y8 .cord,q⟩⟩
 match i with
 | 0 =>
  walk_at "w";rfl
 | 1 =>
  walk_at "w";rfl
 | j+2=>cases h1
theorem V7{n o:List Nat}{g:List Rat×List Rat}(dk:Em CD C N H d ka m)(hN:N<1000)(ok:(Sy.turn n o).ok)(hm:m o=some g)(fine:Dy g.1 g.2)(q:∀H',Sk ka H H'->Em CD C (N+1) H' d ka (Jd m n (some (g.1.reverse,g.2.reverse)))->Q (.str "ok") H'):CT CD C [.ref d,.str (sx (Sy.turn n o).row)] H Q E:=by
 refine⟨N,d,ka,m,_,_,_,_,_,[.txt n,.cord g.1 g.2],rfl,dk,hN,GP ok,by rw[show sx (Sy.turn n o).deed="turn" from ZR];decide,⟨rfl,fun i k x h1 h2=>?_⟩,.inl ⟨n,_,_,_,(by decide:("new":Str)∈(["new","name"]:List Str)),rfl,Jj ZR (.turn fine),q⟩⟩
 match i with
 | 0 =>
  walk_at "w";rfl
 | 1 =>
  walk_at "w";exact Nf hm
 | j+2=>cases h1
theorem ACN{n:List Nat}{gs ws:List Rat}{b:Nat}(dk:Em CD C N H d ka m)(hN:N<1000)(ok:(Sy.find n (Po.hdp gs ws ws.length) (Po.lsp gs ws ws.length)).ok)(dw:Drw b gs ws)(q:∀H',Sk ka H H'->Em CD C (N+1) H' d ka (Jd m n (some (gs,ws)))->Q (.str "ok") H'):CT CD C [.ref d,.str (sx (Sy.find n (Po.hdp gs ws ws.length) (Po.lsp gs ws ws.length)).row)] H Q E:=by
 refine⟨N,d,ka,m,_,_,_,_,_,[.txt n,.pols (Po.hdp gs ws ws.length) (Po.lsp gs ws ws.length)],rfl,dk,hN,GP ok,by rw[show sx (Sy.find n (Po.hdp gs ws ws.length) (Po.lsp gs ws ws.length)).deed="find" from Za];decide,⟨rfl,fun i k x h1 h2=>?_⟩,.inl ⟨n,_,gs,ws,(by decide:("new":Str)∈(["new","two polys"]:List Str)),rfl,Jj Za (.find dw),q⟩⟩
 match i with
 | 0 =>
  walk_at "w";rfl
 | 1 =>
  walk_at "w";rfl
 | j+2=>cases h1
theorem ACM{hv:Bool}{n o:List Nat}{k:Nat}{x:Rat}{g:List Rat×List Rat}(dk:Em CD C N H d ka m)(hN:N<1000)(ok:(Sy.more hv n o k x).ok)(hm:m o=some g)(fine:Dy g.1 g.2)(h1:hv=true->1<=k)(h2:k<=g.2.length)(hx:0<x)(bx:Bq 101 x)(q:∀H',Sk ka H H'->Em CD C (N+1) H' d ka (Jd m n (some (if hv then(g.1,mor g.2 (k-1) x) else(mor g.1 k x,g.2))))->Q (.str "ok") H'):CT CD C [.ref d,.str (sx (Sy.more hv n o k x).row)] H Q E:=by
 have rs:Rsv m (Sy.more hv n o k x).form (Sy.more hv n o k x).ths [.txt n,.cord g.1 g.2,.whl k,.frac x]:=⟨rfl,fun i k' y h1 h2=>by
  match i with
  | 0 =>
   walk_at "w";rfl
  | 1 =>
   walk_at "w";exact Nf hm
  | 2 =>
   walk_at "w";rfl
  | 3 =>
   walk_at "w";rfl
  | j+4=>cases h1⟩
 cases hv
 .exact⟨N,d,ka,m,_,_,_,_,_,_,rfl,dk,hN,GP ok,by rw[show sx (Sy.more false n o k x).deed="longer" from ZL];decide,rs,.inl ⟨n,_,_,_,(by decide:("new":Str)∈(["new","name","whole","fraction"]:List Str)),rfl,Jj ZL (.longer fine h2 hx bx),q⟩⟩
 .exact⟨N,d,ka,m,_,_,_,_,_,_,rfl,dk,hN,GP ok,by rw[show sx (Sy.more true n o k x).deed="heavier" from Vz];decide,rs,.inl ⟨n,_,_,_,(by decide:("new":Str)∈(["new","name","whole","fraction"]:List Str)),rfl,Jj Vz (.heavier fine (h1 rfl) h2 hx bx),q⟩⟩
end
def Qo:Sp:=fun vs H Q _=>∃p g w gs ws,vs=[.ref p]/\H p=some (.tup [.ref g,.ref w])/\Rw H g gs/\Rw H w ws/\C30 gs ws/\∀H',Am H H'->Q (.str (sx (jn 32 (Bo gs ws)))) H'
theorem WR:Al ["_law_one"] ["_law_one"] (Af K3):=fsc
theorem Wt(F:Fun K "_law_text" "_law_text" K3 f fd)(T:Txt mg):BP P w K mg base CX0 1 f fd ["_law_one"] Fb:=by
 refine F.okk WR fun vs H Q E h=>?_;obtain⟨p,q,rfl,kp,hq,k⟩:=h;walk_at "c";(obtain⟨l1,l2⟩:=hq.log;have h1:=Hr hq.1;have h2:=Ej (k:=30) (by decide) hq.2);walk_at "i"
 have eb:itx (q.den:Int)=dgs q.den:=by
  unfold itx;rw[if_neg (by omega)];rfl
 refine⟨_,(Ac (BK (Ak Be (ixT (pv 0) Ad) Ad (Ar _))
    (Ae (Aj (Ba CJ rfl T.z_str boot_str (Aa (ixT (pv 0) Ad) Ab))))
    Aq)
   (Ae (Aj (An BJ (An BJ (Ba CJ rfl T.z_str boot_str (Aa (ixT (pv 0) Ad) Ab)) Ao) (Ba CJ rfl T.z_str boot_str (Aa (ixT (pv 0) Ad) Ab)))))),?_⟩
 refine⟨_,rfl,_,_,_,_,rfl,rfl,kp.sq,rfl,rfl,_,rfl,Hk (fun c=>?_) (fun c=>?_)⟩
 .walk_at "ay";refine⟨_,rfl,_,_,_,_,rfl,rfl,kp.sq,rfl,_,rfl,l1,?_⟩;rw[show(toString q.num:Str)=sx (itx q.num) from tos q.num];exact k
 .walk_at "Y";refine⟨_,rfl,_,_,_,_,rfl,rfl,kp.sq,rfl,_,rfl,l1,_,_,rfl,rfl,?_,_,rfl,_,_,_,_,rfl,rfl,kp.sq,rfl,_,rfl,l2,_,_,rfl,rfl,?_,?_⟩
  .rw[show(toString q.num:Str)=sx (itx q.num) from tos q.num,Ay];show _+1<=_;omega
  .rw[show(toString q.num:Str)=sx (itx q.num) from tos q.num,show(toString (q.den:Int):Str)=sx (itx (q.den:Int)) from tos _,EY,Ay,Ay,eb];show _+1+_<=_;omega
  .rw[show(toString q.num:Str)=sx (itx q.num) from tos q.num,show(toString (q.den:Int):Str)=sx (itx (q.den:Int)) from tos _,eb,show(Str.ofString "/")=sx [47] from rfl,Bg,Bg,ATw];exact k
theorem Es:Al ["_law_cord","_law_gaps","_law_weights","_law_words","_law_k"] ["_law_cord"] (Af JQ):=fsc
theorem Ur(F:Fun K "_law_shown" "_law_shown" JQ f fd)(T:Txt mg)(aJ:Cal P w K mg base "_law_text" 1 ["_law_one"] Fb):BP P w K mg base CX0 2 f fd ["_law_cord"] Qo:=by
 refine F.okk Es fun vs H Q E h=>?_;obtain⟨p,g1,w1,gs,ws,rfl,ep,rg,cP,c30,k⟩:=h;walk_at "c";(have aB:=c30.fine.len;have aC:=c30.fine.most);walk_at "i"
 have h0:0<gs.length:=by omega
 obtain⟨pg,eg,kg⟩:=id rg;obtain⟨pw,ew,kw⟩:=id cP;have ri:=kg.length;have oN:=kw.length;obtain⟨p0,e0,k0⟩:=kg.get (Io h0);refine⟨_,(Ac (Tz (pv 0) (JV rfl (Bk (gN 1 Es.nd) (Bk (gN 2 Es.nd) Ga))))
   (Ac (pS 3 Es.nd (DQ (Aa (Ai aJ hr (Aa (ixL (pv 1) Ad) Ab)) Ab)))
   (Ac (Do ATI rfl (Eh rfl T.z_range (Aa (Ax Aw rfl T.z_len AS6 (Aa (pv 2) Ab)) Ab)) (gN 4 Es.nd)
    (Ac (Ca (Cp ATL ATN ATO Cw (pv 3) (Aa (An BJ (An BJ Ao (Ai aJ hr (Aa (ixL (pv 2) (pv 4)) Ab))) Ao) Ab)))
    (Ae (Ca (Cp ATL ATN ATO Cw (pv 3) (Aa (Ai aJ hr (Aa (ixL (pv 1) (An Bp (pv 4) Ad)) Ab)) Ab))))))
   (Ae (Aj (Cp ATA AVH AVI Tf Ao (Aa (pv 3) Ab))))))),?_⟩
 refine⟨_,rfl,p,_,rfl,SqT.of ep,rfl,_,_,rfl,_,_,rfl,rfl,?_⟩;refine⟨_,rfl,g1,_,_,_,rfl,rfl,SqL.of eg,Dh (j:=0) e0,p0,_,rfl,k0,c30.g30 _ (List.getElem_mem h0),(by show 1<=sizeLine;decide),fun D hD=>?_⟩;have u2:=Ah hD (.lst [.str (sx (ftx gs[0]))]);have iM:upd H D (.lst [.str (sx (ftx gs[0]))]) D=some (.lst (([ftx gs[0]].map sx).map V.str)):=Ag;generalize upd H D (.lst [.str (sx (ftx gs[0]))])=H2 at *;refine⟨_,rfl,w1,_,rfl,.inl (SqL.of (u2 _ _ ew)),_,rfl,by omega,by rw[ASt];omega,?_⟩;rw[AUD,ASt,oN];have jZ:=u2 _ _ eg;have sS:=u2 _ _ ew;have j2:=kg.keep u2;have sU:=kw.keep u2;have ng:g1≠D:=BL eg hD;have nw:w1≠D:=BL ew hD;have iN:(gs.drop 1).length=ws.length:=by rw[ATF];omega
 refine Gb (n:=ws.length) (fun i σ H'=>(∃v,σ=[some (.ref p),some (.ref g1),some (.ref w1),some (.ref D),v])/\Am H H'/\(∀b o,b≠D->H2 b=some o->H' b=some o)/\H' D=some (.lst (((ftx gs[0]::cw (ws.take i) ((gs.drop 1).take i)).map sx).map V.str))) ⟨⟨_,rfl⟩,u2,fun _ _ _ e=>e,iM⟩ ?_ ?_
 .rintro i σ H5 hi ⟨⟨v,rfl⟩,sm,fT,gZ⟩;have hi2:i<(gs.drop 1).length:=by omega
  have sV:i+1<gs.length:=by omega
  have kq:∀{p:Addr} {q:Rat},Pq H2 p q->Pq H5 p q:=fun {p q} h=>fT _ _ (fun z=>by
   rw[z]at h;have h':H2 D=some (.tup [.int q.num,.int q.den]):=h;rw[iM]at h';cases h') h
  obtain⟨p1,e1,k1⟩:=sU.get (Io hi);obtain⟨p2,e2,k2⟩:=j2.get (Io sV);have sW:gs[i+1]=(gs.drop 1)[i]:=by
   rw[List.getElem_drop]
   congr 1
   omega
  rw[sW]at k2;have f1:=c30.w30 _ (List.getElem_mem hi);have f2:F30 (gs.drop 1)[i]:=c30.g30 _ (AT7 (List.getElem_mem hi2));have l1:=By f1;have k1':=kq k1;have k2':=kq k2;have e2':atI (pg.map V.ref) (0+(i:Int)+1)=some (.ref p2):=by
   rw[show(0+(i:Int)+1)=((i+1:Nat):Int) by omega];exact Dh e2
  have lc:(cw (ws.take i) ((gs.drop 1).take i)).length=2*i:=by
   rw[Ub (by rw[AS8,AS8];omega),AS8];omega
  have lI:Str.ofString "("++sx (ftx ws[i])++Str.ofString ")"=sx (40::(ftx ws[i]++[41])):=by
   (rw[show Str.ofString "("=sx [40] from rfl,show Str.ofString ")"=sx [41] from rfl,Bg,Bg]);rfl
  refine⟨_,rfl,.inl ⟨rfl,_,SqL.of gZ⟩,_,rfl,_,rfl,w1,_,_,_,rfl,rfl,SqL.of (fT _ _ nw sS),YZ e1,p1,_,rfl,k1',f1,_,_,rfl,rfl,?_,_,_,rfl,rfl,?_,D,_,_,rfl,rfl,gZ,?_,?_⟩
  .rw[Ay];show 1+_<=_;omega
  .rw[EY,Ay];show 1+_+1<=_;omega
  .rw[ASt,ASt,ASx];omega
  rw[lI];have k2'':Pq (upd H5 D (.lst (((ftx gs[0]::cw (ws.take i) ((gs.drop 1).take i)).map sx).map V.str++[.str (sx (40::(ftx ws[i]++[41])))]))) p2 (gs.drop 1)[i]:=k2'.updL gZ;have sX:upd H5 D (.lst (((ftx gs[0]::cw (ws.take i) ((gs.drop 1).take i)).map sx).map V.str++[.str (sx (40::(ftx ws[i]++[41])))])) g1=some (.lst (pg.map V.ref)):=by
   rw[Az ng];exact fT _ _ ng jZ
  refine⟨_,rfl,.inl ⟨rfl,_,SqL.of Ag⟩,_,rfl,_,rfl,_,_,rfl,rfl,g1,_,_,_,rfl,rfl,SqL.of sX,e2',p2,_,rfl,k2'',f2,D,_,_,rfl,rfl,Ag,?_,⟨_,rfl⟩,Bd (Bd sm hD _) hD _,fun b o n e=>?_,?_⟩
  .rw[ASz,ASt,ASt,ASx];show _+1<_;omega
  .rw[Az n,Az n];exact fT b o n e
  .rw[Ag,ATa hi,ATa hi2,U9 _ _ (by rw[AS8,AS8];omega)];simp
 .rintro σ H5 ⟨⟨v,rfl⟩,sm,kp,eD⟩;rw[ATK,show(gs.drop 1).take ws.length=gs.drop 1 by rw[<-iN,ATK]]at eD;have e0':(ftx gs[0]::cw ws (gs.drop 1))=Bo gs ws:=by
   unfold Bo;rw[Po.getD_in h0]
  rw[e0']at eD;have k1:=k H5 sm;rw[<-QS]at k1;exact⟨rfl,_,rfl,_,D,_,rfl,rfl,SqL.of eD,VL c30.len (by rw[c30.cnt];omega),k1⟩
structure AQk(gs ws:List Rat):Prop where
 len:gs.length=ws.length+1
 few:ws.length<=3
 pos:(∀q∈gs,0<q)/\∀q∈ws,0<q
 bq:(∀q∈gs,Bq 4 q)/\∀q∈ws,Bq 4 q
def AMP:Sp:=fun vs H Q _=>∃c:Int,vs=[.int c]/\∀r g w gs ws H',Am H H'->H' r=some (.tup [.ref g,.ref w])->H g=none->H w=none->g≠w->Rw H' g gs->Rw H' w ws->AQk gs ws->Q (.ref r) H'
def hl(gs ws:List Rat)(t h0 l0:Rat):Nat->Rat×Rat
 | 0=>(h0,l0)
 | k+1=>Po.stp gs ws t h0 l0 k
theorem AEg{gs ws:List Rat}{t:Rat}{b nt:Nat}(hb:0<b)(bg:∀q∈gs,Bq b q)(bw:∀q∈ws,Bq b q)(bt:Bq nt t)(k:Nat):∃th tl m,Po.R3 (2+(nt+2*b+2)*(k+1)) (Po.stp gs ws t 0 1 k).1 (Po.stp gs ws t 0 1 k).2 th tl m:=by
 induction k with
 | zero =>
  have r:=Po.R3.start (Bq.zero (show 0<1 by decide)) (Bq.one (show 0<1 by decide));exact⟨_,_,_,(r.gap (Po.getD_bq hb bg 0)).mono (by omega)⟩
 | succ k ih =>
  obtain⟨th,tl,m',r'⟩:=ih;exact⟨_,_,_,((r'.bead bt (Po.getD_bq hb bw k)).gap (Po.getD_bq hb bg (k+1))).mono (by rw[AVF (nt+2*b+2) (k+1)];omega)⟩
def V3:Sp:=fun vs H Q _=>∃(g w tp:Addr) (gs ws:List Rat) (t:Rat),vs=[.ref g,.ref w,.ref tp]/\Rw H g gs/\Rw H w ws/\Pq H tp t/\gs.length=ws.length+1/\ws.length<=4/\(∀q∈gs,Bq 101 q)/\(∀q∈ws,Bq 101 q)/\Bq 334 t /\
 ∀r H',Am H H'->H r=none->Rp H' r (Po.walkQ gs ws t 0 1)->Q (.ref r) H'
theorem ACe{gs ws:List Rat}{t:Rat}(bg:∀q∈gs,Bq 101 q)(bw:∀q∈ws,Bq 101 q)(bt:Bq 334 t){i:Nat}(hi:i<=5):Bq 2900 (hl gs ws t 0 1 i).1/\Bq 2900 (hl gs ws t 0 1 i).2:=by
 cases i with
 | zero=>exact⟨Bq.zero (by decide),Bq.one (by decide)⟩
 | succ k =>
  obtain⟨th,tl,m,r⟩:=AEg (show 0<101 by decide) bg bw bt k;exact(r.mono (show 2+(334+2*101+2)*(k+1)<=2900 by omega)).bq
theorem Dn:Al ["_law_gaps","_law_weights","_law_t","_law_height","_law_lean","_law_rows","_law_k"] ["_law_gaps","_law_weights","_law_t"] (Af Ks):=fsc
theorem W3(F:Fun K "_law_walk" "_law_walk" Ks f fd)(T:Txt mg)(aO:Cal P w K mg base "_law_plus" 2 ["_law_one","_law_other"] (Bw 3900 (·+·)))(cI:Cal P w K mg base "_law_minus" 2 ["_law_one","_law_other"] (Bw 3900 (·-·)))(aH:Cal P w K mg base "_law_times" 2 ["_law_one","_law_other"] (Bw 3900 (·*·))):BP P w K mg base CX0 3 f fd ["_law_gaps","_law_weights","_law_t"] V3:=by
 refine F.okk Dn fun vs H Q E h=>?_;obtain⟨ga,wa,tp,gs,ws,t,rfl,⟨pg,eg,kg⟩,⟨pw,ew,kw⟩,kt,aB,aC,bg,bw,bt,q⟩:=h;walk_at "c";have lg:=kg.length;have lw:=kw.length;have hsz:(1000:Nat)<sizeLine:=by decide
 refine⟨_,(Ac (pS 3 Dn.nd (Bb (Aa Ad (Aa Ad Ab))))
   (Ac (pS 4 Dn.nd (Bb (Aa Ad (Aa Ad Ab))))
   (Ac (pS 5 Dn.nd (DQ Ab))
   (Ac (Do ATI rfl (Eh rfl T.z_range (Aa (Ax Aw rfl T.z_len AS6 (Aa (pv 0) Ab)) Ab)) (gN 6 Dn.nd)
    (Ac (pS 3 Dn.nd (Ai aO hr (Aa (pv 3) (Aa (Ai aH hr (Aa (ixL (pv 0) (pv 6)) (Aa (pv 4) Ab))) Ab))))
    (Ac (Ca (Cp ATL ATN ATO Cw (pv 5) (Aa (Bb (Aa (pv 3) (Aa (pv 4) Ab))) Ab)))
    (Ae (BK (Ak Fy (pv 6) (Ax Aw rfl T.z_len AS6 (Aa (pv 1) Ab)) (Ar _))
     (Ae (pS 4 Dn.nd (Ai cI hr (Aa (pv 4) (Aa (Ai aH hr (Aa (pv 2) (Aa (Ai aH hr (Aa (ixL (pv 1) (pv 6)) (Aa (pv 3) Ab))) Ab))) Ab)))))
     Aq)))))
   (Ae (Aj (pv 5))))))),?_⟩
 refine⟨(by show 2<=sizeLine;decide),fun p0 hp0=>?_⟩;have u0:=Ah hp0 (.tup [.int 0,.int 1]);have k0:Pq (upd H p0 (.tup [.int 0,.int 1])) p0 0:=Pq.of Pr.new ⟨rfl,rfl⟩;refine⟨(by show 2<=sizeLine;decide),fun p1 hp1=>?_⟩;have u1:=Ah hp1 (.tup [.int 1,.int 1]);have k1:Pq (upd (upd H p0 (.tup [.int 0,.int 1])) p1 (.tup [.int 1,.int 1])) p1 1:=Pq.of Pr.new ⟨rfl,rfl⟩;refine⟨(by show 0<=sizeLine;decide),fun D hD=>?_⟩;have u2:=Ah hD (.lst []);have s0:=u0.trans (u1.trans u2);have gY:H D=none:=(u0.trans u1).free hD;have sY:=k0.keep (u1.trans u2);have sZ:=k1.keep u2;have lH:upd (upd (upd H p0 (.tup [.int 0,.int 1])) p1 (.tup [.int 1,.int 1])) D (.lst []) D=some (.lst []):=Ag;generalize upd (upd (upd H p0 (.tup [.int 0,.int 1])) p1 (.tup [.int 1,.int 1])) D (.lst [])=H0 at *;refine⟨_,rfl,_,_,rfl,.inl (SqL.of (s0 _ _ eg)),_,rfl,by omega,by rw[ASt];omega,?_⟩;rw[AUD,ASt,lg];refine Gb (n:=gs.length) (fun i σ H'=>(∃(ph pl:Addr) (v:Option V),σ=[some (.ref ga),some (.ref wa),some (.ref tp),some (.ref ph),some (.ref pl),some (.ref D),v]/\Pq H' ph (hl gs ws t 0 1 i).1/\(i<gs.length->Pq H' pl (Po.stp gs ws t 0 1 i).2))/\Am H H'/\Rp H' D ((List.range i).map (Po.stp gs ws t 0 1)))
  ⟨⟨_,_,_,rfl,sY,fun _=>sZ⟩,s0,⟨[],lH,.nil⟩⟩ ?_ ?_
 .rintro i σ H1 hi ⟨⟨ph,pl,v,rfl,kh,tu⟩,sm,rp⟩;have kl:=tu hi;obtain⟨tz,e0,k0⟩:=kg.get (Io hi);have fm:=bg _ (List.getElem_mem hi);obtain⟨bh,_⟩:=ACe (t:=t) bg bw bt (show i<=5 by omega);obtain⟨tD,bl2⟩:=ACe (t:=t) bg bw bt (show i+1<=5 by omega);have hW:Bq 2900 (Po.stp gs ws t 0 1 i).2:=bl2;have hX:Bq 2900 (Po.stp gs ws t 0 1 i).1:=tD;have gg:gs.getD i 0=gs[i]:=by rw[ASu,Io hi];rfl
  refine⟨_,rfl,_,rfl,_,rfl,ga,_,_,_,rfl,rfl,SqL.of (sm _ _ eg),YZ e0,_,rfl,tz,pl,_,_,rfl,k0.keep sm,kl,fm.mono (by decide),hW.mono (by decide),fun r1 H2 s2 k2=>?_⟩;refine⟨ph,r1,_,_,rfl,kh.keep s2,k2,bh.mono (by decide),(fm.mul hW).mono (by decide),fun r2 H3 s3 k3=>?_⟩;have es:(Po.stp gs ws t 0 1 i).1=(hl gs ws t 0 1 i).1+gs[i]*(Po.stp gs ws t 0 1 i).2:=by
   rw[<-gg];cases i with
   | zero=>rfl
   | succ k=>rfl
  replace k3:Pq H3 r2 (Po.stp gs ws t 0 1 i).1:=by rw[es];exact k3
  have pL:=kl.keep (s2.trans s3);obtain⟨x8,f8,_⟩:=(rp.keep (s2.trans s3)).there;refine⟨_,rfl,.inl ⟨rfl,_,SqL.of f8⟩,_,rfl,_,rfl,(by show 2<=sizeLine;decide),fun r3 tF=>?_⟩;have s4:=Ah tF (.tup [.ref r2,.ref pl]);have tq:Tq (upd H3 r3 (.tup [.ref r2,.ref pl])) r3 (Po.stp gs ws t 0 1 i):=⟨r2,pl,Ag,k3.keep s4,pL.keep s4⟩;have pM:=s2.trans (s3.trans s4);obtain⟨xs,hxs,gR,tG⟩:=rp.app pM tq;rw[ASt,ATn]at gR;refine⟨D,xs,_,rfl,rfl,hxs,by omega,?_⟩;have s5:Am H (upd (upd H3 r3 (.tup [.ref r2,.ref pl])) D (.lst (xs++[.ref r3]))):=Bd (sm.trans pM) gY _;have k5:Pq (upd (upd H3 r3 (.tup [.ref r2,.ref pl])) D (.lst (xs++[.ref r3]))) r2 (Po.stp gs ws t 0 1 i).1:=(k3.keep s4).updL hxs;have mm:Pq (upd (upd H3 r3 (.tup [.ref r2,.ref pl])) D (.lst (xs++[.ref r3]))) pl (Po.stp gs ws t 0 1 i).2:=(pL.keep s4).updL hxs;generalize upd (upd H3 r3 (.tup [.ref r2,.ref pl])) D (.lst (xs++[.ref r3]))=H5 at *;have jj:Rp H5 D ((List.range (i+1)).map (Po.stp gs ws t 0 1)):=by
   rw[ATh,AS0];exact tG
  refine⟨_,rfl,_,rfl,wa,_,rfl,.inl (SqL.of (s5 _ _ ew)),_,_,rfl,rfl,_,rfl,?_⟩;(refine Hk (fun c=>?_) (fun c=>?_))
  .have c':(0+(i:Int))<(((pw.map V.ref).length:Nat):Int):=of_decide_eq_true c;rw[ASt]at c';have hk:i<ws.length:=by omega
   obtain⟨p9,e9,k9⟩:=kw.get (Io hk);have mz:=bw _ (List.getElem_mem hk);have gw:ws.getD i 0=ws[i]:=by rw[ASu,Io hk];rfl
   refine⟨_,rfl,_,rfl,_,rfl,_,rfl,wa,_,_,_,rfl,rfl,SqL.of (s5 _ _ ew),YZ e9,_,rfl,p9,r2,_,_,rfl,k9.keep s5,k5,mz.mono (by decide),hX.mono (by decide),fun r6 H6 s6 k6=>?_⟩;refine⟨tp,r6,_,_,rfl,kt.keep (s5.trans s6),k6,bt.mono (by decide),(mz.mul hX).mono (by decide),fun r7 H7 s7 k7=>?_⟩;refine⟨pl,r7,_,_,rfl,mm.keep (s6.trans s7),k7,hW.mono (by decide),(bt.mul (mz.mul hX)).mono (by decide),fun r8 H8 s8 k8=>⟨⟨r2,r8,_,rfl,k5.keep (s6.trans (s7.trans s8)),fun _=>?_⟩,s5.trans (s6.trans (s7.trans s8)),jj.keep (s6.trans (s7.trans s8))⟩⟩;show Pq H8 r8 ((Po.stp gs ws t 0 1 i).2-t*ws.getD i 0*(Po.stp gs ws t 0 1 i).1);rw[gw,Rat.mul_assoc];exact k8
  .have c':¬(0+(i:Int))<(((pw.map V.ref).length:Nat):Int):=of_decide_eq_false (Bool.eq_false_iff.mpr c);rw[ASt]at c';exact⟨⟨r2,pl,_,rfl,k5,fun z=>absurd z (by omega)⟩,s5,jj⟩
 .rintro σ H1 ⟨⟨ph,pl,v,rfl,_,_⟩,sm,rp⟩;exact⟨_,rfl,q D H1 sm gY rp⟩
structure Hs(gs ws:List Rat):Prop where
 len:gs.length=ws.length+1
 few:ws.length<=4
 pos:(∀q∈gs,0<q)/\∀q∈ws,0<q
 bq:(∀q∈gs,Bq 4 q)/\∀q∈ws,Bq 4 q
def Qj(K:W.Frag):Sp:=fun vs H Q _=>∃(a:Addr) (ns:List Int),vs=[.ref a]/\SqL K H a (ns.map V.int)/\∀r g w gs ws H',Am H H'->H' r=some (.tup [.ref g,.ref w])->Rw H' g gs->Rw H' w ws->Hs gs ws->Q (.ref r) H'
def RC:Sp:=fun vs H Q _=>∃q,vs=[.str (sx (ftx q))]/\F30 q/\∀r H',Am H H'->Pq H' r q->Q (.ref r) H'
def Ss:Sp:=fun vs H Q _=>∃a p qs x,vs=[.ref a,.ref p]/\Rw H a qs/\Pq H p x/\qs.length<=8/\(∀q∈qs,Bq 100 q)/\Bq 100 x/\∀r H',Am H H'->Pq H' r (Po.ev qs x)->Q (.ref r) H'
theorem Bm:Al ["_law_script","_law_head","_law_beads","_law_many","_law_row","_law_rest","_law_k","_law_cell"] ["_law_script"] (Af Jp):=fsc
theorem Ti(F:Fun K "_law_drawn" "_law_drawn" Jp f fd)(T:Txt mg)(ay:Cal P w K mg base "_law_cell_at" 1 ["_law_script","_law_k"] (Qp K))(aw:Cal P w K mg base "_law_low" 1 ["_law_top","_law_bottom"] Ht):BP P w K mg base CX0 3 f fd ["_law_script"] (Qj K):=by
 refine F.okk Bm fun vs H Q E h=>?_;obtain⟨a,ns,rfl,hS,q⟩:=h;walk_at "c";walk_at "i"
 refine⟨_,(Ac (pS 1 Bm.nd (Ai ay hr (Aa (pv 0) (Aa Ad Ab))))
   (Ac (pS 2 Bm.nd (An Dd (An CZ (pv 1) Ad) Ad))
   (Ac (pS 3 Bm.nd (An Bp (An BZ Ad (pv 2)) Ad))
   (Ac (pS 4 Bm.nd (DQ Ab))
   (Ac (pS 5 Bm.nd (Ai ay hr (Aa (pv 0) (Aa Ad Ab))))
   (Ac (Do ATI rfl (Eh rfl T.z_range (Aa (pv 3) Ab)) (gN 6 Bm.nd)
    (Ac (pS 7 Bm.nd (pv 5))
    (Ac (Nt (BK (PW.pt (Dc (Ak Be (An Dd (pv 1) Ad) Ad (Ar _)) (CV (Ak Fy (pv 5) Ad (Ar _)))))
     (Ac (pS 7 Bm.nd (An Dd (An BZ (An Bp (Ai ay hr (Aa (pv 0) (Aa (An Bp Ad (pv 6)) Ab))) (An BZ (pv 6) (pv 6))) Ad) Ad))
     (Ae (pS 7 Bm.nd (An BZ (pv 7) (An Bp (pv 7) (pv 6))))))
     Aq))
    (Ac (Ca (Cp ATL ATN ATO Cw (pv 4) (Aa (Ai aw hr (Aa (An Bp Ad (An Dd (pv 7) Ad)) (Aa (An Bp Ad (An Dd (An CZ (pv 7) Ad) Ad)) Ab))) Ab)))
    (Ae (pS 5 Bm.nd (An CZ (pv 5) Ad)))))))
   (Ae (Aj (Bb (Aa (DX FW (pv 4) Ds (DR (An Bp (pv 2) Ad))) (Aa (DX FW (pv 4) (DR (An Bp (pv 2) Ad)) Ds) Ab))))))))))),?_⟩
 refine⟨_,rfl,a,ns,0,rfl,hS,?_⟩;obtain⟨hd,tH⟩:∃hd,hd=Kc ns 0:=⟨_,rfl⟩;rw[<-tH];refine⟨_,rfl,_,_,rfl,rfl,⟨by decide,bt2 (by decide +kernel)⟩,_,_,rfl,rfl,(by show(0:Int)<5;decide),?_⟩;obtain⟨m,hm,jX⟩:∃m:Nat,hd/2%5=(m:Int)/\m<=4:=⟨(hd/2%5).toNat,by omega,by omega⟩;refine⟨_,rfl,_,_,rfl,rfl,Rn.ok (.inl ⟨by decide,by decide⟩),_,_,rfl,rfl,?_⟩;refine⟨(by show 0<=sizeLine;decide),fun D hD=>?_⟩;refine⟨_,rfl,a,ns,1,rfl,(Ah hD _).seq hS,?_⟩;refine⟨_,rfl,_,rfl,by omega,by omega,?_⟩;rw[show(2*(hd/2%5)+1).toNat=2*m+1 by omega];refine Gb (n:=2*m+1) (fun i σ H'=>(∃(r:Int) (v w:Option V),σ=[some (.ref a),some (.int hd),some (.int (hd/2%5)),some (.int (2*(hd/2%5)+1)),some (.ref D),some (.int r),v,w])/\Am H H'/\∃qs,Rw H' D qs/\qs.length=i/\(∀q∈qs,0<q)/\∀q∈qs,Bq 4 q)
  ⟨⟨_,_,_,rfl⟩,Ah hD _,[],⟨[],Ag,.nil⟩,rfl,fun q hq=>absurd hq (by simp),fun q hq=>absurd hq (by simp)⟩ ?_ ?_
 .rintro i σ H1 hi ⟨⟨r,v,w',rfl⟩,sm,qs,eP,l1,p1,b1⟩;refine⟨_,rfl,?_⟩;refine⟨fun zd H'=>∃pt:Int,zd=[some (.ref a),some (.int hd),some (.int (hd/2%5)),some (.int (2*(hd/2%5)+1)),some (.ref D),some (.int r),some (.int (0+(i:Int))),some (.int pt)]/\H1=H',?tl,?hd⟩
  case hd =>
   refine⟨_,rfl,_,_,rfl,rfl,(by show(0:Int)<2;decide),rfl,_,rfl,?_⟩;refine Hk (fun _=>RV ?_) (fun _=>?_)
   .refine⟨_,rfl,_,rfl,_,_,rfl,rfl,a,ns,1+i,?_,sm.seq hS,?_⟩
    .simp
    refine⟨_,rfl,_,rfl,_,_,rfl,rfl,Rn.ok (.inl ⟨by omega,by omega⟩),_,_,rfl,rfl,_,_,rfl,rfl,Rn.ok (.inr ⟨by decide,by decide⟩),_,_,rfl,rfl,(by show(0:Int)<99991;decide),?_⟩;(refine Yl (P:=fun y=>0<=y/\y<99991) ((Kc ns (1+i)+(0+(i:Int))*(0+(i:Int)))*48271%99991) ⟨ATV _ (by decide),ATJ _ (by decide)⟩ fun y ⟨y0,y1⟩=>?_;exact⟨_,rfl,_,rfl,_,rfl,_,_,rfl,rfl,_,_,rfl,rfl,Rn.ok (.inl ⟨by omega,by omega⟩),_,rfl,rfl⟩)
   .refine⟨_,rfl,_,_,rfl,rfl,_,rfl,Hk (fun _=>?_) (fun _=>⟨_,rfl,rfl⟩)⟩;refine⟨_,rfl,_,rfl,_,_,rfl,rfl,a,ns,1+i,?_,sm.seq hS,?_⟩
    .simp
    refine⟨_,rfl,_,rfl,_,_,rfl,rfl,Rn.ok (.inl ⟨by omega,by omega⟩),_,_,rfl,rfl,_,_,rfl,rfl,Rn.ok (.inr ⟨by decide,by decide⟩),_,_,rfl,rfl,(by show(0:Int)<99991;decide),?_⟩;(refine Yl (P:=fun y=>0<=y/\y<99991) ((Kc ns (1+i)+(0+(i:Int))*(0+(i:Int)))*48271%99991) ⟨ATV _ (by decide),ATJ _ (by decide)⟩ fun y ⟨y0,y1⟩=>?_;exact⟨_,rfl,_,rfl,_,rfl,_,_,rfl,rfl,_,_,rfl,rfl,Rn.ok (.inl ⟨by omega,by omega⟩),_,rfl,rfl⟩)
  rintro _ _ ⟨pt,rfl,rfl⟩;have h3:=ATV (pt/12) (show(12:Int)≠0 by decide);have h4:=ATJ (pt/12) (show(0:Int)<12 by decide);have hb:0<1+pt/12%12:=by omega
  have bb:Bt 6 (1+pt/12%12):=Bt.between (by omega) (by omega);obtain⟨x4,e4,_⟩:=eP.there;refine⟨_,rfl,.inl ⟨rfl,_,SqL.of e4⟩,_,rfl,_,_,rfl,rfl,(by show(0:Int)<12;decide),_,_,rfl,rfl,_,rfl,_,_,rfl,rfl,⟨by decide,bt2 (by decide +kernel)⟩,_,_,rfl,rfl,(by show(0:Int)<12;decide),_,_,rfl,rfl,_,_,rfl,hb,bb.mono (by decide),fun p H5 s5 k5=>?_⟩;obtain⟨fO,hxs,gR,jk⟩:=eP.app s5 k5;have hlz:fO.length<sizeLine:=by omega
  refine⟨D,fO,_,rfl,rfl,hxs,hlz,_,rfl,_,_,rfl,rfl,⟨by decide,bt2 (by decide +kernel)⟩,⟨_,_,_,rfl⟩,Bd (sm.trans s5) hD _,_,jk,by simp[l1],fun q hq=>?_,fun q hq=>?_⟩
  .rcases ATU.mp hq with z|z
   .exact p1 q z
   .rw[ATs.mp z];exact AEX pt
  .rcases ATU.mp hq with z|z
   .exact b1 q z
   .rw[ATs.mp z];exact AKy pt
 .rintro σ H1 ⟨⟨r,v,w',rfl⟩,s1,qs,rq,lq,pos,bq⟩;obtain⟨pq,er,kq⟩:=id rq;have e1:hd/2%5+1=((m+1:Nat):Int):=by omega
  refine⟨_,rfl,_,rfl,_,_,rfl,rfl,_,rfl,D,_,rfl,SqL.of er,fun g hg=>?_⟩;have rg:=Rw.cto kq hg (m+1);rw[<-e1]at rg;have u1:=Ah hg (.lst (DP (pq.map V.ref) none (some (hd/2%5+1))));have mB:=u1 _ _ er;have tI:=kq.keep u1;refine⟨_,rfl,_,rfl,_,_,rfl,rfl,_,rfl,D,_,rfl,SqL.of mB,fun w hw=>?_⟩;have eP:=Rw.cfr tI hw (m+1);rw[<-e1]at eP;have u2:=Ah hw (.lst (DP (pq.map V.ref) (some (hd/2%5+1)) none));refine⟨(by show 2<=sizeLine;decide),fun t ht=>?_⟩;have u3:=Ah ht (.tup [.ref g,.ref w]);exact q t g w (qs.take (m+1)) (qs.drop (m+1)) _ (s1.trans (u1.trans (u2.trans u3))) Ag (rg.keep (u2.trans u3)) (eP.keep u3) ⟨by rw[AS8,ATF];omega,by rw[ATF];omega,⟨fun x hx=>pos x (AUv hx),fun x hx=>pos x (AT7 hx)⟩,⟨fun x hx=>bq x (AUv hx),fun x hx=>bq x (AT7 hx)⟩⟩
theorem G9:Al ["_law_text_here","_law_top","_law_found","_law_bottom"] ["_law_text_here"] (Af Kd):=fsc
theorem Vb(F:Fun K "_law_read" "_law_read" Kd f fd)(T:Txt mg):BP P w K mg base CX0 1 f fd ["_law_text_here"] RC:=by
 refine F.okk G9 fun vs H Q E h=>?_;obtain⟨x,rfl,hx,q⟩:=h;refine⟨rfl,fun cdv A outer s hr=>?_⟩;refine⟨_,(Ac (Tz (Cp ATA AUr AUs U8 (pv 0) (Aa Ao Ab)) (JV rfl (Bk (gN 1 G9.nd) (Bk (gN 2 G9.nd) (Bk (gN 3 G9.nd) Ga)))))
   (Ac (BK (Ak Be (pv 2) Ao (Ar _))
    (Ae (Aj (Bb (Aa (Ba DG rfl T.z_int boot_int (Aa (pv 1) Ab)) (Aa Ad Ab)))))
    Aq)
   (Ae (Aj (Bb (Aa (Ba DG rfl T.z_int boot_int (Aa (pv 1) Ab)) (Aa (Ba DG rfl T.z_int boot_int (Aa (pv 3) Ab)) Ab))))))),?_⟩
 have hl:=By hx;walk_at "i"
 refine⟨_,rfl,rfl,_,_,rfl,rfl,(by decide),by rw[Ay];omega,fun p hp=>?_⟩;have s1:=Ah hp (.tup ((Cz (sx (ftx x)) (Str.ofString "/")).map V.str));have e1:upd H p (.tup ((Cz (sx (ftx x)) (Str.ofString "/")).map V.str)) p=some (.tup ((Cz (sx (ftx x)) (sx [47])).map V.str)):=Ag;generalize upd H p (.tup ((Cz (sx (ftx x)) (Str.ofString "/")).map V.str))=H1 at *;have g1:=Ej (k:=30) (by decide) hx.1;have g2:=Ej (k:=30) (by decide) hx.2;rcases TF x with⟨d,e⟩|⟨d,e⟩
 .walk_at "be";refine⟨_,rfl,rfl,_,rfl,Hw (by decide +kernel) ?_⟩;refine⟨_,rfl,sx (itx x.num),decide (x.num<0),dgs x.num.natAbs,rfl,Ia _,FJ _,by omega,Lq _,(by show 2<=sizeLine;decide),fun o ho=>?_⟩;rw[MP];exact q o _ (s1.trans (Ah ho _)) (Pq.of Pr.new ⟨rfl,by omega⟩)
 .walk_at "be";refine⟨_,rfl,rfl,_,rfl,sne (by decide +kernel) ?_⟩;refine⟨_,rfl,sx (itx x.num),decide (x.num<0),dgs x.num.natAbs,rfl,Ia _,FJ _,by omega,Lq _,_,rfl,sx (dgs x.den),false,dgs x.den,rfl,Ia _,FJ _,by omega,rfl,(by show 2<=sizeLine;decide),fun o ho=>?_⟩;rw[MP,if_neg (by decide),Tw];exact q o _ (s1.trans (Ah ho _)) (Pq.of Pr.new ⟨rfl,rfl⟩)
theorem GJ:Al ["_law_figures","_law_t","_law_worth_here","_law_figure"] ["_law_figures","_law_t"] (Af Jb):=fsc
theorem UJ(F:Fun K "_law_worth" "_law_worth" Jb f fd)(T:Txt mg)(aO:Cal P w K mg base "_law_plus" 2 ["_law_one","_law_other"] (Bw 3900 (·+·)))(aH:Cal P w K mg base "_law_times" 2 ["_law_one","_law_other"] (Bw 3900 (·*·))):BP P w K mg base CX0 3 f fd ["_law_figures","_law_t"] Ss:=by
 refine F.okk GJ fun vs H Q E h=>?_;obtain⟨a,pn,ds,x,rfl,⟨pd,ed,kd⟩,kx,l5,b5,bx,q⟩:=h;refine⟨rfl,fun cdv A outer s hr=>?_⟩;have ld:=kd.length;refine⟨_,(Ac (pS 2 GJ.nd (Bb (Aa Ad (Aa Ad Ab))))
   (Ac (Do ATI rfl (AGc rfl T.z_reversed (Aa (pv 0) Ab)) (gN 3 GJ.nd)
    (Ae (pS 2 GJ.nd (Ai aO hr (Aa (Ai aH hr (Aa (pv 2) (Aa (pv 1) Ab))) (Aa (pv 3) Ab))))))
   (Ae (Aj (pv 2))))),?_⟩
 refine⟨(by show 2<=sizeLine;decide),fun p0 hp0=>?_⟩;have s0:=Ah hp0 (.tup [.int 0,.int 1]);(have k0:Pq (upd H p0 (.tup [.int 0,.int 1])) p0 0:=Pq.of Pr.new ⟨rfl,rfl⟩);refine⟨_,rfl,a,_,rfl,SqL.of (s0 _ _ ed),?_⟩;refine AEr (xs:=pd.map V.ref) (fun i σ H'=>Am H H'/\∃p v T M,σ=[some (.ref a),some (.ref pn),some (.ref p),v]/\Pq H' p (Po.ev (ds.drop (ds.length-i)) x)/\Po.Rep (201*i+1) (Po.ev (ds.drop (ds.length-i)) x) T M) ⟨s0,p0,_,0,1,rfl,?_,?_⟩ ?_ ?_ ?_
 .rw[AWM,List.drop_length];exact k0
 .refine⟨by decide,?_,Bt.zero,bt2 (by decide)⟩;rw[AWM,List.drop_length];show(0:Rat)=_;simp[Rat.div_def]
 .rintro i σ H' _ ⟨sm,_⟩;exact SqL.of (sm _ _ ed)
 .rintro i y σ H1 hy ⟨sm,p,v,T,M,rfl,kp,rep⟩;have hi:i<ds.length:=by
   have h:=(AS7.mp hy).1;rw[ATv,ASt]at h;omega
  have hi2:ds.length-1-i<ds.length:=by omega
  have eq:ds[ds.length-1-i]?=some ds[ds.length-1-i]:=Io hi2;obtain⟨p1,e1,k1⟩:=kd.get eq;obtain rfl:y=.ref p1:=by
   rw[AUl (by rw[ASt];omega),ASt,ld]at hy;rw[hy]at e1;exact AS5 e1
  have pN:=b5 _ (List.getElem_mem hi2);obtain⟨T9,M9,st⟩:∃T9 M9,Po.Rep (201*i+1+100+100+1) (ds[ds.length-1-i]+x*Po.ev (ds.drop (ds.length-i)) x) T9 M9:=⟨_,_,rep.step bx pN⟩;have e2:=Po.ev_snocs ds x i hi;rw[ASu,eq]at e2;have e3:(some ds[ds.length-1-i]).getD 0=ds[ds.length-1-i]:=rfl;rw[e3]at e2;have bv:=rep.bq;generalize Po.ev (ds.drop (ds.length-i)) x=V0 at *;refine⟨_,rfl,_,rfl,p,pn,_,_,rfl,kp,kx.keep sm,bv.mono (by omega),bx.mono (by omega),fun p2 H2 s2 k2=>?_⟩;refine⟨_,rfl,p2,p1,_,_,rfl,k2,k1.keep (sm.trans s2),(bv.mul bx).mono (by omega),pN.mono (by omega),fun p3 H3 s3 k3=>?_⟩;refine⟨sm.trans (s2.trans s3),p3,_,T9,M9,rfl,?_,?_⟩
  .rw[e2,Rat.add_comm,Rat.mul_comm];exact k3
  .rw[e2,show 201*(i+1)+1=201*i+1+100+100+1 by omega];exact st
 .rintro σ H1 ⟨sm,p,v,T,M,rfl,kp,rep⟩;rw[ASt,ld,Nat.sub_self,AUB]at kp;exact⟨_,rfl,q p H1 sm kp⟩
theorem Ge{σ:L2.St}{H:Hp}{Q:List V->Hp->Prop}(h:Q [] H):YG σ H Q:=h
theorem R5{c:Int}(h0:0<=c)(h1:c<=20):c.natAbs<10^30:=by
 have:(100:Nat)<10^30:=by decide
 omega
theorem AEo(l:List Nat)(lo:Bool)(t:Rat):Str.ofString "count "++sx l++Str.ofString " "++(if lo=true then Str.ofString "loose" else Str.ofString "held")++Str.ofString " "++sx (ftx t)=sx (Sy.count l lo t).row:=by
 rw[show Str.ofString "count "=sx [99,111,117,110,116,32] by decide +kernel,show Str.ofString " "=sx [32] from rfl,<-Wk,Bg,Bg,Bg,Bg,Bg];refine congrArg sx ?_;show _=[99,111,117,110,116]++32::(l++32::(eW lo++32::ftx t));simp
theorem F30.bt{q:Rat}(h:F30 q):Bq 100 q:=by
 have hz:(10:Nat)^30<=2^100:=by decide +kernel
 exact⟨show q.num.natAbs<2^100 from ATB h.1 hz,show(q.den:Int).natAbs<2^100 from ATB h.2 hz⟩
theorem R7(gs ws:List Rat)(lo:Bool)(t:Rat):Txt.split (sx (ABK gs ws lo t)) (Str.ofString " ")=[itx (BV (Bx gs ws lo t)),itx (cU gs ws lo t)].map sx:=by
 rw[show Str.ofString " "=sx [32] from rfl];refine Hh (fun w hw=>?_) (by simp);rcases AS2.mp hw with rfl|hw
 .exact Jk (by decide) (by unfold Up;decide) _
 rcases AS2.mp hw with rfl|hw
 .exact Jk (by decide) (by unfold Up;decide) _
 .cases hw
theorem AJt{gs ws:List Rat}(h:ws.length<=12)(lo:Bool)(t:Rat):0<=cU gs ws lo t/\cU gs ws lo t<=20:=by
 have:=UG gs ws lo t;unfold cU
 split<;>omega
def MF(CD C:Addr):Sp:=fun vs H Q _=>∃(N:Nat) (d ka tp:Addr) (m:List Nat->Option (List Rat×List Rat)) (l:List Nat) (lo:Bool) (es:Str) (t:Rat) (g:List Rat×List Rat),vs=[.ref d,.str (sx l),.str es,.ref tp]/\es=(if lo=true then Str.ofString "loose" else Str.ofString "held")/\Em CD C N H d ka m/\N<1000/\Nm l/\m l=some g/\Dy g.1 g.2/\Pq H tp t/\F30 t /\
 ∀r H',Am H H'->H' r=some (.tup [.int (BV (Bx g.1 g.2 lo t)),.int (cU g.1 g.2 lo t)])->Q (.ref r) H'
theorem KY:Al ["_law_desk","_law_name","_law_end","_law_t","_law_words"] ["_law_desk","_law_name","_law_end","_law_t"] (Af Ir):=fsc
theorem Rr(F:Fun K "_law_counts" "_law_counts" Ir f fd)(T:Txt mg)(ak:Fg P w K mg base ai "say" 9 ["self","row"] (CT ai af))(aJ:Cal P w K mg base "_law_text" 1 ["_law_one"] Fb):BP P w K mg base CX0 10 f fd ["_law_desk","_law_name","_law_end","_law_t"] (MF ai af):=by
 refine F.okk KY fun vs H Q E h=>?_;obtain⟨N,d,ka,tp,m,l,lo,es,t,g,rfl,rfl,dk,hN,nl,hm,fine,kt,dL,q⟩:=h;walk_at "c";walk_at "d"
 have l1:=nl.1.2;have l2:=By dL;have l3:(if lo=true then Str.ofString "loose" else Str.ofString "held").length<=5:=by cases lo<;>decide
 obtain⟨dx,_,e1,_⟩:=id dk;refine⟨_,(Ac (pS 4 KY.nd (Cp ATA ATc ATd Fi (KQ ak hr (pv 0) (Aa (An BJ (An BJ (An BJ (An BJ (An BJ Ao (pv 1)) Ao) (pv 2)) Ao) (Ai aJ hr (Aa (pv 3) Ab))) Ab)) (Aa Ao Ab)))
   (Ae (Aj (Bb (Aa (Ba DG rfl T.z_int boot_int (Aa (ixL (pv 4) Ad) Ab)) (Aa (Ba DG rfl T.z_int boot_int (Aa (ixL (pv 4) Ad) Ab)) Ab)))))),?_⟩
 have c6:(Str.ofString "count ").length=6:=by decide +kernel
 have c1:(Str.ofString " ").length=1:=rfl;refine⟨_,rfl,d,dx,_,rfl,e1,rfl,_,rfl,_,_,rfl,rfl,(by simp only[EY,Ay,c6,c1];omega),_,_,rfl,rfl,(by simp only[EY,Ay,c6,c1];omega),_,rfl,_,_,rfl,rfl,(by simp only[EY,Ay,c6,c1];omega),_,_,rfl,rfl,(by simp only[EY,Ay,c6,c1];omega),_,rfl,tp,t,rfl,kt,dL,_,_,rfl,rfl,(by simp only[EY,Ay,c6,c1];omega),?_⟩;rw[AEo];refine Ge ?_;refine Zf dk hN ⟨nl,dL⟩ hm fine (dL.bt.mono (by decide)) fun H1 s1=>?_;have tf:=UG g.1 g.2 lo t;have most:=fine.most;obtain⟨u0,u1⟩:=AJt (gs:=g.1) most lo t;have tJ:(100:Nat)<10^30:=by decide
 have a1:=R5 (c:=(BV (Bx g.1 g.2 lo t):Int)) (by omega) (by omega);have a2:=R5 u0 u1;have i1:=Hr a1;have i2:=Hr a2;have g1:=Ej (k:=30) (by decide) a1;have g2:=Ej (k:=30) (by decide) a2;have lc:(ABK g.1 g.2 lo t).length<=100:=by
  show(itx (BV (Bx g.1 g.2 lo t))++32::itx (cU g.1 g.2 lo t)).length<=100;rw[ASz,ASx];omega
 refine⟨rfl,_,_,rfl,rfl,(by decide),by rw[Ay];omega,by rw[R7];show 2<=_;omega,fun D hD=>?_⟩;rw[R7];have u:=Ah hD (.lst (([itx (BV (Bx g.1 g.2 lo t)),itx (cU g.1 g.2 lo t)].map sx).map V.str));have eD:upd H1 D (.lst (([itx (BV (Bx g.1 g.2 lo t)),itx (cU g.1 g.2 lo t)].map sx).map V.str)) D=some (.lst [.str (sx (itx (BV (Bx g.1 g.2 lo t)))),.str (sx (itx (cU g.1 g.2 lo t)))]):=Ag;generalize upd H1 D (.lst (([itx (BV (Bx g.1 g.2 lo t)),itx (cU g.1 g.2 lo t)].map sx).map V.str))=H2 at *;refine⟨_,rfl,D,_,_,_,rfl,rfl,SqL.of eD,rfl,_,_,_,rfl,Ia _,FJ _,ATG g1 (by decide),Lq _,_,rfl,D,_,_,_,rfl,rfl,SqL.of eD,rfl,_,_,_,rfl,Ia _,FJ _,ATG g2 (by decide),Lq _,(by show 2<=sizeLine;decide),fun r hr'=>?_⟩;rw[MP,MP];exact q r _ (s1.trans (u.trans (Ah hr' _))) Ag
theorem Xx{gs:List Rat}(lo:Bool)(t:Rat)(aB:gs.length=1)(pg:∀q∈gs,0<q):cU gs [] lo t=0:=by
 have h0:=M4 lo (ws:=[]) (t:=t) aB pg rfl;have ne:rq gs [] lo t ([]:List Rat).length≠0:=by
  unfold rq;cases lo with
  | true =>
   rw[if_pos ⟨rfl,rfl⟩];show(1:Rat)≠0;decide
  | false =>
   rw[if_neg (fun z=>absurd z.1 (by decide))];show 0+gs.getD 0 0*1≠0;rw[Po.getD_in (show 0<gs.length by omega)];have:=pg _ (List.getElem_mem (show 0<gs.length by omega));grind
 unfold cU;rw[h0,if_neg ne];rfl
theorem AMu{gs ws:List Rat}(lo:Bool)(t:Rat)(aB:gs.length=ws.length+1)(pg:∀q∈gs,0<q)(pw:∀q∈ws,0<q):cU gs ws lo t<=ws.length:=by
 by_cases h0:ws.length=0
 .obtain rfl:=AUY.mp h0;rw[Xx lo t aB pg];omega
 .by_cases h:t<=Po.dsum gs ws ws.length
  .have a:=ZS (lo:=lo) aB pg pw (by omega) h;rw[T8 lo aB pg pw (by omega) AUN]at a;exact a
  .rw[T8 lo aB pg pw (by omega) (Rat.le_of_lt (Rat.not_le.mp h))];omega
theorem ABw{gs ws:List Rat}(t:Rat)(aB:gs.length=ws.length+1)(pg:∀q∈gs,0<q)(pw:∀q∈ws,0<q):(BV (Bx gs ws false t):Int)<=cU gs ws false t/\cU gs ws false t<=BV (Bx gs ws true t)/\(BV (Bx gs ws true t):Int)<=cU gs ws true t/\cU gs ws true t<=(BV (Bx gs ws false t):Int)+1/\cU gs ws true t<=ws.length:=by
 have d:∀lo,(BV (Bx gs ws lo t):Int)<=cU gs ws lo t:=fun lo=>by
  unfold cU
  split<;>omega
 refine⟨d false,?_,d true,?_,AMu true t aB pg pw⟩
 .by_cases h0:ws.length=0
  .obtain rfl:=AUY.mp h0;rw[Xx false t aB pg];omega
  .exact(ZG (t:=t) aB pg (by omega)).1
 .by_cases h0:ws.length=0
  .obtain rfl:=AUY.mp h0;rw[Xx true t aB pg];omega
  .exact(ZG (t:=t) aB pg (by omega)).2
def Ie(CD C:Addr):Sp:=fun vs H Q _=>∃(N:Nat) (d ka nb:Addr) (m:List Nat->Option (List Rat×List Rat)) (l:List Nat) (g:List Rat×List Rat) (ts:List Rat),vs=[.ref d,.str (sx l),.int g.2.length,.ref nb]/\Em CD C N H d ka m/\N<1000/\Nm l/\m l=some g/\Dy g.1 g.2/\Rw H nb ts/\(∀t∈ts,F30 t)/\∀H',Am H H'->Q (.bl true) H'
theorem FT:Al ["_law_desk","_law_name","_law_many","_law_numbers","_law_t","_law_fast","_law_slack"] ["_law_desk","_law_name","_law_many","_law_numbers"] (Af Ik):=fsc
theorem Rj(F:Fun K "_law_parted" "_law_parted" Ik f fd)(T:Txt mg)(av:Cal P w K mg base "_law_counts" 10 ["_law_desk","_law_name","_law_end","_law_t"] (MF ai af)):BP P w K mg base CX0 11 f fd ["_law_desk","_law_name","_law_many","_law_numbers"] (Ie ai af):=by
 refine F.okk FT fun vs H Q E h=>?_;obtain⟨N,d,ka,nb,m,l,g,ts,rfl,dk,hN,nl,hm,fine,⟨ps,en,kn⟩,dL,q⟩:=h;refine⟨rfl,fun cdv A outer s hr=>?_⟩;have ln:=kn.length;refine⟨_,(Ac (Do ATI rfl (Bl (pv 3)) (gN 4 FT.nd)
    (Ac (pS 5 FT.nd (Ai av hr (Aa (pv 0) (Aa (pv 1) (Aa Ao (Aa (pv 4) Ab))))))
    (Ac (pS 6 FT.nd (Ai av hr (Aa (pv 0) (Aa (pv 1) (Aa Ao (Aa (pv 4) Ab))))))
    (Ae (BK (PW.pt (Dc (Ck (AAQ Ad (O5 V8 (ixT (pv 5) Ad) (O5 V8 (ixT (pv 5) Ad) (O5 V8 (ixT (pv 6) Ad) (O5 V8 (ixT (pv 6) Ad) (AJR V8 (An Bp (ixT (pv 5) Ad) Ad)))))))) (CV (Ak Gp (ixT (pv 6) Ad) (pv 2) (Ar _)))))
     (Ae (Aj GF))
     Aq)))))
   (Ae (Aj GF))),?_⟩
 refine⟨_,rfl,nb,rfl,⟨_,SqL.of en⟩,?_⟩;refine Hg (xs:=ps.map V.ref) (fun i σ H'=>Am H H'/\∃v1 v2 v3,σ=[some (.ref d),some (.str (sx l)),some (.int g.2.length),some (.ref nb),v1,v2,v3]) ⟨Am.refl _,_,_,_,rfl⟩ ?_ ?_ ?_
 .rintro i σ H' _ ⟨sm,_⟩;exact SqL.of (sm _ _ en)
 .rintro i y σ H1 hy ⟨sm,v1,v2,v3,rfl⟩;have hi:i<ts.length:=by
   have h:=(AS7.mp hy).1;rw[ASt]at h;omega
  obtain⟨p1,e1,k1⟩:=kn.get (Io hi);obtain rfl:y=.ref p1:=AS5 (hy.symm.trans e1);have ft:=dL _ (List.getElem_mem hi);generalize ts[i]=t at *;obtain⟨tK,tM,tN,tO,yw⟩:=ABw t fine.len fine.pos.1 fine.pos.2;refine⟨_,rfl,_,rfl,_,rfl,N,d,ka,p1,m,l,false,_,t,g,rfl,(if_neg (by decide)).symm,dk.keep sm,hN,nl,hm,fine,k1.keep sm,ft,fun r1 H2 s2 mB=>?_⟩;refine⟨_,rfl,_,rfl,_,rfl,N,d,ka,p1,m,l,true,_,t,g,rfl,(if_pos rfl).symm,dk.keep (sm.trans s2),hN,nl,hm,fine,k1.keep (sm.trans s2),ft,fun r2 H3 s3 mC=>?_⟩;have hZ:=s3 _ _ mB;refine⟨_,rfl,r1,_,_,_,rfl,rfl,SqT.of hZ,rfl,_,_,rfl,rfl,_,rfl,Oo (by omega) ⟨_,rfl,r1,_,_,_,rfl,rfl,SqT.of hZ,rfl,_,_,rfl,rfl,_,rfl,Oo tK ⟨_,rfl,r2,_,_,_,rfl,rfl,SqT.of mC,rfl,_,_,rfl,rfl,_,rfl,Oo tM ⟨_,rfl,r2,_,_,_,rfl,rfl,SqT.of mC,rfl,_,_,rfl,rfl,_,rfl,Oo tN ⟨_,rfl,r1,_,_,_,rfl,rfl,SqT.of hZ,rfl,_,_,rfl,rfl,_,_,rfl,rfl,_,rfl,Fx tO ?_⟩⟩⟩⟩⟩;exact⟨_,rfl,r2,_,_,_,rfl,rfl,SqT.of mC,rfl,_,rfl,_,_,rfl,rfl,_,rfl,Cd (by omega) ⟨sm.trans (s2.trans s3),_,_,_,rfl⟩⟩
 .rintro σ H1 ⟨sm,v1,v2,v3,rfl⟩;exact q H1 sm
section
variable {gs ws:List Rat}{lo:Bool}{k:Int}
theorem ACt{hv:Nat}(aB:gs.length=ws.length+1)(pg:∀q∈gs,0<q)(pw:∀q∈ws,0<q)(hn:0<ws.length)(hT:0<Po.dsum gs ws ws.length){i j:Nat}(hi:SpJ gs ws lo k hv i)(hj:SpJ gs ws lo k hv j):i=j:=by
 have half:∀{i j:Nat},SpJ gs ws lo k hv i->SpJ gs ws lo k hv j->¬i<j:=fun {i j} hi hj h=>by
  have l:=ZS (lo:=lo) aB pg pw hn (Po.tj_le hT (j:=i+1) (j':=j) (i:=hv) (i':=hv) (Nat.mul_le_mul_right _ h));have a:=hi.2.2;have b:=hj.2.1;omega
 have a:=half hi hj;have b:=half hj hi;omega
theorem ABz(aB:gs.length=ws.length+1)(pg:∀q∈gs,0<q)(pw:∀q∈ws,0<q)(hk:1<=k/\k<=(ws.length:Int)):∀hv:Nat,∃j,SpJ gs ws lo k hv j
 | 0=>by
  have c0:=Te (ws:=ws) lo aB pg;have ct:=T8 lo aB pg pw (by omega) AUN;exact⟨0,by decide,by rw[Po.tj_zero,c0];omega,by rw[Po.tj_one,ct];omega⟩
 | hv+1=>by
  obtain⟨j,h1,h2,h3⟩:=ABz aB pg pw hk hv;by_cases c:k<=cU gs ws lo (Po.tj (Po.dsum gs ws ws.length) (2*j+1) (hv+1))
  .exact⟨2*j,by rw[AUU];omega,by rw[Po.tj_two];exact h2,c⟩
  .refine⟨2*j+1,by rw[AUU];omega,by omega,?_⟩;walk_at "bd";exact h3
end
theorem W0(lo:Bool)(k hv:Int):Str.ofString "span a "++(if lo=true then Str.ofString "loose" else Str.ofString "held")++Str.ofString " "++Str.ofString (toString k)++Str.ofString " "++Str.ofString (toString hv)=sx (jn 32 ([115,112,97,110]::([[97],eW lo,itx k]++[itx hv]))):=by
 rw[show Str.ofString "span a "=sx [115,112,97,110,32,97,32] by decide +kernel,show Str.ofString " "=sx [32] from rfl,<-Wk,tos,tos,Bg,Bg,Bg,Bg,Bg];refine congrArg sx ?_;show _=[115,112,97,110]++32::([97]++32::(eW lo++32::(itx k++32::itx hv)));simp
theorem J6{c:Int}(h0:0<=c)(h1:c<=100):F30 (c:Rat):=by
 have:(1000:Nat)<10^30:=by decide
 exact⟨by rw[AUT];omega,by rw[AVf];omega⟩
theorem Hs.fine{gs ws:List Rat}(d:Hs gs ws):Dy gs ws:=⟨d.len,by have:=d.few;omega,d.pos,⟨fun q hq=>(d.bq.1 q hq).mono (by decide),fun q hq=>(d.bq.2 q hq).mono (by decide)⟩⟩
theorem Hs.spok{gs ws:List Rat}(d:Hs gs ws){hv:Nat}(h:hv<=21):AHz gs ws hv:=⟨d.fine,by omega,4,by decide,d.bq.1,d.bq.2,by have:=d.few;omega,by have:=d.few;omega⟩
theorem K5{n:Nat}{q:Rat}(h:Bq n q)(hn:n<=99):F30 q:=by
 have hz:(2:Nat)^n<=10^30:=ATG (AUu (by decide) hn) (by decide +kernel);exact⟨ATB (show q.num.natAbs<2^n from h.1) hz,ATB (show(q.den:Int).natAbs<2^n from h.2) hz⟩
theorem Hs.tj{gs ws:List Rat}(d:Hs gs ws){hv:Nat}(h:hv<=21)(i:Nat)(hi:i<=2^hv):F30 (Po.tj (Po.dsum gs ws ws.length) i hv):=by
 have bT:=Po.dsum_bq (b:=4) (by decide) d.len d.pos.1 d.pos.2 d.bq.1 d.bq.2 ws.length (Nat.le_refl _);have:=d.few;exact K5 (Po.tj_bq bT hi) (by omega)
theorem Hs.c30{gs ws:List Rat}(d:Hs gs ws):C30 gs ws:=⟨⟨d.len,by have:=d.few;omega,d.pos⟩,fun q hq=>K5 (d.bq.1 q hq) (by decide),fun q hq=>K5 (d.bq.2 q hq) (by decide)⟩
theorem NT:Nm [97]:=⟨⟨by decide,by decide⟩,by decide⟩
theorem J7(A B:Rat):Txt.split (sx (jn 32 (Av [A,B]))) (Str.ofString " ")=(Av [A,B]).map sx:=by
 rw[show Str.ofString " "=sx [32] from rfl];exact Hh (Hx _) (by simp[Av])
theorem Yq{A B:Rat}(ha:F30 A)(hb:F30 B):(jn 32 (Av [A,B])).length<=130:=by
 have h1:=By ha;have h2:=By hb;show(ftx A++32::ftx B).length<=130;rw[ASz,ASx];omega
theorem AG3{H:Hp}{D:Addr}{A B:Rat}(h:Rw H D [A,B]):∃p1 p2,H D=some (.lst [.ref p1,.ref p2])/\Pq H p1 A/\Pq H p2 B:=by
 obtain⟨ps,e,k⟩:=h;cases k with
 | cons k1 k =>
  cases k with
  | cons k2 k =>
   cases k;exact⟨_,_,e,k1,k2⟩
def RB(CD C:Addr):Sp:=fun vs H Q _=>∃(N:Nat) (d ka:Addr) (m:List Nat->Option (List Rat×List Rat)) (lo:Bool) (es:Str) (g:List Rat×List Rat) (k:Int) (hv:Nat),vs=[.ref d,.str es,.int k,.int hv]/\es=(if lo=true then Str.ofString "loose" else Str.ofString "held")/\Em CD C N H d ka m/\N<1000/\m [97]=some g/\Hs g.1 g.2/\(1<=k/\k<=(g.2.length:Int))/\hv<=20/\∀H',Am H H'->Q (.bl true) H'
theorem Bu:Al ["_law_desk","_law_end","_law_k","_law_halvings","_law_words","_law_low_here","_law_high","_law_more","_law_middle"] ["_law_desk","_law_end","_law_k","_law_halvings"] (Af CP):=fsc
theorem Lr(F:Fun K "_law_span_holds" "_law_span_holds" CP f fd)(T:Txt mg)(ak:Fg P w K mg base ai "say" 9 ["self","row"] (CT ai af))(aP:Cal P w K mg base "_law_read" 1 ["_law_text_here"] RC)(av:Cal P w K mg base "_law_counts" 10 ["_law_desk","_law_name","_law_end","_law_t"] (MF ai af))(aO:Cal P w K mg base "_law_plus" 2 ["_law_one","_law_other"] (Bw 3900 (·+·)))(aH:Cal P w K mg base "_law_times" 2 ["_law_one","_law_other"] (Bw 3900 (·*·))):BP P w K mg base CX0 11 f fd ["_law_desk","_law_end","_law_k","_law_halvings"] (RB ai af):=by
 refine F.okk Bu fun vs H Q E h=>?_;obtain⟨N,d,ka,m,lo,es,g,k,hv,rfl,rfl,dk,hN,hm,dw,hk,jm,q⟩:=h;walk_at "c";have fine:=dw.fine;have few:=dw.few;have aB:=fine.len;have hn:0<g.2.length:=by omega
 have hT:=Po.dsum_pos aB fine.pos.1 fine.pos.2 hn;obtain⟨j,hj⟩:=ABz (lo:=lo) aB fine.pos.1 fine.pos.2 hk hv;have hjl:j<2^hv:=hj.1;have fA:=dw.tj (hv:=hv) (by omega) j (by omega);have fB:=dw.tj (hv:=hv) (by omega) (j+1) (by omega);have fM:=dw.tj (hv:=hv+1) (by omega) (2*j+1) (by rw[AUU];omega);walk_at "d"
 have c7:(Str.ofString "span a ").length=7:=by decide +kernel
 have c1:(Str.ofString " ").length=1:=rfl;have l3:(if lo=true then Str.ofString "loose" else Str.ofString "held").length<=5:=by cases lo<;>decide
 have ik:=J6 (c:=k) (by omega) (by omega);have ih:=J6 (c:=(hv:Int)) (by omega) (by omega);have ih1:=J6 (c:=(hv:Int)+1) (by omega) (by omega);have tP:=By ik;have ih2:=By ih;have tQ:=By ih1;rw[Hu]at tP ih2 tQ;have g1:=ik.log.1;have g2:=ih.log.1;have g3:=ih1.log.1;rw[AUT]at g1 g2 g3;obtain⟨dx,_,e1,_⟩:=id dk;refine⟨_,(Ac (pS 4 Bu.nd (Cp ATA ATc ATd Fi (KQ ak hr (pv 0) (Aa (An BJ (An BJ (An BJ (An BJ (An BJ Ao (pv 1)) Ao) (Ba CJ rfl T.z_str boot_str (Aa (pv 2) Ab))) Ao) (Ba CJ rfl T.z_str boot_str (Aa (pv 3) Ab))) Ab)) (Aa Ao Ab)))
   (Ac (Tz (Ce (N':=["_law_word"]) (fsc:=Af CP) (N:=["_law_desk","_law_end","_law_k","_law_halvings","_law_words","_law_low_here","_law_high","_law_more","_law_middle"]) [] ⟨rfl,by decide +kernel,by decide +kernel,by decide +kernel,rfl,by decide +kernel,rfl,by decide +kernel⟩ (Bl (pv 4)) (fun _ _ _ _=>(Ai aP hr (Aa (pv 0) Ab)))) (ADl rfl (Bk (gN 5 Bu.nd) (Bk (gN 6 Bu.nd) Ga))))
   (Ac (BK (PW.pt (Dc (Ak Yh (ixT (Ai av hr (Aa (pv 0) (Aa Ao (Aa (pv 1) (Aa (pv 5) Ab))))) Ad) (pv 2) (Ar _)) (CV (Ak Fy (ixT (Ai av hr (Aa (pv 0) (Aa Ao (Aa (pv 1) (Aa (pv 6) Ab))))) Ad) (pv 2) (Ar _)))))
    (Ae (Aj GF))
    Aq)
   (Ac (pS 7 Bu.nd (Cp ATA ATc ATd Fi (KQ ak hr (pv 0) (Aa (An BJ (An BJ (An BJ (An BJ (An BJ Ao (pv 1)) Ao) (Ba CJ rfl T.z_str boot_str (Aa (pv 2) Ab))) Ao) (Ba CJ rfl T.z_str boot_str (Aa (An Bp (pv 3) Ad) Ab))) Ab)) (Aa Ao Ab)))
   (Ac (pS 8 Bu.nd (Ai aH hr (Aa (Ai aO hr (Aa (pv 5) (Aa (pv 6) Ab))) (Aa (Bb (Aa Ad (Aa Ad Ab))) Ab))))
   (Ac (BK (Ak Yh (ixT (Ai av hr (Aa (pv 0) (Aa Ao (Aa (pv 1) (Aa (pv 8) Ab))))) Ad) (pv 2) (Ar _))
    (Ae (Aj (Et (ACz hr.units) (Ce (N':=["_law_word"]) (fsc:=Af CP) (N:=["_law_desk","_law_end","_law_k","_law_halvings","_law_words","_law_low_here","_law_high","_law_more","_law_middle"]) [] ⟨rfl,by decide +kernel,by decide +kernel,by decide +kernel,rfl,by decide +kernel,rfl,by decide +kernel⟩ (Bl (pv 7)) (fun _ _ _ _=>(Ai aP hr (Aa (pv 0) Ab)))) (DQ (Aa (pv 5) (Aa (pv 8) Ab))) (Ar _))))
    Aq)
   (Ae (Aj (Et (ACz hr.units) (Ce (N':=["_law_word"]) (fsc:=Af CP) (N:=["_law_desk","_law_end","_law_k","_law_halvings","_law_words","_law_low_here","_law_high","_law_more","_law_middle"]) [] ⟨rfl,by decide +kernel,by decide +kernel,by decide +kernel,rfl,by decide +kernel,rfl,by decide +kernel⟩ (Bl (pv 7)) (fun _ _ _ _=>(Ai aP hr (Aa (pv 0) Ab)))) (DQ (Aa (pv 8) (Aa (pv 6) Ab))) (Ar _)))))))))),?_⟩
 refine⟨_,rfl,d,dx,_,rfl,e1,rfl,_,rfl,_,_,rfl,rfl,(by simp only[EY,Ay,c7,c1];omega),_,_,rfl,rfl,(by simp only[EY,Ay,c7,c1];omega),_,rfl,_,rfl,g1,_,_,rfl,rfl,(by simp only[EY,Ay,c7,c1,tos];omega),_,_,rfl,rfl,(by simp only[EY,Ay,c7,c1,tos];omega),_,rfl,_,rfl,g2,_,_,rfl,rfl,(by simp only[EY,Ay,c7,c1,tos];omega),?_⟩;rw[W0];refine Ge ?_;refine Ws (l:=[97]) (lo:=lo) (k:=k) (hv:=hv) (j:=j) dk hN ⟨NT,ik,by omega⟩ hm (dw.spok (by omega)) hk (fun i hi=>ACt aB fine.pos.1 fine.pos.2 hn hT hi hj) (fun i hi=>dw.tj (by omega) i hi) fun H1 s1=>?_;have l2:=Yq fA fB;refine⟨rfl,_,_,rfl,rfl,(by decide),by rw[Ay];omega,by rw[J7];show 2<=_;omega,fun D hD=>?_⟩;rw[J7];have u:=Ah hD (.lst (((Av [Po.tj (Po.dsum g.1 g.2 g.2.length) j hv,Po.tj (Po.dsum g.1 g.2 g.2.length) (j+1) hv]).map sx).map V.str));have eD:upd H1 D (.lst (((Av [Po.tj (Po.dsum g.1 g.2 g.2.length) j hv,Po.tj (Po.dsum g.1 g.2 g.2.length) (j+1) hv]).map sx).map V.str)) D=some (.lst (([Po.tj (Po.dsum g.1 g.2 g.2.length) j hv,Po.tj (Po.dsum g.1 g.2 g.2.length) (j+1) hv].map fun q=>sx (ftx q)).map V.str)):=Ag;generalize upd H1 D (.lst (((Av [Po.tj (Po.dsum g.1 g.2 g.2.length) j hv,Po.tj (Po.dsum g.1 g.2 g.2.length) (j+1) hv]).map sx).map V.str))=H2 at *;refine⟨_,rfl,D,rfl,⟨_,SqL.of eD⟩,Dk (by show 2<=100000;omega) (fun q=>sx (ftx q)) eD ?_ fun H3 L s3 nL rL=>?_⟩
 .walk_at "A"
  .exact fA
  (rcases AS2.mp hx with rfl|hx)
  .exact fB
  .cases hx
 obtain⟨p1,p2,eL,k1,k2⟩:=AG3 rL;refine⟨L,_,rfl,SqL.of eL,rfl,_,_,rfl,_,_,rfl,rfl,?_⟩;have di:=s1.trans (u.trans s3);refine⟨_,rfl,_,rfl,_,rfl,N,d,ka,p1,m,[97],lo,_,_,g,rfl,rfl,dk.keep di,hN,NT,hm,fine,k1,fA,fun r4 H4 s4 mD=>⟨r4,_,_,_,rfl,rfl,SqT.of mD,rfl,_,rfl,_,_,rfl,rfl,_,rfl,Cd (by have:=hj.2.1;omega) ?_⟩⟩;have gP:=di.trans s4;refine⟨_,rfl,_,rfl,_,rfl,N,d,ka,p2,m,[97],lo,_,_,g,rfl,rfl,dk.keep gP,hN,NT,hm,fine,k2.keep s4,fB,fun r5 H5 s5 kb=>⟨r5,_,_,_,rfl,rfl,SqT.of kb,rfl,_,rfl,_,_,rfl,rfl,_,rfl,Cd (by have:=hj.2.2;omega) ?_⟩⟩;have mE:=gP.trans s5;have tR:=k1.keep (s4.trans s5);have tT:=k2.keep (s4.trans s5);have mid:(Po.tj (Po.dsum g.1 g.2 g.2.length) j hv+Po.tj (Po.dsum g.1 g.2 g.2.length) (j+1) hv)*(1/2)=Po.tj (Po.dsum g.1 g.2 g.2.length) (2*j+1) (hv+1):=Po.tj_mid _ _ _;obtain⟨j',hj',hcase⟩:∃j',SpJ g.1 g.2 lo k (hv+1) j'/\((k<=cU g.1 g.2 lo (Po.tj (Po.dsum g.1 g.2 g.2.length) (2*j+1) (hv+1))/\Po.tj (Po.dsum g.1 g.2 g.2.length) j' (hv+1)=Po.tj (Po.dsum g.1 g.2 g.2.length) j hv/\Po.tj (Po.dsum g.1 g.2 g.2.length) (j'+1) (hv+1)=Po.tj (Po.dsum g.1 g.2 g.2.length) (2*j+1) (hv+1))\/(¬k<=cU g.1 g.2 lo (Po.tj (Po.dsum g.1 g.2 g.2.length) (2*j+1) (hv+1))/\Po.tj (Po.dsum g.1 g.2 g.2.length) j' (hv+1)=Po.tj (Po.dsum g.1 g.2 g.2.length) (2*j+1) (hv+1)/\Po.tj (Po.dsum g.1 g.2 g.2.length) (j'+1) (hv+1)=Po.tj (Po.dsum g.1 g.2 g.2.length) (j+1) hv)):=by
  by_cases c:k<=cU g.1 g.2 lo (Po.tj (Po.dsum g.1 g.2 g.2.length) (2*j+1) (hv+1))
  .exact⟨2*j,⟨by rw[AUU];omega,by rw[Po.tj_two];exact hj.2.1,c⟩,.inl ⟨c,Po.tj_two _ _ _,rfl⟩⟩
  .have e:Po.tj (Po.dsum g.1 g.2 g.2.length) (2*j+1+1) (hv+1)=Po.tj (Po.dsum g.1 g.2 g.2.length) (j+1) hv:=by rw[show 2*j+1+1=2*(j+1) by omega,Po.tj_two]
   exact⟨2*j+1,⟨by rw[AUU];omega,by omega,by rw[e];exact hj.2.2⟩,.inr ⟨c,rfl,e⟩⟩
 have tU:j'<2^(hv+1):=hj'.1;have fX:=dw.tj (hv:=hv+1) (by omega) j' (by omega);have fY:=dw.tj (hv:=hv+1) (by omega) (j'+1) (by omega);have tV:=mE _ _ e1;have ec:(hv:Int)+1=((hv+1:Nat):Int):=rfl;refine⟨_,rfl,d,dx,_,rfl,tV,rfl,_,rfl,_,_,rfl,rfl,(by simp only[EY,Ay,c7,c1];omega),_,_,rfl,rfl,(by simp only[EY,Ay,c7,c1];omega),_,rfl,_,rfl,g1,_,_,rfl,rfl,(by simp only[EY,Ay,c7,c1,tos];omega),_,_,rfl,rfl,(by simp only[EY,Ay,c7,c1,tos];omega),_,rfl,_,_,rfl,rfl,_,rfl,g3,_,_,rfl,rfl,(by simp only[EY,Ay,c7,c1,tos];omega),?_⟩;rw[W0,ec];refine Ge ?_;refine Ws (l:=[97]) (lo:=lo) (k:=k) (hv:=hv+1) (j:=j') (dk.keep mE) hN ⟨NT,ik,by omega⟩ hm (dw.spok (by omega)) hk (fun i hi=>ACt aB fine.pos.1 fine.pos.2 hn hT hi hj') (fun i hi=>dw.tj (by omega) i hi) fun H6 s6=>?_;have l6:=Yq fX fY;generalize Po.tj (Po.dsum g.1 g.2 g.2.length) j' (hv+1)=X at *;generalize Po.tj (Po.dsum g.1 g.2 g.2.length) (j'+1) (hv+1)=Y at *;generalize Po.tj (Po.dsum g.1 g.2 g.2.length) (2*j+1) (hv+1)=M at *;generalize Po.tj (Po.dsum g.1 g.2 g.2.length) j hv=A0 at *;generalize Po.tj (Po.dsum g.1 g.2 g.2.length) (j+1) hv=B0 at *;refine⟨rfl,_,_,rfl,rfl,(by decide),by rw[Ay];omega,by rw[J7];show 2<=_;omega,fun D2 hD2=>?_⟩;rw[J7];have u6:=Ah hD2 (.lst (((Av [X,Y]).map sx).map V.str));have tW:upd H6 D2 (.lst (((Av [X,Y]).map sx).map V.str)) D2=some (.lst (([X,Y].map fun q=>sx (ftx q)).map V.str)):=Ag;generalize upd H6 D2 (.lst (((Av [X,Y]).map sx).map V.str))=H7 at *;have pO:=tR.keep (s6.trans u6);have pP:=tT.keep (s6.trans u6);refine⟨_,rfl,_,rfl,p1,p2,_,_,rfl,pO,pP,fA.bt.mono (by decide),fB.bt.mono (by decide),fun r8 H8 s8 k8=>⟨(by show 2<=sizeLine;decide),fun z hz'=>?_⟩⟩;have u8:=Ah hz' (.tup [.int 1,.int 2]);have kz:Pq (upd H8 z (.tup [.int 1,.int 2])) z (1/2):=Pq.of Pr.new ⟨by decide +kernel,by decide +kernel⟩;refine⟨r8,z,_,_,rfl,k8.keep u8,kz,(fA.bt.add fB.bt).mono (by decide),⟨bt2 (by decide +kernel),bt2 (by decide +kernel)⟩,fun r9 H9 s9 k9=>?_⟩;replace k9:Pq H9 r9 M:=mid ▸ k9;have kf:=s8.trans (u8.trans s9);have mF:=mE.trans (s6.trans (u6.trans kf));have lY:=pO.keep kf;have lZ:=pP.keep kf;have kj:=kf _ _ tW;refine⟨_,rfl,_,rfl,_,rfl,N,d,ka,r9,m,[97],lo,_,M,g,rfl,rfl,dk.keep mF,hN,NT,hm,fine,k9,fM,fun rc Hc sc ou=>⟨rc,_,_,_,rfl,rfl,SqT.of ou,rfl,_,rfl,_,_,rfl,rfl,_,rfl,?_⟩⟩;have dd:∀qs:List Rat,(dr qs).depth<=60:=fun qs=>ATG (ABe _) (by decide);rcases hcase with⟨c,rfl,rfl⟩|⟨c,rfl,rfl⟩
 .refine Oo c ?_;refine⟨_,rfl,D2,rfl,⟨_,SqL.of (sc _ _ kj)⟩,Dk (by show 2<=100000;omega) (fun q=>sx (ftx q)) (sc _ _ kj) ?_ fun He Le se tX mG=>?_⟩
  .walk_at "A"
   .exact fX
   (rcases AS2.mp hx with rfl|hx)
   .exact fY
   .cases hx
  refine⟨_,rfl,_,rfl,(by show 2<=sizeLine;decide),fun q1 hq1=>?_⟩;have uq:=Ah hq1 (.lst [.ref p1,.ref r9]);have rq:Rw (upd He q1 (.lst [.ref p1,.ref r9])) q1 [X,Y]:=⟨[p1,r9],Ag,.cons ((lY.keep (sc.trans se)).keep uq) (.cons ((k9.keep (sc.trans se)).keep uq) .nil)⟩;(refine⟨_,_,(mG.keep uq).dv,rq.dv,dd _,?_⟩;rw[N8];exact q _ (mF.trans (sc.trans (se.trans uq))))
 .refine Cd c ?_;refine⟨_,rfl,D2,rfl,⟨_,SqL.of (sc _ _ kj)⟩,Dk (by show 2<=100000;omega) (fun q=>sx (ftx q)) (sc _ _ kj) ?_ fun He Le se tX mG=>?_⟩
  .walk_at "A"
   .exact fX
   (rcases AS2.mp hx with rfl|hx)
   .exact fY
   .cases hx
  refine⟨_,rfl,_,rfl,(by show 2<=sizeLine;decide),fun q1 hq1=>?_⟩;have uq:=Ah hq1 (.lst [.ref r9,.ref p2]);have rq:Rw (upd He q1 (.lst [.ref r9,.ref p2])) q1 [X,Y]:=⟨[r9,p2],Ag,.cons ((k9.keep (sc.trans se)).keep uq) (.cons ((lZ.keep (sc.trans se)).keep uq) .nil)⟩;(refine⟨_,_,(mG.keep uq).dv,rq.dv,dd _,?_⟩;rw[N8];exact q _ (mF.trans (sc.trans (se.trans uq))))
theorem Sk.of{ka:Addr}{H H':Hp}{kv:List (Key×V)}(s:Sk ka H H')(e:H ka=some (.dK kv)){a:Addr}{o:HO}(h:H a=some o)(n:∀k,o≠.dK k):H' a=some o:=s a o (fun z=>by rw[z,e]at h;exact n _ (AS5 h).symm) h
theorem AK2{ka:Addr}{H H':Hp}{kv:List (Key×V)}(s:Sk ka H H')(e:H ka=some (.dK kv)){ps:List Addr}{qs:List Rat}(k:Pqs H ps qs):Pqs H' ps qs:=by
 induction k with
 | nil=>exact .nil
 | cons x _ ih=>exact .cons (s.of e x fun k z=>(nomatch z)) ih
theorem Ey{ka:Addr}{H H':Hp}{kv:List (Key×V)}(s:Sk ka H H')(e:H ka=some (.dK kv)){a:Addr}{qs:List Rat}(h:Rw H a qs):Rw H' a qs:=by
 obtain⟨ps,ea,k⟩:=h;exact⟨ps,s.of e ea fun k z=>(nomatch z),AK2 s e k⟩
theorem Sk.trans{ka:Addr}{A B C:Hp}(h:Sk ka A B)(k:Sk ka B C):Sk ka A C:=fun b o n e=>k b o n (h b o n e)
theorem Sk.same{ka:Addr}{A B:Hp}(h:Am A B):Sk ka A B:=fun b o _ e=>h b o e
noncomputable def Jw(hv:Bool)(g:List Rat×List Rat)(k:Nat)(x:Rat):List Rat×List Rat:=if hv then(g.1,mor g.2 (k-1) x) else(mor g.1 k x,g.2)
theorem AIj{hv:Bool}{g:List Rat×List Rat}{k:Nat}{x:Rat}(d:Hs g.1 g.2)(h1:hv=true->1<=k)(h2:k<=g.2.length)(hx:0<x)(bx:Bq 5 x):Dy (Jw hv g k x).1 (Jw hv g k x).2/\(Jw hv g k x).2.length=g.2.length/\∀lo t,BV (Bx g.1 g.2 lo t)<=BV (Bx (Jw hv g k x).1 (Jw hv g k x).2 lo t):=by
 have len:=d.len;have few:=d.few;cases hv
 .have hk:k<g.1.length:=by omega
  have lm:=Gu x hk;have pm:∀q∈mor g.1 k x,0<q:=KC d.pos.1 (by
   rw[Po.getD_in hk];have:=d.pos.1 _ (List.getElem_mem hk);grind)
  have bm:∀q∈mor g.1 k x,Bq 101 q:=KC (fun q hq=>(d.bq.1 q hq).mono (by decide)) (by
   rw[Po.getD_in hk];exact((d.bq.1 _ (List.getElem_mem hk)).add bx).mono (by decide))
  exact⟨⟨by show(mor g.1 k x).length=g.2.length+1;omega,by show g.2.length<=12;omega,⟨pm,d.pos.2⟩,⟨bm,fun q hq=>(d.bq.2 q hq).mono (by decide)⟩⟩,rfl,fun lo t=>P0 lo len (by show(mor g.1 k x).length=g.2.length+1;omega) lm d.pos.1 d.pos.2 pm (fun i=>Ob (Rat.le_of_lt hx) hk i) fun i=>AUN⟩
 .have hk:k-1<g.2.length:=by
   have:=h1 rfl;omega
  have lm:=Gu x hk;have pm:∀q∈mor g.2 (k-1) x,0<q:=KC d.pos.2 (by
   rw[Po.getD_in hk];have:=d.pos.2 _ (List.getElem_mem hk);grind)
  have bm:∀q∈mor g.2 (k-1) x,Bq 101 q:=KC (fun q hq=>(d.bq.2 q hq).mono (by decide)) (by
   rw[Po.getD_in hk];exact((d.bq.2 _ (List.getElem_mem hk)).add bx).mono (by decide))
  exact⟨⟨by show g.1.length=(mor g.2 (k-1) x).length+1;omega,by show(mor g.2 (k-1) x).length<=12;omega,⟨d.pos.1,pm⟩,⟨fun q hq=>(d.bq.1 q hq).mono (by decide),bm⟩⟩,lm,fun lo t=>P0 lo len (by show g.1.length=(mor g.2 (k-1) x).length+1;omega) rfl d.pos.1 d.pos.2 d.pos.1 (fun i=>AUN) fun i=>Ob (Rat.le_of_lt hx) hk i⟩
theorem ADS(k:Int)(x:Rat):Str.ofString "longer d a "++Str.ofString (toString k)++Str.ofString " "++sx (ftx x)=sx (jn 32 ([108,111,110,103,101,114]::([[100],[97],itx k]++[ftx x]))):=by
 rw[show Str.ofString "longer d a "=sx [108,111,110,103,101,114,32,100,32,97,32] by decide +kernel,show Str.ofString " "=sx [32] from rfl,tos,Bg,Bg,Bg];refine congrArg sx ?_;show _=[108,111,110,103,101,114]++32::([100]++32::([97]++32::(itx k++32::ftx x)));simp
theorem Zq(k:Int)(x:Rat):Str.ofString "heavier d a "++Str.ofString (toString k)++Str.ofString " "++sx (ftx x)=sx (jn 32 ([104,101,97,118,105,101,114]::([[100],[97],itx k]++[ftx x]))):=by
 rw[show Str.ofString "heavier d a "=sx [104,101,97,118,105,101,114,32,100,32,97,32] by decide +kernel,show Str.ofString " "=sx [32] from rfl,tos,Bg,Bg,Bg];refine congrArg sx ?_;show _=[104,101,97,118,105,101,114]++32::([100]++32::([97]++32::(itx k++32::ftx x)));simp
theorem AGd:Nm [100]:=⟨⟨by decide,by decide⟩,by decide⟩
def UT(CD C:Addr):Sp:=fun vs H Q _=>∃(N:Nat) (d ka r ga wa nb:Addr) (m:List Nat->Option (List Rat×List Rat)) (g:List Rat×List Rat) (ts:List Rat) (c:Int),vs=[.ref d,.ref r,.int c,.ref nb]/\Em CD C N H d ka m/\N<900/\m [97]=some g/\Hs g.1 g.2/\H r=some (.tup [.ref ga,.ref wa])/\Rw H wa g.2/\Rw H nb ts/\(∀t∈ts,F30 t)/\∀m' H',Sk ka H H'->Em CD C (N+1) H' d ka m'->m' [97]=some g->Q (.bl true) H'
theorem CW:Al ["_law_desk","_law_cord","_law_cell","_law_numbers","_law_beads","_law_more","_law_row","_law_end","_law_t"] ["_law_desk","_law_cord","_law_cell","_law_numbers"] (Af Hd):=fsc
theorem Q4(F:Fun K "_law_changed" "_law_changed" Hd f fd)(T:Txt mg)(ak:Fg P w K mg base ai "say" 9 ["self","row"] (CT ai af))(aw:Cal P w K mg base "_law_low" 1 ["_law_top","_law_bottom"] Ht)(aJ:Cal P w K mg base "_law_text" 1 ["_law_one"] Fb)(aW:Cal P w K mg base "_law_parted" 11 ["_law_desk","_law_name","_law_many","_law_numbers"] (Ie ai af))(av:Cal P w K mg base "_law_counts" 10 ["_law_desk","_law_name","_law_end","_law_t"] (MF ai af)):BP P w K mg base CX0 12 f fd ["_law_desk","_law_cord","_law_cell","_law_numbers"] (UT ai af):=by
 refine F.okk CW fun vs H Q E h=>?_;obtain⟨N,d,ka,r,ga,wa,nb,m,g,ts,c,rfl,dk,hN,hm,dw,er,cP,rn,dL,q⟩:=h;refine⟨rfl,fun cdv A outer s hr=>?_⟩;have fine:=dw.fine;have few:=dw.few;refine⟨_,(Ac (pS 4 CW.nd (Ax Aw rfl T.z_len AS6 (Aa (ixT (pv 1) Ad) Ab)))
   (Ac (pS 5 CW.nd (Ai aJ hr (Aa (Ai aw hr (Aa (An Bp Ad (An Dd (An CZ (pv 2) Ad) Ad)) (Aa (An Bp Ad (An Dd (An CZ (pv 2) Ad) Ad)) Ab))) Ab)))
   (Ac (pS 6 CW.nd (An BJ (An BJ (An BJ Ao (Ba CJ rfl T.z_str boot_str (Aa (An Dd (An CZ (pv 2) Ad) (An Bp (pv 4) Ad)) Ab))) Ao) (pv 5)))
   (Ac (Nt (BK (PW.pt (ACk (Ak Be (An Dd (pv 2) Ad) Ad (Ar _)) (Zb (Ak Gp (pv 4) Ad (Ar _)))))
    (Ae (pS 6 CW.nd (An BJ (An BJ (An BJ Ao (Ba CJ rfl T.z_str boot_str (Aa (An Bp Ad (An Dd (An CZ (pv 2) Ad) (pv 4))) Ab))) Ao) (pv 5))))
    Aq))
   (Ac (Nt (BK (PW.pt (Dc (Ak GD (KQ ak hr (pv 0) (Aa (pv 6) Ab)) Ao (Ar _)) (CV (Ck (Cj (Ai aW hr (Aa (pv 0) (Aa Ao (Aa (pv 4) (Aa (pv 3) Ab))))))))))
    (Ae (Aj GF))
    Aq))
   (Ac (Do ATI rfl (Bl (DQ (Aa Ao (Aa Ao Ab)))) (gN 7 CW.nd)
    (Ae (Do ATI rfl (Bl (pv 3)) (gN 8 CW.nd)
     (Ae (BK (Ak Fy (ixT (Ai av hr (Aa (pv 0) (Aa Ao (Aa (pv 7) (Aa (pv 8) Ab))))) Ad) (ixT (Ai av hr (Aa (pv 0) (Aa Ao (Aa (pv 7) (Aa (pv 8) Ab))))) Ad) (Ar _))
      (Ae (Aj GF))
      Aq)))))
   (Ae (Aj GF)))))))),?_⟩
 obtain⟨pw,ew,kw⟩:=id cP;have lw:=kw.length;obtain⟨pn,en,kn⟩:=id rn;have ln:=kn.length;walk_at "d"
 refine⟨_,rfl,r,_,_,_,rfl,rfl,SqT.of er,rfl,wa,_,rfl,.inl (SqL.of ew),?_⟩;rw[show((pw.map V.ref).length:Int)=(g.2.length:Int) by rw[ASt,lw]];have a1:=ATV (c/8) (show(30:Int)≠0 by decide);have a2:=ATJ (c/8) (show(0:Int)<30 by decide);have b1:=ATV (c/240) (show(12:Int)≠0 by decide);have b2:=ATJ (c/240) (show(0:Int)<12 by decide);have hxp:0<((1+c/8%30:Int):Rat)/((1+c/240%12:Int):Rat):=Yy (by omega) (by omega);have bx:Bq 5 (((1+c/8%30:Int):Rat)/((1+c/240%12:Int):Rat)):=Jc (show(1+c/240%12:Int)≠0 by omega) rfl (Bt.between (by omega) (by omega)) (Bt.between (by omega) (by omega));refine⟨_,rfl,_,_,rfl,rfl,⟨by decide,Bt.between (by decide +kernel) (by decide +kernel)⟩,_,_,rfl,rfl,(show(0:Int)<30 by decide),_,_,rfl,rfl,_,rfl,_,_,rfl,rfl,⟨by decide,Bt.between (by decide +kernel) (by decide +kernel)⟩,_,_,rfl,rfl,(show(0:Int)<12 by decide),_,_,rfl,rfl,_,_,rfl,by omega,(show Bt 6 (1+c/240%12) from Bt.between (by omega) (by omega)).mono (by decide),fun px H1 s1 kx=>?_⟩;generalize ((1+c/8%30:Int):Rat)/((1+c/240%12:Int):Rat)=x at *;have fx:=K5 bx (by decide);have lx:=By fx;refine⟨px,x,rfl,kx,fx,?_⟩;have mH:(Str.ofString "longer d a ").length=11:=by decide +kernel
 have c12:(Str.ofString "heavier d a ").length=12:=by decide +kernel
 have c1:(Str.ofString " ").length=1:=rfl;have d1:=ATV (c/2) (show((g.2.length:Int)+1)≠0 by omega);have d2:=ATJ (c/2) (show(0:Int)<(g.2.length:Int)+1 by omega);obtain⟨kl,hkl⟩:∃kl:Nat,c/2%((g.2.length:Int)+1)=(kl:Int):=⟨(c/2%((g.2.length:Int)+1)).toNat,by omega⟩;have fk:=J6 (c:=c/2%((g.2.length:Int)+1)) d1 (by omega);have lk:=By fk;rw[Hu]at lk;have gk:=fk.log.1;rw[AUT]at gk;refine⟨_,rfl,_,_,rfl,rfl,⟨by decide,Bt.between (by decide +kernel) (by decide +kernel)⟩,_,rfl,_,_,rfl,rfl,_,_,rfl,rfl,(show(0:Int)<(g.2.length:Int)+1 by omega),_,rfl,gk,_,_,rfl,rfl,(by simp only[EY,Ay,mH,c1,tos];omega),_,_,rfl,rfl,(by simp only[EY,Ay,mH,c1,tos];omega),_,rfl,_,_,rfl,rfl,(by simp only[EY,Ay,mH,c1,tos];omega),?_⟩;rw[ADS,hkl];refine⟨fun zd H'=>H1=H'/\∃(hv:Bool) (k:Nat),(hv=true->1<=k)/\k<=g.2.length/\zd=[some (.ref d),some (.ref r),some (.int c),some (.ref nb),some (.int g.2.length),some (.str (sx (ftx x))),some (.str (sx (Sy.more hv [100] [97] k x).row)),none,none],?tl,?hd⟩
 case hd =>
  refine⟨_,rfl,_,_,rfl,rfl,(show(0:Int)<2 by decide),rfl,_,rfl,?_⟩;by_cases h1:c%2=1
  .refine Oo (congrArg V.int h1) ?_;(refine⟨_,rfl,_,_,rfl,rfl,_,rfl,?_⟩);by_cases h2:(0:Int)<(g.2.length:Int)
   .refine Oo h2 ?_;have e1:=ATV (c/2) (show(g.2.length:Int)≠0 by omega);have e2:=ATJ (c/2) h2;obtain⟨kh,tY⟩:∃kh:Nat,1+c/2%(g.2.length:Int)=(kh:Int):=⟨(1+c/2%(g.2.length:Int)).toNat,by omega⟩;have fh:=J6 (c:=1+c/2%(g.2.length:Int)) (by omega) (by omega);have lh:=By fh;rw[Hu]at lh;have gh:=fh.log.1;rw[AUT]at gh;refine⟨_,rfl,_,_,rfl,rfl,⟨by decide,Bt.between (by decide +kernel) (by decide +kernel)⟩,_,rfl,_,_,rfl,rfl,h2,_,_,rfl,rfl,_,rfl,gh,_,_,rfl,rfl,(by simp only[EY,Ay,c12,c1,tos];omega),_,_,rfl,rfl,(by simp only[EY,Ay,c12,c1,tos];omega),_,rfl,_,_,rfl,rfl,(by simp only[EY,Ay,c12,c1,tos];omega),?_⟩;rw[Zq,tY];exact⟨rfl,true,kh,fun _=>by omega,by omega,rfl⟩
   .exact Cd h2 ⟨rfl,false,kl,fun z=>(nomatch z),by omega,rfl⟩
  .exact Cd (fun z=>h1 (V.int.inj z)) (FZ ⟨rfl,false,kl,fun z=>(nomatch z),by omega,rfl⟩)
 rintro _ _ ⟨rfl,hv,k,hk1,hk2,rfl⟩;obtain⟨ff,hl2,mono⟩:=AIj dw hk1 hk2 hxp bx;have iO:=dk.keep s1;obtain⟨dx,kv,ed,ek,_⟩:=id iO;have tZ:=J6 (c:=(k:Int)) (by omega) (by omega);have pQ:=rn.keep s1;have m1:Jd m [100] (some (Jw hv g k x)) [97]=some g:=by
  unfold Jd;rw[if_neg (by decide)];exact hm
 have m2:Jd m [100] (some (Jw hv g k x)) [100]=some (Jw hv g k x):=by
  unfold Jd;rw[if_pos rfl]
 refine⟨fun zd H'=>zd=[some (.ref d),some (.ref r),some (.int c),some (.ref nb),some (.int g.2.length),some (.str (sx (ftx x))),some (.str (sx (Sy.more hv [100] [97] k x).row)),none,none]/\Sk ka H1 H'/\Em ai af (N+1) H' d ka (Jd m [100] (some (Jw hv g k x))),?tl2,?hd2⟩
 case hd2 =>
  refine⟨_,rfl,d,dx,_,rfl,ed,rfl,_,rfl,?_⟩;refine Ge ?_;refine ACM (hv:=hv) (n:=[100]) (o:=[97]) (k:=k) (x:=x) iO (by omega) ⟨AGd,NT,tZ,fx⟩ hm fine hk1 hk2 hxp (bx.mono (by decide)) fun H2 sk iP=>?_;have mI:=Ey sk ek pQ;refine⟨rfl,_,rfl,Fx rfl ?_⟩;refine⟨_,rfl,_,rfl,_,rfl,N+1,d,ka,nb,_,[100],Jw hv g k x,ts,by rw[hl2];rfl,iP,by omega,AGd,m2,ff,mI,dL,fun H3 s3=>⟨_,rfl,QQ rfl ⟨rfl,sk.trans (Sk.same s3),iP.keep s3⟩⟩⟩
 rintro _ H2 ⟨rfl,sk,iP⟩;have mI:=Ey sk ek pQ;obtain⟨t7,t8,pR⟩:=id mI;have ln2:=pR.length;refine⟨(by show 2<=sizeLine;decide),fun L hL=>?_⟩;have uL:=Ah hL (.lst [.str (Str.ofString "held"),.str (Str.ofString "loose")]);have eL:upd H2 L (.lst [.str (Str.ofString "held"),.str (Str.ofString "loose")]) L=some (.lst [.str (Str.ofString "held"),.str (Str.ofString "loose")]):=Ag;generalize upd H2 L (.lst [.str (Str.ofString "held"),.str (Str.ofString "loose")])=H3 at *;refine⟨L,rfl,⟨_,SqL.of eL⟩,?_⟩;refine Hg (xs:=[.str (Str.ofString "held"),.str (Str.ofString "loose")]) (fun i σ H'=>Am H3 H'/\∃v1 v2,σ=[some (.ref d),some (.ref r),some (.int c),some (.ref nb),some (.int g.2.length),some (.str (sx (ftx x))),some (.str (sx (Sy.more hv [100] [97] k x).row)),v1,v2]) ⟨Am.refl _,_,_,rfl⟩ ?_ ?_ ?_
 .rintro i σ H' _ ⟨sm,_⟩;exact SqL.of (sm _ _ eL)
 .rintro i y σ H4 hy ⟨sm,v1,v2,rfl⟩;obtain⟨lo,rfl⟩:∃lo:Bool,y=.str (if lo=true then Str.ofString "loose" else Str.ofString "held"):=by
   match i,hy with
   | 0,hy=>exact⟨false,(AS5 hy).symm.trans (by rw[if_neg (by decide)])⟩
   | 1,hy=>exact⟨true,(AS5 hy).symm.trans (by rw[if_pos rfl])⟩
  have hV:=uL.trans sm;have pU:=hV _ _ t8;refine⟨_,rfl,nb,rfl,⟨_,SqL.of pU⟩,?_⟩;refine Hg (xs:=t7.map V.ref) (fun i σ H'=>Am H4 H'/\∃v2,σ=[some (.ref d),some (.ref r),some (.int c),some (.ref nb),some (.int g.2.length),some (.str (sx (ftx x))),some (.str (sx (Sy.more hv [100] [97] k x).row)),some (.str (if lo=true then Str.ofString "loose" else Str.ofString "held")),v2]) ⟨Am.refl _,_,rfl⟩ ?_ ?_ ?_
  .rintro i' σ H' _ ⟨sm',_⟩;exact SqL.of (sm' _ _ pU)
  .rintro i' z σ H5 hz' ⟨sm',t9,rfl⟩;have hi:i'<ts.length:=by
    have h:=(AS7.mp hz').1;rw[ASt]at h;omega
   obtain⟨p1,e1,k1⟩:=pR.get (Io hi);obtain rfl:z=.ref p1:=AS5 (hz'.symm.trans e1);have ft:=dL _ (List.getElem_mem hi);generalize ts[i']=t at *;have mo:=mono lo t;have fV:=hV.trans sm';refine⟨_,rfl,_,rfl,_,rfl,N+1,d,ka,p1,_,[100],lo,_,t,Jw hv g k x,rfl,rfl,iP.keep fV,by omega,AGd,m2,ff,k1.keep fV,ft,fun r6 H6 s6 ua=>?_⟩;refine⟨r6,_,_,_,rfl,rfl,SqT.of ua,rfl,_,rfl,_,rfl,_,rfl,N+1,d,ka,p1,_,[97],lo,_,t,g,rfl,rfl,iP.keep (fV.trans s6),by omega,NT,m1,fine,k1.keep (fV.trans s6),ft,fun r7 H7 s7 ub=>?_⟩;exact⟨r7,_,_,_,rfl,rfl,SqT.of ub,rfl,_,_,rfl,rfl,_,rfl,Cd (by omega) ⟨sm'.trans (s6.trans s7),_,rfl⟩⟩
  .rintro σ H5 ⟨sm',t9,rfl⟩;exact⟨sm.trans sm',_,_,rfl⟩
 .rintro σ H4 ⟨sm,v1,v2,rfl⟩;exact q _ H4 ((Sk.same s1).trans (sk.trans (Sk.same (uL.trans sm)))) (iP.keep (uL.trans sm)) m1
theorem YF{ps:List Addr}{y:Addr}(h:(ps.map V.ref)[ps.length-1]?=some (.ref y)):atI (ps.map V.ref) (-1)=some (.ref y):=by
 rcases AVJ ps with rfl|⟨L,z,rfl⟩
 .simp at h
 .have e:z=y:=by simpa using h
  rw[AVK,AS0,e];exact Qm _ _
theorem ABT:∀{H:Hp} {ps:List Addr} {qs:List (Rat×Rat)} {i:Nat} {q:Rat×Rat},Tqs H ps qs->qs[i]?=some q->∃p,(ps.map V.ref)[i]?=some (.ref p)/\Tq H p q
 | _,_,_,0,_,.cons h _,e=>by cases e;exact⟨_,rfl,h⟩
 | _,_,_,_+1,_,.cons _ r,e=>by
  rw[ATz]at e;obtain⟨p,h1,h2⟩:=ABT r e;exact⟨p,by rw[List.map_cons,ATz];exact h1,h2⟩
theorem AAx{H:Hp}{r:Addr}{gs ws:List Rat}{t:Rat}(hl:gs.length=ws.length+1)(h:Rp H r (Po.walkQ gs ws t 0 1)):∃(ps:List Addr) (y a b:Addr),H r=some (.lst (ps.map V.ref))/\atI (ps.map V.ref) (-1)=some (.ref y)/\H y=some (.tup [.ref a,.ref b])/\Pq H a (Po.stp gs ws t 0 1 ws.length).1/\Pq H b (Po.stp gs ws t 0 1 ws.length).2:=by
 obtain⟨ps,e,k⟩:=h;have lk:ps.length=(Po.walkQ gs ws t 0 1).length:=AT8 k;have lw:(Po.walkQ gs ws t 0 1).length=ws.length+1:=by
  unfold Po.walkQ;rw[ASt,ATn,hl]
 have ex:(Po.walkQ gs ws t 0 1)[ws.length]?=some (Po.stp gs ws t 0 1 ws.length):=by
  unfold Po.walkQ;rw[AS4,AVY (by omega)];rfl
 obtain⟨y,e1,a,b,e2,k1,k2⟩:=ABT k ex;refine⟨ps,y,a,b,e,YF ?_,e2,k1,k2⟩;rw[show ps.length-1=ws.length by omega];exact e1
theorem Hs.drw{gs ws:List Rat}(d:Hs gs ws):Drw 4 gs ws:=⟨d.len,by have:=d.few;omega,d.pos.1,d.pos.2,by decide,d.bq.1,d.bq.2,by have:=d.few;omega,by decide⟩
theorem Hs.sized{gs ws:List Rat}(d:Hs gs ws):R9 gs ws:=⟨d.len,by have:=d.few;omega,4,by decide,d.bq.1,d.bq.2,by have:=d.few;omega⟩
theorem Hs.eq{gs ws:List Rat}(d:Hs gs ws)(lo:Bool):(eQ lo gs ws).length=ws.length+1/\Po.strip (eQ lo gs ws)=eQ lo gs ws/\(∀q∈eQ lo gs ws,Bq 50 q)/\∀t,Po.ev (eQ lo gs ws) t=if lo then(Po.stp gs ws t 0 1 ws.length).2 else(Po.stp gs ws t 0 1 ws.length).1:=by
 have few:=d.few;obtain⟨M,o⟩:=Po.pst_o2 (h0:=[]) (l0:=[1]) (b:=4) (by decide) d.bq.1 d.bq.2 (by simp) (by simp) ws.length;cases lo
 .refine⟨Po.hd_len d.pos.1 d.pos.2 d.len (Nat.le_refl _),Po.pst_strip1 _ _ _ _ _,fun q h=>((o.oh q h).bq o.ne o.bm).mono (by omega),fun t=>?_⟩;have e:=(Po.ev_pst gs ws [] [1] t ws.length).1;rw[Po.ev_one,Po.ev_nil]at e;exact e
 .refine⟨Po.ls_len d.pos.1 d.pos.2 d.len (Nat.le_refl _),Po.pst_strip2 _ _ _ _ Po.strip_one _,fun q h=>((o.ol q h).bq o.ne o.bm).mono (by omega),fun t=>?_⟩;have e:=(Po.ev_pst gs ws [] [1] t ws.length).2;rw[Po.ev_one,Po.ev_nil]at e;exact e
theorem AK8:Str.ofString "poly a held"=sx (Sy.poly [97] false).row:=by decide +kernel
theorem AKY:Str.ofString "poly a loose"=sx (Sy.poly [97] true).row:=by decide +kernel
theorem AKp:Str.ofString "show b"=sx (Sy.shw [98]).row:=by decide +kernel
theorem AGo:Str.ofString "show c"=sx (Sy.shw [99]).row:=by decide +kernel
theorem ACq:Str.ofString "show a"=sx (Sy.shw [97]).row:=by decide +kernel
theorem AI6:Str.ofString "turn b b"=sx (Sy.turn [98] [98]).row:=by decide +kernel
theorem AIh:Str.ofString "turn c b"=sx (Sy.turn [99] [98]).row:=by decide +kernel
theorem ABh:Nm [98]:=⟨⟨by decide,by decide⟩,by decide⟩
theorem AOn:Nm [99]:=⟨⟨by decide,by decide⟩,by decide⟩
theorem ACH{U L:List Rat}(hu:U≠[])(hl:L≠[]):Str.ofString "find b "++sx (jn 32 (Av U))++Str.ofString " ; "++sx (jn 32 (Av L))=sx (Sy.find [98] U L).row:=by
 rw[show Str.ofString "find b "=sx [102,105,110,100,32,98,32] by decide +kernel,show Str.ofString " ; "=sx [32,59,32] by decide +kernel,Bg,Bg,Bg];refine congrArg sx ?_;show _=jn 32 ([102,105,110,100]::([[98]]++(Av U++([[59]]++Av L))));rw[show([102,105,110,100]:List Nat)::([[98]]++(Av U++([[59]]++Av L)))=[[102,105,110,100],[98]]++(Av U++([[59]]++Av L)) from rfl,Q8 32 (by simp) (by simp),ACP hu hl];show _=([102,105,110,100]++32::[98])++32::(jn 32 (Av U)++32::59::32::jn 32 (Av L));simp
theorem G7{qs:List Rat}(h:qs≠[]):Txt.split (sx (jn 32 (Av qs))) (Str.ofString " ")=(Av qs).map sx:=by
 rw[show Str.ofString " "=sx [32] from rfl];exact Hh (Hx _) (Qv h)
theorem ABR{gs ws:List Rat}:Str.ofString "cord a "++sx (jn 32 (Bo gs ws))=sx (Sy.cord [97] gs ws).row:=by
 rw[show Str.ofString "cord a "=sx [99,111,114,100,32,97,32] by decide +kernel,Bg];refine congrArg sx ?_;show _=jn 32 ([[99,111,114,100],[97]]++Bo gs ws);rw[Q8 32 (by simp) (by unfold Bo;simp)];rfl
theorem Dl{v:V}{σ:L2.St}{H:Hp}{Q:List V->Hp->Prop}(h:Q [v] H):AEx (tC v) YG σ H Q:=h
theorem ACW{qs:List Rat}(h5:qs.length<=5)(f:∀q∈qs,F30 q):(jn 32 (Av qs)).length<=325:=by
 have h:=Kg (c:=32) (Hj f);unfold Av at h ⊢;rw[ASt]at h;omega
theorem Gg{m:List Nat->Option (List Rat×List Rat)}{l:List Nat}{g:Option (List Rat×List Rat)}:Jd m l g l=g:=by
 unfold Jd;rw[if_pos rfl]
theorem Kq{m:List Nat->Option (List Rat×List Rat)}{l x:List Nat}{g:Option (List Rat×List Rat)}(h:x≠l):Jd m l g x=m x:=by
 unfold Jd;rw[if_neg h]
def Np(CD C:Addr):Sp:=fun vs H Q _=>∃(N:Nat) (d ka r ga wa nb:Addr) (m:List Nat->Option (List Rat×List Rat)) (g:List Rat×List Rat) (ts:List Rat),vs=[.ref d,.ref r,.ref nb]/\Em CD C N H d ka m/\N<900/\m [97]=some g/\Hs g.1 g.2/\H r=some (.tup [.ref ga,.ref wa])/\Rw H ga g.1/\Rw H wa g.2/\Rw H nb ts/\(∀t∈ts,F30 t)/\∀m' H',Sk ka H H'->Em CD C (N+3) H' d ka m'->m' [97]=some g->Q (.bl true) H'
theorem Bv:Al ["_law_desk","_law_cord","_law_numbers","_law_upper","_law_lower","_law_t","_law_height","_law_lean"] ["_law_desk","_law_cord","_law_numbers"] (Af Cy):=fsc
theorem Ld(F:Fun K "_law_tones_hold" "_law_tones_hold" Cy f fd)(T:Txt mg)(ak:Fg P w K mg base ai "say" 9 ["self","row"] (CT ai af))(cT:Cal P w K mg base "_law_walk" 3 ["_law_gaps","_law_weights","_law_t"] V3)(aP:Cal P w K mg base "_law_read" 1 ["_law_text_here"] RC)(bX:Cal P w K mg base "_law_worth" 3 ["_law_figures","_law_t"] Ss)(aM:Cal P w K mg base "_law_shown" 2 ["_law_cord"] Qo):BP P w K mg base CX0 10 f fd ["_law_desk","_law_cord","_law_numbers"] (Np ai af):=by
 refine F.okk Bv fun vs H Q E h=>?_;obtain⟨N,d,ka,r,ga,wa,nb,m,g,ts,rfl,dk,hN,hm,dw,er,rg,cP,rn,dL,q⟩:=h;walk_at "c";have fine:=dw.fine;have few:=dw.few;have aB:=fine.len;walk_at "d"
 obtain⟨uN,uS,uB,uE⟩:=dw.eq false;obtain⟨lN,lS,lB,lE⟩:=dw.eq true;have fU:∀q∈eQ false g.1 g.2,F30 q:=fun q h=>K5 (uB q h) (by decide);have fL:∀q∈eQ true g.1 g.2,F30 q:=fun q h=>K5 (lB q h) (by decide);have nU:eQ false g.1 g.2≠[]:=fun z=>by rw[z]at uN;simp at uN
 have nL:eQ true g.1 g.2≠[]:=fun z=>by rw[z]at lN;simp at lN
 have wU:=ACW (by omega) fU;have wL:=ACW (by omega) fL;have c30:=dw.c30;obtain⟨dx,kv,e1,ek,_⟩:=id dk;refine⟨_,(Ac (pS 3 Bv.nd (KQ ak hr (pv 0) (Aa Ao Ab)))
   (Ac (pS 4 Bv.nd (KQ ak hr (pv 0) (Aa Ao Ab)))
   (Ac (Do ATI rfl (Bl (pv 2)) (gN 5 Bv.nd)
    (Ac (Tz (ixL (Ai cT hr (Aa (ixT (pv 1) Ad) (Aa (ixT (pv 1) Ad) (Aa (pv 5) Ab)))) (JM Gi Ad)) (JV rfl (Bk (gN 6 Bv.nd) (Bk (gN 7 Bv.nd) Ga))))
    (Ac (BK (Ak (Xb hr.units) (Ai bX hr (Aa (Ce (N':=["_law_word"]) (fsc:=Af Cy) (N:=["_law_desk","_law_cord","_law_numbers","_law_upper","_law_lower","_law_t","_law_height","_law_lean"]) [] ⟨rfl,by decide +kernel,by decide +kernel,by decide +kernel,rfl,by decide +kernel,rfl,by decide +kernel⟩ (Bl (Cp ATA ATc ATd Fi (pv 3) (Aa Ao Ab))) (fun _ _ _ _=>(Ai aP hr (Aa (pv 0) Ab)))) (Aa (pv 5) Ab))) (pv 6) (Ar _))
     (Ae (Aj GF))
     Aq)
    (Ae (BK (Ak (Xb hr.units) (Ai bX hr (Aa (Ce (N':=["_law_word"]) (fsc:=Af Cy) (N:=["_law_desk","_law_cord","_law_numbers","_law_upper","_law_lower","_law_t","_law_height","_law_lean"]) [] ⟨rfl,by decide +kernel,by decide +kernel,by decide +kernel,rfl,by decide +kernel,rfl,by decide +kernel⟩ (Bl (Cp ATA ATc ATd Fi (pv 4) (Aa Ao Ab))) (fun _ _ _ _=>(Ai aP hr (Aa (pv 0) Ab)))) (Aa (pv 5) Ab))) (pv 7) (Ar _))
     (Ae (Aj GF))
     Aq)))))
   (Ac (BK (PW.pt (Dc (Ak GD (KQ ak hr (pv 0) (Aa (An BJ (An BJ (An BJ Ao (pv 3)) Ao) (pv 4)) Ab)) Ao (Ar _)) (CV (Ak GD (KQ ak hr (pv 0) (Aa Ao Ab)) (Ai aM hr (Aa (pv 1) Ab)) (Ar _)))))
    (Ae (Aj GF))
    Aq)
   (Ae (Aj (M6 (Et Be (KQ ak hr (pv 0) (Aa Ao Ab)) Ao (Ar _)) (M6 (Et Be (KQ ak hr (pv 0) (Aa Ao Ab)) Ao (Ar _)) (QT (Et Be (KQ ak hr (pv 0) (Aa Ao Ab)) (Ai aM hr (Aa (pv 1) Ab)) (Ar _))))))))))),?_⟩
 refine⟨_,rfl,d,dx,_,rfl,e1,rfl,?_⟩;rw[AK8];refine Dl ?_;refine WM (l:=[97]) (lo:=false) dk (by omega) NT hm dw.sized (by omega) fU fun H1 s1=>?_;refine⟨_,rfl,d,dx,_,rfl,s1 _ _ e1,rfl,?_⟩;rw[AKY];refine Dl ?_;refine WM (l:=[97]) (lo:=true) (dk.keep s1) (by omega) NT hm dw.sized (by omega) fL fun H2 s2=>?_;have eF:=s1.trans s2;obtain⟨ps,en,kn⟩:=rn.keep eF;have ln:=kn.length;refine⟨_,rfl,nb,rfl,⟨_,SqL.of en⟩,?_⟩;refine Hg (xs:=ps.map V.ref) (fun i σ H'=>Am H2 H'/\∃v1 v2 v3,σ=[some (.ref d),some (.ref r),some (.ref nb),some (.str (sx (jn 32 (Av (eQ false g.1 g.2))))),some (.str (sx (jn 32 (Av (eQ true g.1 g.2))))),v1,v2,v3]) ⟨Am.refl _,_,_,_,rfl⟩ ?_ ?_ ?_
 .rintro i σ H' _ ⟨sm,_⟩;exact SqL.of (sm _ _ en)
 .rintro i y σ H3 hy ⟨sm,v1,v2,v3,rfl⟩;have hi:i<ts.length:=by
   have h:=(AS7.mp hy).1;rw[ASt]at h;omega
  obtain⟨p1,ep,k1⟩:=kn.get (Io hi);obtain rfl:y=.ref p1:=AS5 (hy.symm.trans ep);have ft:=dL _ (List.getElem_mem hi);generalize ts[i]=t at *;have di:=eF.trans sm;have pV:=di _ _ er;have k3:=k1.keep sm;refine⟨_,rfl,r,_,_,_,rfl,rfl,SqT.of pV,rfl,_,rfl,r,_,_,_,rfl,rfl,SqT.of pV,rfl,_,rfl,ga,wa,p1,g.1,g.2,t,rfl,rg.keep di,cP.keep di,k3,aB,few,fun q h=>(dw.bq.1 q h).mono (by decide),fun q h=>(dw.bq.2 q h).mono (by decide),ft.bt.mono (by decide),fun r4 H4 s4 _ rp=>?_⟩;obtain⟨qs,y4,a4,b4,mD,uc,ud,pW,pX⟩:=AAx aB rp;have pY:=uE t;have pZ:=lE t;rw[if_neg (by decide)]at pY;rw[if_pos rfl]at pZ;rw[<-pY]at pW;rw[<-pZ]at pX;refine⟨_,rfl,r4,_,_,_,rfl,rfl,SqL.of mD,uc,y4,_,rfl,SqT.of ud,rfl,_,_,rfl,_,_,rfl,rfl,?_⟩;have gP:=di.trans s4;refine⟨_,rfl,rfl,_,_,rfl,rfl,(by decide),by rw[Ay];omega,by rw[G7 nU,ASt];unfold Av;rw[ASt];omega,fun D5 uf=>?_⟩;rw[G7 nU];have u5:=Ah uf (.lst (((Av (eQ false g.1 g.2)).map sx).map V.str));have j6:upd H4 D5 (.lst (((Av (eQ false g.1 g.2)).map sx).map V.str)) D5=some (.lst (((eQ false g.1 g.2).map fun q=>sx (ftx q)).map V.str)):=by rw[Ag];simp[Av,AWv]
  generalize upd H4 D5 (.lst (((Av (eQ false g.1 g.2)).map sx).map V.str))=H5 at *;refine⟨D5,rfl,⟨_,SqL.of j6⟩,Dk (by omega) (fun q=>sx (ftx q)) j6 (fun _ _ _ _ x H' R hx sH fin=>⟨_,rfl,x,rfl,fU x hx,fun r' H' s' k'=>fin r' H' s' k'⟩) fun H6 L6 s6 _ ug=>?_⟩;refine⟨_,rfl,L6,p1,_,t,rfl,ug,k3.keep (s4.trans (u5.trans s6)),by omega,fun q h=>(uB q h).mono (by decide),ft.bt,fun z6 H7 s7 k7=>?_⟩;have ko:=u5.trans (s6.trans s7);refine⟨_,rfl,_,_,k7.dv,(pW.keep ko).dv,ATG (Mm _) (by decide),_,rfl,QQ (by rw[Jg]) ?_⟩;refine⟨_,rfl,rfl,_,_,rfl,rfl,(by decide),by rw[Ay];omega,by rw[G7 nL,ASt];unfold Av;rw[ASt];omega,fun D8 uh=>?_⟩;rw[G7 nL];have u8:=Ah uh (.lst (((Av (eQ true g.1 g.2)).map sx).map V.str));have p6:upd H7 D8 (.lst (((Av (eQ true g.1 g.2)).map sx).map V.str)) D8=some (.lst (((eQ true g.1 g.2).map fun q=>sx (ftx q)).map V.str)):=by rw[Ag];simp[Av,AWv]
  generalize upd H7 D8 (.lst (((Av (eQ true g.1 g.2)).map sx).map V.str))=H8 at *;refine⟨D8,rfl,⟨_,SqL.of p6⟩,Dk (by omega) (fun q=>sx (ftx q)) p6 (fun _ _ _ _ x H' R hx sH fin=>⟨_,rfl,x,rfl,fL x hx,fun r' H' s' k'=>fin r' H' s' k'⟩) fun H9 L9 s9 _ ui=>?_⟩;refine⟨_,rfl,L9,p1,_,t,rfl,ui,k3.keep ((s4.trans ko).trans (u8.trans s9)),by omega,fun q h=>(lB q h).mono (by decide),ft.bt,fun z9 fc dN k10=>?_⟩;have eG:=u8.trans (s9.trans dN);refine⟨_,rfl,_,_,k10.dv,((pX.keep ko).keep eG).dv,ATG (Mm _) (by decide),_,rfl,QQ (by rw[Jg]) ?_⟩;exact⟨sm.trans (s4.trans (ko.trans eG)),_,_,_,rfl⟩
 rintro σ H3 ⟨sm,v1,v2,v3,rfl⟩;have di:=eF.trans sm;have c7:(Str.ofString "find b ").length=7:=by decide +kernel
 have c3:(Str.ofString " ; ").length=3:=by decide +kernel
 refine⟨_,rfl,d,dx,_,rfl,di _ _ e1,rfl,_,rfl,_,_,rfl,rfl,(by simp only[EY,Ay,c7,c3];omega),_,_,rfl,rfl,(by simp only[EY,Ay,c7,c3];omega),_,rfl,_,_,rfl,rfl,(by simp only[EY,Ay,c7,c3];omega),?_⟩;rw[ACH nU nL];refine Ge ?_;refine ACN (n:=[98]) (gs:=g.1) (ws:=g.2) (dk.keep di) (by omega) ⟨ABh,⟨nU,by show(eQ false g.1 g.2).length<=20;omega,uS,fU⟩,nL,by show(eQ true g.1 g.2).length<=20;omega,lS,fL⟩ dw.drw fun H4 k4 jo=>?_;have uj:=(Sk.same di).trans k4;obtain⟨ul,yx,um,yy,_⟩:=id jo;refine⟨rfl,_,rfl,Fx rfl ?_⟩;refine⟨_,rfl,d,ul,_,rfl,um,rfl,?_⟩;rw[AKp];refine Dl ?_;refine PL (l:=[98]) jo (by omega) ABh Gg c30 fun H5 s5=>?_;have ku:=uj.trans (Sk.same s5);refine⟨_,rfl,r,ga,wa,g.1,g.2,rfl,ku.of ek er (fun k z=>(nomatch z)),Ey ku ek rg,Ey ku ek cP,c30,fun H6 s6=>⟨rfl,_,rfl,Fx rfl ?_⟩⟩;have uo:=ku.trans (Sk.same s6);have p7:=jo.keep (s5.trans s6);obtain⟨ur,yA,ut,yB,_⟩:=id p7;refine⟨_,rfl,d,ur,_,rfl,ut,rfl,?_⟩;rw[AI6];refine Dl ?_;refine V7 (n:=[98]) (o:=[98]) p7 (by omega) ⟨ABh,ABh⟩ Gg fine fun H7 k7 jq=>⟨rfl,_,rfl,RV ?_⟩;have uv:=uo.trans k7;obtain⟨mJ,uw,mK,uy,_⟩:=id jq;refine⟨_,rfl,d,mJ,_,rfl,mK,rfl,?_⟩;rw[AIh];refine Dl ?_;refine V7 (n:=[99]) (o:=[98]) jq (by omega) ⟨AOn,ABh⟩ Gg fine.rev fun H8 k8 kA=>⟨rfl,_,rfl,RV ?_⟩;have uD:=uv.trans k8;obtain⟨uF,yC,uG,yD,_⟩:=id kA;rw[AWT,AWT]at kA;refine⟨_,rfl,d,uF,_,rfl,uG,rfl,?_⟩;rw[AGo];refine Dl ?_;refine PL (l:=[99]) kA (by omega) AOn Gg c30 fun H9 s9=>?_;have kB:=uD.trans (Sk.same s9);refine⟨_,rfl,r,ga,wa,g.1,g.2,rfl,kB.of ek er (fun k z=>(nomatch z)),Ey kB ek rg,Ey kB ek cP,c30,fun Ha sa=>?_⟩;have fin:Q (.bl (decide (V.str (sx (jn 32 (Bo g.1 g.2)))=V.str (sx (jn 32 (Bo g.1 g.2)))))) Ha:=by
  rw[decide_eq_true rfl];exact q _ Ha (kB.trans (Sk.same sa)) (kA.keep (s9.trans sa)) (by rw[Kq (by decide),Kq (by decide),Kq (by decide)];exact hm)
 exact⟨rfl,fin⟩
theorem ABZ(c:Int):F30 (((c%400-60:Int):Rat)/((1+c/400%40:Int):Rat)):=by
 have a1:=ATV c (show(400:Int)≠0 by decide);have a2:=ATJ c (show(0:Int)<400 by decide);(have b1:=ATV (c/400) (show(40:Int)≠0 by decide);have b2:=ATJ (c/400) (show(0:Int)<40 by decide));exact K5 (n:=9) (Jc (show(1+c/400%40:Int)≠0 by omega) rfl (by show(c%400-60:Int).natAbs<2^9;omega) (by show(1+c/400%40:Int).natAbs<2^9;omega)) (by decide)
theorem ABI{K:W.Frag}{ka:Addr}{H H':Hp}{kv:List (Key×V)}{a:Addr}{xs:List V}(s:Sk ka H H')(e:H ka=some (.dK kv))(h:SqL K H a xs):SqL K H' a xs:=by
 rcases h with(h|⟨o,h⟩)|h
 .exact .inl (.inl (s.of e h fun k z=>(nomatch z)))
 .exact .inl (.inr ⟨o,s.of e h fun k z=>(nomatch z)⟩)
 .exact .inr h
theorem Ku:Al ["_law_script","_law_cord","_law_numbers","_law_k","_law_cell","_law_desk"] ["_law_script"] (Af RG):=fsc
theorem AG9(F:Fun K "law" "law" RG f fd)(T:Txt mg)(ay:Cal P w K mg base "_law_cell_at" 1 ["_law_script","_law_k"] (Qp K))(aw:Cal P w K mg base "_law_low" 1 ["_law_top","_law_bottom"] Ht)(cJ:Cal P w K mg base "_law_drawn" 3 ["_law_script"] (Qj K))(aM:Cal P w K mg base "_law_shown" 2 ["_law_cord"] Qo)(bF:Cal P w K mg base "_law_tones_hold" 10 ["_law_desk","_law_cord","_law_numbers"] (Np ai af))(aW:Cal P w K mg base "_law_parted" 11 ["_law_desk","_law_name","_law_many","_law_numbers"] (Ie ai af))(bG:Cal P w K mg base "_law_span_holds" 11 ["_law_desk","_law_end","_law_k","_law_halvings"] (RB ai af))(cc:Cal P w K mg base "_law_changed" 12 ["_law_desk","_law_cord","_law_cell","_law_numbers"] (UT ai af))(ak:Fg P w K mg base ai "say" 9 ["self","row"] (CT ai af))(cK:QM P w K mg base "Desk" ai 1 ["self"] (Wh ai)):BP P w K mg base CX0 13 f fd ["_law_script"] (U7 K):=by
 refine F.okk Ku fun vs H Q E h=>?_;obtain⟨a,cs,rfl,ha,aB,q⟩:=h;refine⟨rfl,fun cdv A outer s hr=>?_⟩;refine⟨_,(Ac (pS 1 Ku.nd (Ai cJ hr (Aa (pv 0) Ab)))
   (Ac (pS 2 Ku.nd (DQ Ab))
   (Ac (Do ATI rfl (Eh rfl T.z_range (Aa Ad Ab)) (gN 3 Ku.nd)
    (Ac (pS 4 Ku.nd (Ai ay hr (Aa (pv 0) (Aa (An Bp Ad (pv 3)) Ab))))
    (Ae (Ca (Cp ATL ATN ATO Cw (pv 2) (Aa (Ai aw hr (Aa (An Jh (An Dd (pv 4) Ad) Ad) (Aa (An Bp Ad (An Dd (An CZ (pv 4) Ad) Ad)) Ab))) Ab))))))
   (Ac (pS 5 Ku.nd (AGz cK hr))
   (Ac (Nt (BK (PW.pt (Dc (Ak GD (KQ ak hr (pv 5) (Aa (An BJ Ao (Ai aM hr (Aa (pv 1) Ab))) Ab)) Ao (Ar _)) (CV (Ak GD (KQ ak hr (pv 5) (Aa Ao Ab)) (Ai aM hr (Aa (pv 1) Ab)) (Ar _)))))
    (Ae (Aj GF))
    Aq))
   (Ac (Nt (BK (PW.pt (Dc (Ck (Cj (Ai bF hr (Aa (pv 5) (Aa (pv 1) (Aa (pv 2) Ab)))))) (CV (Ck (Cj (Ai aW hr (Aa (pv 5) (Aa Ao (Aa (Ax Aw rfl T.z_len AS6 (Aa (ixT (pv 1) Ad) Ab)) (Aa (pv 2) Ab))))))))))
    (Ae (Aj GF))
    Aq))
   (Ac (pS 4 Ku.nd (Ai ay hr (Aa (pv 0) (Aa Ad Ab))))
   (Ac (Nt (BK (Ak Gp (Ax Aw rfl T.z_len AS6 (Aa (ixT (pv 1) Ad) Ab)) Ad (Ar _))
    (Ae (BK (Ck (Cj (Ai bG hr (Aa (pv 5) (Aa (ixL (DQ (Aa Ao (Aa Ao Ab))) (An Dd (pv 4) Ad)) (Aa (An Bp Ad (An Dd (An CZ (pv 4) Ad) (Ax Aw rfl T.z_len AS6 (Aa (ixT (pv 1) Ad) Ab)))) (Aa (An Dd (An CZ (pv 4) Ad) Ad) Ab)))))))
     (Ae (Aj GF))
     Aq))
    Aq))
   (Ae (Aj (M6 (Ai cc hr (Aa (pv 5) (Aa (pv 1) (Aa (Ai ay hr (Aa (pv 0) (Aa Ad Ab))) (Aa (pv 2) Ab))))) (QT (Et Be (KQ ak hr (pv 5) (Aa Ao Ab)) (Ai aM hr (Aa (pv 1) Ab)) (Ar _)))))))))))))),?_⟩
 walk_at "i"
 refine⟨_,rfl,a,cs,rfl,ha,fun r ga wa gs ws H1 s1 er rg eP dw=>?_⟩;refine⟨(by show 0<=sizeLine;decide),fun L hL=>?_⟩;refine⟨_,rfl,by decide,by decide,?_⟩;refine Gb (n:=2) (fun i σ H'=>(∃v w:Option V,σ=[some (.ref a),some (.ref r),some (.ref L),v,w,none])/\Am H1 H'/\∃ts,Rw H' L ts/\ts.length=i/\∀t∈ts,F30 t)
  ⟨⟨_,_,rfl⟩,Ah hL _,[],⟨[],Ag,.nil⟩,rfl,fun q hq=>absurd hq (by simp)⟩ ?_ ?_
 .rintro i σ H2 hi ⟨⟨v,w',rfl⟩,sm,ts,fG,l2,f2⟩;refine⟨_,rfl,_,rfl,_,_,rfl,rfl,a,cs,11+i,by simp,(s1.trans sm).seq ha,?_⟩;generalize Kc cs (11+i)=c;(have b1:=ATV (c/400) (show(40:Int)≠0 by decide);have b2:=ATJ (c/400) (show(0:Int)<40 by decide));obtain⟨x4,e4,_⟩:=fG.there;refine⟨_,rfl,.inl ⟨rfl,_,SqL.of e4⟩,_,rfl,_,_,rfl,rfl,(by show(0:Int)<400;decide),_,_,rfl,rfl,_,rfl,_,_,rfl,rfl,⟨by decide,bt2 (by decide +kernel)⟩,_,_,rfl,rfl,(by show(0:Int)<40;decide),_,_,rfl,rfl,_,_,rfl,by omega,(show Bt 6 (1+c/400%40) from Bt.between (by omega) (by omega)).mono (by decide),fun p H5 s5 k5=>?_⟩;obtain⟨fO,hxs,gR,jk⟩:=fG.app s5 k5;refine⟨L,fO,_,rfl,rfl,hxs,by omega,⟨_,_,rfl⟩,Bd (sm.trans s5) hL _,_,jk,by simp[l2],fun q hq=>?_⟩;rcases ATU.mp hq with z|z
  .exact f2 q z
  .rw[ATs.mp z];exact ABZ c
 rintro σ H2 ⟨⟨v3,v4,rfl⟩,sm,ts,rn,_,dL⟩;intro x dx hx hdx hxd;refine⟨x,dx,rfl,Ag,fun ka hka=>⟨rfl,?_⟩⟩;have mL:ka≠x:=fun z=>by rw[z,Ag]at hka;cases hka
 have p8:H2 ka=none:=by
  rw[Az mL]at hka;by_cases z:ka=dx
  .rw[z,Ag]at hka;cases hka
  .rw[Az z]at hka;exact hka
 have s2:Am H2 (upd (upd (upd (upd H2 dx (.own x)) x (.ins ai dx [])) ka (.dK [])) x (.ins ai dx [("kept",.ref ka)])):=fun y o ey=>by
  rw[Az (BL ey hx),Az (BL ey p8),Az (BL ey hx),Az (BL ey hdx)];exact ey
 have dk:Em ai af 0 (upd (upd (upd (upd H2 dx (.own x)) x (.ins ai dx [])) ka (.dK [])) x (.ins ai dx [("kept",.ref ka)])) x ka (fun _=>none):=⟨dx,[],Ag,by rw[Az mL,Ag],Nat.le_refl _,fun l=>⟨fun _=>rfl,fun g hg=>(nomatch hg)⟩⟩;generalize upd (upd (upd (upd H2 dx (.own x)) x (.ins ai dx [])) ka (.dK [])) x (.ins ai dx [("kept",.ref ka)])=H3 at *;have dj:=sm.trans s2;replace rn:=rn.keep s2;replace rg:=rg.keep dj;replace eP:=eP.keep dj;replace er:=dj _ _ er;replace ha:=(s1.trans dj).seq ha;clear dj s2 sm hL hx hdx hxd hka p8 mL;have few:=dw.few;have c30:=dw.c30;obtain⟨jb,kv,e1,ek,_⟩:=id dk;have hcl:(sx (jn 32 (Bo gs ws))).length<=1000:=by
  have h:=Kg (c:=32) c30.len;rw[c30.cnt]at h;rw[Ay];omega
 have c7:(Str.ofString "cord a ").length=7:=by decide +kernel
 refine⟨fun zd H'=>zd=[some (.ref a),some (.ref r),some (.ref L),v3,v4,some (.ref x)]/\Sk ka H3 H'/\Em ai af 1 H' x ka (Jd (fun _=>none) [97] (some (gs,ws))),?tl,?hd⟩
 case hd =>
  refine⟨_,rfl,x,jb,_,rfl,e1,rfl,_,rfl,r,ga,wa,gs,ws,rfl,er,rg,eP,c30,fun H4 s4=>⟨_,_,rfl,rfl,by rw[c7];have:(2000:Nat)<sizeLine:=(by decide);omega,?_⟩⟩;rw[ABR];refine Ge ?_;refine ACp (n:=[97]) (gs:=gs) (ws:=ws) (dk.keep s4) (by omega) ⟨NT,c30⟩ fun H5 k5 fW=>⟨rfl,_,rfl,Fx rfl ?_⟩;have iQ:=(Sk.same s4).trans k5;obtain⟨uH,yE,uI,yF,_⟩:=id fW;refine⟨_,rfl,x,uH,_,rfl,uI,rfl,?_⟩;rw[ACq];refine Dl ?_;refine PL (l:=[97]) fW (by omega) NT Gg c30 fun H6 s6=>?_;have kC:=iQ.trans (Sk.same s6);exact⟨_,rfl,r,ga,wa,gs,ws,rfl,kC.of ek er (fun k z=>(nomatch z)),Ey kC ek rg,Ey kC ek eP,c30,fun H7 s7=>⟨rfl,_,rfl,Fx rfl ⟨rfl,kC.trans (Sk.same s7),fW.keep (s6.trans s7)⟩⟩⟩
 rintro _ H4 ⟨rfl,k4,jo⟩;refine⟨fun zd H'=>zd=[some (.ref a),some (.ref r),some (.ref L),v3,v4,some (.ref x)]/\Sk ka H3 H'/\∃m',Em ai af 4 H' x ka m'/\m' [97]=some (gs,ws),?tl2,?hd2⟩
 case hd2 =>
  refine⟨_,rfl,_,rfl,_,rfl,1,x,ka,r,ga,wa,L,_,(gs,ws),ts,rfl,jo,by omega,Gg,dw,k4.of ek er (fun k z=>(nomatch z)),Ey k4 ek rg,Ey k4 ek eP,Ey k4 ek rn,dL,fun m5 H5 k5 fW fS=>⟨_,rfl,QQ rfl ?_⟩⟩;have iQ:=k4.trans k5;have jk:=Ey iQ ek eP;obtain⟨pw,ew,kw⟩:=id jk;have lw:=kw.length;refine⟨_,rfl,_,rfl,r,_,_,_,rfl,rfl,SqT.of (iQ.of ek er (fun k z=>(nomatch z))),rfl,wa,_,rfl,.inl (SqL.of ew),_,rfl,4,x,ka,L,m5,[97],(gs,ws),ts,by rw[ASt,lw];rfl,fW,by omega,NT,fS,dw.fine,Ey iQ ek rn,dL,fun H6 s6=>⟨_,rfl,QQ rfl ⟨rfl,iQ.trans (Sk.same s6),m5,fW.keep s6,fS⟩⟩⟩
 rintro _ H5 ⟨rfl,k5,m5,fW,fS⟩;refine⟨_,rfl,a,cs,13,rfl,ABI k5 ek ha,?_⟩;generalize Kc cs 13=c;obtain⟨pw,ew,kw⟩:=Ey k5 ek eP;have lw:=kw.length;have kb:=k5.of ek er (fun k z=>(nomatch z));refine⟨fun zd H'=>zd=[some (.ref a),some (.ref r),some (.ref L),v3,some (.int c),some (.ref x)]/\Am H5 H',?tl3,?hd3⟩
 case hd3 =>
  refine⟨_,rfl,r,_,_,_,rfl,rfl,SqT.of kb,rfl,wa,_,rfl,.inl (SqL.of ew),_,_,rfl,rfl,_,rfl,?_⟩;rw[show((pw.map V.ref).length:Int)=(ws.length:Int) by rw[ASt,lw]];by_cases hb:(0:Int)<(ws.length:Int)
  .refine Oo hb ?_;have d1:=ATV (c/2) (show(ws.length:Int)≠0 by omega);have d2:=ATJ (c/2) hb;obtain⟨hv,uJ,jm⟩:∃hv:Nat,c/10%21=(hv:Int)/\hv<=20:=⟨(c/10%21).toNat,by omega,by omega⟩;obtain⟨lo,uK⟩:∃lo:Bool,atI [V.str (Str.ofString "held"),V.str (Str.ofString "loose")] (c%2)=some (.str (if lo=true then Str.ofString "loose" else Str.ofString "held")):=by
    rcases(by omega:c%2=0\/c%2=1) with z | z
    .rw[z];exact⟨false,by rw[if_neg (by decide)];rfl⟩
    .rw[z];exact⟨true,by rw[if_pos rfl];rfl⟩
   refine⟨_,rfl,(by show 2<=sizeLine;decide),fun Y hY=>?_⟩;have u:=Ah hY (.lst [.str (Str.ofString "held"),.str (Str.ofString "loose")]);have eY:upd H5 Y (.lst [.str (Str.ofString "held"),.str (Str.ofString "loose")]) Y=some (.lst [.str (Str.ofString "held"),.str (Str.ofString "loose")]):=Ag;generalize upd H5 Y (.lst [.str (Str.ofString "held"),.str (Str.ofString "loose")])=H6 at *;refine⟨_,rfl,_,_,rfl,rfl,(by show(0:Int)<2;decide),Y,_,_,_,rfl,rfl,SqL.of eY,uK,_,rfl,_,_,rfl,rfl,⟨by decide,bt2 (by decide +kernel)⟩,_,rfl,r,_,_,_,rfl,rfl,SqT.of (u _ _ kb),rfl,wa,_,rfl,.inl (SqL.of (u _ _ ew)),?_⟩;rw[show((pw.map V.ref).length:Int)=(ws.length:Int) by rw[ASt,lw]];refine⟨_,_,rfl,rfl,hb,_,_,rfl,rfl,_,rfl,_,_,rfl,rfl,⟨by decide,bt2 (by decide +kernel)⟩,_,_,rfl,rfl,(by show(0:Int)<21;decide),4,x,ka,m5,lo,_,(gs,ws),1+c/2%(ws.length:Int),hv,(by rw[<-uJ];rfl),rfl,fW.keep u,by omega,fS,dw,⟨by omega,by show 1+c/2%(ws.length:Int)<=(ws.length:Int);omega⟩,jm,fun H7 s7=>⟨_,rfl,QQ rfl ⟨rfl,u.trans s7⟩⟩⟩
  .exact Cd hb ⟨rfl,Am.refl _⟩
 rintro _ H6 ⟨rfl,s6⟩;have k6:=k5.trans (Sk.same s6);refine⟨_,rfl,_,rfl,_,rfl,a,cs,14,rfl,ABI k6 ek ha,_,rfl,4,x,ka,r,ga,wa,L,m5,(gs,ws),ts,_,rfl,fW.keep s6,by omega,fS,dw,k6.of ek er (fun k z=>(nomatch z)),Ey k6 ek eP,Ey k6 ek rn,dL,fun m7 H7 k7 jq uM=>⟨_,rfl,RV ?_⟩⟩;have uO:=k6.trans k7;obtain⟨mJ,uw,mK,uy,_⟩:=id jq;refine⟨_,rfl,x,mJ,_,rfl,mK,rfl,?_⟩;rw[ACq];refine Dl ?_;refine PL (l:=[97]) jq (by omega) NT uM c30 fun H8 s8=>?_;have mM:=uO.trans (Sk.same s8);refine⟨_,rfl,r,ga,wa,gs,ws,rfl,mM.of ek er (fun k z=>(nomatch z)),Ey mM ek rg,Ey mM ek eP,c30,fun H9 s9=>⟨rfl,?_⟩⟩;have fin:Q (.bl (decide (V.str (sx (jn 32 (Bo gs ws)))=V.str (sx (jn 32 (Bo gs ws)))))) H9:=by
  rw[decide_eq_true rfl];exact q H9
 exact fin
end
theorem all_mk{l:W.OpenLaw}{w:World}{K:W.Frag}{h:Heap}{mg:Str->Option Value}{fa af ai:Addr}(X:K.In h)(G:h.Ns mainGlobals mg)(hfa:mg "law"=some (.ref fa))
  {f4 kE:Addr} {uP qa mN:Option Addr} {uQ mO:Array (Option Value)} {uR qb qc qd mP qe mQ:Value} {mR:Nat} {ia:Tok}
  {bV mS mT mU mV mW mX mY mZ m8 m9 ic ig ij iq:Addr} {fw uT uU uV uW uX uY uZ u7 u9 va nc nh ni nj:Nat} {vb vc vd ve vf vg vh vi vj vk nq nu nv nA jr jt ju jv jw jx jy jz jA jB jC jD jE jF jG jH jI jJ jK jL jM jN jO ir iu iw ix iy iA iB iC iD iE iF iG iH:Tok} {vm vn vo vp vq vt vv vw vx vy nB nC nE nF:Option Addr} {vz vA vB vC vD vE vF vG vH vI nH nI nJ nK:Array (Option Value)}
  {dM eR dn eU dt dh:Tok}
  (fZ:W.nsIn K mainGlobals "Cord"=some (some (.ref af)))
  (f7:W.plainGet K af Str.empty=true)
  (f9:W.hasDictIn K af=true)
  (gb:W.plainOver K af=true)
  (gi:W.findIn K (.ref af) "__setattr__"=some (some (.builtin "object.__setattr__")))
  (gj:W.makesIn K af=true)
  (gm:W.keepIn K (.ref af)=true)
  (gn:W.findIn K (.ref af) "__class__"=some (some (.builtin "object.__class__")))
  (gu:W.mroIn K af (.type "object")=some true)
  (cY:W.findIn K (.ref af) "kept_gaps"=some none)
  (cM:W.findIn K (.ref af) "kept_weights"=some none)
  (gv:W.kitOne K (.ref af) (.ref af)=some true)
  (gy:W.nsIn K mainGlobals "Desk"=some (some (.ref ai)))
  (gA:W.plainGet K ai Str.empty=true)
  (gC:W.hasDictIn K ai=true)
  (gD:W.plainOver K ai=true)
  (gE:W.findIn K (.ref ai) "__setattr__"=some (some (.builtin "object.__setattr__")))
  (gF:W.makesIn K ai=true)
  (gG:W.keepIn K (.ref ai)=true)
  (gH:W.findIn K (.ref ai) "__class__"=some (some (.builtin "object.__class__")))
  (gI:W.mroIn K ai (.type "object")=some true)
  (dR:W.findIn K (.ref ai) "kept"=some none)
  (gJ:W.kitOne K (.ref ai) (.ref ai)=some true)
  (dA:W.specialIn K (.builtin "object.__class__") "__get__"=some (some (.builtin "getset_descriptor.__get__")))
  (dB:W.takesIn K (.builtin "object.__class__")=some true)
  (vJ:Gm K af "__init__" "Cord.__init__" JF)
  (vK:Gm K af "gaps" "Cord.gaps" Ju)
  (vL:Gm K af "weights" "Cord.weights" Gs)
  (vM:Gm K af "beads" "Cord.beads" Hy)
  (vN:Gm K af "turned" "Cord.turned" Hb)
  (vO:Gm K ai "__init__" "Desk.__init__" Jq)
  (vP:Gm K ai "cord_by" "Desk.cord_by" Gj)
  (vQ:Gm K ai "with_cords" "Desk.with_cords" De)
  (vR:Gm K ai "say" "Desk.say" LC)
  (d1:Gd K "divisor" M5)
  (d2:Gd K "is_whole" K7)
  (d3:Gd K "is_fraction" HW)
  (d5:Gd K "plus" Xi)
  (d6:Gd K "minus" Pg)
  (d7:Gd K "times" Pb)
  (d8:Gd K "over" Xn)
  (d9:Gd K "side" XH)
  (vS:Gd K "poly" X3)
  (vT:Gd K "figure_at" JG)
  (vU:Gd K "poly_plus" G5)
  (vV:Gd K "poly_minus" GQ)
  (vW:Gd K "scaled" LQ)
  (vX:Gd K "is_row_above" Ex)
  (vY:Gd K "check_bead" Hv)
  (vZ:Gd K "with_more" JX)
  (v5:Gd K "heavier" Nk)
  (v6:Gd K "longer" Qk)
  (v7:Gd K "signs" Pn)
  (v8:Gd K "turns" Lf)
  (v9:Gd K "row_at" Qs)
  (wc:Gd K "worths_below" Gk)
  (wd:Gd K "up_to" Ux)
  (wg:Gd K "times_number" Gx)
  (wj:Gd K "ends" Xz)
  (wk:Gd K "held" Xm)
  (wm:Gd K "loose" U0)
  (wo:Gd K "shared_bottom" Fp)
  (wq:Gd K "whole_figures" Ea)
  (wv:Gd K "over_one_bottom" Eu)
  (wz:Gd K "in_lowest_terms" Df)
  (wA:Gd K "quotient_at" HY)
  (wB:Gd K "rest_of" J4)
  (wC:Gd K "ladder" QL)
  (wD:Gd K "cord_with" JT)
  (wE:Gd K "above_all" HB)
  (wF:Gd K "span" Xw)
  (wG:Gd K "show_fraction" Fj)
  (wH:Gd K "show_row" IW)
  (wI:Gd K "show_cord" JP)
  (wJ:Gd K "check_text" Ij)
  (wK:Gd K "are_figures" FQ)
  (wM:Gd K "without_minus" Fo)
  (wN:Gd K "within_brackets" Eo)
  (wO:Gd K "read_fraction" Fv)
  (wP:Gd K "read_row" Il)
  (wQ:Gd K "read_cord" Fe)
  (wR:Gd K "read_name" G8)
  (wS:Gd K "read_whole" Ih)
  (wT:Gd K "read_halvings" Ft)
  (wV:Gd K "read_choice" Hf)
  (wW:Gd K "read_some" JL)
  (wX:Gd K "read_two_polys" Du)
  (wY:Gd K "read_thing" Hq)
  (wZ:Gd K "kinds_of" Km)
  (w4:Gd K "read_told" HN)
  (w6:Gd K "made" XJ)
  (w8:Gd K "tone" YJ)
  (xc:Gd K "counted" Ng)
  (xf:Gd K "answer" QF)
  (xh:Gd K "_law_cell_at" HS)
  (xj:Gd K "_law_low" Nj)
  (xk:Gd K "_law_plus" Kv)
  (xo:Gd K "_law_minus" Js)
  (xq:Gd K "_law_times" Ja)
  (xr:Gd K "_law_text" K3)
  (xt:Gd K "_law_shown" JQ)
  (xx:Gd K "_law_walk" Ks)
  (xA:Gd K "_law_drawn" Jp)
  (xB:Gd K "_law_read" Kd)
  (xC:Gd K "_law_worth" Jb)
  (xD:Gd K "_law_counts" Ir)
  (xE:Gd K "_law_parted" Ik)
  (xF:Gd K "_law_span_holds" CP)
  (xG:Gd K "_law_changed" Hd)
  (xH:Gd K "_law_tones_hold" Cy)
  (xI:Gd K "law" RG)
  (a4:W.nsIn K mainGlobals "fraction"=some (some (.ref f4)))
  (l4:K.lookup f4=some ⟨uR,uP,.func (W.fnOf "fraction" "fraction" (Cq Dj) (CK Dj) (Af Dj) (.ref kE) qb qc qd qa mP qe),uQ⟩)
  (c4:W.codeIn K mP "fraction"=true)
  (k4:W.keepIn K (.ref f4)=true)
  (e4:K.lookup kE=some ⟨mQ,mN,.seq #[.int 1 ia] mR,mO⟩)
  (gK:W.nsIn K mainGlobals "FORMS"=some (some (.ref bV)))
  (fC:(bV==sysModules)=false)
  (fD:K.lookup bV=some ⟨.type "dict",none,.dict #[⟨PyData.keyHash w.params "cord",.str "cord" vb,.ref mS⟩,⟨PyData.keyHash w.params "turn",.str "turn" vc,.ref mT⟩,⟨PyData.keyHash w.params "join",.str "join" vd,.ref mU⟩,⟨PyData.keyHash w.params "heavier",.str "heavier" ve,.ref mV⟩,⟨PyData.keyHash w.params "longer",.str "longer" vf,.ref mW⟩,⟨PyData.keyHash w.params "find",.str "find" vg,.ref mX⟩,⟨PyData.keyHash w.params "even",.str "even" vh,.ref mY⟩,⟨PyData.keyHash w.params "drop",.str "drop" vi,.ref mZ⟩,⟨PyData.keyHash w.params "show",.str "show" vj,.ref m8⟩,⟨PyData.keyHash w.params "poly",.str "poly" vk,.ref m9⟩,⟨PyData.keyHash w.params "count",.str "count" nq,.ref ic⟩,⟨PyData.keyHash w.params "span",.str "span" nu,.ref ig⟩,⟨PyData.keyHash w.params "mode",.str "mode" nv,.ref ij⟩,⟨PyData.keyHash w.params "alike",.str "alike" nA,.ref iq⟩] fw,#[]⟩)
  (xJ:K.lookup mS=some ⟨.type "tuple",vm,.seq #[.str "new" jr,.str "cord" jt] uT,vz⟩)
  (ge1:K.lookup mT=some ⟨.type "tuple",vn,.seq #[.str "new" ju,.str "name" jv] uU,vA⟩)
  (xK:K.lookup mU=some ⟨.type "tuple",vo,.seq #[.str "new" jw,.str "name" jx,.str "name" jy] uV,vB⟩)
  (xL:K.lookup mV=some ⟨.type "tuple",vp,.seq #[.str "new" jz,.str "name" jA,.str "whole" jB,.str "fraction" jC] uW,vC⟩)
  (xM:K.lookup mW=some ⟨.type "tuple",vq,.seq #[.str "new" jD,.str "name" jE,.str "whole" jF,.str "fraction" jG] uX,vD⟩)
  (xN:K.lookup mX=some ⟨.type "tuple",vt,.seq #[.str "new" jH,.str "two polys" jI] uY,vE⟩)
  (xO:K.lookup mY=some ⟨.type "tuple",vv,.seq #[.str "new" jJ,.str "length and worths" jK] uZ,vF⟩)
  (xP:K.lookup mZ=some ⟨.type "tuple",vw,.seq #[.str "name" jL] u7,vG⟩)
  (xQ:K.lookup m8=some ⟨.type "tuple",vx,.seq #[.str "name" jM] u9,vH⟩)
  (xR:K.lookup m9=some ⟨.type "tuple",vy,.seq #[.str "name" jN,.str "which" jO] va,vI⟩)
  (ge10:K.lookup ic=some ⟨.type "tuple",nB,.seq #[.str "name" ir,.str "end" iu,.str "fraction" iw] nc,nH⟩)
  (nM:K.lookup ig=some ⟨.type "tuple",nC,.seq #[.str "name" ix,.str "end" iy,.str "whole" iA,.str "halvings" iB] nh,nI⟩)
  (nN:K.lookup ij=some ⟨.type "tuple",nE,.seq #[.str "name" iC,.str "end" iD,.str "fraction" iE] ni,nJ⟩)
  (nO:K.lookup iq=some ⟨.type "tuple",nF,.seq #[.str "name" iF,.str "name" iG,.str "end" iH] nj,nK⟩)
  (z_abs:W.nsIn K mainGlobals "abs"=some none)
  (z_len:W.nsIn K mainGlobals "len"=some none)
  (z_isinstance:W.nsIn K mainGlobals "isinstance"=some none)
  (z_int:W.nsIn K mainGlobals "int"=some none)
  (z_bool:W.nsIn K mainGlobals "bool"=some none)
  (z_tuple:W.nsIn K mainGlobals "tuple"=some none)
  (z_range:W.nsIn K mainGlobals "range"=some none)
  (z_list:W.nsIn K mainGlobals "list"=some none)
  (z_zip:W.nsIn K mainGlobals "zip"=some none)
  (z_all:W.nsIn K mainGlobals "all"=some none)
  (z_str:W.nsIn K mainGlobals "str"=some none)
  (z_reversed:W.nsIn K mainGlobals "reversed"=some none)
  (z_max:W.nsIn K mainGlobals "max"=some none)
  (z_enumerate:W.nsIn K mainGlobals "enumerate"=some none)
  (dU:W.nsIn K mainGlobals "MOST_BEADS"=some (some (.int 12 dM)))
  (e7:W.nsIn K mainGlobals "FIGURES"=some (some (.str "0123456789" eR)))
  (dI:W.nsIn K mainGlobals "MOST_FIGURES"=some (some (.int 30 dn)))
  (e8:W.nsIn K mainGlobals "LETTERS"=some (some (.str "abcdefghijklmnopqrstuvwxyz" eU)))
  (dJ:W.nsIn K mainGlobals "LONGEST_NAME"=some (some (.int 8 dt)))
  (dD:W.nsIn K mainGlobals "MOST_HALVINGS"=some (some (.int 60 dh))) :
  ∃fd:FuncData,(∀(s:Shared) (v:Value),BindsTo s fd ⟨[v],[]⟩ [("_law_script",v)])/\∀base:Heap,K.In base->base.Ns mainGlobals mg->BP l.prog w K mg base CX0 13 fa fd ["_law_script"] (U7 K):=by
 have T:Txt mg:=⟨ATP X G z_abs,ATP X G z_len,ATP X G z_isinstance,ATP X G z_int,ATP X G z_bool,ATP X G z_tuple,ATP X G z_range,ATP X G z_list,ATP X G z_zip,ATP X G z_all,ATP X G z_str,ATP X G z_reversed,ATP X G z_max,ATP X G z_enumerate,⟨_,AT1 X G dU⟩,⟨_,AT1 X G e7⟩,⟨_,AT1 X G dI⟩,⟨_,AT1 X G e8⟩,⟨_,AT1 X G dJ⟩,⟨_,AT1 X G dD⟩⟩;have dY:Mt l.prog w K mg bV:=⟨AT1 X G gK,_,AGb (ks:=[("cord",mS),("turn",mT),("join",mU),("heavier",mV),("longer",mW),("find",mX),("even",mY),("drop",mZ),("show",m8),("poly",m9),("count",ic),("span",ig),("mode",ij),("alike",iq)]) fC fD (.cons (.cons (.cons (.cons (.cons (.cons (.cons (.cons (.cons (.cons (.cons (.cons (.cons (.cons .nil)))))))))))))) (show(["cord","turn","join","heavier","longer","find","even","drop","show","poly","count","span","mode","alike"]:List Str).Nodup by decide +kernel),(.cons ⟨rfl,_,rfl,fun _=>.inr ⟨_,_,_,xJ,rfl,rfl,(by show 2<=sizeLine;decide),(.cons ⟨_,rfl⟩ (.cons ⟨_,rfl⟩ .nil))⟩⟩ (.cons ⟨rfl,_,rfl,fun _=>.inr ⟨_,_,_,ge1,rfl,rfl,(by show 2<=sizeLine;decide),(.cons ⟨_,rfl⟩ (.cons ⟨_,rfl⟩ .nil))⟩⟩ (.cons ⟨rfl,_,rfl,fun _=>.inr ⟨_,_,_,xK,rfl,rfl,(by show 3<=sizeLine;decide),(.cons ⟨_,rfl⟩ (.cons ⟨_,rfl⟩ (.cons ⟨_,rfl⟩ .nil)))⟩⟩ (.cons ⟨rfl,_,rfl,fun _=>.inr ⟨_,_,_,xL,rfl,rfl,(by show 4<=sizeLine;decide),(.cons ⟨_,rfl⟩ (.cons ⟨_,rfl⟩ (.cons ⟨_,rfl⟩ (.cons ⟨_,rfl⟩ .nil))))⟩⟩ (.cons ⟨rfl,_,rfl,fun _=>.inr ⟨_,_,_,xM,rfl,rfl,(by show 4<=sizeLine;decide),(.cons ⟨_,rfl⟩ (.cons ⟨_,rfl⟩ (.cons ⟨_,rfl⟩ (.cons ⟨_,rfl⟩ .nil))))⟩⟩ (.cons ⟨rfl,_,rfl,fun _=>.inr ⟨_,_,_,xN,rfl,rfl,(by show 2<=sizeLine;decide),(.cons ⟨_,rfl⟩ (.cons ⟨_,rfl⟩ .nil))⟩⟩ (.cons ⟨rfl,_,rfl,fun _=>.inr ⟨_,_,_,xO,rfl,rfl,(by show 2<=sizeLine;decide),(.cons ⟨_,rfl⟩ (.cons ⟨_,rfl⟩ .nil))⟩⟩ (.cons ⟨rfl,_,rfl,fun _=>.inr ⟨_,_,_,xP,rfl,rfl,(by show 1<=sizeLine;decide),(.cons ⟨_,rfl⟩ .nil)⟩⟩ (.cons ⟨rfl,_,rfl,fun _=>.inr ⟨_,_,_,xQ,rfl,rfl,(by show 1<=sizeLine;decide),(.cons ⟨_,rfl⟩ .nil)⟩⟩ (.cons ⟨rfl,_,rfl,fun _=>.inr ⟨_,_,_,xR,rfl,rfl,(by show 2<=sizeLine;decide),(.cons ⟨_,rfl⟩ (.cons ⟨_,rfl⟩ .nil))⟩⟩ (.cons ⟨rfl,_,rfl,fun _=>.inr ⟨_,_,_,ge10,rfl,rfl,(by show 3<=sizeLine;decide),(.cons ⟨_,rfl⟩ (.cons ⟨_,rfl⟩ (.cons ⟨_,rfl⟩ .nil)))⟩⟩ (.cons ⟨rfl,_,rfl,fun _=>.inr ⟨_,_,_,nM,rfl,rfl,(by show 4<=sizeLine;decide),(.cons ⟨_,rfl⟩ (.cons ⟨_,rfl⟩ (.cons ⟨_,rfl⟩ (.cons ⟨_,rfl⟩ .nil))))⟩⟩ (.cons ⟨rfl,_,rfl,fun _=>.inr ⟨_,_,_,nN,rfl,rfl,(by show 3<=sizeLine;decide),(.cons ⟨_,rfl⟩ (.cons ⟨_,rfl⟩ (.cons ⟨_,rfl⟩ .nil)))⟩⟩ (.cons ⟨rfl,_,rfl,fun _=>.inr ⟨_,_,_,nO,rfl,rfl,(by show 3<=sizeLine;decide),(.cons ⟨_,rfl⟩ (.cons ⟨_,rfl⟩ (.cons ⟨_,rfl⟩ .nil)))⟩⟩ .nil))))))))))))))⟩;have bJ:J0 K mg af:=⟨AT1 X G fZ,⟨f7,f9,gb,gi⟩,gn,dA,dB,gu,gv,cY,cM⟩;have bY:Mh K mg ai:=⟨AT1 X G gy,⟨gA,gC,gD,gE⟩,gH,dA,dB,gI,gJ,dR⟩;obtain⟨fL,eL,oc,od,kV,dc,pm,an,cd,ct,sl,lL,cL,kL⟩:=xI;have e:=hfa.symm.trans (AT1 X G eL);cases e;refine⟨W.fnOf "law" "law" (Cq RG) (CK RG) (Af RG) .none kV dc pm an cd ct,fun s v=>.of_eq rfl,fun base _ _=>?_⟩;have Z:Zz l.prog w K mg base:=⟨h,X,G⟩;have aq:=d1.cal Z fun F=>XC F T;have aU:=d2.cal Z fun F=>Vh F T;have aE:=d3.cal Z fun F=>RM F T aU aq;have eV:=Wf (P:=l.prog) (w:=w) (base:=base) (dV:=.ref kE) ⟨_,_,_,_,_,_,_,_,_,rfl,l4,c4⟩ T aU aq;have jP:Ef K (W.fnOf "fraction" "fraction" (Cq Dj) (CK Dj) (Af Dj) (.ref kE) qb qc qd qa mP qe) ["top","bottom"] []:=fun s us KI hl=>by
  simp only[ASz,ASx,AUH]at hl;rcases us with _|⟨u0,_|⟨u1,_|⟨ux,us⟩⟩⟩
  .simp only[ASx,AUH]at hl;omega
  .simp only[ASx,AUH]at hl;omega
  .exact W.binds_K KI rfl e4 rfl rfl rfl
  .simp only[ASx]at hl;omega
 have aQ:ADx l.prog w K mg base "fraction" 2 ["top","bottom"] [] [] (Ls):=⟨⟨_,_,eV,jP,k4,AT1 X G a4⟩,.nil⟩;have aR:=d5.cal Z fun F=>ADf F T aq;have cQ:=d6.cal Z fun F=>AAj F T aR;have aX:=d7.cal Z fun F=>AAL F T aq;have dP:=d8.cal Z fun F=>AEe F T aX aQ;have aS:=d9.cal Z fun F=>AD7 F T;have aY:=vS.cal Z fun F=>AD3 F T aS;have aN:=vT.cal Z fun F=>Tj F T;have bW:=vU.cal Z fun F=>VN F T aN (aR.imp MJ) aY;have ck:=vV.cal Z fun F=>Rm F T aN cQ aY;have cB:=vW.cal Z fun F=>AAq F T aX aY;have bn:=vX.cal Z fun F=>O1 F T aE aS;have au:QM _ _ _ _ _ "Cord" _ _ _ _:=vJ.calC Z gj gm bJ.m fun F=>Ru F T bJ bn;have ap:=vK.cal Z bJ.cl fun F=>Ui F T bJ;have aj:=vL.cal Z bJ.cl fun F=>Ow F T bJ;have aI:=vM.cal Z bJ.cl fun F=>Ro F T bJ;have b9:=vN.cal Z bJ.cl fun F=>Qd F T bJ au;have cg:=vY.cal (sp:=YT af) Z fun F=>RW F T aI;have aZ:=vZ.cal Z fun F=>T6 F T aE aS (aR.imp MJ);have c8:=v5.cal (sp:=Kr af) Z fun F=>XX F T cg aZ ap aj au;have dG:=v6.cal (sp:=Mw af) Z fun F=>AAG F T aZ ap aj aI au;have dO:=v7.cal Z fun F=>ACd F T aS;have cm:=v8.cal Z fun F=>ABu F T dO;have ce:=v9.cal (sp:=J8 af) Z fun F=>AAc F T aX ap aj;have bU:=wc.cal (sp:=Qc af) Z fun F=>Ot F T cm ce;have cR:=wd.cal (sp:=Lk af) Z fun F=>ACv F T aS cm ce;have bR:=wg.cal Z fun F=>Ol F T aY;have cZ:=wj.cal (sp:=Px af) Z fun F=>ADb F T bW ck cB bR ap aj;have eJ:=wk.cal (sp:=KN af ZZ) Z fun F=>AD9 F T cZ;have dQ:=wm.cal (sp:=KN af Um) Z fun F=>ABU F T cZ;have bO:=wo.cal Z fun F=>Nr F T aq;have bP:=wq.cal Z fun F=>Ms F T;have aT:=wv.cal Z fun F=>Ky F T bO bP;have bA:=wz.cal Z fun F=>Kp F T aq;have bZ:=wA.cal Z fun F=>QD F T aQ cQ;have c5:=wB.cal Z fun F=>Xh F T bA;have dF:=wC.cal Z fun F=>AAP F T aT bZ aS c5;have cD:=wD.cal (sp:=ABt af) Z fun F=>VH F T dF au;have cC:=wE.cal (sp:=Iu af) Z fun F=>TY F T (aR.imp MJ) (dP.imp AHQ) ap aj;have eM:=wF.cal (sp:=QG af) Z fun F=>AEH F T (aR.imp MJ) aX cR cC aI;have ar:=wG.cal Z fun F=>Mv F T;have cn:=wH.cal Z fun F=>Vv F T ar;have cF:=wI.cal (sp:=Qn af) Z fun F=>Uo F T ar ap aj;have ax:=wJ.cal Z fun F=>RX F T;have bH:=wK.cal Z fun F=>RP F T;have bK:=wM.cal Z fun F=>NZ F T;have br:=wN.cal Z fun F=>Ko F T;have ao:=wO.cal Z fun F=>Nb F T ax bH bK aE ar;have cS:=wP.cal Z fun F=>WN F T ax ao;have cx:=wQ.cal (sp:=NP af) Z fun F=>Us F T ax ao br au;have cA:=wR.cal Z fun F=>Uk F T;have aV:=wS.cal Z fun F=>Ri F T ao;have bN:=wT.cal Z fun F=>M3 F T aV;have bI:=wV.cal Z fun F=>Q9 F T;have cv:=wW.cal Z fun F=>U3 F T cS;have bD:=wX.cal Z fun F=>MT F T cv aY;have cj:=wY.cal (sp:=Nq af) Z fun F=>RZ F T cx ao aV bN bI bD cA;have cr:=wZ.cal Z fun F=>WY F T dY;have cH:=w4.cal (sp:=Nv af) Z fun F=>UW F T dY ax cj;have cK:QM _ _ _ _ _ "Desk" _ _ _ _:=vO.calC Z gF gG bY.m fun F=>Uz F T bY;have bQ:=vP.cal Z bY.cl fun F=>Oz F T bY;have bC:=vQ.cal (sp:=Nu K ai af) Z bY.cl fun F=>Kf F T bY bQ;have eO:=w6.cal (sp:=M7 af) Z fun F=>AEQ F T b9 c8 dG cD;have eK:=w8.cal (sp:=NK af) Z fun F=>AD5 F T eJ dQ;have c9:=xc.cal (sp:=Kw af) Z fun F=>Xd F T bU cR;have dH:=xf.cal (sp:=Jy af) Z fun F=>AAo F T cF cn eK c9 eM;have ak:=vR.cal (sp:=CT ai af) Z bY.cl fun F=>V9 F T bY cH cr bC eO dH;have ay:=xh.cal Z fun F=>RL F T;have aw:=xj.cal Z fun F=>X5 F T;have aO:=xk.cal Z fun F=>Wz F T aw;have cI:=xo.cal Z fun F=>VJ F T aw;have aH:=xq.cal Z fun F=>Uj F T aw;have aJ:=xr.cal Z fun F=>Wt F T;have aM:=xt.cal Z fun F=>Ur F T aJ;have cT:=xx.cal Z fun F=>W3 F T aO cI aH;have cJ:=xA.cal Z fun F=>Ti F T ay aw;have aP:=xB.cal Z fun F=>Vb F T;have bX:=xC.cal Z fun F=>UJ F T aO aH;have av:=xD.cal (sp:=MF ai af) Z fun F=>Rr F T ak aJ;have aW:=xE.cal (sp:=Ie ai af) Z fun F=>Rj F T av;have bG:=xF.cal (sp:=RB ai af) Z fun F=>Lr F T ak aP av aO aH;have cc:=xG.cal (sp:=UT ai af) Z fun F=>Q4 F T ak aw aJ aW av;have bF:=xH.cal (sp:=Np ai af) Z fun F=>Ld F T ak cT aP bX aM;exact AG9 (ACT (st:=RG) lL cL kL) T ay aw cJ aM bF aW bG cc ak cK
theorem walk{l:W.OpenLaw}{q:Program}{loose:List Str}{XP:(Str->Option Value)->Heap->Prop}{YP:World->Heap->Prop}{d:DefRec}{K:Params->W.Frag}(hn:l.most=some 63)(hdf:d.params.defaults=[])
  (hY:∀(w:World) (h:Heap),YP w h->(K w.params).In h)
  (F:∀(w:World) (mg:Str->Option Value) (fa:Addr) (h:Heap),(K w.params).In h->h.Ns mainGlobals mg->mg d.name=some (.ref fa) ->
   ∃fd:FuncData,(∀(s:Shared) (u:Value),BindsTo s fd ⟨[u],[]⟩ [("_law_script",u)])/\∀base:Heap,(K w.params).In base->base.Ns mainGlobals mg->BP l.prog w (K w.params) mg base CX0 13 fa fd ["_law_script"] (U7 (K w.params))) :
  W.WalkO q loose XP YP l.row.toRowW d [] (fun f vs=>PySem.call f vs) :=
 L2.walk_of (n:=63) (k:=13) (x:="_law_script") (CX:=fun _=>CX0) (sp:=fun w=>U7 (K w.params)) hn (by decide) hdf ⟨rfl,by decide,by decide⟩ hY F (fun _ _ a ns hl _ hS=>⟨a,ns,rfl,hS,hl,fun _=>rfl⟩) fun _ _ _ _ _ z=>z
open PySem.W
abbrev tp:Program:=PySem.Challenge.pw_tautcord_k87_whole_from_text_to_text
abbrev ke(P:Params)(x:Str)(n:Nat)(v:Value):DictEntry:={ hash:=PyData.keyHash P x,key:=.str x n,val:=v }
abbrev mS0:Value:=.str "tautcord.errors" 187
abbrev mS1:Value:=.str "tautcord.wholes" 312
abbrev mS2:Value:=.str "tautcord.ratios" 332
abbrev mS3:Value:=.str "tautcord.cords" 412
abbrev mS4:Value:=.str "tautcord.changes" 490
abbrev mS5:Value:=.str "tautcord.counts" 538
abbrev mS6:Value:=.str "tautcord.polys" 587
abbrev mS7:Value:=.str "tautcord.ladders" 651
abbrev mS8:Value:=.str "tautcord.tones" 699
abbrev mS9:Value:=.str "tautcord.found" 750
abbrev AQG:Value:=.str "tautcord.modes" 817
abbrev Rt:Value:=.str "tautcord.texts" 836
abbrev Uy:Value:=.str "tautcord.rows" 918
abbrev AQc:Value:=.str "tautcord.sisters" 1056
abbrev ANv:Value:=.str "tautcord.spans" 1067
abbrev Vq:Value:=.str "tautcord.desk" 1089
abbrev Jv:Value:=.str "law_tautcord_k87_whole_from_text_to_text" 1181
abbrev fo(x y:Str)(s:Stmt)(m:Value)(c:Nat):Obj:={ cls:=.type "function",data:=.func { name:=x,qualname:=y,params:=Cq s,body:=.stmts (CK s),scope:=Af s,globals:=3,closure:=[],defaults:=.none,kwdefaults:=.none,pyModule:=m,code:=.ref c } }
abbrev f1(x:Str)(s:Stmt)(m:Value)(c:Nat):Obj:=fo x x s m c
def alt:Bool->List Obj->List Obj
 | _,[]=>[]
 | true,x::r=>x::alt false r
 | false,_::r=>alt true r
def bld:Nat->List Obj->BT
 | 0,_=>.nil
 | _+1,[]=>.nil
 | n+1,x::r=>.node x (bld n (alt true r)) (bld n (alt false r))
abbrev tE:Obj:={ cls:=.type "tuple",data:=.seq #[] }
abbrev fE:Obj:={ cls:=.none,data:=.fields #[] }
def tL:Nat->List Str->List Value
 | _,[]=>[]
 | n,x::xs=>.str x n::tL (n+1) xs
abbrev tS(n:Nat)(xs:List Str):Obj:={ cls:=.type "tuple",data:=.seq (Array.mk (tL n xs)) }
abbrev pF(x y:Str)(s:Stmt):Obj:={ cls:=.none,dict:=none,data:=.func { name:=x,qualname:=y,params:=Cq s,body:=.stmts (CK s),scope:=Af s,globals:=0,closure:=[],defaults:=.none,kwdefaults:=.none,doc:=.none,pyModule:=.none,annotations:=none,code:=.none,closureTuple:=.none,builtins:=0 },slots:=#[] }
noncomputable abbrev cO(x y:Str)(k l a b r m z:Nat):Obj:={ cls:=.type "code",data:=.fields #[.str x k,.str y (k+1),.str "/claim/cut.py" (k+2),.int l 0,.int a 0,.int 0 0,.int 0 0,.int b 0,.ref r,.bool Bool.true,.int 181 0,.ref (r+1),.none,.ref (r+2),.ref (r+3),.ref (r+4),.int m 0,.int l 0,.str "/claim/cut.py" z] }
noncomputable abbrev c1(x:Str)(k l a b r m z:Nat):Obj:=cO x x k l a b r m z
noncomputable abbrev cG(x y:Str)(k l a b r:Nat)(f:Bool)(p q s:Value)(m z:Nat):Obj:={ cls:=.type "code",data:=.fields #[.str x k,.str y (k+1),.str "/claim/cut.py" (k+2),.int l 0,.int a 0,.int 0 0,.int 0 0,.int b 0,.ref r,.bool f,.int 181 0,.ref (r+1),.none,p,q,s,.int m 0,.int l 0,.str "/claim/cut.py" z] }
noncomputable def q:Program:=view tp [1,2,3,4,5,6,7,9,10,12,14,15,16,17,18,19,20,22,23,24,26,27,28,29,30,32,33,34,35,36,38,39,40,41,42,43,44,45,47,48,49,50,51,53,54,55,56,57,58,60,61,62,63,64,68,69,71,72,73,74,75,76,77,78,79,80,81,82,84,85,86,87,88,89,90,91,92,93,94,95,96,98,100,101,103,104,105,106,107,109,110,111,112,113,114,115,116,117,118,119,120,121,122,123,124,125]
def bE:List Stmt:=behindTheImports tp
def eE:Env:={ scope:=tp.main.scope,locals:=mainNs,globals:=mainNs,cells:=[],code:=.ref 13,frame:=some 14 }
abbrev cE:Code:=.body bE eE
def L_i(P:Params):List Obj:=[boot_o_0 P,boot_o_1 P,boot_o_2 P,boot_o_3 P,boot_o_4 P,boot_o_5 P,boot_o_6 P,boot_o_7 P,boot_o_8 P,boot_o_9 P,boot_o_10 P]
noncomputable def u13:Obj:=cG "<module>" "<module>" 182 1 0 0 11 false .none .none .none 185 186
noncomputable def u14:Obj:={ cls:=.type "frame",slots:=#[some (.ref 13),some (.ref 3),some (.ref 3),none,some (.str "__main__" 164),none,some (.ref 0)] }
def L_a(P:Params):List Obj:=(L_i P).append [tE,fE,u13,u14]
def L_b(P:Params):List Obj:=L_a P
noncomputable def ALz(P:Params):List DictEntry:=[ke P "__name__" 165 (.str "tautcord.errors" 187),ke P "__doc__" 166 .none,ke P "__package__" 167 .none,ke P "__loader__" 168 (.builtin "__main__.__loader__#opaque"),ke P "__spec__" 169 .none,ke P "__annotations__" 170 (.ref 6),ke P "__builtins__" 171 (.ref 4),ke P "__file__" 173 (.str "/claim/cut.py" 172),ke P "__cached__" 174 .none,ke P "CordError" 206 (.ref 24),ke P "NoFraction" 222 (.ref 37)]
noncomputable def AFZ(P:Params):List Value:=[.int 2 0,.int 0 0,.ref 20,.int 4 0,.int 0 0,.ref 33]
def u15:Obj:={ cls:=.type "tuple",data:=.seq #[.type "ValueError"] }
def u16:Obj:={ cls:=.type "builtin_function_or_method",data:=.fields #[.builtin "type.__prepare__",.type "type"] }
noncomputable def u17(P:Params):Obj:={ cls:=.type "dict",data:=.dict #[ke P "__module__" 196 (.str "tautcord.errors" 187),ke P "__qualname__" 198 (.str "CordError" 197),ke P "__firstlineno__" 200 (.int 2 199),ke P "__static_attributes__" 201 (.ref 22)] 4 }
noncomputable def u20:Obj:=cG "CordError" "CordError" 191 2 0 0 18 false .none .none .none 194 195
noncomputable def u21:Obj:={ cls:=.type "frame",slots:=#[some (.ref 20),some (.ref 3),some (.ref 17),none,some (.str "tautcord.errors" 187),none,some (.ref 0)] }
def u22:Obj:=tE
noncomputable def u23(P:Params):Obj:={ cls:=.type "dict",data:=.dict #[ke P "__module__" 196 (.str "tautcord.errors" 187),ke P "__firstlineno__" 200 (.int 2 199),ke P "__static_attributes__" 201 (.ref 22),ke P "__weakref__" 203 (.ref 25),ke P "__doc__" 204 .none] 3 }
noncomputable def u25:Obj:={ cls:=.type "getset_descriptor",data:=.fields #[.str "__weakref__" 202,.ref 24,.builtin "ExceptionGroup.__weakref__",.none] }
def u26:Obj:={ cls:=.type "super",data:=.fields #[.ref 24,.ref 24,.ref 24] }
def u27:Obj:={ cls:=.type "builtin_function_or_method",data:=.fields #[.builtin "object.__init_subclass__",.ref 24] }
def u28:Obj:={ cls:=.type "tuple",data:=.seq #[.ref 24] }
def u29:Obj:={ cls:=.type "builtin_function_or_method",data:=.fields #[.builtin "type.__prepare__",.type "type"] }
noncomputable def u30(P:Params):Obj:={ cls:=.type "dict",data:=.dict #[ke P "__module__" 214 (.str "tautcord.errors" 187),ke P "__qualname__" 216 (.str "NoFraction" 215),ke P "__firstlineno__" 218 (.int 4 217),ke P "__static_attributes__" 219 (.ref 35)] 4 }
noncomputable def u33:Obj:=cG "NoFraction" "NoFraction" 209 4 0 0 31 false .none .none .none 212 213
def u34:Obj:={ cls:=.type "frame",slots:=#[some (.ref 33),some (.ref 3),some (.ref 30),none,some (.str "tautcord.errors" 187),none,some (.ref 0)] }
def u35:Obj:=tE
noncomputable def u36(P:Params):Obj:={ cls:=.type "dict",data:=.dict #[ke P "__module__" 214 (.str "tautcord.errors" 187),ke P "__firstlineno__" 218 (.int 4 217),ke P "__static_attributes__" 219 (.ref 35),ke P "__doc__" 220 .none] 2 }
noncomputable def u37:Obj:={ cls:=.type "type",data:=.cls { name:="NoFraction",bases:=[.ref 24],mro:=[.ref 37,.ref 24,.type "ValueError",.type "Exception",.type "BaseException",.type "object"],ns:=36,qualname:="NoFraction" },slots:=#[some (.ref 28),none,some (.str "NoFraction" 207),some (.str "NoFraction" 215),some (.builtin "ValueError.__new__"),some (.bool Bool.true)] }
def u38:Obj:={ cls:=.type "super",data:=.fields #[.ref 37,.ref 37,.ref 37] }
def u39:Obj:={ cls:=.type "builtin_function_or_method",data:=.fields #[.builtin "object.__init_subclass__",.ref 37] }
def L_1(P:Params):List Obj:=(((L_b P).set 3 ({ cls:=.type "dict",data:=.dict (Array.mk (ALz P)) 11 })).set 12 ({ cls:=.none,data:=.fields (Array.mk (AFZ P)) })).append [u15,u16,u17 P,tE,fE,u20,u21,u22,u23 P,{ cls:=.type "type",data:=.cls { name:="CordError",bases:=[.type "ValueError"],mro:=[.ref 24,.type "ValueError",.type "Exception",.type "BaseException",.type "object"],ns:=23,qualname:="CordError",subclasses:=[.ref 37] },slots:=#[some (.ref 15),none,some (.str "CordError" 189),some (.str "CordError" 197),some (.builtin "ValueError.__new__"),some (.bool Bool.true)] },u25,u26,u27,u28,u29,u30 P,tE,fE,u33,u34,u35,u36 P,u37,u38,u39]
noncomputable def AP8(P:Params):List DictEntry:=(ALz P).append [ke P "NoCord" 247 (.ref 56),ke P "NoWorth" 263 (.ref 68)]
noncomputable def AE4(P:Params):List Value:=(AFZ P).append [.int 6 0,.int 0 0,.ref 45,.int 10 0,.int 0 0,.ref 64]
def u40:Obj:={ cls:=.type "tuple",data:=.seq #[.ref 24] }
def u41:Obj:={ cls:=.type "builtin_function_or_method",data:=.fields #[.builtin "type.__prepare__",.type "type"] }
noncomputable def u42(P:Params):Obj:={ cls:=.type "dict",data:=.dict #[ke P "__module__" 230 (.str "tautcord.errors" 187),ke P "__qualname__" 232 (.str "NoCord" 231),ke P "__firstlineno__" 234 (.int 6 233),ke P "__init__" 242 (.ref 53),ke P "__static_attributes__" 244 (.ref 54)] 5 }
def u44:Obj:={ cls:=.none,data:=.fields #[.int 8 0,.int 4 0,.ref 52] }
noncomputable def u45:Obj:=cG "NoCord" "NoCord" 225 6 0 0 43 false .none .none .none 228 229
def u46:Obj:={ cls:=.type "frame",slots:=#[some (.ref 45),some (.ref 3),some (.ref 42),none,some (.str "tautcord.errors" 187),none,some (.ref 0)] }
noncomputable def u49:Obj:=tS 238 ["self","place"]
noncomputable def u51:Obj:=pF "__init__" "NoCord.__init__" (BX (top 3) 0)
noncomputable def u52:Obj:=cO "__init__" "NoCord.__init__" 235 8 2 3 47 240 241
def u53:Obj:=fo "__init__" "NoCord.__init__" (BX (top 3) 0) mS0 52
def u54:Obj:=tS 243 ["place"]
noncomputable def u55(P:Params):Obj:={ cls:=.type "dict",data:=.dict #[ke P "__module__" 230 (.str "tautcord.errors" 187),ke P "__firstlineno__" 234 (.int 6 233),ke P "__init__" 242 (.ref 53),ke P "__static_attributes__" 244 (.ref 54),ke P "__doc__" 245 .none] 2 }
noncomputable def u56:Obj:={ cls:=.type "type",data:=.cls { name:="NoCord",bases:=[.ref 24],mro:=[.ref 56,.ref 24,.type "ValueError",.type "Exception",.type "BaseException",.type "object"],ns:=55,qualname:="NoCord" },slots:=#[some (.ref 40),none,some (.str "NoCord" 223),some (.str "NoCord" 231),some (.builtin "ValueError.__new__"),some (.bool Bool.true)] }
def u57:Obj:={ cls:=.type "super",data:=.fields #[.ref 56,.ref 56,.ref 56] }
def u58:Obj:={ cls:=.type "builtin_function_or_method",data:=.fields #[.builtin "object.__init_subclass__",.ref 56] }
def u59:Obj:={ cls:=.type "tuple",data:=.seq #[.ref 24] }
def u60:Obj:={ cls:=.type "builtin_function_or_method",data:=.fields #[.builtin "type.__prepare__",.type "type"] }
noncomputable def u61(P:Params):Obj:={ cls:=.type "dict",data:=.dict #[ke P "__module__" 255 (.str "tautcord.errors" 187),ke P "__qualname__" 257 (.str "NoWorth" 256),ke P "__firstlineno__" 259 (.int 10 258),ke P "__static_attributes__" 260 (.ref 66)] 4 }
noncomputable def u64:Obj:=cG "NoWorth" "NoWorth" 250 10 0 0 62 false .none .none .none 253 254
def u65:Obj:={ cls:=.type "frame",slots:=#[some (.ref 64),some (.ref 3),some (.ref 61),none,some (.str "tautcord.errors" 187),none,some (.ref 0)] }
def u66:Obj:=tE
noncomputable def u67(P:Params):Obj:={ cls:=.type "dict",data:=.dict #[ke P "__module__" 255 (.str "tautcord.errors" 187),ke P "__firstlineno__" 259 (.int 10 258),ke P "__static_attributes__" 260 (.ref 66),ke P "__doc__" 261 .none] 2 }
noncomputable def u68:Obj:={ cls:=.type "type",data:=.cls { name:="NoWorth",bases:=[.ref 24],mro:=[.ref 68,.ref 24,.type "ValueError",.type "Exception",.type "BaseException",.type "object"],ns:=67,qualname:="NoWorth" },slots:=#[some (.ref 59),none,some (.str "NoWorth" 248),some (.str "NoWorth" 256),some (.builtin "ValueError.__new__"),some (.bool Bool.true)] }
def u69:Obj:={ cls:=.type "super",data:=.fields #[.ref 68,.ref 68,.ref 68] }
def u70:Obj:={ cls:=.type "builtin_function_or_method",data:=.fields #[.builtin "object.__init_subclass__",.ref 68] }
def L_2(P:Params):List Obj:=((((L_1 P).set 3 ({ cls:=.type "dict",data:=.dict (Array.mk (AP8 P)) 13 })).set 12 ({ cls:=.none,data:=.fields (Array.mk (AE4 P)) })).set 24 ({ cls:=.type "type",data:=.cls { name:="CordError",bases:=[.type "ValueError"],mro:=[.ref 24,.type "ValueError",.type "Exception",.type "BaseException",.type "object"],ns:=23,qualname:="CordError",subclasses:=[.ref 37,.ref 56,.ref 68] },slots:=#[some (.ref 15),none,some (.str "CordError" 189),some (.str "CordError" 197),some (.builtin "ValueError.__new__"),some (.bool Bool.true)] })).append [u40,u41,u42 P,tE,u44,u45,u46,tE,fE,u49,tE,u51,u52,u53,u54,u55 P,u56,u57,u58,u59,u60,u61 P,tE,fE,u64,u65,u66,u67 P,u68,u69,u70]
noncomputable def AOk(P:Params):List DictEntry:=(AP8 P).append [ke P "NoBead" 279 (.ref 80),ke P "NoText" 295 (.ref 92)]
noncomputable def AFb(P:Params):List Value:=(AE4 P).append [.int 12 0,.int 0 0,.ref 76,.int 14 0,.int 0 0,.ref 88]
def u71:Obj:={ cls:=.type "tuple",data:=.seq #[.ref 24] }
def u72:Obj:={ cls:=.type "builtin_function_or_method",data:=.fields #[.builtin "type.__prepare__",.type "type"] }
noncomputable def u73(P:Params):Obj:={ cls:=.type "dict",data:=.dict #[ke P "__module__" 271 (.str "tautcord.errors" 187),ke P "__qualname__" 273 (.str "NoBead" 272),ke P "__firstlineno__" 275 (.int 12 274),ke P "__static_attributes__" 276 (.ref 78)] 4 }
noncomputable def u76:Obj:=cG "NoBead" "NoBead" 266 12 0 0 74 false .none .none .none 269 270
def u77:Obj:={ cls:=.type "frame",slots:=#[some (.ref 76),some (.ref 3),some (.ref 73),none,some (.str "tautcord.errors" 187),none,some (.ref 0)] }
def u78:Obj:=tE
noncomputable def u79(P:Params):Obj:={ cls:=.type "dict",data:=.dict #[ke P "__module__" 271 (.str "tautcord.errors" 187),ke P "__firstlineno__" 275 (.int 12 274),ke P "__static_attributes__" 276 (.ref 78),ke P "__doc__" 277 .none] 2 }
noncomputable def u80:Obj:={ cls:=.type "type",data:=.cls { name:="NoBead",bases:=[.ref 24],mro:=[.ref 80,.ref 24,.type "ValueError",.type "Exception",.type "BaseException",.type "object"],ns:=79,qualname:="NoBead" },slots:=#[some (.ref 71),none,some (.str "NoBead" 264),some (.str "NoBead" 272),some (.builtin "ValueError.__new__"),some (.bool Bool.true)] }
def u81:Obj:={ cls:=.type "super",data:=.fields #[.ref 80,.ref 80,.ref 80] }
def u82:Obj:={ cls:=.type "builtin_function_or_method",data:=.fields #[.builtin "object.__init_subclass__",.ref 80] }
def u83:Obj:={ cls:=.type "tuple",data:=.seq #[.ref 24] }
def u84:Obj:={ cls:=.type "builtin_function_or_method",data:=.fields #[.builtin "type.__prepare__",.type "type"] }
noncomputable def u85(P:Params):Obj:={ cls:=.type "dict",data:=.dict #[ke P "__module__" 287 (.str "tautcord.errors" 187),ke P "__qualname__" 289 (.str "NoText" 288),ke P "__firstlineno__" 291 (.int 14 290),ke P "__static_attributes__" 292 (.ref 90)] 4 }
noncomputable def u88:Obj:=cG "NoText" "NoText" 282 14 0 0 86 false .none .none .none 285 286
def u89:Obj:={ cls:=.type "frame",slots:=#[some (.ref 88),some (.ref 3),some (.ref 85),none,some (.str "tautcord.errors" 187),none,some (.ref 0)] }
def u90:Obj:=tE
noncomputable def u91(P:Params):Obj:={ cls:=.type "dict",data:=.dict #[ke P "__module__" 287 (.str "tautcord.errors" 187),ke P "__firstlineno__" 291 (.int 14 290),ke P "__static_attributes__" 292 (.ref 90),ke P "__doc__" 293 .none] 2 }
noncomputable def u92:Obj:={ cls:=.type "type",data:=.cls { name:="NoText",bases:=[.ref 24],mro:=[.ref 92,.ref 24,.type "ValueError",.type "Exception",.type "BaseException",.type "object"],ns:=91,qualname:="NoText" },slots:=#[some (.ref 83),none,some (.str "NoText" 280),some (.str "NoText" 288),some (.builtin "ValueError.__new__"),some (.bool Bool.true)] }
def u93:Obj:={ cls:=.type "super",data:=.fields #[.ref 92,.ref 92,.ref 92] }
def u94:Obj:={ cls:=.type "builtin_function_or_method",data:=.fields #[.builtin "object.__init_subclass__",.ref 92] }
def L_3(P:Params):List Obj:=((((L_2 P).set 3 ({ cls:=.type "dict",data:=.dict (Array.mk (AOk P)) 15 })).set 12 ({ cls:=.none,data:=.fields (Array.mk (AFb P)) })).set 24 ({ cls:=.type "type",data:=.cls { name:="CordError",bases:=[.type "ValueError"],mro:=[.ref 24,.type "ValueError",.type "Exception",.type "BaseException",.type "object"],ns:=23,qualname:="CordError",subclasses:=[.ref 37,.ref 56,.ref 68,.ref 80,.ref 92] },slots:=#[some (.ref 15),none,some (.str "CordError" 189),some (.str "CordError" 197),some (.builtin "ValueError.__new__"),some (.bool Bool.true)] })).append [u71,u72,u73 P,tE,fE,u76,u77,u78,u79 P,u80,u81,u82,u83,u84,u85 P,tE,fE,u88,u89,u90,u91 P,u92,u93,u94]
noncomputable def AOI(P:Params):List DictEntry:=((AOk P).set 0 (ke P "__name__" 165 (.str "tautcord.ratios" 332))).append [ke P "NoName" 311 (.ref 104),ke P "is_whole" 320 (.ref 113),ke P "divisor" 331 (.ref 120),ke P "is_fraction" 340 (.ref 127),ke P "fraction" 350 (.ref 135),ke P "plus" 361 (.ref 142),ke P "minus" 369 (.ref 149),ke P "times" 379 (.ref 156),ke P "over" 387 (.ref 163)]
noncomputable def AFK(P:Params):List Value:=(AFb P).append [.int 16 0,.int 0 0,.ref 100,.int 19 0,.int 0 0,.ref 112,.int 21 0,.int 0 0,.ref 119,.int 30 0,.int 0 0,.ref 126,.int 36 0,.int 0 0,.ref 134,.int 45 0,.int 0 0,.ref 141,.int 50 0,.int 0 0,.ref 148,.int 52 0,.int 0 0,.ref 155,.int 56 0,.int 0 0,.ref 162]
noncomputable def u24:Obj:={ cls:=.type "type",data:=.cls { name:="CordError",bases:=[.type "ValueError"],mro:=[.ref 24,.type "ValueError",.type "Exception",.type "BaseException",.type "object"],ns:=23,qualname:="CordError",subclasses:=[.ref 37,.ref 56,.ref 68,.ref 80,.ref 92,.ref 104] },slots:=#[some (.ref 15),none,some (.str "CordError" 189),some (.str "CordError" 197),some (.builtin "ValueError.__new__"),some (.bool Bool.true)] }
def u95:Obj:={ cls:=.type "tuple",data:=.seq #[.ref 24] }
def u96:Obj:={ cls:=.type "builtin_function_or_method",data:=.fields #[.builtin "type.__prepare__",.type "type"] }
noncomputable def u97(P:Params):Obj:={ cls:=.type "dict",data:=.dict #[ke P "__module__" 303 (.str "tautcord.errors" 187),ke P "__qualname__" 305 (.str "NoName" 304),ke P "__firstlineno__" 307 (.int 16 306),ke P "__static_attributes__" 308 (.ref 102)] 4 }
noncomputable def ALS:Obj:=cG "NoName" "NoName" 298 16 0 0 98 false .none .none .none 301 302
def AMJ:Obj:={ cls:=.type "frame",slots:=#[some (.ref 100),some (.ref 3),some (.ref 97),none,some (.str "tautcord.errors" 187),none,some (.ref 0)] }
def AFn:Obj:=tE
noncomputable def AFy(P:Params):Obj:={ cls:=.type "dict",data:=.dict #[ke P "__module__" 303 (.str "tautcord.errors" 187),ke P "__firstlineno__" 307 (.int 16 306),ke P "__static_attributes__" 308 (.ref 102),ke P "__doc__" 309 .none] 2 }
noncomputable def AH7:Obj:={ cls:=.type "type",data:=.cls { name:="NoName",bases:=[.ref 24],mro:=[.ref 104,.ref 24,.type "ValueError",.type "Exception",.type "BaseException",.type "object"],ns:=103,qualname:="NoName" },slots:=#[some (.ref 95),none,some (.str "NoName" 296),some (.str "NoName" 304),some (.builtin "ValueError.__new__"),some (.bool Bool.true)] }
def APq:Obj:={ cls:=.type "super",data:=.fields #[.ref 104,.ref 104,.ref 104] }
def ALO:Obj:={ cls:=.type "builtin_function_or_method",data:=.fields #[.builtin "object.__init_subclass__",.ref 104] }
def ALN:Obj:=tS 317 ["thing"]
def ANg:Obj:=pF "is_whole" "is_whole" (top 9)
noncomputable def AI1:Obj:=c1 "is_whole" 314 19 1 3 107 318 319
def AJc:Obj:=f1 "is_whole" (top 9) mS1 112
noncomputable def AN4:Obj:=tS 324 ["one","other","first","second","rest"]
def APj:Obj:=pF "divisor" "divisor" (top 10)
noncomputable def AKR:Obj:=c1 "divisor" 321 21 2 3 114 329 330
def AHl:Obj:=f1 "divisor" (top 10) mS1 119
def APM:Obj:=tS 337 ["thing"]
def AMk:Obj:=pF "is_fraction" "is_fraction" (top 12)
noncomputable def AKZ:Obj:=c1 "is_fraction" 334 30 1 3 121 338 339
def AJi:Obj:=f1 "is_fraction" (top 12) mS2 126
def AGi:Obj:={ cls:=.type "tuple",data:=.seq #[.int 1 341] }
noncomputable def AP9:Obj:=tS 345 ["top","bottom","shared"]
def AMI:Obj:=pF "fraction" "fraction" (top 13)
noncomputable def AJC:Obj:=c1 "fraction" 342 36 2 3 129 348 349
def AKv:Obj:={ cls:=.type "function",dict:=none,data:=.func { name:="fraction",qualname:="fraction",params:=Cq (top 13),body:=.stmts (CK (top 13)),scope:=Af (top 13),globals:=3,closure:=[],defaults:=.ref 128,kwdefaults:=.none,doc:=.none,pyModule:=.str "tautcord.ratios" 332,annotations:=none,code:=.ref 134,closureTuple:=.none,builtins:=0 },slots:=#[] }
noncomputable def AOJ:Obj:=tS 354 ["one","other","shared","top","left"]
def APR:Obj:=pF "plus" "plus" (top 14)
noncomputable def AHb:Obj:=c1 "plus" 351 45 2 3 136 359 360
def AFo:Obj:=f1 "plus" (top 14) mS2 141
def ANU:Obj:=tS 365 ["one","other"]
def AM6:Obj:=pF "minus" "minus" (top 15)
noncomputable def AGI:Obj:=c1 "minus" 362 50 2 3 143 367 368
def AIK:Obj:=f1 "minus" (top 15) mS2 148
noncomputable def AN2:Obj:=tS 373 ["one","other","first","second"]
def AOg:Obj:=pF "times" "times" (top 16)
noncomputable def AI2:Obj:=c1 "times" 370 52 2 3 150 377 378
def AFp:Obj:=f1 "times" (top 16) mS2 155
def AOa:Obj:=tS 383 ["one","other"]
def ALK:Obj:=pF "over" "over" (top 17)
noncomputable def AJq:Obj:=c1 "over" 380 56 2 3 157 385 386
def AGv:Obj:=f1 "over" (top 17) mS2 162
def L_4(P:Params):List Obj:=((((L_3 P).set 3 ({ cls:=.type "dict",data:=.dict (Array.mk (AOI P)) 24 })).set 12 ({ cls:=.none,data:=.fields (Array.mk (AFK P)) })).set 24 (u24)).append [u95,u96,u97 P,tE,fE,ALS,AMJ,AFn,AFy P,AH7,APq,ALO,tE,fE,ALN,tE,ANg,AI1,AJc,tE,fE,AN4,tE,APj,AKR,AHl,tE,fE,APM,tE,AMk,AKZ,AJi,AGi,tE,fE,AP9,tE,AMI,AJC,AKv,tE,fE,AOJ,tE,APR,AHb,AFo,tE,fE,ANU,tE,AM6,AGI,AIK,tE,fE,AN2,tE,AOg,AI2,AFp,tE,fE,AOa,tE,ALK,AJq,AGv]
noncomputable def AOD(P:Params):List DictEntry:=((AOI P).set 0 (ke P "__name__" 165 (.str "tautcord.cords" 412))).append [ke P "is_under" 395 (.ref 170),ke P "side" 402 (.ref 177),ke P "is_rising" 411 (.ref 184),ke P "MOST_BEADS" 415 (.int 12 414),ke P "is_row_above" 421 (.ref 189)]
noncomputable def AFe(P:Params):List Value:=(AFK P).append [.int 60 0,.int 0 0,.ref 169,.int 62 0,.int 0 0,.ref 176,.int 68 0,.int 0 0,.ref 183,.int 77 0,.int 0 0,.ref 188]
def AOP:Obj:=tS 391 ["one","other"]
noncomputable def ALQ:Obj:=pF "is_under" "is_under" (top 18)
noncomputable def AJ3:Obj:=c1 "is_under" 388 60 2 3 164 393 394
def AKo:Obj:=f1 "is_under" (top 18) mS2 169
def AQE:Obj:=tS 399 ["one"]
def AMm:Obj:=pF "side" "side" (top 19)
noncomputable def AJ7:Obj:=c1 "side" 396 62 1 3 171 400 401
def AHZ:Obj:=f1 "side" (top 19) mS2 176
noncomputable def AMo:Obj:=tS 406 ["row","last","one"]
noncomputable def AO0:Obj:=pF "is_rising" "is_rising" (top 20)
noncomputable def AIv:Obj:=c1 "is_rising" 403 68 1 3 178 409 410
def AIa:Obj:=f1 "is_rising" (top 20) mS2 183
def AOc:Obj:=pF "is_row_above" "is_row_above" (top 23)
noncomputable def AJj:Obj:=cG "is_row_above" "is_row_above" 416 77 1 3 185 true .none .none (.ref 187) 419 420
def AI0:Obj:=f1 "is_row_above" (top 23) mS3 188
def L_5(P:Params):List Obj:=(((L_4 P).set 3 ({ cls:=.type "dict",data:=.dict (Array.mk (AOD P)) 29 })).set 12 ({ cls:=.none,data:=.fields (Array.mk (AFe P)) })).append [tE,fE,AOP,tE,ALQ,AJ3,AKo,tE,fE,AQE,tE,AMm,AJ7,AHZ,tE,fE,AMo,tE,AO0,AIv,AIa,tE,fE,AOc,AJj,AI0]
noncomputable def AMc(P:Params):List DictEntry:=((AOD P).set 0 (ke P "__name__" 165 (.str "tautcord.changes" 490))).append [ke P "Cord" 489 (.ref 241),ke P "heavier" 500 (.ref 252),ke P "longer" 509 (.ref 259),ke P "joined" 520 (.ref 266)]
noncomputable def AFP(P:Params):List Value:=(AFe P).append [.int 81 0,.int 0 0,.ref 195,.int 109 0,.int 0 0,.ref 251,.int 112 0,.int 0 0,.ref 258,.int 116 0,.int 0 0,.ref 265]
def ANq:Obj:={ cls:=.type "builtin_function_or_method",data:=.fields #[.builtin "type.__prepare__",.type "type"] }
noncomputable def AMl(P:Params):Obj:={ cls:=.type "dict",data:=.dict #[ke P "__module__" 429 (.str "tautcord.cords" 412),ke P "__qualname__" 431 (.str "Cord" 430),ke P "__firstlineno__" 433 (.int 81 432),ke P "__init__" 442 (.ref 203),ke P "gaps" 449 (.ref 210),ke P "weights" 456 (.ref 217),ke P "beads" 463 (.ref 224),ke P "length" 472 (.ref 231),ke P "turned" 479 (.ref 238),ke P "__static_attributes__" 482 (.ref 239)] 10 }
noncomputable def APx:Obj:={ cls:=.none,data:=.fields #[.int 83 0,.int 4 0,.ref 202,.int 91 0,.int 4 0,.ref 209,.int 94 0,.int 4 0,.ref 216,.int 97 0,.int 4 0,.ref 223,.int 100 0,.int 4 0,.ref 230,.int 106 0,.int 4 0,.ref 237] }
noncomputable def AO7:Obj:=cG "Cord" "Cord" 424 81 0 0 193 false .none .none .none 427 428
noncomputable def AMa:Obj:={ cls:=.type "frame",slots:=#[some (.ref 195),some (.ref 3),some (.ref 192),none,some (.str "tautcord.cords" 412),none,some (.ref 0)] }
def APb:Obj:=tS 437 ["self","gaps","weights"]
noncomputable def AMq:Obj:=pF "__init__" "Cord.__init__" (BX (top 24) 0)
noncomputable def AJS:Obj:=cO "__init__" "Cord.__init__" 434 83 3 3 197 440 441
def AHu:Obj:=fo "__init__" "Cord.__init__" (BX (top 24) 0) mS3 202
def ALX:Obj:=tS 446 ["self"]
noncomputable def AN5:Obj:=pF "gaps" "Cord.gaps" (BX (top 24) 1)
noncomputable def AG7:Obj:=cO "gaps" "Cord.gaps" 443 91 1 3 204 447 448
def AJr:Obj:=fo "gaps" "Cord.gaps" (BX (top 24) 1) mS3 209
def ANA:Obj:=tS 453 ["self"]
noncomputable def AMi:Obj:=pF "weights" "Cord.weights" (BX (top 24) 2)
noncomputable def AKL:Obj:=cO "weights" "Cord.weights" 450 94 1 3 211 454 455
def AFt:Obj:=fo "weights" "Cord.weights" (BX (top 24) 2) mS3 216
def ANR:Obj:=tS 460 ["self"]
noncomputable def AM1:Obj:=pF "beads" "Cord.beads" (BX (top 24) 3)
noncomputable def AKd:Obj:=cO "beads" "Cord.beads" 457 97 1 3 218 461 462
def AJo:Obj:=fo "beads" "Cord.beads" (BX (top 24) 3) mS3 223
noncomputable def AM8:Obj:=tS 467 ["self","whole","gap"]
noncomputable def ANM:Obj:=pF "length" "Cord.length" (BX (top 24) 4)
noncomputable def AJQ:Obj:=cO "length" "Cord.length" 464 100 1 3 225 470 471
def AF5:Obj:=fo "length" "Cord.length" (BX (top 24) 4) mS3 230
def AOY:Obj:=tS 476 ["self"]
noncomputable def APW:Obj:=pF "turned" "Cord.turned" (BX (top 24) 5)
noncomputable def AKh:Obj:=cO "turned" "Cord.turned" 473 106 1 3 232 477 478
def AHB:Obj:=fo "turned" "Cord.turned" (BX (top 24) 5) mS3 237
noncomputable def AIm:Obj:=tS 480 ["kept_gaps","kept_weights"]
noncomputable def AHe(P:Params):Obj:={ cls:=.type "dict",data:=.dict #[ke P "__module__" 429 (.str "tautcord.cords" 412),ke P "__firstlineno__" 433 (.int 81 432),ke P "__init__" 442 (.ref 203),ke P "gaps" 449 (.ref 210),ke P "weights" 456 (.ref 217),ke P "beads" 463 (.ref 224),ke P "length" 472 (.ref 231),ke P "turned" 479 (.ref 238),ke P "__static_attributes__" 482 (.ref 239),ke P "__dict__" 484 (.ref 242),ke P "__weakref__" 486 (.ref 243),ke P "__doc__" 487 .none] 4 }
noncomputable def AJT:Obj:={ cls:=.type "type",data:=.cls { name:="Cord",bases:=[.type "object"],mro:=[.ref 241,.type "object"],ns:=240,qualname:="Cord" },slots:=#[none,none,some (.str "Cord" 422),some (.str "Cord" 430),some (.builtin "object.__new__"),some (.bool Bool.true)] }
noncomputable def AH5:Obj:={ cls:=.type "getset_descriptor",data:=.fields #[.str "__dict__" 483,.ref 241,.builtin "function.__dict__",.builtin "function.__dict__#set"] }
def AGr:Obj:={ cls:=.type "getset_descriptor",data:=.fields #[.str "__weakref__" 485,.ref 241,.builtin "ExceptionGroup.__weakref__",.none] }
def AO5:Obj:={ cls:=.type "super",data:=.fields #[.ref 241,.ref 241,.ref 241] }
def APV:Obj:={ cls:=.type "builtin_function_or_method",data:=.fields #[.builtin "object.__init_subclass__",.ref 241] }
noncomputable def AMh:Obj:=tS 495 ["cord","bead","more"]
def ANs:Obj:=pF "heavier" "heavier" (top 26)
noncomputable def AGq:Obj:=c1 "heavier" 492 109 3 3 246 498 499
def AJI:Obj:=f1 "heavier" (top 26) mS4 251
def ANe:Obj:=tS 504 ["cord","gap","more"]
def AOS:Obj:=pF "longer" "longer" (top 27)
noncomputable def AIq:Obj:=c1 "longer" 501 112 3 3 253 507 508
def AKJ:Obj:=f1 "longer" (top 27) mS4 258
noncomputable def AOd:Obj:=tS 513 ["one","other","gaps","further","middle"]
noncomputable def AOv:Obj:=pF "joined" "joined" (top 28)
noncomputable def AIA:Obj:=c1 "joined" 510 116 2 3 260 518 519
def AGw:Obj:=f1 "joined" (top 28) mS4 265
def L_6(P:Params):List Obj:=(((L_5 P).set 3 ({ cls:=.type "dict",data:=.dict (Array.mk (AMc P)) 33 })).set 12 ({ cls:=.none,data:=.fields (Array.mk (AFP P)) })).append [tE,ANq,AMl P,tE,APx,AO7,AMa,tE,fE,APb,tE,AMq,AJS,AHu,tE,fE,ALX,tE,AN5,AG7,AJr,tE,fE,ANA,tE,AMi,AKL,AFt,tE,fE,ANR,tE,AM1,AKd,AJo,tE,fE,AM8,tE,ANM,AJQ,AF5,tE,fE,AOY,tE,APW,AKh,AHB,AIm,AHe P,AJT,AH5,AGr,AO5,APV,tE,fE,AMh,tE,ANs,AGq,AJI,tE,fE,ANe,tE,AOS,AIq,AKJ,tE,fE,AOd,tE,AOv,AIA,AGw]
noncomputable def ALt(P:Params):List DictEntry:=((AMc P).set 0 (ke P "__name__" 165 (.str "tautcord.ladders" 651))).append [ke P "check_bead" 528 (.ref 273),ke P "with_more" 537 (.ref 280),ke P "signs" 545 (.ref 285),ke P "turns" 551 (.ref 290),ke P "worths_below" 560 (.ref 297),ke P "up_to" 570 (.ref 304),ke P "row_at" 586 (.ref 311),ke P "poly" 596 (.ref 318),ke P "figure_at" 604 (.ref 325),ke P "poly_plus" 610 (.ref 330),ke P "poly_minus" 616 (.ref 335),ke P "scaled" 622 (.ref 340),ke P "shared_bottom" 631 (.ref 347),ke P "whole_figures" 637 (.ref 352),ke P "whole_times" 650 (.ref 359)]
noncomputable def AFS(P:Params):List Value:=(AFP P).append [.int 121 0,.int 0 0,.ref 272,.int 124 0,.int 0 0,.ref 279,.int 129 0,.int 0 0,.ref 284,.int 131 0,.int 0 0,.ref 289,.int 134 0,.int 0 0,.ref 296,.int 136 0,.int 0 0,.ref 303,.int 141 0,.int 0 0,.ref 310,.int 155 0,.int 0 0,.ref 317,.int 160 0,.int 0 0,.ref 324,.int 164 0,.int 0 0,.ref 329,.int 167 0,.int 0 0,.ref 334,.int 170 0,.int 0 0,.ref 339,.int 172 0,.int 0 0,.ref 346,.int 177 0,.int 0 0,.ref 351,.int 179 0,.int 0 0,.ref 358]
def AP3:Obj:=tS 524 ["cord","bead"]
def APe:Obj:=pF "check_bead" "check_bead" (top 29)
noncomputable def AIE:Obj:=c1 "check_bead" 521 121 2 3 267 526 527
def AGA:Obj:=f1 "check_bead" (top 29) mS4 272
def AOb:Obj:=tS 532 ["row","place","more"]
def AOs:Obj:=pF "with_more" "with_more" (top 30)
noncomputable def AHm:Obj:=c1 "with_more" 529 124 3 3 274 535 536
def AIX:Obj:=f1 "with_more" (top 30) mS4 279
def AMb:Obj:=pF "signs" "signs" (top 32)
noncomputable def AHP:Obj:=cG "signs" "signs" 540 129 1 3 281 true .none .none (.ref 283) 543 544
def AI8:Obj:=f1 "signs" (top 32) mS5 284
def AMX:Obj:=pF "turns" "turns" (top 33)
noncomputable def AIw:Obj:=cG "turns" "turns" 546 131 1 3 286 true .none .none (.ref 288) 549 550
def AFj:Obj:=f1 "turns" (top 33) mS5 289
noncomputable def AN3:Obj:=tS 555 ["cord","end","t"]
def AOw:Obj:=pF "worths_below" "worths_below" (top 34)
noncomputable def AKj:Obj:=c1 "worths_below" 552 134 3 3 291 558 559
def AHI:Obj:=f1 "worths_below" (top 34) mS5 296
noncomputable def AOO:Obj:=tS 564 ["cord","end","t","row"]
def AOV:Obj:=pF "up_to" "up_to" (top 35)
noncomputable def AJv:Obj:=c1 "up_to" 561 136 3 3 298 568 569
def AJP:Obj:=f1 "up_to" (top 35) mS5 303
noncomputable def ANK:Obj:=tS 574 ["cord","end","t","gaps","height","lean","row","weight","gap","pull"]
def AOX:Obj:=pF "row_at" "row_at" (top 36)
noncomputable def AJa:Obj:=c1 "row_at" 571 141 3 3 305 584 585
def AJ0:Obj:=f1 "row_at" (top 36) mS5 310
noncomputable def AM3:Obj:=tS 592 ["figures","most"]
def AOx:Obj:=pF "poly" "poly" (top 38)
noncomputable def AHn:Obj:=c1 "poly" 589 155 1 3 312 594 595
def AKV:Obj:=f1 "poly" (top 38) mS6 317
def ANo:Obj:=tS 600 ["one","power"]
def ANC:Obj:=pF "figure_at" "figure_at" (top 39)
noncomputable def AG8:Obj:=c1 "figure_at" 597 160 2 3 319 602 603
def AKF:Obj:=f1 "figure_at" (top 39) mS6 324
def APf:Obj:=pF "poly_plus" "poly_plus" (top 40)
noncomputable def AIG:Obj:=cG "poly_plus" "poly_plus" 605 164 2 3 326 true .none .none (.ref 328) 608 609
def AHv:Obj:=f1 "poly_plus" (top 40) mS6 329
def AMy:Obj:=pF "poly_minus" "poly_minus" (top 41)
noncomputable def AHw:Obj:=cG "poly_minus" "poly_minus" 611 167 2 3 331 true .none .none (.ref 333) 614 615
def AH4:Obj:=f1 "poly_minus" (top 41) mS6 334
def AMf:Obj:=pF "scaled" "scaled" (top 42)
noncomputable def AJe:Obj:=cG "scaled" "scaled" 617 170 2 3 336 true .none .none (.ref 338) 620 621
def AHj:Obj:=f1 "scaled" (top 42) mS6 339
noncomputable def AOz:Obj:=tS 626 ["figures","bottom","figure"]
def AP0:Obj:=pF "shared_bottom" "shared_bottom" (top 43)
noncomputable def AKX:Obj:=c1 "shared_bottom" 623 172 1 3 341 629 630
def AJX:Obj:=f1 "shared_bottom" (top 43) mS6 346
def AOp:Obj:=pF "whole_figures" "whole_figures" (top 44)
noncomputable def AK3:Obj:=cG "whole_figures" "whole_figures" 632 177 2 3 348 true .none .none (.ref 350) 635 636
def AKx:Obj:=f1 "whole_figures" (top 44) mS6 351
noncomputable def ANB:Obj:=tS 641 ["one","other","product","power","figure","further","factor"]
noncomputable def ALU:Obj:=pF "whole_times" "whole_times" (top 45)
noncomputable def AIs:Obj:=c1 "whole_times" 638 179 2 3 353 648 649
def AIg:Obj:=f1 "whole_times" (top 45) mS6 358
def L_7(P:Params):List Obj:=(((L_6 P).set 3 ({ cls:=.type "dict",data:=.dict (Array.mk (ALt P)) 48 })).set 12 ({ cls:=.none,data:=.fields (Array.mk (AFS P)) })).append [tE,fE,AP3,tE,APe,AIE,AGA,tE,fE,AOb,tE,AOs,AHm,AIX,tE,fE,AMb,AHP,AI8,tE,fE,AMX,AIw,AFj,tE,fE,AN3,tE,AOw,AKj,AHI,tE,fE,AOO,tE,AOV,AJv,AJP,tE,fE,ANK,tE,AOX,AJa,AJ0,tE,fE,AM3,tE,AOx,AHn,AKV,tE,fE,ANo,tE,ANC,AG8,AKF,tE,fE,APf,AIG,AHv,tE,fE,AMy,AHw,AH4,tE,fE,AMf,AJe,AHj,tE,fE,AOz,tE,AP0,AKX,AJX,tE,fE,AOp,AK3,AKx,tE,fE,ANB,tE,ALU,AIs,AIg]
noncomputable def APO(P:Params):List DictEntry:=((ALt P).set 0 (ke P "__name__" 165 (.str "tautcord.found" 750))).append [ke P "ladder" 666 (.ref 366),ke P "over_one_bottom" 674 (.ref 373),ke P "quotient_at" 686 (.ref 380),ke P "rest_of" 692 (.ref 385),ke P "in_lowest_terms" 698 (.ref 390),ke P "held" 707 (.ref 397),ke P "loose" 714 (.ref 404),ke P "near" 721 (.ref 411),ke P "free" 728 (.ref 418),ke P "ends" 742 (.ref 425),ke P "times_number" 749 (.ref 432),ke P "cord_with" 761 (.ref 439),ke P "even" 772 (.ref 446),ke P "even_about_gap" 782 (.ref 453),ke P "even_about_bead" 792 (.ref 460)]
noncomputable def AFJ(P:Params):List Value:=(AFS P).append [.int 188 0,.int 0 0,.ref 365,.int 205 0,.int 0 0,.ref 372,.int 208 0,.int 0 0,.ref 379,.int 217 0,.int 0 0,.ref 384,.int 224 0,.int 0 0,.ref 389,.int 230 0,.int 0 0,.ref 396,.int 232 0,.int 0 0,.ref 403,.int 234 0,.int 0 0,.ref 410,.int 236 0,.int 0 0,.ref 417,.int 238 0,.int 0 0,.ref 424,.int 246 0,.int 0 0,.ref 431,.int 249 0,.int 0 0,.ref 438,.int 255 0,.int 0 0,.ref 445,.int 267 0,.int 0 0,.ref 452,.int 272 0,.int 0 0,.ref 459]
noncomputable def ANV:Obj:=tS 656 ["upper","lower","one","other","quotients","place","quotient","rest"]
def ANt:Obj:=pF "ladder" "ladder" (top 47)
noncomputable def AKW:Obj:=c1 "ladder" 653 188 2 3 360 664 665
def AKz:Obj:=f1 "ladder" (top 47) mS7 365
def AOi:Obj:=tS 670 ["one","bottom"]
def AOm:Obj:=pF "over_one_bottom" "over_one_bottom" (top 48)
noncomputable def AG6:Obj:=c1 "over_one_bottom" 667 205 1 3 367 672 673
def AKP:Obj:=f1 "over_one_bottom" (top 48) mS7 372
noncomputable def AOy:Obj:=tS 678 ["place","one","other","last","divided_by","quotient"]
def AMT:Obj:=pF "quotient_at" "quotient_at" (top 49)
noncomputable def AGh:Obj:=c1 "quotient_at" 675 208 3 3 374 684 685
def AKH:Obj:=f1 "quotient_at" (top 49) mS7 379
def ALn:Obj:=pF "rest_of" "rest_of" (top 50)
noncomputable def AIS:Obj:=cG "rest_of" "rest_of" 687 217 2 3 381 true .none .none (.ref 383) 690 691
def AHF:Obj:=f1 "rest_of" (top 50) mS7 384
def AN6:Obj:=pF "in_lowest_terms" "in_lowest_terms" (top 51)
noncomputable def AF8:Obj:=cG "in_lowest_terms" "in_lowest_terms" 693 224 2 3 386 true .none .none (.ref 388) 696 697
def AIe:Obj:=f1 "in_lowest_terms" (top 51) mS7 389
def AOT:Obj:=tS 704 ["cord"]
def AMV:Obj:=pF "held" "held" (top 53)
noncomputable def AJN:Obj:=c1 "held" 701 230 1 3 391 705 706
def AHC:Obj:=f1 "held" (top 53) mS8 396
def AO4:Obj:=tS 711 ["cord"]
def ALe:Obj:=pF "loose" "loose" (top 54)
noncomputable def AKm:Obj:=c1 "loose" 708 232 1 3 398 712 713
def AHG:Obj:=f1 "loose" (top 54) mS8 403
def AOC:Obj:=tS 718 ["cord"]
noncomputable def AM7:Obj:=pF "near" "near" (top 55)
noncomputable def AK6:Obj:=c1 "near" 715 234 1 3 405 719 720
def AHg:Obj:=f1 "near" (top 55) mS8 410
def AO2:Obj:=tS 725 ["cord"]
noncomputable def ANn:Obj:=pF "free" "free" (top 56)
noncomputable def AIJ:Obj:=c1 "free" 722 236 1 3 412 726 727
def AGu:Obj:=f1 "free" (top 56) mS8 417
noncomputable def APm:Obj:=tS 732 ["cord","height","lean","gaps","here","leaning","weight","gap"]
def AO9:Obj:=pF "ends" "ends" (top 57)
noncomputable def AFv:Obj:=c1 "ends" 729 238 3 3 419 740 741
def AH9:Obj:=f1 "ends" (top 57) mS8 424
def APo:Obj:=tS 746 ["one"]
def ALp:Obj:=pF "times_number" "times_number" (top 58)
noncomputable def AKD:Obj:=c1 "times_number" 743 246 1 3 426 747 748
def AJp:Obj:=f1 "times_number" (top 58) mS8 431
noncomputable def AO3:Obj:=tS 755 ["upper","lower","told","steps"]
def AL4:Obj:=pF "cord_with" "cord_with" (top 60)
noncomputable def AHy:Obj:=c1 "cord_with" 752 249 2 3 433 759 760
def AGH:Obj:=f1 "cord_with" (top 60) mS9 438
noncomputable def AMF:Obj:=tS 765 ["helds","length","upper","lower","weight"]
noncomputable def AOf:Obj:=pF "even" "even" (top 61)
noncomputable def AKt:Obj:=c1 "even" 762 255 2 3 440 770 771
def AGm:Obj:=f1 "even" (top 61) mS9 445
noncomputable def ALV:Obj:=tS 776 ["half","gaps","weights","middle"]
noncomputable def AO1:Obj:=pF "even_about_gap" "even_about_gap" (top 62)
noncomputable def AGJ:Obj:=c1 "even_about_gap" 773 267 1 3 447 780 781
def AHo:Obj:=f1 "even_about_gap" (top 62) mS9 452
def AL6:Obj:=tS 786 ["half","middle","gaps","weights"]
def APr:Obj:=pF "even_about_bead" "even_about_bead" (top 63)
noncomputable def AGC:Obj:=c1 "even_about_bead" 783 272 2 3 454 790 791
def AFq:Obj:=f1 "even_about_bead" (top 63) mS9 459
def L_8(P:Params):List Obj:=(((L_7 P).set 3 ({ cls:=.type "dict",data:=.dict (Array.mk (APO P)) 63 })).set 12 ({ cls:=.none,data:=.fields (Array.mk (AFJ P)) })).append [tE,fE,ANV,tE,ANt,AKW,AKz,tE,fE,AOi,tE,AOm,AG6,AKP,tE,fE,AOy,tE,AMT,AGh,AKH,tE,fE,ALn,AIS,AHF,tE,fE,AN6,AF8,AIe,tE,fE,AOT,tE,AMV,AJN,AHC,tE,fE,AO4,tE,ALe,AKm,AHG,tE,fE,AOC,tE,AM7,AK6,AHg,tE,fE,AO2,tE,ANn,AIJ,AGu,tE,fE,APm,tE,AO9,AFv,AH9,tE,fE,APo,tE,ALp,AKD,AJp,tE,fE,AO3,tE,AL4,AHy,AGH,tE,fE,AMF,tE,AOf,AKt,AGm,tE,fE,ALV,tE,AO1,AGJ,AHo,tE,fE,AL6,tE,APr,AGC,AFq]
noncomputable def AMr(P:Params):List DictEntry:=((APO P).set 0 (ke P "__name__" 165 (.str "tautcord.rows" 918))).append [ke P "with_worths" 798 (.ref 465),ke P "walked" 816 (.ref 473),ke P "heights_of" 824 (.ref 478),ke P "mode" 835 (.ref 485),ke P "FIGURES" 839 (.str "0123456789" 838),ke P "MOST_FIGURES" 841 (.int 30 840),ke P "show_fraction" 850 (.ref 492),ke P "show_row" 856 (.ref 497),ke P "show_cord" 867 (.ref 504),ke P "read_fraction" 878 (.ref 511),ke P "read_row" 884 (.ref 516),ke P "read_cord" 890 (.ref 521),ke P "check_text" 897 (.ref 528),ke P "are_figures" 903 (.ref 533),ke P "without_minus" 910 (.ref 540),ke P "within_brackets" 917 (.ref 547),ke P "LETTERS" 921 (.str "abcdefghijklmnopqrstuvwxyz" 920),ke P "LONGEST_NAME" 923 (.int 8 922),ke P "MOST_HALVINGS" 925 (.int 60 924)]
noncomputable def AFf(P:Params):List Value:=(AFJ P).append [.int 276 0,.int 0 0,.ref 464,.int 284 0,.int 0 0,.ref 472,.int 296 0,.int 0 0,.ref 477,.int 298 0,.int 0 0,.ref 484,.int 307 0,.int 0 0,.ref 491,.int 313 0,.int 0 0,.ref 496,.int 315 0,.int 0 0,.ref 503,.int 322 0,.int 0 0,.ref 510,.int 333 0,.int 0 0,.ref 515,.int 338 0,.int 0 0,.ref 520,.int 347 0,.int 0 0,.ref 527,.int 350 0,.int 0 0,.ref 532,.int 354 0,.int 0 0,.ref 539,.int 358 0,.int 0 0,.ref 546]
noncomputable def AMe:Obj:=pF "with_worths" "with_worths" (top 64)
noncomputable def AGF:Obj:=cG "with_worths" "with_worths" 793 276 2 3 461 true .none .none (.ref 463) 796 797
def AHt:Obj:=f1 "with_worths" (top 64) mS9 464
def AKu:Obj:={ cls:=.type "tuple",data:=.seq #[.none,.none] }
noncomputable def AOl:Obj:=tS 804 ["cord","t","height","lean","here","leaning","weights","steps","place","gap"]
noncomputable def ALw:Obj:=pF "walked" "walked" (top 66)
noncomputable def AFh:Obj:=c1 "walked" 801 284 4 3 467 814 815
noncomputable def AFi:Obj:={ cls:=.type "function",dict:=none,data:=.func { name:="walked",qualname:="walked",params:=Cq (top 66),body:=.stmts (CK (top 66)),scope:=Af (top 66),globals:=3,closure:=[],defaults:=.ref 466,kwdefaults:=.none,doc:=.none,pyModule:=.str "tautcord.walks" 799,annotations:=none,code:=.ref 472,closureTuple:=.none,builtins:=0 },slots:=#[] }
noncomputable def AP5:Obj:=pF "heights_of" "heights_of" (top 68)
noncomputable def AIH:Obj:=cG "heights_of" "heights_of" 819 296 1 3 474 true .none .none (.ref 476) 822 823
def AKn:Obj:=f1 "heights_of" (top 68) AQG 477
noncomputable def AOo:Obj:=tS 828 ["cord","end","t","steps","last"]
noncomputable def ALk:Obj:=pF "mode" "mode" (top 69)
noncomputable def AH1:Obj:=c1 "mode" 825 298 3 3 479 833 834
def AGO:Obj:=f1 "mode" (top 69) AQG 484
def APA:Obj:=tS 845 ["one","top","bottom"]
def AO6:Obj:=pF "show_fraction" "show_fraction" (top 73)
noncomputable def AGS:Obj:=c1 "show_fraction" 842 307 1 3 486 848 849
def AHL:Obj:=f1 "show_fraction" (top 73) Rt 491
def AOe:Obj:=pF "show_row" "show_row" (top 74)
noncomputable def AFl:Obj:=cG "show_row" "show_row" 851 313 1 3 493 true .none .none (.ref 495) 854 855
def AHR:Obj:=f1 "show_row" (top 74) Rt 496
noncomputable def ALx:Obj:=tS 860 ["cord","gaps","words","weight","gap"]
def AMD:Obj:=pF "show_cord" "show_cord" (top 75)
noncomputable def AJH:Obj:=c1 "show_cord" 857 315 1 3 498 865 866
def AJZ:Obj:=f1 "show_cord" (top 75) Rt 503
noncomputable def AMH:Obj:=tS 871 ["text","parts","top","bottom","one"]
def AN1:Obj:=pF "read_fraction" "read_fraction" (top 76)
noncomputable def AGU:Obj:=c1 "read_fraction" 868 322 1 3 505 876 877
def AI4:Obj:=f1 "read_fraction" (top 76) Rt 510
def AMK:Obj:=pF "read_row" "read_row" (top 77)
noncomputable def AGW:Obj:=cG "read_row" "read_row" 879 333 1 3 512 true .none .none (.ref 514) 882 883
def AGj:Obj:=f1 "read_row" (top 77) Rt 515
def AMt:Obj:=pF "read_cord" "read_cord" (top 78)
noncomputable def AHc:Obj:=cG "read_cord" "read_cord" 885 338 1 3 517 true .none .none (.ref 519) 888 889
def AJ1:Obj:=f1 "read_cord" (top 78) Rt 520
def AOt:Obj:=tS 894 ["thing"]
def ANb:Obj:=pF "check_text" "check_text" (top 79)
noncomputable def AIB:Obj:=c1 "check_text" 891 347 1 3 522 895 896
def AJb:Obj:=f1 "check_text" (top 79) Rt 527
def AOH:Obj:=pF "are_figures" "are_figures" (top 80)
noncomputable def AIL:Obj:=cG "are_figures" "are_figures" 898 350 1 3 529 true .none .none (.ref 531) 901 902
def AKB:Obj:=f1 "are_figures" (top 80) Rt 532
def ALP:Obj:=tS 907 ["text"]
def ALo:Obj:=pF "without_minus" "without_minus" (top 81)
noncomputable def AIr:Obj:=c1 "without_minus" 904 354 1 3 534 908 909
def AGs:Obj:=f1 "without_minus" (top 81) Rt 539
def ANm:Obj:=tS 914 ["word"]
def APQ:Obj:=pF "within_brackets" "within_brackets" (top 82)
noncomputable def AGg:Obj:=c1 "within_brackets" 911 358 1 3 541 915 916
def AGK:Obj:=f1 "within_brackets" (top 82) Rt 546
def L_9(P:Params):List Obj:=(((L_8 P).set 3 ({ cls:=.type "dict",data:=.dict (Array.mk (AMr P)) 82 })).set 12 ({ cls:=.none,data:=.fields (Array.mk (AFf P)) })).append [tE,fE,AMe,AGF,AHt,AKu,tE,fE,AOl,tE,ALw,AFh,AFi,tE,fE,AP5,AIH,AKn,tE,fE,AOo,tE,ALk,AH1,AGO,tE,fE,APA,tE,AO6,AGS,AHL,tE,fE,AOe,AFl,AHR,tE,fE,ALx,tE,AMD,AJH,AJZ,tE,fE,AMH,tE,AN1,AGU,AI4,tE,fE,AMK,AGW,AGj,tE,fE,AMt,AHc,AJ1,tE,fE,AOt,tE,ANb,AIB,AJb,tE,fE,AOH,AIL,AKB,tE,fE,ALP,tE,ALo,AIr,AGs,tE,fE,ANm,tE,APQ,AGg,AGK]
def AFH(P:Params):List DictEntry:=(AMr P).append [ke P "FORMS" 990 (.ref 548)]
noncomputable def AHk(P:Params):Obj:={ cls:=.type "dict",data:=.dict #[ke P "cord" 926 (.ref 549),ke P "turn" 929 (.ref 550),ke P "join" 932 (.ref 551),ke P "heavier" 936 (.ref 552),ke P "longer" 941 (.ref 553),ke P "find" 946 (.ref 554),ke P "even" 949 (.ref 555),ke P "drop" 952 (.ref 556),ke P "show" 954 (.ref 557),ke P "poly" 956 (.ref 558),ke P "count" 959 (.ref 559),ke P "span" 963 (.ref 560),ke P "mode" 968 (.ref 561),ke P "alike" 972 (.ref 562)] 14 }
def AJ6:Obj:=tS 927 ["new","cord"]
def AGx:Obj:=tS 930 ["new","name"]
def AHf:Obj:=tS 933 ["new","name","name"]
def AHA:Obj:=tS 937 ["new","name","whole","fraction"]
def AKQ:Obj:=tS 942 ["new","name","whole","fraction"]
def AJy:Obj:=tS 947 ["new","two polys"]
def AHT:Obj:=tS 950 ["new","length and worths"]
def AKC:Obj:=tS 953 ["name"]
def AGn:Obj:=tS 955 ["name"]
def AJ2:Obj:=tS 957 ["name","which"]
def AFx:Obj:=tS 960 ["name","end","fraction"]
def AJd:Obj:=tS 964 ["name","end","whole","halvings"]
def AKb:Obj:=tS 969 ["name","end","fraction"]
def AHq:Obj:=tS 973 ["name","name","end"]
def AN9(P:Params):List Obj:=((L_9 P).set 3 ({ cls:=.type "dict",data:=.dict (Array.mk (AFH P)) 83 })).append [AHk P,AJ6,AGx,AHf,AHA,AKQ,AJy,AHT,AKC,AGn,AJ2,AFx,AJd,AKb,AHq]
noncomputable def AFO(P:Params):List DictEntry:=((AFH P).set 0 (ke P "__name__" 165 (.str "tautcord.desk" 1089))).append [ke P "read_told" 996 (.ref 567),ke P "kinds_of" 1003 (.ref 574),ke P "read_thing" 1011 (.ref 581),ke P "read_name" 1017 (.ref 586),ke P "read_whole" 1025 (.ref 593),ke P "read_halvings" 1033 (.ref 600),ke P "read_choice" 1041 (.ref 607),ke P "read_some" 1049 (.ref 614),ke P "read_two_polys" 1055 (.ref 619),ke P "alike" 1066 (.ref 626),ke P "span" 1082 (.ref 633),ke P "above_all" 1088 (.ref 638)]
noncomputable def ACS(P:Params):List Value:=(AFf P).append [.int 367 0,.int 0 0,.ref 566,.int 377 0,.int 0 0,.ref 573,.int 379 0,.int 0 0,.ref 580,.int 397 0,.int 0 0,.ref 585,.int 401 0,.int 0 0,.ref 592,.int 406 0,.int 0 0,.ref 599,.int 411 0,.int 0 0,.ref 606,.int 415 0,.int 0 0,.ref 613,.int 420 0,.int 0 0,.ref 618,.int 426 0,.int 0 0,.ref 625,.int 431 0,.int 0 0,.ref 632,.int 443 0,.int 0 0,.ref 637]
def AO8:Obj:=pF "read_told" "read_told" (top 88)
noncomputable def AFr:Obj:=cG "read_told" "read_told" 991 367 1 3 563 true .none .none (.ref 565) 994 995
def AIC:Obj:=f1 "read_told" (top 88) Uy 566
def APi:Obj:=tS 1000 ["deed"]
def ANW:Obj:=pF "kinds_of" "kinds_of" (top 89)
noncomputable def AK4:Obj:=c1 "kinds_of" 997 377 1 3 568 1001 1002
def AKr:Obj:=f1 "kinds_of" (top 89) Uy 573
def AMn:Obj:=tS 1007 ["kind","text"]
def AOK:Obj:=pF "read_thing" "read_thing" (top 90)
noncomputable def AJD:Obj:=c1 "read_thing" 1004 379 2 3 575 1009 1010
def AG1:Obj:=f1 "read_thing" (top 90) Uy 580
def ANI:Obj:=pF "read_name" "read_name" (top 91)
noncomputable def AGf:Obj:=cG "read_name" "read_name" 1012 397 1 3 582 true .none .none (.ref 584) 1015 1016
def AFw:Obj:=f1 "read_name" (top 91) Uy 585
def AMx:Obj:=tS 1021 ["text","one"]
def APX:Obj:=pF "read_whole" "read_whole" (top 92)
noncomputable def AKN:Obj:=c1 "read_whole" 1018 401 1 3 587 1023 1024
def AHV:Obj:=f1 "read_whole" (top 92) Uy 592
def AM4:Obj:=tS 1029 ["text","halvings"]
def AOu:Obj:=pF "read_halvings" "read_halvings" (top 93)
noncomputable def AGt:Obj:=c1 "read_halvings" 1026 406 1 3 594 1031 1032
def AIi:Obj:=f1 "read_halvings" (top 93) Uy 599
def AP7:Obj:=tS 1037 ["text","choices"]
def APp:Obj:=pF "read_choice" "read_choice" (top 94)
noncomputable def AHd:Obj:=c1 "read_choice" 1034 411 2 3 601 1039 1040
def AGB:Obj:=f1 "read_choice" (top 94) Uy 606
def APG:Obj:=tS 1045 ["text","row"]
def AOr:Obj:=pF "read_some" "read_some" (top 95)
noncomputable def AKG:Obj:=c1 "read_some" 1042 415 1 3 608 1047 1048
def AJB:Obj:=f1 "read_some" (top 95) Uy 613
def AOE:Obj:=pF "read_two_polys" "read_two_polys" (top 96)
noncomputable def AIQ:Obj:=cG "read_two_polys" "read_two_polys" 1050 420 1 3 615 true .none .none (.ref 617) 1053 1054
def AFm:Obj:=f1 "read_two_polys" (top 96) Uy 618
def ANh:Obj:=tS 1061 ["one","other","end"]
noncomputable def AM5:Obj:=pF "alike" "alike" (top 98)
noncomputable def AJE:Obj:=c1 "alike" 1058 426 3 3 620 1064 1065
def AJ4:Obj:=f1 "alike" (top 98) AQc 625
noncomputable def AMC:Obj:=tS 1072 ["cord","end","k","halvings","low","high","halving","middle"]
def AMz:Obj:=pF "span" "span" (top 100)
noncomputable def AKe:Obj:=c1 "span" 1069 431 4 3 627 1080 1081
def AHs:Obj:=f1 "span" (top 100) ANv 632
def ALa:Obj:=pF "above_all" "above_all" (top 101)
noncomputable def AGL:Obj:=cG "above_all" "above_all" 1083 443 1 3 634 true .none .none (.ref 636) 1086 1087
def AHJ:Obj:=f1 "above_all" (top 101) ANv 637
def APU(P:Params):List Obj:=(((AN9 P).set 3 ({ cls:=.type "dict",data:=.dict (Array.mk (AFO P)) 95 })).set 12 ({ cls:=.none,data:=.fields (Array.mk (ACS P)) })).append [tE,fE,AO8,AFr,AIC,tE,fE,APi,tE,ANW,AK4,AKr,tE,fE,AMn,tE,AOK,AJD,AG1,tE,fE,ANI,AGf,AFw,tE,fE,AMx,tE,APX,AKN,AHV,tE,fE,AM4,tE,AOu,AGt,AIi,tE,fE,AP7,tE,APp,AHd,AGB,tE,fE,APG,tE,AOr,AKG,AJB,tE,fE,AOE,AIQ,AFm,tE,fE,ANh,tE,AM5,AJE,AJ4,tE,fE,AMC,tE,AMz,AKe,AHs,tE,fE,ALa,AGL,AHJ]
noncomputable def AFQ(P:Params):List DictEntry:=((AFO P).set 0 (ke P "__name__" 165 (.str "law_tautcord_k87_whole_from_text_to_text" 1181))).append [ke P "Desk" 1145 (.ref 674),ke P "made" 1153 (.ref 685),ke P "answer" 1161 (.ref 692),ke P "tone" 1169 (.ref 699),ke P "counted" 1180 (.ref 706),ke P "_law_cell_at" 1190 (.ref 713)]
noncomputable def ABO(P:Params):List Value:=(ACS P).append [.int 450 0,.int 0 0,.ref 644,.int 476 0,.int 0 0,.ref 684,.int 490 0,.int 0 0,.ref 691,.int 502 0,.int 0 0,.ref 698,.int 510 0,.int 0 0,.ref 705,.int 515 0,.int 0 0,.ref 712]
def ANS:Obj:={ cls:=.type "builtin_function_or_method",data:=.fields #[.builtin "type.__prepare__",.type "type"] }
noncomputable def APJ(P:Params):Obj:={ cls:=.type "dict",data:=.dict #[ke P "__module__" 1098 (.str "tautcord.desk" 1089),ke P "__qualname__" 1100 (.str "Desk" 1099),ke P "__firstlineno__" 1102 (.int 450 1101),ke P "__init__" 1109 (.ref 652),ke P "say" 1122 (.ref 659),ke P "with_cords" 1128 (.ref 664),ke P "cord_by" 1136 (.ref 671),ke P "__static_attributes__" 1138 (.ref 672)] 8 }
noncomputable def APF:Obj:={ cls:=.none,data:=.fields #[.int 452 0,.int 4 0,.ref 651,.int 455 0,.int 4 0,.ref 658,.int 469 0,.int 4 0,.ref 663,.int 472 0,.int 4 0,.ref 670] }
noncomputable def AM9:Obj:=cG "Desk" "Desk" 1093 450 0 0 642 false .none .none .none 1096 1097
noncomputable def AMd:Obj:={ cls:=.type "frame",slots:=#[some (.ref 644),some (.ref 3),some (.ref 641),none,some (.str "tautcord.desk" 1089),none,some (.ref 0)] }
def AMg:Obj:=tS 1106 ["self"]
noncomputable def APv:Obj:=pF "__init__" "Desk.__init__" (BX (top 103) 0)
noncomputable def AKM:Obj:=cO "__init__" "Desk.__init__" 1103 452 1 3 646 1107 1108
def AIk:Obj:=fo "__init__" "Desk.__init__" (BX (top 103) 0) Vq 651
noncomputable def AL1:Obj:=tS 1113 ["self","row","order","deed","told","things","cord"]
noncomputable def APB:Obj:=pF "say" "Desk.say" (BX (top 103) 1)
noncomputable def AGT:Obj:=cO "say" "Desk.say" 1110 455 2 3 653 1120 1121
def AG4:Obj:=fo "say" "Desk.say" (BX (top 103) 1) Vq 658
noncomputable def APc:Obj:=pF "with_cords" "Desk.with_cords" (BX (top 103) 2)
noncomputable def AHa:Obj:=cG "with_cords" "Desk.with_cords" 1123 469 3 3 660 true .none .none (.ref 662) 1126 1127
def AJA:Obj:=fo "with_cords" "Desk.with_cords" (BX (top 103) 2) Vq 663
def AL0:Obj:=tS 1132 ["self","name"]
noncomputable def ANf:Obj:=pF "cord_by" "Desk.cord_by" (BX (top 103) 3)
noncomputable def AIF:Obj:=cO "cord_by" "Desk.cord_by" 1129 472 2 3 665 1134 1135
def AGD:Obj:=fo "cord_by" "Desk.cord_by" (BX (top 103) 3) Vq 670
def AIo:Obj:=tS 1137 ["kept"]
noncomputable def AF2(P:Params):Obj:={ cls:=.type "dict",data:=.dict #[ke P "__module__" 1098 (.str "tautcord.desk" 1089),ke P "__firstlineno__" 1102 (.int 450 1101),ke P "__init__" 1109 (.ref 652),ke P "say" 1122 (.ref 659),ke P "with_cords" 1128 (.ref 664),ke P "cord_by" 1136 (.ref 671),ke P "__static_attributes__" 1138 (.ref 672),ke P "__dict__" 1140 (.ref 675),ke P "__weakref__" 1142 (.ref 676),ke P "__doc__" 1143 .none] 4 }
noncomputable def AJU:Obj:={ cls:=.type "type",data:=.cls { name:="Desk",bases:=[.type "object"],mro:=[.ref 674,.type "object"],ns:=673,qualname:="Desk" },slots:=#[none,none,some (.str "Desk" 1091),some (.str "Desk" 1099),some (.builtin "object.__new__"),some (.bool Bool.true)] }
def AGN:Obj:={ cls:=.type "getset_descriptor",data:=.fields #[.str "__dict__" 1139,.ref 674,.builtin "function.__dict__",.builtin "function.__dict__#set"] }
def AG2:Obj:={ cls:=.type "getset_descriptor",data:=.fields #[.str "__weakref__" 1141,.ref 674,.builtin "ExceptionGroup.__weakref__",.none] }
def AL2:Obj:={ cls:=.type "super",data:=.fields #[.ref 674,.ref 674,.ref 674] }
def ANu:Obj:={ cls:=.type "builtin_function_or_method",data:=.fields #[.builtin "object.__init_subclass__",.ref 674] }
def ANX:Obj:=tS 1149 ["deed","things"]
def AOM:Obj:=pF "made" "made" (top 104)
noncomputable def AKI:Obj:=c1 "made" 1146 476 2 3 679 1151 1152
def AIf:Obj:=f1 "made" (top 104) Vq 684
def AOj:Obj:=tS 1157 ["deed","things"]
def ANw:Obj:=pF "answer" "answer" (top 105)
noncomputable def AJg:Obj:=c1 "answer" 1154 490 2 3 686 1159 1160
def AKi:Obj:=f1 "answer" (top 105) Vq 691
def AP6:Obj:=tS 1165 ["cord","which"]
noncomputable def ANi:Obj:=pF "tone" "tone" (top 106)
noncomputable def AJG:Obj:=c1 "tone" 1162 502 2 3 693 1167 1168
def AHh:Obj:=f1 "tone" (top 106) Vq 698
noncomputable def AL3:Obj:=tS 1173 ["cord","end","t","below","most"]
noncomputable def ALh:Obj:=pF "counted" "counted" (top 107)
noncomputable def AHW:Obj:=c1 "counted" 1170 510 3 3 700 1178 1179
def AKf:Obj:=f1 "counted" (top 107) Vq 705
noncomputable def APH:Obj:=tS 1186 ["_law_script","_law_k"]
noncomputable def AMv:Obj:=pF "_law_cell_at" "_law_cell_at" (top 109)
noncomputable def AHr:Obj:=c1 "_law_cell_at" 1183 515 2 3 707 1188 1189
def AIP:Obj:=f1 "_law_cell_at" (top 109) Jv 712
def AOB(P:Params):List Obj:=(((APU P).set 3 ({ cls:=.type "dict",data:=.dict (Array.mk (AFQ P)) 101 })).set 12 ({ cls:=.none,data:=.fields (Array.mk (ABO P)) })).append [tE,ANS,APJ P,tE,APF,AM9,AMd,tE,fE,AMg,tE,APv,AKM,AIk,tE,fE,AL1,tE,APB,AGT,AG4,tE,fE,APc,AHa,AJA,tE,fE,AL0,tE,ANf,AIF,AGD,AIo,AF2 P,AJU,AGN,AG2,AL2,ANu,tE,fE,ANX,tE,AOM,AKI,AIf,tE,fE,AOj,tE,ANw,AJg,AKi,tE,fE,AP6,tE,ANi,AJG,AHh,tE,fE,AL3,tE,ALh,AHW,AKf,tE,fE,APH,tE,AMv,AHr,AIP]
noncomputable def AMw(P:Params):List DictEntry:=(AFQ P).append [ke P "_law_low" 1201 (.ref 720),ke P "_law_plus" 1209 (.ref 727),ke P "_law_minus" 1217 (.ref 734),ke P "_law_times" 1225 (.ref 741),ke P "_law_text" 1232 (.ref 748),ke P "_law_shown" 1243 (.ref 755),ke P "_law_walk" 1256 (.ref 762),ke P "_law_drawn" 1270 (.ref 769),ke P "_law_read" 1280 (.ref 776),ke P "_law_worth" 1290 (.ref 783),ke P "_law_counts" 1301 (.ref 790),ke P "_law_tones_hold" 1307 (.ref 795),ke P "_law_parted" 1320 (.ref 802),ke P "_law_span_holds" 1326 (.ref 807),ke P "_law_changed" 1341 (.ref 814)]
noncomputable def ACx(P:Params):List Value:=(ABO P).append [.int 519 0,.int 0 0,.ref 719,.int 529 0,.int 0 0,.ref 726,.int 531 0,.int 0 0,.ref 733,.int 533 0,.int 0 0,.ref 740,.int 535 0,.int 0 0,.ref 747,.int 539 0,.int 0 0,.ref 754,.int 546 0,.int 0 0,.ref 761,.int 556 0,.int 0 0,.ref 768,.int 570 0,.int 0 0,.ref 775,.int 575 0,.int 0 0,.ref 782,.int 580 0,.int 0 0,.ref 789,.int 583 0,.int 0 0,.ref 794,.int 595 0,.int 0 0,.ref 801,.int 602 0,.int 0 0,.ref 806,.int 612 0,.int 0 0,.ref 813]
noncomputable def APu:Obj:=tS 1194 ["_law_top","_law_bottom","_law_one","_law_other","_law_rest"]
def AOZ:Obj:=pF "_law_low" "_law_low" (top 110)
noncomputable def AJJ:Obj:=c1 "_law_low" 1191 519 2 3 714 1199 1200
def AIt:Obj:=f1 "_law_low" (top 110) Jv 719
def AMY:Obj:=tS 1205 ["_law_one","_law_other"]
def ALl:Obj:=pF "_law_plus" "_law_plus" (top 111)
noncomputable def AFg:Obj:=c1 "_law_plus" 1202 529 2 3 721 1207 1208
def AHY:Obj:=f1 "_law_plus" (top 111) Jv 726
def ALY:Obj:=tS 1213 ["_law_one","_law_other"]
def APt:Obj:=pF "_law_minus" "_law_minus" (top 112)
noncomputable def AH2:Obj:=c1 "_law_minus" 1210 531 2 3 728 1215 1216
def AGZ:Obj:=f1 "_law_minus" (top 112) Jv 733
def ANd:Obj:=tS 1221 ["_law_one","_law_other"]
noncomputable def ANr:Obj:=pF "_law_times" "_law_times" (top 113)
noncomputable def AIx:Obj:=c1 "_law_times" 1218 533 2 3 735 1223 1224
def AKO:Obj:=f1 "_law_times" (top 113) Jv 740
def APY:Obj:=tS 1229 ["_law_one"]
noncomputable def AM0:Obj:=pF "_law_text" "_law_text" (top 114)
noncomputable def AKg:Obj:=c1 "_law_text" 1226 535 1 3 742 1230 1231
def AJl:Obj:=f1 "_law_text" (top 114) Jv 747
noncomputable def AL9:Obj:=tS 1236 ["_law_cord","_law_gaps","_law_weights","_law_words","_law_k"]
noncomputable def ANz:Obj:=pF "_law_shown" "_law_shown" (top 115)
noncomputable def AIZ:Obj:=c1 "_law_shown" 1233 539 1 3 749 1241 1242
def AJ5:Obj:=f1 "_law_shown" (top 115) Jv 754
noncomputable def ANa:Obj:=tS 1247 ["_law_gaps","_law_weights","_law_t","_law_height","_law_lean","_law_rows","_law_k"]
noncomputable def AQC:Obj:=pF "_law_walk" "_law_walk" (top 116)
noncomputable def AJf:Obj:=c1 "_law_walk" 1244 546 3 3 756 1254 1255
def AJ8:Obj:=f1 "_law_walk" (top 116) Jv 761
noncomputable def ANE:Obj:=tS 1260 ["_law_script","_law_head","_law_beads","_law_many","_law_row","_law_rest","_law_k","_law_cell"]
noncomputable def AOL:Obj:=pF "_law_drawn" "_law_drawn" (top 117)
noncomputable def AGk:Obj:=c1 "_law_drawn" 1257 556 1 3 763 1268 1269
def AK5:Obj:=f1 "_law_drawn" (top 117) Jv 768
noncomputable def AN8:Obj:=tS 1274 ["_law_text_here","_law_top","_law_found","_law_bottom"]
noncomputable def APK:Obj:=pF "_law_read" "_law_read" (top 118)
noncomputable def AIp:Obj:=c1 "_law_read" 1271 570 1 3 770 1278 1279
def AH0:Obj:=f1 "_law_read" (top 118) Jv 775
noncomputable def APl:Obj:=tS 1284 ["_law_figures","_law_t","_law_worth_here","_law_figure"]
noncomputable def AP2:Obj:=pF "_law_worth" "_law_worth" (top 119)
noncomputable def AGY:Obj:=c1 "_law_worth" 1281 575 2 3 777 1288 1289
def AKU:Obj:=f1 "_law_worth" (top 119) Jv 782
noncomputable def AL7:Obj:=tS 1294 ["_law_desk","_law_name","_law_end","_law_t","_law_words"]
noncomputable def ALm:Obj:=pF "_law_counts" "_law_counts" (top 120)
noncomputable def AF6:Obj:=c1 "_law_counts" 1291 580 4 3 784 1299 1300
def AKS:Obj:=f1 "_law_counts" (top 120) Jv 789
noncomputable def AMO:Obj:=pF "_law_tones_hold" "_law_tones_hold" (top 121)
noncomputable def AIV:Obj:=cG "_law_tones_hold" "_law_tones_hold" 1302 583 3 3 791 true .none .none (.ref 793) 1305 1306
def AH3:Obj:=f1 "_law_tones_hold" (top 121) Jv 794
noncomputable def APN:Obj:=tS 1311 ["_law_desk","_law_name","_law_many","_law_numbers","_law_t","_law_fast","_law_slack"]
noncomputable def ALd:Obj:=pF "_law_parted" "_law_parted" (top 122)
noncomputable def AJY:Obj:=c1 "_law_parted" 1308 595 4 3 796 1318 1319
def AKw:Obj:=f1 "_law_parted" (top 122) Jv 801
noncomputable def APd:Obj:=pF "_law_span_holds" "_law_span_holds" (top 123)
noncomputable def AFz:Obj:=cG "_law_span_holds" "_law_span_holds" 1321 602 4 3 803 true .none .none (.ref 805) 1324 1325
def AKa:Obj:=f1 "_law_span_holds" (top 123) Jv 806
noncomputable def ALg:Obj:=tS 1330 ["_law_desk","_law_cord","_law_cell","_law_numbers","_law_beads","_law_more","_law_row","_law_end","_law_t"]
noncomputable def ANj:Obj:=pF "_law_changed" "_law_changed" (top 124)
noncomputable def AId:Obj:=c1 "_law_changed" 1327 612 4 3 808 1339 1340
def AI9:Obj:=f1 "_law_changed" (top 124) Jv 813
def AP1(P:Params):List Obj:=(((AOB P).set 3 ({ cls:=.type "dict",data:=.dict (Array.mk (AMw P)) 116 })).set 12 ({ cls:=.none,data:=.fields (Array.mk (ACx P)) })).append [tE,fE,APu,tE,AOZ,AJJ,AIt,tE,fE,AMY,tE,ALl,AFg,AHY,tE,fE,ALY,tE,APt,AH2,AGZ,tE,fE,ANd,tE,ANr,AIx,AKO,tE,fE,APY,tE,AM0,AKg,AJl,tE,fE,AL9,tE,ANz,AIZ,AJ5,tE,fE,ANa,tE,AQC,AJf,AJ8,tE,fE,ANE,tE,AOL,AGk,AK5,tE,fE,AN8,tE,APK,AIp,AH0,tE,fE,APl,tE,AP2,AGY,AKU,tE,fE,AL7,tE,ALm,AF6,AKS,tE,fE,AMO,AIV,AH3,tE,fE,APN,tE,ALd,AJY,AKw,tE,fE,APd,AFz,AKa,tE,fE,ALg,tE,ANj,AId,AI9]
noncomputable def u3(P:Params):Obj:={ cls:=.type "dict",data:=.dict #[ke P "__name__" 165 (.str "law_tautcord_k87_whole_from_text_to_text" 1181),ke P "__doc__" 166 .none,ke P "__package__" 167 .none,ke P "__loader__" 168 (.builtin "__main__.__loader__#opaque"),ke P "__spec__" 169 .none,ke P "__annotations__" 170 (.ref 6),ke P "__builtins__" 171 (.ref 4),ke P "__file__" 173 (.str "/claim/cut.py" 172),ke P "__cached__" 174 .none,ke P "CordError" 206 (.ref 24),ke P "NoFraction" 222 (.ref 37),ke P "NoCord" 247 (.ref 56),ke P "NoWorth" 263 (.ref 68),ke P "NoBead" 279 (.ref 80),ke P "NoText" 295 (.ref 92),ke P "NoName" 311 (.ref 104),ke P "is_whole" 320 (.ref 113),ke P "divisor" 331 (.ref 120),ke P "is_fraction" 340 (.ref 127),ke P "fraction" 350 (.ref 135),ke P "plus" 361 (.ref 142),ke P "minus" 369 (.ref 149),ke P "times" 379 (.ref 156),ke P "over" 387 (.ref 163),ke P "is_under" 395 (.ref 170),ke P "side" 402 (.ref 177),ke P "is_rising" 411 (.ref 184),ke P "MOST_BEADS" 415 (.int 12 414),ke P "is_row_above" 421 (.ref 189),ke P "Cord" 489 (.ref 241),ke P "heavier" 500 (.ref 252),ke P "longer" 509 (.ref 259),ke P "joined" 520 (.ref 266),ke P "check_bead" 528 (.ref 273),ke P "with_more" 537 (.ref 280),ke P "signs" 545 (.ref 285),ke P "turns" 551 (.ref 290),ke P "worths_below" 560 (.ref 297),ke P "up_to" 570 (.ref 304),ke P "row_at" 586 (.ref 311),ke P "poly" 596 (.ref 318),ke P "figure_at" 604 (.ref 325),ke P "poly_plus" 610 (.ref 330),ke P "poly_minus" 616 (.ref 335),ke P "scaled" 622 (.ref 340),ke P "shared_bottom" 631 (.ref 347),ke P "whole_figures" 637 (.ref 352),ke P "whole_times" 650 (.ref 359),ke P "ladder" 666 (.ref 366),ke P "over_one_bottom" 674 (.ref 373),ke P "quotient_at" 686 (.ref 380),ke P "rest_of" 692 (.ref 385),ke P "in_lowest_terms" 698 (.ref 390),ke P "held" 707 (.ref 397),ke P "loose" 714 (.ref 404),ke P "near" 721 (.ref 411),ke P "free" 728 (.ref 418),ke P "ends" 742 (.ref 425),ke P "times_number" 749 (.ref 432),ke P "cord_with" 761 (.ref 439),ke P "even" 772 (.ref 446),ke P "even_about_gap" 782 (.ref 453),ke P "even_about_bead" 792 (.ref 460),ke P "with_worths" 798 (.ref 465),ke P "walked" 816 (.ref 473),ke P "heights_of" 824 (.ref 478),ke P "mode" 835 (.ref 485),ke P "FIGURES" 839 (.str "0123456789" 838),ke P "MOST_FIGURES" 841 (.int 30 840),ke P "show_fraction" 850 (.ref 492),ke P "show_row" 856 (.ref 497),ke P "show_cord" 867 (.ref 504),ke P "read_fraction" 878 (.ref 511),ke P "read_row" 884 (.ref 516),ke P "read_cord" 890 (.ref 521),ke P "check_text" 897 (.ref 528),ke P "are_figures" 903 (.ref 533),ke P "without_minus" 910 (.ref 540),ke P "within_brackets" 917 (.ref 547),ke P "LETTERS" 921 (.str "abcdefghijklmnopqrstuvwxyz" 920),ke P "LONGEST_NAME" 923 (.int 8 922),ke P "MOST_HALVINGS" 925 (.int 60 924),ke P "FORMS" 990 (.ref 548),ke P "read_told" 996 (.ref 567),ke P "kinds_of" 1003 (.ref 574),ke P "read_thing" 1011 (.ref 581),ke P "read_name" 1017 (.ref 586),ke P "read_whole" 1025 (.ref 593),ke P "read_halvings" 1033 (.ref 600),ke P "read_choice" 1041 (.ref 607),ke P "read_some" 1049 (.ref 614),ke P "read_two_polys" 1055 (.ref 619),ke P "alike" 1066 (.ref 626),ke P "span" 1082 (.ref 633),ke P "above_all" 1088 (.ref 638),ke P "Desk" 1145 (.ref 674),ke P "made" 1153 (.ref 685),ke P "answer" 1161 (.ref 692),ke P "tone" 1169 (.ref 699),ke P "counted" 1180 (.ref 706),ke P "_law_cell_at" 1190 (.ref 713),ke P "_law_low" 1201 (.ref 720),ke P "_law_plus" 1209 (.ref 727),ke P "_law_minus" 1217 (.ref 734),ke P "_law_times" 1225 (.ref 741),ke P "_law_text" 1232 (.ref 748),ke P "_law_shown" 1243 (.ref 755),ke P "_law_walk" 1256 (.ref 762),ke P "_law_drawn" 1270 (.ref 769),ke P "_law_read" 1280 (.ref 776),ke P "_law_worth" 1290 (.ref 783),ke P "_law_counts" 1301 (.ref 790),ke P "_law_tones_hold" 1307 (.ref 795),ke P "_law_parted" 1320 (.ref 802),ke P "_law_span_holds" 1326 (.ref 807),ke P "_law_changed" 1341 (.ref 814),ke P "law" 1353 (.ref 821)] 117 }
def AHD(P:Params):List Value:=(ACx P).append [.int 625 0,.int 0 0,.ref 820]
def u12(P:Params):Obj:={ cls:=.none,data:=.fields (Array.mk (AHD P)) }
noncomputable def ALj:Obj:=tS 1345 ["_law_script","_law_cord","_law_numbers","_law_k","_law_cell","_law_desk"]
def ALW:Obj:=pF "law" "law" (top 125)
noncomputable def AGa:Obj:=c1 "law" 1342 625 1 3 815 1351 1352
def AK1:Obj:=f1 "law" (top 125) Jv 820
def AL8(P:Params):List Obj:=(((AP1 P).set 3 (u3 P)).set 12 (u12 P)).append [tE,fE,ALj,tE,ALW,AGa,AK1]
def L_f(P:Params):List Obj:=AL8 P
def ART(P:Params):BT:=bld 12 (L_b P)
def AQz(P:Params):BT:=bld 12 (L_1 P)
def ARZ(P:Params):BT:=bld 12 (L_2 P)
def ARG(P:Params):BT:=bld 12 (L_3 P)
def AQ1(P:Params):BT:=bld 12 (L_4 P)
def ARm(P:Params):BT:=bld 12 (L_5 P)
def AQh(P:Params):BT:=bld 12 (L_6 P)
def AQr(P:Params):BT:=bld 12 (L_7 P)
def AQ5(P:Params):BT:=bld 12 (L_8 P)
def ARV(P:Params):BT:=bld 12 (L_9 P)
def ANJ(P:Params):BT:=bld 12 (AN9 P)
def AM2(P:Params):BT:=bld 12 (APU P)
def ALZ(P:Params):BT:=bld 12 (AOB P)
def AON(P:Params):BT:=bld 12 (AP1 P)
def AQF(P:Params):BT:=bld 12 (AL8 P)
def ha(P:Params):Heap:=⟨Array.mk (L_a P),{}⟩
abbrev AIO(w:World)(os:OsState):SharedT:=⟨ART w.params,15,{},Array.mk [],{},187,os⟩
abbrev AQD(w:World)(os:OsState):SharedT:=⟨AQz w.params,40,{},Array.mk [],{},223,os⟩
def l_1:List Stmt:=(bE.drop 0).take 3
abbrev AMR(w:World)(os:OsState):SharedT:=⟨ARZ w.params,71,{},Array.mk [],{},264,os⟩
def l_2:List Stmt:=(bE.drop 3).take 2
abbrev ANZ(w:World)(os:OsState):SharedT:=⟨ARG w.params,95,{},Array.mk [],{},296,os⟩
def l_3:List Stmt:=(bE.drop 5).take 2
abbrev ALu(w:World)(os:OsState):SharedT:=⟨AQ1 w.params,164,{},Array.mk [],{},388,os⟩
def l_4:List Stmt:=(bE.drop 7).take 11
abbrev ANL(w:World)(os:OsState):SharedT:=⟨ARm w.params,190,{},Array.mk [],{},422,os⟩
def l_5:List Stmt:=(bE.drop 18).take 6
abbrev AMM(w:World)(os:OsState):SharedT:=⟨AQh w.params,267,{},Array.mk [],{},521,os⟩
def l_6:List Stmt:=(bE.drop 24).take 5
abbrev APS(w:World)(os:OsState):SharedT:=⟨AQr w.params,360,{},Array.mk [],{},653,os⟩
def l_7:List Stmt:=(bE.drop 29).take 18
abbrev AOW(w:World)(os:OsState):SharedT:=⟨AQ5 w.params,461,{},Array.mk [],{},793,os⟩
def l_8:List Stmt:=(bE.drop 47).take 17
abbrev ACa(w:World)(os:OsState):SharedT:=⟨ARV w.params,548,{},Array.mk [],{},926,os⟩
def l_9:List Stmt:=(bE.drop 64).take 23
abbrev Vm(w:World)(os:OsState):SharedT:=⟨ANJ w.params,563,{},Array.mk [],{},991,os⟩
def AAn:List Stmt:=(bE.drop 87).take 1
abbrev AFM(w:World)(os:OsState):SharedT:=⟨AM2 w.params,639,{},Array.mk [],{},1091,os⟩
def AJz:List Stmt:=(bE.drop 88).take 15
abbrev AFY(w:World)(os:OsState):SharedT:=⟨ALZ w.params,714,{},Array.mk [],{},1191,os⟩
def AHi:List Stmt:=(bE.drop 103).take 7
abbrev AFd(w:World)(os:OsState):SharedT:=⟨AON w.params,815,{},Array.mk [],{},1342,os⟩
def AIy:List Stmt:=(bE.drop 110).take 15
abbrev AFU(w:World)(os:OsState):SharedT:=⟨AQF w.params,822,{},Array.mk [],{},1354,os⟩
def AJx:List Stmt:=(bE.drop 125).take 1
def hf(P:Params):Heap:=⟨Array.mk [boot_o_0 P,boot_o_1 P,boot_o_2 P,u3 P,boot_o_4 P,boot_o_5 P,boot_o_6 P,boot_o_7 P,boot_o_8 P,boot_o_9 P,boot_o_10 P,tE,u12 P,u13,u14,u15,u16,u17 P,tE,fE,u20,u21,u22,u23 P,u24,u25,u26,u27,u28,u29,u30 P,tE,fE,u33,u34,u35,u36 P,u37,u38,u39,u40,u41,u42 P,tE,u44,u45,u46,tE,fE,u49,tE,u51,u52,u53,u54,u55 P,u56,u57,u58,u59,u60,u61 P,tE,fE,u64,u65,u66,u67 P,u68,u69,u70,u71,u72,u73 P,tE,fE,u76,u77,u78,u79 P,u80,u81,u82,u83,u84,u85 P,tE,fE,u88,u89,u90,u91 P,u92,u93,u94,u95,u96,u97 P,tE,fE,ALS,AMJ,AFn,AFy P,AH7,APq,ALO,tE,fE,ALN,tE,ANg,AI1,AJc,tE,fE,AN4,tE,APj,AKR,AHl,tE,fE,APM,tE,AMk,AKZ,AJi,AGi,tE,fE,AP9,tE,AMI,AJC,AKv,tE,fE,AOJ,tE,APR,AHb,AFo,tE,fE,ANU,tE,AM6,AGI,AIK,tE,fE,AN2,tE,AOg,AI2,AFp,tE,fE,AOa,tE,ALK,AJq,AGv,tE,fE,AOP,tE,ALQ,AJ3,AKo,tE,fE,AQE,tE,AMm,AJ7,AHZ,tE,fE,AMo,tE,AO0,AIv,AIa,tE,fE,AOc,AJj,AI0,tE,ANq,AMl P,tE,APx,AO7,AMa,tE,fE,APb,tE,AMq,AJS,AHu,tE,fE,ALX,tE,AN5,AG7,AJr,tE,fE,ANA,tE,AMi,AKL,AFt,tE,fE,ANR,tE,AM1,AKd,AJo,tE,fE,AM8,tE,ANM,AJQ,AF5,tE,fE,AOY,tE,APW,AKh,AHB,AIm,AHe P,AJT,AH5,AGr,AO5,APV,tE,fE,AMh,tE,ANs,AGq,AJI,tE,fE,ANe,tE,AOS,AIq,AKJ,tE,fE,AOd,tE,AOv,AIA,AGw,tE,fE,AP3,tE,APe,AIE,AGA,tE,fE,AOb,tE,AOs,AHm,AIX,tE,fE,AMb,AHP,AI8,tE,fE,AMX,AIw,AFj,tE,fE,AN3,tE,AOw,AKj,AHI,tE,fE,AOO,tE,AOV,AJv,AJP,tE,fE,ANK,tE,AOX,AJa,AJ0,tE,fE,AM3,tE,AOx,AHn,AKV,tE,fE,ANo,tE,ANC,AG8,AKF,tE,fE,APf,AIG,AHv,tE,fE,AMy,AHw,AH4,tE,fE,AMf,AJe,AHj,tE,fE,AOz,tE,AP0,AKX,AJX,tE,fE,AOp,AK3,AKx,tE,fE,ANB,tE,ALU,AIs,AIg,tE,fE,ANV,tE,ANt,AKW,AKz,tE,fE,AOi,tE,AOm,AG6,AKP,tE,fE,AOy,tE,AMT,AGh,AKH,tE,fE,ALn,AIS,AHF,tE,fE,AN6,AF8,AIe,tE,fE,AOT,tE,AMV,AJN,AHC,tE,fE,AO4,tE,ALe,AKm,AHG,tE,fE,AOC,tE,AM7,AK6,AHg,tE,fE,AO2,tE,ANn,AIJ,AGu,tE,fE,APm,tE,AO9,AFv,AH9,tE,fE,APo,tE,ALp,AKD,AJp,tE,fE,AO3,tE,AL4,AHy,AGH,tE,fE,AMF,tE,AOf,AKt,AGm,tE,fE,ALV,tE,AO1,AGJ,AHo,tE,fE,AL6,tE,APr,AGC,AFq,tE,fE,AMe,AGF,AHt,AKu,tE,fE,AOl,tE,ALw,AFh,AFi,tE,fE,AP5,AIH,AKn,tE,fE,AOo,tE,ALk,AH1,AGO,tE,fE,APA,tE,AO6,AGS,AHL,tE,fE,AOe,AFl,AHR,tE,fE,ALx,tE,AMD,AJH,AJZ,tE,fE,AMH,tE,AN1,AGU,AI4,tE,fE,AMK,AGW,AGj,tE,fE,AMt,AHc,AJ1,tE,fE,AOt,tE,ANb,AIB,AJb,tE,fE,AOH,AIL,AKB,tE,fE,ALP,tE,ALo,AIr,AGs,tE,fE,ANm,tE,APQ,AGg,AGK,AHk P,AJ6,AGx,AHf,AHA,AKQ,AJy,AHT,AKC,AGn,AJ2,AFx,AJd,AKb,AHq,tE,fE,AO8,AFr,AIC,tE,fE,APi,tE,ANW,AK4,AKr,tE,fE,AMn,tE,AOK,AJD,AG1,tE,fE,ANI,AGf,AFw,tE,fE,AMx,tE,APX,AKN,AHV,tE,fE,AM4,tE,AOu,AGt,AIi,tE,fE,AP7,tE,APp,AHd,AGB,tE,fE,APG,tE,AOr,AKG,AJB,tE,fE,AOE,AIQ,AFm,tE,fE,ANh,tE,AM5,AJE,AJ4,tE,fE,AMC,tE,AMz,AKe,AHs,tE,fE,ALa,AGL,AHJ,tE,ANS,APJ P,tE,APF,AM9,AMd,tE,fE,AMg,tE,APv,AKM,AIk,tE,fE,AL1,tE,APB,AGT,AG4,tE,fE,APc,AHa,AJA,tE,fE,AL0,tE,ANf,AIF,AGD,AIo,AF2 P,AJU,AGN,AG2,AL2,ANu,tE,fE,ANX,tE,AOM,AKI,AIf,tE,fE,AOj,tE,ANw,AJg,AKi,tE,fE,AP6,tE,ANi,AJG,AHh,tE,fE,AL3,tE,ALh,AHW,AKf,tE,fE,APH,tE,AMv,AHr,AIP,tE,fE,APu,tE,AOZ,AJJ,AIt,tE,fE,AMY,tE,ALl,AFg,AHY,tE,fE,ALY,tE,APt,AH2,AGZ,tE,fE,ANd,tE,ANr,AIx,AKO,tE,fE,APY,tE,AM0,AKg,AJl,tE,fE,AL9,tE,ANz,AIZ,AJ5,tE,fE,ANa,tE,AQC,AJf,AJ8,tE,fE,ANE,tE,AOL,AGk,AK5,tE,fE,AN8,tE,APK,AIp,AH0,tE,fE,APl,tE,AP2,AGY,AKU,tE,fE,AL7,tE,ALm,AF6,AKS,tE,fE,AMO,AIV,AH3,tE,fE,APN,tE,ALd,AJY,AKw,tE,fE,APd,AFz,AKa,tE,fE,ALg,tE,ANj,AId,AI9,tE,fE,ALj,tE,ALW,AGa,AK1],{}⟩
theorem AOG(w:World)(os:OsState):topGo treeTable tp w 11 (some (.ref 6)) 12 ⟨boot_heap w.params,Array.mk [],boot_drawn,boot_toks,os⟩ (topStub tp)=some (⟨ha w.params,Array.mk [],{},187,os⟩,Thread.mk (denote treeTable cE) cE ⟨0,0,0,0⟩ [topFrame ⟨0,0,0,0⟩]):=by kernel_rfl
theorem APT(w:World)(os:OsState):segRun treeTable tp w 11 (some (.ref 6)) 1 1 ⟨ha w.params,Array.mk [],{},187,os⟩ (blockOf bE eE cE ⟨0,0,0,0⟩ [topFrame ⟨0,0,0,0⟩])=some (.next,(AIO w os).abs,cE,⟨0,0,0,0⟩):=by kernel_rfl
theorem t_1(w:World)(os:OsState):segRunT treeTable tp w 11 (some (.ref 6)) 1 409 (AIO w os) (piecesOf l_1 eE cE ⟨0,0,0,0⟩ [topFrame ⟨0,0,0,0⟩])=some (.next,AQD w os,cE,⟨4,0,5,8⟩):=by kernel_rfl
theorem t_2(w:World)(os:OsState):segRunT treeTable tp w 11 (some (.ref 6)) 1 459 (AQD w os) (piecesOf l_2 eE cE ⟨4,0,5,8⟩ [topFrame ⟨0,0,0,0⟩])=some (.next,AMR w os,cE,⟨10,0,11,8⟩):=by kernel_rfl
theorem t_3(w:World)(os:OsState):segRunT treeTable tp w 11 (some (.ref 6)) 1 427 (AMR w os) (piecesOf l_3 eE cE ⟨10,0,11,8⟩ [topFrame ⟨0,0,0,0⟩])=some (.next,ANZ w os,cE,⟨14,0,15,8⟩):=by kernel_rfl
theorem t_4(w:World)(os:OsState):segRunT treeTable tp w 11 (some (.ref 6)) 1 481 (ANZ w os) (piecesOf l_4 eE cE ⟨14,0,15,8⟩ [topFrame ⟨0,0,0,0⟩])=some (.next,ALu w os,cE,⟨56,0,59,51⟩):=by kernel_rfl
theorem t_5(w:World)(os:OsState):segRunT treeTable tp w 11 (some (.ref 6)) 1 135 (ALu w os) (piecesOf l_5 eE cE ⟨56,0,59,51⟩ [topFrame ⟨0,0,0,0⟩])=some (.next,ANL w os,cE,⟨77,0,80,73⟩):=by kernel_rfl
theorem t_6(w:World)(os:OsState):segRunT treeTable tp w 11 (some (.ref 6)) 1 486 (ANL w os) (piecesOf l_6 eE cE ⟨77,0,80,73⟩ [topFrame ⟨0,0,0,0⟩])=some (.next,AMM w os,cE,⟨116,0,120,84⟩):=by kernel_rfl
theorem t_7(w:World)(os:OsState):segRunT treeTable tp w 11 (some (.ref 6)) 1 472 (AMM w os) (piecesOf l_7 eE cE ⟨116,0,120,84⟩ [topFrame ⟨0,0,0,0⟩])=some (.next,APS w os,cE,⟨187,0,187,8⟩):=by kernel_rfl
theorem t_8(w:World)(os:OsState):segRunT treeTable tp w 11 (some (.ref 6)) 1 481 (APS w os) (piecesOf l_8 eE cE ⟨187,0,187,8⟩ [topFrame ⟨0,0,0,0⟩])=some (.next,AOW w os,cE,⟨272,0,275,90⟩):=by kernel_rfl
theorem t_9(w:World)(os:OsState):segRunT treeTable tp w 11 (some (.ref 6)) 1 494 (AOW w os) (piecesOf l_9 eE cE ⟨272,0,275,90⟩ [topFrame ⟨0,0,0,0⟩])=some (.next,ACa w os,cE,⟨365,0,365,13⟩):=by kernel_rfl
theorem W8(w:World)(os:OsState):segRunT treeTable tp (w.withFollow "special-get-raises" false) 11 (some (.ref 6)) 1 331 (ACa (w.withFollow "special-get-raises" false) os) (piecesOf AAn eE cE ⟨365,0,365,13⟩ [topFrame ⟨0,0,0,0⟩])=some (.next,Vm (w.withFollow "special-get-raises" false) os,cE,⟨366,0,366,5⟩):=by kernel_rfl
theorem Z7(w:World)(os:OsState):segRunT treeTable tp (w.withFollow "special-get-raises" true) 11 (some (.ref 6)) 1 331 (ACa (w.withFollow "special-get-raises" true) os) (piecesOf AAn eE cE ⟨365,0,365,13⟩ [topFrame ⟨0,0,0,0⟩])=some (.next,Vm (w.withFollow "special-get-raises" true) os,cE,⟨366,0,366,5⟩):=by kernel_rfl
theorem ARf(w:World)(os:OsState):segRunT treeTable tp w 11 (some (.ref 6)) 1 331 (ACa w os) (piecesOf AAn eE cE ⟨365,0,365,13⟩ [topFrame ⟨0,0,0,0⟩])=some (.next,Vm w os,cE,⟨366,0,366,5⟩):=byRow2 "special-get-raises" (P:=fun w=>segRunT treeTable tp w 11 (some (.ref 6)) 1 331 (ACa w os) (piecesOf AAn eE cE ⟨365,0,365,13⟩ [topFrame ⟨0,0,0,0⟩])=some (.next,Vm w os,cE,⟨366,0,366,5⟩)) (fun w=>W8 w os) (fun w=>Z7 w os) w
theorem ARg(w:World)(os:OsState):segRunT treeTable tp w 11 (some (.ref 6)) 1 378 (Vm w os) (piecesOf AJz eE cE ⟨366,0,366,5⟩ [topFrame ⟨0,0,0,0⟩])=some (.next,AFM w os,cE,⟨449,0,449,8⟩):=by kernel_rfl
theorem ARD(w:World)(os:OsState):segRunT treeTable tp w 11 (some (.ref 6)) 1 481 (AFM w os) (piecesOf AHi eE cE ⟨449,0,449,8⟩ [topFrame ⟨0,0,0,0⟩])=some (.next,AFY w os,cE,⟨515,0,518,12⟩):=by kernel_rfl
theorem ARP(w:World)(os:OsState):segRunT treeTable tp w 11 (some (.ref 6)) 1 478 (AFY w os) (piecesOf AIy eE cE ⟨515,0,518,12⟩ [topFrame ⟨0,0,0,0⟩])=some (.next,AFd w os,cE,⟨612,0,624,15⟩):=by kernel_rfl
theorem AQ2(w:World)(os:OsState):segRunT treeTable tp w 11 (some (.ref 6)) 1 35 (AFd w os) (piecesOf AJx eE cE ⟨612,0,624,15⟩ [topFrame ⟨0,0,0,0⟩])=some (.next,AFU w os,cE,⟨625,0,640,143⟩):=by kernel_rfl
theorem APk(w:World)(os:OsState):topRun treeTable tp w 11 (some (.ref 6)) 2 (AFU w os).abs ⟨doneF .next,cE,⟨625,0,640,143⟩,[topFrame ⟨0,0,0,0⟩]⟩=some ⟨hf w.params,Array.mk [],{},1354,os⟩:=by kernel_rfl
theorem APw:l_1++(l_2++(l_3++(l_4++(l_5++(l_6++(l_7++(l_8++(l_9++(AAn++(AJz++(AHi++(AIy++(AJx++([]))))))))))))))=bE:=by kernel_rfl
theorem AQq(w:World)(os:OsState):topRun treeTable tp w 11 (some (.ref 6)) (409+(459+(427+(481+(135+(486+(472+(481+(494+(331+(378+(481+(478+(35+(2))))))))))))))) (AIO w os).abs (restOf (l_1++(l_2++(l_3++(l_4++(l_5++(l_6++(l_7++(l_8++(l_9++(AAn++(AJz++(AHi++(AIy++(AJx++([]))))))))))))))) eE cE ⟨0,0,0,0⟩ [topFrame ⟨0,0,0,0⟩])=some ⟨hf w.params,Array.mk [],{},1354,os⟩:=piece_app (segRun_of (t_1 w os)) (piece_app (segRun_of (t_2 w os)) (piece_app (segRun_of (t_3 w os)) (piece_app (segRun_of (t_4 w os)) (piece_app (segRun_of (t_5 w os)) (piece_app (segRun_of (t_6 w os)) (piece_app (segRun_of (t_7 w os)) (piece_app (segRun_of (t_8 w os)) (piece_app (segRun_of (t_9 w os)) (piece_app (segRun_of (ARf w os)) (piece_app (segRun_of (ARg w os)) (piece_app (segRun_of (ARD w os)) (piece_app (segRun_of (ARP w os)) (piece_app (segRun_of (AQ2 w os)) (piece_nil (APk w os)))))))))))))))
theorem run(w:World)(os:OsState):topRun treeTable tp w 11 (some (.ref 6)) (12+(1+(409+(459+(427+(481+(135+(486+(472+(481+(494+(331+(378+(481+(478+(35+(2))))))))))))))))) ⟨boot_heap w.params,Array.mk [],boot_drawn,boot_toks,os⟩ (topStub tp)=some ⟨hf w.params,Array.mk [],{},1354,os⟩:=by
 have k:=AQq w os;rw[APw]at k;exact go_top (AOG w os) (piece_block (APT w os) k)
def KK(P:Params):Frag :=
 (nat_lit 2,boot_o_2 P)::(nat_lit 3,u3 P)::(nat_lit 22,u22)::(nat_lit 23,u23 P)::(nat_lit 24,u24)::(nat_lit 25,u25)::(nat_lit 35,u35)::(nat_lit 36,u36 P)::(nat_lit 37,u37)::(nat_lit 52,u52)::(nat_lit 53,u53)::(nat_lit 54,u54)::(nat_lit 55,u55 P)::(nat_lit 56,u56)::(nat_lit 66,u66)::(nat_lit 67,u67 P)::(nat_lit 68,u68)::(nat_lit 78,u78)::(nat_lit 79,u79 P)::(nat_lit 80,u80)::(nat_lit 90,u90)::(nat_lit 91,u91 P)::(nat_lit 92,u92)::(nat_lit 102,AFn)::(nat_lit 103,AFy P)::(nat_lit 104,AH7)::(nat_lit 112,AI1)::(nat_lit 113,AJc)::(nat_lit 119,AKR)::(nat_lit 120,AHl)::(nat_lit 126,AKZ)::(nat_lit 127,AJi)::(nat_lit 128,AGi)::(nat_lit 134,AJC)::(nat_lit 135,AKv)::(nat_lit 141,AHb)::(nat_lit 142,AFo)::(nat_lit 148,AGI)::(nat_lit 149,AIK)::(nat_lit 155,AI2)::(nat_lit 156,AFp)::(nat_lit 162,AJq)::(nat_lit 163,AGv)::(nat_lit 169,AJ3)::(nat_lit 170,AKo)::(nat_lit 176,AJ7)::(nat_lit 177,AHZ)::(nat_lit 183,AIv)::(nat_lit 184,AIa)::(nat_lit 188,AJj)::(nat_lit 189,AI0)::(nat_lit 202,AJS)::(nat_lit 203,AHu)::(nat_lit 209,AG7)::(nat_lit 210,AJr)::(nat_lit 216,AKL)::(nat_lit 217,AFt)::(nat_lit 223,AKd)::(nat_lit 224,AJo)::(nat_lit 230,AJQ)::(nat_lit 231,AF5)::(nat_lit 237,AKh)::(nat_lit 238,AHB)::(nat_lit 239,AIm)::(nat_lit 240,AHe P)::(nat_lit 241,AJT)::(nat_lit 242,AH5)::(nat_lit 243,AGr)::(nat_lit 251,AGq)::(nat_lit 252,AJI)::(nat_lit 258,AIq)::(nat_lit 259,AKJ)::(nat_lit 265,AIA)::(nat_lit 266,AGw)::(nat_lit 272,AIE)::(nat_lit 273,AGA)::(nat_lit 279,AHm)::(nat_lit 280,AIX)::(nat_lit 284,AHP)::(nat_lit 285,AI8)::(nat_lit 289,AIw)::(nat_lit 290,AFj)::(nat_lit 296,AKj)::(nat_lit 297,AHI)::(nat_lit 303,AJv)::(nat_lit 304,AJP)::(nat_lit 310,AJa)::(nat_lit 311,AJ0)::(nat_lit 317,AHn)::(nat_lit 318,AKV)::(nat_lit 324,AG8)::(nat_lit 325,AKF)::(nat_lit 329,AIG)::(nat_lit 330,AHv)::(nat_lit 334,AHw)::(nat_lit 335,AH4)::(nat_lit 339,AJe)::(nat_lit 340,AHj)::(nat_lit 346,AKX)::(nat_lit 347,AJX)::(nat_lit 351,AK3)::(nat_lit 352,AKx)::(nat_lit 358,AIs)::(nat_lit 359,AIg)::(nat_lit 365,AKW)::(nat_lit 366,AKz)::(nat_lit 372,AG6)::(nat_lit 373,AKP)::(nat_lit 379,AGh)::(nat_lit 380,AKH)::(nat_lit 384,AIS)::(nat_lit 385,AHF)::(nat_lit 389,AF8)::(nat_lit 390,AIe)::(nat_lit 396,AJN)::(nat_lit 397,AHC)::(nat_lit 403,AKm)::(nat_lit 404,AHG)::(nat_lit 410,AK6)::(nat_lit 411,AHg)::(nat_lit 417,AIJ)::(nat_lit 418,AGu)::(nat_lit 424,AFv)::(nat_lit 425,AH9)::(nat_lit 431,AKD)::(nat_lit 432,AJp)::(nat_lit 438,AHy)::(nat_lit 439,AGH)::(nat_lit 445,AKt)::(nat_lit 446,AGm)::(nat_lit 452,AGJ)::(nat_lit 453,AHo)::(nat_lit 459,AGC)::(nat_lit 460,AFq)::(nat_lit 464,AGF)::(nat_lit 465,AHt)::(nat_lit 466,AKu)::(nat_lit 472,AFh)::(nat_lit 473,AFi)::(nat_lit 477,AIH)::(nat_lit 478,AKn)::(nat_lit 484,AH1)::(nat_lit 485,AGO)::(nat_lit 491,AGS)::(nat_lit 492,AHL)::(nat_lit 496,AFl)::(nat_lit 497,AHR)::(nat_lit 503,AJH)::(nat_lit 504,AJZ)::(nat_lit 510,AGU)::(nat_lit 511,AI4)::(nat_lit 515,AGW)::(nat_lit 516,AGj)::(nat_lit 520,AHc)::(nat_lit 521,AJ1)::(nat_lit 527,AIB)::(nat_lit 528,AJb)::(nat_lit 532,AIL)::(nat_lit 533,AKB)::(nat_lit 539,AIr)::(nat_lit 540,AGs)::(nat_lit 546,AGg)::(nat_lit 547,AGK)::(nat_lit 548,AHk P)::(nat_lit 549,AJ6)::(nat_lit 550,AGx)::(nat_lit 551,AHf)::(nat_lit 552,AHA)::(nat_lit 553,AKQ)::(nat_lit 554,AJy)::(nat_lit 555,AHT)::(nat_lit 556,AKC)::(nat_lit 557,AGn)::(nat_lit 558,AJ2)::(nat_lit 559,AFx)::(nat_lit 560,AJd)::(nat_lit 561,AKb)::(nat_lit 562,AHq)::(nat_lit 566,AFr)::(nat_lit 567,AIC)::(nat_lit 573,AK4)::(nat_lit 574,AKr)::(nat_lit 580,AJD)::(nat_lit 581,AG1)::(nat_lit 585,AGf)::(nat_lit 586,AFw)::(nat_lit 592,AKN)::(nat_lit 593,AHV)::(nat_lit 599,AGt)::(nat_lit 600,AIi)::(nat_lit 606,AHd)::(nat_lit 607,AGB)::(nat_lit 613,AKG)::(nat_lit 614,AJB)::(nat_lit 618,AIQ)::(nat_lit 619,AFm)::(nat_lit 625,AJE)::(nat_lit 626,AJ4)::(nat_lit 632,AKe)::(nat_lit 633,AHs)::(nat_lit 637,AGL)::(nat_lit 638,AHJ)::(nat_lit 651,AKM)::(nat_lit 652,AIk)::(nat_lit 658,AGT)::(nat_lit 659,AG4)::(nat_lit 663,AHa)::(nat_lit 664,AJA)::(nat_lit 670,AIF)::(nat_lit 671,AGD)::(nat_lit 672,AIo)::(nat_lit 673,AF2 P)::(nat_lit 674,AJU)::(nat_lit 675,AGN)::(nat_lit 676,AG2)::(nat_lit 684,AKI)::(nat_lit 685,AIf)::(nat_lit 691,AJg)::(nat_lit 692,AKi)::(nat_lit 698,AJG)::(nat_lit 699,AHh)::(nat_lit 705,AHW)::(nat_lit 706,AKf)::(nat_lit 712,AHr)::(nat_lit 713,AIP)::(nat_lit 719,AJJ)::(nat_lit 720,AIt)::(nat_lit 726,AFg)::(nat_lit 727,AHY)::(nat_lit 733,AH2)::(nat_lit 734,AGZ)::(nat_lit 740,AIx)::(nat_lit 741,AKO)::(nat_lit 747,AKg)::(nat_lit 748,AJl)::(nat_lit 754,AIZ)::(nat_lit 755,AJ5)::(nat_lit 761,AJf)::(nat_lit 762,AJ8)::(nat_lit 768,AGk)::(nat_lit 769,AK5)::(nat_lit 775,AIp)::(nat_lit 776,AH0)::(nat_lit 782,AGY)::(nat_lit 783,AKU)::(nat_lit 789,AF6)::(nat_lit 790,AKS)::(nat_lit 794,AIV)::(nat_lit 795,AH3)::(nat_lit 801,AJY)::(nat_lit 802,AKw)::(nat_lit 806,AFz)::(nat_lit 807,AKa)::(nat_lit 813,AId)::(nat_lit 814,AI9)::(nat_lit 820,AGa)::(nat_lit 821,AK1)::[]
theorem ALR(P:Params):[2,3,22,23,24,25,35,36,37,52,53,54,55,56,66,67,68,78,79,80,90,91,92,102,103,104,112,113,119,120,126,127,128,134,135,141,142,148,149,155,156,162,163,169,170,176,177,183,184,188,189,202,203,209,210,216,217,223,224,230,231,237,238,239,240,241,242,243,251,252,258,259,265,266,272,273,279,280,284,285,289,290,296,297,303,304,310,311,317,318,324,325,329,330,334,335,339,340,346,347,351,352,358,359,365,366,372,373,379,380,384,385,389,390,396,397,403,404,410,411,417,418,424,425,431,432,438,439,445,446,452,453,459,460,464,465,466,472,473,477,478,484,485,491,492,496,497,503,504,510,511,515,516,520,521,527,528,532,533,539,540,546,547,548,549,550,551,552,553,554,555,556,557,558,559,560,561,562,566,567,573,574,580,581,585,586,592,593,599,600,606,607,613,614,618,619,625,626,632,633,637,638,651,652,658,659,663,664,670,671,672,673,674,675,676,684,685,691,692,698,699,705,706,712,713,719,720,726,727,733,734,740,741,747,748,754,755,761,762,768,769,775,776,782,783,789,790,794,795,801,802,806,807,813,814,820,821]=(KK P).map (·.1):=by kernel_rfl
abbrev hook:Hook:=kHook KK [2,3,22,23,24,25,35,36,37,52,53,54,55,56,66,67,68,78,79,80,90,91,92,102,103,104,112,113,119,120,126,127,128,134,135,141,142,148,149,155,156,162,163,169,170,176,177,183,184,188,189,202,203,209,210,216,217,223,224,230,231,237,238,239,240,241,242,243,251,252,258,259,265,266,272,273,279,280,284,285,289,290,296,297,303,304,310,311,317,318,324,325,329,330,334,335,339,340,346,347,351,352,358,359,365,366,372,373,379,380,384,385,389,390,396,397,403,404,410,411,417,418,424,425,431,432,438,439,445,446,452,453,459,460,464,465,466,472,473,477,478,484,485,491,492,496,497,503,504,510,511,515,516,520,521,527,528,532,533,539,540,546,547,548,549,550,551,552,553,554,555,556,557,558,559,560,561,562,566,567,573,574,580,581,585,586,592,593,599,600,606,607,613,614,618,619,625,626,632,633,637,638,651,652,658,659,663,664,670,671,672,673,674,675,676,684,685,691,692,698,699,705,706,712,713,719,720,726,727,733,734,740,741,747,748,754,755,761,762,768,769,775,776,782,783,789,790,794,795,801,802,806,807,813,814,820,821] ALR
theorem la(w:World)(os:OsState):(staticsOk (importedModules tp.main.body) (boot_heap w.params) (hf w.params)&&namesBound tp (hf w.params)&&gensDone ⟨hf w.params,Array.mk [],{},1354,os⟩&&laidKept (boot_heap w.params) (hf w.params))=true:=by kernel_rfl
abbrev LO:List Str:=[("fraction":Str),("walked":Str),("FORMS":Str)]
open PySem.Calls
theorem lb0(w:World)(os:OsState):seen ((recsOf q).map (·.name)) (ownsOf q) [] { (⟨hf w.params,Array.mk [],{},1354,os⟩:Shared) with gens:=#[] }=expectedOf q:=by kernel_rfl
theorem lb1(w:World)(os:OsState):(hf w.params).bltView=bltViewBooted:=by kernel_rfl
theorem lb2(w:World)(os:OsState):((hf w.params).keysOk (looseW q LO) ((recsOf q).map (·.name)) ((litsOf q).map (·.1)) ((clssOf q (looseW q LO)).map (·.name))&&(hf w.params).accountedOkI (importedModules tp.main.body)&&(hf w.params).isNs mainGlobals&&(hf w.params).isNs builtinsNs&&tablesOk q (hf w.params)&&(fun s=>xlAt q [] s&&recOk [] s) (⟨hf w.params,Array.mk [],{},1354,os⟩:Shared)&&(if true then((⟨hf w.params,Array.mk [],{},1354,os⟩:Shared)).gens.size==0 else !leftWithCleanup ((⟨hf w.params,Array.mk [],{},1354,os⟩:Shared)).gens))=true:=by kernel_rfl
theorem lb3(w:World)(os:OsState):tabsOk q (⟨hf w.params,Array.mk [],{},1354,os⟩:Shared)=true:=by kernel_rfl
theorem lb4(w:World)(os:OsState):pinSeenD q (drecsOf q) (⟨hf w.params,Array.mk [],{},1354,os⟩:Shared)=pinGoodD (drecsOf q):=by kernel_rfl
theorem lb5(w:World)(os:OsState):plainSeenE q (looseW q LO) (⟨hf w.params,Array.mk [],{},1354,os⟩:Shared)=plainGoodE q (looseW q LO):=by kernel_rfl
theorem lb6(w:World)(os:OsState):plainSeenD q LO (⟨hf w.params,Array.mk [],{},1354,os⟩:Shared)=plainGoodD q LO:=by kernel_rfl
theorem lb7(w:World)(os:OsState):wideSeen q (⟨hf w.params,Array.mk [],{},1354,os⟩:Shared)=wideGood q:=by kernel_rfl
theorem lb8(w:World)(os:OsState):clsSeenW q LO (⟨hf w.params,Array.mk [],{},1354,os⟩:Shared)=clsGoodW q LO:=by kernel_rfl
theorem lb(w:World)(os:OsState):openSeen q LO (importedModules tp.main.body) (fun s=>xlAt q [] s&&recOk [] s) true (⟨hf w.params,Array.mk [],{},1354,os⟩:Shared)=openGood q LO:=congr (congrArg Prod.mk (lb0 w os)) (congr (congrArg Prod.mk (lb1 w os)) (congr (congrArg Prod.mk (lb2 w os)) (congr (congrArg Prod.mk (lb3 w os)) (congr (congrArg Prod.mk (lb4 w os)) (congr (congrArg Prod.mk (lb5 w os)) (congr (congrArg Prod.mk (lb6 w os)) (congr (congrArg Prod.mk (lb7 w os)) (lb8 w os))))))))
theorem lc(w:World)(os:OsState):hook.obs ⟨hf w.params,Array.mk [],{},1354,os⟩=hook.val w:=by kernel_rfl
theorem ld(w:World):((boot_heap w.params).isNs mainGlobals&&(Array.mk ([]:List GenState)).size==0,(boot_heap w.params).objs.size,(boot_heap w.params).nsMap mainGlobals "__annotations__")=(true,11,some (.ref 6)):=by kernel_rfl
theorem left:LeftO tp q [("fraction":Str),("walked":Str),("FORMS":Str)] (fun s=>xlAt q [] s&&recOk [] s) hook.obs hook.val 12094 :=
 LeftO.of_pieces (boot_open (by kernel_rfl) (by decide) (fun s=>by kernel_rfl)) ld run (by decide) (fun w=>funext fun os=>congr (congrArg Prod.mk (la w os)) (congr (congrArg Prod.mk (lb w os)) (lc w os)))
end My
open PySem PySem.W PyProof.Rows
set_option maxRecDepth 100000 in
theorem PySem.Challenge.cw_tautcord_k87_whole_from_text_to_text_holds : PySem.Challenge.rw_tautcord_k87_whole_from_text_to_text.Holds := by
 refine holds_law My.said fun said=>?_;refine holds_open (q:=My.q) (loose:=[("fraction":Str),("walked":Str),("FORMS":Str)]) (Xt:=fun s=>xlAt My.q [] s&&recOk [] s) (XP:=XL My.q []) (Yf:=Hook.obs My.hook) (Ya:=Hook.val My.hook) (YP:=Hook.says My.hook) (N:=12094) My.left (Hook.of My.hook) (Hook.keeps My.hook) (fun s e=>xl_of s (Bool.and_eq_true_iff.mp e).1) XL.keeps (by rfl) (by rfl) (by rfl) (fun s e=>recFacts_of (Bool.and_eq_true_iff.mp e).2) (by rfl) said (by decide +kernel) ⟨rfl,rfl,rfl,rfl,rfl,by decide +kernel⟩ ?hw ?hc
 case hw=>w_witness2
 delta My.hook
 k_fill
 refine My.walk (l:=PySem.Challenge.rw_tautcord_k87_whole_from_text_to_text) rfl rfl (fun w h Y=>PySem.W.kIn_of Y) ?F
 case F =>
  intro w mg fa h KX G hmg;refine' My.all_mk KX G hmg ?_ ?_ ?_ ?_ ?_ ?_ ?_ ?_ ?_ ?_ ?_ ?_ ?_ ?_ ?_ ?_ ?_ ?_ ?_ ?_ ?_ ?_ ?_ ?_ ?_ ?_ ?_ ?_ ?_ ?_ ?_ ?_ ?_ ?_ ?_ ?_ ?_ ?_ ?_ ?_ ?_ ?_ ?_ ?_ ?_ ?_ ?_ ?_ ?_ ?_ ?_ ?_ ?_ ?_ ?_ ?_ ?_ ?_ ?_ ?_ ?_ ?_ ?_ ?_ ?_ ?_ ?_ ?_ ?_ ?_ ?_ ?_ ?_ ?_ ?_ ?_ ?_ ?_ ?_ ?_ ?_ ?_ ?_ ?_ ?_ ?_ ?_ ?_ ?_ ?_ ?_ ?_ ?_ ?_ ?_ ?_ ?_ ?_ ?_ ?_ ?_ ?_ ?_ ?_ ?_ ?_ ?_ ?_ ?_ ?_ ?_ ?_ ?_ ?_ ?_ ?_ ?_ ?_ ?_ ?_ ?_ ?_ ?_ ?_ ?_ ?_ ?_ ?_ ?_ ?_ ?_ ?_ ?_ ?_ ?_ ?_ ?_ ?_ ?_ ?_ ?_ ?_ ?_ ?_ ?_ ?_ ?_ ?_ ?_ ?_ ?_ ?_ ?_
  any_goals first | k_is | kit_is | exact⟨_,by k_is,by k_is,_,_,_,_,_,_,_,_,_,by k_is,by k_is,by k_is⟩ | exact⟨_,by k_is,_,_,_,_,_,_,_,_,_,by k_is,by k_is,by k_is⟩ | rfl
