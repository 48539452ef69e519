import PyProof.Rows.All
import Wide.All
import OpenK.AllK
import Wide.FinOn
import Lean
import PyProof.EqAt
import PyProof.EqKinds
import PyProof.TupleCall
import PySem.Challenge.RW_tautcord_k86_rows_refused
noncomputable section
set_option Elab.async false
set_option linter.all false
set_option maxRecDepth 100000
set_option compiler.extract_closed false
local macro_rules|`(tactic|omega)=>`(tactic|lia)
open PySem PySem.W in
set_option maxHeartbeats 0 in
theorem My.said:OpenLaw.wellSaid PySem.Challenge.rw_tautcord_k86_rows_refused=true:=by
 unfold OpenLaw.wellSaid OpenRow.wellSaid OpenRow.partSaid looksOpen
 repeat' with_reducible refine Bool.and_eq_true_iff.mpr ⟨?_,?_⟩
 all_goals decide +kernel
set_option maxHeartbeats 0
open List renaming length_map->Io,getElem?_eq_getElem->AQ9,length_cons->ARD,length_append->ARG,mem_cons->ARI,getElem?_eq_some_iff->ARO,mem_append->ARP,getElem?_map->ARQ,mem_map->ARR,getElem_mem->ARS,mem_append_right->ART,map_append->ARU,getD_eq_getElem?_getD->ARV,size_toArray->ARa,mem_cons_of_mem->ARb,length_take->ARc,length_drop->ARd,mem_of_getElem?->ARf,all_eq_true->ARg,getElem?_append_right->ARh,take_of_length_le->ARj,map_cons->ARm,length_singleton->ARn,mem_singleton->ARp,append_nil->ARx,length_replicate->ARy,getElem?_append_left->AR0,take_length->AR2,getElem?_eq_none->AR9,mem_append_left->ASD,mem_of_mem_drop->ASE,mem_cons_self->ASG,mem_filterMap->ASI,length_nil->ASJ,map_eq_nil_iff->ASL,getElem?_cons_succ->ASP,lookup_cons->ASV,take_succ_eq_append_getElem->ASW,length_range->ASa,drop_zero->ASc,mem_range->ASh,take_succ->ASi,filterMap_cons->ASk,replicate_succ->ASl,cons_append->ASo,drop_eq_getElem_cons->ASs,forIn_cons->ASx,length_pos_iff->AS2,not_mem_nil->AS4,map_singleton->ATA,takeWhile_append_of_pos->ATC,find?_cons->ATE,range_succ->ATF,eq_nil_or_concat->ATI,concat_eq_append->ATJ,flatten_cons->ATL,append_assoc->ATM,append_cancel_right->ATX,getElem?_replicate->ATZ,any_cons->ATa,getElem?_set_self->ATh,ext_getElem?->ATn,getLast?_eq_some_getLast->ATw,getElem?_set_ne->ATy,getLast?_concat->AT1,map_take->AT4,map_drop->AT5,dropWhile_append_of_pos->AT8,mem_filter->AUA,nodup_cons->AUF,nil_append->AUG,getElem?_range->AUN,map_replicate->AUX,getElem?_zip_eq_some->AUb,filter_cons->AUp,mem_reverse->AUr,isEmpty_iff->AUs,any_eq_true->AUt,drop_eq_nil_of_le->AUw,filter_eq_nil_iff->AUx,of_mem_zip->AUy,getElem?_zipWith->AU1,dropLast_concat->AU4,mem_of_mem_take->AU5,getElem_of_mem->AVB,length_zipWith->AVD,mem_map_of_mem->AVE,filterMap_map->AVM,getElem?_drop->AVN,contains_cons->AVP,take_nil->AVQ,all_map->AVe,map_id->AVh
open PySem renaming wpAny_bind->AQ8,wpAny_pure->ARL,boot_len->ARW,wpAny_field->ARZ,wpAny_mono->ARe,wpAny_setField_rec->AR3,mem_of_lookup->AR7,wpAny_callSpecial?_slot->ASQ,wpAny_standAt->ASb,wpAny_Call_Name_kw->ASp,wpAny_seqItems->ASr,wpAny_truthy_bool->ASt,wpAny_passesOwn->ASu,wpAny_call_entry->AS5,wpAny_execs_nil->ATD,wpAny_newObj_type->ATN,wpAny_execs_cons->ATU,wpAny_setField->ATo,wpAny_pyIter_zip->ATu,wpAny_updateSeq_pair->AT0,wpAny_holding->AT7,wpAny_call->AT9,wpAny_letOwnedTupleGo_zip->AUZ,wpAny_assign_Name->AUc,wpAny_getItem_list_slice->AUe,wpAny_Call_ofName->AUi,wpAny_onRaise->AUk,wpAny_attempt->AUl,intBits_le_iff->AU3,wpAny_loadPart->AU6,wpAny_letGo->AVC,wpAny_rule->AVY
open PySem.Heap renaming get?_push_of_some->ARA,lt_size->ARF,get?_push_size->ARN,get?_update_other->ARr,get?_update_self->AR8,size_push->AS6,get?_none_of_le->ATx,get?_push_cases->ATz
open Bool renaming and_eq_true_iff->ARB,false_ne_true->ARJ,or_eq_true_iff->ASA,and_eq_true->ASK,false_and->ATQ,eq_iff_iff->ATY,not_eq_true'->AUh,false_eq_true->AVL,or_true->AVd
open Nat renaming le_refl->ARH,lt_of_lt_of_le->ARX,le_add_right->ARs,ne_of_lt->ARt,zero_le->ARu,lt_irrefl->ARw,le_trans->ASF,pow_le_pow_right->ATP,le_of_eq->ATp,le_of_dvd->AT3,min_eq_left->AUH,ne_of_gt->AUR,le_succ->AUj,lt_succ_self->AUo,lt_of_le_of_lt->AVH,lt_trichotomy->AVX,le_of_lt->AVb,sub_zero->AVc,log2_lt->AVg
open Option.some renaming inj->ARK
open Array renaming getElem?_eq_some_iff->ARi,length_toList->AUB,find?_toList->AVF,all_eq_true->AVZ
open PySem.F renaming plainAttrs_str->ARk,excBase_ValueError->ARv,plainAttrs_list->ASB,slot_tuple_iterator_next->ASn,entry_str_split->ASw,slot_list_append->ASy,type_list_append->ASz,slot_str_split->AS3,slot_str_split->AS8,type_str_split->AS9,attr_ValueError->ATm,slot_str_join->ATr,type_str_join->ATs,args_tuple_iterator_next_1->AT6,entry_tuple_iterator_next->AUI,slot_zip_next->AUJ,slot_str_startswith->AUL,type_str_startswith->AUM,slot_str_partition->AUP,type_str_partition->AUQ,args_str_split_2->AUS,args_str_split_3->AUU,slot_dict_getitem->AUY,args_enumerate_next_1->AUm,slot_dict_pop->AUz
open PySem.W renaming mg_none_of->ARl,mg_of->ARq,hideAll_get->AR4,kia_one->AR6,of_hideAll->ASM,looks_findIn->ASS,callWith_K->ASf,hideAll_none->ASg,funFrames_hide->AS7,tail_of_in->ATB,methodCall_KW->ATq,plainGet_of->AUC,looks_clsIn->AUD,looks_mroIn->AUK,isNs_of_in->AUV,any_some->AUn,cellsFrom_some->AUu,findObj_own->AU8,callWith_K0->AU9,set_plain->AVS,kitx_list->AVT,kitx_dict->AVU
open Int renaming natAbs_dvd_natAbs->ARo,emod_lt_of_pos->ARz,emod_nonneg->AR5,ediv_eq_of_eq_mul_right->ASR,mul_comm->ASU,ediv_pos_of_pos_of_dvd->ASX,toNat_natCast->ASj,mul_assoc->ASq,mul_ediv_cancel_left->ASv,ne_of_gt->AS0,fdiv_eq_ediv_of_dvd->AS1,natAbs_mul->ATR,mul_pos->ATV,gcd_comm->ATW,natAbs_natCast->ATg,mul_left_comm->ATj,gcd_pos_of_ne_zero_right->AT2,mul_ne_zero->AU0,mul_ediv_cancel'->AU2,mul_neg->AVA,natCast_nonneg->AVI,dvd_trans->AVR,lt_trichotomy->AVW,dvd_mul_right->AVa
open PySem.Paired renaming length->AR1
open PyProof.Rows renaming callWith_type1->ASN
open PySem.StrLaws renaming partsBetween_eq->ASO,occ_eq->ASd,join_split->AUT,occ_length_le_len->AUa,occ_head->AUq
open Option renaming map_eq_some_iff->ASY,map_some->ATb,isSome_iff_exists->AUd,isSome_map->AVV
open Decidable renaming byContradiction->ASe
open PySem.PassesOwn renaming never->ASm
open PySem.Obj renaming isFreed_of_fields->ATG,data_mapFields->ATd
open Rat renaming den_intCast->ATK,num_eq_zero->ATc,num_intCast->ATe,intCast_inj->ATf,divInt_eq_div->ATk,divInt_eq_divInt_iff->AUf,zero_mul->AVf,lt_iff->AVi,ext->AVj
open PySem.Calls renaming evalArgs_plain->ATO,callWith_builtin->ATi,Name_function_global->AUO
open Classical renaming byContradiction->ATS
open Nat.Coprime renaming dvd_of_dvd_mul_left->ATl
open Ne renaming symm->ATt
open PySem.W.Looks renaming ld->ATv,here->AVG
open PySem.Code renaming quiet_builtin->AUW
open PyProof renaming noPylong_of_log2->AUg
open PySem.W.KIN renaming gives_text->AUv
open Sum.inr renaming inj->AU7
open PySem.Str renaming ext'->AVJ
open List.cons renaming inj->AVK
open PySem.W.KF renaming slot_gs->AVO
set_option hygiene false
local macro_rules|`(tactic|walk_at "0")=>`(tactic|(cases (show u=Value.ref a from rx)))
local macro_rules|`(tactic|walk_at "1")=>`(tactic|(unfold noteFrame;simp only[hf]))
local macro_rules|`(tactic|walk_at "2")=>`(tactic|(have ex':=y _ (SqL.of hr);rw[h0]at ex';cases ex'))
local macro_rules|`(tactic|walk_at "3")=>`(tactic|(have x2:(Value.builtin "BaseException.__getattribute__"==Value.builtin "object.__getattribute__")=false:=by decide +kernel))
local macro_rules|`(tactic|walk_at "4")=>`(tactic|(obtain⟨⟨⟨⟨⟨e1,e2⟩,e3⟩,e4⟩,e5⟩,e6⟩:=e;subst e1 e2;obtain⟨nm,bs,mro,ns,qn,hd,sn,sub,ab,col,del⟩:=c1))
local macro_rules|`(tactic|walk_at "5")=>`(tactic|(have n2:b≠TO:=fun q=>nb (by simp[q]);have n3:b≠i1:=fun q=>nb (by simp[q]);have n4:b≠i2:=fun q=>nb (by simp[q])))
local macro_rules|`(tactic|walk_at "6")=>`(tactic|(exact ARe (he zb zc C ex aA s Y H Q (RW I) h) (fun v s' ⟨x,H',I',r,q⟩=>⟨x,H',T9 I',r,q⟩) fun _ _ z=>z.elim))
local macro_rules|`(tactic|walk_at "7")=>`(tactic|(obtain⟨o,vs,e,r⟩:=x;exact⟨⟨o,vs,e,r⟩,⟨o,e⟩,fun h1 h2 ⟨o1,v1,e1,r1⟩ k=>⟨o1,v1,k o1 e1,r1⟩⟩))
local macro_rules|`(tactic|walk_at "8")=>`(tactic|(refine⟨_,rfl,Cw (fun c=>?_) (fun c=>?_)⟩))
local macro_rules|`(tactic|walk_at "9")=>`(tactic|(refine⟨fun i m Y H=>m=n-i/\i<=n/\Pv i Y H,⟨n,by simp,ARu _,h0⟩,?_⟩;rintro i m Y H ⟨rfl,hi,p⟩))
local macro_rules|`(tactic|walk_at "A")=>`(tactic|(rintro i m ys H ⟨rfl,hi,rfl,sm,bN⟩;refine⟨bN,?_⟩))
local macro_rules|`(tactic|walk_at "B")=>`(tactic|(refine AQ8 (ASQ (name:=Str.ofString "__next__") a.typeIs ASn (AS5 ASn a.typeIs AUI ?_ (AT6 _)));show wpAny _ _ (field (.ref i) 0 >>= _) _ _ s;refine AQ8 (ARZ ho hd (x:=.ref l) rfl ?_)))
local macro_rules|`(tactic|walk_at "C")=>`(tactic|(exact I1.fpOk (ARH _) (I1.hok.fresh (ARH _))))
local macro_rules|`(tactic|walk_at "D")=>`(tactic|(rw[show Hn f v ((k,x)::r)=(if k=f then(k,v)::r else(k,x)::Hn f v r) from rfl];by_cases hk:k=f))
local macro_rules|`(tactic|walk_at "E")=>`(tactic|(obtain⟨n,v⟩:=p;rw[ARm];show List.lookup y ((if (v==.free&&env.scope.kind==.function&&env.kindOf n==some .cell)=true then(n,NameKind.cell) else(n,v))::r.map _)=_))
local macro_rules|`(tactic|walk_at "F")=>`(tactic|(refine AQ8 (ARZ hT hdT h3 ?_);rw[if_neg (show ¬((Value.none==rawInt L)=true) from by simp[rawInt])];refine AQ8 (turn x hT hdT h3 hb hTe fun h2 st fr oth _ up=>?_)))
local macro_rules|`(tactic|walk_at "G")=>`(tactic|(obtain⟨zn,H9,I9,z⟩:=q9;exact gone zn H9 (Oo I9 I.ok) fun eJ eK=>⟨_,H9,eK,z⟩))
local macro_rules|`(tactic|walk_at "H")=>`(tactic|(refine⟨fun i m Y H=>m=xs.length-i/\i<=xs.length/\Pv i Y H,⟨xs.length,by simp,ARu _,h0⟩,?_⟩;rintro i m Y H ⟨rfl,hi,p⟩;have q:=hl i Y H hi p))
local macro_rules|`(tactic|walk_at "I")=>`(tactic|(simp only[List.zipIdx_cons,List.zipIdx_nil,ASx,List.forIn_nil];refine AQ8 (AQ8 (AUk ?_));show wpAny _ _ (Builtin.SmallTypes.nextOf (.ref i1) >>= _) _ _ _))
local macro_rules|`(tactic|walk_at "J")=>`(tactic|(have:k="new"\/k="name"\/k="cord"\/k="fraction"\/k="whole"\/k="halvings"\/k="end"\/k="which"\/k="two polys"\/k="length and worths":=by simpa[kds] using hk))
local macro_rules|`(tactic|walk_at "K")=>`(tactic|(obtain⟨_,o',q',hd⟩:=I.stack.mem hb;rw[q]at q';cases q'))
local macro_rules|`(tactic|walk_at "L")=>`(tactic|(rw[if_neg (show ¬((Value.ref l==Value.none)=true) from ARJ)];show wpAny _ _ (field (.ref i) 1 >>= _) _ _ s;refine AQ8 (ARZ ho hd (x:=.int k 0) rfl ?_)))
local macro_rules|`(tactic|walk_at "M")=>`(tactic|(obtain⟨g0,g1,g2,g3,g4,g5⟩:=f2 b hb))
local macro_rules|`(tactic|walk_at "N")=>`(tactic|(rw[z]at q;exact absurd (ARF q) (ARw _)))
local macro_rules|`(tactic|walk_at "O")=>`(tactic|(have hz:(1000:Nat)<sizeLine:=by decide))
local macro_rules|`(tactic|walk_at "P")=>`(tactic|(obtain⟨oc,od,kV,doc,pm,an,cdv,ct,osl,rfl,lk,hcd⟩:=F;exact Xi lk hcd S len fun A outer s H vs Q E hr hsp=>hbody cdv A outer s H vs Q E hr hsp))
local macro_rules|`(tactic|walk_at "Q")=>`(tactic|(refine ASf (h₀:=base) I.ok.mod.kin kp (thn (ha aD aA s1 Y H1 _ I h) fun us s2 ⟨vs,H2,I2,r,aB,q⟩=>⟨I2.kIn,?_⟩) he hpl;have kin:=I2.kIn))
local macro_rules|`(tactic|walk_at "R")=>`(tactic|(obtain⟨oe,vs,T,oT,ts,⟨he,rfl,rfl,hd,h1⟩,⟨hb,hTe⟩,hT,hdT,h3⟩:=x.tr))
local macro_rules|`(tactic|walk_at "S")=>`(tactic|(intro aA s Y H D I h))
local macro_rules|`(tactic|walk_at "T")=>`(tactic|(intro aA s Y H x xs v us Q I rx rs h))
local macro_rules|`(tactic|walk_at "U")=>`(tactic|(refine AQ8 (wpAny_frameOf_fun hfr hl hf fun h1 sl=>?_);refine AQ8 (wpAny_entryPlaceOf fun pl hpl=>?_);unfold EntryCells.newEntry newFields))
local macro_rules|`(tactic|walk_at "V")=>`(tactic|(intro aA s Y H xs us Q I r h))
local macro_rules|`(tactic|walk_at "W")=>`(tactic|(obtain⟨s1,s2,⟨u,v,s3⟩,⟨o4,e4,_,d4⟩,⟨o5,e5,_,d5⟩⟩:=st;simp only[ARI,AS4,or_false]at hc;rcases hc with rfl|rfl|rfl|rfl|rfl))
local macro_rules|`(tactic|walk_at "X")=>`(tactic|(refine Xi lk hcd S len fun A outer s H vs Q E hr hsp=>?_;obtain⟨t,h,q⟩:=hbody cdv A outer s H vs Q E hr hsp;exact⟨t,h.nox,q⟩))
local macro_rules|`(tactic|walk_at "Y")=>`(tactic|(have I2:Inv X aA Y H1 { s1 with heap:=h' }:=I1.kept (t':=s1.toks) hk))
local macro_rules|`(tactic|walk_at "Z")=>`(tactic|(rcases ARI.mp (show T∈s.heap.objs.size::frs outer from hb) with z|z))
local macro_rules|`(tactic|walk_at "a")=>`(tactic|(have hz:(100000:Nat)<sizeLine:=by decide))
local macro_rules|`(tactic|walk_at "aA")=>`(tactic|(refine⟨_,rfl,_,_,_,_,rfl,rfl,hp.sq,rfl,_,rfl,_,_,_,_,rfl,rfl,hq.sq,rfl,_,_,rfl,?_⟩))
local macro_rules|`(tactic|walk_at "aB")=>`(tactic|(refine⟨_,rfl,_,rfl,rs,_,_,_,rfl,rfl,SqL.of er,ea,y,_,_,_,rfl,rfl,SqT.of ey,rfl,?_⟩))
local macro_rules|`(tactic|walk_at "aC")=>`(tactic|(have e:b=C:=by simpa using hb))
local macro_rules|`(tactic|walk_at "aD")=>`(tactic|(have z':Data.seq _ _=Data.cell v:=z))
local macro_rules|`(tactic|walk_at "aE")=>`(tactic|(have:Po.lst B*(b':Rat)=0:=eB.symm.trans rfl;rcases Rat.mul_eq_zero.mp this with w|w))
local macro_rules|`(tactic|walk_at "aF")=>`(tactic|(rw[ATy (ATt hj)]at e2;obtain⟨u',r',q⟩:=hl j y v' e1 e2 e3;refine⟨u',r',?_⟩))
local macro_rules|`(tactic|walk_at "aG")=>`(tactic|(subst ey;cases (show u=Value.ref b from ry);obtain⟨z,hd,xs,rel,dd⟩:=VJ I.hok e))
local macro_rules|`(tactic|walk_at "aH")=>`(tactic|(refine⟨_,(Af (Aq (Cu EY rfl T.z_list boot_list (Aa (Jp (pv 0) rfl) Ab)))),?_⟩))
local macro_rules|`(tactic|walk_at "aI")=>`(tactic|(by_cases c:(v==.free&&env.scope.kind==.function&&env.kindOf n==some .cell)=true))
local macro_rules|`(tactic|walk_at "aJ")=>`(tactic|(refine⟨_,rfl,c,dx,_,rfl,ec,rfl,c,ga,wa,gs,ws,rfl,co,fun g1 H1 s1 n1 r1=>?_⟩))
local macro_rules|`(tactic|walk_at "aK")=>`(tactic|(obtain⟨o',q1⟩:=I2.base.there e o qe (dH e);exact absurd rfl (gone e o' q1)))
local macro_rules|`(tactic|walk_at "aL")=>`(tactic|(simp only[ARG,ARD,ASJ]at hl;rcases us with _|⟨u0,_|⟨u1,_|⟨ux,us⟩⟩⟩))
local macro_rules|`(tactic|walk_at "aM")=>`(tactic|(obtain⟨sl,e1⟩:=I.base.slot b o e n hb hx))
local macro_rules|`(tactic|walk_at "aN")=>`(tactic|(refine Subscript_ (thn (he aA s Y H _ I h) fun v s1 ⟨x,H1,I1,r1,q1⟩=>?_)))
local macro_rules|`(tactic|walk_at "aO")=>`(tactic|(rw[List.map_map];exact(AVh _).symm.trans (List.map_congr_left fun p _=>AAg p)))
local macro_rules|`(tactic|walk_at "aP")=>`(tactic|(have hr:=sm _ _ hrs;by_cases hlt:i<qs.length))
local macro_rules|`(tactic|walk_at "aQ")=>`(tactic|(obtain⟨o',q1⟩:=I.base.there b o q (dH b)))
local macro_rules|`(tactic|walk_at "aR")=>`(tactic|(rcases ARI.mp h with z|z))
local macro_rules|`(tactic|walk_at "aS")=>`(tactic|(have eq:qs[i]?=some qs[i]:=AQ9 hlt;obtain⟨p0,h0,k0⟩:=(kr.keep sm).get eq))
local macro_rules|`(tactic|walk_at "aT")=>`(tactic|(have I2:=Ny (h':=h2) (t':=s.toks) [z,TI,TO,i1,i2] I1 (fun b o nb eb=>?_) hfo))
local macro_rules|`(tactic|walk_at "aU")=>`(tactic|(refine⟨dd.typeIs,fun b q=>?_,hd⟩;cases q;obtain⟨ob,_,_,h1,h2,_⟩:=dd))
local macro_rules|`(tactic|walk_at "aV")=>`(tactic|(have L1:=ASS (M:=model prog w) X B.ga;have L2:=ASS (M:=model prog w) X B.no))
local macro_rules|`(tactic|walk_at "aW")=>`(tactic|(cases pr;obtain⟨c,ga,wa,rfl,co,_,_⟩:=t0))
local macro_rules|`(tactic|walk_at "aa")=>`(tactic|(have lP:z<s.heap.objs.size:=ARF s1;have rV:TI<s.heap.objs.size:=ARF s2;have rX:TO<s.heap.objs.size:=ARF s3))
local macro_rules|`(tactic|walk_at "ab")=>`(tactic|(obtain⟨s1,s2,⟨u0,v0,s3⟩,s4,s5⟩:=st))
local macro_rules|`(tactic|walk_at "ac")=>`(tactic|(obtain⟨_,o2,q2,hd2⟩:=fl.fr.mem z;rw[hT]at q2;cases q2))
local macro_rules|`(tactic|walk_at "ad")=>`(tactic|(obtain⟨c,ga,wa,gs,ws,rfl,⟨⟨dx,e⟩,r1,r2⟩,q⟩:=h))
local macro_rules|`(tactic|walk_at "ae")=>`(tactic|(subst em e3;obtain⟨arr⟩:=l1;have es':arr=[x0,x1,x2,x3,some (.builtin "ValueError.__new__"),x5]:=es))
local macro_rules|`(tactic|walk_at "af")=>`(tactic|(generalize ((p.den:Int):Rat)=b at *;generalize (q.num:Rat)=c at *;generalize ((q.den:Int):Rat)=d at *))
local macro_rules|`(tactic|walk_at "ag")=>`(tactic|(obtain⟨o',e1⟩:=I.base.there b o e hx))
local macro_rules|`(tactic|walk_at "ah")=>`(tactic|(have ty:s.TypeIs (.ref e) "enumerate":=⟨_,eE,rfl⟩;have sl:=F.slot_enumerate_next;unfold pyNext))
local macro_rules|`(tactic|walk_at "ai")=>`(tactic|(refine ATq (pl:=pl) (thn (he aA s Y H _ I h) fun u s1 ⟨x,H1,I1,rx,a,dx,fs,ex,ea,l,q⟩=>?_) ht))
local macro_rules|`(tactic|walk_at "aj")=>`(tactic|(refine(I.hok b u e).stay (fun c v hc q=>k c v ?_ q) (fun _ q=>q) fun _ _ q=>q;rcases hc with z|z))
local macro_rules|`(tactic|walk_at "ak")=>`(tactic|(simp only[sliceBounds,HT.sIx,Option.getD_none,show(1:Int) > 0 by decide,if_true];by_cases h:i<0))
local macro_rules|`(tactic|walk_at "al")=>`(tactic|(obtain⟨ji,gk,py,_⟩:=I.list ft;obtain⟨u,hu,ru⟩:=gj.get hx;obtain⟨v,hv,rv⟩:=gk.get hy))
local macro_rules|`(tactic|walk_at "am")=>`(tactic|(obtain⟨o,ho,hc,hd⟩:=id a;obtain⟨ol,hol,_,nl,hdl⟩:=id b;unfold Builtin.SmallTypes.nextOf))
local macro_rules|`(tactic|walk_at "an")=>`(tactic|(show wpAny _ _ (seqItems? (.ref l) >>= _) _ _ s;refine AQ8 (ASr hol hdl ?_);simp only[ASj,hx]))
local macro_rules|`(tactic|walk_at "ao")=>`(tactic|(rcases h with⟨nt,e⟩|⟨l,rfl,⟨ha,hl⟩,k,kx⟩))
local macro_rules|`(tactic|walk_at "ap")=>`(tactic|(have n1:b≠e:=Az (s1 _ _ eb) he;have n2:b≠d:=Az (s1 _ _ eb) hd;rw[Eu n1,An n1,An n2,An n1]))
local macro_rules|`(tactic|walk_at "aq")=>`(tactic|(refine⟨_,rfl,_,_,rfl,rfl,_,rfl,?_⟩))
local macro_rules|`(tactic|walk_at "ar")=>`(tactic|(exact⟨_,rfl,_,rfl,.inr ⟨nt,e⟩⟩))
local macro_rules|`(tactic|walk_at "as")=>`(tactic|(obtain⟨f,fd,F,b,kp,m⟩:=C.ex))
local macro_rules|`(tactic|walk_at "at")=>`(tactic|(obtain⟨zo,H3,I3,n3⟩:=q3;obtain⟨m',hm,w3⟩:=hN zo H3 n3;exact⟨m',hm,zo,H3,I3,w3⟩))
local macro_rules|`(tactic|walk_at "au")=>`(tactic|(have z:=r2.length;rw[F.len _ _ _ _ hq]at z;rw[ARx]))
local macro_rules|`(tactic|walk_at "av")=>`(tactic|(obtain⟨t',rfl⟩:=ry))
local macro_rules|`(tactic|walk_at "aw")=>`(tactic|(obtain⟨hp2,g2,d2,t2,os2⟩:=s2;have G:hp2.Ns Nn (hp2.nsMap Nn):=.of_isNs (AUV kin lX)))
local macro_rules|`(tactic|walk_at "ax")=>`(tactic|(have z':Data.fields _=Data.cell v:=z))
local macro_rules|`(tactic|walk_at "ay")=>`(tactic|(intro aA s Y H R I h;refine thn (hl aA s Y H _ I h) fun v s1 ⟨x,H1,I1,r1,q1⟩=>?_))
local macro_rules|`(tactic|walk_at "az")=>`(tactic|(have hcB:(Value.ref C::bm).contains (.type "BaseException")=true:=by rw[AVP,hbase,AVd]))
local macro_rules|`(tactic|walk_at "b")=>`(tactic|(refine⟨rfl,fun cdv A outer s hr=>?_⟩))
local macro_rules|`(tactic|walk_at "c")=>`(tactic|(have dH:∀b,b∉(BL (CXd P w) P w K mg base N qual scope f cd A outer s H E).ex:=fun b z=>absurd (show b∈([]:List Addr) from z) (by simp)))
local macro_rules|`(tactic|walk_at "d")=>`(tactic|(intro X hP hw hK hc i aA s Y H E I hf st hg;subst hP hw hK))
local macro_rules|`(tactic|walk_at "e")=>`(tactic|(refine AQ8 (ARZ he hd h1 ?_);rw[if_pos (show(Value.ref T != Value.none)=true from by simp)]))
local macro_rules|`(tactic|walk_at "f")=>`(tactic|(refine⟨_,rfl,rfl,_,rfl,HR rfl ?_⟩;exact⟨_,rfl,L,_,_,_,rfl,rfl,SqL.of eL,rfl,_,rfl,L,_,_,_,rfl,rfl,SqL.of eL,rfl,_,rfl,L,_,_,_,rfl,rfl,SqL.of eL,rfl,z⟩))
local macro_rules|`(tactic|walk_at "g")=>`(tactic|(refine⟨_,rfl,rfl,_,rfl,HR rfl ?_⟩))
local macro_rules|`(tactic|walk_at "h")=>`(tactic|(obtain⟨oe,vs,T,oT,ts,⟨he,hc,hx,hd,h1⟩,⟨hb,hTe⟩,hT,hdT,h3⟩:=x.tr))
local macro_rules|`(tactic|walk_at "i")=>`(tactic|(intro aA s Y H Q I h))
local macro_rules|`(tactic|walk_at "j")=>`(tactic|(obtain⟨h,c⟩:=ARB.mp h;obtain⟨a,b⟩:=ARB.mp h))
local macro_rules|`(tactic|walk_at "k")=>`(tactic|(intro aA s Y H x y v u Q I rx ry h))
local macro_rules|`(tactic|walk_at "l")=>`(tactic|(refine .inr ⟨⟨_,_,SqL.of hr,h0⟩,fun x H' y zb zc C ex=>?_⟩;obtain⟨e,y⟩:=y;subst e))
local macro_rules|`(tactic|walk_at "m")=>`(tactic|(obtain⟨e,y⟩:=y;subst e;have ex':=y _ (SqL.of hr)))
local macro_rules|`(tactic|walk_at "n")=>`(tactic|(have hbt:=hb ⟨h',g2,d2,t2,os2⟩ (Value.ref e::us) I3.kIn hl;rw[ARx]at hbt;refine AT9 (codeAny_mono (F.run _ _ _ _ ⟨Value.ref e::us,[]⟩ (Value.ref e::us) _ _ E0 ((hr.mono hkj).make C us []) (I3.env0.make C us []) hbt r2 hq) fun res s4 h4=>?_)))
local macro_rules|`(tactic|walk_at "o")=>`(tactic|(refine⟨_,rfl,_,_,rfl,rfl,_,rfl,Hw h1 ?_⟩;refine⟨_,rfl,_,rfl,c,dx,_,rfl,ec,rfl,c,ga,wa,gs,ws,rfl,co,_,_,rfl,rfl,_,rfl,?_⟩))
local macro_rules|`(tactic|walk_at "p")=>`(tactic|(obtain⟨f0,f1,f2,f3,f4,f5⟩:=hf it (by simp)))
local macro_rules|`(tactic|walk_at "q")=>`(tactic|(subst ex;obtain rfl:u=Value.ref a:=rx))
local macro_rules|`(tactic|walk_at "t")=>`(tactic|(refine AQ8 (ARZ he hd h1 ?_)))
local macro_rules|`(tactic|walk_at "u")=>`(tactic|(obtain⟨o',q1⟩:=I.base.there T o q (dH T);by_cases hb:T∈frs (envOfC qual scope s.heap.objs.size f cd::outer)))
local macro_rules|`(tactic|walk_at "v")=>`(tactic|(refine turn x hT hdT h3 hb hTe fun h2 st fr oth ⟨o2,q2,d2⟩ up=>h h2 ⟨st,x.nw,fr,oe,vs,T,o2,_,⟨(oth e hTe.symm).trans he,hc,hx,hd,h1⟩,⟨hb,hTe⟩,q2,d2,?_⟩ up;have:=(ARi.mp h3).1;simp[this]))
local macro_rules|`(tactic|walk_at "w")=>`(tactic|(refine AUc (GP (i:=i) Ip hN hi' hy (v:=.ref D') rfl (fun s7 I7=>?_) hf);refine⟨m6,n6.at fun o e=>(I7.pin (C,o) (ART _ (ART _ (Es ASG e)))).1,fun h7 sb=>?_⟩;exact⟨_,H5,K6 I7.unpinned f6 sb,q⟩))
local macro_rules|`(tactic|walk_at "x")=>`(tactic|(rw[show its.toArray.any (eqU x)=its.any (eqU x) by simp,LQ r fs];exact q))
local macro_rules|`(tactic|walk_at "y")=>`(tactic|(obtain⟨t,rfl⟩:=rx;obtain⟨u,rfl,ru⟩:=GQ rs;obtain⟨t',rfl⟩:=ru))
local macro_rules|`(tactic|walk_at "z")=>`(tactic|(obtain⟨t,rfl⟩:=rx))
set_option hygiene true
namespace L2
open PySem PySem.Spec PyProof.Rows
abbrev Key:=Sum Int Str
def RM:Key->Value->Bool
 | .inl k,v=>Value.isInt k v
 | .inr x,v=>Value.isStrOf x v
def AOu(w:World):Key->Int
 | .inl k=>hashInt k
 | .inr x=>hashStr w x
theorem CN:∀{k:Key} {v:Value},RM k v=true->(∃i t,k=Sum.inl i/\v=Value.int i t)\/(∃x t,k=Sum.inr x/\v=Value.str x t)
 | .inl i,v,h=>by
  obtain⟨t,e⟩:=Value.isInt_shape (k:=i) (v:=v) h;exact .inl ⟨i,t,rfl,e⟩
 | .inr x,v,h=>by
  obtain⟨t,e⟩:=Value.isStrOf_shape (x:=x) (v:=v) h;exact .inr ⟨x,t,rfl,e⟩
theorem Zm(i:Int)(t:Tok):RM (.inl i) (.int i t)=true:=by simp[RM,Value.isInt]
theorem Yl(x:Str)(t:Tok):RM (.inr x) (.str x t)=true:=by simp[RM,Value.isStrOf]
theorem AHl(a b:Int):decide ((Sum.inl a:Key)=Sum.inl b)=(a==b):=by
 by_cases e:a=b
 .subst e;simp
 .have h:¬(Sum.inl a:Key)=Sum.inl b:=fun q=>e (Sum.inl.inj q);rw[decide_eq_false h];exact(beq_eq_false_iff_ne.mpr e).symm
theorem AHb(a b:Str):decide ((Sum.inr a:Key)=Sum.inr b)=decide (a=b):=by
 by_cases e:a=b
 .subst e;simp
 .have h:¬(Sum.inr a:Key)=Sum.inr b:=fun q=>e (AU7 q);rw[decide_eq_false h,decide_eq_false e]
theorem AI2(a:Int)(b:Str):decide ((Sum.inl a:Key)=Sum.inr b)=false:=decide_eq_false (fun q=>nomatch q)
theorem AGU(a:Str)(b:Int):decide ((Sum.inr a:Key)=Sum.inl b)=false:=decide_eq_false (fun q=>nomatch q)
def Bx(prog:Program)(w:World):PySem.KeyKind prog w Key where
 is:=RM
 hash:=AOu w
 inj:=fun v a b ha hb=>by
  rcases CN ha with⟨i,t,rfl,rfl⟩|⟨x,t,rfl,rfl⟩
  .rcases CN hb with⟨j,u,rfl,e⟩|⟨y,u,rfl,e⟩
   .injection e with e1 _;rw[e1]
   .exact nomatch e
  .rcases CN hb with⟨j,u,rfl,e⟩|⟨y,u,rfl,e⟩
   .exact nomatch e
   .injection e with e1 _;rw[e1]
 byValue:=fun k v h=>by
  rcases CN h with⟨i,t,rfl,rfl⟩ | ⟨x,t,rfl,rfl⟩<;>rfl
 pyHash:=fun hv h=>by
  rcases CN hv with⟨i,t,rfl,rfl⟩|⟨x,t,rfl,rfl⟩
  .exact wpAny_pyHash_int h
  .exact wpAny_pyHash_str h
 eqBool:=fun hu hv h=>by
  rcases CN hu with⟨i,t,rfl,rfl⟩|⟨x,t,rfl,rfl⟩
  .rcases CN hv with⟨j,u,rfl,rfl⟩|⟨y,u,rfl,rfl⟩
   .rw[AHl]at h;exact wpAny_eqBool_int h
   .rw[AI2]at h;exact SeqAt.EqAt.int_str i t y u _ _ _ _ h
  .rcases CN hv with⟨j,u,rfl,rfl⟩|⟨y,u,rfl,rfl⟩
   .rw[AGU]at h;exact SeqAt.EqAt.str_int x t j u _ _ _ _ h
   .rw[AHb]at h;exact wpAny_eqBool_str h
 «strs»:=fun k x t v h=>by
  rcases CN h with⟨i,u,rfl,e⟩|⟨y,u,rfl,e⟩
  .exact nomatch e
  .injection e with e1 _;subst e1;cases v<;>rfl
theorem Va(prog:Program)(w:World)(i:Int)(t:Tok):(Bx prog w).is (.inl i) (.int i t)=true:=Zm i t
theorem Ia(prog:Program)(w:World)(x:Str)(t:Tok):(Bx prog w).is (.inr x) (.str x t)=true:=Yl x t
inductive V where
 | non | bl (b:Bool) | int (i:Int) | str (x:Str) | byt (b:Array UInt8) | flt (b:UInt64) | ref (a:Addr) | ty (n:String)
 deriving DecidableEq
def Bh:V->Value->Prop
 | .non,u=>u=Value.none
 | .bl b,u=>u=Value.bool b
 | .int i,u=>∃t,u=Value.int i t
 | .str x,u=>∃t,u=Value.str x t
 | .byt b,u=>∃t,u=Value.bytes b t
 | .flt b,u=>∃t,u=Value.float b t
 | .ref a,u=>u=Value.ref a
 | .ty n,u=>u=Value.type n
abbrev Ba:List V->List Value->Prop:=Paired Bh
theorem Ba.length(r:Ba xs us):xs.length=us.length:=AR1 r
theorem Ba.get:∀{xs:List V} {us:List Value} {i:Nat} {x:V},Ba xs us->xs[i]?=some x->∃u,us[i]?=some u/\Bh x u
 | _,_,_,_,.nil,e=>by simp at e
 | _,_,0,_,.cons r _,e=>by simp at e;subst e;exact⟨_,rfl,r⟩
 | _,_,i+1,x,.cons _ t,e=>by
  obtain⟨u,h1,h2⟩:=Ba.get (i:=i) (x:=x) t (by simpa using e);exact⟨u,by simpa using h1,h2⟩
theorem Ba.append:∀{xs ys:List V} {us ws:List Value},Ba xs us->Ba ys ws->Ba (xs++ys) (us++ws)
 | _,_,_,_,.nil,s=>s
 | _,_,_,_,.cons r t,s=>.cons r (Ba.append t s)
theorem Ba.take:∀{xs:List V} {us:List Value} (n:Nat),Ba xs us->Ba (xs.take n) (us.take n)
 | _,_,0,_=>.nil
 | _,_,_+1,.nil=>.nil
 | _,_,n+1,.cons r t=>.cons r (Ba.take n t)
theorem Ba.drop:∀{xs:List V} {us:List Value} (n:Nat),Ba xs us->Ba (xs.drop n) (us.drop n)
 | _,_,0,r=>r
 | _,_,_+1,.nil=>.nil
 | _,_,n+1,.cons _ t=>Ba.drop n t
def Gu:Option V->Option Value->Prop
 | some v,some u=>Bh v u
 | none,none=>True
 | _,_=>False
def KV{κ:Type}:List (κ×V)->List (κ×Value)->Prop:=Paired fun(p:κ×V) (q:κ×Value)=>p.1=q.1/\Bh p.2 q.2
def kV:Key->V
 | .inl i=>.int i
 | .inr x=>.str x
inductive HO where
 | lst (xs:List V)
 | tup (xs:List V)
 | dK (aG:List (Key×V)) | dT (aG:List (List Key×V))
 | set (S:Int->Bool) (n:Nat)
 | ins (C dx:Addr) (fs:List (Str×V))
 | own (x:Addr)
 | xd (fs:List (Str×V))
 | met (f x:Addr)
 | rng (lo hi:Int)
 | frz (o:Obj) (u:HO)
 | tbl (ps:Array Value)
 | ext (φ:Heap->Prop)
abbrev Hp:=Addr->Option HO
def upd(H:Hp)(a:Addr)(o:HO):Hp:=fun b=>if b=a then some o else H b
theorem Ag:upd H a o a=some o:=by unfold upd;rw[if_pos rfl]
theorem An(h:b≠a):upd H a o b=H b:=by unfold upd;rw[if_neg h]
theorem Gk{H:Hp}(h:H a=some o)(h':H b=some u)(d:o≠u):a≠b:=by
 intro e;subst e;rw[h]at h';exact d (ARK h')
theorem Az{H:Hp}(h:H a=some o)(h':H b=none):a≠b:=by
 intro e;subst e;rw[h]at h';cases h'
section
variable (P:Program)(w:World)
def Bp(H:Hp)(h:Heap)(a:Addr):HO->Prop
 | .lst xs=>xs.length<=sizeLine/\∃(its:List Value) (n:Nat),Ba xs its/\h.get? a=some { cls:=.type "list",data:=.seq its.toArray n }
 | .tup xs=>xs.length<=sizeLine/\∃its:List Value,Ba xs its/\IsTup h a its.toArray
 | .dK aG=>aG.length<=sizeLine/\(a==sysModules)=false/\∃vs,KV aG vs/\h.DictOf (Bx P w) a vs
 | .dT aG=>aG.length<=sizeLine/\(a==sysModules)=false/\∃xs:List (List Key×Addr×Value),
   Paired (fun(p:List Key×V) (q:List Key×Addr×Value)=>p.1=q.1/\H q.2.1=some (.tup (p.1.map kV))/\Bh p.2 q.2.2) aG xs /\
   ∃o es ep,h.get? a=some o/\o.ExactDict/\o.data=.dict es ep/\es.toList=xs.map (entryOfKey (tupleKind (Bx P w)))/\(xs.map (·.1)).Nodup
 | .set S n=>h.SetOf (intKind P w) a S n
 | .ins C dx fs=>H dx=some (.own a)/\fs.length<=1000/\dx≠a/\h.get? a=some (W.instObj C dx) /\
   ∃mA,h.Ns1 dx mA/\(∀f,Gu (fs.lookup f) (mA f))/\PySem.Within mA (fs.map (·.1))
 | .own _=>∃o,h.get? a=some o
 | .xd fs=>∃mA,h.Ns1 a mA/\∀f,Gu (fs.lookup f) (mA f)
 | .rng lo hi=>∃t u v,h.get? a=some { cls:=.type "range",data:=.fields #[.int lo t,.int hi u,.int 1 v] }
 | .frz o u=>h.get? a=some o/\Bp H h a u
 | .tbl ps=>h.get? a=some { cls:=.none,data:=.fields ps }
 | .met f x=>h.get? a=some (W.methodObj (.ref f) (.ref x))
 | .ext φ=>φ h/\(∃o,h.get? a=some o)/\∀h1 h2:Heap,φ h1->(∀o,h1.get? a=some o->h2.get? a=some o)->φ h2
def HOk(H:Hp)(h:Heap):Prop:=∀a o,H a=some o->Bp P w H h a o
end
section
variable {P:Program}{w:World}{H H':Hp}{h h':Heap}{a:Addr}{o:HO}
theorem Bp.lt(x:Bp P w H h a o):a<h.objs.size:=by
 cases o with
 | lst xs=>obtain⟨_,_,_,_,e⟩:=x;exact ARF e
 | tup xs=>obtain⟨_,_,_,p⟩:=x;exact p.lt
 | dK aG=>obtain⟨_,_,_,_,o,_,_,e,_⟩:=x;exact ARF e
 | dT aG=>obtain⟨_,_,_,_,o,_,_,e,_⟩:=x;exact ARF e
 | set S n=>obtain⟨o,_,_,_,e,_⟩:=x;exact ARF e
 | ins C dx fs=>obtain⟨_,_,_,e,_⟩:=x;exact ARF e
 | own y=>obtain⟨_,e⟩:=x;exact ARF e
 | xd fs=>obtain⟨_,⟨_,_,_,e,_⟩,_⟩:=x;exact ARF e
 | rng lo hi=>obtain⟨_,_,_,e⟩:=x;exact ARF e
 | frz ob u=>obtain⟨e,_⟩:=x;exact ARF e
 | tbl ps=>exact ARF (show h.get? a=some _ from x)
 | met f y=>exact ARF (show h.get? a=some _ from x)
 | ext φ=>obtain⟨_,⟨_,e⟩,_⟩:=x;exact ARF e
theorem Paired.mapP{α β:Type}{F G:α->β->Prop}:∀{l₁:List α} {l₂:List β},Paired F l₁ l₂->(∀a b,F a b->G a b)->Paired G l₁ l₂
 | _,_,.nil,_=>.nil
 | _,_,.cons r t,f=>.cons (f _ _ r) (Paired.mapP t f)
theorem Paired.imp'{α β:Type}{F G:α->β->Prop}(f:∀a b,F a b->G a b){l₁:List α}{l₂:List β}(r:Paired F l₁ l₂):Paired G l₁ l₂:=Paired.mapP r f
theorem Bp.stay(x:Bp P w H h a o)(k:∀b u,(b=a\/H b=some (.own a))->h.get? b=some u->h'.get? b=some u)
  (ho:∀b,H b=some (.own a)->H' b=some (.own a)) (ht:∀b xs,H b=some (.tup xs)->H' b=some (.tup xs)):Bp P w H' h' a o:=by
 induction o with
 | lst xs=>obtain⟨z,its,n,r,e⟩:=x;exact⟨z,its,n,r,k _ _ (.inl rfl) e⟩
 | tup xs=>obtain⟨z,its,r,ob,e,c⟩:=x;exact⟨z,its,r,ob,k _ _ (.inl rfl) e,c⟩
 | dK aG=>obtain⟨z,y,vs,r,ob,es,ep,e,c⟩:=x;exact⟨z,y,vs,r,ob,es,ep,k _ _ (.inl rfl) e,c⟩
 | dT aG =>
  obtain⟨z,y,xs,r,ob,es,ep,e,c⟩:=x;exact⟨z,y,xs,Paired.mapP r fun p q z=>⟨z.1,ht _ _ z.2.1,z.2.2⟩,ob,es,ep,k _ _ (.inl rfl) e,c⟩
 | set S n=>obtain⟨ob,es,ep,t,e,c⟩:=x;exact⟨ob,es,ep,t,k _ _ (.inl rfl) e,c⟩
 | ins C dx fs =>
  obtain⟨d,z,ne,e,mA,⟨od,es,ep,e2,c⟩,r⟩:=x;exact⟨ho _ d,z,ne,k _ _ (.inl rfl) e,mA,⟨od,es,ep,k _ _ (.inr d) e2,c⟩,r⟩
 | own y=>obtain⟨ob,e⟩:=x;exact⟨ob,k _ _ (.inl rfl) e⟩
 | xd fs=>obtain⟨mA,⟨od,es,ep,e,c⟩,r⟩:=x;exact⟨mA,⟨od,es,ep,k _ _ (.inl rfl) e,c⟩,r⟩
 | rng lo hi=>obtain⟨t,u,v,e⟩:=x;exact⟨t,u,v,k _ _ (.inl rfl) e⟩
 | frz ob u ih=>obtain⟨e,q⟩:=x;exact⟨k _ _ (.inl rfl) e,ih q⟩
 | tbl ps =>
  have e:h.get? a=some { cls:=.none,data:=.fields ps }:=x;show h'.get? a=some { cls:=.none,data:=.fields ps };exact k a _ (.inl rfl) e
 | met f y =>
  have e:h.get? a=some (W.methodObj (.ref f) (.ref y)):=x;show h'.get? a=some (W.methodObj (.ref f) (.ref y));exact k a _ (.inl rfl) e
 | ext φ=>obtain⟨p,⟨o,e⟩,st⟩:=x;exact⟨st _ _ p fun o q=>k _ _ (.inl rfl) q,⟨o,k _ _ (.inl rfl) e⟩,st⟩
theorem HOk.lt(x:HOk P w H h)(e:H a=some o):a<h.objs.size:=(x a o e).lt
theorem HOk.fresh(x:HOk P w H h)(e:h.objs.size<=a):H a=none:=by
 cases q:H a with
 | none=>rfl
 | some u=>exact absurd (ARX (x.lt q) e) (ARw _)
theorem HOk.kept(x:HOk P w H h)(k:∀b u,h.get? b=some u->h'.get? b=some u):HOk P w H h':=fun a o e =>
 (x a o e).stay (fun b u _ q=>k b u q) (fun _ q=>q) fun _ _ q=>q
theorem HOk.laid(x:HOk P w H h)(k:∀b u,h.get? b=some u->h'.get? b=some u)(hp:h.objs.size<=a)(new:Bp P w (upd H a o) h' a o):HOk P w (upd H a o) h':=fun b u e=>by
 have hn:=x.fresh hp;by_cases hb:b=a
 .subst hb;rw[Ag]at e;cases e;exact new
 .rw[An hb]at e;exact(x b u e).stay (fun c v _ q=>k c v q) (fun c q=>by rw[An (Az q hn)];exact q) fun c xs q=>by rw[An (Az q hn)];exact q
end
def Rd(H:Hp)(a:Addr)(u:HO):Prop:=H a=some u\/∃o,H a=some (.frz o u)
theorem Rd.ok(r:Rd H a u)(x:HOk P w H h):Bp P w H h a u:=by
 rcases r with r|⟨o,r⟩
 .exact x a u r
 .obtain⟨_,q⟩:=x a _ r;exact q
def Mut:Option HO->Prop
 | some (.lst _)=>True
 | some (.dK _)=>True
 | some (.dT _)=>True
 | some (.set _ _)=>True
 | some (.ins _ _ _)=>True
 | some (.ext _)=>True
 | _=>False
section
variable {P:Program}{w:World}{H:Hp}{h h':Heap}{x e:Addr}{o':HO}
theorem HOk.write(ok:HOk P w H h)(mu:Mut (H x))(he:e=x\/H e=some (.own x))(k:∀b u,b≠e->h.get? b=some u->h'.get? b=some u)(heo:∃u,h'.get? e=some u)
  (new:Bp P w (upd H x o') h' x o'):HOk P w (upd H x o') h':=fun b u q=>by
 have i6:∀c y,H c=some (.own y)->c≠x:=fun c y r z=>by subst z;rw[r]at mu;exact mu
 have lz:∀c xs,H c=some (.tup xs)->c≠x:=fun c xs r z=>by subst z;rw[r]at mu;exact mu
 by_cases hb:b=x
 .subst hb;rw[Ag]at q;cases q;exact new
 .rw[An hb]at q;by_cases hbe:b=e
  .have q':H b=some (.own x):=by
    rcases he with z|z
    .exact absurd (hbe.trans z) hb
    .rw[hbe];exact z
   rw[q]at q';cases q';obtain⟨v,hv⟩:=heo;exact⟨v,by rw[hbe];exact hv⟩
  .refine(ok b u q).stay (fun c v hc r=>k c v ?_ r) (fun c r=>by rw[An (i6 c b r)];exact r) fun c xs r=>by rw[An (lz c xs r)];exact r
   rcases hc with rfl|hc
   .exact hbe
   .rintro rfl;rcases he with z|z
    .exact i6 c b hc z
    .rw[hc]at z;cases z;exact hb rfl
end
structure Un(fs ex:List Addr)(H H':Hp)(h h':Heap):Prop where
 keep:∀b o,h.get? b=some o->H b=none->b∉fs->b∉ex->h'.get? b=some o
 slot:∀b o,h.get? b=some o->H b=none->b∈fs->b∉ex->∃sl,h'.get? b=some { o with slots:=sl }
 free:∀b o,h.get? b=some o->H b=none->b∉ex->H' b=none
 there:∀b o,h.get? b=some o->b∉ex->∃o',h'.get? b=some o'
 tups:∀b xs,H b=some (.tup xs)->H' b=some (.tup xs)
 frzs:∀b o u,H b=some (.frz o u)->H' b=some (.frz o u)
 tbls:∀b ps,H b=some (.tbl ps)->∃more,H' b=some (.tbl (ps++more))
section
variable {fs fs' ex ex':List Addr}{H H1 H2:Hp}{h h1 h2 h':Heap}{a x e:Addr}{o:HO}
theorem Un.any(u:Un fs ex H H1 h h1)(q:h.get? b=some ob)(n:H b=none)(hx:b∉ex):∃sl,h1.get? b=some { ob with slots:=sl }:=by
 by_cases hb:b∈fs
 .exact u.slot b ob q n hb hx
 .exact⟨ob.slots,u.keep b ob q n hb hx⟩
theorem Un.kept(k:∀b u,h.get? b=some u->h'.get? b=some u):Un fs ex H H h h' :=
 ⟨fun b ob q _ _ _=>k b ob q,fun b ob q _ _ _=>⟨ob.slots,k b ob q⟩,fun _ _ _ n _=>n,fun b ob q _=>⟨ob,k b ob q⟩,fun _ _ q=>q,fun _ _ _ q=>q,fun _ ps q=>⟨#[],by rw[q];simp⟩⟩
theorem Un.refl:Un fs ex H H h h:=Un.kept fun _ _ q=>q
theorem Un.laid(k:∀b u,h.get? b=some u->h'.get? b=some u)(hp:h.objs.size<=a)(hn:H a=none):Un fs ex H (upd H a o) h h' where
 keep:=fun b u q _ _ _=>k b u q
 slot:=fun b u q _ _ _=>⟨u.slots,k b u q⟩
 free:=fun b u q n _=>by rw[An (ARt (ARX (ARF q) hp))];exact n
 there:=fun b u q _=>⟨u,k b u q⟩
 tups:=fun b xs q=>by rw[An (Az q hn)];exact q
 frzs:=fun b u xs q=>by rw[An (Az q hn)];exact q
 tbls:=fun b ps q=>⟨#[],by rw[An (Az q hn),q];simp⟩
theorem Un.write(mu:Mut (H x))(he:e=x\/H e=some (.own x))(k:∀b u,b≠e->h.get? b=some u->h'.get? b=some u)(heo:∃u,h'.get? e=some u):Un fs ex H (upd H x o) h h':=by
 have hx:∀b,H b=none->b≠x:=fun b n z=>by subst z;rw[n]at mu;exact mu
 have hb:∀b,H b=none->b≠e:=fun b n z=>by
  subst z;rcases he with r|r
  .exact hx b n r
  .rw[n]at r;cases r
 have hm:∀b u,H b=some u->¬Mut (some u)->b≠x:=fun b u q nm z=>by subst z;rw[q]at mu;exact nm mu
 refine⟨fun b u q n _ _=>k b u (hb b n) q,fun b u q n _ _=>⟨u.slots,k b u (hb b n) q⟩,fun b u q n _=>by rw[An (hx b n)];exact n,fun b u q _=>?_,
  fun b xs q=>by rw[An (hm b _ q fun z=>z)];exact q,fun b u xs q=>by rw[An (hm b _ q fun z=>z)];exact q,fun b ps q=>⟨#[],by rw[An (hm b _ q fun z=>z),q];simp⟩⟩
 by_cases hbe:b=e
 .subst hbe;exact heo
 .exact⟨u,k b u hbe q⟩
theorem Un.mono(u:Un fs ex H H1 h h1)(hs:∀b∈fs,b∈fs')(hx:∀b∈ex,b∈ex'):Un fs' ex' H H1 h h1 :=
 ⟨fun b ob q n hb he=>u.keep b ob q n (fun z=>hb (hs b z)) fun z=>he (hx b z),fun _ _ q n _ he=>u.any q n fun z=>he (hx _ z),fun b ob q n he=>u.free b ob q n fun z=>he (hx b z),fun b ob q he=>u.there b ob q fun z=>he (hx b z),u.tups,u.frzs,u.tbls⟩
end
def trk(h:Heap)(H:Hp):List Addr:=(List.range h.objs.size).filter fun a=>(H a).isSome
def Sh(h:Heap)(H:Hp):Heap:=W.hideAll h (trk h H)
theorem ZG(h:Heap)(H:Hp):(Sh h H).objs.size=h.objs.size:=W.hideAll_size _ _
theorem ABo(e:h.get? b=some o)(n:H b=none):(Sh h H).get? b=some o :=
 AR4 _ e fun hm=>by
  have q:(H b).isSome=true:=(AUA.mp hm).2;rw[n]at q;simp at q
theorem ADL(e:(Sh h H).get? b=some o):h.get? b=some o/\H b=none:=by
 have e':h.get? b=some o:=ASM (trk h H) e;refine⟨e',?_⟩;cases q:H b with
 | none=>rfl
 | some x =>
  have hm:b∈trk h H:=AUA.mpr ⟨ASh.mpr (ARF e'),by simp[q]⟩;have z:(Sh h H).get? b=none:=ASg (trk h H) hm;rw[z]at e;cases e
def ADd(g h:Heap)(L:Addr):List (Addr×Obj):=(List.range h.objs.size).filterMap fun a=>if a=L\/(g.get? a).isSome=true then none else(h.get? a).map fun o=>(a,o)
def Bj(g h:Heap)(L d:Addr):List (Addr×Obj):=(ADd g h L).filter fun p=>decide (p.1≠d)
structure Mod(K:W.Frag)(mg:Str->Option Value)(base:Heap):Prop where
 kin:K.In base
 glob:base.Ns mainGlobals mg
 blt:∃mb,base.Ns builtinsNs mb/\∀x:Str,x≠"__name__"->mb x=bootBuiltins x
 nolimit:base.NoLimit
structure Cx where
 prog:Program
 w:World
 K:W.Frag
 mg:Str->Option Value
 base:Heap
 A:Around
 N:List Str
 zb:Shared
 zc:Hp
 env:Env
 outer:List Env
 stack:List Env
 ex:List Addr
 fn:Str->Bool
 calm:Bool
 pn:List (Addr×Obj)
 xe:Value->Shared->Prop
def frs(l:List Env):List Addr:=l.filterMap (·.frame)
abbrev Cx.fs(X:Cx):List Addr:=frs X.outer
def Vis(sc:Scope)(x:Str):Prop:=sc.names.lookup x=some .local\/sc.names.lookup x=some .cell\/sc.names.lookup x=some .free
def Loc(sc:Scope)(x:Str):Prop:=sc.names.lookup x=some .local\/sc.names.lookup x=some .cell
def AMP(env:Env)(h:Heap)(m:Str->Option Value)(x:Str)(u:Value):Prop :=
 (env.kindOf x=some .local/\m x=some u)\/((env.kindOf x=some .cell\/env.kindOf x=some .free)/\∃c,env.cells.lookup x=some c/\h.IsCell c (some u))
structure Cx.Ok(X:Cx):Prop where
 mod:Mod X.K X.mg X.base
 kind:X.env.scope.kind=.function
 glob:X.env.globals=mainGlobals
 blt:X.env.builtins=builtinsNs
 above:X.zb.heap.objs.size<=X.env.locals
 inj:∀x y c,X.env.cells.lookup x=some c->X.env.cells.lookup y=some c->x=y
 has:∀x,(X.env.kindOf x=some .cell\/X.env.kindOf x=some .free)->∃c,X.env.cells.lookup x=some c
 cab:∀x c,X.fn x=true->X.env.cells.lookup x=some c->X.zb.heap.objs.size<=c
 hd:X.calm=true->X.A.handled=none
 frames:X.A.frames=some X.stack
 stk:X.stack=X.outer\/(X.stack=X.env::X.outer/\X.env.frame=some X.env.locals)
 exf:∀b∈X.ex,b≠X.env.locals/\∀x c,X.env.cells.lookup x=some c->c≠b
 bs:∀b o,X.base.get? b=some o->X.zb.heap.get? b=some o/\X.zc b=none
 bsz:X.base.objs.size<=X.zb.heap.objs.size
 noex:∀b o,X.base.get? b=some o->b∉X.ex
 exfs:∀b∈X.ex,b∉X.fs
 funs:X.zb.heap.FunFrames X.base X.outer
 frf:∀b∈X.fs,X.zc b=none
structure Inv(X:Cx)(aA:List (Addr×Obj))(Y:List (Option V))(H:Hp)(s:Shared):Prop where
 ok:X.Ok
 os:s.os=X.zb.os
 bare:AllBare s.gens
 base:Un X.fs X.ex X.zc H X.zb.heap s.heap
 loc:∃m,s.heap.Ns X.env.locals m/\∀(i:Nat) (x:Str) (v:V),X.N[i]?=some x->Y[i]?=some (some v)->Vis X.env.scope x->∃u,Bh v u/\AMP X.env s.heap m x u
 cell:∀x c,X.env.cells.lookup x=some c->∃v,s.heap.IsCell c v
 free:H X.env.locals=none
 freeC:∀x c,X.env.cells.lookup x=some c->H c=none
 pin:∀p∈X.pn++aA,s.heap.get? p.1=some p.2/\H p.1=none/\p.1≠X.env.locals/\p.1∉X.fs/\∀v,p.2.data≠.cell v
 hok:HOk X.prog X.w H s.heap
 len:Y.length=X.N.length
section
variable {X:Cx}{aA:List (Addr×Obj)}{Y:List (Option V)}{H H':Hp}{s:Shared}{h':Heap}
theorem Cx.Ok.nofr(ok:X.Ok)(e:X.base.get? b=some o):b∉X.fs:=fun hb=>by
 have:=(ok.funs.mem hb).1;rw[e]at this;cases this
theorem Inv.bs(I:Inv X aA Y H s):∀b o,X.base.get? b=some o->s.heap.get? b=some o/\H b=none:=fun b o e =>
 ⟨I.base.keep b o (I.ok.bs b o e).1 (I.ok.bs b o e).2 (I.ok.nofr e) (I.ok.noex b o e),I.base.free b o (I.ok.bs b o e).1 (I.ok.bs b o e).2 (I.ok.noex b o e)⟩
theorem Inv.bk(I:Inv X aA Y H s):∀b o,X.base.get? b=some o->s.heap.get? b=some o:=fun b o e=>(I.bs b o e).1
theorem Inv.mod(I:Inv X aA Y H s):Mod X.K X.mg X.base:=I.ok.mod
theorem Inv.kIn(I:Inv X aA Y H s):X.K.In s.heap:=I.ok.mod.kin.keeps I.bk
theorem Inv.lt(I:Inv X aA Y H s):X.env.locals<s.heap.objs.size:=let ⟨_,hn,_⟩:=I.loc;hn.lt
theorem Inv.sz(I:Inv X aA Y H s):X.zb.heap.objs.size<=s.heap.objs.size:=ASF I.ok.above (AVb I.lt)
theorem Inv.nofs(I:Inv X aA Y H s){a:Addr}(h:s.heap.objs.size<=a):a∉X.fs:=fun hb=>by
 obtain⟨_,o,ho,_⟩:=I.ok.funs.mem hb;exact absurd (ARX (ARF ho) (ASF I.sz h)) (ARw _)
theorem Inv.cne(I:Inv X aA Y H s):∀x c,X.env.cells.lookup x=some c->c≠X.env.locals:=fun x c e z=>by
 obtain⟨v,o,ho,hd⟩:=I.cell x c e;obtain⟨m,⟨o',es,ep,ho',hd',_⟩,_⟩:=I.loc;rw[z,ho']at ho;cases ho;rw[hd']at hd;cases hd
theorem Inv.funs(I:Inv X aA Y H s):s.heap.FunFrames X.base X.outer:=by
 have all:∀(l:List Env),(∀b∈frs l,b∈X.fs)->X.zb.heap.FunFrames X.base l->s.heap.FunFrames X.base l:=by
  intro l
  induction l with
  | nil=>intro _ _;trivial
  | cons env r ih =>
   intro hs hl;obtain⟨hk,⟨L,o,hf,hn,ho,hd⟩,hr⟩:=hl;have hL:L∈X.fs:=hs L (by unfold frs;rw[ASk,hf];exact ASG);obtain⟨sl,e⟩:=I.base.slot L o ho (I.ok.frf L hL) hL fun z=>I.ok.exfs L z hL;exact⟨hk,⟨L,_,hf,hn,e,hd⟩,ih (fun b hb=>hs b (by unfold frs;rw[ASk,hf];exact ARb _ hb)) hr⟩
 exact all X.outer (fun _ hb=>hb) I.ok.funs
theorem Inv.stack(I:Inv X aA Y H s):s.heap.FunFrames X.base X.stack:=by
 rcases I.ok.stk with e|⟨e,hf⟩
 .rw[e];exact I.funs
 .rw[e];obtain⟨m,hn,_⟩:=I.loc;refine .cons (by rw[I.ok.kind];decide) hf hn ?_ I.funs;exact ATx (ASF I.ok.bsz I.ok.above)
theorem Inv.stkSub(I:Inv X aA Y H s):∀b∈frs X.stack,b∈X.env.locals::X.fs:=fun b hb=>by
 rcases I.ok.stk with e|⟨e,hf⟩
 .rw[e]at hb;exact ARb _ hb
 .rw[e]at hb;unfold frs at hb;rw[ASk,hf]at hb;exact hb
theorem Inv.stkFree(I:Inv X aA Y H s):∀b∈frs X.stack,H b=none:=fun b hb=>by
 rcases ARI.mp (I.stkSub b hb) with e|hb
 .rw[e];exact I.free
 .obtain⟨_,o,ho,_⟩:=I.ok.funs.mem hb;exact I.base.free b o ho (I.ok.frf b hb) fun z=>I.ok.exfs b z hb
theorem Inv.step{g':Array GenState}{t':Nat}{d':Drawn}{ch:List Addr}(I:Inv X aA Y H s)
  (hch:∀b∈ch,(b∈X.ex\/X.zb.heap.objs.size<=b)/\b≠X.env.locals/\(∀x c,X.env.cells.lookup x=some c->c≠b)/\∀p∈X.pn++aA,p.1≠b)
  (keep:∀b o,b≠X.env.locals->b∉X.fs->b∉ch->s.heap.get? b=some o->H b=none->h'.get? b=some o)
  (slot:∀b o,b≠X.env.locals->b∈X.fs->b∉ch->s.heap.get? b=some o->H b=none->∃sl,h'.get? b=some { o with slots:=sl }) (free:∀b o,b∉ch->s.heap.get? b=some o->H b=none->H' b=none)
  (there:∀b o,b∉ch->s.heap.get? b=some o->∃o',h'.get? b=some o')
  (tups:∀b xs,H b=some (.tup xs)->H' b=some (.tup xs)) (frzs:∀b o u,H b=some (.frz o u)->H' b=some (.frz o u)) (tbls:∀b ps,H b=some (.tbl ps)->∃more,H' b=some (.tbl (ps++more)))
  (ns:∀m,s.heap.Ns X.env.locals m->h'.Ns X.env.locals m) (hok:HOk X.prog X.w H' h') (hg:AllBare g') :
  Inv X aA Y H' { s with heap:=h',gens:=g',drawn:=d',toks:=t' }:=by
 have iZ:∀b o,X.zb.heap.get? b=some o->b≠X.env.locals:=fun b o e=>ARt (ARX (ARF e) I.ok.above);have kF:∀b o,X.zb.heap.get? b=some o->b∉X.ex->b∉ch:=fun b o e hx hb=>by
  rcases(hch b hb).1 with z | z
  .exact hx z
  .exact absurd (ARX (ARF e) z) (ARw _)
 have cellK:∀x c,X.env.cells.lookup x=some c->∀v,s.heap.IsCell c v->h'.IsCell c v:=fun x c e v ⟨o,ho,hd⟩=>by
  have i7:c∉ch:=fun z=>(hch c z).2.2.1 x c e rfl;by_cases hc:c∈X.fs
  .obtain⟨sl,q⟩:=slot c o (I.cne x c e) hc i7 ho (I.freeC x c e);exact⟨_,q,hd⟩
  .exact⟨o,keep c o (I.cne x c e) hc i7 ho (I.freeC x c e),hd⟩
 refine⟨I.ok,I.os,hg,⟨fun b o e n hb hx=>?_,fun b o e n hb hx=>?_,fun b o e n hx=>?_,fun b o e hx=>?_,fun b xs e=>tups b xs (I.base.tups b xs e),fun b o xs e=>frzs b o xs (I.base.frzs b o xs e),fun b ps e=>?_⟩,?_,fun x c e=>?_,?_,fun x c e=>?_,fun p hp=>?_,hok,I.len⟩
 .exact keep b o (iZ b o e) hb (kF b o e hx) (I.base.keep b o e n hb hx) (I.base.free b o e n hx)
 .walk_at "aM";obtain⟨sl',e2⟩:=slot b _ (iZ b o e) hb (kF b o e hx) e1 (I.base.free b o e n hx);exact⟨sl',e2⟩
 .walk_at "ag";exact free b o' (kF b o e hx) e1 (I.base.free b o e n hx)
 .walk_at "ag";exact there b o' (kF b o e hx) e1
 .obtain⟨m1,e1⟩:=I.base.tbls b ps e;obtain⟨m2,e2⟩:=tbls b _ e1;exact⟨m1++m2,by rw[e2,Array.append_assoc]⟩
 .obtain⟨m,hn,hl⟩:=I.loc;refine⟨m,ns m hn,fun i x v e1 e2 e3=>?_⟩;obtain⟨u,r,l⟩:=hl i x v e1 e2 e3;refine⟨u,r,?_⟩;rcases l with l|⟨k,c,e,z⟩
  .exact .inl l
  .exact .inr ⟨k,c,e,cellK x c e _ z⟩
 .obtain⟨v,z⟩:=I.cell x c e;exact⟨v,cellK x c e v z⟩
 .obtain⟨m,⟨o,_,_,ho,_⟩,_⟩:=I.loc;exact free _ o (fun z=>(hch _ z).2.1 rfl) ho I.free
 .obtain⟨v,o,ho,hd⟩:=I.cell x c e;exact free c o (fun z=>(hch c z).2.2.1 x c e rfl) ho (I.freeC x c e)
 .obtain⟨e,n,ne,nf,d⟩:=I.pin p hp;have i7:p.1∉ch:=fun z=>(hch p.1 z).2.2.2 p hp rfl;exact⟨keep p.1 p.2 ne nf i7 e n,free p.1 p.2 i7 e n,ne,nf,d⟩
theorem Inv.un(I:Inv X aA Y H s)(u:Un X.fs [] H H' s.heap h')(hok:HOk X.prog X.w H' h'):Inv X aA Y H' { s with heap:=h',toks:=t' }:=by
 obtain⟨m,⟨o,es,ep,ho,r⟩,_⟩:=id I.loc;obtain⟨sl,hL⟩:=u.any ho I.free (by simp);exact I.step (g':=s.gens) (d':=s.drawn) (ch:=[]) (fun _ z=>nomatch z) (fun b o _ hb _ e n=>u.keep b o e n hb (by simp)) (fun b o _ hb _ e n=>u.slot b o e n hb (by simp)) (fun b o _ e n=>u.free b o e n (by simp)) (fun b o _ e=>u.there b o e (by simp)) u.tups u.frzs u.tbls (fun m' hm=>by
  obtain⟨o',es',ep',ho',r'⟩:=hm;rw[ho]at ho';cases ho';exact⟨_,es',ep',hL,r'⟩) hok I.bare
theorem Inv.call(I:Inv X aA Y H s)(u:Un (frs X.stack) ch H H' s.heap h')(hok:HOk X.prog X.w H' h')(hg:AllBare g')
  (hch:∀b∈ch,(b∈X.ex\/X.zb.heap.objs.size<=b)/\b≠X.env.locals/\(∀x c,X.env.cells.lookup x=some c->c≠b)/\∀p∈X.pn++aA,p.1≠b) :
  Inv X aA Y H' { s with heap:=h',gens:=g',drawn:=d',toks:=t' }:=by
 obtain⟨m,⟨o,es,ep,ho,r⟩,_⟩:=id I.loc;obtain⟨sl,hL⟩:=u.any ho I.free fun z=>(hch _ z).2.1 rfl;exact I.step (ch:=ch) hch (fun b o hL hb hc e n=>u.keep b o e n (fun z=>(ARI.mp (I.stkSub b z)).elim hL hb) hc) (fun b o _ _ hc e n=>u.any e n hc) (fun b o hc e n=>u.free b o e n hc) (fun b o hc e=>u.there b o e hc) u.tups u.frzs u.tbls (fun m' hm=>by
  obtain⟨o',es',ep',ho',r'⟩:=hm;rw[ho]at ho';cases ho';exact⟨_,es',ep',hL,r'⟩) hok hg
theorem Inv.turned(I:Inv X aA Y H s)(k:∀b o,b≠it->s.heap.get? b=some o->h'.get? b=some o)(hn:H it=none)(hL:it≠X.env.locals)
  (h1:it∈X.ex\/X.zb.heap.objs.size<=it) (h2:∀x c,X.env.cells.lookup x=some c->c≠it) (h3:∀p∈X.pn++aA,p.1≠it):Inv X aA Y H { s with heap:=h',toks:=t' }:=by
 have i8:∀b u,H b=some u->b≠it:=fun b u e z=>by rw[z,hn]at e;cases e
 refine I.step (g':=s.gens) (d':=s.drawn) (ch:=[it]) (fun b hb=>?_) (fun b o _ _ hc e _=>k b o (fun z=>hc (by simp[z])) e) (fun b o _ _ hc e _=>⟨o.slots,k b o (fun z=>hc (by simp[z])) e⟩) (fun _ _ _ _ n=>n)
  (fun b o hc e=>⟨o,k b o (fun z=>hc (by simp[z])) e⟩) (fun _ _ e=>e) (fun _ _ _ e=>e) (fun b ps e=>⟨#[],by rw[e];simp⟩) (fun m hm=>?_) (fun b u e=>?_) I.bare
 .have e:b=it:=by simpa using hb
  subst e;exact⟨h1,hL,h2,h3⟩
 .obtain⟨o,es,ep,ho,r⟩:=hm;exact⟨o,es,ep,k _ o (ATt hL) ho,r⟩
 .walk_at "aj"
  .rw[z];exact i8 b u e
  .exact i8 c _ z
theorem Inv.tok(I:Inv X aA Y H s)(t:Nat):Inv X aA Y H { s with toks:=t }:=I.un (h':=s.heap) (t':=t) Un.refl I.hok
theorem Inv.kept(I:Inv X aA Y H s)(k:∀b u,s.heap.get? b=some u->h'.get? b=some u):Inv X aA Y H { s with heap:=h',toks:=t' }:=I.un (Un.kept k) (I.hok.kept k)
theorem Inv.laid{a:Addr}(I:Inv X aA Y H s)(k:∀b u,s.heap.get? b=some u->h'.get? b=some u)(hp:s.heap.objs.size<=a)(new:Bp X.prog X.w (upd H a o) h' a o) :
  Inv X aA Y (upd H a o) { s with heap:=h',toks:=t' }:=I.un (Un.laid k hp (I.hok.fresh hp)) (I.hok.laid k hp new)
theorem Inv.write{x e:Addr}{o:HO}{t':Nat}(I:Inv X aA Y H s)(mu:Mut (H x))(he:e=x\/H e=some (.own x))(k:∀b u,b≠e->s.heap.get? b=some u->h'.get? b=some u)(heo:∃u,h'.get? e=some u)
  (new:Bp X.prog X.w (upd H x o) h' x o):Inv X aA Y (upd H x o) { s with heap:=h',toks:=t' }:=I.un (Un.write mu he k heo) (I.hok.write mu he k heo new)
theorem Inv.weak(I:Inv X aA Y H s)(hl:zd.length=Y.length)(w:∀(i:Nat) v,zd[i]?=some (some v)->Y[i]?=some (some v)):Inv X aA zd H s :=
 ⟨I.ok,I.os,I.bare,I.base,let ⟨m,hn,hl'⟩:=I.loc;⟨m,hn,fun i x v e1 e2 e3=>hl' i x v e1 (w i v e2) e3⟩,I.cell,I.free,I.freeC,I.pin,I.hok,hl.trans I.len⟩
theorem Inv.pins_of(I:Inv X aA Y H s)(h:∀p∈fK,s.heap.get? p.1=some p.2/\H p.1=none/\p.1≠X.env.locals/\p.1∉X.fs/\∀v,p.2.data≠.cell v):Inv X fK Y H s :=
 ⟨I.ok,I.os,I.bare,I.base,I.loc,I.cell,I.free,I.freeC,fun p hp=>(ARP.mp hp).elim (fun z=>I.pin p (ASD _ z)) (h p),I.hok,I.len⟩
theorem Oz{N:List Str}(hN:N.Nodup){i j:Nat}(a:N[i]?=some x)(b:N[j]?=some x):i=j:=by
 obtain⟨h1,e1⟩:=ARO.mp a;obtain⟨h2,e2⟩:=ARO.mp b;exact(List.getElem_inj hN).mp (e1.trans e2.symm)
theorem ZZ(I:Inv X aA Y H s)(hN:X.N.Nodup)(hi:X.N[i]?=some x)(hx:Loc X.env.scope x)(r:Bh v u)
  (h:∀s',Inv X aA (Y.set i (some v)) H s'->(∃a,Heap.SameBut a s.heap s'.heap/\(a=X.env.locals\/X.env.cells.lookup x=some a))->Q () s') (hf:X.fn x=true\/X.env.scope.names.lookup x=some .local:=by first | exact .inl rfl | exact .inr rfl | assumption):wpAny M A (storeName X.env x u) Q E s:=by
 obtain⟨m,hn,hl⟩:=id I.loc;have hcls:(X.env.scope.kind==.class || (X.env.scope.kind==.module&&X.env.locals != X.env.globals))=false:=by rw[I.ok.kind];rfl
 have oW:i<Y.length:=by rw[I.len];exact(ARO.mp hi).1
 have cne:=I.cne;have tracked:∀{a:Addr} {h':Heap},(∃o,s.heap.get? a=some o/\H a=none)->Heap.SameBut a s.heap h'->HOk X.prog X.w H h':=fun {a h'} ha hs b ob e=>by
  obtain⟨_,_,hfree⟩:=ha;refine(I.hok b ob e).stay (fun c w' hc q=>(hs.2 c ?_).trans q) (fun _ q=>q) fun _ _ q=>q;rintro rfl;rcases hc with rfl|hc
  .rw[hfree]at e;cases e
  .rw[hfree]at hc;cases hc
 rcases hx with hk|hk
 .refine wpAny_storeName_local hk hn (fun h' hn' hs=>?_) hcls;obtain⟨oL,_,_,hoL,_⟩:=id hn;refine h _ ⟨I.ok,I.os,I.bare,⟨fun b o e n hb hx=>?_,fun b o e n hb hx=>?_,I.base.free,fun b o e hx=>?_,I.base.tups,I.base.frzs,I.base.tbls⟩,⟨_,hn',fun j y v' e1 e2 e3=>?_⟩,fun y c e=>?_,I.free,I.freeC,fun p hp=>?_,tracked ⟨oL,hoL,I.free⟩ hs,by simpa using I.len⟩ ⟨_,hs,.inl rfl⟩
  .exact(hs.2 b (ARt (ARX (ARF e) I.ok.above))).trans (I.base.keep b o e n hb hx)
  .walk_at "aM";exact⟨sl,(hs.2 b (ARt (ARX (ARF e) I.ok.above))).trans e1⟩
  .walk_at "ag";exact⟨o',(hs.2 b (ARt (ARX (ARF e) I.ok.above))).trans e1⟩
  .by_cases hj:j=i
   .subst hj;rw[hi]at e1;cases e1;rw[ATh oW]at e2;cases e2;exact⟨u,r,.inl ⟨hk,by simp⟩⟩
   .walk_at "aF";rcases q with⟨k,e⟩|⟨k,c,e,z⟩
    .refine .inl ⟨k,?_⟩;have:y≠x:=fun e=>hj (Oz hN e1 (e ▸ hi));simp[this,e]
    .exact .inr ⟨k,c,e,z.sameBut hs (cne y c e)⟩
  .obtain⟨w',z⟩:=I.cell y c e;exact⟨w',z.sameBut hs (cne y c e)⟩
  .obtain⟨e,n,ne,nf,d⟩:=I.pin p hp;exact⟨(hs.2 p.1 ne).trans e,n,ne,nf,d⟩
 .have hfn:X.fn x=true:=by
   rcases hf with z|z
   .exact z
   .rw[z]at hk;cases hk
  obtain⟨c,hc⟩:=I.ok.has x (.inl hk);obtain⟨w',z⟩:=I.cell x c hc;refine wpAny_storeName_cell I.ok.kind hk hc z (fun h' hc' hs=>?_);obtain⟨oc,hoc,lC⟩:=id z;refine h { s with heap:=h' } ⟨I.ok,I.os,I.bare,⟨fun b o e n hb hx=>?_,fun b o e n hb hx=>?_,I.base.free,fun b o e hx=>?_,I.base.tups,I.base.frzs,I.base.tbls⟩,⟨m,hn.sameBut hs (ATt (cne x c hc)),fun j y v' e1 e2 e3=>?_⟩,fun y c' e=>?_,I.free,I.freeC,fun p hp=>?_,tracked ⟨oc,hoc,I.freeC x c hc⟩ hs,by simpa using I.len⟩ ⟨c,hs,.inr hc⟩
  .exact(hs.2 b (ARt (ARX (ARF e) (I.ok.cab x c hfn hc)))).trans (I.base.keep b o e n hb hx)
  .walk_at "aM";exact⟨sl,(hs.2 b (ARt (ARX (ARF e) (I.ok.cab x c hfn hc)))).trans e1⟩
  .walk_at "ag";exact⟨o',(hs.2 b (ARt (ARX (ARF e) (I.ok.cab x c hfn hc)))).trans e1⟩
  .by_cases hj:j=i
   .subst hj;rw[hi]at e1;cases e1;rw[ATh oW]at e2;cases e2;exact⟨u,r,.inr ⟨.inl hk,c,hc,hc'⟩⟩
   .walk_at "aF";rcases q with q|⟨k,c',e,z'⟩
    .exact .inl q
    .refine .inr ⟨k,c',e,z'.sameBut hs ?_⟩;rintro rfl;exact hj (Oz hN e1 (I.ok.inj _ _ _ e hc ▸ hi))
  .by_cases hcc:c'=c
   .subst hcc;exact⟨_,hc'⟩
   .obtain⟨w2,z2⟩:=I.cell y c' e;exact⟨w2,z2.sameBut hs hcc⟩
  .obtain⟨e,n,ne,nf,d⟩:=I.pin p hp;refine⟨(hs.2 p.1 ?_).trans e,n,ne,nf,d⟩;intro q;rw[q,hoc]at e;have q':oc=p.2:=ARK e;exact d w' (by rw[<-q'];exact lC)
theorem GP(I:Inv X aA Y H s)(hN:X.N.Nodup)(hi:X.N[i]?=some x)(hx:Loc X.env.scope x)(r:Bh v u)
  (h:∀s',Inv X aA (Y.set i (some v)) H s'->Q () s') (hf:X.fn x=true\/X.env.scope.names.lookup x=some .local:=by first | exact .inl rfl | exact .inr rfl | assumption):wpAny M A (storeName X.env x u) Q E s :=
 ZZ I hN hi hx r (fun s' I' _=>h s' I') hf
theorem Inv.call'(I:Inv X aA Y H s)(ho:s'.os=s.os)(u:Un (frs X.stack) ch H H' s.heap s'.heap)(hok:HOk X.prog X.w H' s'.heap)(hg:AllBare s'.gens)
  (hch:∀b∈ch,(b∈X.ex\/X.zb.heap.objs.size<=b)/\b≠X.env.locals/\(∀x c,X.env.cells.lookup x=some c->c≠b)/\∀p∈X.pn++aA,p.1≠b):Inv X aA Y H' s':=by
 obtain⟨h',g',d',t',o'⟩:=s';have e:o'=s.os:=ho;subst e;exact I.call (g':=g') (t':=t') (d':=d') u hok hg hch
end
abbrev XK:=Value->Option Addr->Hp->Prop
abbrev St:=List (Option V)
abbrev VK:=V->Hp->Prop
abbrev TE:=St->Hp->VK->Prop
abbrev TT:=St->Hp->(Bool->Hp->Prop)->Prop
abbrev TA:=St->Hp->(List V->Hp->Prop)->Prop
structure Ends where
 nx:St->Hp->Prop
 rt:VK
 bk:St->Hp->Prop:=fun _ _=>False
 ct:St->Hp->Prop:=fun _ _=>False
abbrev TS:=Ends->St->Hp->Prop
def EP(X:Cx)(aA:List (Addr×Obj))(Y:St)(Q:VK)(u:Value)(s':Shared):Prop:=∃v H',Inv X aA Y H' s'/\Bh v u/\Q v H'
def TP(X:Cx)(aA:List (Addr×Obj))(Y:St)(Q:Bool->Hp->Prop)(b:Bool)(s':Shared):Prop:=∃H',Inv X aA Y H' s'/\Q b H'
def AP(X:Cx)(aA:List (Addr×Obj))(Y:St)(Q:List V->Hp->Prop)(us:List Value)(s':Shared):Prop:=∃vs H',Inv X aA Y H' s'/\Ba vs us/\Q vs H'
def SP(X:Cx)(aA:List (Addr×Obj))(D:Ends)(f:Flow)(s':Shared):Prop :=
 match f with
 | .next=>∃zd H',Inv X aA zd H' s'/\D.nx zd H'
 | .brk=>∃zd H',Inv X aA zd H' s'/\D.bk zd H'
 | .cont=>∃zd H',Inv X aA zd H' s'/\D.ct zd H'
 | .ret u=>∃v zd H',Inv X aA zd H' s'/\Bh v u/\D.rt v H'
def PE(X:Cx)(e:Expr)(t:TE):Prop :=
 ∀(aA:List (Addr×Obj)) (s:Shared) (Y:St) (H:Hp) (Q:VK),Inv X aA Y H s->t Y H Q->wpAny (model X.prog X.w) X.A (eval e X.env) (EP X aA Y Q) X.xe s
def PT(X:Cx)(e:Expr)(t:TT):Prop :=
 ∀(aA:List (Addr×Obj)) (s:Shared) (Y:St) (H:Hp) (Q:Bool->Hp->Prop),Inv X aA Y H s->t Y H Q->wpAny (model X.prog X.w) X.A (isTrue e X.env (eval e X.env)) (TP X aA Y Q) X.xe s
def PW(X:Cx)(e:Expr)(t:TT):Prop :=
 ∀(whole:Sem Value) (aA:List (Addr×Obj)) (s:Shared) (Y:St) (H:Hp) (Q:Bool->Hp->Prop),Inv X aA Y H s->t Y H Q->wpAny (model X.prog X.w) X.A (isTrue e X.env whole) (TP X aA Y Q) X.xe s
theorem PW.pt(h:PW X e t):PT X e t:=h _
def PA(X:Cx)(es:List Expr)(t:TA):Prop :=
 ∀(pos:Pos) (aA:List (Addr×Obj)) (s:Shared) (Y:St) (H:Hp) (Q:List V->Hp->Prop),Inv X aA Y H s->t Y H Q->wpAny (model X.prog X.w) X.A (spliced (backTo pos (starEach es X.env))) (AP X aA Y Q) X.xe s
def PS(X:Cx)(st:Stmt)(t:TS):Prop :=
 ∀(aA:List (Addr×Obj)) (s:Shared) (Y:St) (H:Hp) (D:Ends),Inv X aA Y H s->t D Y H->wpAny (model X.prog X.w) X.A (exec st X.env) (SP X aA D) X.xe s
def PSs(X:Cx)(st:List Stmt)(t:TS):Prop :=
 ∀(aA:List (Addr×Obj)) (s:Shared) (Y:St) (H:Hp) (D:Ends),Inv X aA Y H s->t D Y H->wpAny (model X.prog X.w) X.A (execs st X.env) (SP X aA D) X.xe s
theorem thn{α:Type}{t:Sem α}{Q Q':α->Shared->Prop}(h:wpAny M A t Q E s)(hQ:∀a s,Q a s->Q' a s):wpAny M A t Q' E s:=ARe h hQ fun _ _ x=>x
section
variable {X:Cx}
def Qd(i:Nat):TE:=fun Y H Q=>∃v,Y[i]?=some (some v)/\Q v H
def tC(v:V):TE:=fun _ H Q=>Q v H
theorem AGA{pos:Pos}(hN:X.N[i]?=some x)(hv:Vis X.env.scope x)(hd:(x==("__debug__":Str))=false:=by decide)(hcd:(x==("__classdict__":Str))=false:=by decide):PE X (.Name x pos) (Qd i):=by
 walk_at "i";obtain⟨v,e,h⟩:=h;obtain⟨m,hn,hl⟩:=I.loc;obtain⟨u,r,l⟩:=hl i x v hN e hv;have fin:EP X aA Y Q u s:=⟨v,H,I,r,h⟩;rcases l with⟨hk,hm⟩|⟨hk,c,hc,hcell⟩
 .exact wpAny_Name (wpAny_loadName_local I.ok.kind hk hn hm fin) hd
 .rcases hk with hk|hk
  .exact wpAny_Name (wpAny_loadName_cell I.ok.kind hk hc hcell fin) hd
  .exact wpAny_Name (wpAny_loadName_free I.ok.kind hk hc hcell fin hcd) hd
theorem Ad{i j pos}:PE X (.Constant (.int i) j pos) (tC (.int i)):=fun _ _ _ H _ I h=>wpAny_Constant_int ⟨.int i,H,I.tok _,⟨_,rfl⟩,h⟩
theorem JK{b j pos}:PE X (.Constant (.bool b) j pos) (tC (.bl b)):=fun _ _ _ H _ I h=>Constant_bool ⟨.bl b,H,I,rfl,h⟩
theorem Gr{j pos}:PE X (.Constant .none j pos) (tC .non):=fun _ _ _ H _ I h=>Constant_none ⟨.non,H,I,rfl,h⟩
theorem Ai{x j pos}:PE X (.Constant (.str x) j pos) (tC (.str x)):=fun _ _ _ H _ I h=>Calls.Constant_str ⟨.str x,H,I.tok _,⟨_,rfl⟩,h⟩
def Gl(X:Cx)(x:Str):Prop:=X.env.kindOf x=some .globalImplicit
theorem En{Y:St}(I:Inv X aA Y H s)(hg:Gl X x)(hm:X.mg x=some u)(h:Q u s)
  (hd:(x==("__debug__":Str))=false:=by decide):wpAny (model X.prog X.w) X.A (eval (.Name x pos) X.env) Q E s :=
 AUO I.ok.kind hg (Calls.loadGlobal_global (by rw[I.ok.glob];exact I.mod.glob.keeps I.bk) hm h) hd
theorem Jx{E:Value->Shared->Prop}{Y:St}{pos:Pos}(I:Inv X aA Y H s)(hg:Gl X x)(hm:X.mg x=none)(hv:bootBuiltins x=some u)(h:Q u s)
  (hn:x≠"__name__":=by decide) (hd:(x==("__debug__":Str))=false:=by decide):wpAny (model X.prog X.w) X.A (eval (.Name x pos) X.env) Q E s:=by
 obtain⟨mb,h1,h2⟩:=I.mod.blt;exact AUO I.ok.kind hg (Calls.loadGlobal_builtin (by rw[I.ok.glob];exact I.mod.glob.keeps I.bk) hm (by rw[I.ok.blt];exact h1.keeps I.bk) ((h2 x hn).trans hv) h) hd
theorem Dz(hg:Gl X x)(hm:X.mg x=some u)(r:Bh v u)(hd:(x==("__debug__":Str))=false:=by decide):PE X (.Name x pos) (tC v) :=
 fun _ _ _ H _ I h=>En I hg hm ⟨v,H,I,r,h⟩ hd
theorem Hk{pos:Pos}(hg:Gl X x)(hm:X.mg x=none)(hv:bootBuiltins x=some u)(r:Bh v u)(hn:x≠"__name__":=by decide)(hd:(x==("__debug__":Str))=false:=by decide):PE X (.Name x pos) (tC v) :=
 fun _ _ _ H _ I h=>Jx I hg hm hv ⟨v,H,I,r,h⟩ hn hd
def t2I(ta tb:TE)(k:Int->Int->Hp->Prop):St->Hp->Prop:=fun Y H=>ta Y H fun x H1=>tb Y H1 fun y H2=>∃i j,x=.int i/\y=.int j/\k i j H2
def AQz(ta tb:TE):TE:=fun Y H Q=>t2I ta tb (fun i j H2=>Q (.int (i+j)) H2) Y H
def AQe(ta tb:TE):TE:=fun Y H Q=>t2I ta tb (fun i j H2=>Q (.int (i-j)) H2) Y H
def AQq(ta tb:TE):TE:=fun Y H Q=>t2I ta tb (fun i j H2=>(-(2^64)<i/\i<2^64)/\Q (.int (i*j)) H2) Y H
variable {a b:Expr}{ta tb:TE}{pos:Pos}
def PC(X:Cx)(op:CmpOp)(a b:Expr)(t:TE):Prop :=
 ∀(aA:List (Addr×Obj)) (s:Shared) (Y:St) (H:Hp) (Q:VK),Inv X aA Y H s->t Y H Q ->
  wpAny (model X.prog X.w) X.A (eval a X.env) (fun v ze=>wpAny (model X.prog X.w) X.A (eval b X.env) (fun u zi=>wpAny (model X.prog X.w) X.A (compareOp op v u) (EP X aA Y Q) X.xe zi) X.xe ze) X.xe s
def YX(p:Int->Int->Bool)(ta tb:TE):TE:=fun Y H Q=>t2I ta tb (fun i j H2=>Q (.bl (p i j)) H2) Y H
abbrev tLt:TE->TE->TE:=YX fun i j=>decide (i<j)
abbrev tLe:TE->TE->TE:=YX fun i j=>decide (i<=j)
abbrev tGt:TE->TE->TE:=YX fun i j=>decide (j<i)
abbrev tGe:TE->TE->TE:=YX fun i j=>decide (j<=i)
abbrev AQ4:TE->TE->TE:=YX fun i j=>decide (i=j)
abbrev AQt:TE->TE->TE:=YX fun i j=>!decide (i=j)
def AQv(ta:TE):TE:=fun Y H Q=>ta Y H fun x H1=>Q (.bl (decide (x=.non))) H1
def AQR(ta:TE):TE:=fun Y H Q=>ta Y H fun x H1=>Q (.bl (!decide (x=.non))) H1
def tB(t:TE):TT:=fun Y H Q=>t Y H fun x H1=>∃c,x=.bl c/\Q c H1
theorem ABr(h:PC X op a b t)(h1:behindInMarks op b=false:=by first | exact i9 _ (by decide) (by decide) | rfl):PT X (.Compare a [op] [b] pos) (tB t):=by
 intro aA s Y H Q I hw;refine wpAny_isTrue_Compare1 (thn (h aA s Y H _ I hw) fun v s1 h1=>thn h1 fun u s2 h2=>thn h2 fun c s3 ⟨x,H1,I1,r1,q1⟩=>?_) h1;obtain⟨d,rfl,q⟩:=q1;cases r1;exact ASt ⟨H1,I1,q⟩
theorem Bv(h:PE X e t)(he:∀whole,isTrue e X.env whole=(do let v <-whole;standAt e.pos;holding [v] (truthy v)):=by intro _;rfl):PT X e (tB t):=by
 intro aA s Y H Q I hw;refine isTrue_plain (thn (h aA s Y H _ I hw) fun v s1 ⟨x,H1,I1,r1,q1⟩=>?_) (he _);obtain⟨d,rfl,q⟩:=q1;cases r1;exact ASt ⟨H1,I1,q⟩
variable {tA kG:TT}{Bj:List Expr}
def AQA(t u:TT):TT:=fun Y H Q=>t Y H fun c H1=>if c=true then u Y H1 Q else Q false H1
def tOr(t u:TT):TT:=fun Y H Q=>t Y H fun c H1=>if c=true then Q true H1 else u Y H1 Q
def APQ(t:TT):TT:=fun Y H Q=>t Y H fun c H1=>Q (!c) H1
theorem ACq(ha:PT X a tA):PW X (.BoolOp .And [a] pos) tA:=by
 intro wh aA s Y H Q I h;refine isTrue_and (thn (ha aA s Y H Q I h) fun c s1 e=>?_);cases c with
 | true=>exact isTrue_and_nil e
 | false=>exact e
theorem CV(ha:PT X a tA):PW X (.BoolOp .Or [a] pos) tA:=by
 intro wh aA s Y H Q I h;refine isTrue_or (thn (ha aA s Y H Q I h) fun c s1 e=>?_);cases c with
 | false=>exact isTrue_or_nil e
 | true=>exact e
theorem AFY(ha:PT X a tA)(hb:PW X (.BoolOp .And (b::Bj) pos) kG):PW X (.BoolOp .And (a::b::Bj) pos) (AQA tA kG):=by
 intro wh aA s Y H Q I h;refine isTrue_and (thn (ha aA s Y H _ I h) fun c s1 ⟨H1,I1,q1⟩=>?_);cases c with
 | true=>exact hb wh aA s1 Y H1 Q I1 q1
 | false=>exact⟨H1,I1,q1⟩
theorem Dk(ha:PT X a tA)(hb:PW X (.BoolOp .Or (b::Bj) pos) kG):PW X (.BoolOp .Or (a::b::Bj) pos) (tOr tA kG):=by
 intro wh aA s Y H Q I h;refine isTrue_or (thn (ha aA s Y H _ I h) fun c s1 ⟨H1,I1,q1⟩=>?_);cases c with
 | true=>exact⟨H1,I1,q1⟩
 | false=>exact hb wh aA s1 Y H1 Q I1 q1
theorem By(ha:PT X a tA):PT X (.UnaryOp .Not a pos) (APQ tA):=by
 walk_at "i";exact isTrue_not (ha aA s Y H (fun c H1=>Q (!c) H1) I h)
def AKv(ta tb:TE):TE:=fun Y H Q=>ta Y H fun x H1=>∃c,x=.bl c/\if c=true then tb Y H1 Q else Q (.bl false) H1
def AQj(ta tb:TE):TE:=fun Y H Q=>ta Y H fun x H1=>∃c,x=.bl c/\if c=true then Q (.bl true) H1 else tb Y H1 Q
def AKE(ta:TE):TE:=fun Y H Q=>ta Y H fun x H1=>∃c,x=.bl c/\Q (.bl (!c)) H1
theorem S9{op}(h:PE X a t):PE X (.BoolOp op [a] pos) t:=fun aA s Y H Q I hw=>BoolOp_one (h aA s Y H Q I hw)
theorem SQ(ha:PE X a ta)(hb:PE X (.BoolOp .And (b::Bj) pos) tb):PE X (.BoolOp .And (a::b::Bj) pos) (AKv ta tb):=by
 walk_at "i";refine BoolOp_and (thn (ha aA s Y H _ I h) fun v s1 ⟨x,H1,I1,r1,q1⟩=>?_);obtain⟨c,rfl,q1⟩:=q1;cases r1;refine ASt ?_;cases c with
 | true=>exact hb aA s1 Y H1 Q I1 q1
 | false=>exact⟨.bl false,H1,I1,rfl,q1⟩
theorem AIf(ha:PE X a ta):PE X (.UnaryOp .Not a pos) (AKE ta):=by
 walk_at "i";refine UnaryOp_ (thn (ha aA s Y H _ I h) fun v s1 ⟨x,H1,I1,r1,q1⟩=>?_);obtain⟨c,rfl,q1⟩:=q1;cases r1;exact not_of (ASt ⟨.bl (!c),H1,I1,rfl,q1⟩)
def tIf(t:TT)(ta tb:TE):TE:=fun Y H Q=>t Y H fun c H1=>if c=true then ta Y H1 Q else tb Y H1 Q
theorem Hy(hc:PT X c tA)(ha:PE X a ta)(hb:PE X b tb):PE X (.IfExp c a b pos) (tIf tA ta tb):=by
 walk_at "i";refine wpAny_IfExp (thn (hc aA s Y H _ I h) fun d s1 ⟨H1,I1,q1⟩=>?_);cases d with
 | true=>exact ha aA s1 Y H1 Q I1 q1
 | false=>exact hb aA s1 Y H1 Q I1 q1
end
def SqL(K:W.Frag)(H:Hp)(a:Addr)(xs:List V):Prop :=
 Rd H a (.lst xs) \/
  ∃(o:Obj) (its:Array Value) (n:Nat),K.lookup a=some o/\o.cls=.type "list"/\o.dict=none/\o.data=.seq its n/\its.size<=sizeLine/\Ba xs its.toList
def SqT(K:W.Frag)(H:Hp)(a:Addr)(xs:List V):Prop :=
 Rd H a (.tup xs) \/
  ∃(o:Obj) (its:Array Value) (n:Nat),K.lookup a=some o/\o.cls=.type "tuple"/\o.data=.seq its n/\its.size<=sizeLine/\Ba xs its.toList
def APg:Value->Option V
 | .none=>some .non
 | .bool b=>some (.bl b)
 | .int i _=>some (.int i)
 | .str x _=>some (.str x)
 | .bytes b _=>some (.byt b)
 | .float b _=>some (.flt b)
 | .ref a=>some (.ref a)
 | .type n=>some (.ty n)
 | _=>none
theorem Bh.abs(r:Bh x u):APg u=some x:=by
 cases x with
 | non=>cases r;rfl
 | bl _=>cases r;rfl
 | int _=>obtain⟨t,rfl⟩:=r;rfl
 | str _=>obtain⟨t,rfl⟩:=r;rfl
 | byt _=>obtain⟨t,rfl⟩:=r;rfl
 | flt _=>obtain⟨t,rfl⟩:=r;rfl
 | ref _=>cases r;rfl
 | ty _=>cases r;rfl
theorem Bh.inj(r:Bh x u)(q:Bh y u):x=y:=ARK (r.abs.symm.trans q.abs)
theorem Ba.inj:∀{xs ys:List V} {us:List Value},Ba xs us->Ba ys us->xs=ys
 | _,_,_,.nil,.nil=>rfl
 | _,_,_,.cons r t,.cons r' t'=>by rw[r.inj r',Ba.inj t t']
section
variable {X:Cx}{aA:List (Addr×Obj)}{Y:St}{H:Hp}{s:Shared}{a:Addr}{xs ys:List V}
theorem SqL.of{K:W.Frag}(h:H a=some (.lst xs)):SqL K H a xs:=.inl (.inl h)
theorem SqT.of{K:W.Frag}(h:H a=some (.tup xs)):SqT K H a xs:=.inl (.inl h)
theorem Inv.list(I:Inv X aA Y H s)(h:SqL X.K H a xs):∃its:List Value,Ba xs its/\PlainL s.heap a its.toArray/\xs.length<=sizeLine:=by
 rcases h with h|⟨o,its,n,hk,hc,hd,hs,hz,r⟩
 .obtain⟨z,its,n,r,e⟩:=h.ok I.hok;exact⟨its,r,⟨_,n,e,rfl,rfl,rfl⟩,z⟩
 .refine⟨its.toList,r,⟨o,n,I.kIn a o hk,hc,hd,by simpa using hs⟩,?_⟩;have e:=r.length;simp only[AUB]at e;omega
theorem Inv.tuple(I:Inv X aA Y H s)(h:SqT X.K H a xs):∃its:List Value,Ba xs its/\IsTup s.heap a its.toArray/\xs.length<=sizeLine:=by
 rcases h with h|⟨o,its,n,hk,hc,hs,hz,r⟩
 .obtain⟨z,its,r,p⟩:=h.ok I.hok;exact⟨its,r,p,z⟩
 .refine⟨its.toList,r,⟨o,I.kIn a o hk,hc,n,by simpa using hs⟩,?_⟩;have e:=r.length;simp only[AUB]at e;omega
theorem Inv.list_inj(I:Inv X aA Y H s)(h:SqL X.K H a xs)(h':SqL X.K H a ys):xs=ys:=by
 obtain⟨its,r,⟨o,n,e,_,_,d⟩,_⟩:=I.list h;obtain⟨its',r',⟨o',n',e',_,_,d'⟩,_⟩:=I.list h';rw[e]at e';cases e';rw[d]at d';injection d' with d1 _;have:its=its':=by simpa using congrArg Array.toList d1
 subst this;exact r.inj r'
theorem Inv.tuple_inj(I:Inv X aA Y H s)(h:SqT X.K H a xs)(h':SqT X.K H a ys):xs=ys:=by
 obtain⟨its,r,⟨o,e,_,n,d⟩,_⟩:=I.tuple h;obtain⟨its',r',⟨o',e',_,n',d'⟩,_⟩:=I.tuple h';rw[e]at e';cases e';rw[d]at d';injection d' with d1 _;have:its=its':=by simpa using congrArg Array.toList d1
 subst this;exact r.inj r'
end
abbrev Cx.wish(X:Cx)(E:Value->Shared->Prop):Cx:={ X with xe:=E }
abbrev Cx.nox(X:Cx):Cx:=X.wish fun _ _=>False
theorem Cx.Ok.wish{X:Cx}(ok:X.Ok)(E:Value->Shared->Prop):(X.wish E).Ok :=
 ⟨ok.mod,ok.kind,ok.glob,ok.blt,ok.above,ok.inj,ok.has,ok.cab,ok.hd,ok.frames,ok.stk,ok.exf,ok.bs,ok.bsz,ok.noex,ok.exfs,ok.funs,ok.frf⟩
theorem Cx.Ok.unwish{X:Cx}(ok:(X.wish E).Ok):X.Ok :=
 ⟨ok.mod,ok.kind,ok.glob,ok.blt,ok.above,ok.inj,ok.has,ok.cab,ok.hd,ok.frames,ok.stk,ok.exf,ok.bs,ok.bsz,ok.noex,ok.exfs,ok.funs,ok.frf⟩
section
variable {X:Cx}{aA:List (Addr×Obj)}{Y:St}{H:Hp}{s:Shared}{E:Value->Shared->Prop}
theorem Inv.wish(I:Inv X aA Y H s)(E:Value->Shared->Prop):Inv (X.wish E) aA Y H s:=⟨I.ok.wish E,I.os,I.bare,I.base,I.loc,I.cell,I.free,I.freeC,I.pin,I.hok,I.len⟩
theorem Inv.unwish(I:Inv (X.wish E) aA Y H s):Inv X aA Y H s:=⟨I.ok.unwish,I.os,I.bare,I.base,I.loc,I.cell,I.free,I.freeC,I.pin,I.hok,I.len⟩
theorem SP.unwish(h:SP (X.wish E) aA D f s'):SP X aA D f s':=by
 cases f with
 | next=>obtain⟨zd,H',I,q⟩:=h;exact⟨zd,H',I.unwish,q⟩
 | brk=>obtain⟨zd,H',I,q⟩:=h;exact⟨zd,H',I.unwish,q⟩
 | cont=>obtain⟨zd,H',I,q⟩:=h;exact⟨zd,H',I.unwish,q⟩
 | ret u=>obtain⟨v,zd,H',I,r,q⟩:=h;exact⟨v,zd,H',I.unwish,r,q⟩
theorem PSs.nox{st:List Stmt}(h:PSs X.nox st t):PSs X st t:=fun aA s Y H D I hw =>
 ARe (h aA s Y H D (I.wish _) hw) (fun _ _ q=>q.unwish) fun _ _ z=>False.elim z
end
section
variable {X:Cx}{st:Stmt}{Bj:List Stmt}{t u:TS}{e:Expr}{te:TE}{pos:Pos}
def AJq:TS:=fun D Y H=>D.nx Y H
def Ve(t u:TS):TS:=fun D Y H=>t { D with nx:=u D } Y H
theorem Ar:PSs X [] AJq:=fun _ _ Y H _ I h=>ATD ⟨Y,H,I,h⟩
theorem Ac(h1:PS X st t)(h2:PSs X Bj u):PSs X (st::Bj) (Ve t u):=by
 walk_at "S";refine ATU (thn (h1 aA s Y H { D with nx:=u D } I h) fun f s1 q=>?_);cases f with
 | next =>
  obtain⟨zd,H',I',q⟩:=q;exact h2 aA s1 zd H' D I' q
 | ret v=>exact q
 | brk=>exact q
 | cont=>exact q
theorem Af(h1:PS X st t):PSs X [st] t:=by
 walk_at "S";refine ATU (thn (h1 aA s Y H D I h) fun f s1 q=>?_);cases f with
 | next=>exact ATD q
 | ret v=>exact q
 | brk=>exact q
 | cont=>exact q
def APW:TS:=fun D Y H=>D.bk Y H
def ALy:TS:=fun D Y H=>D.ct Y H
theorem Vx:PS X (.Continue pos) ALy:=fun _ _ Y H _ I h=>wpAny_Continue ⟨Y,H,I,h⟩
theorem Inv.quiet{Y:St}(I:Inv X aA Y H s):interactive X.env=false:=by simp[interactive,I.ok.kind]
def AKd(te:TE):TS:=fun D Y H=>te Y H fun _ H1=>D.nx Y H1
theorem Dy(he:PE X e te)(hs:swapsWith e none pos.line X.env=pure false:=by rfl):PS X (.Expr e pos) (AKd te):=by
 walk_at "S";exact wpAny_Expr_any (thn (he aA s Y H _ I h) fun v s1 ⟨x,H1,I1,r1,q1⟩=>⟨Y,H1,I1,q1⟩) I.quiet hs
def ANu(te:TE):TS:=fun D Y H=>te Y H D.rt
theorem Aq(he:PE X e te):PS X (.Return (some e) pos) (ANu te):=by
 walk_at "S";exact wpAny_Return_some (thn (he aA s Y H _ I h) fun v s1 ⟨x,H1,I1,r1,q1⟩=>⟨x,Y,H1,I1,r1,q1⟩)
def AQO:TS:=fun D _ H=>D.rt .non H
def APJ(c:TT)(t u:TS):TS:=fun D Y H=>c Y H fun b H1=>if b=true then t D Y H1 else u D Y H1
theorem BP(hc:PT X c tc)(ha:PSs X a t)(hb:PSs X b u):PS X (.If c a b pos) (APJ tc t u):=by
 walk_at "S";refine wpAny_If (thn (hc aA s Y H _ I h) fun d s1 ⟨H1,I1,q1⟩=>?_);cases d with
 | true=>exact ha aA s1 Y H1 D I1 q1
 | false=>exact hb aA s1 Y H1 D I1 q1
def AHh:TS:=fun _ _ _=>False
theorem GX:PS X st AHh:=fun _ _ _ _ _ _ h=>h.elim
end
abbrev TG:=V->St->Hp->(St->Hp->Prop)->Prop
abbrev TGs:=List V->St->Hp->(St->Hp->Prop)->Prop
def PG(X:Cx)(target:Expr)(t:TG):Prop :=
 ∀(aA:List (Addr×Obj)) (s:Shared) (Y:St) (H:Hp) (v:V) (u:Value) (Q:St->Hp->Prop),Inv X aA Y H s->Bh v u->t v Y H Q ->
  wpAny (model X.prog X.w) X.A (assign target X.env u) (fun _ s'=>∃zd H',Inv X aA zd H' s'/\Q zd H') X.xe s
def PGs(X:Cx)(ts:List Expr)(t:TGs):Prop :=
 ∀(aA:List (Addr×Obj)) (s:Shared) (Y:St) (H:Hp) (vs:List V) (us:List Value) (Q:St->Hp->Prop),Inv X aA Y H s->Ba vs us->t vs Y H Q ->
  wpAny (model X.prog X.w) X.A (assignInOrder ((assignEach ts X.env).map (·.2)) us) (fun _ s'=>∃zd H',Inv X aA zd H' s'/\Q zd H') X.xe s
abbrev AEa:=V->V->V->Hp->(Hp->Prop)->Prop
def AQb(X:Cx)(t:AEa):Prop :=
 ∀(aA:List (Addr×Obj)) (s:Shared) (Y:St) (H:Hp) (o i v:V) (ov iv u:Value) (Q:Hp->Prop),Inv X aA Y H s->Bh o ov->Bh i iv->Bh v u->t o i v H Q ->
  wpAny (model X.prog X.w) X.A (setItem ov iv u) (fun _ s'=>∃H',Inv X aA Y H' s'/\Q H') X.xe s
abbrev TIp:=V->V->Hp->VK->Prop
def PIp(X:Cx)(op:Operator)(t:TIp):Prop :=
 ∀(aA:List (Addr×Obj)) (s:Shared) (Y:St) (H:Hp) (x y:V) (v u:Value) (Q:VK),Inv X aA Y H s->Bh x v->Bh y u->t x y H Q ->
  wpAny (model X.prog X.w) X.A (inplaceOp op v u) (EP X aA Y Q) X.xe s
section
variable {X:Cx}{pos:Pos}
def DP(i:Nat):TG:=fun v Y H Q=>Q (Y.set i (some v)) H
theorem Xm(hN:X.N.Nodup)(hi:X.N[i]?=some x)(hx:Loc X.env.scope x)(hf:X.fn x=true\/X.env.scope.names.lookup x=some .local:=by first | exact .inl rfl | exact .inr rfl | assumption):PG X (.Name x pos) (DP i):=by
 intro aA s Y H v u Q I r h;exact AUc (GP I hN hi hx r (fun s' I'=>⟨_,H,I',h⟩) hf)
def ACs:TGs:=fun vs Y H Q=>vs=[]/\Q Y H
def Pb(t:TG)(u:TGs):TGs:=fun vs Y H Q=>∃v r,vs=v::r/\t v Y H fun zd H'=>u r zd H' Q
theorem Ng:PGs X [] ACs:=by
 intro aA s Y H vs us Q I r h;obtain⟨e,h⟩:=h;subst e;cases r;exact assignInOrder_nil ⟨Y,H,I,h⟩
theorem FQ(h1:PG X e t)(h2:PGs X es u)
  (hs:(assignEach (e::es) X.env).map (·.2)=assign e X.env::(assignEach es X.env).map (·.2):=by rfl):PGs X (e::es) (Pb t u):=by
 intro aA s Y H vs us Q I r h;obtain⟨v,vr,e1,h⟩:=h;subst e1;cases r with
 | cons r rr =>
  rw[hs];refine assignInOrder_cons (thn (h1 aA s Y H _ _ _ I r h) fun _ s1 ⟨zk,H1,I1,q1⟩=>?_);exact h2 aA s1 zk H1 _ _ Q I1 rr q1
def ACO(K:W.Frag)(n:Nat)(t:TGs):TG:=fun v Y H Q=>∃a xs,v=.ref a/\SqT K H a xs/\xs.length=n/\t xs Y H Q
theorem Ru{k:Nat}(hc:X.calm=true)(h:PGs X es t)
  (hn:(assignEach es X.env).length=n:=by rfl) (hst:(assignEach es X.env).findIdx? (·.1)=none:=by rfl):PG X (.Tuple es k pos) (ACO X.K n t):=by
 intro aA s Y H v u Q I r hw;obtain⟨a,xs,e1,hq,hl,hw⟩:=hw;subst e1;cases r;obtain⟨its,rv,ht,hz⟩:=I.tuple hq;refine assign_Tuple_tuple (I.ok.hd hc) ht (by simp[hn,<-hl,rv.length]) hst fun h' hx=>?_;have I1:Inv X aA Y H { s with heap:=h' }:=I.kept (t':=s.toks) fun b o e=>hx b o (ARt (ARF e)) e;exact h aA _ Y H xs _ Q I1 (by simpa using rv) hw
def AQp(to ti:TE)(t:AEa):TG:=fun v Y H Q=>to Y H fun o H1=>ti Y H1 fun i H2=>t o i v H2 fun H3=>Q Y H3
def Qe(te:TE)(g:TG):TS:=fun D Y H=>te Y H fun x H1=>g x Y H1 D.nx
theorem AHj{tg e:Expr}{te:TE}{g:TG}(he:PE X e te)(hg:PG X tg g)(hs:swapsWithSole [tg] e pos.line X.env=pure false:=by rfl)(hw:swappedStores [tg] e X.env=pure none:=by rfl)
  (h1:(assignEach [tg] X.env).map (·.2)=[assign tg X.env]:=by rfl):PS X (.Assign [tg] e pos) (Qe te g):=by
 walk_at "S";refine wpAny_Assign_stores (thn (he aA s Y H _ I h) fun v s1 ⟨x,H1,I1,r1,q1⟩=>?_) hs hw;rw[h1];exact thn (hg aA s1 Y H1 x v _ I1 r1 q1) fun _ s2 q=>q
theorem AAs{i:Nat}{x:Str}{e:Expr}{te:TE}{pos':Pos}(hN:X.N.Nodup)(hi:X.N[i]?=some x)(hx:Loc X.env.scope x)(he:PE X e te)(hs:swapsWith e (some (.Name x pos')) pos.line X.env=pure false:=by rfl)(hf:X.fn x=true\/X.env.scope.names.lookup x=some .local:=by first | exact .inl rfl | exact .inr rfl | assumption) :
  PS X (.Assign [.Name x pos'] e pos) (Qe te (DP i)):=by
 walk_at "S";refine wpAny_Assign_Name (thn (he aA s Y H _ I h) fun v s1 ⟨y,H1,I1,r1,q1⟩=>?_) hs;exact GP I1 hN hi hx r1 (fun s2 I2=>⟨_,H1,I2,q1⟩) hf
def AQ7(i j:Nat)(ta:TA):TS:=fun D Y H=>ta Y H fun vs H1=>∃v w,vs=[v,w]/\D.nx ((Y.set i (some v)).set j (some w)) H1
def AO8(i:Nat)(te:TE)(ti:TIp):TS:=fun D Y H=>∃x,Y[i]?=some (some x)/\te Y H fun y H1=>ti x y H1 fun z H2=>D.nx (Y.set i (some z)) H2
theorem AHw(hN:X.N.Nodup)(hi:X.N[i]?=some x)(hx:Loc X.env.scope x)(he:PE X e te)(ho:PIp X op ti)(hf:X.fn x=true\/X.env.scope.names.lookup x=some .local:=by first | exact .inl rfl | exact .inr rfl | assumption) :
  PS X (.AugAssign (.Name x pos') op e pos) (AO8 i te ti):=by
 walk_at "S";obtain⟨v,e1,h⟩:=h;obtain⟨m,hn,hl⟩:=I.loc;have rq:Vis X.env.scope x:=by rcases hx with k | k;exact .inl k;exact .inr (.inl k)
 obtain⟨u,r,l⟩:=hl i x v hi e1 rq;refine wpAny_AugAssign_Name ?_;have go:wpAny (model X.prog X.w) X.A (eval e X.env) (fun w zi=>wpAny (model X.prog X.w) X.A (inplaceOp op u w) (fun r zt=>wpAny (model X.prog X.w) X.A (storeName X.env x r) (fun _=>SP X aA D .next) X.xe zt) X.xe zi) X.xe s:=by
  refine thn (he aA s Y H _ I h) fun w s1 ⟨y,H1,I1,r1,q1⟩=>?_;refine thn (ho aA s1 Y H1 v y u w _ I1 r r1 q1) fun z s2 ⟨zv,H2,I2,r2,q2⟩=>?_;exact GP I2 hN hi hx r2 (fun s3 I3=>⟨_,H2,I3,q2⟩) hf
 rcases l with⟨hk,hm⟩|⟨hk,c,hc,hcell⟩
 .exact wpAny_loadName_local I.ok.kind hk hn hm go
 .rcases hk with hk|hk
  .exact wpAny_loadName_cell I.ok.kind hk hc hcell go
  .rcases hx with k|k
   .have:X.env.scope.names.lookup x=some .free:=hk;rw[k]at this;cases this
   .have:X.env.scope.names.lookup x=some .free:=hk;rw[k]at this;cases this
def AQJ(to ti te:TE)(lD:V->V->Hp->VK->Prop)(rz:TIp)(lE:AEa):TS:=fun D Y H=>to Y H fun o H1=>ti Y H1 fun i H2=>lD o i H2 fun x H3=>te Y H3 fun y H4=>rz x y H4 fun z H5=>lE o i z H5 fun H6=>D.nx Y H6
def AQy(X:Cx)(t:V->V->Hp->VK->Prop):Prop :=
 ∀(aA:List (Addr×Obj)) (s:Shared) (Y:St) (H:Hp) (o i:V) (ov iv:Value) (Q:VK),Inv X aA Y H s->Bh o ov->Bh i iv->t o i H Q ->
  wpAny (model X.prog X.w) X.A (getItem ov iv) (EP X aA Y Q) X.xe s
def ipI(f:Int->Int->Int):TIp:=fun x y H Q=>∃i j,x=.int i/\y=.int j/\Q (.int (f i j)) H
theorem AFK:PIp X .Sub (ipI fun i j=>i-j):=by
 intro aA s Y H x y v u Q I r1 r2 h;obtain⟨i,j,e1,e2,q⟩:=h;subst e1;subst e2;obtain⟨t,rfl⟩:=r1;obtain⟨t',rfl⟩:=r2;exact isub_int ⟨.int _,H,I.tok _,⟨_,rfl⟩,q⟩
end
section
variable {X:Cx}{pos:Pos}
def AI3(c:TT)(tb:TS):TS:=fun D Y H=>∃W:Nat->St->Hp->Prop,(∃m,W m Y H)/\∀m Y H,W m Y H ->
 c Y H fun b H1=>if b=true then ∃N:St->Hp->Prop,(∀zd H',N zd H'->∃m',m'<m/\W m' zd H')/\tb { D with nx:=N,ct:=N,bk:=D.nx } Y H1 else D.nx Y H1
theorem Vi(hp:PassesOwn (model X.prog X.w) X.A X.env X.xe)(hc:PT X c tc)(hb:PSs X body tb):PS X (.While c body [] pos) (AI3 tc tb):=by
 walk_at "S";obtain⟨W,⟨m0,w0⟩,turn⟩:=h;refine wpAny_While (codeAny_whileLoop (fun n s'=>∃zd H',Inv X aA zd H' s'/\W n zd H') ?_ m0 ⟨Y,H,I,w0⟩);rintro n s1 ⟨zk,H1,I1,w1⟩;refine ASu hp (thn (hc aA s1 zk H1 _ I1 (turn n zk H1 w1)) fun b s2 ⟨H2,I2,q2⟩=>?_);cases b with
 | true =>
  obtain⟨N,hN,q2⟩:=q2;rw[if_pos rfl];refine ASu hp (thn (hb aA s2 zk H2 _ I2 q2) fun f s3 q3=>?_);cases f with
  | next =>
   walk_at "at"
  | cont =>
   walk_at "at"
  | brk=>exact q3
  | ret v=>exact q3
 | false =>
  rw[if_neg ARJ];exact ATD ⟨zk,H2,I2,q2⟩
end
structure It where
 go:Nat->Hp->Prop
 yld:Nat->Hp->V->Hp->Prop
 stop:Nat->Hp->Prop
def FP(X:Cx)(aA:List (Addr×Obj))(H:Hp)(b:Addr):Prop :=
 H b=none/\b≠X.env.locals/\b∉X.fs/\(b∈X.ex\/X.zb.heap.objs.size<=b)/\(∀x c,X.env.cells.lookup x=some c->c≠b)/\∀p∈X.pn++aA,p.1≠b
theorem Inv.fpOk{Y:St}{b:Addr}(I:Inv X aA Y H s)(hb:s.heap.objs.size<=b)(hn:H' b=none):FP X aA H' b:=by
 refine⟨hn,AUR (ARX I.lt hb),I.nofs hb,.inr (ASF I.sz hb),fun x c e z=>?_,fun p hp z=>?_⟩
 .obtain⟨v,q⟩:=I.cell x c e;exact absurd (ARX q.lt (by rw[z];exact hb)) (ARw _)
 .exact absurd (ARX (ARF (I.pin p hp).1) (by rw[z];exact hb)) (ARw _)
structure Turn(P:Program)(w:World)(K:W.Frag)(tg:Expr)(J:It)(fp:List Addr)(it:Addr)(tn:Nat->Heap->Prop):Prop where
 mem:it∈fp
 obj:∀i h,tn i h->∀b∈fp,∃o,h.get? b=some o/\∀v,o.data≠.cell v
 keep:∀i h h',tn i h->(∀b∈fp,∀o,h.get? b=some o->h'.get? b=some o)->tn i h'
 item:∀(X:Cx),X.prog=P->X.w=w->X.K=K->X.calm=true->∀(i:Nat) (aA:List (Addr×Obj)) (s:Shared) (Y:St) (H:Hp) (E:Value->Shared->Prop),Inv X aA Y H s->(∀b∈fp,FP X aA H b)->tn i s.heap->J.go i H ->
  wpAny (model P w) X.A (pyNext (.ref it)) (fun r s1=>∃u,r=some u /\
   wpAny (model P w) X.A (letOwnedTupleGo tg (.ref it) u) (fun _ s2=>∃x H',Inv X aA Y H' s2/\Bh x u/\J.yld i H x H'/\tn (i+1) s2.heap/\∀b∈fp,H' b=none) E s1) E s
 done:∀(X:Cx),X.prog=P->X.w=w->X.K=K->X.calm=true->∀(i:Nat) (aA:List (Addr×Obj)) (s:Shared) (Y:St) (H:Hp) (E:Value->Shared->Prop),Inv X aA Y H s->(∀b∈fp,FP X aA H b)->tn i s.heap->J.stop i H ->
  wpAny (model P w) X.A (pyNext (.ref it)) (fun r s1=>r=none/\Inv X aA Y H s1) E s
 self:∀(A:Around) (i:Nat) (s:Shared) (Q:Value->Shared->Prop) (E:Value->Shared->Prop),tn i s.heap->Q (.ref it) s->wpAny (model P w) A (pyIter (.ref it)) Q E s
abbrev TI:=St->Hp->(It->Hp->Prop)->Prop
def PIE(X:Cx)(aA:List (Addr×Obj))(Y:St)(tg:Expr)(R:It->Hp->Prop)(itv:Value)(s2:Shared):Prop :=
 ∃(it:Addr) (fp:List Addr) (tn:Nat->Heap->Prop) (J:It) (H':Hp),itv=.ref it/\Inv X aA Y H' s2/\Turn X.prog X.w X.K tg J fp it tn/\tn 0 s2.heap/\(∀b∈fp,FP X aA H' b)/\R J H'
def PI(X:Cx)(tg iter:Expr)(wi:TI):Prop :=
 ∀(aA:List (Addr×Obj)) (s:Shared) (Y:St) (H:Hp) (R:It->Hp->Prop),Inv X aA Y H s->wi Y H R ->
  wpAny (model X.prog X.w) X.A (eval iter X.env) (fun v s1=>wpAny (model X.prog X.w) X.A (pyIter v) (PIE X aA Y tg R) X.xe s1) X.xe s
theorem ABI(ho:s.heap.get? it=some o)(hc:o.cls=.type n)(hd:o.data=.fields vs)
  (hn:["enumerate","zip","dict_itemiterator","dict_reverseitemiterator","odict_iterator","itertools.zip_longest","itertools.pairwise"].contains n=false) (hQ:Q () s):wpAny M A (letOwnedTupleGo tg (.ref it) u) Q E s:=by
 unfold letOwnedTupleGo;cases tg<;>first
  | exact ARL hQ
  | (cases u<;>first
    | exact ARL hQ
    | (refine AQ8 (wpAny_load ho ?_)
       rw[hc,hd];show wpAny M A (if (["enumerate","zip","dict_itemiterator","dict_reverseitemiterator","odict_iterator","itertools.zip_longest","itertools.pairwise"].contains n&&vs[0]?==some (rawInt _))=true then _ else _) Q E s;rw[if_neg (by intro h;rw[hn,ATQ]at h;cases h)];exact ARL hQ))
def Itl(K:W.Frag)(a:Addr):It :=
 ⟨fun i H=>∃xs x,SqL K H a xs/\xs[i]?=some x,fun i H x H'=>H'=H/\∀xs,SqL K H a xs->xs[i]?=some x,fun i H=>∃xs,SqL K H a xs/\xs.length<=i⟩
def Itt(K:W.Frag)(a:Addr):It :=
 ⟨fun i H=>∃xs x,SqT K H a xs/\xs[i]?=some x,fun i H x H'=>H'=H/\∀xs,SqT K H a xs->xs[i]?=some x,fun i H=>∃xs,SqT K H a xs/\xs.length<=i⟩
def Itr(lo:Int)(n:Nat):It:=⟨fun i _=>i<n,fun i H x H'=>H'=H/\x=.int (lo+i),fun i _=>n<=i⟩
theorem ZM{K:W.Frag}(a it:Addr):Turn P w K tg (Itl K a) [it] it (fun i h=>h.IsListIter it a i) where
 mem:=by simp
 obj:=fun i h st b hb=>by
  have e:b=it:=by simpa using hb
  subst e;obtain⟨o,e,c,d⟩:=st;exact⟨o,e,fun v z=>by rw[d]at z;cases z⟩
 keep:=fun i h h' st k=>st.at fun o e=>k it (by simp) o e
 item:=by
  walk_at "d";obtain⟨xs,x,hq,hx⟩:=hg;obtain⟨its,rv,p,hz⟩:=I.list hq;obtain⟨u,hu,ru⟩:=rv.get hx;walk_at "p";refine wpAny_pyNext_list_item st p.isList (x:=u) (by simpa using hu) fun h' st' sb=>?_;have I1:Inv X aA Y H { s with heap:=h' }:=I.turned (t':=s.toks) (fun b o hb e=>(sb.2 b hb).trans e) f0 f1 f3 f4 f5;obtain⟨o,e,c,d⟩:=id st';exact⟨u,rfl,ABI (s:={ s with heap:=h' }) e c d (by decide) ⟨x,H,I1,ru,⟨rfl,fun ys hy=>by rw[I.list_inj hy hq];exact hx⟩,st',fun b hb=>(hf b hb).1⟩⟩
 done:=by
  walk_at "d";obtain⟨xs,hq,hx⟩:=hg;obtain⟨its,rv,p,hz⟩:=I.list hq;walk_at "p";have hl:=rv.length;exact wpAny_pyNext_list_end (I.ok.hd hc) st p.isList (by simp;omega) fun h' eb=>⟨rfl,I.turned (t':=s.toks) (fun b o hb e=>eb b o hb e) f0 f1 f3 f4 f5⟩
 self:=fun _ _ _ _ _ st h=>wpAny_pyIter_listiter st h
theorem Wr{K:PySem.W.Frag}(it:Addr)(lo:Int)(n:Nat):Turn P w K tg (Itr lo n) [it] it (fun i h=>IsRangeIter h it (lo+(i:Nat)*1) ((n:Int)-(i:Nat)) 1) where
 mem:=by simp
 obj:=fun i h st b hb=>by
  have e:b=it:=by simpa using hb
  subst e;exact⟨_,st,fun v z=>by
   walk_at "ax";cases z'⟩
 keep:=fun i h h' st k=>k it (by simp) _ st
 item:=by
  walk_at "d";walk_at "p";have W:=Walks.range (prog:=X.prog) (w:=X.w) (I.ok.hd hc) it lo 1 n;refine W.item i s _ _ hg st fun v h' tk hv st' kk=>?_;obtain⟨t,rfl⟩:=hv;have I1:Inv X aA Y H { s with heap:=h',toks:=tk }:=I.turned (fun b o hb e=>kk b o (by simpa using hb) e) f0 f1 f3 f4 f5;refine⟨_,rfl,ABI (s:={ s with heap:=h',toks:=tk }) (n:="range_iterator") st' rfl rfl (by decide) ⟨.int (lo+i),H,I1,⟨t,?_⟩,⟨rfl,rfl⟩,st',fun b hb=>(hf b hb).1⟩⟩;rw[Int.mul_one]
 done:=by
  walk_at "d";walk_at "p";exact wpAny_pyNext_range_end (I.ok.hd hc) st (by have:n<=i:=hg;omega) fun h' eb=>⟨rfl,I.turned (t':=s.toks) (fun b o hb e=>eb b o hb e) f0 f1 f3 f4 f5⟩
 self:=fun _ _ _ _ _ st h=>wpAny_pyIter_rangeiter st h
section
variable {X:Cx}{tg:Expr}
def AMq(K:W.Frag)(tl:TE):TI:=fun Y H R=>tl Y H fun x H1=>∃a,x=.ref a/\(∃xs,SqL K H1 a xs)/\R (Itl K a) H1
def AQZ(K:W.Frag)(tl:TE):TI:=fun Y H R=>tl Y H fun x H1=>∃a,x=.ref a/\(∃xs,SqT K H1 a xs)/\R (Itt K a) H1
theorem Dg(hl:PE X l tl):PI X tg l (AMq X.K tl):=by
 walk_at "ay";obtain⟨a,e,⟨xs,hq⟩,q⟩:=q1;subst e;cases r1;obtain⟨its,rv,p,hz⟩:=I1.list hq;refine wpAny_pyIter_list p.isList ?_;refine⟨s1.heap.objs.size,[s1.heap.objs.size],_,_,H1,rfl,I1.kept (t':=s1.toks) fun b o e=>ARA _ e,ZM a _,⟨_,ARN _ rfl,rfl,rfl⟩,fun b hb=>?_,q⟩;have e:b=s1.heap.objs.size:=by simpa using hb
 subst e;walk_at "C"
theorem AAZ{Y:St}{lo hi:Int}(I:Inv X aA Y H s)(h1:-(2^62)<=lo)(h2:lo<2^62)(h3:-(2^62)<=hi)(h4:hi<2^62)
  (q:R (Itr lo (hi-lo).toNat) H):wpAny (model X.prog X.w) X.A (pyIter (.ref s.heap.objs.size)) (PIE X aA Y tg R) E { s with heap:=s.heap.push { cls:=.type "range",data:=.fields #[.int lo t,.int hi u,.int 1 v] },toks:=tk }:=by
 refine wpAny_pyIter_range (IsRange.new ..) (small_one h1 h2 h3 h4) ?_;have I1:Inv X aA Y H { s with heap:=s.heap.push { cls:=.type "range",data:=.fields #[.int lo t,.int hi u,.int 1 v] },toks:=tk }:=I.kept fun b o e=>ARA _ e;refine⟨(s.heap.push { cls:=.type "range",data:=.fields #[.int lo t,.int hi u,.int 1 v] }).objs.size,[(s.heap.push { cls:=.type "range",data:=.fields #[.int lo t,.int hi u,.int 1 v] }).objs.size],_,_,H,rfl,
  I1.kept (t':=tk) fun b o e=>ARA _ e,Wr _ lo (hi-lo).toNat,?_,fun b hb=>?_,q⟩
 .have e1:lo+((0:Nat):Int)*1=lo:=by simp
  have e2:(((hi-lo).toNat:Nat):Int)-((0:Nat):Int)=Builtin.Range.rangeSize lo hi 1:=by rw[rangeSize_one];split<;>omega
  show IsRangeIter _ _ (lo+((0:Nat):Int)*1) ((((hi-lo).toNat:Nat):Int)-((0:Nat):Int)) 1;rw[e1,e2];exact ARN _ rfl
 .have e:b=(s.heap.push { cls:=.type "range",data:=.fields #[.int lo t,.int hi u,.int 1 v] }).objs.size:=by simpa using hb
  subst e;walk_at "C"
def ANf(ta:TA):TI:=fun Y H R=>ta Y H fun vs H1=>∃j:Int,vs=[.int j]/\-(2^62)<=j/\j<2^62/\R (Itr 0 j.toNat) H1
def AQG(ta:TA):TI:=fun Y H R=>ta Y H fun vs H1=>∃i j:Int,vs=[.int i,.int j]/\(-(2^62)<=i/\i<2^62/\-(2^62)<=j/\j<2^62)/\R (Itr i (j-i).toNat) H1
theorem Q4(hg:Gl X "range")(hm:X.mg "range"=none)(ha:PA X [a] ta)(hs:starEach [a] X.env=[(false,eval a X.env)]:=by rfl):PI X tg (.Call (.Name "range" p) [a] [] pos) (ANf ta):=by
 intro aA s Y H R I h;refine Call_ (Jx I hg hm boot_range (ASN (thn (ha pos aA s Y H _ I h) fun us s1 ⟨vs,H1,I1,r1,q1⟩=>?_) hs rfl));obtain⟨j,e,q1,q2,q⟩:=q1;subst e;cases r1 with
 | cons r rr =>
  cases rr;obtain⟨t,rfl⟩:=r;exact call_range_1 (AAZ I1 (by omega) (by omega) q1 q2 (by simpa using q))
def AOv(wi:TI)(g:TG)(tb:TS):TS:=fun D Y H=>wi Y H fun J H1=>∃W:Nat->Nat->St->Hp->Prop,(∃m,W 0 m Y H1)/\∀i m Y H,W i m Y H ->
 (J.stop i H/\D.nx Y H)\/(J.go i H/\∃N:St->Hp->Prop,(∀zd H',N zd H'->∃m',m'<m/\W (i+1) m' zd H')/\∀x H',J.yld i H x H'->g x Y H' fun zm H2=>tb { D with nx:=N,ct:=N,bk:=D.nx } zm H2)
def Pk(fp:List Addr)(h:Heap):List (Addr×Obj):=fp.filterMap fun b=>(h.get? b).map fun o=>(b,o)
theorem Es(hb:b∈fp)(e:h.get? b=some o):(b,o)∈Pk fp h:=ASI.mpr ⟨b,hb,by rw[e];rfl⟩
theorem Y8(hp:p∈Pk fp h):p.1∈fp/\h.get? p.1=some p.2:=by
 obtain⟨b,hb,e⟩:=ASI.mp hp;cases q:h.get? b with
 | none=>rw[q]at e;cases e
 | some o =>
  rw[q]at e;have e':(b,o)=p:=ARK e;subst e';exact⟨hb,q⟩
theorem Inv.pinned{Y:St}(I:Inv X aA Y H s)(hf:∀b∈fp,FP X aA H b)(ho:∀b∈fp,∃o,s.heap.get? b=some o/\∀v,o.data≠.cell v):Inv X (aA++Pk fp s.heap) Y H s :=
 I.pins_of fun p hp=>(ARP.mp hp).elim (fun z=>I.pin p (ART _ z)) fun z=>by
  obtain⟨hb,e⟩:=Y8 z;obtain⟨f0,f1,f2,_⟩:=hf p.1 hb;obtain⟨o,e',d⟩:=ho p.1 hb;rw[e]at e';cases e';exact⟨e,f0,f1,f2,d⟩
theorem Inv.unpinned{Y:St}(I:Inv X (aA++pl) Y H s):Inv X aA Y H s:=I.pins_of fun p hp=>I.pin p (ART _ (ASD _ hp))
theorem J7(hp:PassesOwn (model X.prog X.w) X.A X.env X.xe)(hc:X.calm=true)(hi:PI X tg iter wi)(hg:PG X tg g)(hb:PSs X body tb)
  (hs:∀x,foldedSetIterable iter X.env x=pure x:=by intro _;rfl):PS X (.For tg iter body [] pos) (AOv wi g tb):=by
 walk_at "S";refine wpAny_For (thn (hi aA s Y H _ I h) fun v s1 h1=>thn h1 fun itv s2 h2=>?_) hs;obtain⟨it,fp,tn,J,H2,e,I2,T,st2,f2,W,⟨m0,w0⟩,turn⟩:=h2;subst e;have stat:∀{H':Hp},(∀b∈fp,H' b=none)->∀b∈fp,FP X aA H' b:=fun hn b hb=>⟨hn b hb,(f2 b hb).2⟩;refine codeAny_forLoop_any (fun n s'=>∃i zd H',Inv X aA zd H' s'/\tn i s'.heap/\(∀b∈fp,H' b=none)/\W i n zd H') ?_ m0 ⟨0,Y,H2,I2,st2,fun b hb=>(f2 b hb).1,w0⟩;rintro n s3 ⟨i,zo,H3,I3,st3,oX,w3⟩;rcases turn i n zo H3 w3 with⟨stop,qn⟩|⟨go,N,hN,step⟩
 .refine ASu hp (thn (T.done X rfl rfl rfl hc i aA s3 zo H3 X.xe I3 (stat oX) st3 stop) fun r s4 ⟨hr,I4⟩=>?_);subst hr;exact ATD ⟨zo,H3,I4,qn⟩
 .refine ASu hp (thn (T.item X rfl rfl rfl hc i aA s3 zo H3 X.xe I3 (stat oX) st3 go) fun r s4 ⟨u,hr,h4⟩=>?_);subst hr;refine ASu hp (thn h4 fun _ s5 ⟨x,H5,I5,r5,y5,lF,kH⟩=>?_);have rA:=I5.pinned (stat kH) (T.obj _ _ lF);refine ASu hp (thn (hg _ s5 zo H5 x u _ rA r5 (step x H5 y5)) fun _ s6 ⟨yc,H6,I6,q6⟩=>?_);refine ASu hp (thn (hb _ s6 yc H6 _ I6 q6) fun f s7 q7=>?_);have again:∀{zp:St} {H7:Hp},Inv X (aA++Pk fp s5.heap) zp H7 s7->N zp H7->∃m,m<n/\∃i zd H',Inv X aA zd H' s7/\tn i s7.heap/\(∀b∈fp,H' b=none)/\W i m zd H':=fun {zp H7} I7 n7=>by
   obtain⟨m',hm,w7⟩:=hN zp H7 n7;refine⟨m',hm,i+1,zp,H7,I7.unpinned,T.keep _ _ _ lF fun b hb o e=>(I7.pin (b,o) (ART _ (ART _ (Es hb e)))).1,fun b hb=>?_,w7⟩;obtain⟨o,e,d⟩:=T.obj _ _ lF b hb;exact(I7.pin (b,o) (ART _ (ART _ (Es hb e)))).2.1
  cases f with
  | next=>obtain⟨zp,H7,I7,n7⟩:=q7;exact again I7 n7
  | cont=>obtain⟨zp,H7,I7,n7⟩:=q7;exact again I7 n7
  | brk=>obtain⟨zp,H7,I7,q7⟩:=q7;exact⟨zp,H7,I7.unpinned,q7⟩
  | ret v=>obtain⟨x7,zp,H7,I7,r7,q7⟩:=q7;exact⟨x7,zp,H7,I7.unpinned,r7,q7⟩
end
theorem Kz{K:PySem.W.Frag}{a:Addr}{xs:List V}{g:TG}{tb:TS}{D:Ends}{Y:St}{H:Hp}(Pv:Nat->St->Hp->Prop)(h0:Pv 0 Y H)(hl:∀i Y H,i<=xs.length->Pv i Y H->SqL K H a xs)
  (hs:∀i x Y H,xs[i]?=some x->Pv i Y H->g x Y H fun zm H2=>tb { D with nx:=Pv (i+1),ct:=Pv (i+1),bk:=D.nx } zm H2) (hd:∀Y H,Pv xs.length Y H->D.nx Y H) :
  ∃W:Nat->Nat->St->Hp->Prop,(∃m,W 0 m Y H)/\∀i m Y H,W i m Y H ->
   ((Itl K a).stop i H/\D.nx Y H)\/((Itl K a).go i H/\∃N:St->Hp->Prop,(∀zd H',N zd H'->∃m',m'<m/\W (i+1) m' zd H')/\∀x H',(Itl K a).yld i H x H'->g x Y H' fun zm H2=>tb { D with nx:=N,ct:=N,bk:=D.nx } zm H2):=by
 walk_at "H";by_cases hlt:i<xs.length
 .refine .inr ⟨⟨xs,xs[i],q,by simp[hlt]⟩,Pv (i+1),fun zd H' p'=>⟨xs.length-(i+1),by omega,rfl,hlt,p'⟩,fun x H' y=>?_⟩;obtain⟨e,y⟩:=y;subst e;exact hs i x Y _ (y xs q) p
 .have e:i=xs.length:=by omega
  subst e;exact .inl ⟨⟨xs,q,ARH _⟩,hd Y H p⟩
theorem Zb{lo:Int}{n:Nat}{g:TG}{tb:TS}{D:Ends}{Y:St}{H:Hp}(Pv:Nat->St->Hp->Prop)(h0:Pv 0 Y H)
  (hs:∀i Y H,i<n->Pv i Y H->g (.int (lo+i)) Y H fun zm H2=>tb { D with nx:=Pv (i+1),ct:=Pv (i+1),bk:=D.nx } zm H2) (hd:∀Y H,Pv n Y H->D.nx Y H) :
  ∃W:Nat->Nat->St->Hp->Prop,(∃m,W 0 m Y H)/\∀i m Y H,W i m Y H ->
   ((Itr lo n).stop i H/\D.nx Y H)\/((Itr lo n).go i H/\∃N:St->Hp->Prop,(∀zd H',N zd H'->∃m',m'<m/\W (i+1) m' zd H')/\∀x H',(Itr lo n).yld i H x H'->g x Y H' fun zm H2=>tb { D with nx:=N,ct:=N,bk:=D.nx } zm H2):=by
 walk_at "9";by_cases hlt:i<n
 .refine .inr ⟨hlt,Pv (i+1),fun zd H' p'=>⟨n-(i+1),by omega,rfl,hlt,p'⟩,fun x H' y=>?_⟩;obtain⟨e,y⟩:=y;subst e y;exact hs i Y _ hlt p
 .have e:i=n:=by omega
  subst e;exact .inl ⟨ARH _,hd Y H p⟩
abbrev R2:=V->V->Hp->VK->Prop
def OpR(X:Cx)(f:Value->Value->Sem Value)(r:R2):Prop :=
 ∀(aA:List (Addr×Obj)) (s:Shared) (Y:St) (H:Hp) (x y:V) (v u:Value) (Q:VK),Inv X aA Y H s->Bh x v->Bh y u->r x y H Q ->
  wpAny (model X.prog X.w) X.A (f v u) (EP X aA Y Q) X.xe s
def UnR(X:Cx)(f:Value->Sem Value)(r:V->Hp->VK->Prop):Prop :=
 ∀(aA:List (Addr×Obj)) (s:Shared) (Y:St) (H:Hp) (x:V) (v:Value) (Q:VK),Inv X aA Y H s->Bh x v->r x H Q ->
  wpAny (model X.prog X.w) X.A (f v) (EP X aA Y Q) X.xe s
def HB(X:Cx)(f:Value)(r:List V->Hp->VK->Prop):Prop :=
 ∀(aA:List (Addr×Obj)) (s:Shared) (Y:St) (H:Hp) (xs:List V) (us:List Value) (Q:VK),Inv X aA Y H s->Ba xs us->r xs H Q ->
  wpAny (model X.prog X.w) X.A (call f us) (EP X aA Y Q) X.xe s
def AQr(X:Cx)(r:V->Hp->(Bool->Hp->Prop)->Prop):Prop :=
 ∀(aA:List (Addr×Obj)) (s:Shared) (Y:St) (H:Hp) (x:V) (v:Value) (Q:Bool->Hp->Prop),Inv X aA Y H s->Bh x v->r x H Q ->
  wpAny (model X.prog X.w) X.A (truthy v) (TP X aA Y Q) X.xe s
def tOp(r:R2)(ta tb:TE):TE:=fun Y H Q=>ta Y H fun x H1=>tb Y H1 fun y H2=>r x y H2 Q
def tUn(r:V->Hp->VK->Prop)(ta:TE):TE:=fun Y H Q=>ta Y H fun x H1=>r x H1 Q
def rI(C:Int->Int->Prop)(g:Int->Int->V):R2:=fun x y H Q=>∃i j,x=.int i/\y=.int j/\C i j/\Q (g i j) H
def rI0(g:Int->Int->V):R2:=fun x y H Q=>∃i j,x=.int i/\y=.int j/\Q (g i j) H
def rU(g:Int->V):V->Hp->VK->Prop:=fun x H Q=>∃i,x=.int i/\Q (g i) H
section
variable {X:Cx}{a b c:Expr}{ta tb tc:TE}{pos:Pos}
theorem AGN(ha:PE X a ta)(hb:PE X b tb){Y:St}{R:V->V->Hp->Prop}(I:Inv X aA Y H s)
  (h:ta Y H fun x H1=>tb Y H1 fun y H2=>R x y H2)  {f:Value->Value->Sem Value}
  (hf:∀v u s2 x y H2,Inv X aA Y H2 s2->Bh x v->Bh y u->R x y H2->wpAny (model X.prog X.w) X.A (f v u) Q X.xe s2) :
  wpAny (model X.prog X.w) X.A (eval a X.env) (fun v ze=>wpAny (model X.prog X.w) X.A (eval b X.env) (fun u zi=>wpAny (model X.prog X.w) X.A (f v u) Q X.xe zi) X.xe ze) X.xe s:=by
 refine thn (ha aA s Y H _ I h) fun v s1 ⟨x,H1,I1,r1,q1⟩=>?_;refine thn (hb aA s1 Y H1 _ I1 q1) fun u s2 ⟨y,H2,I2,r2,q2⟩=>?_;exact hf v u s2 x y H2 I2 r1 r2 q2
theorem Ak(ho:OpR X (binaryOp op) r)(ha:PE X a ta)(hb:PE X b tb):PE X (.BinOp a op b pos) (tOp r ta tb):=by
 walk_at "i";exact wpAny_BinOp (AGN ha hb I h fun v u s2 x y H2 I2 rx ry q=>ho aA s2 Y H2 x y v u Q I2 rx ry q)
theorem Hv(ho:UnR X (unaryOp op) r)(ha:PE X a ta):PE X (.UnaryOp op a pos) (tUn r ta):=by
 walk_at "i";exact UnaryOp_ (thn (ha aA s Y H _ I h) fun v s1 ⟨x,H1,I1,r1,q1⟩=>ho aA s1 Y H1 x v Q I1 r1 q1)
theorem opI{g:Int->Int->Int}
  (rule:∀(i j:Int) (t u:Tok) (s:Shared) (Q:Value->Shared->Prop) (E:Value->Shared->Prop),C i j->Q (.int (g i j) s.toks) { s with toks:=s.toks+1 }->wpAny (model X.prog X.w) X.A (f (.int i t) (.int j u)) Q E s) :
  OpR X f (rI C fun i j=>.int (g i j)):=by
 walk_at "k";obtain⟨i,j,rfl,rfl,hc,q⟩:=h;walk_at "z";walk_at "av";exact rule i j t t' s _ _ hc ⟨.int (g i j),H,I.tok _,⟨_,rfl⟩,q⟩
theorem AMc{g:Int->Int->Int}
  (rule:∀(i j:Int) (t u:Tok) (s:Shared) (Q:Value->Shared->Prop) (E:Value->Shared->Prop),Q (.int (g i j) s.toks) { s with toks:=s.toks+1 }->wpAny (model X.prog X.w) X.A (f (.int i t) (.int j u)) Q E s) :
  OpR X f (rI0 fun i j=>.int (g i j)):=by
 walk_at "k";obtain⟨i,j,rfl,rfl,q⟩:=h;walk_at "z";walk_at "av";exact rule i j t t' s _ _ ⟨.int (g i j),H,I.tok _,⟨_,rfl⟩,q⟩
theorem AJE{g:Int->Int->Bool}
  (rule:∀(i j:Int) (t u:Tok) (s:Shared) (Q:Value->Shared->Prop) (E:Value->Shared->Prop),Q (.bool (g i j)) s->wpAny (model X.prog X.w) X.A (f (.int i t) (.int j u)) Q E s) :
  OpR X f (rI0 fun i j=>.bl (g i j)):=by
 walk_at "k";obtain⟨i,j,rfl,rfl,q⟩:=h;walk_at "z";walk_at "av";exact rule i j t t' s _ _ ⟨.bl (g i j),H,I,rfl,q⟩
def AQa(i j:Int):Prop:=0<j/\j<1073741824
def AQS(i j:Int):Prop:=j≠0/\j.natAbs<1073741824
def ADe(i j:Int):Prop:=0<=j/\j<=1000000/\i.natAbs<2^64
def AFX(i j:Int):Prop:=(-(2^64)<i/\i<2^64)\/(-(2^64)<j/\j<2^64)
theorem AFX.ok(h:AFX i j):IntMulOk i j:=by
 rcases h with⟨h1,h2⟩|⟨h1,h2⟩
 .exact .of_left (intBits_le_64 h1 h2)
 .exact .of_right (intBits_le_64 h1 h2)
theorem J6:OpR X (binaryOp .Add) (rI0 fun i j=>.int (i+j)):=AMc fun _ _ _ _ _ _ _ q=>add_int q
theorem Jw:OpR X (binaryOp .Sub) (rI0 fun i j=>.int (i-j)):=AMc fun _ _ _ _ _ _ _ q=>sub_int q
theorem Dm:OpR X (binaryOp .Mod) (rI (fun _ j=>0<j) fun i j=>.int (i%j)):=opI fun i j _ _ _ _ _ hc q=>by
 have h1:(0:Int)<j:=hc;exact mod_int' (by omega) (by rw[Int.fmod_eq_emod_of_nonneg i (by omega)];exact q)
theorem ABm:OpR X (binaryOp .Pow) (rI ADe fun i j=>.int (i^j.toNat)):=opI fun _ _ _ _ _ _ _ hc q=>pow_int_small hc.1 hc.2.1 hc.2.2 q
theorem unI{g:Int->Int}
  (rule:∀(i:Int) (t:Tok) (s:Shared) (Q:Value->Shared->Prop) (E:Value->Shared->Prop),Q (.int (g i) s.toks) { s with toks:=s.toks+1 }->wpAny (model X.prog X.w) X.A (f (.int i t)) Q E s) :
  UnR X f (rU fun i=>.int (g i)):=by
 intro aA s Y H x v Q I rx h;obtain⟨i,rfl,q⟩:=h;walk_at "z";exact rule i t s _ _ ⟨.int (g i),H,I.tok _,⟨_,rfl⟩,q⟩
theorem Fi:UnR X (unaryOp .USub) (rU fun i=>.int (-i)):=unI fun _ _ _ _ _ q=>neg_int q
end
def ANW:V->V->Bool
 | .non,.non=>true | .non,.int _=>true | .int _,.non=>true | .non,.bl _=>true | .bl _,.non=>true | .non,.str _=>true | .str _,.non=>true
 | .int _,.int _=>true | .bl _,.bl _=>true | .str _,.str _=>true | .byt _,.byt _=>true
 | .int _,.str _=>true | .str _,.int _=>true | .bl _,.str _=>true | .str _,.bl _=>true
 | _,_=>false
def rEq:R2:=fun x y H Q=>ANW x y=true/\Q (.bl (decide (x=y))) H
def rNe:R2:=fun x y H Q=>ANW x y=true/\Q (.bl (!decide (x=y))) H
theorem YC:decide (V.int i=V.int j)=(i==j):=by
 rw[ATY];simp
theorem ABc:decide (V.bl i=V.bl j)=(i==j):=by
 rw[ATY];simp
theorem X7:decide (V.str i=V.str j)=(i==j):=by
 rw[ATY];simp
theorem Xp:decide (V.byt i=V.byt j)=(i.toList==j.toList):=by
 rw[ATY];cases i;cases j;simp
section
variable {X:Cx}{a b c:Expr}{ta tb tc:TE}{pos:Pos}
theorem Bl{Y:St}(I:Inv X aA Y H s)(q:Q (.bl k) H)(e:k=k'):EP X aA Y Q (.bool k') s:=by
 subst e;exact⟨.bl k,H,I,rfl,q⟩
theorem Bs:OpR X (compareOp .Eq) rEq:=by
 walk_at "k";obtain⟨hs,q⟩:=h;cases x with
 | non =>
  cases rx;cases y with
  | non=>cases ry;exact PySem.EqNone.eq_none_none (Bl I q (by simp))
  | bl j=>cases ry;exact PySem.EqNone.eq_none_bool (Bl I q (by simp))
  | int j=>obtain⟨t',rfl⟩:=ry;exact PySem.EqNone.eq_none_int (Bl I q (by simp))
  | str j=>obtain⟨t',rfl⟩:=ry;exact PySem.EqNone.eq_none_str (Bl I q (by simp))
  | _=>exact absurd (show false=true from hs) ARJ
 | bl i =>
  cases rx;cases y with
  | non=>cases ry;exact PySem.EqNone.eq_bool_none (Bl I q (by simp))
  | bl j=>cases ry;exact eq_bool (Bl I q ABc)
  | str j=>obtain⟨t',rfl⟩:=ry;exact PySem.EqMixed.eq_bool_str (Bl I q (by simp))
  | _=>exact absurd (show false=true from hs) ARJ
 | int i =>
  walk_at "z";cases y with
  | non=>cases ry;exact PySem.EqNone.eq_int_none (Bl I q (by simp))
  | int j=>obtain⟨t',rfl⟩:=ry;exact eq_int (Bl I q YC)
  | str j=>obtain⟨t',rfl⟩:=ry;exact PySem.EqMixed.eq_int_str (Bl I q (by simp))
  | _=>exact absurd (show false=true from hs) ARJ
 | str i =>
  walk_at "z";cases y with
  | non=>cases ry;exact PySem.EqNone.eq_str_none (Bl I q (by simp))
  | bl j=>cases ry;exact PySem.EqMixed.eq_str_bool (Bl I q (by simp))
  | int j=>obtain⟨t',rfl⟩:=ry;exact PySem.EqMixed.eq_str_int (Bl I q (by simp))
  | str j=>obtain⟨t',rfl⟩:=ry;exact eq_str (Bl I q X7)
  | _=>exact absurd (show false=true from hs) ARJ
 | byt i =>
  walk_at "z";cases y with
  | byt j=>obtain⟨t',rfl⟩:=ry;exact W.eq_bytes (Bl I q Xp)
  | _=>exact absurd (show false=true from hs) ARJ
 | _=>cases y<;>exact absurd (show false=true from hs) ARJ
theorem GC:OpR X (compareOp .NotEq) rNe:=by
 walk_at "k";obtain⟨hs,q⟩:=h;cases x with
 | non =>
  cases rx;cases y with
  | non=>cases ry;exact PySem.EqNone.ne_none_none (Bl I q (by simp))
  | bl j=>cases ry;exact PySem.EqNone.ne_none_bool (Bl I q (by simp))
  | int j=>obtain⟨t',rfl⟩:=ry;exact PySem.EqNone.ne_none_int (Bl I q (by simp))
  | str j=>obtain⟨t',rfl⟩:=ry;exact PySem.EqNone.ne_none_str (Bl I q (by simp))
  | _=>exact absurd (show false=true from hs) ARJ
 | bl i =>
  cases rx;cases y with
  | non=>cases ry;exact PySem.EqNone.ne_bool_none (Bl I q (by simp))
  | bl j=>cases ry;exact ne_bool (Bl I q (congrArg not ABc))
  | str j=>obtain⟨t',rfl⟩:=ry;exact PySem.EqMixed.ne_bool_str (Bl I q (by simp))
  | _=>exact absurd (show false=true from hs) ARJ
 | int i =>
  walk_at "z";cases y with
  | non=>cases ry;exact PySem.EqNone.ne_int_none (Bl I q (by simp))
  | int j=>obtain⟨t',rfl⟩:=ry;exact ne_int (Bl I q (congrArg not YC))
  | str j=>obtain⟨t',rfl⟩:=ry;exact PySem.EqMixed.ne_int_str (Bl I q (by simp))
  | _=>exact absurd (show false=true from hs) ARJ
 | str i =>
  walk_at "z";cases y with
  | non=>cases ry;exact PySem.EqNone.ne_str_none (Bl I q (by simp))
  | bl j=>cases ry;exact PySem.EqMixed.ne_str_bool (Bl I q (by simp))
  | int j=>obtain⟨t',rfl⟩:=ry;exact PySem.EqMixed.ne_str_int (Bl I q (by simp))
  | str j=>obtain⟨t',rfl⟩:=ry;exact ne_str (Bl I q (congrArg not X7))
  | _=>exact absurd (show false=true from hs) ARJ
 | byt i =>
  walk_at "z";cases y with
  | byt j=>obtain⟨t',rfl⟩:=ry;exact W.ne_bytes (Bl I q (congrArg not Xp))
  | _=>exact absurd (show false=true from hs) ARJ
 | _=>cases y<;>exact absurd (show false=true from hs) ARJ
theorem Jj:OpR X (compareOp .Lt) (rI0 fun i j=>.bl (decide (i<j))):=AJE fun _ _ _ _ _ _ _ q=>lt_int q
theorem HN:OpR X (compareOp .Gt) (rI0 fun i j=>.bl (decide (j<i))):=AJE fun _ _ _ _ _ _ _ q=>gt_int q
theorem AM4:OpR X (compareOp .GtE) (rI0 fun i j=>.bl (decide (j<=i))):=AJE fun _ _ _ _ _ _ _ q=>ge_int q
theorem Qz:OpR X (compareOp .In) (fun x y H Q=>∃i j,x=.str i/\y=.str j/\Q (.bl (!(Builtin.Str.occurrences j i 0 j.length 1).isEmpty)) H):=by
 walk_at "k";obtain⟨i,j,rfl,rfl,q⟩:=h;walk_at "z";walk_at "av";exact in_str (Bl I q rfl)
theorem AAv:OpR X (compareOp .Is) (fun x y H Q=>y=.non/\Q (.bl (decide (x=.non))) H):=by
 intro aA s Y H x y v u Q I rx ry h;obtain⟨rfl,q⟩:=h;cases ry;refine is_none_gen (Bl I q ?_);cases x<;>first
  | (cases rx;rfl)
  | (obtain⟨t,rfl⟩:=rx;rfl)
theorem ADP:OpR X (compareOp .IsNot) (fun x y H Q=>y=.non/\Q (.bl (!decide (x=.non))) H):=by
 intro aA s Y H x y v u Q I rx ry h;obtain⟨rfl,q⟩:=h;cases ry;refine isnot_none_gen (Bl I q ?_);cases x<;>first
  | (cases rx;rfl)
  | (obtain⟨t,rfl⟩:=rx;rfl)
def AQL:HO->Bool
 | .lst _=>true
 | .ins _ _ _=>true
 | _=>false
theorem Av(b:Expr)(h:op≠.In:=by decide)(h2:op≠.NotIn:=by decide):behindInMarks op b=false:=by
 have e1:(op==CmpOp.In)=false:=by cases op<;>first | rfl | exact absurd rfl h
 have e2:(op==CmpOp.NotIn)=false:=by cases op<;>first | rfl | exact absurd rfl h2
 cases b<;>simp[behindInMarks,e1,e2]
theorem Gn(ho:OpR X (compareOp op) r)(ha:PE X a ta)(hb:PE X b tb)(hm:behindInMarks op b=false):PE X (.Compare a [op] [b] pos) (tOp r ta tb):=by
 walk_at "i";exact wpAny_Compare1 (AGN ha hb I h fun v u s2 x y H2 I2 rx ry q=>ho aA s2 Y H2 x y v u Q I2 rx ry q) hm
def AJy(t:TE):TT:=fun Y H Q=>t Y H fun x H'=>∃k,x=.bl k/\Q k H'
theorem Am(ho:OpR X (compareOp op) r)(ha:PE X a ta)(hb:PE X b tb)(hm:behindInMarks op b=false):PT X (.Compare a [op] [b] pos) (AJy (tOp r ta tb)):=by
 intro aA s Y H Q I h;refine wpAny_isTrue_Compare1 (thn (ha aA s Y H _ I h) fun v s1 ⟨x,H1,I1,r1,q1⟩=>thn (hb aA s1 Y H1 _ I1 q1) fun u s2 ⟨y,H2,I2,r2,q2⟩ =>
  thn (ho aA s2 Y H2 x y v u _ I2 r1 r2 q2) fun c s3 ⟨z,H3,I3,r3,k,e,q3⟩=>?_) hm
 subst e;cases r3;exact ASt ⟨H3,I3,q3⟩
def AO9(r r':R2)(ta tb tc:TE):TE:=fun Y H Q=>ta Y H fun x H1=>tb Y H1 fun y H2=>r x y H2 fun z H3=>∃k,z=.bl k /\
 (if k=true then tc Y H3 fun w' H4=>r' y w' H4 Q else Q (.bl false) H3)
def AQ1(K:W.Frag)(x:V)(H:Hp)(k:Bool):Prop :=
 match x with
 | .non=>k=false
 | .bl b=>k=b
 | .int i=>k=(i != 0)
 | .str y=>y.length<=sizeLine/\k=((y.length:Int) != 0)
 | .byt y=>y.size<=sizeLine/\k=((y.size:Int) != 0)
 | .ref p=>(∃xs,SqL K H p xs/\k=!xs.isEmpty)\/(∃xs,SqT K H p xs/\k=!xs.isEmpty)\/∃aG,H p=some (.dK aG)/\k=!aG.isEmpty
 | _=>False
theorem Pn:(sizeLine:Nat)<2^63:=by rw[sizeLine_eq];decide
theorem Ah:OpR X (binaryOp .Add) (fun x y H Q=>∃i j,x=.str i/\y=.str j/\i.length+j.length<=sizeLine/\Q (.str (i++j)) H):=by
 walk_at "k";obtain⟨i,j,rfl,rfl,hz,q⟩:=h;walk_at "z";walk_at "av";exact add_str (fun t' tk=>⟨.str (i++j),H,I.tok _,⟨_,rfl⟩,q⟩) hz
def ALf(b:Expr):Prop:=∀o i,subscripted b false o i=operate [o,i] (getItem o i)
theorem GQ(r:Ba [x] us):∃u,us=[u]/\Bh x u:=by
 cases r with
 | cons r1 r2=>cases r2;exact⟨_,rfl,r1⟩
theorem ABq(r:Ba [x,y] us):∃u w',us=[u,w']/\Bh x u/\Bh y w':=by
 cases r with
 | cons r1 r2 =>
  cases r2 with
  | cons r3 r4=>cases r4;exact⟨_,_,rfl,r1,r3⟩
theorem VP:HB X (.builtin "abs") (fun xs H Q=>∃i,xs=[.int i]/\Q (.int (if i<0 then -i else i)) H):=by
 walk_at "V";obtain⟨i,rfl,q⟩:=h;obtain⟨u,rfl,t,rfl⟩:=GQ r;exact call_abs_int fun u tk=>⟨.int (if i<0 then -i else i),H,I.tok _,⟨_,rfl⟩,q⟩
theorem Hg:HB X (.type "str") (fun xs H Q=>∃i,xs=[.int i]/\i.natAbs.log2<1920/\Q (.str (toString i)) H):=by
 walk_at "V";obtain⟨i,rfl,hz,q⟩:=h;obtain⟨u,rfl,t,rfl⟩:=GQ r;exact PySem.P.str_of_int hz ⟨.str _,H,I.tok _,⟨_,rfl⟩,q⟩
def AQh(K:W.Frag)(x:V)(H:Hp)(n:Nat):Prop :=
 match x with
 | .str y=>y.length<=sizeLine/\n=y.length
 | .byt y=>y.size<=sizeLine/\n=y.size
 | .ref p=>(∃xs,SqL K H p xs/\n=xs.length)\/∃xs,SqT K H p xs/\n=xs.length
 | _=>False
end
structure XQ(h:Heap)(x dx C:Addr)(mA:Str->Option Value):Prop where
 obj:h.get? x=some (W.instObj C dx)
 ns:h.Ns1 dx mA
 ne:dx≠x
theorem Qt{h:Heap}(n:h.Ns1 dx mA):∃od,h.get? dx=some od/\∀name,W.lookIn name od=some (mA name):=by
 obtain⟨o,es,ep,ho,hd,hk,_,hm⟩:=n;refine⟨o,ho,fun name=>?_⟩;have e:=hm name;unfold nsFind findBy at e;rw[<-AVF]at e;unfold W.lookIn;rw[hd];dsimp only
 split
 .rename_i y q
  rw[q]at e;exact congrArg some e
 .rename_i q
  rw[q]at e;have a:es.toList.any (·.refKey)=false:=by
   rw[List.any_eq_false];intro y hy;obtain⟨z,t,hkey⟩:=hk y (Array.mem_toList_iff.mp hy);simp[DictEntry.refKey,hkey]
  have a':¬es.toList.any (·.refKey)=true:=by rw[a];exact ARJ
  rw[if_neg a'];exact congrArg some e
theorem XQ.look(I:XQ h x dx C mA):∃od,W.InstAt h x (W.instObj C dx) C (some od)/\∀name,W.lookIn name od=some (mA name) :=
 let ⟨od,ho,hl⟩:=Qt I.ns
 ⟨od,⟨I.obj,rfl,rfl,ho⟩,hl⟩
section
variable {prog:Program}{w:World}{A:Around}{E:Value->Shared->Prop}{s:Shared}{K:W.Frag}{x dx C f:Addr}{mA:Str->Option Value}{name:Str}{v:Value}
theorem ACx(X:K.In s.heap)(I:XQ s.heap x dx C mA)(hg:W.plainGet K C name=true)(hh:W.hasDictIn K C=true)
  (ha:W.findIn K (.ref C) name=some none) (hv:mA name=some v) (hv':W.handedIn v=true) (h:Q v { s with toks:=s.toks+1 }) :
  wpAny (model prog w) A (getAttr (.ref x) name expr) Q E s:=by
 obtain⟨od,J,hl⟩:=I.look;exact W.get_value X J (AUC hg).1 (AU8 hh ha rfl (by rw[hl,hv])) hv' h
theorem ABt(X:K.In s.heap)(I:XQ s.heap x dx C mA)(hg:W.plainGet K C name=true)
  (hf:W.findIn K (.ref C) name=some (some (.ref f))) (ht:W.isFn K (.ref f)=true) (hv:mA name=none) (h:Q (.ref f,[.ref x]) s) :
  wpAny (model prog w) A (getMethod (.ref x) name pl) Q E s:=by
 obtain⟨od,J,hl⟩:=I.look;exact W.method_fn X J (AUC hg).1 (AUC hg).2 hf (beq_iff_eq.mp ht) (by show(W.lookIn name od).map (·.isSome)=some false;rw[hl,hv];rfl) h
theorem ADB(X:K.In s.heap)(I:XQ s.heap x dx C mA)
  (hs:W.findIn K (.ref C) "__setattr__"=some (some (.builtin "object.__setattr__"))) (hp:W.plainOver K C=true) (ht:W.takerIn K C name=some none) (hh:W.hasDictIn K C=true)
  (hw:PySem.Within mA ns) (hsz:ns.length<=sizeLine)
  (h:∀h',XQ h' x dx C (fun y=>if y=name then some v else mA y)->Heap.SameBut dx s.heap h'->Q () { s with heap:=h',toks:=s.toks+2 }) :
  wpAny (model prog w) A (setAttr (.ref x) name v) Q E s:=by
 obtain⟨od,J,hl⟩:=I.look;refine AVS X J hs (W.osa_open (s:={ s with toks:=s.toks+1 }) (r:=none) X J hp ht fun b=>?_);obtain⟨cd,hc,hd'⟩:=AUn hh;have hx:s.heap.get? x=some ⟨.ref C,some dx,.plain,#[]⟩:=I.obj;refine AQ8 (ARL (AQ8 (AQ8 (AU6 hx (AQ8 (AVG (s:={ s with toks:=s.toks+1 }) (AUD X hc) ?_))))));rw[hd'];refine ARL (a:=some dx) (AQ8 (ARL (AQ8 ?_)));refine wpAny_nsSet1 (s:={ s with toks:=s.toks+1 }) I.ns fun h' hn2 hs2=>?_;obtain⟨oD,esD,epD,hoD,hdD,hcD⟩:=hn2.count (PySem.Within.cons name v hw);refine AQ8 (wpAny_lookBehind hoD (by rw[hdD];exact pastItsLine_dict (ASF hcD (by rw[ARD];omega))) ?_);exact ARL (h _ ⟨(hs2.2 _ (ATt I.ne)).trans I.obj,hn2,I.ne⟩ hs2)
theorem Vu(X:K.In s.heap)(hm:W.makesIn K C=true)
  (hi:W.findIn K (.ref C) "__init__"=some (some (.ref f))) (hf:W.typeIn K (.ref f)=some (.type "function"))
  (h:codeAny (model prog w) (A.under (.builtin "type.__call__" ⟨.ref C::vs,kw⟩)) (.call (.ref f) ⟨.ref (s.heap.objs.size+1)::vs,kw⟩) (W.InitBack (s.heap.objs.size+1) R)
   { s with heap:=(s.heap.push W.emptyDict).push (W.instObj C s.heap.objs.size) }) :
  codeAny (model prog w) A (.call (.ref C) ⟨vs,kw⟩) R s:=by
 obtain⟨hh,g,d,t,os⟩:=s;exact W.make_core (W.makes_of X hm) (ASS X hi) (fun self=>W.bind_fn X self hf) (.inl rfl) h
end
def Hn(f:Str)(v:V):List (Str×V)->List (Str×V)
 | []=>[(f,v)]
 | (g,x)::r=>if g=f then(g,v)::r else(g,x)::Hn f v r
theorem M3(f g:Str)(v:V):∀fs:List (Str×V),(Hn f v fs).lookup g=if g=f then some v else fs.lookup g
 | []=>by
  show List.lookup g [(f,v)]=_;by_cases h:g=f
  .have hb:(g==f)=true:=beq_iff_eq.mpr h;simp only[List.lookup,hb,if_pos h]
  .have hb:(g==f)=false:=beq_eq_false_iff_ne.mpr h;simp only[List.lookup,hb,if_neg h]
 | (k,x)::r=>by
  have ih:=M3 f g v r;walk_at "D"
  .rw[if_pos hk];by_cases h:g=k
   .have hb:(g==k)=true:=beq_iff_eq.mpr h;simp only[List.lookup,hb,if_pos (h.trans hk)]
   .have hb:(g==k)=false:=beq_eq_false_iff_ne.mpr h;simp only[List.lookup,hb,if_neg (fun e:g=f=>h (e.trans hk.symm))]
  .rw[if_neg hk];by_cases h:g=k
   .have hb:(g==k)=true:=beq_iff_eq.mpr h;simp only[List.lookup,hb,if_neg (fun e:g=f=>hk (h.symm.trans e))]
   .have hb:(g==k)=false:=beq_eq_false_iff_ne.mpr h;simp only[List.lookup,hb];exact ih
theorem Mr(f:Str)(v:V):∀fs:List (Str×V),f∈(Hn f v fs).map (·.1)/\∀g,g∈fs.map (·.1)->g∈(Hn f v fs).map (·.1)
 | []=>⟨by simp[Hn],fun g h=>by simp at h⟩
 | (k,x)::r=>by
  obtain⟨i1,i2⟩:=Mr f v r;walk_at "D"
  .rw[if_pos hk];subst hk;exact⟨by simp,fun g h=>by simpa using h⟩
  .rw[if_neg hk];refine⟨?_,fun g h=>?_⟩
   .rw[ARm];exact ARb _ i1
   .rw[ARm]at h ⊢;rcases ARI.mp h with e|e
    .exact ARI.mpr (.inl e)
    .exact ARb _ (i2 g e)
theorem Mz(f:Str)(v:V):∀fs:List (Str×V),(Hn f v fs).length<=fs.length+1
 | []=>by simp[Hn]
 | (k,x)::r=>by
  have ih:=Mz f v r;walk_at "D"
  .rw[if_pos hk,ARD,ARD];omega
  .rw[if_neg hk,ARD,ARD];omega
theorem Gu.some_of(r:Gu (some v) o):∃u,o=some u/\Bh v u:=by
 cases o with
 | none=>exact(show False from r).elim
 | some u=>exact⟨u,rfl,r⟩
theorem Gu.none_of(r:Gu none o):o=none:=by
 cases o with
 | none=>rfl
 | some u=>exact(show False from r).elim
theorem RL(r:Bh v u):W.handedIn u=true:=by
 cases v with
 | non=>cases (show u=Value.none from r);rfl
 | bl b=>cases (show u=Value.bool b from r);rfl
 | int i=>obtain⟨t,e⟩:=(show ∃t,u=Value.int i t from r);cases e;rfl
 | str x=>obtain⟨t,e⟩:=(show ∃t,u=Value.str x t from r);cases e;rfl
 | byt b=>obtain⟨t,e⟩:=(show ∃t,u=Value.bytes b t from r);cases e;rfl
 | flt b=>obtain⟨t,e⟩:=(show ∃t,u=Value.float b t from r);cases e;rfl
 | ref a=>cases (show u=Value.ref a from r);rfl
 | ty n=>cases (show u=Value.type n from r);rfl
section
variable {P:Program}{w:World}{H H':Hp}{h h':Heap}{a C dx:Addr}{fs fs':List (Str×V)}
theorem Nh(hok:HOk P w H h)(e:H a=some (.ins C dx fs)):∃mA,XQ h a dx C mA/\(∀f,Gu (fs.lookup f) (mA f))/\PySem.Within mA (fs.map (·.1))/\fs.length<=1000/\H dx=some (.own a):=by
 obtain⟨d,z,ne,ob,mA,n,r,q⟩:=(show Bp P w H h a (.ins C dx fs) from hok a _ e);exact⟨mA,⟨ob,n,ne⟩,r,q,z,d⟩
end
structure Cls(K:W.Frag)(C:Addr):Prop where
 pg:W.plainGet K C Str.empty=true
 hd:W.hasDictIn K C=true
 po:W.plainOver K C=true
 sa:W.findIn K (.ref C) "__setattr__"=some (some (.builtin "object.__setattr__"))
theorem Cls.get{K:W.Frag}(c:Cls K C)(f:Str):W.plainGet K C f=true:=c.pg
def Ey(K:W.Frag)(C:Addr)(f:Str):Prop:=W.findIn K (.ref C) f=some none
theorem Ey.taker{K:W.Frag}(n:Ey K C f):W.takerIn K C f=some none:=by
 unfold W.takerIn;rw[show W.findIn K (.ref C) f=some none from n];rfl
structure Con(K:W.Frag)(C:Addr)(f:Str)(v:V)(u:Value):Prop where
 at_:W.findIn K (.ref C) f=some (some u)
 rel:Bh v u
 get:W.specialIn K u "__get__"=some none
 cp:W.copiedNames.contains f=false
structure ABJ(K:W.Frag)(C:Addr)(m:Str)(f:Addr):Prop where
 at_:W.findIn K (.ref C) m=some (some (.ref f))
 fn:W.isFn K (.ref f)=true
 kp:W.keepIn K (.ref f)=true
section
variable {X:Cx}{aA:List (Addr×Obj)}{Y:St}{H:Hp}{s:Shared}{a C dx:Addr}{fs:List (Str×V)}{f:Str}{v:V}{A:Around}{E:Value->Shared->Prop}
theorem Wg(I:Inv X aA Y H s)(e:H a=some (.ins C dx fs))(c:Cls X.K C)(n:Ey X.K C f)(l:fs.lookup f=some v)
  (h:∀u s',Inv X aA Y H s'->Bh v u->Q u s'):wpAny (model X.prog X.w) A (getAttr (.ref a) f b) Q E s:=by
 obtain⟨mA,O,r,_,_,_⟩:=Nh I.hok e;obtain⟨u,hu,ru⟩:=Gu.some_of (v:=v) (o:=mA f) (by rw[<-l];exact r f);exact ACx I.kIn O (c.get f) c.hd n hu (RL ru) (h u _ (I.tok _) ru)
theorem Ju(I:Inv X aA Y H s)(e:H a=some (.ins C dx fs))(c:Cls X.K C)(k:ABJ X.K C m g)(l:fs.lookup m=none)
  (h:Q (.ref g,[.ref a]) s):wpAny (model X.prog X.w) A (getMethod (.ref a) m pl) Q E s:=by
 obtain⟨mA,O,r,_,_,_⟩:=Nh I.hok e;have hn:mA m=none:=Gu.none_of (by rw[<-l];exact r m);exact ABt I.kIn O (c.get m) k.at_ k.fn hn h
theorem XN(I:Inv X aA Y H s)(e:H a=some (.ins C dx fs))(c:Cls X.K C)(n:Ey X.K C f)(hl:fs.length<1000)(ry:Bh y u)
  (h:∀s',Inv X aA Y (upd H a (.ins C dx (Hn f y fs))) s'->Q () s'):wpAny (model X.prog X.w) A (setAttr (.ref a) f u) Q E s:=by
 obtain⟨mA,O,r,wi,_,ho⟩:=Nh I.hok e;have hz:(fs.map (·.1)).length<=sizeLine:=by rw[Io,sizeLine_eq];omega
 refine ADB I.kIn O c.sa c.po n.taker c.hd wi hz fun h' O' sb=>h _ ?_;have hd:∃o,h'.get? dx=some o:=let ⟨o,_,_,e',_⟩:=O'.ns;⟨o,e'⟩;refine I.write (x:=a) (e:=dx) (by rw[e];exact True.intro) (.inr ho) (fun b q hb z=>(sb.2 b hb).trans z) hd ?_;refine⟨by rw[An O.ne];exact ho,?_,O.ne,O'.obj,_,O'.ns,fun g=>?_,fun g hg=>?_⟩
 .have:=Mz f y fs;omega
 .show Gu ((Hn f y fs).lookup g) (if g=f then some u else mA g);rw[M3];by_cases q:g=f
  .rw[if_pos q,if_pos q];exact ry
  .rw[if_neg q,if_neg q];exact r g
 .by_cases q:g=f
  .rw[q];exact(Mr f y fs).1
  .refine(Mr f y fs).2 g (wi g fun z=>hg ?_);show(if g=f then some u else mA g)=none;rw[if_neg q];exact z
theorem Inv.made(I:Inv X aA Y H s):Inv X aA Y (upd (upd H s.heap.objs.size (.own (s.heap.objs.size+1))) (s.heap.objs.size+1) (.ins C s.heap.objs.size []))
  { s with heap:=(s.heap.push W.emptyDict).push (W.instObj C s.heap.objs.size) }:=by
 have e1:(s.heap.push W.emptyDict).get? s.heap.objs.size=some W.emptyDict:=ARN s.heap rfl;have e2:((s.heap.push W.emptyDict).push (W.instObj C s.heap.objs.size)).get? (s.heap.objs.size+1)=some (W.instObj C s.heap.objs.size):=by
  have:=ARN (s.heap.push W.emptyDict) (o:=W.instObj C s.heap.objs.size) rfl
  rwa [AS6]at this
 have e3:(s.heap.push W.emptyDict).Ns s.heap.objs.size (fun _=>none):=⟨W.emptyDict,#[],_,e1,rfl,(fun e he=>absurd he (by simp)),fun _=>rfl⟩;have I1:=I.laid (a:=s.heap.objs.size) (o:=.own (s.heap.objs.size+1)) (h':=s.heap.push W.emptyDict) (t':=s.toks) (fun b u q=>ARA _ q) (ARH _) ⟨_,e1⟩;refine I1.laid (a:=s.heap.objs.size+1) (o:=.ins C s.heap.objs.size []) (t':=s.toks) (fun b u q=>ARA _ q) (ATp (AS6 _ _)) ?_;have ne:s.heap.objs.size≠s.heap.objs.size+1:=ARt (AUo _);refine⟨by rw[An ne,Ag],ARu _,ne,e2,fun _=>none,(Heap.Ns1.of_empty e3).at fun o q=>ARA _ q,fun _=>True.intro,fun y hy=>absurd rfl hy⟩
theorem Xd(hb:attributeBase e f env (eval e env)=eval e env)
  (h:wpAny (model prog w) A (eval e env) (fun o ze=>wpAny (model prog w) A (getAttr o f true) Q E ze) E s):wpAny (model prog w) A (eval (.Attribute e f pos) env) Q E s :=
 Attribute_any_ h (by rw[arm_eval_Attribute,hb])
end
def APr(K:W.Frag)(ta:TE)(f:Str):TE:=fun Y H Q=>ta Y H fun x H1=>∃a C dx fs v,x=.ref a/\H1 a=some (.ins C dx fs)/\Cls K C/\Ey K C f/\fs.lookup f=some v/\Q v H1
def AQw(K:W.Frag)(ta:TE)(f:Str):TE:=fun Y H Q=>ta Y H fun x H1=>∃a C dx fs v u,x=.ref a/\H1 a=some (.ins C dx fs)/\Cls K C/\Con K C f v u/\fs.lookup f=none/\Q v H1
def AP0(K:W.Frag)(ta tv:TE)(f:Str):TS:=fun D Y H=>tv Y H fun y H1=>ta Y H1 fun x H2=>∃a C dx fs,x=.ref a/\H2 a=some (.ins C dx fs)/\Cls K C/\Ey K C f/\fs.length<1000 /\
 D.nx Y (upd H2 a (.ins C dx (Hn f y fs)))
def AQm(X:Cx)(op:Operator)(rd:V->V->Hp->VK->Prop):Prop :=
 ∀(aA:List (Addr×Obj)) (s:Shared) (Y:St) (H:Hp) (x y:V) (u v:Value) (Q:VK),Inv X aA Y H s->Bh x u->Bh y v->rd x y H Q->wpAny (model X.prog X.w) X.A (inplaceOp op u v) (EP X aA Y Q) X.xe s
def AOd(K:W.Frag)(ta tv:TE)(rd:V->V->Hp->VK->Prop)(f:Str):TS:=fun D Y H=>ta Y H fun x H1=>∃a C dx fs v,x=.ref a/\H1 a=some (.ins C dx fs)/\Cls K C/\Ey K C f/\fs.lookup f=some v /\
 tv Y H1 fun y H2=>rd v y H2 fun z H3=>∃oY fs',H3 a=some (.ins C oY fs')/\fs'.length<1000/\D.nx Y (upd H3 a (.ins C oY (Hn f z fs')))
section
variable {X:Cx}{o e value:Expr}{f:Str}{pos pos' tpos:Pos}{ta tv:TE}
theorem Jp(he:PE X e ta)(hb:attributeBase e f X.env (eval e X.env)=eval e X.env):PE X (.Attribute e f pos) (APr X.K ta f):=by
 walk_at "i";refine Xd hb (thn (he aA s Y H _ I h) fun u s1 ⟨x,H1,I1,rx,a,C,dx,fs,v,ex,ea,c,n,l,q⟩=>?_);walk_at "q";exact Wg I1 ea c n l fun u' s2 I2 ru=>⟨v,H1,I2,ru,q⟩
theorem WM(ha:PE X o ta)(hv:PE X value tv)(hs:swapsWith value (some (.Attribute o f pos')) pos.line X.env=pure false):PS X (.Assign [.Attribute o f pos'] value pos) (AP0 X.K ta tv f):=by
 walk_at "S";refine plainObj_wpAny_Assign_Attribute (thn (hv aA s Y H _ I h) fun u s1 ⟨y,H1,I1,ry,q⟩=>thn (ha aA s1 Y H1 _ I1 q) fun ov s2 ⟨x,H2,I2,rx,a,C,dx,fs,ex,ea,c,n,l,q2⟩=>?_) hs;subst ex;obtain rfl:ov=Value.ref a:=rx;exact XN I2 ea c n l ry fun s3 I3=>⟨Y,_,I3,q2⟩
def AQs:V->V->Hp->VK->Prop:=fun x y H Q=>∃i j,x=.int i/\y=.int j/\Q (.int (i+j)) H
def AQx:V->V->Hp->VK->Prop:=fun x y H Q=>∃i j,x=.int i/\y=.int j/\Q (.int (i-j)) H
end
section
variable {X:Cx}{aA:List (Addr×Obj)}{Y:St}{H:Hp}{s:Shared}{A:Around}{E:Value->Shared->Prop}{Q:Value->Shared->Prop}{c:Value}{b:Bool}
inductive Em(K:W.Frag)(H:Hp):V->Value->Prop where
 | non:Em K H .non (.type "NoneType")
 | bl (x:Bool):Em K H (.bl x) (.type "bool")
 | int (i:Int):Em K H (.int i) (.type "int")
 | str (x:Str):Em K H (.str x) (.type "str")
 | flt (x:UInt64):Em K H (.flt x) (.type "float")
 | lst {a:Addr} {xs:List V} (e:H a=some (.lst xs)):Em K H (.ref a) (.type "list")
 | frz {a:Addr} {o:Obj} {xs:List V} (e:H a=some (.frz o (.lst xs))):Em K H (.ref a) (.type "list")
 | tup {a:Addr} {xs:List V} (e:H a=some (.tup xs)):Em K H (.ref a) (.type "tuple")
 | dK {a:Addr} {aG:List (Key×V)} (e:H a=some (.dK aG)):Em K H (.ref a) (.type "dict")
 | dT {a:Addr} {aG:List (List Key×V)} (e:H a=some (.dT aG)):Em K H (.ref a) (.type "dict")
 | ins {a C dx:Addr} {fs:List (Str×V)} (e:H a=some (.ins C dx fs)) (cl:Cls K C) (ha:W.findIn K (.ref C) "__class__"=some (some (.builtin "object.__class__")))
   (hn:W.specialIn K (.builtin "object.__class__") "__get__"=some (some (.builtin "getset_descriptor.__get__"))) (htk:W.takesIn K (.builtin "object.__class__")=some true)
   (hm:W.mroIn K C (.type "object")=some true):Em K H (.ref a) (.ref C)
theorem Yu(I:Inv X aA Y H s)(rx:Bh x u)(ty:Em X.K H x t)(e:W.kitOne X.K t c=some b)(h:∀tk,Q (.bool b) { s with toks:=tk }) :
  wpAny (model X.prog X.w) A (call (.builtin "isinstance") [u,c]) Q E s:=by
 cases ty with
 | non=>cases (show u=Value.none from rx);exact AR6 W.kitx_none I.kIn True.intro e (fun z=>nomatch z) h
 | bl y=>cases (show u=Value.bool y from rx);exact AR6 W.kitx_bool I.kIn True.intro e (fun z=>nomatch z) h
 | int i=>obtain⟨t,q⟩:=(show ∃t,u=Value.int i t from rx);cases q;exact AR6 W.kitx_int I.kIn True.intro e (fun z=>nomatch z) h
 | str y=>obtain⟨t,q⟩:=(show ∃t,u=Value.str y t from rx);cases q;exact AR6 W.kitx_str I.kIn True.intro e (fun z=>nomatch z) h
 | flt y=>obtain⟨t,q⟩:=(show ∃t,u=Value.float y t from rx);cases q;exact AR6 W.kitx_float I.kIn True.intro e (fun z=>nomatch z) h
 | @lst a xs ea =>
  walk_at "0";obtain⟨_,_,n,_,h1⟩:=(show Bp X.prog X.w H s.heap a (.lst xs) from I.hok a _ ea);exact AR6 AVT I.kIn ⟨_,h1,rfl⟩ e (fun z=>nomatch z) h
 | @frz a ob xs ea =>
  walk_at "0";obtain⟨_,_,_,n,_,h1⟩:=(show Bp X.prog X.w H s.heap a (.frz ob (.lst xs)) from I.hok a _ ea);exact AR6 AVT I.kIn ⟨_,h1,rfl⟩ e (fun z=>nomatch z) h
 | @tup a xs ea =>
  walk_at "0";obtain⟨_,_,_,p⟩:=(show Bp X.prog X.w H s.heap a (.tup xs) from I.hok a _ ea);obtain⟨o,h1,h2,_⟩:=p;exact AR6 W.kitx_tuple I.kIn ⟨o,h1,h2⟩ e (fun z=>nomatch z) h
 | @dK a aG ea =>
  walk_at "0";obtain⟨_,_,vs,_,p⟩:=(show Bp X.prog X.w H s.heap a (.dK aG) from I.hok a _ ea);obtain⟨o,es,ep,h1,h2,_⟩:=p;exact AR6 AVU I.kIn ⟨o,h1,h2.1⟩ e (fun z=>nomatch z) h
 | @dT a aG ea =>
  walk_at "0";obtain⟨_,_,xs,_,o,es,ep,h1,h2,_⟩:=(show Bp X.prog X.w H s.heap a (.dT aG) from I.hok a _ ea);exact AR6 AVU I.kIn ⟨o,h1,h2.1⟩ e (fun z=>nomatch z) h
 | @ins a C dx fs ea cl ha hn htk hm =>
  walk_at "0";obtain⟨mA,O,_⟩:=Nh I.hok ea;obtain⟨od,J,_⟩:=O.look;exact AR6 (W.kitx_own (cl.get _) cl.hd ha hn htk hm) I.kIn J e (fun z=>nomatch z) h
end
structure CJ(k:Nat)(A:Around):Prop where
 hd:A.handled=none
 dp:A.depth+3*k+5<recursionLimit
 un:A.units+16*k+200<cLine
theorem CJ.mono(r:CJ k A)(h:j<=k):CJ j A:=⟨r.hd,by have:=r.dp;omega,by have:=r.un;omega⟩
theorem CJ.deeper(r:CJ (k+1) A)(env:Env):CJ k (A.deeper env) :=
 ⟨r.hd,by have:=r.dp;show A.depth+1+3*k+5<_;omega,by have:=r.un;show A.units+3+16*k+200<_;omega⟩
theorem XH{A:Around}:(A.under (.builtin "type.__call__" ⟨.ref C::us,kw⟩)).depth=A.depth+1:=by
 first | rfl | simp[Around.under,Code.weight,Code.isCreation,Code.isGuard,Code.isCaller,Code.frames,Code.isFrame,guardIds]
theorem W6{A:Around}:(A.under (.builtin "type.__call__" ⟨.ref C::us,kw⟩)).units=A.units+1:=by
 first | rfl | simp[Around.under,Code.cUnits,Code.frames,Code.isFrame]
theorem CJ.make(r:CJ (k+1) A)(C:Addr)(us:List Value)(kw:List (Str×Value)):CJ k (A.under (.builtin "type.__call__" ⟨.ref C::us,kw⟩)) :=
 ⟨r.hd,by have:=r.dp;rw[XH];omega,by have:=r.un;rw[W6];omega⟩
theorem CJ.depth(r:CJ k A):A.depth<recursionLimit:=by have:=r.dp;omega
theorem CJ.units(r:CJ k A):A.units+64<cLine:=by have:=r.un;omega
def NB:TA:=fun _ H Q=>Q [] H
def Ha(ta:TE)(tr:TA):TA:=fun Y H Q=>ta Y H fun x H1=>tr Y H1 fun xs H2=>Q (x::xs) H2
section
variable {X:Cx}{e:Expr}{es:List Expr}{te:TE}{t:TA}{pos:Pos}
theorem Ab:PA X [] NB:=fun _ _ _ _ H Q I h=>Calls.spliced_nil ⟨[],H,I,.nil,h⟩
theorem Aa(ha:PE X e te)(hr:PA X es t)(hs:starEach (e::es) X.env=(false,eval e X.env)::starEach es X.env:=by rfl):PA X (e::es) (Ha te t):=by
 intro pos aA s Y H Q I h;rw[hs];show wpAny _ _ (spliced ((false,eval e X.env)::backTo pos (starEach es X.env))) _ _ s;refine Calls.spliced_cons (thn (ha aA s Y H _ I h) fun u s1 ⟨x,H1,I1,r1,q1⟩=>?_);exact thn (hr pos aA s1 Y H1 _ I1 q1) fun us s2 ⟨xs,H2,I2,r2,q2⟩=>⟨x::xs,H2,I2,.cons r1 r2,q2⟩
def AGV(t:TA):TE:=fun Y H Q=>t Y H fun xs H1=>xs.length<=sizeLine/\∀p,H1 p=none->Q (.ref p) (upd H1 p (.tup xs))
def WR(t:TA):TE:=fun Y H Q=>t Y H fun xs H1=>xs.length<=sizeLine/\∀p,H1 p=none->Q (.ref p) (upd H1 p (.lst xs))
theorem CZ{x1}(h:PA X es t):PE X (.Tuple es x1 pos) (AGV t):=by
 intro aA s Y H Q I hq;refine wpAny_Tuple_spliced (thn (h pos aA s Y H _ I hq) fun us s1 ⟨xs,H1,I1,r,z,q⟩=>⟨by rw[<-r.length];exact z,?_⟩);have hf:H1 s1.heap.objs.size=none:=I1.hok.fresh (ARH _);refine⟨.ref s1.heap.objs.size,upd H1 s1.heap.objs.size (.tup xs),I1.laid (t':=s1.toks) (fun b u e=>ARA _ e) (ARH _) ?_,rfl,q _ hf⟩;exact⟨z,us,r,⟨_,ARN _ rfl,rfl,_,rfl⟩⟩
theorem Ff(h:PA X es t):PE X (.List es pos) (WR t):=by
 intro aA s Y H Q I hq;refine wpAny_List_spliced (thn (h pos aA s Y H _ I hq) fun us s1 ⟨xs,H1,I1,r,z,q⟩=>⟨by rw[<-r.length];exact z,?_⟩);have hf:H1 s1.heap.objs.size=none:=I1.hok.fresh (ARH _);refine⟨.ref s1.heap.objs.size,upd H1 s1.heap.objs.size (.lst xs),I1.laid (t':=s1.toks) (fun b u e=>ARA _ e) (ARH _) ?_,rfl,q _ hf⟩;exact⟨z,us,0,r,ARN _ rfl⟩
end
abbrev Sp:=List V->Hp->VK->XK->Prop
abbrev CXT:=List Env->Hp->Shared->XK->Value->Shared->Prop
structure V9(P:Program)(w:World)(K:W.Frag)(mg:Str->Option Value)(base:Heap)(A:Around)(outer:List Env)(s:Shared)(H:Hp):Prop where
 frames:A.frames=some outer
 mod:Mod K mg base
 bs:∀b o,base.get? b=some o->s.heap.get? b=some o/\H b=none
 bsz:base.objs.size<=s.heap.objs.size
 funs:s.heap.FunFrames base outer
 frf:∀b∈frs outer,H b=none
 hok:HOk P w H s.heap
 bare:AllBare s.gens
def CE(outer:List Env)(P:Program)(w:World)(H:Hp)(s:Shared)(Q:VK)(u:Value)(s':Shared):Prop :=
 ∃v H',s'.os=s.os/\AllBare s'.gens/\Un (frs outer) [] H H' s.heap s'.heap/\HOk P w H' s'.heap/\Bh v u/\Q v H'
def CR(CX:CXT)(outer:List Env)(P:Program)(w:World)(H:Hp)(s:Shared)(Q:VK)(E:XK)(r:Result)(s':Shared):Prop :=
 match r with
 | .ok (.ret u)=>CE outer P w H s Q u s'
 | .ok _=>False
 | .error e=>CX outer H s E e s'
structure BR(P:Program)(w:World)(K:W.Frag)(mg:Str->Option Value)(base:Heap)(CX:CXT)(k:Nat)(f:Addr)(fd:FuncData)(ps:List Str)(sp:Sp):Prop where
 len:∀vs H Q E,sp vs H Q E->vs.length=ps.length
 run:∀(A:Around) (outer:List Env) (s:Shared) (H:Hp) (args:Args) (us:List Value) (vs:List V) (Q:VK) (E:XK),CJ k A->V9 P w K mg base A outer s H->BindsTo s fd args (ps.zip us)->Ba vs us->sp vs H Q E ->
  codeAny (model P w) A (.call (.ref f) args) (CR CX outer P w H s Q E) s
theorem BR.imp{K:W.Frag}(F:BR P w K mg base CX k f fd ps sp)
  (h:∀vs H Q E,ja vs H Q E->sp vs H Q E):BR P w K mg base CX k f fd ps ja :=
 ⟨fun vs H Q E q=>F.len vs H Q E (h _ _ _ _ q),fun A outer s H args us vs Q E hr he hb hv hs=>F.run A outer s H args us vs Q E hr he hb hv (h _ _ _ _ hs)⟩
theorem V9.make{K:W.Frag}(e:V9 P w K mg base A outer s H)(C:Addr)(us:List Value)(kw:List (Str×Value)) :
  V9 P w K mg base (A.under (.builtin "type.__call__" ⟨.ref C::us,kw⟩)) outer s H:=⟨by first | exact e.frames | (simpa[Around.under,Code.envs,Code.isFrame,pushEnvs] using e.frames),e.mod,e.bs,e.bsz,e.funs,e.frf,e.hok,e.bare⟩
section
variable {X:Cx}{aA:List (Addr×Obj)}{Y:St}{H:Hp}{s s':Shared}
theorem Inv.env0(I:Inv X aA Y H s):V9 X.prog X.w X.K X.mg X.base X.A X.stack s H :=
 ⟨I.ok.frames,I.ok.mod,I.bs,ASF I.ok.bsz I.sz,I.stack,I.stkFree,I.hok,I.bare⟩
theorem Inv.after(I:Inv X aA Y H s)(h:CE X.stack X.prog X.w H s Q u s'):EP X aA Y Q u s':=by
 obtain⟨v,H',os,bare,un,hok,r,q⟩:=h;obtain⟨hh,g,d,t,os'⟩:=s';obtain rfl:os'=s.os:=os;exact⟨v,H',I.call (h':=hh) (g':=g) (d':=d) (t':=t) (ch:=[]) un hok bare (fun b z=>absurd z (by simp)),r,q⟩
end
def Vh(sp:Sp)(bX:List V)(E:XK)(t:TA):TE:=fun Y H Q=>t Y H fun vs H1=>sp (vs++bX) H1 Q E
def YB(C:Addr)(m:Str)(sp:Sp)(bX:List V)(E:XK)(ta:TE)(t:TA):TE:=fun Y H Q=>ta Y H fun x H1=>∃a dx fs,x=.ref a/\H1 a=some (.ins C dx fs)/\fs.lookup m=none /\
 t Y H1 fun vs H2=>sp (x::(vs++bX)) H2 Q E
def YF(C:Addr)(sp:Sp)(bX:List V)(E:XK)(t:TA):TE:=fun Y H Q=>t Y H fun vs H1=>∀x dx,H1 x=none->H1 dx=none->dx≠x ->
 sp (.ref x::(vs++bX)) (upd (upd H1 dx (.own x)) x (.ins C dx [])) (fun v H2=>v=.non/\Q (.ref x) H2) E
def DK(K:W.Frag)(fd:FuncData)(ps:List Str)(ds:List Value):Prop :=
 ∀(s:Shared) (us:List Value),K.In s.heap->(us++ds).length=ps.length->BindsTo s fd ⟨us,[]⟩ (ps.zip (us++ds))
theorem DK.all{K:W.Frag}(h:∀us:List Value,us.length=ps.length->bindArgs fd ⟨us,[]⟩=pure (ps.zip us)):DK K fd ps []:=fun s us _ hl=>by
 rw[ARx]at hl ⊢;exact .of_eq (h us hl)
def Dc(CX:CXT)(X:Cx)(E:XK):Prop:=∀(aA:List (Addr×Obj)) (Y:St) (H:Hp) (s:Shared) (e:Value) (s':Shared),Inv X aA Y H s->CX X.stack H s E e s'->X.xe e s'
section
variable {X:Cx}{CX:CXT}{k:Nat}{f C:Addr}{fd:FuncData}{ps:List Str}{sp:Sp}{bX:List V}{ds:List Value}{E:XK}{x m:Str}{p pos aF:Pos}{e o:Expr}{es:List Expr}{ta:TE}{t:TA}
theorem WN{Y:St}(F:BR X.prog X.w X.K X.mg X.base CX k f fd ps sp)(hr:CJ k X.A)(hb:DK X.K fd ps ds)(hd:Ba bX ds)(hx:Dc CX X E)
  (I:Inv X aA Y H s) (r:Ba vs us) (h:sp (vs++bX) H Q E):wpAny (model X.prog X.w) X.A (call (.ref f) us) (EP X aA Y Q) X.xe s:=by
 have r2:Ba (vs++bX) (us++ds):=r.append hd;have hl:(us++ds).length=ps.length:=by rw[<-r2.length];exact F.len _ _ _ _ h
 refine AT9 (codeAny_mono (F.run X.A X.stack s H ⟨us,[]⟩ (us++ds) (vs++bX) Q E hr I.env0 (hb s us I.kIn hl) r2 h) fun r s' hq=>?_);cases r with
 | error e=>exact hx aA Y H s e s' I hq
 | ok fl =>
  cases fl with
  | ret u=>exact I.after hq
  | next=>exact False.elim hq
  | brk=>exact False.elim hq
  | cont=>exact False.elim hq
theorem Nq(F:BR X.prog X.w X.K X.mg X.base CX k f fd ps sp)(hr:CJ k X.A)(hg:Gl X x)(hm:X.mg x=some (.ref f))(hk:W.keepIn X.K (.ref f)=true)(hb:DK X.K fd ps ds)(hd:Ba bX ds)(hx:Dc CX X E)
  (ha:PA X (e::es) t) (hdb:(x==("__debug__":Str))=false:=by decide) (he:starEach (e::es) X.env=(false,eval e X.env)::starEach es X.env:=by rfl) (hpl:(backTo pos (starEach es X.env)).any (·.1)=false:=by rfl) :
  PE X (.Call (.Name x p) (e::es) [] pos) (Vh sp bX E t):=by
 walk_at "i";refine ASp (En I hg hm ?_ hdb);refine ASf (h₀:=X.base) I.ok.mod.kin hk (thn (ha pos aA s Y H _ I h) fun us s1 ⟨vs,H1,I1,r,q⟩=>⟨I1.kIn,?_⟩) he hpl;exact WN F hr hb hd hx I1 r q
theorem ADQ{pl:Sem Bool}(he:PE X o ta)(c:Cls X.K C)(hm:ABJ X.K C m f)(F:BR X.prog X.w X.K X.mg X.base CX k f fd ps sp)(hr:CJ k X.A)(hb:DK X.K fd ps ds)(hd:Ba bX ds)(hx:Dc CX X E)(ha:PA X (e::es) t)
  (hst:starEach (e::es) X.env=(false,eval e X.env)::starEach es X.env:=by rfl) (hpl:(backTo pos (starEach es X.env)).any (·.1)=false:=by rfl)
  (ht:eval (.Call (.Attribute o m aF) (e::es) [] pos) X.env=(do
   let ov <-eval o X.env
   standAt aF.atName
   let (f,first) <-holding [ov] (getMethod ov m pl)
   callWith pos f first (backTo pos (starEach (e::es) X.env)) (backToKw pos (keywordEach [] X.env))):=by rfl) :
  PE X (.Call (.Attribute o m aF) (e::es) [] pos) (YB C m sp bX E ta t):=by
 walk_at "i";walk_at "ai";walk_at "q";refine Ju I1 ea c hm l ?_;refine ASf (first:=[.ref a]) (h₀:=X.base) I.ok.mod.kin hm.kp (thn (ha pos aA s1 Y H1 _ I1 q) fun us s2 ⟨vs,H2,I2,r,q2⟩=>⟨I2.kIn,?_⟩) hst hpl;exact WN (us:=.ref a::us) (vs:=.ref a::vs) F hr hb hd hx I2 (.cons rfl r) q2
theorem ABP(he:PE X o ta)(c:Cls X.K C)(hm:ABJ X.K C m f)(F:BR X.prog X.w X.K X.mg X.base CX k f fd ps sp)(hr:CJ k X.A)(hb:DK X.K fd ps ds)(hd:Ba bX ds)(hx:Dc CX X E)
  (ht:eval (.Call (.Attribute o m aF) [] [] pos) X.env=(do
   let ov <-eval o X.env
   standAt aF.atName
   let (f,first) <-holding [ov] (getMethod ov m pl)
   callWith pos f first (backTo pos (starEach [] X.env)) (backToKw pos (keywordEach [] X.env))):=by rfl) :
  PE X (.Call (.Attribute o m aF) [] [] pos) (YB C m sp bX E ta NB):=by
 walk_at "i";walk_at "ai";walk_at "q";refine Ju I1 ea c hm l ?_;exact AU9 (first:=[.ref a]) I1.kIn hm.kp (WN (us:=[.ref a]) (vs:=[.ref a]) F hr hb hd hx I1 (.cons rfl .nil) q)
structure Mk(K:W.Frag)(C f:Addr):Prop where
 makes:W.makesIn K C=true
 init:W.findIn K (.ref C) "__init__"=some (some (.ref f))
 fn:W.isFn K (.ref f)=true
 kp:W.keepIn K (.ref C)=true
theorem Uv{Y:St}(M:Mk X.K C f)(F:BR X.prog X.w X.K X.mg X.base CX k f fd ps sp)(hr:CJ (k+1) X.A)(hb:DK X.K fd ps ds)(hd:Ba bX ds)
  (hx:Dc CX X E) (I:Inv X aA Y H s) (r:Ba vs us)
  (h:∀x dx,H x=none->H dx=none->dx≠x->sp (.ref x::(vs++bX)) (upd (upd H dx (.own x)) x (.ins C dx [])) (fun v H2=>v=.non/\Q (.ref x) H2) E) :
  wpAny (model X.prog X.w) X.A (call (.ref C) us) (EP X aA Y Q) X.xe s:=by
 have hq:=h (s.heap.objs.size+1) s.heap.objs.size (I.hok.fresh (AUj _)) (I.hok.fresh (ARH _)) (ARt (AUo _));have I2:=Inv.made (C:=C) I;have r2:Ba (V.ref (s.heap.objs.size+1)::(vs++bX)) (Value.ref (s.heap.objs.size+1)::(us++ds)):=.cons rfl (r.append hd);have hl:(Value.ref (s.heap.objs.size+1)::us++ds).length=ps.length:=by
  have e:=r2.length;rw[F.len _ _ _ _ hq]at e;exact e.symm
 refine AT9 (Vu (f:=f) I.kIn M.makes M.init (beq_iff_eq.mp M.fn) (codeAny_mono (F.run _ X.stack _ _ ⟨Value.ref (s.heap.objs.size+1)::us,[]⟩ (Value.ref (s.heap.objs.size+1)::(us++ds)) _ _ E (hr.make C us [])
  (I2.env0.make C us []) (hb _ (Value.ref (s.heap.objs.size+1)::us) I2.kIn hl) r2 hq) fun r s' hq'=>?_))
 cases r with
 | error e=>exact hx aA Y _ _ e s' I2 hq'
 | ok fl =>
  cases fl with
  | ret u =>
   obtain⟨v,H',I3,rv,ev,q3⟩:=I2.after hq';subst ev;exact⟨rv,⟨V.ref (s.heap.objs.size+1),H',I3,rfl,q3⟩⟩
  | next=>exact False.elim hq'
  | brk=>exact False.elim hq'
  | cont=>exact False.elim hq'
theorem ACg(M:Mk X.K C f)(F:BR X.prog X.w X.K X.mg X.base CX k f fd ps sp)(hr:CJ (k+1) X.A)(hg:Gl X x)(hm:X.mg x=some (.ref C))(hb:DK X.K fd ps ds)(hd:Ba bX ds)(hx:Dc CX X E)
  (ha:PA X (e::es) t) (hdb:(x==("__debug__":Str))=false:=by decide) (he:starEach (e::es) X.env=(false,eval e X.env)::starEach es X.env:=by rfl) (hpl:(backTo pos (starEach es X.env)).any (·.1)=false:=by rfl) :
  PE X (.Call (.Name x p) (e::es) [] pos) (YF C sp bX E t):=by
 walk_at "i";refine ASp (En I hg hm ?_ hdb);refine ASf (h₀:=X.base) I.ok.mod.kin M.kp (thn (ha pos aA s Y H _ I h) fun us s1 ⟨vs,H1,I1,r,q⟩=>⟨I1.kIn,?_⟩) he hpl;exact Uv M F hr hb hd hx I1 r q
theorem ABw(M:Mk X.K C f)(F:BR X.prog X.w X.K X.mg X.base CX k f fd ps sp)(hr:CJ (k+1) X.A)(hg:Gl X x)(hm:X.mg x=some (.ref C))(hb:DK X.K fd ps ds)(hd:Ba bX ds)(hx:Dc CX X E)
  (hdb:(x==("__debug__":Str))=false:=by decide):PE X (.Call (.Name x p) [] [] pos) (YF C sp bX E NB):=by
 walk_at "i";refine ASp (En I hg hm ?_ hdb);exact AU9 I.kIn M.kp (Uv (us:=[]) M F hr hb hd hx I .nil h)
end
def PK(X:Cx)(kws:List Keyword)(t:TA):Prop :=
 ∀(pos:Pos) (aA:List (Addr×Obj)) (s:Shared) (Y:St) (H:Hp) (Q:List V->Hp->Prop),Inv X aA Y H s->t Y H Q->wpAny (model X.prog X.w) X.A (evalAll ((backToKw pos (keywordEach kws X.env)).map (·.2))) (AP X aA Y Q) X.xe s
section
variable {X:Cx}{CX:CXT}{k:Nat}{f C:Addr}{fd:FuncData}{ps ks:List Str}{sp:Sp}{E:XK}{x m:Str}{p pos aF rB:Pos}{e o:Expr}{es:List Expr}{kws:List Keyword}{te ta:TE}{t tk:TA}{nm:Option Str}
structure AHk(K:W.Frag)(fd:FuncData)(ps ks:List Str)(g:List Value->List Value->List Value)(gV:List V->List V->List V):Prop where
 to:∀(s:Shared) (us ws:List Value),K.In s.heap->(g us ws).length=ps.length->BindsTo s fd ⟨us,ks.zip ws⟩ (ps.zip (g us ws))
 rel:∀{vs:List V} {us:List Value} {zs:List V} {ws:List Value},Ba vs us->Ba zs ws->Ba (gV vs zs) (g us ws)
def AP4(sp:Sp)(gV:List V->List V->List V)(E:XK)(t tk:TA):TE:=fun Y H Q=>t Y H fun vs H1=>tk Y H1 fun zs H2=>sp (gV vs zs) H2 Q E
variable {g:List Value->List Value->List Value}{gV:List V->List V->List V}
end
structure Ao(N P:List Str)(sc:Scope):Prop where
 kind:sc.kind=.function
 co:sc.isCoroutine=false
 gen:sc.isGenerator=false
 nd:N.Nodup
 pre:N.take P.length=P
 par:∀x∈P,sc.names.lookup x=some .local\/sc.names.lookup x=some .cell
 nofree:∀y∈sc.names,y.2≠.free
theorem Qy{kindOf:Str->Option NameKind}{x:Str}:∀{binds:List (Str×Value)} {m:Str->Option Value},(∀v,(x,v)∉binds)->bindL kindOf binds m x=m x
 | [],_,_=>rfl
 | (n,v)::r,m,h=>by
  unfold bindL;rw[Qy fun w hw=>h w (ARb _ hw)]
  split
  .have:x≠n:=by rintro rfl;exact h v ASG
   simp[this]
  .rfl
theorem Qq{kindOf:Str->Option NameKind}{x:Str}:∀{binds:List (Str×Value)} {m:Str->Option Value},(∀v,(x,v)∉binds)->bindC kindOf binds m x=m x
 | [],_,_=>rfl
 | (n,v)::r,m,h=>by
  unfold bindC;rw[Qq fun w hw=>h w (ARb _ hw)]
  split
  .rfl
  .have:x≠n:=by rintro rfl;exact h v ASG
   simp[this]
theorem RB{kindOf:Str->Option NameKind}{x:Str}{v:Value}:∀{P:List Str} {vs:List Value} {i:Nat} {m:Str->Option Value},P.Nodup->P[i]?=some x->vs[i]?=some v->kindOf x=some .local ->
  bindL kindOf (P.zip vs) m x=some v
 | [],_,_,_,_,h,_,_=>by simp at h
 | _::_,[],_,_,_,_,h,_=>by simp at h
 | p::P,w::vs,0,m,nd,h1,h2,hk=>by
  simp at h1 h2;subst h1;subst h2;show bindL kindOf ((p,w)::P.zip vs) m p=_;unfold bindL;rw[Qy fun v hv=>(AUF.mp nd).1 (AUy hv).1,if_pos hk];simp
 | p::P,w::vs,i+1,m,nd,h1,h2,hk=>by
  show bindL kindOf ((p,w)::P.zip vs) m x=_;unfold bindL;exact RB (i:=i) (AUF.mp nd).2 (by simpa using h1) (by simpa using h2) hk
theorem Qm{kindOf:Str->Option NameKind}{x:Str}{v:Value}:∀{P:List Str} {vs:List Value} {i:Nat} {m:Str->Option Value},P.Nodup->P[i]?=some x->vs[i]?=some v->kindOf x≠some .local ->
  bindC kindOf (P.zip vs) m x=some v
 | [],_,_,_,_,h,_,_=>by simp at h
 | _::_,[],_,_,_,_,h,_=>by simp at h
 | p::P,w::vs,0,m,nd,h1,h2,hk=>by
  simp at h1 h2;subst h1;subst h2;show bindC kindOf ((p,w)::P.zip vs) m p=_;unfold bindC;rw[Qq fun v hv=>(AUF.mp nd).1 (AUy hv).1,if_neg hk];simp
 | p::P,w::vs,i+1,m,nd,h1,h2,hk=>by
  show bindC kindOf ((p,w)::P.zip vs) m x=_;unfold bindC;exact Qm (i:=i) (AUF.mp nd).2 (by simpa using h1) (by simpa using h2) hk
def Hc(N:List Str)(vs:List V):St:=vs.map some++List.replicate (N.length-vs.length) none
def BL(CX:CXT)(P:Program)(w:World)(K:W.Frag)(mg:Str->Option Value)(base:Heap)(N:List Str)(qual:Str)(scope:Scope)(f:Addr)(cd:Value)(A:Around)(outer:List Env)(s:Shared)(H:Hp)(E:XK):Cx where
 prog:=P
 w:=w
 K:=K
 mg:=mg
 base:=base
 A:=A.deeper (envOfC qual scope s.heap.objs.size f cd)
 N:=N
 zb:=s
 zc:=H
 env:=envOfC qual scope s.heap.objs.size f cd
 outer:=outer
 stack:=envOfC qual scope s.heap.objs.size f cd::outer
 ex:=[]
 calm:=true
 fn:=fun _=>true
 pn:=[]
 xe:=fun e s'=>wpAny (model P w) (A.deeper (envOfC qual scope s.heap.objs.size f cd)) (leaving (envOfC qual scope s.heap.objs.size f cd) e) (fun _ s''=>CX outer H s E e s'') (fun e' s''=>CX outer H s E e' s'') s'
theorem VN{sc:Scope}(h:sc.names.lookup x=some .cell):∃c,(cellsFrom n sc.names []).lookup x=some c:=by
 have q:=AUu sc.names n [] (.inl h);exact AUd.mp q
theorem Zt{CX:CXT}{P:Program}{w:World}{K:W.Frag}{mg:Str->Option Value}{base:Heap}{N ps:List Str}{qual:Str}{scope:Scope}{f:Addr}{cd:Value}{A:Around}{outer:List Env}{s s1:Shared}{H:Hp}{E:XK}{us:List Value}{vs:List V}
  (S:Ao N ps scope) (hd:A.handled=none) (e0:V9 P w K mg base A outer s H) (hl:vs.length=ps.length) (r:Ba vs us)
  (x:InCallC s s.heap.objs.size (bindL (envOfC qual scope s.heap.objs.size f cd).kindOf (ps.zip us) fun _=>none) (cellsFrom (s.heap.objs.size+1) scope.names []) (bindC (envOfC qual scope s.heap.objs.size f cd).kindOf (ps.zip us) fun _=>none) s1) :
  Inv (BL CX P w K mg base N qual scope f cd A outer s H E) [] (Hc N vs) H s1:=by
 have hpl:ps.length<=N.length:=by have:=congrArg List.length S.pre;rw[ARc]at this;omega
 obtain⟨h1,tk,rfl,hk⟩:=x.done;have jb:∀b:Addr,b∉(BL CX P w K mg base N qual scope f cd A outer s H E).ex:=fun b z=>absurd (show b∈([]:List Addr) from z) (by simp);refine⟨⟨e0.mod,S.kind,rfl,rfl,ARH _,fun y z c h1 h2=>?_,fun y hy=>?_,fun y c _ h=>?_,fun _=>hd,Around.frames_deeper e0.frames,.inr ⟨rfl,rfl⟩,fun b z=>absurd z (jb b),e0.bs,e0.bsz,fun b _ _=>jb b,fun b z=>absurd z (jb b),e0.funs,e0.frf⟩,
  rfl,e0.bare,Un.kept hk,⟨_,x.toInCall.ns,fun i y v h1 h2 h3=>?_⟩,fun y c h=>⟨_,x.cell y c h⟩,e0.hok.fresh (ARH _),fun y c h=>?_,fun p hp=>absurd (show p∈([]:List (Addr×Obj)) from hp) (by simp),e0.hok.kept hk,?_⟩
 .exact name_of_addr x.apart (AR7 h1) (AR7 h2)
 .have hy:scope.names.lookup y=some .cell\/scope.names.lookup y=some .free:=hy;rcases hy with hy|hy
  .exact VN hy
  .exact absurd rfl (S.nofree _ (AR7 hy))
 .exact AVb (x.above y c (AR7 h))
 .have hi:i<vs.length:=by
   unfold Hc at h2;by_cases hi:i<vs.length
   .exact hi
   .rw[ARh (by simpa using hi)]at h2;rw[ATZ]at h2
    split at h2<;>cases h2
  have ha:vs[i]?=some v:=by
   unfold Hc at h2;rw[AR0 (by simpa using hi),ARQ]at h2;cases e:vs[i]? with
   | none=>rw[e]at h2;cases h2
   | some a=>rw[e]at h2;cases h2;rfl
  obtain⟨u,hu,rv⟩:=r.get ha;have hp:ps[i]?=some y:=by
   rw[<-S.pre,List.getElem?_take_of_lt (by omega)];exact h1
  have oZ:ps.Nodup:=by rw[<-S.pre];exact S.nd.sublist (List.take_sublist _ _)
  refine⟨u,rv,?_⟩;rcases S.par y (ARf hp) with k|k
  .exact .inl ⟨k,RB oZ hp hu k⟩
  .obtain⟨c,e⟩:=VN (n:=s.heap.objs.size+1) k;refine .inr ⟨.inl k,c,e,?_⟩;have q:=x.cell y c e;rw[Qm oZ hp hu (by show scope.names.lookup y≠_;rw[k];decide)]at q;exact q
 .exact e0.hok.fresh (AVb (x.above y c (AR7 h)))
 .unfold Hc;show _=N.length;rw[ARG,Io,ARy];omega
theorem Xi{CX:CXT}{P:Program}{w:World}{K:W.Frag}{mg:Str->Option Value}{base:Heap}{k:Nat}{f:Addr}{name qual:Str}{params:Arguments}{body:List Stmt}{scope:Scope}{dV kV doc pm cdv ct oc:Value}{an od:Option Addr}
  {osl:Array (Option Value)} {N ps:List Str} {sp:Sp} (lk:K.lookup f=some ⟨oc,od,.func (W.fnOf name qual params body scope dV kV doc pm an cdv ct),osl⟩) (hcd:W.codeIn K cdv qual=true) (S:Ao N ps scope)
  (len:∀vs H Q E,sp vs H Q E->vs.length=ps.length)
  (hbody:∀(A:Around) (outer:List Env) (s:Shared) (H:Hp) (vs:List V) (Q:VK) (E:XK),CJ k (A.deeper (envOfC qual scope s.heap.objs.size f cdv))->sp vs H Q E ->
   ∃t,PSs (BL CX P w K mg base N qual scope f cdv A outer s H E) body t/\t { nx:=fun _ H'=>Q .non H',rt:=Q } (Hc N vs) H) :
  BR P w K mg base CX (k+1) f (W.fnOf name qual params body scope dV kV doc pm an cdv ct) ps sp:=by
 refine⟨len,fun A outer s H args us vs Q E hr e0 hb r hsp=>?_⟩;have hl:=len _ _ _ _ hsp;have KX:K.In s.heap:=e0.mod.kin.keeps fun b o e=>(e0.bs b o e).1;have lim:s.heap.NoLimit:=e0.mod.nolimit.keeps fun b o e=>(e0.bs b o e).1;have hkind:∀y∈ps.zip us,scope.names.lookup y.1=some .local\/(scope.names.lookup y.1=some .cell/\((cellsFrom (s.heap.objs.size+1) scope.names []).lookup y.1).isSome=true):=fun⟨n,v⟩ hy=>by
  rcases S.par n (AUy hy).1 with q|q
  .exact .inl q
  .exact .inr ⟨q,AUu _ _ _ (.inl q)⟩
 refine codeAny_call_function hr.depth (KX _ _ lk) rfl S.co S.gen rfl (W.codeRec_of KX hcd) (hb _ _ _ _ ?_);refine wpAny_newFunctionEnv_cells S.kind hkind fun env he s1 x=>?_;subst he;refine⟨lim.keeps x.toInCall.keep,codeAny_func ?_⟩;obtain⟨t,ht,hq⟩:=hbody A outer s H vs Q E (hr.deeper _) hsp;have I:Inv (BL CX P w K mg base N qual scope f cdv A outer s H E) [] (Hc N vs) H s1:=Zt S hr.hd e0 hl r x;refine ARe (ht [] s1 (Hc N vs) H _ I hq) (fun fl s' hs=>?_) fun e s' hs=>hs;have fin:∀{zd:St} {H':Hp} {v:V} {u:Value},Inv (BL CX P w K mg base N qual scope f cdv A outer s H E) [] zd H' s'->Bh v u->Q v H'->CE outer P w H s Q u s' :=
  fun {zd H' v u} J rv q=>⟨v,H',J.os,J.bare,J.base,J.hok,rv,q⟩
 cases fl with
 | ret u =>
  obtain⟨v,zd,H',J,rv,q⟩:=hs;exact fin J rv q
 | next =>
  obtain⟨zd,H',J,q⟩:=hs;exact fin (v:=V.non) (u:=Value.none) J rfl q
 | brk =>
  obtain⟨_,_,_,q⟩:=hs;exact False.elim q
 | cont =>
  obtain⟨_,_,_,q⟩:=hs;exact False.elim q
section
variable {X:Cx}{x:Str}{p pos:Pos}{e:Expr}{es:List Expr}{t:TA}{id T:String}{r:List V->Hp->VK->Prop}
def tCB(r:List V->Hp->VK->Prop)(t:TA):TE:=fun Y H Q=>t Y H fun vs H1=>r vs H1 Q
theorem Ax(hc:HB X (.builtin id) r)(hg:Gl X x)(hm:X.mg x=none)(hv:bootBuiltins x=some (.builtin id))(ha:PA X (e::es) t)(hn:x≠"__name__":=by decide)(hdb:(x==("__debug__":Str))=false:=by decide)
  (he:starEach (e::es) X.env=(false,eval e X.env)::starEach es X.env:=by rfl) (hpl:(backTo pos (starEach es X.env)).any (·.1)=false:=by rfl):PE X (.Call (.Name x p) (e::es) [] pos) (tCB r t):=by
 walk_at "i";refine ASp (Jx I hg hm hv ?_ hn hdb);exact PyProof.Rows.callWith_builtin1 (thn (ha pos aA s Y H _ I h) fun us s1 ⟨vs,H1,I1,r1,q1⟩=>hc aA s1 Y H1 vs us Q I1 r1 q1) he hpl
theorem Cu(hc:HB X (.type T) r)(hg:Gl X x)(hm:X.mg x=none)(hv:bootBuiltins x=some (.type T))(ha:PA X (e::es) t)(hn:x≠"__name__":=by decide)(hdb:(x==("__debug__":Str))=false:=by decide)
  (he:starEach (e::es) X.env=(false,eval e X.env)::starEach es X.env:=by rfl) (hpl:(backTo pos (starEach es X.env)).any (·.1)=false:=by rfl):PE X (.Call (.Name x p) (e::es) [] pos) (tCB r t):=by
 walk_at "i";refine ASp (Jx I hg hm hv ?_ hn hdb);exact ASN (thn (ha pos aA s Y H _ I h) fun us s1 ⟨vs,H1,I1,r1,q1⟩=>hc aA s1 Y H1 vs us Q I1 r1 q1) he hpl
end
end L2
namespace HT
open PySem PyProof.Rows
def lexLt:List Int->List Int->Bool
 | [],[]=>false
 | [],_::_=>true
 | _::_,[]=>false
 | x::xs,y::ys=>if x=y then lexLt xs ys else decide (x<y)
section
open PySem.SeqAt
open PySem.AutoSeq1 (wpAny_loadPart')
open PySem.MeetsSeq PySem.MeetsSeq2 PySem.MeetsSeq3
end
section
variable {prog:Program}{w:World}{A:Around}{E:Value->Shared->Prop}{s:Shared}
def sIx(n d:Nat):Option Int->Nat
 | none=>d
 | some v=>if v<0 then(v+(n:Int)).toNat else min v.toNat n
theorem sIx_none(n d:Nat):sIx n d none=d:=rfl
theorem sIx_nat(n d k:Nat):sIx n d (some (k:Int))=min k n:=by
 show(if (k:Int)<0 then((k:Int)+(n:Int)).toNat else min (k:Int).toNat n)=min k n;rw[if_neg (by omega),ASj]
end
end HT
namespace L2
open PySem PySem.Spec PyProof.Rows
abbrev TO:=St->Hp->(Option Int->Hp->Prop)->Prop
def PO(X:Cx)(e:Option Expr)(t:TO):Prop :=
 ∀(aA:List (Addr×Obj)) (s:Shared) (Y:St) (H:Hp) (Q:Option Int->Hp->Prop),Inv X aA Y H s->t Y H Q ->
  wpAny (model X.prog X.w) X.A (evalPart e X.env) (fun u s'=>∃o H',Inv X aA Y H' s'/\IsPart u o/\Q o H') X.xe s
def ACP:TO:=fun _ H Q=>Q none H
def AKQ(t:TE):TO:=fun Y H Q=>t Y H fun x H1=>∃i,x=.int i/\Q (some i) H1
section
variable {X:Cx}{e:Expr}{te:TE}{lo hi:Option Expr}{tl th:TO}{pos p2:Pos}
theorem Dr:PO X none ACP:=by
 walk_at "i";rw[evalPart_none];exact ARL ⟨none,H,I,.none,h⟩
theorem DG(h:PE X e te):PO X (some e) (AKQ te):=by
 intro aA s Y H Q I hw;rw[evalPart_some];refine thn (h aA s Y H _ I hw) fun u s1 ⟨x,H1,I1,r1,q1⟩=>?_;obtain⟨i,rfl,q⟩:=q1;obtain⟨t,rfl⟩:=r1;exact⟨some i,H1,I1,.int i t,q⟩
def SlR(X:Cx)(r:V->Option Int->Option Int->Hp->VK->Prop):Prop :=
 ∀(aA:List (Addr×Obj)) (s:Shared) (Y:St) (H:Hp) (x:V) (v vl vu:Value) (lo hi:Option Int) (sl:Addr) (Q:VK),Inv X aA Y H s->Bh x v->s.heap.IsSliceOf sl vl vu .none->IsPart vl lo->IsPart vu hi->r x lo hi H Q ->
  ∃T id,typeLookup (.type T) "__getitem__"=pure (some (.builtin id))/\s.TypeIs v T/\wpAny (model X.prog X.w) X.A (getItem v (.ref sl)) (EP X aA Y Q) X.xe s
def tSl(r:V->Option Int->Option Int->Hp->VK->Prop)(te:TE)(tl th:TO):TE:=fun Y H Q=>te Y H fun x H1=>tl Y H1 fun l H2=>th Y H2 fun u H3=>r x l u H3 Q
theorem Cr(hr:SlR X r)(he:PE X e te)(hl:PO X lo tl)(hu:PO X hi th):PE X (.Subscript e (.Slice lo hi none p2) pos) (tSl r te tl th):=by
 walk_at "i";walk_at "aN";refine wpAny_Slice (thn (hl aA s1 Y H1 _ I1 q1) fun vl s2 ⟨l,H2,I2,pl,q2⟩=>thn (hu aA s2 Y H2 _ I2 q2) fun vu s3 ⟨u,H3,I3,pu,q3⟩=>?_);rw[evalPart_none];refine ARL ?_;have I4:Inv X aA Y H3 { s3 with heap:=s3.heap.push { cls:=.type "slice",data:=.fields #[vl,vu,.none] } }:=I3.kept (t':=s3.toks) fun b ob q=>ARA _ q;obtain⟨T,id,hT,ht,hg⟩:=hr aA { s3 with heap:=s3.heap.push { cls:=.type "slice",data:=.fields #[vl,vu,.none] } } Y H3 x v vl vu l u s3.heap.objs.size Q I4 r1 (Heap.IsSliceOf.new ..) pl pu q3;show wpAny (model X.prog X.w) X.A (subscriptTail e (.Slice lo hi none p2) v (.ref s3.heap.objs.size)) (EP X aA Y Q) X.xe { s3 with heap:=s3.heap.push { cls:=.type "slice",data:=.fields #[vl,vu,.none] } };exact tail_any (ops:=[.ref s3.heap.objs.size,v]) ht hT hg (by with_unfolding_all rfl)
def GK(xs:List V)(lo hi:Option Int):List V:=(xs.drop (HT.sIx xs.length 0 lo)).take (HT.sIx xs.length xs.length hi-HT.sIx xs.length 0 lo)
theorem Vv(xs:List V)(lo hi:Option Int):(GK xs lo hi).length<=xs.length:=by
 unfold GK;rw[ARc,ARd];omega
def AQ3(K:W.Frag):V->Option Int->Option Int->Hp->VK->Prop:=fun x lo hi H Q=>∃a xs,x=.ref a/\SqT K H a xs /\
 ¬(HT.sIx xs.length 0 lo=0/\HT.sIx xs.length xs.length hi=xs.length)/\∀p,H p=none->Q (.ref p) (upd H p (.tup (GK xs lo hi)))
def AQl(K:W.Frag):R2:=fun x y H Q=>∃a b ns ms,x=.ref a/\y=.ref b/\SqT K H a (ns.map V.int)/\SqT K H b (ms.map V.int)/\Q (.bl (HT.lexLt ns ms)) H
def AM9(K:W.Frag):R2:=fun x y H Q=>∃a b xs ys,x=.ref a/\y=.ref b/\SqT K H a xs/\SqT K H b ys/\xs≠[]/\xs.length+ys.length<=sizeLine /\
 (ys=[]->Q (.ref a) H)/\(ys≠[]->∀p,H p=none->Q (.ref p) (upd H p (.tup (xs++ys))))
end
def ixN(n:Nat)(i:Int):Option Nat:=if 0<=i then(if i<n then some i.toNat else none) else if -(n:Int)<=i then some (i+n).toNat else none
def atI{α:Type}(xs:List α)(i:Int):Option α:=(ixN xs.length i).bind fun j=>xs[j]?
theorem ACU(h:ixN n i=some j):seqIndex? i n=some j/\j<n/\-(n:Int)<=i/\i<n:=by
 unfold ixN at h;by_cases h0:0<=i
 .rw[if_pos h0]at h;by_cases h1:i<n
  .rw[if_pos h1]at h;have e:i.toNat=j:=ARK h;exact⟨by rw[seqIndex_of h0 h1,e],by omega,by omega,h1⟩
  .rw[if_neg h1]at h;cases h
 .rw[if_neg h0]at h;by_cases h1:-(n:Int)<=i
  .rw[if_pos h1]at h;have e:(i+n).toNat=j:=ARK h;exact⟨by rw[seqIndex_neg (by omega) h1,e],by omega,h1,by omega⟩
  .rw[if_neg h1]at h;cases h
theorem TF{α:Type}{xs:List α}{v:α}(h:atI xs i=some v):∃j,seqIndex? i xs.length=some j/\xs[j]?=some v/\j<xs.length/\-(xs.length:Int)<=i/\i<xs.length:=by
 unfold atI at h;cases e:ixN xs.length i with
 | none=>rw[e]at h;cases h
 | some j =>
  rw[e]at h;obtain⟨h1,h2,h3,h4⟩:=ACU e;exact⟨j,h1,h,h2,h3,h4⟩
theorem Df{α:Type}{xs:List α}{j:Nat}{v:α}(h:xs[j]?=some v):atI xs (j:Int)=some v:=by
 have hj:j<xs.length:=(ARO.mp h).1;have e:ixN xs.length (j:Int)=some j:=by
  unfold ixN;rw[if_pos (by omega),if_pos (by omega)];simp
 unfold atI;rw[e];exact h
theorem U4{α:Type}(xs:List α)(v:α):atI (xs++[v]) (-1)=some v:=by
 have hl:(xs++[v]).length=xs.length+1:=by simp
 have e:ixN (xs++[v]).length (-1)=some xs.length:=by
  unfold ixN;rw[hl,if_neg (by decide),if_pos (by omega)]
  congr 1
  omega
 unfold atI;rw[e];show(xs++[v])[xs.length]?=some v;simp
def RV(b:Expr):Prop:=∀o i,subscripted b false o i=operate [o,i] (getItem o i)
def IxR(X:Cx)(r:R2):Prop :=
 ∀(value slice:Expr) (aA:List (Addr×Obj)) (s:Shared) (Y:St) (H:Hp) (x y:V) (v u:Value) (Q:VK),Inv X aA Y H s->Bh x v->Bh y u->r x y H Q ->
  subscripted slice false v u=operate [v,u] (getItem v u)->wpAny (model X.prog X.w) X.A (subscriptTail value slice v u) (EP X aA Y Q) X.xe s
def MtR(X:Cx)(id:String)(r:V->List V->Hp->VK->Prop):Prop :=
 ∀(aA:List (Addr×Obj)) (s:Shared) (Y:St) (H:Hp) (x:V) (xs:List V) (v:Value) (us:List Value) (Q:VK),Inv X aA Y H s->Bh x v->Ba xs us->r x xs H Q ->
  wpAny (model X.prog X.w) X.A (call (.builtin id) (v::us)) (EP X aA Y Q) X.xe s
section
variable {X:Cx}{a b:Expr}{ta tb:TE}{pos:Pos}
theorem UW(hr:IxR X r)(ha:PE X a ta)(hb:PE X b tb)(hs:RV b):PE X (.Subscript a b pos) (tOp r ta tb):=by
 walk_at "i";exact Subscript_ (AGN ha hb I h fun v u s2 x y H2 I2 rx ry q=>hr a b aA s2 Y H2 x y v u Q I2 rx ry q (hs _ _))
def ACa(K:W.Frag):R2:=fun x y H Q=>∃p xs i v,x=.ref p/\y=.int i/\SqL K H p xs/\atI xs i=some v/\Q v H
def AIM(K:W.Frag):R2:=fun x y H Q=>∃p xs i v,x=.ref p/\y=.int i/\SqT K H p xs/\atI xs i=some v/\Q v H
def AMN:R2:=fun x y H Q=>∃z i c,x=.str z/\y=.int i/\z.length<=sizeLine/\atI z.cps.toList i=some c/\Q (.str ⟨#[c]⟩) H
theorem ACz:IxR X (ACa X.K):=by
 intro value slice aA s Y H x y v u Q I rx ry h hs;obtain⟨p,xs,i,z,rfl,rfl,hq,he,q⟩:=h;cases rx;obtain⟨t,rfl⟩:=ry;obtain⟨its,r,pl,hz⟩:=I.list hq;obtain⟨j,h1,h2,h3,h4,h5⟩:=TF he;obtain⟨w,ew,dP⟩:=r.get h2;have hl:=r.length;have hn:=Pn;have fin:EP X aA Y Q w s:=⟨z,H,I,dP,q⟩;by_cases h0:0<=i
 .have hj:i.toNat=j:=by
   rw[seqIndex_of h0 h5]at h1;exact ARK h1
  exact item_listR pl.isList h0 (by omega) (by rw[hj];simpa using ew) fin hs
 .have hj:(i+(its.toArray.size:Int)).toNat=j:=by
   rw[seqIndex_neg (by omega) h4]at h1;rw[ARa,<-hl];exact ARK h1
  exact subscriptTail_builtinR (x:=w) pl.isList.typeIs slot_list_getitem.lookup
   (wpAny_getItem_list_neg (Q:=fun r s'=>r=w/\EP X aA Y Q r s') pl.isList (by omega) (by rw[ARa]<;>omega) (by omega) (by rw[hj];simpa using ew) ⟨rfl,fin⟩) hs
theorem AGG:IxR X (AIM X.K):=by
 intro value slice aA s Y H x y v u Q I rx ry h hs;obtain⟨p,xs,i,z,rfl,rfl,hq,he,q⟩:=h;cases rx;obtain⟨t,rfl⟩:=ry;obtain⟨its,r,pl,hz⟩:=I.tuple hq;obtain⟨j,h1,h2,h3,h4,h5⟩:=TF he;obtain⟨w,ew,dP⟩:=r.get h2;have hl:=r.length;have hn:=Pn;have fin:EP X aA Y Q w s:=⟨z,H,I,dP,q⟩;exact subscriptTail_builtinR (x:=w) pl.typeIs slot_tuple_getitem.lookup
  (getItem_tuple (j:=j) (Q:=fun r s'=>r=w/\EP X aA Y Q r s') pl (by omega) (by omega) (by rw[ARa,<-hl];exact h1) (by simpa using ew) ⟨rfl,fin⟩) hs
theorem W0:IxR X AMN:=by
 intro value slice aA s Y H x y v u Q I rx ry h hs;obtain⟨z,i,c,rfl,rfl,hz,he,q⟩:=h;walk_at "z";walk_at "av";obtain⟨j,h1,h2,h3,h4,h5⟩:=TF he;have hl:z.cps.toList.length=z.length:=by simp[Str.length]
 rw[hl]at h1 h4 h5;have hn:=Pn;exact tail_any (typeIs_str s z t) slot_str_getitem.lookup (getItem_str (c:=c) (by
  have e1:decide (i < -(2^63:Int))=false:=decide_eq_false (by omega);have e2:decide (i >= 2^63)=false:=decide_eq_false (by omega);rw[e1,e2,Bool.or_false]) (by rw[h1];simpa using h2) ⟨.str ⟨#[c]⟩,H,I.tok _,⟨_,rfl⟩,q⟩) hs
def rIx(K:W.Frag):R2:=fun x y H Q=>ACa K x y H Q\/AIM K x y H Q\/AMN x y H Q
def AQN:V->V->V->Hp->(Hp->Prop)->Prop:=fun o i v H Q=>∃p xs k j,o=.ref p/\i=.int k/\H p=some (.lst xs)/\ixN xs.length k=some j/\Q (upd H p (.lst (xs.set j v)))
theorem S7(lo hi:Option Int)(n:Nat):(sliceBounds lo hi none n).1=((HT.sIx n 0 lo:Nat):Int)/\(sliceBounds lo hi none n).2.1=((HT.sIx n n hi:Nat):Int)/\(sliceBounds lo hi none n).2.2=1:=by
 refine⟨?_,?_,rfl⟩
 .cases lo with
  | none=>simp[sliceBounds,HT.sIx]
  | some i =>
   walk_at "ak"
   .simp only[h,if_true]<;>omega
   .simp only[h,if_false]<;>omega
 .cases hi with
  | none=>simp[sliceBounds,HT.sIx]
  | some i =>
   walk_at "ak"
   .simp only[h,if_true]<;>omega
   .simp only[h,if_false]<;>omega
theorem QT(its:List Value)(lo hi:Option Int):slicePick its.toArray lo hi none=((its.drop (HT.sIx its.length 0 lo)).take (HT.sIx its.length its.length hi-HT.sIx its.length 0 lo)).toArray:=by
 obtain⟨h1,h2,h3⟩:=S7 lo hi its.toArray.size;unfold slicePick;rw[h1,h2,h3];simp only[sliceRange_one,pick_run,ARa]<;>rfl
def AO4(K:W.Frag):V->Option Int->Option Int->Hp->VK->Prop:=fun x lo hi H Q=>∃a xs,x=.ref a/\SqL K H a xs/\∀p,H p=none->Q (.ref p) (upd H p (.lst (GK xs lo hi)))
theorem JW:SlR X (AO4 X.K):=by
 intro aA s Y H x v vl vu lo hi sl Q I rx hs pl pu h;obtain⟨a,xs,rfl,hx,q⟩:=h;cases rx;obtain⟨its,r,ht,hz⟩:=I.list hx;have aB:=r.length;refine⟨"list",_,slot_list_getitem.lookup,ht.isList.typeIs,?_⟩;refine AUe ht.isList hs pl pu .none (by simp) ?_ (by rw[ARa]<;>omega);rw[QT,<-aB];refine⟨.ref s.heap.objs.size,_,I.laid (t':=s.toks) (o:=.lst (GK xs lo hi)) (fun b ob q=>ARA _ q) (ARH _) ?_,rfl,q _ (I.hok.fresh (ARH _))⟩;exact⟨ASF (Vv xs lo hi) hz,_,0,(r.drop (HT.sIx xs.length 0 lo)).take (HT.sIx xs.length xs.length hi-HT.sIx xs.length 0 lo),ARN _ rfl⟩
def JD:V->Bool
 | .non=>true
 | .bl _=>true
 | .int _=>true
 | .str _=>true
 | _=>false
def eqV:V->V->Bool
 | .non,.non=>true
 | .bl a,.bl b=>a==b
 | .bl a,.int b=>(if a then 1 else 0)==b
 | .int a,.bl b=>a==(if b then 1 else 0)
 | .int a,.int b=>a==b
 | .str a,.str b=>a==b
 | _,_=>false
theorem AFo(ry:Bh y u)(rx:Bh x v)(fy:JD y=true)(fx:JD x=true):SeqAt.EqAt A s u v (eqV y x):=by
 cases y with
 | non =>
  cases ry;cases x with
  | non=>cases rx;exact SeqAt.EqAt.same _
  | bl b=>cases rx;exact SeqAt.EqAt.none_bool b
  | int b=>obtain⟨t,rfl⟩:=rx;exact SeqAt.EqAt.none_int b t
  | str b=>obtain⟨t,rfl⟩:=rx;exact SeqAt.EqAt.none_str b t
  | _=>exact absurd (show false=true from fx) ARJ
 | bl a =>
  cases ry;cases x with
  | non=>cases rx;exact SeqAt.EqAt.bool_none a
  | bl b=>cases rx;exact SeqAt.EqAt.bool_bool a b
  | int b=>obtain⟨t,rfl⟩:=rx;exact SeqAt.EqAt.bool_int a b t
  | str b=>obtain⟨t,rfl⟩:=rx;exact SeqAt.EqAt.bool_str a b t
  | _=>exact absurd (show false=true from fx) ARJ
 | int a =>
  walk_at "av";cases x with
  | non=>cases rx;exact SeqAt.EqAt.int_none a t'
  | bl b=>cases rx;exact SeqAt.EqAt.int_bool a t' b
  | int b=>obtain⟨t,rfl⟩:=rx;exact SeqAt.EqAt.int_int a t' b t
  | str b=>obtain⟨t,rfl⟩:=rx;exact SeqAt.EqAt.int_str a t' b t
  | _=>exact absurd (show false=true from fx) ARJ
 | str a =>
  walk_at "av";cases x with
  | non=>cases rx;exact SeqAt.EqAt.str_none a t'
  | bl b=>cases rx;exact SeqAt.EqAt.str_bool a t' b
  | int b=>obtain⟨t,rfl⟩:=rx;exact SeqAt.EqAt.str_int a t' b t
  | str b=>obtain⟨t,rfl⟩:=rx;exact SeqAt.EqAt.str_str a t' b t
  | _=>exact absurd (show false=true from fx) ARJ
 | _=>exact absurd (show false=true from fy) ARJ
def eqU(x:V)(u:Value):Bool:=match u with
 | .none=>eqV .non x
 | .bool b=>eqV (.bl b) x
 | .int i _=>eqV (.int i) x
 | .str z _=>eqV (.str z) x
 | _=>false
theorem ABU(r:Bh y u)(f:JD y=true):eqU x u=eqV y x:=by
 cases y with
 | non=>cases r;rfl
 | bl b=>cases r;rfl
 | int i=>obtain⟨t,rfl⟩:=r;rfl
 | str z=>obtain⟨t,rfl⟩:=r;rfl
 | _=>exact absurd (show false=true from f) ARJ
theorem LQ{x:V}:∀{xs:List V} {us:List Value},Ba xs us->xs.all JD=true->us.any (eqU x)=xs.any fun y=>eqV y x
 | _,_,.nil,_=>rfl
 | y::xs,u::us,.cons r t,f=>by
  rw[List.all_cons,ASK]at f;rw[ATa,ATa,ABU r f.1,LQ t f.2]
theorem Ir{A:Around}{s:Shared}{x:V}{v:Value}(rx:Bh x v)(fx:JD x=true):∀{xs:List V} {us:List Value},Ba xs us->xs.all JD=true->∀u∈us,SeqAt.EqAt A s u v (eqU x u)
 | _,_,.nil,_=>fun u hu=>by cases hu
 | y::xs,u::us,.cons r t,f=>fun u' hu=>by
  rw[List.all_cons,ASK]at f;rcases ARI.mp hu with rfl|hu
  .rw[ABU r f.1];exact AFo r rx f.1 fx
  .exact Ir rx fx t f.2 u' hu
def inV(x:V)(xs:List V):Bool:=xs.any fun y=>eqV y x
def rIn(K:W.Frag)(neg:Bool):R2:=fun x y H Q=>∃p xs,y=.ref p/\(SqL K H p xs\/SqT K H p xs)/\JD x=true/\xs.all JD=true/\Q (.bl (if neg then !inV x xs else inV x xs)) H
theorem Yi:OpR X (compareOp .In) (rIn X.K false):=by
 walk_at "k";obtain⟨p,xs,rfl,hq,fx,fs,q⟩:=h;cases ry;rcases hq with hq|hq
 .obtain⟨its,r,pl,hz⟩:=I.list hq;refine SeqAt.in_listAt (eqU x) pl.isList (fun w hw=>Ir rx fx r fs w (by simpa using hw)) ⟨.bl _,H,I,rfl,?_⟩;walk_at "x"
 .obtain⟨its,r,pl,hz⟩:=I.tuple hq;refine SeqAt.in_tupleAt (eqU x) pl (fun w hw=>Ir rx fx r fs w (by simpa using hw)) ⟨.bl _,H,I,rfl,?_⟩;walk_at "x"
theorem Tw:OpR X (compareOp .NotIn) (rIn X.K true):=by
 walk_at "k";obtain⟨p,xs,rfl,hq,fx,fs,q⟩:=h;cases ry;rcases hq with hq|hq
 .obtain⟨its,r,pl,hz⟩:=I.list hq;refine SeqAt.notIn_listAt (eqU x) pl.isList (fun w hw=>Ir rx fx r fs w (by simpa using hw)) ⟨.bl _,H,I,rfl,?_⟩;walk_at "x"
 .obtain⟨its,r,pl,hz⟩:=I.tuple hq;refine SeqAt.notIn_tupleAt (eqU x) pl (fun w hw=>Ir rx fx r fs w (by simpa using hw)) ⟨.bl _,H,I,rfl,?_⟩;walk_at "x"
theorem BV:HB X (.builtin "len") (fun xs H Q=>∃p ys,xs=[.ref p]/\(SqL X.K H p ys\/SqT X.K H p ys)/\Q (.int ys.length) H):=by
 walk_at "V";obtain⟨p,ys,rfl,hq,q⟩:=h;obtain⟨u,rfl,rx⟩:=GQ r;cases rx;have hn:=Pn;rcases hq with hq|hq
 .obtain⟨its,r',pl,hz⟩:=I.list hq;have aB:=r'.length;exact Calls.call_len_list pl.isList (by simp only[ARa]<;>omega) ⟨.int ys.length,H,I.tok _,⟨s.toks+1,by rw[ARa,aB]⟩,q⟩
 .obtain⟨its,r',pl,hz⟩:=I.tuple hq;have aB:=r'.length;exact len_tuple pl (by simp only[ARa]<;>omega) ⟨.int ys.length,H,I.tok _,⟨s.toks+1,by rw[ARa,aB]⟩,q⟩
theorem CK:HB X (.builtin "len") (fun xs H Q=>∃z,xs=[.str z]/\z.length<=sizeLine/\Q (.int z.length) H):=by
 walk_at "V";obtain⟨z,rfl,hz,q⟩:=h;obtain⟨u,rfl,t,rfl⟩:=GQ r;have hn:=Pn;exact len_str (by omega) ⟨.int z.length,H,I.tok _,⟨_,rfl⟩,q⟩
theorem EY:HB X (.type "list") (fun xs H Q=>∃p ys,xs=[.ref p]/\(SqL X.K H p ys\/SqT X.K H p ys)/\∀l,H l=none->Q (.ref l) (upd H l (.lst ys))):=by
 intro aA s Y H xs us Q I r h;obtain⟨p,ys,rfl,hq,q⟩:=h;obtain⟨u,rfl,rx⟩:=GQ r;cases rx;have fin:∀(its:List Value),Ba ys its->ys.length<=sizeLine->∀(h':Heap) (c':Nat),(∀b o',s.heap.get? b=some o'->h'.get? b=some o') ->
   h'.get? s.heap.objs.size=some { cls:=.type "list",dict:=none,data:=.seq its.toArray c',slots:=#[] }->EP X aA Y Q (.ref s.heap.objs.size) { s with heap:=h' }:=fun its r' hz h' c' kp e =>
  ⟨.ref s.heap.objs.size,_,I.laid (t':=s.toks) kp (ARH _) (show Bp X.prog X.w _ h' _ (.lst ys) from⟨hz,its,c',r',e⟩),rfl,q _ (I.hok.fresh (ARH _))⟩
 rcases hq with hq|hq
 .obtain⟨its,r',pl,hz⟩:=I.list hq;have aB:=r'.length;obtain⟨o,ho,hc,n,hd⟩:=pl.isList;exact call_list_seq p (.inl rfl) ho hc hd (fun h' c' kp e=>fin its r' hz h' c' kp e) (by simp only[ARa]<;>omega)
 .obtain⟨its,r',pl,hz⟩:=I.tuple hq;have aB:=r'.length;obtain⟨o,ho,hc,n,hd⟩:=pl;exact call_list_seq p (.inr rfl) ho hc hd (fun h' c' kp e=>fin its r' hz h' c' kp e) (by simp only[ARa]<;>omega)
def tyV(K:W.Frag)(T:String)(x:V)(H:Hp):Prop:=match x with
 | .str _=>T="str"
 | .int _=>T="int"
 | .ref p=>(T="list"/\∃xs,SqL K H p xs)\/(T="tuple"/\∃o,K.lookup p=some o/\o.cls=.type "tuple"/\o.dict=none) \/
   (T="dict"/\((∃aG,H p=some (.dK aG))\/∃aG,H p=some (.dT aG)))\/(T="set"/\∃S n,H p=some (.set S n))
 | _=>False
theorem Zy{Y:St}(I:Inv X aA Y H s)(r:Bh x v)(ty:tyV X.K T x H) :
  s.TypeIs v T/\∀a,v=.ref a->∃ob,s.heap.get? a=some ob/\ob.dict=none:=by
 cases x with
 | str z =>
  obtain⟨t,rfl⟩:=r;cases (show T="str" from ty);exact⟨typeIs_str s z t,fun _ e=>nomatch e⟩
 | int i =>
  obtain⟨t,rfl⟩:=r;cases (show T="int" from ty);exact⟨typeIs_int s i t,fun _ e=>nomatch e⟩
 | ref p =>
  cases r;rcases ty with⟨rfl,xs,hq⟩|⟨rfl,o,hk,hc,hd⟩|⟨rfl,hk⟩|⟨rfl,S,n,hk⟩
  .obtain⟨its,_,pl,_⟩:=I.list hq;refine⟨pl.isList.typeIs,fun a e=>?_⟩;cases e;obtain⟨o,n,e,c,hd,_⟩:=pl;exact⟨o,e,hd⟩
  .refine⟨⟨o,I.kIn p o hk,hc⟩,fun a e=>?_⟩;cases e;exact⟨o,I.kIn _ o hk,hd⟩
  .have z:∃o,s.heap.get? p=some o/\o.ExactDict:=by
    rcases hk with⟨aG,hk⟩|⟨aG,hk⟩
    .obtain⟨_,_,_,_,o,_,_,e,ex,_⟩:=I.hok p _ hk;exact⟨o,e,ex⟩
    .obtain⟨_,_,_,_,o,_,_,e,ex,_⟩:=I.hok p _ hk;exact⟨o,e,ex⟩
   obtain⟨o,e,ex⟩:=z;refine⟨⟨o,e,ex.1⟩,fun a e2=>?_⟩;cases e2;exact⟨o,e,ex.2.1⟩
  .obtain⟨o,_,_,_,e,ex,_⟩:=I.hok p _ hk;refine⟨⟨o,e,ex.1⟩,fun a e2=>?_⟩;cases e2;exact⟨o,e,ex.2.1⟩
 | _=>exact False.elim ty
def AP7(K:W.Frag)(T:String)(r:V->List V->Hp->VK->Prop)(to:TE):TE:=fun Y H Q=>to Y H fun x H1=>tyV K T x H1/\r x [] H1 Q
def tBM(K:W.Frag)(T:String)(r:V->List V->Hp->VK->Prop)(to:TE)(t:TA):TE:=fun Y H Q=>to Y H fun x H1=>tyV K T x H1/\t Y H1 fun xs H2=>r x xs H2 Q
variable {o e:Expr}{es:List Expr}{to:TE}{t:TA}{name:Str}{aF aD:Pos}{T id:String}{r:V->List V->Hp->VK->Prop}
theorem AEO(pa:PlainAttrs T)(slot:Slot T name id)(hty:typeOf (.builtin id)=pure (.type "method_descriptor"))(hm:MtR X id r)(ho:PE X o to)
  (hbase:attributeBase o name X.env (eval o X.env)=eval o X.env:=by rfl) (hline:(aF.endLine==aD.line)=true:=by rfl):PE X (.Call (.Attribute o name aF) [] [] aD) (AP7 X.K T r to):=by
 walk_at "i";refine wpAny_Call_method0_late hbase hline (thn (ho aA s Y H _ I h) fun v s1 ⟨x,H1,I1,r1,ty,q1⟩=>?_);obtain⟨h1,h2⟩:=Zy I1 r1 ty;exact⟨T,id,pa,slot,hty,h1,h2,ATi rfl (PySem.evalArgs_none (hm aA s1 Y H1 x [] v [] Q I1 r1 .nil q1))⟩
theorem Eo(pa:PlainAttrs T)(slot:Slot T name id)(hty:typeOf (.builtin id)=pure (.type "method_descriptor"))(hm:MtR X id r)(ho:PE X o to)(ha:PA X (e::es) t)
  (hbase:attributeBase o name X.env (eval o X.env)=eval o X.env:=by rfl)
  (hfew:((backTo aD (starEach (e::es) X.env)).all (fun x=>!x.1)&&(backToKw aD (keywordEach [] X.env)).all (fun x=>x.1.isSome)
    &&decide ((e::es).length+([]:List Keyword).length+(if ([]:List Keyword).isEmpty then 0 else 1)<30))=true:=by rfl)
  (hline:(aF.endLine==aD.line)=true:=by rfl) (hs:starEach (e::es) X.env=(false,eval e X.env)::starEach es X.env:=by rfl) (hplain:(backTo aD (starEach es X.env)).any (·.1)=false:=by rfl) :
  PE X (.Call (.Attribute o name aF) (e::es) [] aD) (tBM X.K T r to t):=by
 walk_at "i";refine wpAny_Call_method_late hbase hfew hline rfl (thn (ho aA s Y H _ I h) fun v s1 ⟨x,H1,I1,r1,ty,q1⟩=>?_);obtain⟨h1,h2⟩:=Zy I1 r1 ty;refine⟨T,id,pa,slot,hty,h1,h2,?_⟩;have hA:=ha aD aA s1 Y H1 _ I1 q1;rw[hs]at hA ⊢;refine ATi (by show(false || (backTo aD (starEach es X.env)).any (·.1))=false;rw[hplain]<;>rfl) (ATO ?_);exact thn hA fun us s2 ⟨vs,H2,I2,r2,q2⟩=>hm aA s2 Y H2 x vs v us Q I2 r1 r2 q2
end
def MtM(X:Cx)(id:String)(r:V->List V->Hp->VK->Prop):Prop :=
 ∀(aA:List (Addr×Obj)) (s:Shared) (Y:St) (H:Hp) (x:V) (xs:List V) (v:Value) (us:List Value) (Q:VK),Inv X aA Y H s->Bh x v->Ba xs us->r x xs H Q ->
  wpAny (model X.prog X.w) X.A (call (.builtin id) (v::us)) (EP X aA Y Q) X.xe s
theorem Ba.one:∀{x:V} {us:List Value},Ba [x] us->∃u,us=[u]/\Bh x u
 | _,_,.cons r .nil=>⟨_,rfl,r⟩
theorem Ba.zero:∀{us:List Value},Ba [] us->us=[]
 | _,.nil=>rfl
theorem Ba.dropLast(h:Ba xs us):Ba xs.dropLast us.dropLast:=by
 induction h with
 | nil=>exact .nil
 | cons r t ih =>
  cases t with
  | nil=>exact .nil
  | cons q t'=>exact .cons r ih
theorem Ba.rep{xs:List V}{us:List Value}(h:Ba xs us):∀k:Nat,Ba (List.replicate k xs).flatten (List.replicate k us).flatten
 | 0=>.nil
 | k+1=>by
  rw[ASl,ASl,ATL,ATL];exact Ba.append h (Ba.rep h k)
theorem W2{α:Type}(l:List α):l.eraseIdx (l.length-1)=l.dropLast:=by
 induction l with
 | nil=>rfl
 | cons a r ih =>
  cases r with
  | nil=>rfl
  | cons b r =>
   have e:(a::b::r).length-1=((b::r).length-1)+1:=by
    have h1:(a::b::r).length=r.length+2:=rfl;have h2:(b::r).length=r.length+1:=rfl;omega
   rw[e,List.eraseIdx_cons_succ,ih]
   all_goals rfl
theorem Ql(its:List Value):∀(k:Nat) (acc:List Value),
  List.foldl (fun x1 x2=>x1++x2) acc.toArray (List.replicate k its.toArray)=(acc++(List.replicate k its).flatten).toArray
 | 0,acc=>by simp
 | k+1,acc=>by
  have e:acc.toArray++its.toArray=(acc++its).toArray:=by simp
  have e2:(acc++its)++(List.replicate k its).flatten=acc++(List.replicate (k+1) its).flatten:=by
   rw[ASl,ATL,ATM]
  rw[<-e2,<-Ql its k (acc++its),<-e,ASl,List.foldl_cons]
section
variable {X:Cx}{aA:List (Addr×Obj)}{Y:St}{H:Hp}{s:Shared}{l b:Addr}{xs ys zs:List V}
theorem Inv.lset{its its':List Value}(I:Inv X aA Y H s)(hH:H l=some (.lst xs))
  (e:s.heap.get? l=some { cls:=.type "list",data:=.seq its.toArray n }) (hf:f its.toArray=its'.toArray) (hv:Ba ys its') (hz:ys.length<=sizeLine) :
  Inv X aA Y (upd H l (.lst ys)) { s with heap:=s.heap.update l (Obj.mapSeq f),toks:=t' }:=by
 have q:=PySem.IsL.update e f;rw[hf]at q;refine I.write (x:=l) (e:=l) (by rw[hH];exact trivial) (.inl rfl) (fun b' u hb hu=>(ARr s.heap (Obj.mapSeq f) (ATt hb)).trans hu) ⟨_,q⟩ ?_;exact⟨hz,its',_,hv,q⟩
theorem Inv.lnew(I:Inv X aA Y H s)(hv:Ba ys its)(hz:ys.length<=sizeLine) :
  Inv X aA Y (upd H s.heap.objs.size (.lst ys)) { s with heap:=s.heap.push { cls:=.type "list",data:=.seq its.toArray },toks:=t' } :=
 I.laid (fun _ _ q=>ARA _ q) (ARH _) ⟨hz,its,0,hv,ARN _ rfl⟩
theorem Inv.fresh(I:Inv X aA Y H s):H s.heap.objs.size=none:=I.hok.fresh (ARH _)
theorem Inv.lstM(I:Inv X aA Y H s)(hH:H l=some (.lst xs)):xs.length<=sizeLine/\∃(its:List Value) (n:Nat),Ba xs its/\xs.length=its.length/\s.heap.get? l=some { cls:=.type "list",data:=.seq its.toArray n }:=by
 obtain⟨z,its,n,r,e⟩:=I.hok l _ hH;exact⟨z,its,n,r,r.length,e⟩
theorem ABx(h:n<=sizeLine):Builtin.List.listTooLong n=false:=by
 unfold Builtin.List.listTooLong;exact decide_eq_false (by omega)
end
section
variable {X:Cx}
def rAppend:V->List V->Hp->VK->Prop:=fun x vs H Q=>∃l xs y,x=.ref l/\vs=[y]/\H l=some (.lst xs)/\xs.length<sizeLine/\Q .non (upd H l (.lst (xs++[y])))
theorem HS:MtM X "list.append" rAppend:=by
 intro aA s Y H x vs v us Q I rx rv h;obtain⟨l,xs,y,rfl,rfl,hH,hz,q⟩:=h;cases rx;obtain⟨u,rfl,ru⟩:=rv.one;obtain⟨z,its,n,r,hl,e⟩:=I.lstM hH;refine call_meets F.slot_list_append ⟨_,e,rfl⟩ F.entry_list_append (F.args_list_append_2 _ _) (PySem.list_append l its.toArray n u (by rw[ARa];omega)) ⟨e,?_⟩;refine⟨.non,_,I.lset (its':=its++[u]) hH e (by simp) (r.append (.cons ru .nil)) ?_,rfl,q⟩;rw[ARG,ARn];omega
def AOq:V->List V->Hp->VK->Prop:=fun x vs H Q=>∃l b xs zs,x=.ref l/\vs=[.ref b]/\H l=some (.lst xs)/\H b=some (.lst zs)/\xs.length+zs.length<=sizeLine/\Q .non (upd H l (.lst (xs++zs)))
def rPop:V->List V->Hp->VK->Prop:=fun x vs H Q=>∃l xs y,x=.ref l/\vs=[]/\H l=some (.lst xs)/\xs[xs.length-1]?=some y/\Q y (upd H l (.lst xs.dropLast))
theorem AG1:MtM X "list.pop" rPop:=by
 intro aA s Y H x vs v us Q I rx rv h;obtain⟨l,xs,y,rfl,rfl,hH,hy,q⟩:=h;cases rx;have hus:=rv.zero;subst hus;obtain⟨z,its,n,r,hl,e⟩:=I.lstM hH;obtain⟨u,hu,ru⟩:=r.get hy;have hy':its.toArray[its.toArray.size-1]?=some u:=by
  show its.toArray[its.length-1]?=some u;rw[<-Array.getElem?_toList,<-hl];exact hu
 refine call_meets F.slot_list_pop ⟨_,e,rfl⟩ F.entry_list_pop (F.args_list_pop_1 _) (MeetsSeq.list_pop_last l its.toArray n u hy' (by rw[ARa];omega)) ⟨e,?_⟩;refine⟨y,_,I.lset (its':=its.dropLast) hH e ?_ r.dropLast ?_,ru,q⟩
 .show its.toArray.eraseIdxIfInBounds (its.toArray.size-1)=its.dropLast.toArray;rw[ARa,List.eraseIdxIfInBounds_toArray,W2]
 .rw[List.length_dropLast];omega
def APP:V->List V->Hp->VK->Prop:=fun x vs H Q=>∃l xs i k y,x=.ref l/\vs=[.int i]/\H l=some (.lst xs)/\-(2^63)<=i/\i<2^63/\seqIndex? i xs.length=some k/\xs[k]?=some y/\Q y (upd H l (.lst (xs.eraseIdx k)))
def AM7:V->List V->Hp->VK->Prop:=fun x vs H Q=>∃l xs,x=.ref l/\vs=[]/\H l=some (.lst xs)/\Q .non (upd H l (.lst xs.reverse))
def APR:V->List V->Hp->VK->Prop:=fun x vs H Q=>∃l xs,x=.ref l/\vs=[]/\H l=some (.lst xs)/\Q .non (upd H l (.lst []))
def ACn:R2:=fun x y H Q=>∃l b xs zs,x=.ref l/\y=.ref b/\H l=some (.lst xs)/\H b=some (.lst zs)/\xs.length+zs.length<=sizeLine/\∀p,H p=none->Q (.ref p) (upd H p (.lst (xs++zs)))
theorem T8:OpR X (binaryOp .Add) ACn:=by
 walk_at "k";obtain⟨l,b,xs,zs,rfl,rfl,hH,hB,hz,q⟩:=h;cases rx;cases ry;obtain⟨z,its,n,r,hl,e⟩:=I.lstM hH;obtain⟨z2,its2,n2,r2,hl2,e2⟩:=I.lstM hB;refine PySem.P.add_list e e2 ?_ (by rw[ARa,ARa];omega);have ea:its.toArray++its2.toArray=(its++its2).toArray:=by simp
 rw[ea];exact⟨.ref _,_,I.lnew (t':=s.toks) (r.append r2) (by rw[ARG];omega),rfl,q _ I.fresh⟩
def AOw:R2:=fun x y H Q=>∃l k xs,x=.ref l/\y=.int k/\H l=some (.lst xs)/\-(2^63)<=k/\k<2^63/\xs.length*k.toNat<=sizeLine /\
 ∀p,H p=none->Q (.ref p) (upd H p (.lst (List.replicate k.toNat xs).flatten))
theorem ADR{α:Type}(xs:List α)(k:Nat):(List.replicate k xs).flatten.length=k*xs.length:=by
 induction k with
 | zero=>simp
 | succ k ih=>rw[ASl,ATL,ARG,ih,Nat.succ_mul,Nat.add_comm]
theorem AJZ:OpR X (binaryOp .Mult) AOw:=by
 walk_at "k";obtain⟨l,k,xs,rfl,rfl,hH,h1,h2,hz,q⟩:=h;cases rx;obtain⟨t,rfl⟩:=ry;obtain⟨z,its,n,r,hl,e⟩:=I.lstM hH;have aB:its.toArray.size*k.toNat<=sizeLine:=by rw[ARa,<-hl];exact hz
 have lG:¬its.toArray.size*k.toNat > (2^63-1)/8:=by
  have:(sizeLine:Nat)<=(2^63-1)/8:=by decide
  omega
 have hfit:¬(!Builtin.List.listFitsIndex k)=true:=by
  rw[fitsIndex_both h1 h2];exact ARJ
 have jc:¬Builtin.List.listTooLong (its.toArray.size*k.toNat)=true:=by
  rw[ABx aB];exact ARJ
 have aL:List.foldl (fun x1 x2=>x1++x2) #[] (List.replicate (if its.toArray.isEmpty=true then 0 else k.toNat) its.toArray)=(List.replicate k.toNat its).flatten.toArray:=by
  have f0:∀m:Nat,List.foldl (fun x1 x2=>x1++x2) #[] (List.replicate m its.toArray)=(List.replicate m its).flatten.toArray:=fun m=>by
   have:=Ql its m [];rw[AUG]at this;exact this
  rw[f0];cases its with
  | nil=>simp
  | cons a r'=>rw[if_neg (by simp)]
 refine wpAny_binaryOp_repeat_ref (T:="list") (U:="int") (by decide) ⟨_,e,rfl⟩ (fun s'=>typeIs_int s' k t) noFill_list_mul F.fills_int_mul F.slot_int_rmul repeat_list F.slot_int_index.lookup
  (call_meets F.slot_int_rmul (typeIs_int s k t) F.entry_int_rmul (F.args_int_rmul_2 _ _) (int___rmul___int_list k t l its.toArray n)
   ⟨e,rfl,⟨_,e,rfl⟩,call_meets F.slot_list_mul ⟨_,e,rfl⟩ F.entry_list_mul (F.args_list_mul_2 _ _) (AutoListH.list___mul___list_int_3 l its.toArray n k t hfit lG jc) ⟨e,?_⟩⟩)
 rw[aL];exact⟨.ref _,_,I.lnew (t':=s.toks) (r.rep k.toNat) (by rw[ADR,Nat.mul_comm];exact hz),rfl,q _ I.fresh⟩
end
section
variable {prog:Program}{w:World}{A:Around}{E:Value->Shared->Prop}{s:Shared}
end
section
variable {X:Cx}
end
end L2
namespace pc
open PySem PySem.W PySem.Calls PyProof.Rows
theorem NK:∀(ns:List Int) (vs:List Value),WellAll P h vs (ns.map WData.int)->IntsAre vs ns:=by
 intro ns
 induction ns with
 | nil =>
  intro vs w;rw[List.map_nil]at w;cases w;exact .nil
 | cons n ns ih =>
  intro vs w;rw[ARm]at w;cases w with
  | cons a b =>
   cases a;exact .cons _ _ (ih _ b)
theorem Yq{l:OpenLaw}(hn:l.most=some n)
  (hpre:l.row.toRowW.claim.pre args=true) (hwl:WellAll P h vals args) :
  ∃a vs ns,vals=[Value.ref a]/\args=[WData.list (ns.map WData.int)]/\h.get? a=some { cls:=.type "list",data:=.seq vs.toArray }/\IntsAre vs ns/\ns.length<=n:=by
 have hsh:WShape.hasAll [] args [.list .int]=true:=(pre_splitW hpre).1;have hc:l.pre.holds [] { args:=args }=true:=(pre_splitW hpre).2;obtain⟨d,r,rfl,h1,h2⟩:=hasAllW_cons hsh;obtain rfl:=hasAllW_nil h2;obtain⟨xs,rfl,h3⟩:=hasW_list h1;obtain⟨ns,rfl⟩:=items_int h3;have aB:ns.length<=n:=by
  unfold OpenLaw.pre at hc;have h4:(WTm.not (.lt (.lit (.int (n:Int))) (.len (.arg 0)))).holds [] { args:=[.list (ns.map .int)] }=true:=by
   have h4:=(holds_andW hc).1;rw[hn]at h4;exact h4
  have h5:=condW_of h4 (w_not (w_lt w_lit (w_len_list (w_arg rfl))));rw[Io]at h5;refine Nat.le_of_not_lt fun q=>?_;have q':(n:Int)<((ns.length:Nat):Int):=by omega
  first
   | (rw[decide_eq_true q']at h5;exact absurd h5 (by decide))
   | (simp at h5;omega)
 cases hwl with
 | cons w1 w2 =>
  cases w2;cases w1 with
  | list ho hall=>exact⟨_,_,ns,rfl,rfl,ho,NK ns _ hall,aB⟩
theorem Yy(l:OpenLaw)(args:List WData):l.row.toRowW.claim.post args (.bool true) args=true :=
 postW_of (r:=l.row.toRowW) (X:=(true==true))
  (show WShape.has [] (.bool true) .bool=true by first | rfl | decide | simp[WShape.has,WShape.arms,WShape.armsAll])
  (show(WTm.eq .res (.lit (.bool true))).value [] { args:=args,res:=some (.bool true),after:=args }=some (.bool (true==true)) from w_eq_bool (w_res rfl) w_lit) rfl
theorem attach_call{l:OpenLaw}{n:Nat}{q:Program}{loose:List Str}{XP:(Str->Option Value)->Heap->Prop}{YP:World->Heap->Prop}{d:DefRec}
  (hn:l.most=some n) (hdf:d.params.defaults=[])
  (call:∀(w:World) (zb ze:Shared) (mg mb:Str->Option Value) (fa:Addr) (o:Obj) (pm cd doc:Value) (a:Addr) (vs:List Value) (ns:List Int),
   Ground q loose [] XP w zb mg mb ze.heap->YP w ze.heap ->
   ze.heap.get? fa=some o->o.data=.func (docDef d.name d.params d.body d.scope pm cd doc)->ze.heap.CodeRec cd d.name->mg d.name=some (.ref fa) ->
   ze.heap.get? a=some { cls:=.type "list",data:=.seq vs.toArray }->IntsAre vs ns->ns.length<=n->ze.gens=#[] ->
   codeAny (model l.prog w) callerA (.call (.ref fa) ⟨[.ref a],[]⟩) (fun r s'=>r=.ok (.ret (.bool true))/\OldK ze.heap s'.heap/\s'.os=ze.os/\AllBare s'.gens) ze) :
  WalkO q loose XP YP l.row.toRowW d [] (fun f vs=>PySem.call f vs):=by
 intro w zb ze mg mb G YY fa o pm cd doc dV kV ho hd hcd hD hmg hg args vals as hpre hlay hrd hwl hlo;obtain rfl:dV=.none:=Dflts.none hD hdf;obtain rfl:kV=.none:=Dflts.noKw hD;obtain⟨a,vs,ns,rfl,rfl,hobj,hints,aB⟩:=Yq hn hpre hwl;refine enter_call (codeAny_mono (call w zb ze mg mb fa o pm cd doc a vs ns G YY ho (fd_plain hd) hcd hmg hobj hints aB hg) fun r s' hq=>?_);obtain⟨rfl,h2,h3,h4⟩:=hq;exact⟨.inl ⟨.bool true,.bool true,[],rfl,fun _=>rfl,.bool true,Yy l _,fun _=>⟨List.Pairwise.nil,fun _ hm=>(nomatch hm)⟩⟩,h2,h3,h4⟩
section
variable {prog:Program}{w:World}{A:Around}{E:Value->Shared->Prop}{s:Shared}{K:Frag}
def AO7(h:Heap):Heap:={ h with objs:=#[] }
def AP1(h:Heap)(L d:Addr):List (Addr×Obj):=(List.range h.objs.size).filterMap fun a=>if a=L\/a=d then none else(h.get? a).map fun o=>(a,o)
end
end pc
namespace L2
open PySem PySem.Spec PyProof.Rows
theorem RG:∀{vs:List Value} {ns:List Int},IntsAre vs ns->Ba (ns.map V.int) vs
 | _,_,.nil=>.nil
 | _,_,.cons n t h=>.cons ⟨t,rfl⟩ (RG h)
def AH2(H:Hp):Prop:=∀b,H b=none\/∃o xs,H b=some (.frz o (.lst xs))
theorem Z9{P:Program}{w:World}{K:W.Frag}{mg mb:Str->Option Value}{CX:CXT}{k:Nat}{fa a:Addr}{fd:FuncData}{x:Str}{sp:Sp}{ze:Shared}{vs:List Value}{ns:List Int}
  (KX:K.In ze.heap) (hns:ze.heap.Ns mainGlobals mg) (hb:ze.heap.Ns builtinsNs mb) (hbb:∀x:Str,x≠"__name__"->mb x=bootBuiltins x) (hlim:ze.heap.NoLimit) (hg:ze.gens=#[])
  (ha:ze.heap.get? a=some { cls:=.type "list",data:=.seq vs.toArray }) (hi:IntsAre vs ns) (hl:ns.length<=sizeLine) (hr:CJ k callerA)
  (F:∀base:Heap,K.In base->base.Ns mainGlobals mg->BR P w K mg base CX k fa fd [x] sp) (hbind:∀(s:Shared) (u:Value),BindsTo s fd ⟨[u],[]⟩ [(x,u)])
  (hsp:∀H:Hp,AH2 H->SqL K H a (ns.map V.int)->sp [.ref a] H (fun v _=>v=.bl true) fun _ _ _=>False)
  (lH:∀H e s',CX [] H ze (fun _ _ _=>False) e s'->False) :
  codeAny (model P w) callerA (.call (.ref fa) ⟨[.ref a],[]⟩) (fun r s'=>r=.ok (.ret (.bool true))/\OldK ze.heap s'.heap/\s'.os=ze.os/\AllBare s'.gens) ze:=by
 have rv:=RG hi;have lenV:=hi.length;have core:∀H:Hp,AH2 H->SqL K H a (ns.map V.int)->HOk P w H ze.heap->(∀b,H b≠none->b=a)->(H a≠none->K.lookup a=none) ->
   codeAny (model P w) callerA (.call (.ref fa) ⟨[.ref a],[]⟩) (fun r s'=>r=.ok (.ret (.bool true))/\OldK ze.heap s'.heap/\s'.os=ze.os/\AllBare s'.gens) ze:=by
  intro H hO hS hok hA hK;have fj:∀{b:Addr} {o:Obj},ze.heap.get? b=some o->H b=none->(Sh ze.heap H).get? b=some o:=fun e n=>ABo e n;have jb:∀{b:Addr} {o:Obj} {es:Array DictEntry} {ep:Nat},ze.heap.get? b=some o->o.data=.dict es ep->H b=none:=fun {b o es ep} e d=>by
   cases q:H b with
   | none=>rfl
   | some u =>
    have e':b=a:=hA b (by rw[q];simp);subst e';rw[ha]at e;cases e;have d':Data.seq vs.toArray _=Data.dict es ep:=d;cases d'
  have kI:∀{b:Addr} {m:Str->Option Value},ze.heap.Ns b m->(Sh ze.heap H).Ns b m:=fun {b m} ⟨o,es,ep,e,d,r⟩=>⟨o,es,ep,fj e (jb e d),d,r⟩;have pd:K.In (Sh ze.heap H):=fun b o e=>fj (KX b o e) (by
   cases q:H b with
   | none=>rfl
   | some u =>
    have e':b=a:=hA b (by rw[q];simp);subst e';rw[hK (by rw[q];simp)]at e;cases e)
  have hM:Mod K mg (Sh ze.heap H):=⟨pd,kI hns,⟨mb,kI hb,hbb⟩,let ⟨mc,h1,h2⟩:=hlim;⟨mc,kI h1,h2⟩⟩;have e0:V9 P w K mg (Sh ze.heap H) callerA [] ze H:=⟨rfl,hM,fun b o e=>ADL e,ATp (ZG _ _),trivial,fun b hb=>absurd (show b∈([]:List Addr) from hb) (by simp),hok,.of_eq hg⟩;refine codeAny_mono ((F _ pd (kI hns)).run callerA [] ze H ⟨[.ref a],[]⟩ [.ref a] [.ref a] _ _ hr e0 (hbind ze (.ref a)) (.cons rfl .nil) (hsp H hO hS)) fun r s' h=>?_;cases r with
  | error e=>exact(lH H e s' h).elim
  | ok fl =>
   cases fl with
   | next=>exact False.elim h
   | brk=>exact False.elim h
   | cont=>exact False.elim h
   | ret u =>
    obtain⟨v,H',os,bare,un,hok',r',q⟩:=h;have q':v=.bl true:=q;subst q';obtain rfl:u=Value.bool true:=r';refine⟨rfl,OldK.of_keep fun b o e=>?_,os,bare⟩;cases q:H b with
    | none=>exact un.keep b o e q (by intro z;exact absurd (show b∈([]:List Addr) from z) (by simp)) (by simp)
    | some u =>
     rcases hO b with z|⟨ob,xs,z⟩
     .rw[q]at z;cases z
     .have z2:=un.frzs b ob _ z;obtain⟨e1,_⟩:=hok b _ z;obtain⟨e2,_⟩:=hok' b _ z2;rw[e]at e1;cases e1;exact e2
 cases hk:K.lookup a with
 | some o =>
  have e:=KX a o hk;rw[ha]at e;cases e;refine core (fun _=>none) (fun _=>.inl rfl) (.inr ⟨_,vs.toArray,_,hk,rfl,rfl,rfl,by rw[ARa,lenV];exact hl,by simpa using rv⟩) (fun b u z=>by have z':(none:Option HO)=some u:=z;cases z') (fun b z=>absurd rfl z) fun z=>absurd rfl z
 | none =>
  refine core (fun b=>if b=a then some (.frz { cls:=.type "list",data:=.seq vs.toArray } (.lst (ns.map V.int))) else none) (fun b=>?_) (.inl (.inr ⟨{ cls:=.type "list",data:=.seq vs.toArray },if_pos rfl⟩)) (fun b u z=>?_) (fun b z=>?_) fun _=>hk
  .by_cases hb:b=a
   .exact .inr ⟨_,_,if_pos hb⟩
   .exact .inl (if_neg hb)
  .by_cases hb:b=a
   .have z':=(if_pos hb).symm.trans z;cases z';subst hb;exact⟨ha,by rw[Io];exact hl,vs,_,rv,ha⟩
   .have z':=(if_neg hb).symm.trans z;cases z'
  .by_cases hb:b=a
   .exact hb
   .exact absurd (if_neg hb) z
abbrev KOf{K:W.Frag}{h:Heap}(_:K.In h):W.Frag:=K
theorem walk_of{l:W.OpenLaw}{n k:Nat}{q:Program}{loose:List Str}{XP:(Str->Option Value)->Heap->Prop}{YP:World->Heap->Prop}{d:DefRec}{K:Params->W.Frag}{CX:World->CXT}{sp:World->Sp}{x:Str}
  (hn:l.most=some n) (hn2:n<=sizeLine) (hdf:d.params.defaults=[]) (hr:CJ k callerA)
  (hY:∀(w:World) (h:Heap),YP w h->(K w.params).In h)
  (F:∀(w:World) (mg:Str->Option Value) (fa:Addr) (h:Heap),(K w.params).In h->h.Ns mainGlobals mg->mg d.name=some (.ref fa) ->
   ∃fd:FuncData,(∀(s:Shared) (u:Value),BindsTo s fd ⟨[u],[]⟩ [(x,u)]) /\
    ∀base:Heap,(K w.params).In base->base.Ns mainGlobals mg->BR l.prog w (K w.params) mg base (CX w) k fa fd [x] (sp w))
  (hsp:∀(w:World) (H:Hp) (a:Addr) (ns:List Int),ns.length<=n->AH2 H->SqL (K w.params) H a (ns.map V.int)->sp w [.ref a] H (fun v _=>v=.bl true) fun _ _ _=>False)
  (lH:∀(w:World) (H:Hp) (s:Shared) (e:Value) (s':Shared),CX w [] H s (fun _ _ _=>False) e s'->False) :
  W.WalkO q loose XP YP l.row.toRowW d [] (fun f vs=>PySem.call f vs):=by
 refine pc.attach_call hn hdf fun w zb ze mg mb fa o pm cd doc a vs ns G YY ho hd hcd hmg hobj hints aB hg=>?_;have KX:=hY w _ YY;obtain⟨fd,hb,hF⟩:=F w mg fa _ KX G.T.g hmg;exact Z9 KX G.T.g G.T.b G.T.builtins G.T.nolimit hg hobj hints (ASF aB hn2) hr hF hb (fun H hO hS=>hsp w H a ns aB hO hS) fun H e s'=>lH w H ze e s'
def Bb(s:Stmt)(j:Nat):Stmt:=match s with
 | .ClassDef _ _ _ body _ _ _ _ _ _ _=>body.getD j (.Pass ⟨0,0,0,0⟩)
 | _=>.Pass ⟨0,0,0,0⟩
def Bm(s:Stmt):Arguments:=match s with
 | .FunctionDef _ a _ _ _ _ _ _ _ _=>a
 | _=>{ posonlyargs:=[],args:=[],vararg:=none,kwonlyargs:=[],kw_defaults:=[],kwarg:=none,defaults:=[] }
def Bd(s:Stmt):List Stmt:=match s with
 | .FunctionDef _ _ b _ _ _ _ _ _ _=>b
 | _=>[]
def Ae(s:Stmt):Scope:=match s with
 | .FunctionDef _ _ _ _ _ _ sc _ _ _=>sc
 | _=>{ kind:=.function,names:=[],isGenerator:=false,isCoroutine:=false }
abbrev CX0:CXT:=fun _ _ _ _ _ _=>False
abbrev E0:XK:=fun _ _ _=>False
theorem YL:Dc CX0 X E0:=fun _ _ _ _ _ _ _ h=>h.elim
structure Fun(K:W.Frag)(x qual:Str)(st:Stmt)(f:Addr)(fd:FuncData):Prop where
 ex:∃(oc:Value) (od:Option Addr) (kV doc pm:Value) (an:Option Addr) (cdv ct:Value) (osl:Array (Option Value)),
  fd=W.fnOf x qual (Bm st) (Bd st) (Ae st) .none kV doc pm an cdv ct/\K.lookup f=some ⟨oc,od,.func fd,osl⟩/\W.codeIn K cdv qual=true
 kp:W.keepIn K (.ref f)=true
section
variable {P:Program}{w:World}{K:W.Frag}{mg:Str->Option Value}{base:Heap}
theorem Fun.ok{x qual:Str}{st:Stmt}{f:Addr}{fd:FuncData}{N ps:List Str}{k:Nat}{sp:Sp}(F:Fun K x qual st f fd)(S:Ao N ps (Ae st))(len:∀vs H Q E,sp vs H Q E->vs.length=ps.length)
  (hbody:∀(cdv:Value) (A:Around) (outer:List Env) (s:Shared) (H:Hp) (vs:List V) (Q:VK) (E:XK),CJ k (A.deeper (envOfC qual (Ae st) s.heap.objs.size f cdv))->sp vs H Q E ->
   ∃t,PSs (BL CX0 P w K mg base N qual (Ae st) f cdv A outer s H E).nox (Bd st) t/\t { nx:=fun _ H'=>Q .non H',rt:=Q } (Hc N vs) H):BR P w K mg base CX0 (k+1) f fd ps sp:=by
 obtain⟨oc,od,kV,doc,pm,an,cdv,ct,osl,rfl,lk,hcd⟩:=F.ex;walk_at "X"
theorem Fun.binds{st:Stmt}(F:Fun K x qual st f fd)
  (h:∀(kV doc pm:Value) (an:Option Addr) (cdv ct:Value) (us:List Value),us.length=ps.length->bindArgs (W.fnOf x qual (Bm st) (Bd st) (Ae st) .none kV doc pm an cdv ct) ⟨us,[]⟩=pure (ps.zip us)):DK K fd ps []:=by
 obtain⟨oc,od,kV,doc,pm,an,cdv,ct,osl,rfl,lk,hcd⟩:=F.ex;exact .all (h kV doc pm an cdv ct)
theorem AAw{st:Stmt}{kV doc pm cdv ct:Value}(l:K.lookup f=some ⟨oc,od,.func (W.fnOf x qual (Bm st) (Bd st) (Ae st) .none kV doc pm an cdv ct),osl⟩)
  (c:W.codeIn K cdv qual=true) (k:W.keepIn K (.ref f)=true):Fun K x qual st f (W.fnOf x qual (Bm st) (Bd st) (Ae st) .none kV doc pm an cdv ct):=⟨⟨oc,od,kV,doc,pm,an,cdv,ct,osl,rfl,l,c⟩,k⟩
end
section
variable {X:Cx}
theorem pv(i:Nat){x:Str}{pos:Pos}(hN:X.N[i]?=some x:=by rfl)(hv:Vis X.env.scope x:=by first | exact Or.inl rfl | exact Or.inr (Or.inl rfl) | exact Or.inr (Or.inr rfl))(hd:(x==("__debug__":Str))=false:=by decide)
  (hcd:(x==("__classdict__":Str))=false:=by decide):PE X (.Name x pos) (Qd i):=AGA hN hv hd hcd
end
theorem FZ{A B:Prop}(h:B):if false=true then A else B:=by
 rw[if_neg ARJ];exact h
theorem Ga{A B:Prop}(h:A):if true=true then A else B:=by
 rw[if_pos rfl];exact h
theorem Cw{c A B:Prop}[Decidable c](h1:c->A)(h2:¬c->B):if c then A else B:=by
 by_cases h:c
 .rw[if_pos h];exact h1 h
 .rw[if_neg h];exact h2 h
theorem Ji{c A B:Prop}[Decidable c](hc:c)(h:B):if (!decide c)=true then A else B:=by
 rw[decide_eq_true hc];exact FZ h
def Al(H H':Hp):Prop:=∀b o,H b=some o->H' b=some o
theorem Al.refl(H:Hp):Al H H:=fun _ _ h=>h
theorem Al.trans(a:Al H H1)(b:Al H1 H2):Al H H2:=fun c o h=>b c o (a c o h)
theorem Al.free(e:Al H H')(h:H' l=Option.none):H l=Option.none:=by
 cases q:H l with
 | none=>rfl
 | some o =>
  rw[e l o q]at h;cases h
section
variable {κ:Type}[DecidableEq κ]
def Dn(aG:List (κ×V))(k:κ):Option V:=(aG.find? fun kv=>decide (kv.1=k)).map (·.2)
def Ig(aG:List (κ×V))(k:κ)(v:V):List (κ×V) :=
 if (aG.any fun kv=>decide (kv.1=k))=true then aG.map (fun kv=>if kv.1=k then(kv.1,v) else kv) else aG++[(k,v)]
def Oe(aG:List (κ×V))(k:κ):List (κ×V):=aG.filter fun kv=>decide (kv.1≠k)
theorem Ck{p:κ×V}{r:List (κ×V)}{k:κ}(e:p.1=k):Dn (p::r) k=some p.2:=by simp[Dn,ATE,e]
theorem Cq{p:κ×V}{r:List (κ×V)}{k:κ}(e:¬p.1=k):Dn (p::r) k=Dn r k:=by simp[Dn,ATE,e]
theorem K5(k:κ):∀aG:List (κ×V),(aG.any fun kv=>decide (kv.1=k))=(Dn aG k).isSome
 | []=>rfl
 | p::r=>by
  rw[ATa];by_cases e:p.1=k
  .simp only[Ck e,decide_eq_true e,Bool.true_or,Option.isSome_some]
  .rw[Cq e,decide_eq_false e,Bool.false_or];exact K5 k r
theorem Ux(k j:κ)(y:V):∀aG:List (κ×V),Dn (aG.map fun kv=>if kv.1=k then(kv.1,y) else kv) j=(Dn aG j).map fun x=>if j=k then y else x
 | []=>rfl
 | p::r=>by
  have ih:=Ux k j y r;rw[ARm];by_cases h:p.1=k
  .rw[if_pos h];by_cases e:p.1=j
   .rw[Ck (p:=(p.1,y)) e,Ck e,ATb,if_pos (e.symm.trans h)]
   .rw[Cq (p:=(p.1,y)) e,Cq e,ih]
  .rw[if_neg h];by_cases e:p.1=j
   .rw[Ck (p:=p) e,Ck e,ATb,if_neg (fun z=>h (e.trans z))]
   .rw[Cq (p:=p) e,Cq e,ih]
theorem Qo(k j:κ)(y:V):∀aG:List (κ×V),Dn aG k=none->Dn (aG++[(k,y)]) j=if j=k then some y else Dn aG j
 | [],_=>by
  by_cases e:k=j
  .rw[if_pos e.symm];exact Ck (p:=(k,y)) e
  .rw[if_neg (fun z=>e z.symm)];exact Cq (p:=(k,y)) e
 | p::r,hn=>by
  rw[ASo];have hk:¬p.1=k:=fun z=>by rw[Ck z]at hn;cases hn
  rw[Cq hk]at hn;have ih:=Qo k j y r hn;by_cases e:p.1=j
  .rw[Ck e,Ck e,if_neg (fun z=>hk (e.trans z))]
  .rw[Cq e,Cq e,ih]
theorem AB4(aG:List (κ×V))(k j:κ)(y:V):Dn (Ig aG k y) j=if j=k then some y else Dn aG j:=by
 unfold Ig;by_cases a:(aG.any fun kv=>decide (kv.1=k))=true
 .rw[if_pos a,Ux];rw[K5]at a;by_cases e:j=k
  .obtain⟨x,hx⟩:=AUd.mp a;rw[if_pos e,e,hx,ATb,if_pos rfl]
  .rw[if_neg e];cases Dn aG j with
   | none=>rfl
   | some x=>rw[ATb,if_neg e]
 .rw[if_neg a];refine Qo k j y aG ?_;rw[K5]at a;cases q:Dn aG k with
  | none=>rfl
  | some x=>rw[q]at a;exact(a rfl).elim
theorem M4(aG:List (κ×V))(k:κ)(v:V):(Ig aG k v).length<=aG.length+1:=by
 unfold Ig
 split
 .rw[Io];omega
 .rw[ARG,ARD,ASJ];omega
theorem Gu.isSome_eq(r:Gu o u):o.isSome=u.isSome:=by
 cases o with
 | none=>cases u with
  | none=>rfl
  | some _=>exact(show False from r).elim
 | some _=>cases u with
  | none=>exact(show False from r).elim
  | some _=>rfl
theorem KV.val(r:KV aG vs)(k:κ):Gu (Dn aG k) (valueAt vs k):=by
 unfold KV at r
 induction r with
 | nil=>exact True.intro
 | @cons p q ps qs h t ih =>
  obtain⟨h1,h2⟩:=h;by_cases e:p.1=k
  .have e':q.1=k:=h1.symm.trans e;have b:valueAt (q::qs) k=some q.2:=by simp[valueAt,ATE,e']
   rw[Ck e,b];exact h2
  .have e':¬q.1=k:=fun z=>e (h1.trans z);have b:valueAt (q::qs) k=valueAt qs k:=by simp[valueAt,ATE,e']
   rw[Cq e,b];exact ih
theorem KV.any(r:KV aG vs)(k:κ):(aG.any fun kv=>decide (kv.1=k))=vs.any fun kv=>decide (kv.1=k):=by
 unfold KV at r
 induction r with
 | nil=>rfl
 | cons h t ih=>rw[ATa,ATa,ih,h.1]
theorem KV.repl(r:KV aG vs)(k:κ)(ry:Bh y u) :
  KV (aG.map fun kv=>if kv.1=k then(kv.1,y) else kv) (vs.map fun kv=>if kv.1=k then(kv.1,u) else kv):=by
 unfold KV at r ⊢
 induction r with
 | nil=>exact .nil
 | @cons p q ps qs h t ih =>
  rw[ARm,ARm];refine .cons ?_ ih;obtain⟨h1,h2⟩:=h;by_cases e:p.1=k
  .rw[if_pos e,if_pos (h1.symm.trans e)];exact⟨h1,ry⟩
  .rw[if_neg e,if_neg (fun z=>e (h1.trans z))];exact⟨h1,h2⟩
theorem KV.put(r:KV aG vs)(k:κ)(ry:Bh y u):KV (Ig aG k y) (stored vs k u):=by
 unfold Ig stored;rw[r.any k];by_cases e:(vs.any fun kv=>decide (kv.1=k))=true
 .rw[if_pos e,if_pos e];exact r.repl k ry
 .rw[if_neg e,if_neg e];exact Paired.snoc r ⟨rfl,ry⟩
theorem KV.drop(r:KV aG vs)(k:κ):KV (Oe aG k) (without vs k):=by
 unfold KV at r ⊢;unfold Oe without
 induction r with
 | nil=>exact .nil
 | @cons p q ps qs h t ih =>
  obtain⟨h1,h2⟩:=h;rw[AUp,AUp];by_cases e:p.1=k
  .have a:¬decide (p.1≠k)=true:=by simp[e]
   have b:¬decide (q.1≠k)=true:=by simp[h1.symm.trans e]
   rw[if_neg a,if_neg b];exact ih
  .have e':¬q.1=k:=fun z=>e (h1.trans z);have a:decide (p.1≠k)=true:=by simp[e]
   have b:decide (q.1≠k)=true:=by simp[e']
   rw[if_pos a,if_pos b];exact .cons ⟨h1,h2⟩ ih
theorem KV.length{aG:List (κ×V)}{vs:List (κ×Value)}(r:KV aG vs):aG.length=vs.length:=AR1 r
theorem ABp(aG:List (κ×V))(k:κ):(Oe aG k).length<=aG.length:=List.length_filter_le _ _
end
theorem Oq(r:Bh (kV k) u):(Bx P w).is k u=true:=by
 cases k with
 | inl i=>obtain⟨t,e⟩:=(show ∃t,u=Value.int i t from r);subst e;exact Va P w i t
 | inr x=>obtain⟨t,e⟩:=(show ∃t,u=Value.str x t from r);subst e;exact Ia P w x t
theorem Q0{P:Program}{w:World}:∀{ks:List Key} {us:List Value},Ba (ks.map kV) us->ItemsAre (Bx P w) ks us
 | [],_,r=>by rw[List.map_nil]at r;cases r;exact .nil
 | k::ks,_,r=>by
  rw[ARm]at r;cases r with
  | cons h t=>exact .cons (Oq h) (Q0 t)
abbrev KT(H:Hp):List (List Key×V)->List (List Key×Addr×Value)->Prop:=Paired fun p q=>p.1=q.1/\H q.2.1=some (.tup (p.1.map kV))/\Bh p.2 q.2.2
theorem KT.val(r:KT H aG xs)(k:List Key):Gu (Dn aG k) ((atKey xs k).map (·.2)):=by
 induction r with
 | nil=>exact True.intro
 | @cons p q ps qs h t ih =>
  obtain⟨h1,_,h2⟩:=h;by_cases e:p.1=k
  .have e':q.1=k:=h1.symm.trans e;have b:atKey (q::qs) k=some q.2:=by simp[atKey,ATE,e']
   rw[Ck e,b];exact h2
  .have e':¬q.1=k:=fun z=>e (h1.trans z);have b:atKey (q::qs) k=atKey qs k:=by simp[atKey,ATE,e']
   rw[Cq e,b];exact ih
theorem KT.repl(r:KT H aG xs)(k:List Key)(ry:Bh y u) :
  KT H (aG.map fun kv=>if kv.1=k then(kv.1,y) else kv) (xs.map (putAt k u)):=by
 induction r with
 | nil=>exact .nil
 | @cons p q ps qs h t ih =>
  rw[ARm,ARm];refine .cons ?_ ih;obtain⟨h1,h2,h3⟩:=h;unfold putAt;by_cases e:p.1=k
  .rw[if_pos e,if_pos (h1.symm.trans e)];exact⟨h1,h2,ry⟩
  .rw[if_neg e,if_neg (fun z=>e (h1.trans z))];exact⟨h1,h2,h3⟩
theorem KT.put(r:KT H aG xs)(k:List Key)(hb:H b=some (.tup (k.map kV)))(ry:Bh y u) :
  KT H (Ig aG k y) (storedH xs k b u):=by
 have e:(aG.any fun kv=>decide (kv.1=k))=(atKey xs k).isSome:=by
  rw[K5,(r.val k).isSome_eq,AVV]
 unfold Ig storedH;rw[e];by_cases q:(atKey xs k).isSome=true
 .rw[if_pos q,if_pos q];exact r.repl k ry
 .rw[if_neg q,if_neg q];exact Paired.snoc r ⟨rfl,hb,ry⟩
theorem KT.keeps(r:KT H aG xs)(ht:∀b ys,H b=some (.tup ys)->H' b=some (.tup ys)):KT H' aG xs :=
 Paired.mapP r fun _ _ z=>⟨z.1,ht _ _ z.2.1,z.2.2⟩
section
variable {P:Program}{w:World}{H:Hp}{h:Heap}{a:Addr}
theorem ADr(ok:HOk P w H h)(e:Rd H a u):Bp P w H h a u:=e.ok ok
theorem Vp(ok:HOk P w H h)(e:Rd H a (.dK aG)):aG.length<=sizeLine/\(a==sysModules)=false/\∃vs,KV aG vs/\h.DictOf (Bx P w) a vs :=
 show Bp P w H h a (.dK aG) from ADr ok e
theorem AD2(ok:HOk P w H h)(e:H a=some (.dK aG)):aG.length<=sizeLine/\(a==sysModules)=false/\∃vs,KV aG vs/\h.DictOf (Bx P w) a vs:=Vp ok (.inl e)
theorem Rm(ok:HOk P w H h)(e:H a=some (.tup (ks.map kV))):(tupleKind (Bx P w)).is h ks a:=by
 obtain⟨_,its,r,o,h1,h2,n,h3⟩:=(show Bp P w H h a (.tup (ks.map kV)) from ok a _ e);exact⟨o,its.toArray,n,h1,h2,h3,by simpa using Q0 r⟩
theorem VJ(ok:HOk P w H h)(e:Rd H a (.dT aG)):aG.length<=sizeLine/\(a==sysModules)=false /\
  ∃xs,KT H aG xs/\h.DictOfH (tupleKind (Bx P w)) a xs:=by
 obtain⟨z,y,xs,r,o,es,ep,h1,h2,h3,h4,h5⟩:=(show Bp P w H h a (.dT aG) from ADr ok e);refine⟨z,y,xs,r,o,es,ep,h1,h2,h3,h4,fun x hx=>?_,h5⟩;have all:∀{l:List (List Key×V)} {m:List (List Key×Addr×Value)},KT H l m->∀x∈m,(tupleKind (Bx P w)).is h x.1 x.2.1:=by
  intro l m q
  induction q with
  | nil=>intro x hx;exact nomatch hx
  | @cons p q ps qs hq t ih =>
   intro x hx;rcases ARI.mp hx with e|hx
   .subst e;exact Rm ok (by rw[<-hq.1];exact hq.2.1)
   .exact ih x hx
 exact all r x hx
theorem AJz(ok:HOk P w H h)(e:H a=some (.dT aG)):aG.length<=sizeLine/\(a==sysModules)=false /\
  ∃xs,KT H aG xs/\h.DictOfH (tupleKind (Bx P w)) a xs:=VJ ok (.inl e)
end
def Mu(H:Hp)(a:Addr)(y:V)(r:Option V):Prop :=
 (∃aG k,Rd H a (.dK aG)/\y=kV k/\r=Dn aG k)\/∃aG k b,Rd H a (.dT aG)/\y=.ref b/\H b=some (.tup (k.map kV))/\r=Dn aG k
def Ym(H:Hp)(a:Addr)(y v:V)(H':Hp):Prop :=
 (∃aG k,H a=some (.dK aG)/\y=kV k/\aG.length<sizeLine/\H'=upd H a (.dK (Ig aG k v))) \/
 ∃aG k b,H a=some (.dT aG)/\y=.ref b/\H b=some (.tup (k.map kV))/\aG.length<sizeLine/\H'=upd H a (.dT (Ig aG k v))
theorem Mu.k{k:Key}(e:H a=some (.dK aG)):Mu H a (kV k) (Dn aG k):=.inl ⟨aG,k,.inl e,rfl,rfl⟩
theorem Ym.k{k:Key}(e:H a=some (.dK aG))(hl:aG.length<sizeLine):Ym H a (kV k) v (upd H a (.dK (Ig aG k v))):=.inl ⟨aG,k,e,rfl,hl,rfl⟩
section
variable {X:Cx}{aA:List (Addr×Obj)}{Y:St}{H:Hp}{s:Shared}{a:Addr}{y v:V}{u r:Value}{o:Option V}{A:Around}{E:Value->Shared->Prop}
theorem Inv.big(I:Inv X aA Y H s):sysModules<s.heap.objs.size:=by
 have h:mainGlobals<s.heap.objs.size:=(I.mod.glob.keeps I.bk).lt;exact Nat.lt_trans (by decide) h
theorem Zh(hu:A.units+1<cLine)(I:Inv X aA Y H s)(g:Mu H a y (some v))(ry:Bh y u)(h:∀w' s',Inv X aA Y H s'->Bh v w'->Q w' s') :
  wpAny (model X.prog X.w) A (getItem (.ref a) u) Q E s:=by
 rcases g with⟨aG,k,e,ey,l⟩|⟨aG,k,b,e,ey,eb,l⟩
 .subst ey;obtain⟨z,hd,vs,rel,dd⟩:=Vp I.hok e;obtain⟨w',hw,dP⟩:=Gu.some_of (v:=v) (o:=valueAt vs k) (by rw[l];exact rel.val k);exact wpAny_getItem_of (Oq ry) dd.mapOf hw (h w' _ (I.tok _) dP)
 .walk_at "aG";obtain⟨w',hw,dP⟩:=Gu.some_of (v:=v) (o:=(atKey xs k).map (·.2)) (by rw[l];exact rel.val k);obtain⟨p,hp,hp2⟩:=ASY.mp hw;refine wpAny_getItem_heap (tupleKind_room_in1 hu) (Rm I.hok eb) dd hp ?_;rw[hp2];exact h w' _ (I.tok _) dP
theorem ACw(hu:A.units+1<cLine)(I:Inv X aA Y H s)(g:Mu H a y o)(ry:Bh y u)(h:∀s',Inv X aA Y H s'->Q (.bool (!o.isSome)) s') :
  wpAny (model X.prog X.w) A (compareOp .NotIn u (.ref a)) Q E s:=by
 rcases g with⟨aG,k,e,ey,l⟩|⟨aG,k,b,e,ey,eb,l⟩
 .subst ey;obtain⟨z,hd,vs,rel,dd⟩:=Vp I.hok e;refine wpAny_notIn_of (Oq ry) hd dd.mapOf ?_;rw[<-(rel.val k).isSome_eq,<-l];exact h _ (I.tok _)
 .walk_at "aG";refine wpAny_notIn_heap (tupleKind_room_in1 hu) (Rm I.hok eb) hd dd ?_;have q:=(rel.val k).isSome_eq;rw[AVV]at q;rw[<-q,<-l];exact h _ (I.tok _)
theorem Rg(I:Inv X aA Y H s)(mu:Mut (H a))(hs:Heap.SameBut a s.heap h')(he:∃q,h'.get? a=some q)(new:Bp X.prog X.w (upd H a ob) h' a ob) :
  Inv X aA Y (upd H a ob) { s with heap:=h',toks:=t' } :=
 I.write (x:=a) (e:=a) mu (.inl rfl) (fun b q hb z=>(hs.2 b hb).trans z) he new
theorem Zx(z:aG.length<=sizeLine)(hd:(a==sysModules)=false)(rel:KV aG vs)(dd:h'.DictOf (Bx P w) a vs) :
  Bp P w H' h' a (.dK aG):=⟨z,hd,vs,rel,dd⟩
theorem ZP(hu:A.units+1<cLine)(I:Inv X aA Y H s)(g:Ym H a y v H')(ry:Bh y u)(rv:Bh v r)(h:∀s',Inv X aA Y H' s'->Q () s') :
  wpAny (model X.prog X.w) A (setItem (.ref a) u r) Q E s:=by
 rcases g with⟨aG,k,e,ey,l,eH⟩|⟨aG,k,b,e,ey,eb,l,eH⟩
 .subst ey eH;obtain⟨z,hd,vs,rel,dd⟩:=AD2 I.hok e;have hz:vs.length<=sizeLine:=by rw[<-rel.length];exact z
  have hl:(Ig aG k v).length<=sizeLine:=by have:=M4 aG k v;omega
  refine wpAny_setItem_pairs (hsz:=hz) (Oq ry) dd fun h' ir hs=>h _ ?_;have he:∃q,h'.get? a=some q:=let ⟨q,_,_,hq,_⟩:=ir;⟨q,hq⟩;exact Rg I (by rw[e];exact True.intro) hs he (Zx hl hd (rel.put k rv) ir)
 .subst ey eH;cases (show u=Value.ref b from ry);obtain⟨z,hd,xs,rel,dd⟩:=AJz I.hok e;have hz:xs.length<=sizeLine:=by rw[<-AR1 rel];exact z
  have hl:(Ig aG k v).length<=sizeLine:=by have:=M4 aG k v;omega
  refine wpAny_setItem_heap (hsz:=hz) (tupleKind_room_in1 hu) (Rm I.hok eb) dd fun h' ir hs=>h _ ?_;obtain⟨q,es,ep,hq,h2,h3,h4,_,h5⟩:=ir;refine Rg I (by rw[e];exact True.intro) hs ⟨q,hq⟩ ⟨hl,hd,_,(rel.put k eb rv).keeps fun c ys ec=>?_,q,es,ep,hq,h2,h3,h4,h5⟩;rw[An (Gk ec e (fun z=>nomatch z))];exact ec
end
section
variable {X:Cx}{aA:List (Addr×Obj)}{Y:St}{H:Hp}{s:Shared}{a:Addr}{aG:List (Key×V)}{k:Key}{u:Value}{A:Around}{E:Value->Shared->Prop}
theorem AMd(I:Inv X aA Y H s)(e:H a=some (.dK aG))(ry:Bh (kV k) u)(l:Dn aG k=some v)(hm:more=[]\/∃x,more=[x])
  (h:∀w' s',Inv X aA Y (upd H a (.dK (Oe aG k))) s'->Bh v w'->Q w' s'):wpAny (model X.prog X.w) A (call (.builtin "dict.pop") (.ref a::u::more)) Q E s:=by
 obtain⟨z,hd,vs,rel,dd⟩:=AD2 I.hok e;obtain⟨w',hw,dP⟩:=Gu.some_of (v:=v) (o:=valueAt vs k) (by rw[<-l];exact rel.val k);have hp:(keyPart u).isSome=true:=by
  cases k with
  | inl i=>obtain⟨t,q⟩:=(show ∃t,u=Value.int i t from ry);subst q;rfl
  | inr x=>obtain⟨t,q⟩:=(show ∃t,u=Value.str x t from ry);subst q;rfl
 have ha:argsOk "dict.pop" ⟨.ref a::u::more,[]⟩:=by
  rcases hm with q|⟨x,q⟩
  .subst q;exact PySem.F.args_dict_pop_2 _ _
  .subst q;exact PySem.F.args_dict_pop_3 _ _ _
 refine call_meetsIn AUz dd.typeIs PySem.F.entry_dict_pop ha (meets_dict_pop_there (Bx X.prog X.w) a (Oq ry) more hm hp)
  ⟨vs,w',dd,by rw[<-rel.length];exact z,hw,fun h' ir hs=>h w' _ ?_ dP⟩
 have he:∃q,h'.get? a=some q:=let ⟨q,_,_,hq,_⟩:=ir;⟨q,hq⟩;exact Rg I (by rw[e];exact True.intro) hs he (Zx (ASF (ABp aG k) z) hd (rel.drop k) ir)
end
def AH4(i:Expr):Prop:=∀ov iv,subscripted i false ov iv=operate [ov,iv] (getItem ov iv)
theorem Xj{T id:String}
  (hl:typeLookup (.type T) "__getitem__"=pure (some (.builtin id))) (hs:AH4 slice)
  (h:wpAny (model prog w) A (eval value env) (fun o ze=>wpAny (model prog w) A (eval slice env) (fun i zi=>zi.TypeIs o T/\wpAny (model prog w) A (getItem o i) Q E zi) E ze) E s) :
  wpAny (model prog w) A (eval (.Subscript value slice pos) env) Q E s:=by
 refine Subscript_ (ARe h (fun o ze zr=>ARe zr (fun i zi zu=>?_) fun _ _ x=>x) fun _ _ x=>x);obtain⟨hT,zu⟩:=zu;unfold subscriptTail;refine AQ8 ?_;rw[getitemInPython_of_ne hT.not_modules];refine AQ8 (wpAny_specialOf hT hl ?_);have fin:wpAny (model prog w) A (subscripted slice false o i) (fun r zt=>wpAny (model prog w) A (letTemporaryGo value o r >>= fun _=>pure r) Q E zt) E zi:=by
  rw[hs o i];exact wpAny_operating (ARe zu (fun r zt zw=>AQ8 (wpAny_letTemporaryGo (ARL zw))) fun _ _ x=>x)
 first
  | exact ARL (AQ8 fin)
  | exact AQ8 (ARL (AQ8 fin))
  | exact AQ8 fin
theorem VR{Y:St}(I:Inv X aA Y H s)(g:Mu H a y o):s.TypeIs (.ref a) "dict":=by
 rcases g with⟨aG,k,e,_,_⟩|⟨aG,k,b,e,_,_,_⟩
 .obtain⟨_,_,vs,_,dd⟩:=Vp I.hok e;exact dd.typeIs
 .obtain⟨_,_,xs,_,dd⟩:=VJ I.hok e;exact dd.typeIs
def AOT(td ty:TE):TE:=fun Y H Q=>td Y H fun x H1=>ty Y H1 fun y H2=>∃a v,x=.ref a/\Mu H2 a y (some v)/\Q v H2
def AQf(ty td:TE):TE:=fun Y H Q=>ty Y H fun y H1=>td Y H1 fun x H2=>∃a o,x=.ref a/\Mu H2 a y o/\Q (.bl o.isSome) H2
def ADH(ty td:TE):TE:=fun Y H Q=>ty Y H fun y H1=>td Y H1 fun x H2=>∃a o,x=.ref a/\Mu H2 a y o/\Q (.bl (!o.isSome)) H2
def AMI(td ty tv:TE):TS:=fun D Y H=>tv Y H fun v H1=>td Y H1 fun x H2=>ty Y H2 fun y H3=>∃a H4,x=.ref a/\Ym H3 a y v H4/\D.nx Y H4
def AQF(td ty tv:TE)(rd:V->V->Hp->VK->Prop):TS:=fun D Y H=>td Y H fun x H1=>ty Y H1 fun y H2=>∃a v,x=.ref a/\Mu H2 a y (some v) /\
 tv Y H2 fun y2 H3=>rd v y2 H3 fun z H4=>∃H5,Ym H4 a y z H5/\D.nx Y H5
def AQQ(td ty:TE):TS:=fun D Y H=>td Y H fun x H1=>ty Y H1 fun y H2=>∃a aG k,x=.ref a/\H2 a=some (.dK aG)/\y=kV k/\(Dn aG k).isSome=true/\D.nx Y (upd H2 a (.dK (Oe aG k)))
section
variable {X:Cx}{o i e value:Expr}{pos pos' tpos:Pos}{td ty tv:TE}
theorem ACZ(hu:X.A.units+1<cLine)(ho:PE X o td)(hi:PE X i ty)(hs:AH4 i):PE X (.Subscript o i pos) (AOT td ty):=by
 walk_at "i";refine Xj AUY.lookup hs (thn (ho aA s Y H _ I h) fun u s1 ⟨x,H1,I1,rx,q1⟩=>thn (hi aA s1 Y H1 _ I1 q1) fun iv s2 ⟨y,H2,I2,ry,a,v,ex,g,q2⟩=>?_);walk_at "q";exact⟨VR I2 g,Zh hu I2 g ry fun w' s3 I3 dP=>⟨v,H2,I3,dP,q2⟩⟩
theorem YW(hu:X.A.units+1<cLine)(hi:PE X i ty)(ho:PE X o td):PC X .NotIn i o (ADH ty td):=by
 walk_at "i";refine thn (hi aA s Y H _ I h) fun iv s1 ⟨y,H1,I1,ry,q1⟩=>thn (ho aA s1 Y H1 _ I1 q1) fun u s2 ⟨x,H2,I2,rx,a,ov,ex,g,q2⟩=>?_;walk_at "q";exact ACw hu I2 g ry fun s3 I3=>⟨.bl (!ov.isSome),H2,I3,rfl,q2⟩
theorem ACk(hu:X.A.units+1<cLine)(ho:PE X o td)(hi:PE X i ty)(hv:PE X value tv)(hs:swapsWith value (some (.Subscript o i pos')) pos.line X.env=pure false) :
  PS X (.Assign [.Subscript o i pos'] value pos) (AMI td ty tv):=by
 walk_at "S";refine wpAny_Assign_Subscript (thn (hv aA s Y H _ I h) fun r s1 ⟨v,H1,I1,rv,q1⟩=>thn (ho aA s1 Y H1 _ I1 q1) fun u s2 ⟨x,H2,I2,rx,q2⟩=>thn (hi aA s2 Y H2 _ I2 q2) fun iv s3 ⟨y,H3,I3,ry,a,H4,ex,g,q3⟩=>?_) hs;walk_at "q";exact ZP hu I3 g ry rv fun s4 I4=>⟨Y,H4,I4,q3⟩
end
theorem AAu(h:Heap)(hb:sysModules<h.objs.size):Bp P w H (h.push { cls:=.type "dict",data:=.dict #[] }) h.objs.size (.dK []) :=
 ⟨ARu _,beq_eq_false_iff_ne.mpr (ATt (ARt hb)),[],.nil,Heap.DictOf.new h⟩
def AIc:TE:=fun _ H Q=>∀p,H p=none->Q (.ref p) (upd H p (.dK []))
def APl:TE:=fun _ H Q=>∀p,H p=none->Q (.ref p) (upd H p (.dT []))
section
variable {X:Cx}{pos:Pos}
theorem ABS:PE X (.Dict [] [] pos) AIc:=fun aA s Y H Q I h =>
 wpAny_Dict_empty ⟨.ref s.heap.objs.size,_,I.laid (a:=s.heap.objs.size) (o:=.dK []) (t':=s.toks) (fun _ _ q=>ARA _ q) (ARH _) (AAu s.heap I.big),rfl,h _ (I.hok.fresh (ARH _))⟩
end
def WY:List (TE×TE)->St->Hp->(List (V×V)->Hp->Prop)->Prop
 | [],_,H,Q=>Q [] H
 | (tk,tv)::r,Y,H,Q=>tk Y H fun x H1=>tv Y H1 fun y H2=>WY r Y H2 fun ps H3=>Q ((x,y)::ps) H3
abbrev VV:List (V×V)->List (Value×Value)->Prop:=Paired fun p q=>Bh p.1 q.1/\Bh p.2 q.2
def PPs(X:Cx)(pos:Pos)(keys:List (Option Expr))(values:List Expr)(jd:List (TE×TE)):Prop :=
 ∀(aA:List (Addr×Obj)) (s:Shared) (Y:St) (H:Hp) (Q:List (V×V)->Hp->Prop),Inv X aA Y H s->WY jd Y H Q ->
  wpAny (model X.prog X.w) X.A (evalPairs (pairTrees keys values X.env pos)) (fun vs s'=>∃ps H',Inv X aA Y H' s'/\VV ps vs/\Q ps H') X.xe s
def AIw(aG more:List (Key×V)):List (Key×V):=more.foldl (fun acc kv=>Ig acc kv.1 kv.2) aG
def AQP(jd:List (TE×TE)):TE:=fun Y H Q=>∀p,H p=none->WY jd Y (upd H p (.dK [])) fun ps H2=>H2 p=some (.dK [])/\∃aG:List (Key×V),ps=aG.map (fun kv=>(kV kv.1,kv.2))/\aG.length<=15/\Q (.ref p) (upd H2 p (.dK (AIw [] aG)))
structure M1(X:Cx)(o:Expr)(m:Str)(aF:Pos)(e:Expr)(aD:Pos):Prop where
 base:attributeBase o m X.env (eval o X.env)=eval o X.env
 few:((backTo aD (starEach [e] X.env)).all (fun x=>!x.1)&&(backToKw aD (keywordEach [] X.env)).all (fun x=>x.1.isSome)
   &&decide (([e]:List Expr).length+([]:List Keyword).length+(if ([]:List Keyword).isEmpty then 0 else 1)<30))=true
 line:(aF.endLine==aD.line)=true
 trees:backTo aD (starEach [e] X.env)=[(false,eval e X.env)]
structure M2(X:Cx)(o:Expr)(m:Str)(aF:Pos)(e f:Expr)(aD:Pos):Prop where
 base:attributeBase o m X.env (eval o X.env)=eval o X.env
 few:((backTo aD (starEach [e,f] X.env)).all (fun x=>!x.1)&&(backToKw aD (keywordEach [] X.env)).all (fun x=>x.1.isSome)
   &&decide (([e,f]:List Expr).length+([]:List Keyword).length+(if ([]:List Keyword).isEmpty then 0 else 1)<30))=true
 line:(aF.endLine==aD.line)=true
 trees:backTo aD (starEach [e,f] X.env)=[(false,eval e X.env),(false,eval f X.env)]
def IsD(H:Hp)(a:Addr):Prop:=(∃aG,Rd H a (.dK aG))\/∃aG,Rd H a (.dT aG)
theorem AG7{Y:St}(I:Inv X aA Y H s)(d:IsD H a) :
  s.TypeIs (.ref a) "dict"/\(∀b,Value.ref a=.ref b->∃ob,s.heap.get? b=some ob/\ob.dict=none)/\(a==sysModules)=false:=by
 rcases d with⟨aG,e⟩|⟨aG,e⟩
 .obtain⟨_,hd,vs,_,dd⟩:=Vp I.hok e;walk_at "aU";exact⟨ob,h1,h2.2.1⟩
 .obtain⟨_,hd,xs,_,dd⟩:=VJ I.hok e;walk_at "aU";exact⟨ob,h1,h2.2.1⟩
section
variable {X:Cx}{aA:List (Addr×Obj)}{Y:St}{H:Hp}{s:Shared}{a:Addr}{y d:V}{u r:Value}{o:Option V}{A:Around}{E:Value->Shared->Prop}
end
def APE(td ty:TE):TE:=fun Y H Q=>td Y H fun x H1=>∃a,x=.ref a/\IsD H1 a/\ty Y H1 fun y H2=>∃o,Mu H2 a y o/\Q (o.getD .non) H2
def AO0(td ty tx:TE):TE:=fun Y H Q=>td Y H fun x H1=>∃a,x=.ref a/\IsD H1 a/\ty Y H1 fun y H2=>tx Y H2 fun z H3=>∃o,Mu H3 a y o/\Q (o.getD z) H3
def AEu(td ty:TE):TE:=fun Y H Q=>td Y H fun x H1=>∃a,x=.ref a/\IsD H1 a/\ty Y H1 fun y H2=>∃aG k v,H2 a=some (.dK aG)/\y=kV k/\Dn aG k=some v/\Q v (upd H2 a (.dK (Oe aG k)))
def APX(td ty tx:TE):TE:=fun Y H Q=>td Y H fun x H1=>∃a,x=.ref a/\IsD H1 a/\ty Y H1 fun y H2=>tx Y H2 fun z H3=>∃aG k,H3 a=some (.dK aG)/\y=kV k /\
 (∀v,Dn aG k=some v->Q v (upd H3 a (.dK (Oe aG k))))/\(Dn aG k=none->Q z H3)
section
variable {X:Cx}{o e f:Expr}{aF aD:Pos}{td ty tx:TE}
theorem AAP(ho:PE X o td)(he:PE X e ty)(m:M1 X o "pop" aF e aD):PE X (.Call (.Attribute o "pop" aF) [e] [] aD) (AEu td ty):=by
 walk_at "i";refine wpAny_Call_method m.base m.few m.line PySem.F.plainAttrs_dict AUz PySem.F.type_dict_pop (thn (ho aA s Y H _ I h) fun u s1 ⟨x,H1,I1,rx,a,ex,d,q1⟩=>?_);walk_at "q";obtain⟨t1,t2,_⟩:=AG7 I1 d;refine⟨t1,t2,?_⟩;rw[m.trees];refine ATi rfl (ATO (Calls.spliced_cons (thn (he aA s1 Y H1 _ I1 q1) fun iv s2 ⟨y,H2,I2,ry,aG,k,v,ea,ey,l,q2⟩=>Calls.spliced_nil ?_)));subst ey;exact AMd I2 ea ry l (.inl rfl) fun w' s3 I3 dP=>⟨v,_,I3,dP,q2⟩
end
section
variable {X:Cx}{aA:List (Addr×Obj)}{Y:St}{H:Hp}{s:Shared}{a:Addr}{aG:List (Key×V)}{A:Around}{E:Value->Shared->Prop}
end
section
variable {X:Cx}{aA:List (Addr×Obj)}{Y:St}{H:Hp}{s:Shared}{a:Addr}{y:V}{u:Value}{A:Around}{E:Value->Shared->Prop}
end
end L2
namespace Ra
def Bt(n:Nat)(x:Int):Prop:=x.natAbs<2^n
theorem Bt.mono(h:Bt m x)(l:m<=n):Bt n x:=ARX h (ATP (by decide) l)
theorem Bt.neg(h:Bt n x):Bt n (-x):=by unfold Bt at *;rw[Int.natAbs_neg];exact h
theorem Bt.mul(h:Bt m x)(k:Bt n y):Bt (m+n) (x*y):=by
 unfold Bt at *;rw[ATR,Nat.pow_add];exact Nat.mul_lt_mul'' h k
theorem Bt.of_le(h:Bt n x)(k:y.natAbs<=x.natAbs):Bt n y:=AVH k h
theorem Bt.ediv(h:Bt n x):Bt n (x/y):=h.of_le (Int.natAbs_ediv_le_natAbs x y)
theorem Bt.zero:Bt n 0:=Nat.pow_pos (by decide)
theorem Bt.between(h:-(2^n:Int)<x)(k:x<(2^n:Int)):Bt n x:=by
 unfold Bt;have e:((2^n:Nat):Int)=(2:Int)^n:=by push_cast;rfl
 omega
def g(a b:Int):Int:=(Int.gcd a b:Nat)
theorem HQ(a b:Int):0<=g a b:=AVI _
theorem DW(a b:Int):g a b ∣ a:=Int.gcd_dvd_left a b
theorem Br(a b:Int):g a b ∣ b:=Int.gcd_dvd_right a b
theorem Hx(h:b≠0):0<g a b:=by
 have h1:0<Int.gcd a b:=AT2 a h;unfold g;omega
theorem AGp(h:g a b=0):a=0/\b=0:=by
 have:Int.gcd a b=0:=by unfold g at h;omega
 exact Int.gcd_eq_zero_iff.mp this
structure Fq(a b:Int):Prop where
 pos:0<b
 one:Int.gcd a b=1
theorem KZ(h:Int.gcd a b=1)(k:Int.gcd a c=1):Int.gcd a (b*c)=1:=by
 show Nat.gcd a.natAbs (b*c).natAbs=1;rw[ATR];exact Nat.Coprime.mul_right h k
theorem Oh(h:Int.gcd a c=1)(k:Int.gcd b c=1):Int.gcd (a*b) c=1:=by
 rw[ATW];exact KZ (by rw[ATW];exact h) (by rw[ATW];exact k)
theorem Kf(h:Int.gcd a b=1)(d:c ∣ a):Int.gcd c b=1:=by
 have hd:c.natAbs ∣ a.natAbs:=ARo.mpr d;exact Nat.Coprime.coprime_dvd_left hd h
theorem Kd(h:Int.gcd a b=1)(d:c ∣ b):Int.gcd a c=1:=by
 rw[ATW];exact Kf (by rw[ATW];exact h) d
theorem JZ(h:b≠0):Int.gcd (a/g a b) (b/g a b)=1:=by
 have hp:0<Int.gcd a b:=AT2 a h;exact Int.gcd_ediv_gcd_ediv_gcd hp
theorem X8(h:Int.gcd a b=1):Int.gcd (a+k*b) b=1:=by
 rw[Int.gcd_add_mul_right_left];exact h
theorem Vw{a b:Int}:g a b*(a/g a b)=a:=AU2 (DW a b)
theorem P0{a b:Int}:g a b*(b/g a b)=b:=AU2 (Br a b)
def Wh(a b c d:Int):Int:=a*(d/g b d)+c*(b/g b d)
def VD(a b c d:Int):Int:=Wh a b c d/g (Wh a b c d) (g b d)
def Vl(a b c d:Int):Int:=(b/g b d)*(d/g (Wh a b c d) (g b d))
theorem AHr(h:Fq a b)(k:Fq c d):Fq (VD a b c d) (Vl a b c d)/\VD a b c d*(b*d)=(a*d+c*b)*Vl a b c d:=by
 have hs:0<g b d:=Hx (by have:=k.pos;omega);obtain⟨s,hs'⟩:∃s,s=g b d:=⟨_,rfl⟩;obtain⟨x,hx⟩:∃x,x=b/g b d:=⟨_,rfl⟩;obtain⟨y,hy⟩:∃y,y=d/g b d:=⟨_,rfl⟩;obtain⟨t,ht⟩:∃t,t=a*y+c*x:=⟨_,rfl⟩;have et:Wh a b c d=t:=by rw[ht,hx,hy];rfl
 have eb:s*x=b:=by rw[hs',hx];exact Vw
 have ed:s*y=d:=by rw[hs',hy];exact P0
 have pe:Int.gcd x y=1:=by rw[hx,hy];exact JZ (by have:=k.pos;omega)
 have hx0:0<x:=by rw[hx];exact ASX h.pos (HQ _ _) (DW _ _)
 have rC:0<y:=by rw[hy];exact ASX k.pos (HQ _ _) (Br _ _)
 rw[<-hs']at hs;obtain⟨l,hl⟩:∃l,l=g t s:=⟨_,rfl⟩;have hl0:0<l:=by rw[hl];exact Hx (by omega)
 obtain⟨T,hT⟩:∃T,T=t/g t s:=⟨_,rfl⟩;obtain⟨S,hS⟩:∃S,S=s/g t s:=⟨_,rfl⟩;have eT:l*T=t:=by rw[hl,hT];exact Vw
 have eS:l*S=s:=by rw[hl,hS];exact P0
 have rE:Int.gcd T S=1:=by rw[hT,hS];exact JZ (by omega)
 have hS0:0<S:=by rw[hS];exact ASX hs (HQ _ _) (Br _ _)
 have eN:VD a b c d=T:=by unfold VD;rw[et,<-hs',hT]
 have eD:Vl a b c d=x*(S*y):=by
  unfold Vl;have hdl:d/g t s=S*y:=by rw[<-hl,<-ed,<-eS,ASq,ASv _ (by omega)]
  rw[et,<-hx,<-hs',hdl]
 have rF:Int.gcd a x=1:=Kd h.one ⟨s,by rw[<-eb,ASU]⟩;have rH:Int.gcd c y=1:=Kd k.one ⟨s,by rw[<-ed,ASU]⟩;have ctx:Int.gcd t x=1:=by
  rw[ht];exact X8 (Oh rF (by rw[ATW];exact pe))
 have cty:Int.gcd t y=1:=by
  rw[ht,Int.add_comm];exact X8 (Oh rH pe)
 have dT:T ∣ t:=⟨l,by rw[<-eT,ASU]⟩;rw[eN,eD];refine⟨⟨ATV hx0 (ATV hS0 rC),KZ (Kf ctx dT) (KZ rE (Kf cty dT))⟩,?_⟩;have e1:a*d+c*b=s*t:=by
  rw[<-ed,<-eb,ht,Int.mul_add];simp[ASU,ATj,ASq]
 rw[e1,<-eT,<-ed,<-eb,<-eS];simp[ASU,ATj,ASq]
def We(a b c d:Int):Int:=(a/g a d)*(c/g c b)
def Wn(a b c d:Int):Int:=(b/g c b)*(d/g a d)
theorem AHI(h:Fq a b)(k:Fq c d):Fq (We a b c d) (Wn a b c d)/\We a b c d*(b*d)=(a*c)*Wn a b c d:=by
 have hb:=h.pos;have hd:=k.pos;have p1:0<g a d:=Hx (by omega);have p2:0<g c b:=Hx (by omega);obtain⟨f,hf⟩:∃f,f=g a d:=⟨_,rfl⟩;obtain⟨s,hs⟩:∃s,s=g c b:=⟨_,rfl⟩;obtain⟨a',ha'⟩:∃x,x=a/g a d:=⟨_,rfl⟩;obtain⟨d',hd'⟩:∃x,x=d/g a d:=⟨_,rfl⟩;obtain⟨c',hc'⟩:∃x,x=c/g c b:=⟨_,rfl⟩;obtain⟨b',hb'⟩:∃x,x=b/g c b:=⟨_,rfl⟩;have ea:f*a'=a:=by rw[hf,ha'];exact Vw
 have ed:f*d'=d:=by rw[hf,hd'];exact P0
 have ec:s*c'=c:=by rw[hs,hc'];exact Vw
 have eb:s*b'=b:=by rw[hs,hb'];exact P0
 have c1:Int.gcd a' d'=1:=by rw[ha',hd'];exact JZ (by omega)
 have c2:Int.gcd c' b'=1:=by rw[hc',hb'];exact JZ (by omega)
 have c3:Int.gcd a' b'=1:=Kf (Kd h.one ⟨s,by rw[<-eb,ASU]⟩) ⟨f,by rw[<-ea,ASU]⟩;have c4:Int.gcd c' d'=1:=Kf (Kd k.one ⟨f,by rw[<-ed,ASU]⟩) ⟨s,by rw[<-ec,ASU]⟩;have hb0:0<b':=by rw[hb'];exact ASX hb (HQ _ _) (Br _ _)
 have hd0:0<d':=by rw[hd'];exact ASX hd (HQ _ _) (Br _ _)
 have eN:We a b c d=a'*c':=by unfold We;rw[ha',hc']
 have eD:Wn a b c d=b'*d':=by unfold Wn;rw[hb',hd']
 rw[eN,eD];refine⟨⟨ATV hb0 hd0,Oh (KZ c3 c1) (KZ c2 c4)⟩,?_⟩;rw[<-ea,<-ed,<-ec,<-eb];simp[ASU,ATj,ASq]
theorem AIg(ha:0<=a)(hb:0<b):g b (a%b)=g a b:=by
 unfold g;rw[ATW a b];exact congrArg _ (by rw[Int.emod_def,Int.sub_eq_add_neg,<-AVA,Int.gcd_add_mul_left_right])
theorem ALe(ha:0<=a):g a 0=a:=by
 unfold g;rw[Int.gcd_zero_right];omega
theorem ANg(a b:Int):g (if a<0 then -a else a) (if b<0 then -b else b)=g a b:=by
 unfold g
 split<;>split<;>simp
def sh(t b:Int):Int:=if b<0 then -(g t b) else g t b
def frN(t b:Int):Int:=t.fdiv (sh t b)
def frD(t b:Int):Int:=b.fdiv (sh t b)
theorem ALx(h:b≠0):sh t b≠0:=by
 have:=Hx (a:=t) h;unfold sh
 split<;>omega
theorem AKX(h:b≠0)(k:Bt n b):Bt n (sh t b):=by
 have d:(g t b).natAbs<=b.natAbs:=by
  have:=ARo.mpr (Br t b);exact AT3 (by omega) this
 refine k.of_le ?_;unfold sh
 split
 .rw[Int.natAbs_neg];exact d
 .exact d
theorem VM(t b:Int):sh t b ∣ t:=by
 unfold sh
 split
 .exact Int.neg_dvd.mpr (DW t b)
 .exact DW t b
theorem Tz(t b:Int):sh t b ∣ b:=by
 unfold sh
 split
 .exact Int.neg_dvd.mpr (Br t b)
 .exact Br t b
theorem AFu(t b:Int):frN t b=if b<0 then -(t/g t b) else t/g t b:=by
 unfold frN;rw[AS1 (VM t b)];unfold sh
 split
 .rw[Int.ediv_neg]
 .rfl
theorem AGd(t b:Int):frD t b=if b<0 then -(b/g t b) else b/g t b:=by
 unfold frD;rw[AS1 (Tz t b)];unfold sh
 split
 .rw[Int.ediv_neg]
 .rfl
theorem AKV(h:b≠0):Fq (frN t b) (frD t b)/\frN t b*b=t*frD t b:=by
 have hg:0<g t b:=Hx h;have e1:=@Vw t b;have e2:=@P0 t b;have c:=JZ (a:=t) h;rw[AFu,AGd];generalize t/g t b=x at *;generalize b/g t b=y at *;generalize g t b=d at *;have key:x*b=t*y:=by
  rw[<-e1,<-e2];simp[ASU,ATj]
 by_cases hb:b<0
 .rw[if_pos hb,if_pos hb];refine⟨⟨?_,by rw[Int.neg_gcd,Int.gcd_neg];exact c⟩,by rw[Int.neg_mul,AVA,key]⟩;have:y<0:=by
   rcases AVW y 0 with z|z|z
   .exact z
   .rw[z]at e2;omega
   .have:=ATV hg z;omega
  omega
 .rw[if_neg hb,if_neg hb];refine⟨⟨?_,c⟩,key⟩;rcases AVW y 0 with z|z|z
  .have:=ATV hg (show 0 < -y by omega);rw[AVA]at this;omega
  .rw[z]at e2;omega
  .exact z
def sgn(a:Int):Int:=if a > 0 then 1 else if a<0 then -1 else 0
def ab(a:Int):Int:=if a<0 then -a else a
end Ra
namespace Rq
open Ra
theorem den_pos(q:Rat):(0:Int)<(q.den:Int):=by have:=q.den_pos;omega
theorem O8(q:Rat):((q.den:Int):Rat)≠0:=fun h=>by
 have:=den_pos q;have h2:(q.den:Int)=0:=Rat.intCast_eq_zero_iff.mp h;omega
theorem fq(q:Rat):Fq q.num q.den:=⟨den_pos q,q.reduced⟩
theorem ZL(q:Rat):(q.num:Rat)/((q.den:Int):Rat)=q:=by
 rw[<-ATk];exact Rat.num_divInt_den q
theorem Te(f:Fq N D)(hM:M≠0)(e:N*M=T*D)(hq:q=(T:Rat)/(M:Rat)):q.num=N/\(q.den:Int)=D:=by
 have hD:=f.pos;have hd:D.toNat≠0:=by omega
 have ed:((D.toNat:Nat):Int)=D:=by omega
 have hr:N.natAbs.Coprime D.toNat:=by
  have h:=f.one;have e2:D.natAbs=D.toNat:=by omega
  rw[<-e2];exact h
 have key:q=(⟨N,D.toNat,hd,hr⟩:Rat):=by
  rw[hq,<-ATk,Rat.mk_eq_divInt,ed];exact(AUf hM (by omega)).mpr e.symm
 rw[key];exact⟨rfl,ed⟩
theorem Zk(f:Fq N D)(hq:q=(N:Rat)/(D:Rat)):q.num=N/\(q.den:Int)=D:=Te f (by have:=f.pos;omega) rfl hq
theorem Vy{q:Rat}:q.num=0 ↔ q=0:=ATc
theorem ABi(p q:Rat):VD p.num p.den q.num q.den=(p+q).num/\Vl p.num p.den q.num q.den=((p+q).den:Int):=by
 obtain⟨f,e⟩:=AHr (fq p) (fq q);have h1:=den_pos p;have h2:=den_pos q;obtain⟨a,b⟩:=Te (q:=p+q) f (AS0 (ATV h1 h2)) e (by
  have e1:=ZL p;have e2:=ZL q;have n1:=O8 p;have n2:=O8 q;simp only[Rat.intCast_add,Rat.intCast_mul];generalize (p.num:Rat)=a at *;walk_at "af";subst e1 e2;grind)
 exact⟨a.symm,b.symm⟩
theorem ADz(p q:Rat):VD p.num p.den (-q.num) q.den=(p-q).num/\Vl p.num p.den (-q.num) q.den=((p-q).den:Int):=by
 have h:=ABi p (-q);rw[Rat.neg_num,Rat.neg_den,<-Rat.sub_eq_add_neg]at h;exact h
theorem AAd(p q:Rat):We p.num p.den q.num q.den=(p*q).num/\Wn p.num p.den q.num q.den=((p*q).den:Int):=by
 obtain⟨f,e⟩:=AHI (fq p) (fq q);have h1:=den_pos p;have h2:=den_pos q;obtain⟨a,b⟩:=Te (q:=p*q) f (AS0 (ATV h1 h2)) e (by
  have e1:=ZL p;have e2:=ZL q;have n1:=O8 p;have n2:=O8 q;simp only[Rat.intCast_mul];generalize (p.num:Rat)=a at *;walk_at "af";subst e1 e2;grind)
 exact⟨a.symm,b.symm⟩
def Bq(n:Nat)(q:Rat):Prop:=Bt n q.num/\Bt n (q.den:Int)
theorem Bq.mono(h:Bq m q)(l:m<=n):Bq n q:=⟨h.1.mono l,h.2.mono l⟩
theorem Bq.zero(h:0<n):Bq n 0:=⟨Bt.zero,Bt.mono (m:=1) (by show(1:Nat)<2^1;decide) h⟩
theorem Bq.one(h:0<n):Bq n 1:=⟨Bt.mono (m:=1) (by show(1:Nat)<2^1;decide) h,Bt.mono (m:=1) (by show(1:Nat)<2^1;decide) h⟩
theorem AAp{T M:Int}(hM:M≠0)(hq:q=(T:Rat)/(M:Rat)):q.num ∣ T/\(q.den:Int) ∣ M:=by
 have e:q.num*M=T*q.den:=by
  have e1:(q.num:Rat)/((q.den:Int):Rat)=(T:Rat)/(M:Rat):=(ZL q).trans hq;rw[<-ATk,<-ATk]at e1;exact(AUf (by have:=den_pos q;omega) hM).mp e1
 have c:=(fq q).one;constructor
 .have d:q.num ∣ T*q.den:=⟨M,e.symm⟩;have d':=ARo.mpr d;rw[ATR]at d';exact ARo.mp (Nat.Coprime.dvd_of_dvd_mul_right c d')
 .have d:(q.den:Int) ∣ q.num*M:=⟨T,by rw[e,ASU]⟩;have d':=ARo.mpr d;rw[ATR]at d';exact ARo.mp (ATl (Nat.Coprime.symm c) d')
theorem AKs{T M:Int}(hM:M≠0)(hq:q=(T:Rat)/(M:Rat))(bT:Bt n T)(bM:Bt n M):Bq n q:=by
 obtain⟨d1,d2⟩:=AAp hM hq;refine⟨?_,bM.of_le (AT3 (by omega) (ARo.mpr d2))⟩;by_cases h:T=0
 .subst h;have:q=0:=by rw[hq];simp[Rat.div_def]
  rw[this];exact Bt.zero
 .exact bT.of_le (AT3 (by omega) (ARo.mpr d1))
theorem Bq.mul(h:Bq m p)(k:Bq n q):Bq (m+n) (p*q):=by
 obtain⟨e1,e2⟩:=AAd p q;rw[Bq,<-e1,<-e2];exact⟨h.1.ediv.mul k.1.ediv,h.2.ediv.mul k.2.ediv⟩
end Rq
namespace Po
open Ra Rq
def strip:List Rat->List Rat
 | []=>[]
 | q::qs=>match strip qs with
  | []=>if q=0 then [] else [q]
  | r::rs=>q::r::rs
theorem strip_snoc0(xs:List Rat):strip (xs++[0])=strip xs:=by
 induction xs with
 | nil=>rfl
 | cons x xs ih =>
  rw[ASo,strip,ih,strip]
theorem strip_snoc(h:q≠0)(xs:List Rat):strip (xs++[q])=xs++[q]:=by
 induction xs with
 | nil=>simp[strip,h]
 | cons x xs ih =>
  rw[ASo,strip,ih];cases xs<;>rfl
theorem take_snoc{α:Type}{xs:List α}{x:α}(h:xs[n]?=some x):xs.take (n+1)=xs.take n++[x]:=by
 rw[ASi,h];rfl
def ev:List Rat->Rat->Rat
 | [],_=>0
 | q::qs,x=>q+x*ev qs x
def ACi(ps qs:List Rat):List Rat:=strip ((List.range (max ps.length qs.length)).map fun k=>ps.getD k 0+qs.getD k 0)
def AOM(ps qs:List Rat):List Rat:=strip ((List.range (max ps.length qs.length)).map fun k=>ps.getD k 0-qs.getD k 0)
def Mt(qs:List Rat)(x:Rat):List Rat:=strip (qs.map (·*x))
def AOx(qs:List Rat):List Rat:=(List.range (qs.length-1)).map fun k=>qs.getD (k+1) 0*(((1:Int)+(k:Int):Int):Rat)
def sm(f:Nat->Rat)(n:Nat):Rat:=(List.range n).foldl (fun acc i=>acc+f i) 0
def conv(ps qs:List Rat)(k:Nat):Rat:=sm (fun i=>ps.getD i 0*qs.getD (k-i) 0) (k+1)
def AQc(ps qs:List Rat):List Rat:=strip ((List.range (ps.length+qs.length)).map (conv ps qs))
def Rep(n:Nat)(v:Rat)(T M:Int):Prop:=M≠0/\v=(T:Rat)/(M:Rat)/\Bt n T/\Bt n M
def lsum(qs:List Rat):Rat:=qs.foldl (·+·) 0
def stp(gs ws:List Rat)(t h0 l0:Rat):Nat->Rat×Rat
 | 0=>(h0+gs.getD 0 0*l0,l0)
 | k+1=>((stp gs ws t h0 l0 k).1+gs.getD (k+1) 0*((stp gs ws t h0 l0 k).2-t*ws.getD k 0*(stp gs ws t h0 l0 k).1),(stp gs ws t h0 l0 k).2-t*ws.getD k 0*(stp gs ws t h0 l0 k).1)
def walkQ(gs ws:List Rat)(t h0 l0:Rat):List (Rat×Rat):=(List.range gs.length).map (stp gs ws t h0 l0)
structure R3(n:Nat)(h l:Rat)(th tl m:Int):Prop where
 pos:0<m
 eh:h=(th:Rat)/(m:Rat)
 el:l=(tl:Rat)/(m:Rat)
 bh:Bt n th
 bl:Bt n tl
 bm:Bt n m
def lst(xs:List Rat):Rat:=xs.getD (xs.length-1) 0
def ADl(rs qs:List Rat)(f:Rat):List Rat:=rs.take (rs.length-qs.length)++(List.range (qs.length-1)).map fun k=>rs.getD (rs.length-qs.length+k) 0-f*qs.getD k 0
def dv(qs:List Rat):Nat->List Rat->List Rat×List Rat
 | 0,rs=>([],rs)
 | s+1,rs=>if rs.length<qs.length then([],rs) else((dv qs s (ADl rs qs (lst rs/lst qs))).1++[lst rs/lst qs],(dv qs s (ADl rs qs (lst rs/lst qs))).2)
def Ov(n:Nat)(M:Int)(q:Rat):Prop:=∃T:Int,Bt n T/\q*(M:Rat)=(T:Rat)
def dif(c:Rat):List Rat->List Rat
 | []=>[]
 | q::qs=>c*q::dif (2*c+1) qs
def AD8(l h:List Rat)(w:Rat):List Rat:=AOM l (strip (0::Mt h w))
def pst(gs ws:List Rat)(h0 l0:List Rat):Nat->List Rat×List Rat
 | 0=>(ACi h0 (Mt l0 (gs.getD 0 0)),l0)
 | k+1=>(ACi (pst gs ws h0 l0 k).1 (Mt (AD8 (pst gs ws h0 l0 k).2 (pst gs ws h0 l0 k).1 (ws.getD k 0)) (gs.getD (k+1) 0)),AD8 (pst gs ws h0 l0 k).2 (pst gs ws h0 l0 k).1 (ws.getD k 0))
structure O2(n:Nat)(h l:List Rat)(M:Int):Prop where
 ne:M≠0
 bm:Bt n M
 oh:∀q∈h,Ov n M q
 ol:∀q∈l,Ov n M q
def AQU(qs:List Rat):Rat:=qs.foldl (·*·) 1
def AQk(gs:List Rat)(k:Nat):Rat:=sm (fun i=>gs.getD i 0) (k+1)
theorem getD_in{qs:List Rat}(h:k<qs.length):qs.getD k 0=qs[k]:=by rw[ARV,AQ9 h];rfl
def sg(n:Nat):Rat:=((1-2*((n:Int)%2):Int):Rat)
end Po
namespace PySem
open PyProof.Rows
def QV(c:Nat):Prop:=48<=c/\c<=57
def dgv(t:List Nat):Nat:=t.foldl (fun n c=>n*10+(c-48)) 0
theorem Oi(x:Str)(u:Tok)(neg:Bool)(t:List Nat)(ht:t≠[])(hd:∀c∈t,QV c)(hl:t.length<=600)(hx:x.cps.toList=if neg then 45::t else t):Gives (Builtin.«int.__new__» ⟨[.type "int",.str x u],[]⟩) (.int (if neg then -(dgv t:Int) else dgv t)):=by
 have hs:x.length<=640:=by
  show x.cps.size<=640;rw[<-AUB,hx];cases neg<;>simp<;>omega
 have hm:x.length<=4300:=by omega
 cases neg with
 | true=>exact AUv hs (intText_neg hx hd ht hm)
 | false =>
  have hx':x.cps.toList=t:=hx;refine AUv hs ((intText_digits (hx' ▸ hd) (hx' ▸ ht) hm).trans ?_);rw[hx'];rfl
end PySem
namespace L3
open PySem PySem.Spec PyProof.Rows L2 Ra
theorem Xu(h:Bt 9000 j):j.natAbs.log2<9000:=by
 by_cases h0:j.natAbs=0
 .rw[h0];decide
 .exact(AVg h0).mpr h
theorem Ek(h:Bt m i)(k:Bt n j)(l:m+n<=134217728):IntMulOk i j :=
 PySem.IntMulOk.of_le (AU3.mpr h) (AU3.mpr k) l
section
variable {X:Cx}{a b c:Expr}{ta tb tc:TE}{pos:Pos}
theorem Tn:OpR X (binaryOp .FloorDiv) (rI (fun _ j=>j≠0/\Bt 9000 j) fun i j=>.int (i.fdiv j)) :=
 opI fun _ _ _ _ _ _ _ hc q=>floordiv_int hc.1 q (.inl (AUg (Xu hc.2)))
theorem Ca:OpR X (binaryOp .FloorDiv) (rI (fun _ j=>0<j/\Bt 9000 j) fun i j=>.int (i/j)):=opI fun i j _ _ _ _ _ hc q=>by
 have h1:(0:Int)<j:=hc.1;exact floordiv_int (by omega) (by rw[Int.fdiv_eq_ediv_of_nonneg i (by omega)];exact q) (.inl (AUg (Xu hc.2)))
theorem Cg:OpR X (binaryOp .Mult) (rI IntMulOk fun i j=>.int (i*j)):=opI fun _ _ _ _ _ _ _ hc q=>mul_int q hc
theorem HX:HB X (.builtin "isinstance") (fun xs H Q=>∃x T t b,xs=[x,.ty T]/\Em X.K H x t/\W.kitOne X.K t (.type T)=some b/\Q (.bl b) H):=by
 walk_at "V";obtain⟨x,T,t,b,rfl,ty,e,q⟩:=h;obtain⟨u,w',rfl,rx,rt⟩:=ABq r;cases rt;exact Yu I rx ty e fun tk=>⟨.bl b,H,I.tok _,rfl,q⟩
end
theorem Mw(K:W.Frag):W.kitOne K (.type "int") (.type "int")=some true:=rfl
theorem La(K:W.Frag):W.kitOne K (.type "int") (.type "bool")=some false:=by with_unfolding_all rfl
theorem M7(K:W.Frag):W.kitOne K (.type "tuple") (.type "tuple")=some true:=rfl
section
variable {X:Cx}{K:W.Frag}
end
theorem Ly{c A B:Prop}[Decidable c](h:c)(k:A):if decide c=true then A else B:=by
 rw[decide_eq_true h];exact Ga k
theorem Hw{c A B:Prop}[Decidable c](h:¬c)(k:B):if decide c=true then A else B:=by
 rw[decide_eq_false h];exact FZ k
theorem Uz{c A B:Prop}[Decidable c](hc:¬c)(h:A):if (!decide c)=true then A else B:=by
 rw[decide_eq_false hc];exact Ga h
structure Cal(P:Program)(w:World)(K:W.Frag)(mg:Str->Option Value)(base:Heap)(x:Str)(k:Nat)(ps:List Str)(sp:Sp):Prop where
 ex:∃f fd,BR P w K mg base CX0 k f fd ps sp/\DK K fd ps []/\W.keepIn K (.ref f)=true/\mg x=some (.ref f)
theorem Cal.imp{K:W.Frag}(C:Cal P w K mg base x k ps sp)(h:∀{vs:List V} {H:Hp} {Q:VK} {E:XK},ja vs H Q E->sp vs H Q E):Cal P w K mg base x k ps ja:=by
 walk_at "as";exact⟨f,fd,F.imp fun _ _ _ _ z=>h z,b,kp,m⟩
theorem BW{X:Cx}{x:Str}{k j:Nat}{ps:List Str}{sp:Sp}{e:Expr}{es:List Expr}{t:TA}{p pos:Pos}(C:Cal X.prog X.w X.K X.mg X.base x k ps sp)(hr:CJ j X.A)(ha:PA X (e::es) t)(hkj:k<=j:=by decide)(hg:Gl X x:=by rfl)
  (hdb:(x==("__debug__":Str))=false:=by decide) (he:starEach (e::es) X.env=(false,eval e X.env)::starEach es X.env:=by rfl) (hpl:(backTo pos (starEach es X.env)).any (·.1)=false:=by rfl) :
  PE X (.Call (.Name x p) (e::es) [] pos) (Vh sp [] E0 t):=by
 walk_at "as";exact Nq F (hr.mono hkj) hg m kp b .nil YL ha hdb he hpl
theorem Aj(h:H p=none)(o:HO):Al H (upd H p o):=fun b u q=>by rw[An (Az q h)];exact q
def Pr(H:Hp)(p:Addr)(x y:Int):Prop:=H p=some (.tup [.int x,.int y])
theorem Pr.keep(h:Pr H p x y)(s:Al H H'):Pr H' p x y:=s _ _ h
theorem Pr.sq{K:W.Frag}(h:Pr H p x y):SqT K H p [.int x,.int y]:=SqT.of h
theorem Pr.new:Pr (upd H p (.tup [.int x,.int y])) p x y:=Ag
def AL6(ns:List Int)(k:Nat):Int:=ns.getD k (2*(k:Int)+1)
def ALz(c k:Int):Int:=if c%2=0/\10^18<c then c/2 else((c/2)%10^60+k*k)*6364136223846793013+(k+1)*1442695040888963407
def AIr(n:Int):Int:=if n%2=0 then n/2 else -1-n/2
section
variable {X:Cx}
theorem K7:HB X (.type "int") (fun xs H Q=>∃(x:Str) (neg:Bool) (t:List Nat),xs=[.str x]/\t≠[]/\(∀c∈t,QV c)/\t.length<=600/\x.cps.toList=(if neg then 45::t else t)/\Q (.int (if neg then -(dgv t:Int) else dgv t)) H):=by
 walk_at "V";obtain⟨x,neg,t,rfl,h1,h2,h3,h4,q⟩:=h;obtain⟨u,rfl,rx⟩:=GQ r;obtain⟨tk,rfl⟩:=rx;exact call_int_1 (Oi x tk neg t h1 h2 h3 h4).meets ⟨rfl,.int _,H,I.tok _,⟨_,rfl⟩,q⟩
theorem Qp:MtR X "str.startswith" (fun x xs H Q=>∃a b,x=.str a/\xs=[.str b]/\Q (.bl (Txt.startswith a b)) H):=by
 walk_at "T";obtain⟨a,b,rfl,rfl,q⟩:=h;walk_at "y";exact SC.startswith ⟨.bl _,H,I,rfl,q⟩
theorem ACS:MtR X "str.endswith" (fun x xs H Q=>∃a b,x=.str a/\xs=[.str b]/\Q (.bl (Txt.endswith a b)) H):=by
 walk_at "T";obtain⟨a,b,rfl,rfl,q⟩:=h;walk_at "y";exact SC.endswith ⟨.bl _,H,I,rfl,q⟩
theorem RK:∀{ts:List Str} {its:List Value},Ba (ts.map V.str) its->∃l,its=strValues l/\l.map (·.1)=ts
 | [],_,.nil=>⟨[],rfl,rfl⟩
 | x::ts,_,.cons h r=>by
  obtain⟨t,rfl⟩:=h;obtain⟨l,rfl,e⟩:=RK r;exact⟨(x,t)::l,rfl,by rw[ARm,e]⟩
theorem Td:MtR X "str.join" (fun x xs H Q=>∃a p ts,x=.str a/\xs=[.ref p]/\SqL X.K H p (ts.map V.str)/\JoinOk a ts=true/\Q (.str (Txt.join a ts)) H):=by
 walk_at "T";obtain⟨a,p,ts,rfl,rfl,hq,ok,q⟩:=h;walk_at "z";obtain⟨u,rfl,ru⟩:=GQ rs;cases ru;obtain⟨its,r',pl,hz⟩:=I.list hq;obtain⟨l,rfl,e⟩:=RK r';exact SC.join pl.isList e ok fun t' k=>⟨.str _,H,I.tok _,⟨_,rfl⟩,q⟩
def Dl(x y:Str):List Str:=match Builtin.Str.occurrences x y 0 x.length 1 with
 | i::_=>[Builtin.Str.strSub x 0 i,y,Builtin.Str.strSub x (i+y.length) x.length]
 | []=>[x,Str.empty,Str.empty]
theorem Xr:MtR X "str.partition" (fun x xs H Q=>∃a b,x=.str a/\xs=[.str b]/\b.length≠0/\a.length<=sizeLine/\∀p,H p=none->Q (.ref p) (upd H p (.tup ((Dl a b).map V.str)))):=by
 walk_at "T";obtain⟨a,b,rfl,rfl,hb,ha,q⟩:=h;walk_at "y";refine call_meets F.slot_str_partition (typeIs_str _ _ _) F.entry_str_partition (F.args_str_partition_2 _ _) (meets_str_partition a b t t' (by simpa using hb) ha) ?_;have q':=q s.heap.objs.size (I.hok.fresh (ARH _));unfold Dl at q';cases ho:Builtin.Str.occurrences a b 0 a.length 1 with
 | nil =>
  rw[ho]at q';refine⟨.ref s.heap.objs.size,_,I.laid (t':=s.toks+1) (o:=.tup [.str a,.str Str.empty,.str Str.empty]) (fun b ob q=>ARA _ q) (ARH _) ?_,rfl,q'⟩;exact⟨by show 3<=sizeLine;decide,_,.cons ⟨_,rfl⟩ (.cons ⟨_,rfl⟩ (.cons ⟨_,rfl⟩ .nil)),⟨_,ARN _ rfl,rfl,_,rfl⟩⟩
 | cons i r =>
  rw[ho]at q';refine⟨.ref s.heap.objs.size,_,I.laid (t':=s.toks+1+1) (o:=.tup [.str (Builtin.Str.strSub a 0 i),.str b,.str (Builtin.Str.strSub a (i+b.length) a.length)]) (fun b ob q=>ARA _ q) (ARH _) ?_,rfl,q'⟩;exact⟨by show 3<=sizeLine;decide,_,.cons ⟨_,rfl⟩ (.cons ⟨_,rfl⟩ (.cons ⟨_,rfl⟩ .nil)),⟨_,ARN _ rfl,rfl,_,rfl⟩⟩
theorem Lq:∀(k:Nat) (ts:List Str),Ba (ts.map V.str) (strsFrom k ts)
 | _,[]=>.nil
 | k,x::ts=>.cons ⟨k,rfl⟩ (Lq (k+1) ts)
theorem Pg:MtR X "str.split" (fun x xs H Q=>∃a b,x=.str a/\xs=[.str b]/\b.length≠0/\a.length<=sizeLine/\(Txt.split a b).length<=sizeLine/\∀p,H p=none->Q (.ref p) (upd H p (.lst ((Txt.split a b).map V.str)))):=by
 walk_at "T";obtain⟨a,b,rfl,rfl,hb,ha,hn,q⟩:=h;walk_at "y";have hb':(b.length==0)=false:=by simpa using hb
 have q':=q s.heap.objs.size (I.hok.fresh (ARH _));have fin:∀(k:Nat) (ts:List Str) (its:List Value),Txt.split a b=ts->Ba (ts.map V.str) its->EP X aA Y Q (.ref s.heap.objs.size) { s with toks:=k,heap:=s.heap.push { cls:=.type "list",data:=.seq its.toArray } }:=fun k ts its e r=>by
  rw[e]at q' hn;refine⟨.ref s.heap.objs.size,_,I.laid (t':=k) (o:=.lst (ts.map V.str)) (fun b ob q=>ARA _ q) (ARH _) ?_,rfl,q'⟩;exact⟨by rw[Io];exact hn,its,_,r,ARN _ rfl⟩
 cases h1:(decide (a.length<b.length) || decide (Builtin.Str.strKind a<Builtin.Str.strKind b)) with
 | true =>
  have e:Txt.split a b=[a]:=by unfold Txt.split;rw[if_pos h1]
  exact call_meets AS3 (typeIs_str _ _ _) ASw (AUS _ _) (meets_str_split_cannot_occur a b t t' h1) (fin s.toks [a] [.str a t] e (.cons ⟨_,rfl⟩ .nil))
 | false =>
  cases hf:(Builtin.Str.occurrences a b 0 a.length (a.length+1)).isEmpty with
  | true =>
   have e:Txt.split a b=[a]:=by unfold Txt.split;rw[h1,hf];rfl
   exact call_meets AS3 (typeIs_str _ _ _) ASw (AUS _ _) (meets_str_split_not_found a b t t' h1 hb' hf) (fin s.toks [a] [.str a t] e (.cons ⟨_,rfl⟩ .nil))
  | false =>
   have e:Txt.split a b=Builtin.Str.partsBetween a (Builtin.Str.occurrences a b 0 a.length (a.length+1)) b.length:=by unfold Txt.split;rw[h1,hf];rfl
   exact call_meets AS3 (typeIs_str _ _ _) ASw (AUS _ _) (meets_str_split_sep a b t t' h1 hb' hf ha (by rw[<-e];exact hn)) (fin _ _ _ e (Lq s.toks _))
def APk:V->Option Int->Option Int->Hp->VK->Prop:=fun x lo hi H Q=>∃z,x=.str z/\z.length<=sizeLine/\Q (.str (Txt.slice z lo hi)) H
theorem Mm:SlR X APk:=by
 intro aA s Y H x v vl vu lo hi sl Q I rx hs pl pu h;obtain⟨z,rfl,hz,q⟩:=h;obtain⟨t,rfl⟩:=rx;have pv:∀{v:Value} {o:Option Int},IsPart v o->∃l:Option (Int×Tok),v=partValue l/\o=l.map (·.1):=fun {v o} h=>by
  cases h with
  | none=>exact⟨none,rfl,rfl⟩
  | int i t=>exact⟨some (i,t),rfl,rfl⟩
 obtain⟨l,rfl,rfl⟩:=pv pl;obtain⟨u,rfl,rfl⟩:=pv pu;exact⟨"str",_,F.slot_str_getitem.lookup,typeIs_str _ _ _,wpAny_getItem_str_slice (l:=l) (u:=u) (st:=none) hs rfl (post_val_or_str ⟨ASF (Txt.slice_le z _ _) hz,fun t' k=>⟨.str _,H,I.tok _,⟨_,rfl⟩,q⟩⟩)⟩
def Its(z:Str):L2.It:=⟨fun i _=>i<z.cps.size,fun i H x H'=>H'=H/\∃c,z.cps[i]?=some c/\x=.str ⟨#[c]⟩,fun i _=>z.cps.size<=i⟩
theorem AAL{K:W.Frag}(z:Str)(t:Tok)(it:Addr):L2.Turn P w K tg (Its z) [it] it (fun i h=>h.IsStrIter it "str_ascii_iterator" z t i) where
 mem:=by simp
 obj:=fun i h st b hb=>by
  have e:b=it:=by simpa using hb
  subst e;obtain⟨o,e,c,d⟩:=st;exact⟨o,e,fun v z=>by rw[d]at z;cases z⟩
 keep:=fun i h h' st k=>by
  obtain⟨o,e,r⟩:=st;exact⟨o,k it (by simp) o e,r⟩
 item:=by
  walk_at "d";walk_at "p";have hi:i<z.cps.size:=hg;refine wpAny_pyNext_ascii_item st (c:=z.cps[i]) (by simp[hi]) fun h' st' sb=>?_;have I1:Inv X aA Y H { s with heap:=h',toks:=s.toks+1 }:=I.turned (t':=s.toks+1) (fun b o hb e=>(sb.2 b hb).trans e) f0 f1 f3 f4 f5;obtain⟨o,e,c,d⟩:=id st';exact⟨_,rfl,ABI (s:={ s with heap:=h',toks:=s.toks+1 }) e c d (by decide) ⟨.str ⟨#[z.cps[i]]⟩,H,I1,⟨_,rfl⟩,⟨rfl,_,by simp[hi],rfl⟩,st',fun b hb=>(hf b hb).1⟩⟩
 done:=by
  walk_at "d";walk_at "p";have hi:z.cps.size<=i:=hg;exact wpAny_pyNext_ascii_end (I.ok.hd hc) st (by simp[hi]) fun h' eb=>⟨rfl,I.turned (t':=s.toks) (fun b o hb e=>eb b o hb e) f0 f1 f3 f4 f5⟩
 self:=fun _ _ _ _ _ st h=>wpAny_pyIter_striter_ascii st h
def AO5(tl:TE):L2.TI:=fun Y H R=>tl Y H fun x H1=>∃z,x=.str z/\z.cps.all (·<128)=true/\R (Its z) H1
theorem ABe(hl:PE X l tl):L2.PI X tg l (AO5 tl):=by
 walk_at "ay";obtain⟨z,e,ha,q⟩:=q1;subst e;obtain⟨t,rfl⟩:=r1;refine wpAny_pyIter_ascii ha ?_;refine⟨s1.heap.objs.size,[s1.heap.objs.size],_,_,H1,rfl,I1.kept (t':=s1.toks) fun b o e=>ARA _ e,AAL z t _,⟨_,ARN _ rfl,rfl,rfl⟩,fun b hb=>?_,q⟩;have e:b=s1.heap.objs.size:=by simpa using hb
 subst e;walk_at "C"
def rTx:V->Hp->VK->Prop:=fun x H Q=>∃i:Int,x=.int i/\i.natAbs.log2<1920/\Q (.str (Str.ofString (toString i))) H
theorem XX(ha:PE X a ta):PE X (.FormattedValue a (-1) none p) (tUn rTx ta):=by
 walk_at "i";refine FormattedValue_plain (thn (ha aA s Y H _ I h) fun v s1 ⟨x,H1,I1,r1,q1⟩=>?_);obtain⟨i,rfl,hi,q⟩:=q1;obtain⟨t,rfl⟩:=r1;exact formatField_int_small hi ⟨.str _,H1,I1.tok _,⟨_,rfl⟩,q⟩
theorem AFk(ha:PE X a ta):PE X (.JoinedStr [a] p) ta:=fun aA s Y H Q I h=>JoinedStr_one (ha aA s Y H Q I h)
def APM(ta tb tc:TE):TE:=fun Y H Q=>ta Y H fun x H1=>∃a,x=.str a/\a.length<=sizeLine/\tb Y H1 fun y H2=>∃b,y=.str b/\a.length+b.length<=sizeLine/\tc Y H2 fun z H3=>∃c,z=.str c/\a.length+b.length+c.length<=sizeLine/\Q (.str (a++b++c)) H3
theorem V6(a b:Str):(a++b).length=a.length+b.length:=by
 show(a++b).cps.size=_;rw[Str.cps_append,Array.size_append];rfl
theorem AHu(ha:PE X a ta)(hb:PE X b tb)(hc:PE X c tc):PE X (.JoinedStr [a,b,c] p) (APM ta tb tc):=by
 walk_at "i";have e0:∀y:Str,Str.empty++y=y:=fun y=>Str.append_left_empty rfl;refine wpAny_JoinedStr (Joins_cons (thn (ha aA s Y H _ I h) fun v s1 ⟨x,H1,I1,r1,q1⟩=>?_));obtain⟨a',rfl,l1,q1⟩:=q1;obtain⟨t1,rfl⟩:=r1;refine⟨a',t1,rfl,by rw[e0];exact l1,Joins_cons (thn (hb aA s1 Y H1 _ I1 q1) fun v s2 ⟨y,H2,I2,r2,q2⟩=>?_)⟩;obtain⟨b',rfl,l2,q2⟩:=q2;obtain⟨t2,rfl⟩:=r2;refine⟨b',t2,rfl,by rw[e0,V6];exact l2,Joins_cons (thn (hc aA s2 Y H2 _ I2 q2) fun v s3 ⟨z,H3,I3,r3,q3⟩=>?_)⟩;obtain⟨c',rfl,l3,q3⟩:=q3;obtain⟨t3,rfl⟩:=r3;refine⟨c',t3,rfl,by rw[e0,V6,V6];exact l3,Joins_nil ?_⟩;rw[e0];exact⟨by rw[V6,V6];exact l3,.str _,H3,I3.tok _,⟨_,rfl⟩,q3⟩
theorem Vj(hg:Gl X x)(hm:∃t,X.mg x=some (.str n t))(hd:(x==("__debug__":Str))=false:=by decide):PE X (.Name x pos) (tC (.str n)):=by
 obtain⟨t,hm⟩:=hm;exact Dz hg hm ⟨t,rfl⟩ hd
theorem M8(K:W.Frag):W.kitOne K (.type "str") (.type "str")=some true:=rfl
end
open Builtin.Str
def sx(l:List Nat):Str:=⟨l.toArray⟩
theorem Dp(l:List Nat):(sx l).cps.toList=l:=rfl
theorem BJ(l:List Nat):(sx l).length=l.length:=by
 show l.toArray.size=_;simp
theorem AAg(x:Str):x=sx x.cps.toList:=AVJ (by simp[sx])
theorem Cy(a b:List Nat):sx a++sx b=sx (a++b):=AVJ (by rw[Str.cps_append];simp[sx])
theorem Ex(h:sx a=sx b):a=b:=by
 have:=congrArg (fun x:Str=>x.cps.toList) h;exact this
theorem ABf(s:String):Str.ofString s=sx (s.toList.map Char.toNat):=Str.ofString_eq_toList s
def dgs(n:Nat):List Nat:=(Nat.toDigits 10 n).map Char.toNat
theorem dch:∀d,d<10->(Nat.digitChar d).toNat=48+d:=by decide
theorem JV(h:n<10):dgs n=[48+n]:=by
 unfold dgs;rw[Nat.toDigits_of_lt_base h,ATA,dch n h]
theorem Sy(h:¬n<10):dgs n=dgs (n/10)++[48+n%10]:=by
 have e:n=10*(n/10)+n%10:=by omega
 have h1:=Nat.toDigits_append_toDigits (b:=10) (n:=n/10) (d:=n%10) (by decide) (by omega) (by omega);rw[<-e]at h1;have h2:=JV (n:=n%10) (by omega);unfold dgs at h2 ⊢;rw[<-h1,ARU,h2]
theorem Im:∀(n:Nat),∀c∈dgs n,QV c:=fun n=>by
 induction n using Nat.strongRecOn with
 | _ n ih =>
  intro c hc;by_cases h:n<10
  .rw[JV h]at hc;rw[ARp.mp hc];exact⟨by omega,by omega⟩
  .rw[Sy h]at hc;rcases ARP.mp hc with z|z
   .exact ih (n/10) (by omega) c z
   .rw[ARp.mp z];exact⟨by omega,by omega⟩
theorem Oj(n:Nat):dgs n≠[]:=by
 by_cases h:n<10
 .rw[JV h];simp
 .rw[Sy h];simp
theorem Vd(t:List Nat)(c:Nat):dgv (t++[c])=dgv t*10+(c-48):=by
 unfold dgv;rw[List.foldl_append];rfl
theorem Ja:∀(n:Nat),dgv (dgs n)=n:=fun n=>by
 induction n using Nat.strongRecOn with
 | _ n ih =>
  by_cases h:n<10
  .rw[JV h];show 0*10+(48+n-48)=n;omega
  .rw[Sy h,Vd,ih (n/10) (by omega)];omega
theorem Je(hk:1<=k)(h:n<10^k):(dgs n).length<=k:=by
 unfold dgs;rw[Io];exact digits10_le hk h
def itx(i:Int):List Nat:=if i<0 then 45::dgs i.natAbs else dgs i.natAbs
theorem tos(i:Int):Str.ofString (toString i)=sx (itx i):=by
 cases i with
 | ofNat m =>
  unfold itx;rw[if_neg (show ¬Int.ofNat m<0 from Int.not_lt.mpr (AVI m))];exact text_ofNat m
 | negSucc m =>
  unfold itx;rw[if_pos (by omega)];rw[ABf];have e:toString (Int.negSucc m)="-"++Nat.repr (m+1):=rfl;have e2:=text_ofNat (m+1);rw[ABf]at e2;have e3:(Nat.repr (m+1)).toList.map Char.toNat=(Nat.toDigits 10 (m+1)).map Char.toNat:=Ex e2;rw[e,String.toList_append,ARU,e3];rfl
def ftx(q:Rat):List Nat:=if q.den=1 then itx q.num else itx q.num++47::dgs q.den
theorem Ii(h1:c≠45)(h2:¬QV c)(i:Int):c∉itx i:=fun h=>by
 unfold itx at h
 split at h
 .walk_at "aR"
  .exact h1 z
  .exact h2 (Im _ c z)
 .exact h2 (Im _ c h)
theorem LR(h1:c≠45)(h2:¬QV c)(h3:c≠47)(q:Rat):c∉ftx q:=fun h=>by
 unfold ftx at h
 split at h
 .exact Ii h1 h2 _ h
 .rcases ARP.mp h with z|z
  .exact Ii h1 h2 _ z
  .rcases ARI.mp z with y|y
   .exact h3 y
   .exact h2 (Im _ c y)
theorem QF(l:List Nat)(c i:Nat):StrLaws.At (sx l) (sx [c]) (sx l).length i ↔ l[i]?=some c:=StrLaws.subAt_one (sx l) c i
theorem Li(h:c∉l):Dl (sx l) (sx [c])=[sx l,Str.empty,Str.empty]:=by
 unfold Dl;rcases AUq (sx l) (sx [c]) 1 (ARH 1) with⟨e,_⟩|⟨i,r,e,ha,_⟩
 .rw[e]
 .exact absurd (ARf ((QF l c i).mp ha)) h
theorem Mg(h:c∉a):Dl (sx (a++c::b)) (sx [c])=[sx a,sx [c],sx b]:=by
 unfold Dl;have at1:StrLaws.At (sx (a++c::b)) (sx [c]) (sx (a++c::b)).length a.length:=(QF _ c _).mpr (by simp);rcases AUq (sx (a++c::b)) (sx [c]) 1 (ARH 1) with⟨_,hn⟩|⟨i,r,e,ha,hm⟩
 .exact absurd at1 (hn _)
 .have hi:i=a.length:=by
   rcases AVX i a.length with z|z|z
   .exfalso;have:=(QF _ c i).mp ha;rw[AR0 z]at this;exact h (ARf this)
   .exact z
   .exact absurd at1 (hm _ z)
  rw[e,hi];have e1:strSub (sx (a++c::b)) 0 a.length=sx a:=AVJ (by simp[strSub,sx]);have e2:strSub (sx (a++c::b)) (a.length+(sx [c]).length) (sx (a++c::b)).length=sx b:=AVJ (by
   simp[strSub,sx,Str.length];exact ARj (by omega))
  show [strSub _ _ _,_,strSub _ _ _]=_;rw[e1,e2]
def jn(c:Nat):List (List Nat)->List Nat
 | []=>[]
 | [w]=>w
 | w::v::r=>w++c::jn c (v::r)
theorem ABd{c:Nat}:∀{a b a' b':List Nat},c∉a->c∉a'->a++c::b=a'++c::b'->a=a'/\b=b'
 | [],_,[],_,_,_,e=>⟨rfl,by simpa using e⟩
 | [],_,x::a',_,_,h',e=>by
  have:c=x:=by simpa using (AVK e).1
  exact absurd (by rw[this];simp) h'
 | x::a,_,[],_,h,_,e=>by
  have:x=c:=by simpa using (AVK e).1
  exact absurd (by rw[this];simp) h
 | x::a,b,y::a',b',h,h',e=>by
  obtain⟨e1,e2⟩:=AVK e;obtain⟨i1,i2⟩:=ABd (a:=a) (a':=a') (fun z=>h (by simp[z])) (fun z=>h' (by simp[z])) e2;exact⟨by rw[e1,i1],i2⟩
theorem AAb:c∈jn c (w::v::r):=by
 show c∈w++c::jn c (v::r);simp
theorem Fe{c:Nat}:∀{ws vs:List (List Nat)},(∀w∈ws,c∉w)->(∀v∈vs,c∉v)->ws≠[]->vs≠[]->jn c ws=jn c vs->ws=vs
 | [w],[v],_,_,_,_,e=>by
  have:w=v:=e;rw[this]
 | [w],v::v'::r,h,_,_,_,e=>by
  have e':w=jn c (v::v'::r):=e;exact absurd (by rw[e'];exact AAb) (h w (by simp))
 | w::w'::r,[v],_,h',_,_,e=>by
  have e':jn c (w::w'::r)=v:=e;exact absurd (by rw[<-e'];exact AAb) (h' v (by simp))
 | w::w'::r,v::v'::s,h,h',_,_,e=>by
  obtain⟨e1,e2⟩:=ABd (h w (by simp)) (h' v (by simp)) e;have:=Fe (ws:=w'::r) (vs:=v'::s) (fun x hx=>h x (ARb _ hx)) (fun x hx=>h' x (ARb _ hx)) (by simp) (by simp) e2;rw[e1,this]
theorem Kl(c:Nat):∀ws:List (List Nat),Str.join (sx [c]) (ws.map sx)=sx (jn c ws)
 | []=>rfl
 | [w]=>rfl
 | w::v::r=>by
  show sx w++sx [c]++Str.join (sx [c]) ((v::r).map sx)=_;rw[Kl c (v::r),Cy,Cy];show sx (w++[c]++jn c (v::r))=sx (w++c::jn c (v::r));rw[ATM];rfl
theorem V3(x y:Str):Txt.split x y≠[]:=by
 unfold Txt.split
 split
 .simp
 .split
  .simp
  .rw[ASO];obtain⟨p,r,e⟩:=StrLaws.partsFrom_ne x y.length 0 (occurrences x y 0 x.length (x.length+1));rw[e];simp
theorem U0(h:∀w∈ws,c∉w)(hn:ws≠[]):Txt.split (sx (jn c ws)) (sx [c])=ws.map sx:=by
 have e1:=AUT (sx (jn c ws)) (sx [c]);have e2:Txt.split (sx (jn c ws)) (sx [c])=((Txt.split (sx (jn c ws)) (sx [c])).map fun p=>p.cps.toList).map sx:=by
  walk_at "aO"
 have f:=StrLaws.split_free (sx (jn c ws)) c;have ne:=V3 (sx (jn c ws)) (sx [c]);rw[e2,Kl]at e1;have:=Fe (c:=c) (fun w hw=>by
  obtain⟨p,hp,rfl⟩:=ARR.mp hw;exact f p hp) h (fun z=>ne (ASL.mp z)) hn (Ex e1)
 rw[e2,this]
theorem Ud(c:Nat)(ws:List (List Nat)):Txt.join (sx [c]) (ws.map sx)=sx (jn c ws):=by
 unfold Txt.join;rw[StrLaws.glued_eq_join,Kl]
theorem Jt(l:List Nat)(c:Nat):Txt.startswith (sx l) (sx [c])=decide (l[0]?=some c):=by
 have h:=QF l c 0;unfold StrLaws.At at h;unfold Txt.startswith;by_cases e:l[0]?=some c
 .rw[decide_eq_true e];have:=h.mpr e;rw[ASK];exact⟨decide_eq_true this.1,this.2⟩
 .rw[decide_eq_false e];refine Bool.eq_false_iff.mpr fun z=>e (h.mp ?_);rw[ASK]at z;exact⟨of_decide_eq_true z.1,z.2⟩
theorem Jo(h:l≠[]):Txt.slice (sx l) (some 1) none=sx (l.drop 1):=by
 have hl:0<l.length:=AS2.mpr h;have:=StrLaws.sliceText_from (x:=sx l) (i:=1) ⟨by decide,by rw[Dp];omega⟩;refine(show Txt.slice (sx l) (some 1) none=_ from this).trans ?_;rw[Dp];unfold sx;rw[ARj (by rw[ARd];omega)];rfl
theorem Ye(a b:Nat)(m:List Nat):Txt.slice (sx (a::(m++[b]))) (some 1) (some (-1))=sx m:=by
 have hl:(sx (a::(m++[b]))).length=m.length+2:=by rw[BJ];simp
 have e1:=StrLaws.sliceText_neg_hi (sx (a::(m++[b]))) (some 1) (j:=-1) (by decide) (by omega);have e2:=StrLaws.sliceText_plain (x:=sx (a::(m++[b]))) (i:=1) (j:=-1+((sx (a::(m++[b]))).length:Int)) ⟨by decide,by omega,by rw[Dp];simp;omega⟩;refine(show Txt.slice (sx (a::(m++[b]))) (some 1) (some (-1))=_ from e1).trans (e2.trans ?_);rw[hl,Dp,show(-1+((m.length+2:Nat):Int)-1).toNat=m.length by omega];unfold sx
 congr 1
 show((m++[b]).take m.length).toArray=_;rw[List.take_left'];rfl
theorem ABz(l:List Nat)(c:Nat):(!(occurrences (sx l) (sx [c]) 0 (sx l).length 1).isEmpty)=decide (c∈l):=StrLaws.found_one (sx l) c
def clo(sc:Scope)(env:Env):List (Str×Addr):=((sc.names.filter fun y=>y.2==.free).map fun y=>(y.1,(env.cells.lookup y.1).getD 0)).reverse
theorem AIe(h:(clo sc env).lookup y=some c):(y,NameKind.free)∈sc.names/\c=(env.cells.lookup y).getD 0:=by
 have m:(y,c)∈clo sc env:=AR7 h;unfold clo at m;rw[AUr,ARR]at m;obtain⟨⟨n,k⟩,hm,e⟩:=m;rw[AUA]at hm;have hk:k=.free:=by simpa using hm.2
 subst hk;cases e;exact⟨hm.1,rfl⟩
theorem J8{α:Type}{l:List (Str×α)}{c:α}(h:(y,c)∈l):∃c',l.lookup y=some c':=by
 induction l with
 | nil=>cases h
 | cons p r ih =>
  obtain⟨n,v⟩:=p;by_cases e:y=n
  .subst e;exact⟨v,by simp⟩
  .have hb:(y==n)=false:=by simpa using e
   rw[ASV,hb];walk_at "aR"
   .cases z;exact absurd rfl e
   .exact ih z
theorem Xl(h:(y,NameKind.free)∈sc.names):∃c,(clo sc env).lookup y=some c:=by
 refine J8 (c:=(env.cells.lookup y).getD 0) ?_;unfold clo;rw[AUr,ARR];exact⟨(y,.free),AUA.mpr ⟨h,by simp⟩,rfl⟩
theorem Ib{env:Env}:∀(ns:List (Str×NameKind)) (cs:List (Str×Addr)),(∀y∈ns,y.2=.free->∃c,env.cells.lookup y.1=some c) ->
  (forIn ns cs fun x r=>(match x with | (name,kind)=>if kind==.free then do let c <-cellOf env name;pure (ForInStep.yield ((name,c)::r)) else pure (ForInStep.yield r):Sem (ForInStep (List (Str×Addr))))) =
   pure (((ns.filter fun y=>y.2==.free).map fun y=>(y.1,(env.cells.lookup y.1).getD 0)).reverse++cs)
 | [],cs,_=>rfl
 | (n,k)::r,cs,h=>by
  have hr:∀y∈r,y.2=.free->∃c,env.cells.lookup y.1=some c:=fun y hy=>h y (ARb _ hy);rw[ASx];by_cases hk:k=.free
  .subst hk;obtain⟨c,hc⟩:=h (n,.free) ASG rfl;have e:cellOf env n=pure c:=by unfold cellOf;rw[hc]
   have e2:((n,NameKind.free)::r).filter (fun y=>y.2==.free)=(n,.free)::r.filter fun y=>y.2==.free:=by simp
   simp only[beq_self_eq_true,if_true,e,pure_bind];rw[Ib r _ hr,e2];simp[hc]
  .have hb:(k==NameKind.free)=false:=by simpa using hk
   have e2:((n,k)::r).filter (fun y=>y.2==.free)=r.filter fun y=>y.2==.free:=by simp[hk]
   simp only[hb,AVL,if_false,pure_bind];rw[Ib r _ hr,e2]
theorem Wj(h:∀y∈sc.names,y.2=.free->∃c,env.cells.lookup y.1=some c):closureFor sc env=pure (clo sc env):=by
 have q:=Ib sc.names [] h;rw[ARx]at q;unfold closureFor clo;simp only[pure_bind,bind_pure];exact q
theorem Ec(h:sc.names.lookup y=some k) :
  (relabel sc env).names.lookup y=some (if (k==.free&&env.scope.kind==.function&&env.kindOf y==some .cell) then .cell else k):=by
 unfold relabel;show(sc.names.map _).lookup y=_;generalize sc.names=ns at h
 induction ns with
 | nil=>cases h
 | cons p r ih =>
  walk_at "E";by_cases e:y=n
  .subst e;have ev:v=k:=by simpa using h
   subst ev;by_cases c:(v==.free&&env.scope.kind==.function&&env.kindOf y==some .cell)=true
   .rw[if_pos c,if_pos c];simp
   .rw[if_neg c,if_neg c];simp
  .have hb:(y==n)=false:=by simpa using e
   have h':r.lookup y=some k:=by
    rw[ASV,hb]at h;exact h
   walk_at "aI"
   .rw[if_pos c];simp only[ASV,hb];exact ih h'
   .rw[if_neg c];simp only[ASV,hb];exact ih h'
theorem Sg(h:sc.names.lookup y=none):(relabel sc env).names.lookup y=none:=by
 unfold relabel;show(sc.names.map _).lookup y=_;generalize sc.names=ns at h
 induction ns with
 | nil=>rfl
 | cons p r ih =>
  walk_at "E";by_cases e:y=n
  .subst e;simp at h
  .have hb:(y==n)=false:=by simpa using e
   have h':r.lookup y=none:=by
    rw[ASV,hb]at h;exact h
   walk_at "aI"
   .rw[if_pos c];simp only[ASV,hb];exact ih h'
   .rw[if_neg c];simp only[ASV,hb];exact ih h'
structure Py(fsc aM:Scope)(x:Str)(js:List Nat)(N N':List Str):Prop where
 eqN:N'=x::js.map fun j=>N.getD j x
 nd:N'.Nodup
 fr:∀y∈aM.names,y.2=.free->fsc.names.lookup y.1=some .cell
 cell:∀y∈aM.names,y.2≠.cell
 kind:aM.kind=.function
 nm:∀y∈aM.names,y.2=.local->aM.names.lookup y.1=some .local
 xl:aM.names.lookup x=some .local
 js:∀j∈js,j<N.length/\aM.names.lookup (N.getD j x)=some .free
def blk(X:Cx)(aM:Scope)(N':List Str)(zb:Shared)(zc:Hp)(C:Addr)(ex:List Addr):Cx :=
 { X with N:=N',zb:=zb,zc:=zc,env:=compEnvC aM (clo aM X.env) C X.env,outer:=X.stack,stack:=X.stack,ex:=ex,fn:=fun _=>false,pn:=[],xe:=fun _ _=>False }
def Gv(J:It)(te:Shared->Hp->Addr->List Addr->TE)(js:List Nat)(Y:L2.St)(Q:VK)(H1:Hp):Prop:=∀D,H1 D=none->∃W:Nat->Nat->List V->Hp->Prop,(∃m,W 0 m [] (upd H1 D (.lst []))) /\
 ∀i m ys H,W i m ys H->H D=some (.lst ys)/\((J.stop i H/\Q (.ref D) H)\/(J.go i H/\∀x H',J.yld i H x H'->∀zb zc C ex,te zb zc C ex (some x::js.map fun j=>(Y[j]?).join) H' fun y H2 =>
  H2 D=some (.lst ys)/\ys.length<sizeLine/\∃m',m'<m/\W (i+1) m' (ys++[y]) (upd H2 D (.lst (ys++[y])))))
def V5(wi:TI)(te:Shared->Hp->Addr->List Addr->TE)(js:List Nat):TE:=fun Y H Q=>wi Y H fun J H1=>Gv J te js Y Q H1
theorem K6{Y:L2.St}(I:Inv X aA Y H s)(f:FP X aA H C)(sb:Heap.SameBut C s.heap h7):Inv X aA Y H { s with heap:=h7 }:=by
 obtain⟨g0,g1,g2,g3,g4,g5⟩:=f;have hne:∀{b:Addr},b∉[C]->b≠C:=fun h z=>h (by rw[z];exact ASG);refine I.call' (ch:=[C]) (H':=H) rfl ⟨fun b o e _ _ hx=>(sb.2 b (hne hx)).trans e,fun b o e _ _ hx=>⟨o.slots,(sb.2 b (hne hx)).trans e⟩,fun _ _ _ n _=>n,fun b o e hx=>⟨o,(sb.2 b (hne hx)).trans e⟩,fun _ _ q=>q,fun _ _ _ q=>q,fun _ ps q=>⟨#[],by rw[Array.append_empty];exact q⟩⟩ ?_ I.bare fun b hb=>?_
 .intro b ob e;refine(I.hok b ob e).stay (fun c w' hcc q=>(sb.2 c ?_).trans q) (fun _ q=>q) fun _ _ q=>q;rintro rfl;rcases hcc with rfl|hcc
  .rw[g0]at e;cases e
  .rw[g0]at hcc;cases hcc
 .walk_at "aC"
  subst e;exact⟨g3,g1,g4,g5⟩
theorem RT{prog:Program}{w:World}{A:Around}{R:Result->Shared->Prop}{s:Shared}{elt target iter:Expr}{ifs:List Expr}{scope:Scope}{pos:Pos}{it acc:Value}{env:Env}(I:Nat->Shared->Prop)
  (turn:∀n s,I n s->wpAny (model prog w) A (pyNext it) (fun r ze=>match r with
   | none=>R (.ok .next) ze
   | some v=>wpAny (model prog w) A (letOwnedTupleGo target it v) (fun _ pi=>wpAny (model prog w) A (assign target env v) (fun _ zi =>
     wpAny (model prog w) A (forIn ifs true fun c r=>if r=true then do let ok <-isTrue c env (eval c env);pure (ForInStep.yield ok) else pure (ForInStep.yield r)) (fun ok zt =>
      if ok=true then wpAny (model prog w) A (eval elt env) (fun x zx =>
       wpAny (model prog w) A (call (.builtin "list.append") [acc,x]) (fun _ ya=>∃m,m<n/\I m ya) (notedBy (model prog w) A env fun e s'=>R (.error e) s') zx) (notedBy (model prog w) A env fun e s'=>R (.error e) s') zt
      else ∃m,m<n/\I m zt) (notedBy (model prog w) A env fun e s'=>R (.error e) s') zi) (notedBy (model prog w) A env fun e s'=>R (.error e) s') pi) (notedBy (model prog w) A env fun e s'=>R (.error e) s') ze) (notedBy (model prog w) A env fun e s'=>R (.error e) s') s)
  (n:Nat) (h:I n s):codeAny (model prog w) A (.compLoop (.ListComp elt [⟨target,iter,ifs,0⟩] scope pos) 0 it acc env) R s:=by
 refine codeAny_loop rfl I (fun n s hI=>?_) n h;show wpAny _ A ((compTurn (.ListComp elt [⟨target,iter,ifs,0⟩] scope pos) 0 it acc env).onRaise (fun x=>do noteFrame x env;theTreesLotGoes x)) _ _ s;refine wpAny_noted ?_;rw[compTurn_list];refine AQ8 (ASb (AQ8 (ARe (turn n s hI) (fun r ze zr=>?_) fun _ _ h'=>h')));cases r with
 | none=>exact ARL zr
 | some v =>
  refine AQ8 (ARe zr (fun _ pi rJ=>?_) fun _ _ h'=>h');refine AQ8 (ARe rJ (fun _ zi zu=>AQ8 (ARe zu (fun ok zt zw=>?_) fun _ _ h'=>h')) fun _ _ h'=>h');cases ok with
  | false=>exact ARL ⟨rfl,zw⟩
  | true =>
   exact AQ8 (AQ8 (ARe zw (fun x zx ye=>AQ8 (ARe ye (fun _ ya yd=>ARL (ARL ⟨rfl,yd⟩)) fun _ _ h'=>h')) fun _ _ h'=>h'))
def PTs(X:Cx)(ifs:List Expr)(t:TT):Prop :=
 ∀(aA:List (Addr×Obj)) (s:Shared) (Y:L2.St) (H:Hp) (Q:Bool->Hp->Prop),Inv X aA Y H s->t Y H Q ->
  wpAny (model X.prog X.w) X.A (forIn ifs true fun c r=>if r=true then do let ok <-isTrue c X.env (eval c X.env);pure (ForInStep.yield ok) else pure (ForInStep.yield r)) (TP X aA Y Q) X.xe s
def Nk:TT:=fun _ H Q=>Q true H
theorem N6:PTs X [] Nk:=fun _ _ _ H _ I h=>wpAny_tests_nil ⟨H,I,h⟩
structure Kr(fsc aM:Scope)(xs:List Str)(js:List Nat)(N N':List Str):Prop where
 eqN:N'=xs++js.map fun j=>N.getD j ""
 fr:∀y∈aM.names,y.2=.free->fsc.names.lookup y.1=some .cell
 cell:∀y∈aM.names,y.2≠.cell
 kind:aM.kind=.function
 nm:∀y∈aM.names,y.2=.local->aM.names.lookup y.1=some .local
 js:∀j∈js,j<N.length/\aM.names.lookup (N.getD j "")=some .free
def Rb(J:It)(tg:TG)(tt:Shared->Hp->Addr->List Addr->TT)(te:Shared->Hp->Addr->List Addr->TE)(nx:Nat)(js:List Nat)(Y:L2.St)(Q:VK)(H1:Hp):Prop:=∀D,H1 D=none->∃W:Nat->Nat->List V->Hp->Prop,(∃m,W 0 m [] (upd H1 D (.lst []))) /\
 ∀i m ys H,W i m ys H->H D=some (.lst ys)/\((J.stop i H/\Q (.ref D) H)\/(J.go i H/\∀x H',J.yld i H x H'->∀zb zc C ex (zj:L2.St),zj.length=nx->tg x (zj++js.map fun j=>(Y[j]?).join) H' fun zk H2 =>
  (∃yb:L2.St,zk=yb++(js.map fun j=>(Y[j]?).join)/\yb.length=nx)/\tt zb zc C ex zk H2 fun b H3=>if b=true then te zb zc C ex zk H3 fun y H4 =>
   H4 D=some (.lst ys)/\ys.length<sizeLine/\∃m',m'<m/\W (i+1) m' (ys++[y]) (upd H4 D (.lst (ys++[y])))
  else H3 D=some (.lst ys)/\∃m',m'<m/\W (i+1) m' ys H3))
def Tj(wi:TI)(tg:TG)(tt:Shared->Hp->Addr->List Addr->TT)(te:Shared->Hp->Addr->List Addr->TE)(nx:Nat)(js:List Nat):TE:=fun Y H Q=>wi Y H fun J H1=>Rb J tg tt te nx js Y Q H1
def Mp(X:Cx)(aM:Scope)(N':List Str)(zb:Shared)(zc:Hp)(C:Addr)(ex:List Addr)(YY:Value->Shared->Prop):Cx:={ blk X aM N' zb zc C ex with xe:=YY }
theorem T9{Y:L2.St}(I:Inv (blk X aM N' zb zc C ex) aA Y H s):Inv (Mp X aM N' zb zc C ex YY) aA Y H s :=
 ⟨⟨I.ok.mod,I.ok.kind,I.ok.glob,I.ok.blt,I.ok.above,I.ok.inj,I.ok.has,I.ok.cab,I.ok.hd,I.ok.frames,I.ok.stk,I.ok.exf,I.ok.bs,I.ok.bsz,I.ok.noex,I.ok.exfs,I.ok.funs,I.ok.frf⟩,I.os,I.bare,I.base,I.loc,I.cell,I.free,I.freeC,I.pin,I.hok,I.len⟩
theorem RW{Y:L2.St}(I:Inv (Mp X aM N' zb zc C ex YY) aA Y H s):Inv (blk X aM N' zb zc C ex) aA Y H s :=
 ⟨⟨I.ok.mod,I.ok.kind,I.ok.glob,I.ok.blt,I.ok.above,I.ok.inj,I.ok.has,I.ok.cab,I.ok.hd,I.ok.frames,I.ok.stk,I.ok.exf,I.ok.bs,I.ok.bsz,I.ok.noex,I.ok.exfs,I.ok.funs,I.ok.frf⟩,I.os,I.bare,I.base,I.loc,I.cell,I.free,I.freeC,I.pin,I.hok,I.len⟩
theorem KH{X:Cx}{CX:CXT}{E:XK}{elt iter target:Expr}{ifs:List Expr}{pos pos':Pos}{aM:Scope}{wi:TI}{tg:TG}{tt:Shared->Hp->Addr->List Addr->TT}{te:Shared->Hp->Addr->List Addr->TE}(xs:List Str)(js:List Nat){N':List Str}{fsc:Scope}{N:List Str}(ok:Kr fsc aM xs js N N')(hi:PI X target iter wi)(hg:∀zb zc C ex,PG (blk X aM N' zb zc C ex) target tg)(ht:∀zb zc C ex,PTs (blk X aM N' zb zc C ex) ifs (tt zb zc C ex))
  (he:∀zb zc C ex YY,Dc CX (Mp X aM N' zb zc C ex YY) E->PE (Mp X aM N' zb zc C ex YY) elt (te zb zc C ex)) (hc:X.calm=true) (hsc:X.env.scope=fsc) (dY:X.N=N) (hs:∀x,foldedSetIterable iter X.env x=pure x)
  (use:Option (Value->Sem Unit)) (R:Value->Shared->Prop) (hX:∀(C:Addr) (acc e:Value) (aA:List (Addr×Obj)) (Y:L2.St) (H1:Hp) (s1 s2:Shared),Inv X aA Y H1 s1->FP X aA H1 C->(∃m,s1.heap.Ns C m)->CX X.stack H1 s1 E e s2->notedBy (model X.prog X.w) X.A (compEnvC aM (clo aM X.env) C X.env) (fun e s'=>compPost (model X.prog X.w) X.A X.xe use R acc C (.error e) s') e s2) {aA:List (Addr×Obj)} {s:Shared} {Y:L2.St} {H:Hp} {Q:VK} (I:Inv X aA Y H s) (h:Tj wi tg tt te xs.length js Y H Q)
  (hfin:∀(D C:Addr) (s6:Shared) (H5:Hp) (m6:Str->Option Value) (r:Flow),Inv X aA Y H5 s6->FP X aA H5 C->s6.heap.Ns C m6->Q (.ref D) H5->compPost (model X.prog X.w) X.A X.xe use R (.ref D) C (.ok r) s6) :
  wpAny (model X.prog X.w) X.A (comprehension (.ListComp elt [⟨target,iter,ifs,0⟩] aM pos) aM X.env pos' (newList []) false (eval iter X.env) use) R X.xe s:=by
 have rK:X.env.scope.kind=.function:=I.ok.kind;have hfree:∀y∈aM.names,y.2=.free->∃c,X.env.cells.lookup y.1=some c:=fun y hy hk=>I.ok.has y.1 (.inl (by show X.env.scope.names.lookup y.1=_;rw[hsc];exact ok.fr y hy hk));have hcl:∀y c,(clo aM X.env).lookup y=some c->X.env.cells.lookup y=some c:=fun y c e=>by
  obtain⟨m,e2⟩:=AIe e;obtain⟨c',e3⟩:=hfree _ m rfl;rw[e3]at e2;rw[e3,e2];rfl
 refine wpAny_comprehension_free (use:=use) rfl hs (Wj hfree) ok.kind ok.nm ?_;refine thn (hi aA s Y H _ I h) fun v s1 h1=>thn h1 fun itv s2 h2=>?_;obtain⟨it,fp,tn,J,H2,e,I2,T,st2,f2,hw⟩:=h2;subst e;have hD:H2 s2.heap.objs.size=none:=I2.hok.fresh (ARH _);obtain⟨W,⟨m0,w0⟩,turn⟩:=hw _ hD;refine ATN ?_ (by show 0<=sizeLine;decide);have I3:Inv X aA Y (upd H2 s2.heap.objs.size (.lst [])) { s2 with heap:=s2.heap.push { cls:=.type "list",data:=.seq ([]:List Value).toArray } }:=I2.lnew (t':=s2.toks) .nil (by show 0<=sizeLine;decide);generalize hs3:({ s2 with heap:=s2.heap.push { cls:=.type "list",data:=.seq ([]:List Value).toArray } }:Shared)=s3 at I3 ⊢;have hsz:s3.heap.objs.size=s2.heap.objs.size+1:=by rw[<-hs3,AS6]
 generalize rL:s2.heap.objs.size=D at *;have pz:tn 0 s3.heap:=T.keep 0 s2.heap _ st2 fun b hb o e=>by rw[<-hs3];exact ARA _ e
 have rM:∀b∈fp,b≠D:=fun b hb z=>by
  obtain⟨o,e,_⟩:=T.obj 0 _ st2 b hb;rw[z,<-rL]at e;exact absurd (ARF e) (ARw _)
 have f3:∀b∈fp,upd H2 D (.lst []) b=none:=fun b hb=>by rw[An (rM b hb)];exact(f2 b hb).1
 refine wpAny_newFunctionEnv ok.cell (by intro y hy;simp at hy) (fun h4 hns hsb=>?_) ok.kind;generalize je:s3.heap.objs.size=C at *;have pA:∀b o,s3.heap.get? b=some o->b<C:=fun b o e=>by
  rw[<-je];exact ARF e
 have dZ:∀b o,s3.heap.get? b=some o->h4.get? b=some o:=fun b o e=>by
  rw[hsb.2 b (ARt (pA b o e))];exact ARA _ e
 have kJ:(blk X aM N' s3 (upd H2 D (.lst [])) C fp).Ok:=by
  refine⟨I3.ok.mod,?_,I3.ok.glob,I3.ok.blt,?_,fun y z c h1 h2=>I3.ok.inj y z c (hcl y c h1) (hcl z c h2),fun y hy=>?_,fun y c h1 _=>?_,I3.ok.hd,I3.ok.frames,.inl rfl,fun b hb=>?_,I3.bs,?_,fun b o e hb=>?_,fun b hb hz=>?_,I3.stack,I3.stkFree⟩
  .exact ok.kind
  .exact ATp je
  .have hy':(relabel aM X.env).names.lookup y=some .cell\/(relabel aM X.env).names.lookup y=some .free:=hy;cases hk:aM.names.lookup y with
   | none =>
    rw[Sg hk]at hy';rcases hy' with z | z<;>cases z
   | some k =>
    have hm:(y,k)∈aM.names:=AR7 hk;by_cases hkf:k=.free
    .subst hkf;exact Xl hm
    .have hb:(k==NameKind.free)=false:=by simpa using hkf
     rw[Ec hk]at hy';simp only[hb,ATQ,AVL,if_false]at hy';rcases hy' with z|z
     .exact absurd (ARK z) (ok.cell _ hm)
     .exact absurd (ARK z) hkf
  .exact absurd (show false=true from h1) ARJ
  .walk_at "M";refine⟨fun z=>?_,fun y c e=>g4 y c (hcl y c e)⟩;obtain⟨o,e,_⟩:=T.obj 0 _ pz b hb;have z':b=C:=z;have l:=pA b o e;rw[z']at l;exact absurd l (ARw _)
  .exact ASF I3.ok.bsz I3.sz
  .walk_at "M";rcases g3 with z|z
   .exact I3.ok.noex b o e z
   .exact absurd (ARX (ARF e) (ASF I3.ok.bsz z)) (ARw _)
  .walk_at "M";rcases ARI.mp (I3.stkSub b hz) with z|z
   .exact g1 z
   .exact g2 z
 have iu:H2 C=none/\upd H2 D (.lst []) C=none:=by
  have q:upd H2 D (.lst []) C=none:=I3.hok.fresh (ATp je);refine⟨?_,q⟩;rw[An (by rw[hsz];exact Nat.succ_ne_self D)]at q;exact q
 have I4:Inv (blk X aM N' s3 (upd H2 D (.lst [])) C fp) [] (List.replicate xs.length none++js.map fun j=>(Y[j]?).join) (upd H2 D (.lst [])) { s3 with heap:=h4,toks:=s3.toks+([]:List (Str×Value)).length }:=by
  refine⟨kJ,rfl,I3.bare,Un.kept dZ,⟨_,hns,fun i y v h1 h2 h3=>?_⟩,fun y c e=>?_,iu.2,fun y c e=>I3.freeC y c (hcl y c e),fun p hp=>absurd (show p∈([]:List (Addr×Obj)) from hp) (by simp),I3.hok.kept dZ,?_⟩
  .have h1':(xs++js.map fun j=>N.getD j "")[i]?=some y:=by rw[<-ok.eqN];exact h1
   by_cases hi:i<xs.length
   .rw[AR0 (by rw[ARy];exact hi),ATZ]at h2;rw[if_pos hi]at h2;cases h2
   .rw[ARh (by omega),ARQ]at h1';rw[ARh (by rw[ARy];omega),ARy,ARQ]at h2;cases ej:js[i-xs.length]? with
    | none=>rw[ej]at h2;cases h2
    | some j =>
     rw[ej]at h1' h2;obtain⟨jl,jf⟩:=ok.js j (ARf ej);have ey:N.getD j ""=y:=ARK h1';have ev:(Y[j]?).join=some v:=ARK h2;have ev':Y[j]?=some (some v):=by
      cases q:Y[j]? with
      | none=>rw[q]at ev;cases ev
      | some o=>rw[q]at ev;rw[show o=some v from ev]
     have eN:X.N[j]?=some y:=by rw[dY,<-ey,ARV,AQ9 jl];rfl
     rw[ey]at jf;have kX:X.env.scope.names.lookup y=some .cell:=by rw[hsc];exact ok.fr (y,.free) (AR7 jf) rfl
     obtain⟨m3,n3,l3⟩:=I3.loc;obtain⟨u,ru,lk⟩:=l3 j y v eN ev' (.inr (.inl kX));refine⟨u,ru,.inr ⟨?_,?_⟩⟩
     .left
      show(relabel aM X.env).names.lookup y=some .cell;rw[Ec jf];have k2:X.env.kindOf y=some .cell:=kX;rw[rK,k2];rfl
     .rcases lk with⟨z,_⟩|⟨_,c,hc1,hc2⟩
      .have z':X.env.scope.names.lookup y=some .local:=z;rw[kX]at z';cases z'
      .obtain⟨c',e'⟩:=Xl (env:=X.env) (AR7 jf);have:c'=c:=by
        have q:=hcl y c' e';rw[hc1]at q;exact(ARK q).symm
       subst this;obtain⟨oc,ho,hd⟩:=hc2;exact⟨c',e',oc,dZ _ _ ho,hd⟩
  .obtain⟨v,oc,ho,hd⟩:=I3.cell y c (hcl y c e);exact⟨v,oc,dZ _ _ ho,hd⟩
  .show(List.replicate xs.length none++js.map _).length=N'.length;rw[ok.eqN];simp
 have stat:∀{H':Hp},(∀b∈fp,H' b=none)->∀b∈fp,FP (blk X aM N' s3 (upd H2 D (.lst [])) C fp) [] H' b:=fun hn b hb=>by
  walk_at "M";exact⟨hn b hb,(kJ.exf b hb).1,kJ.exfs b hb,.inl hb,(kJ.exf b hb).2,fun p hp=>absurd (show p∈([]:List (Addr×Obj)) from hp) (by simp)⟩
 have loop:∀s':Shared,Inv (blk X aM N' s3 (upd H2 D (.lst [])) C fp) [] (List.replicate xs.length none++js.map fun j=>(Y[j]?).join) (upd H2 D (.lst [])) s'->tn 0 s'.heap ->
   codeAny (model X.prog X.w) X.A (.compLoop (.ListComp elt [⟨target,iter,ifs,0⟩] aM pos) 0 (.ref it) (.ref D) (compEnvC aM (clo aM X.env) C X.env)) (compPost (model X.prog X.w) X.A X.xe use R (.ref D) C) s':=by
  rintro s' I' t0;refine RT (fun m s=>∃i ys H',Inv (blk X aM N' s3 (upd H2 D (.lst [])) C fp) [] (List.replicate xs.length none++js.map fun j=>(Y[j]?).join) H' s/\tn i s.heap/\(∀b∈fp,H' b=none)/\W i m ys H') ?_ m0 ⟨0,[],_,I',t0,f3,w0⟩;rintro m s5 ⟨i,ys,H5,I5,t5,kH,w5⟩;obtain⟨bN,tt'⟩:=turn i m ys H5 w5;rcases tt' with⟨stop,qn⟩|⟨go,step⟩
  .refine thn (T.done (blk X aM N' s3 (upd H2 D (.lst [])) C fp) rfl rfl rfl hc i [] s5 _ H5 _ I5 (stat kH) t5 stop) fun r s6 ⟨hr,I6⟩=>?_;subst hr;obtain⟨m6,n6,_⟩:=I6.loc;have I7:Inv X aA Y H5 s6:=I3.call' (s':=s6) I6.os I6.base I6.hok I6.bare fun b hb=>by
    walk_at "M";exact⟨g3,g1,g4,g5⟩
   exact hfin D C s6 H5 m6 _ I7 (I3.fpOk (ATp je) I6.free) n6 qn
  .refine thn (T.item (blk X aM N' s3 (upd H2 D (.lst [])) C fp) rfl rfl rfl hc i [] s5 _ H5 _ I5 (stat kH) t5 go) fun r s6 ⟨u,hr,h6⟩=>?_;subst hr;refine thn h6 fun _ s7 ⟨xv,H6,I6,rx,y6,t6,rN⟩=>?_;have rO:=I6.pinned (stat rN) (T.obj _ _ t6);have back:∀{iw:Hp} {eJ:Shared} {zk zj:L2.St},zk=zj++(js.map fun j=>(Y[j]?).join)->zj.length=xs.length->Inv (blk X aM N' s3 (upd H2 D (.lst [])) C fp) ([]++Pk fp s7.heap) zk iw eJ ->
     Inv (blk X aM N' s3 (upd H2 D (.lst [])) C fp) [] (List.replicate xs.length none++js.map fun j=>(Y[j]?).join) iw eJ/\tn (i+1) eJ.heap/\∀b∈fp,iw b=none:=by
    intro iw eJ zk zj e1 e2 eK;subst e1;refine⟨(Inv.unpinned (aA:=[]) eK).weak (by simp[e2]) fun k v hk=>?_,T.keep _ _ _ t6 fun b hb o e=>(eK.pin (b,o) (ART _ (ART _ (Es hb e)))).1,fun b hb=>?_⟩
    .by_cases hk':k<xs.length
     .rw[AR0 (by rw[ARy];exact hk'),ATZ,if_pos hk']at hk;cases hk
     .rw[ARh (by rw[ARy];omega),ARy]at hk;rw[ARh (by omega),e2];exact hk
    .obtain⟨o,e,d⟩:=T.obj _ _ t6 b hb;exact(eK.pin (b,o) (ART _ (ART _ (Es hb e)))).2.1
   have st0:=step xv H6 y6 s3 (upd H2 D (.lst [])) C fp (List.replicate xs.length none) (ARy ..);refine ARe (hg s3 (upd H2 D (.lst [])) C fp _ s7 _ H6 xv u _ rO rx st0) (fun _ s8 h8=>?_) (fun _ _ z=>False.elim z);obtain⟨zk,H8,I8,⟨zj,e1,e2⟩,q8⟩:=h8;refine ARe (ht s3 (upd H2 D (.lst [])) C fp _ s8 zk H8 _ I8 q8) (fun ok' s9 h9=>?_) (fun _ _ z=>False.elim z);obtain⟨H9,I9,q9⟩:=h9;cases ok' with
   | false =>
    have jg:=q9;rw[if_neg ARJ]at jg;obtain⟨xR,m',hm',w9⟩:=jg;show if false=true then _ else _
    rw[if_neg ARJ];obtain⟨eK,kK,rP⟩:=back e1 e2 I9;exact⟨m',hm',i+1,ys,H9,eK,kK,rP,w9⟩
   | true =>
    have jg:=q9;rw[if_pos rfl]at jg;show if true=true then _ else _
    rw[if_pos rfl];have ps:Dc CX (Mp X aM N' s3 (upd H2 D (.lst [])) C fp (notedBy (model X.prog X.w) X.A (compEnvC aM (clo aM X.env) C X.env) fun e s'=>compPost (model X.prog X.w) X.A X.xe use R (.ref D) C (.error e) s')) E:=fun fK zd rQ kM e' lJ I' hcx=>by
     obtain⟨mC,nC,_⟩:=I'.loc;exact hX C (.ref D) e' aA Y rQ kM lJ (I3.call' (s':=kM) I'.os I'.base I'.hok I'.bare fun b hb=>by
      walk_at "M";exact⟨g3,g1,g4,g5⟩) (I3.fpOk (ATp je) I'.free) ⟨mC,nC⟩ hcx
    refine ARe (he s3 (upd H2 D (.lst [])) C fp _ ps _ s9 zk H9 _ (T9 I9) jg) (fun yv eJ h10=>?_) (fun _ _ z=>z);obtain⟨y,iw,lK,ry,lM,hlt,m',hm',w10⟩:=h10;have eK:=RW lK;refine ARe (HS (X:=blk X aM N' s3 (upd H2 D (.lst [])) C fp) _ eJ _ iw (.ref D) [y] (.ref D) [yv] (fun _ rR=>rR=upd iw D (.lst (ys++[y]))) eK rfl (.cons ry .nil) ⟨D,ys,y,rfl,rfl,lM,hlt,rfl⟩) (fun xS xT h11=>?_) (fun _ _ z=>False.elim z);obtain⟨xU,xV,rS,r12,rT⟩:=h11;subst rT;obtain⟨J1,J2,J3⟩:=back e1 e2 rS;exact⟨m',hm',i+1,ys++[y],_,J1,J2,J3,w10⟩
 have lN:tn 0 h4:=T.keep 0 _ _ pz fun b _ o e=>dZ b o e;exact codeAny_compStart_list (loop _ I4 lN) (T.self X.A 0 _ _ _ lN (loop _ I4 lN))
theorem WK{X:Cx}{elt iter target:Expr}{ifs:List Expr}{pos pos':Pos}{aM:Scope}{wi:TI}{tg:TG}{tt:Shared->Hp->Addr->List Addr->TT}{te:Shared->Hp->Addr->List Addr->TE}(xs:List Str)(js:List Nat){N':List Str}{fsc:Scope}{N:List Str}(ok:Kr fsc aM xs js N N')(hi:PI X target iter wi)(hg:∀zb zc C ex,PG (blk X aM N' zb zc C ex) target tg)(ht:∀zb zc C ex,PTs (blk X aM N' zb zc C ex) ifs (tt zb zc C ex))
  (he:∀zb zc C ex,PE (blk X aM N' zb zc C ex) elt (te zb zc C ex)) (hc:X.calm=true) (hsc:X.env.scope=fsc) (dY:X.N=N) (hs:∀x,foldedSetIterable iter X.env x=pure x)
  (use:Option (Value->Sem Unit)) (R:Value->Shared->Prop) {aA:List (Addr×Obj)} {s:Shared} {Y:L2.St} {H:Hp} {Q:VK} (I:Inv X aA Y H s) (h:Tj wi tg tt te xs.length js Y H Q)
  (hfin:∀(D C:Addr) (s6:Shared) (H5:Hp) (m6:Str->Option Value) (r:Flow),Inv X aA Y H5 s6->FP X aA H5 C->s6.heap.Ns C m6->Q (.ref D) H5->compPost (model X.prog X.w) X.A X.xe use R (.ref D) C (.ok r) s6) :
  wpAny (model X.prog X.w) X.A (comprehension (.ListComp elt [⟨target,iter,ifs,0⟩] aM pos) aM X.env pos' (newList []) false (eval iter X.env) use) R X.xe s:=by
 refine KH (CX:=fun _ _ _ _ _ _=>False) (E:=fun _ _ _=>False) xs js ok hi hg ht (fun zb zc C ex YY _ aA s Y H Q I h=>?_) hc hsc dY hs use R (fun _ _ _ _ _ _ _ _ _ _ _ z=>z.elim) I h hfin;walk_at "6"
theorem XC(nd:N'.Nodup)(hi:N'[i]?=some x)(hl:aM.names.lookup x=some .local):PG (blk X aM N' zb zc C ex) (.Name x px) (DP i) :=
 Xm (X:=blk X aM N' zb zc C ex) nd hi (.inl (by
  show(relabel aM X.env).names.lookup x=some .local;rw[Ec hl];rfl)) (.inr (by
  show(relabel aM X.env).names.lookup x=some .local;rw[Ec hl];rfl))
theorem ACX(h:PI X tg iter wi):PI X tg iter (fun Y H R=>∃R':It->Hp->Prop,wi Y H R'/\∀J H1,R' J H1->R J H1):=by
 intro aA s Y H R I hw;obtain⟨R',hw,hm⟩:=hw;refine thn (h aA s Y H R' I hw) fun v s1 h1=>thn h1 fun itv s2 h2=>?_;obtain⟨it,fp,tn,J,H2,e,I2,T,st2,f2,hr⟩:=h2;exact⟨it,fp,tn,J,H2,e,I2,T,st2,f2,hm J H2 hr⟩
theorem Lr{X:Cx}{CX:CXT}{E:XK}{elt iter:Expr}{x:Str}{px pos pos':Pos}{aM:Scope}{wi:TI}{te:Shared->Hp->Addr->List Addr->TE}(js:List Nat){N':List Str}{fsc:Scope}{N:List Str}(ok:Py fsc aM x js N N')(hi:PI X (.Name x px) iter wi)
  (he:∀zb zc C ex YY,Dc CX (Mp X aM N' zb zc C ex YY) E->PE (Mp X aM N' zb zc C ex YY) elt (te zb zc C ex)) (hc:X.calm=true) (hsc:X.env.scope=fsc) (dY:X.N=N) (hs:∀x,foldedSetIterable iter X.env x=pure x)
  (use:Option (Value->Sem Unit)) (R:Value->Shared->Prop) (hX:∀(C:Addr) (acc e:Value) (aA:List (Addr×Obj)) (Y:L2.St) (H1:Hp) (s1 s2:Shared),Inv X aA Y H1 s1->FP X aA H1 C->(∃m,s1.heap.Ns C m)->CX X.stack H1 s1 E e s2->notedBy (model X.prog X.w) X.A (compEnvC aM (clo aM X.env) C X.env) (fun e s'=>compPost (model X.prog X.w) X.A X.xe use R acc C (.error e) s') e s2) {aA:List (Addr×Obj)} {s:Shared} {Y:L2.St} {H:Hp} {Q:VK} (I:Inv X aA Y H s) (h:V5 wi te js Y H Q)
  (hfin:∀(D C:Addr) (s6:Shared) (H5:Hp) (m6:Str->Option Value) (r:Flow),Inv X aA Y H5 s6->FP X aA H5 C->s6.heap.Ns C m6->Q (.ref D) H5->compPost (model X.prog X.w) X.A X.xe use R (.ref D) C (.ok r) s6) :
  wpAny (model X.prog X.w) X.A (comprehension (.ListComp elt [⟨.Name x px,iter,[],0⟩] aM pos) aM X.env pos' (newList []) false (eval iter X.env) use) R X.xe s:=by
 have ej:(js.map fun j=>N.getD j x)=js.map fun j=>N.getD j "":=List.map_congr_left fun j hj=>by
  have:=(ok.js j hj).1;rw[ARV,ARV,AQ9 this];rfl
 have ok':Kr fsc aM [x] js N N':=⟨by rw[ok.eqN,ej];rfl,ok.fr,ok.cell,ok.kind,ok.nm,fun j hj=>by
  have:=ok.js j hj;have e:N.getD j x=N.getD j "":=by rw[ARV,ARV,AQ9 this.1];rfl
  rw[e]at this;exact this⟩
 refine KH (ifs:=[]) (tg:=DP 0) (tt:=fun _ _ _ _=>Nk) (te:=te) [x] js ok' (ACX hi) (fun zb zc C ex=>XC ok.nd (by rw[ok.eqN];rfl) ok.xl) (fun _ _ _ _=>N6) he hc hsc dY hs use R hX I ?_ hfin;refine⟨_,h,fun J H1 hw D hD=>?_⟩;obtain⟨W,w0,turn⟩:=hw D hD;refine⟨W,w0,fun i m ys H2 w=>?_⟩;obtain⟨e,t⟩:=turn i m ys H2 w;refine⟨e,t.imp id fun⟨go,y⟩=>⟨go,fun v H' yl zb zc C ex zj h0=>?_⟩⟩;obtain⟨o,rfl⟩:∃o,zj=[o]:=by
  match zj,h0 with
  | [o],_=>exact⟨o,rfl⟩
 exact⟨⟨[some v],rfl,rfl⟩,y v H' yl zb zc C ex⟩
theorem Y9{X:Cx}{elt iter:Expr}{x:Str}{px pos pos':Pos}{aM:Scope}{wi:TI}{te:Shared->Hp->Addr->List Addr->TE}(js:List Nat){N':List Str}{fsc:Scope}{N:List Str}(ok:Py fsc aM x js N N')(hi:PI X (.Name x px) iter wi)
  (he:∀zb zc C ex,PE (blk X aM N' zb zc C ex) elt (te zb zc C ex)) (hc:X.calm=true) (hsc:X.env.scope=fsc) (dY:X.N=N) (hs:∀x,foldedSetIterable iter X.env x=pure x)
  (use:Option (Value->Sem Unit)) (R:Value->Shared->Prop) {aA:List (Addr×Obj)} {s:Shared} {Y:L2.St} {H:Hp} {Q:VK} (I:Inv X aA Y H s) (h:V5 wi te js Y H Q)
  (hfin:∀(D C:Addr) (s6:Shared) (H5:Hp) (m6:Str->Option Value) (r:Flow),Inv X aA Y H5 s6->FP X aA H5 C->s6.heap.Ns C m6->Q (.ref D) H5->compPost (model X.prog X.w) X.A X.xe use R (.ref D) C (.ok r) s6) :
  wpAny (model X.prog X.w) X.A (comprehension (.ListComp elt [⟨.Name x px,iter,[],0⟩] aM pos) aM X.env pos' (newList []) false (eval iter X.env) use) R X.xe s:=by
 refine Lr (CX:=fun _ _ _ _ _ _=>False) (E:=fun _ _ _=>False) js ok hi (fun zb zc C ex YY _ aA s Y H Q I h=>?_) hc hsc dY hs use R (fun _ _ _ _ _ _ _ _ _ _ _ z=>z.elim) I h hfin;walk_at "6"
theorem Gp{px pos:Pos}(js:List Nat)(ok:Py fsc aM x js N N')(hi:PI X (.Name x px) iter wi)
  (he:∀zb zc C ex,PE (blk X aM N' zb zc C ex) elt (te zb zc C ex)) (hc:X.calm=true:=by rfl) (hsc:X.env.scope=fsc:=by rfl) (dY:X.N=N:=by rfl) (hs:∀x,foldedSetIterable iter X.env x=pure x:=by intro _;rfl) :
  PE X (.ListComp elt [⟨.Name x px,iter,[],0⟩] aM pos) (V5 wi te js):=by
 walk_at "i";rw[eval_ListComp];exact Y9 js ok hi he hc hsc dY hs none _ I h fun D C s6 H5 m6 _ I6 f6 n6 q=>⟨m6,n6,fun h7 sb=>⟨.ref D,H5,K6 I6 f6 sb,rfl,q⟩⟩
theorem UV{X:Cx}{elt iter target:Expr}{ifs:List Expr}{y:Str}{py pos spos:Pos}{i:Nat}{aM:Scope}{wi:TI}{tg:TG}{tt:Shared->Hp->Addr->List Addr->TT}{te:Shared->Hp->Addr->List Addr->TE}(hN:X.N.Nodup)(hi':X.N[i]?=some y)(hy:Loc X.env.scope y)
  (xs:List Str) (js:List Nat) {N':List Str} {fsc:Scope} {N:List Str} (ok:Kr fsc aM xs js N N') (hi:PI X target iter wi) (hg:∀zb zc C ex,PG (blk X aM N' zb zc C ex) target tg) (ht:∀zb zc C ex,PTs (blk X aM N' zb zc C ex) ifs (tt zb zc C ex))
  (he:∀zb zc C ex,PE (blk X aM N' zb zc C ex) elt (te zb zc C ex)) (hsw:swapsWith (.ListComp elt [⟨target,iter,ifs,0⟩] aM pos) (some (.Name y py)) spos.line X.env=pure true:=by rfl)
  (hc:X.calm=true:=by rfl) (hsc:X.env.scope=fsc:=by rfl) (dY:X.N=N:=by rfl) (hs:∀x,foldedSetIterable iter X.env x=pure x:=by intro _;rfl)
  (hf:X.fn y=true\/X.env.scope.names.lookup y=some .local:=by first | exact .inl rfl | exact .inr rfl | assumption) :
  PS X (.Assign [.Name y py] (.ListComp elt [⟨target,iter,ifs,0⟩] aM pos) spos) (Qe (Tj wi tg tt te xs.length js) (DP i)):=by
 intro aA s Y H D I h;rw[exec_Assign_Name_used _ _ _ _ hsw];refine AQ8 (ASb (AQ8 ?_));show wpAny _ X.A (do let _ <-comprehension (.ListComp elt [⟨target,iter,ifs,0⟩] aM pos) aM X.env _ (newList []) false (eval iter X.env) (some (assign (.Name y py) X.env))) _ _ s;refine AQ8 (ARe (WK xs js ok hi hg ht he hc hsc dY hs (some (assign (.Name y py) X.env)) (fun _ s'=>SP X aA D .next s') I h ?_) (fun _ s' hq=>ARL (ARL hq)) fun _ _ e=>e);intro D' C s6 H5 m6 r I6 f6 n6 q;show wpAny _ X.A (assign (.Name y py) X.env (.ref D')) _ _ _;obtain⟨o6,es,ep,ho,hd,hrest⟩:=id n6;have Ip:=I6.pinned (fp:=[C]) (fun b hb=>by
  walk_at "aC"
  subst e;exact f6) (fun b hb=>by
  walk_at "aC"
  subst e;exact⟨o6,ho,fun v z=>by rw[hd]at z;cases z⟩)
 walk_at "w"
theorem Rv{X:Cx}{aM:Scope}{N':List Str}{zb:Shared}{zc:Hp}{C:Addr}{ex:List Addr}{i j:Nat}{x y:Str}{px py pt:Pos}{k}(hc:X.calm=true)(nd:N'.Nodup)(hi:N'[i]?=some x)(hl:aM.names.lookup x=some .local)(hj:N'[j]?=some y)(hl2:aM.names.lookup y=some .local) :
  PG (blk X aM N' zb zc C ex) (.Tuple [.Name x px,.Name y py] k pt) (ACO X.K 2 (Pb (DP i) (Pb (DP j) ACs))) :=
 Ru (X:=blk X aM N' zb zc C ex) hc (FQ (XC nd hi hl) (FQ (XC nd hj hl2) Ng))
mutual
inductive Dv(H:Hp):V->PyData->Prop
 | non:Dv H .non .none
 | bl (b:Bool):Dv H (.bl b) (.bool b)
 | int (i:Int):Dv H (.int i) (.int i)
 | str (x:Str) (ok:(PyData.str x).canLay0=true):Dv H (.str x) (.str x)
 | lst {a:Addr} {xs:List V} {ds:List PyData}:H a=some (.lst xs)->DvAll H xs ds->Dv H (.ref a) (.list ds)
 | tup {a:Addr} {xs:List V} {ds:List PyData}:H a=some (.tup xs)->DvAll H xs ds->Dv H (.ref a) (.tuple ds)
inductive DvAll(H:Hp):List V->List PyData->Prop
 | nil:DvAll H [] []
 | cons {v:V} {vs:List V} {d:PyData} {ds:List PyData}:Dv H v d->DvAll H vs ds->DvAll H (v::vs) (d::ds)
end
mutual
theorem Dv.keep{H H':Hp}(s:Al H H'):∀{v:V} {d:PyData},Dv H v d->Dv H' v d
 | _,_,.non=>.non
 | _,_,.bl b=>.bl b
 | _,_,.int i=>.int i
 | _,_,.str x ok=>.str x ok
 | _,_,.lst h r=>.lst (s _ _ h) (DvAll.keep s r)
 | _,_,.tup h r=>.tup (s _ _ h) (DvAll.keep s r)
theorem DvAll.keep{H H':Hp}(s:Al H H'):∀{vs:List V} {ds:List PyData},DvAll H vs ds->DvAll H' vs ds
 | _,_,.nil=>.nil
 | _,_,.cons h r=>.cons (Dv.keep s h) (DvAll.keep s r)
end
mutual
theorem Dv.can{H:Hp}:∀{v:V} {d:PyData},Dv H v d->d.canLay0=true
 | _,_,.non=>rfl
 | _,_,.bl _=>rfl
 | _,_,.int _=>rfl
 | _,_,.str _ ok=>ok
 | _,_,.lst _ r=>by rw[PyData.canLay0];exact DvAll.can r
 | _,_,.tup _ r=>by rw[PyData.canLay0];exact DvAll.can r
theorem DvAll.can{H:Hp}:∀{vs:List V} {ds:List PyData},DvAll H vs ds->PyData.canLayAll0 ds=true
 | _,_,.nil=>rfl
 | _,_,.cons h r=>by rw[PyData.canLayAll0,Dv.can h,DvAll.can r];rfl
end
section
variable {X:Cx}{aA:List (Addr×Obj)}{Y:L2.St}{H:Hp}{s:Shared}
mutual
theorem Dv.reads(I:Inv X aA Y H s):∀{v:V} {d:PyData} {u:Value},Dv H v d->Bh v u->∃as,Reads s.heap u d as
 | _,_,_,.non,r=>by cases r;exact⟨_,.none⟩
 | _,_,_,.bl b,r=>by cases r;exact⟨_,.bool b⟩
 | _,_,_,.int i,r=>by obtain⟨t,rfl⟩:=r;exact⟨_,.int i t⟩
 | _,_,_,.str x _,r=>by obtain⟨t,rfl⟩:=r;exact⟨_,.str x t⟩
 | _,_,_,.lst h q,r=>by
  cases r;obtain⟨its,rv,p,_⟩:=I.list (SqL.of h);obtain⟨o,e,hc,n,hd⟩:=p.isList;obtain⟨as,ra⟩:=DvAll.reads I q rv;exact⟨_,.list e hc hd ra⟩
 | _,_,_,.tup h q,r=>by
  cases r;obtain⟨its,rv,p,_⟩:=I.tuple (SqT.of h);obtain⟨o,e,hc,n,hd⟩:=p;obtain⟨as,ra⟩:=DvAll.reads I q rv;exact⟨_,.tuple e hc hd ra⟩
theorem DvAll.reads(I:Inv X aA Y H s):∀{vs:List V} {ds:List PyData} {us:List Value},DvAll H vs ds->Ba vs us->∃as,ReadsAll s.heap us ds as
 | _,_,_,.nil,.nil=>⟨_,.nil⟩
 | _,_,_,.cons h q,.cons r rs=>by
  obtain⟨as,ra⟩:=Dv.reads I h r;obtain⟨bs,rb⟩:=DvAll.reads I q rs;exact⟨_,.cons ra rb⟩
end
end
def AP9(c:Bool->Bool):R2:=fun x y H Q=>∃dx dy,Dv H x dx/\Dv H y dy/\dx.depth<=60/\Q (.bl (c (PyData.eqv dx dy))) H
theorem AFf(hu:X.A.units+64<cLine):OpR X (compareOp .NotEq) (AP9 fun b=>!b):=by
 walk_at "k";obtain⟨dx,dy,hx,hy,hd,q⟩:=h;obtain⟨as,ra⟩:=hx.reads I rx;obtain⟨bs,rb⟩:=hy.reads I ry;exact SeqAt.compareNe_reads ra rb hx.can hy.can (by have:=Nat.min_le_left dx.depth dy.depth;omega) ⟨.bl _,H,I,rfl,q⟩
def Pq(H:Hp)(p:Addr)(q:Rat):Prop:=Pr H p q.num q.den
theorem Pq.keep(h:Pq H p q)(s:Al H H'):Pq H' p q:=s _ _ h
theorem Pq.sq{K:W.Frag}(h:Pq H p q):SqT K H p [.int q.num,.int q.den]:=SqT.of h
theorem Pq.of(h:Pr H p x y)(e:q.num=x/\(q.den:Int)=y):Pq H p q:=by
 unfold Pq;rw[e.1,e.2];exact h
abbrev Pqs(H:Hp):List Addr->List Rat->Prop:=Paired (Pq H)
theorem Pqs.keep(h:Pqs H ps qs)(s:Al H H'):Pqs H' ps qs:=Paired.imp' (fun _ _ z=>z.keep s) h
def Rw(H:Hp)(a:Addr)(qs:List Rat):Prop:=∃ps:List Addr,H a=some (.lst (ps.map V.ref))/\Pqs H ps qs
theorem Rw.keep(h:Rw H a qs)(s:Al H H'):Rw H' a qs:=by
 obtain⟨ps,h1,h2⟩:=h;exact⟨ps,s _ _ h1,h2.keep s⟩
theorem Pqs.get:∀{H:Hp} {ps:List Addr} {qs:List Rat} {i:Nat} {q:Rat},Pqs H ps qs->qs[i]?=some q->∃p,(ps.map V.ref)[i]?=some (.ref p)/\Pq H p q
 | _,_,_,0,_,.cons h _,e=>by cases e;exact⟨_,rfl,h⟩
 | _,_,_,_+1,_,.cons _ r,e=>by
  rw[ASP]at e;obtain⟨p,h1,h2⟩:=Pqs.get r e;exact⟨p,by rw[ARm,ASP];exact h1,h2⟩
theorem Pqs.take:∀{H:Hp} {ps:List Addr} {qs:List Rat} (n:Nat),Pqs H ps qs->Pqs H (ps.take n) (qs.take n)
 | _,_,_,0,_=>.nil
 | _,_,_,_+1,.nil=>.nil
 | _,_,_,n+1,.cons h r=>.cons h (Pqs.take n r)
theorem Pqs.drop:∀{H:Hp} {ps:List Addr} {qs:List Rat} (n:Nat),Pqs H ps qs->Pqs H (ps.drop n) (qs.drop n)
 | _,_,_,0,h=>h
 | _,_,_,_+1,.nil=>.nil
 | _,_,_,n+1,.cons _ r=>Pqs.drop n r
theorem Pqs.append:∀{H:Hp} {ps rs:List Addr} {qs ts:List Rat},Pqs H ps qs->Pqs H rs ts->Pqs H (ps++rs) (qs++ts)
 | _,_,_,_,_,.nil,k=>k
 | _,_,_,_,_,.cons h r,k=>.cons h (Pqs.append r k)
theorem Pqs.length(h:Pqs H ps qs):ps.length=qs.length:=AR1 h
def dq(q:Rat):PyData:=.tuple [.int q.num,.int q.den]
def dr(qs:List Rat):PyData:=.list (qs.map dq)
theorem Pq.dv(h:Pq H p q):Dv H (.ref p) (dq q):=.tup h (.cons (.int _) (.cons (.int _) .nil))
theorem AB1(p q:Rat):PyData.eqv (dq p) (dq q)=decide (p=q):=by
 show PyData.eqv (.tuple [.int p.num,.int p.den]) (.tuple [.int q.num,.int q.den])=_;simp only[PyData.eqv,PyData.eqvAll,Bool.and_true];by_cases h:p=q
 .subst h;simp
 .rw[decide_eq_false h];by_cases h1:p.num=q.num
  .have h2:¬(p.den:Int)=(q.den:Int):=fun z=>h (AVj h1 (by omega));have:((p.den:Int)==(q.den:Int))=false:=by simpa using h2
   rw[this,Bool.and_false]
  .have:(p.num==q.num)=false:=by simpa using h1
   rw[this,ATQ]
theorem ABH(q:Rat):(dq q).depth<=2:=by
 show PyData.depth (.tuple [.int q.num,.int q.den])<=2;simp[PyData.depth,PyData.depthAll]
theorem Rw.updO(h:Rw H b qs)(ha:H a=some (.lst xs))(n:b≠a):Rw (upd H a (.lst ys)) b qs:=by
 obtain⟨ps,h1,h2⟩:=h;exact⟨ps,by rw[An n];exact h1,Paired.imp' (fun p q z=>by
  have z':H p=some (.tup [.int q.num,.int q.den]):=z;show upd H a (.lst ys) p=_;rw[An (Gk z' ha (by intro w;cases w))];exact z') h2⟩
theorem Rw.lt(h:Rw H a qs):∃xs,H a=some (.lst xs)/\xs.length=qs.length:=by
 obtain⟨ps,h1,h2⟩:=h;exact⟨_,h1,by rw[Io,h2.length]⟩
theorem Rw.app(h:Rw H D qs)(s:Al H H2)(kp:Pq H2 p q) :
  ∃xs,H2 D=some (.lst xs)/\xs.length=qs.length/\Rw (upd H2 D (.lst (xs++[.ref p]))) D (qs++[q]):=by
 obtain⟨ps,h1,h2⟩:=h.keep s;refine⟨_,h1,by rw[Io,h2.length],ps++[p],by rw[Ag];simp,?_⟩;have up:∀p q,Pq H2 p q->Pq (upd H2 D (.lst (ps.map V.ref++[.ref p]))) p q:=fun p q z=>by
  have z':H2 p=some (.tup [.int q.num,.int q.den]):=z;show upd H2 D _ p=_;rw[An (Gk z' h1 (by intro w;cases w))];exact z'
 have ia:∀r t,Pq H2 r t->Pq (upd H2 D (.lst (ps.map V.ref++[.ref p]))) r t:=fun r t z=>by
  have z':H2 r=some (.tup [.int t.num,.int t.den]):=z;show upd H2 D _ r=_;rw[An (Gk z' h1 (by intro w;cases w))];exact z'
 exact Pqs.append (Paired.imp' ia h2) (.cons (ia _ _ kp) .nil)
theorem U7(K:W.Frag):W.kitOne K (.type "list") (.type "list")=some true:=rfl
theorem V2(q:Rat):PyData.eqv (dq q) (dq q)=true:=by rw[AB1];simp
def drr(jh:List (List Rat)):PyData:=.list (jh.map dr)
def Sx(S:List Addr)(H H':Hp):Prop:=∀b o,b∉S->H b=some o->H' b=some o
theorem Rw.copy(h:Rw H a qs)(e:H a=some (.lst xs))(n:H c=none):Rw (upd H c (.lst xs)) c qs:=by
 obtain⟨ps,e1,e2⟩:=h;rw[e]at e1;have e3:xs=ps.map V.ref:=by
  have:=ARK e1;injection this
 exact⟨ps,by rw[Ag,e3],e2.keep (Aj n _)⟩
theorem Rw.there(h:Rw H a qs):∃xs,H a=some (.lst xs)/\xs.length=qs.length:=h.lt
theorem AGw{α:Type}(f:α->V)(ps:List α)(k:Nat):GK (ps.map f) none (some (k:Int))=(ps.take k).map f:=by
 unfold GK;rw[HT.sIx_none,HT.sIx_nat,Io,ASc,AVc,AT4];by_cases h:k<=ps.length
 .rw[AUH h]
 .rw[Nat.min_eq_right (by omega),ARj (by rw[Io];omega),ARj (by rw[Io];omega)]
theorem Kv{α:Type}(f:α->V)(ps:List α)(k:Nat):GK (ps.map f) (some (k:Int)) none=(ps.drop k).map f:=by
 unfold GK;rw[HT.sIx_none,HT.sIx_nat,Io,AT5];by_cases h:k<=ps.length
 .rw[AUH h,ARj (by rw[ARd,Io];omega)]
 .rw[Nat.min_eq_right (by omega),AUw (by rw[Io];omega),AUw (by rw[Io];omega)];simp
def Itv(K:W.Frag)(a:Addr)(n:Nat):It :=
 ⟨fun i H=>i<n/\∃xs x,SqL K H a xs/\xs[n-1-i]?=some x,fun i H x H'=>H'=H/\∀xs,SqL K H a xs->xs[n-1-i]?=some x,fun i _=>i=n⟩
def AQ2(K:W.Frag)(ta:TA):TI:=fun Y H R=>ta Y H fun vs H1=>∃a xs,vs=[.ref a]/\SqL K H1 a xs/\R (Itv K a xs.length) H1
theorem ACb{P:Int->Prop}(x:Int)(hx:P x)(h:∀y:Int,P y->DP i (.int y) Y H Q):DP i (.int x) Y H Q:=h x hx
def AKh(t:TS):TS:=fun D Y H=>∃Mid:L2.St->Hp->Prop,(∀zd H',Mid zd H'->D.nx zd H')/\t { D with nx:=Mid } Y H
theorem Wz{st:Stmt}(h:PS X st t):PS X st (AKh t):=by
 intro aA s Y H D I hw;obtain⟨Mid,hm,hw⟩:=hw;refine thn (h aA s Y H _ I hw) fun f s1 q=>?_;cases f with
 | next =>
  obtain⟨zd,H',I',q⟩:=q;exact⟨zd,H',I',hm _ _ q⟩
 | ret v=>exact q
 | brk=>exact q
 | cont=>exact q
theorem Pq.updL(h:H D=some (.lst xs))(k:Pq H p q):Pq (upd H D (.lst ys)) p q:=by
 unfold Pq Pr;rw[An (Gk k h (by intro z;cases z))];exact k
theorem Pqs.updL(h:H D=some (.lst xs))(k:Pqs H ps qs):Pqs (upd H D (.lst ys)) ps qs:=Paired.imp' (fun _ _ z=>z.updL h) k
theorem CG(s:Al H1 H)(hD:H1 D=none)(o:HO):Al H1 (upd H D o):=fun b u q=>by rw[An (Az q hD)];exact s b u q
open Rq
theorem Wb{K:W.Frag}(hn:qs.length<=100000)(ha:Rw H1 a qs)(f:Rat->Str)
  (hs:∀zb zc C ex p q H (R:VK),q∈qs->Pq H p q->Al H1 H->(∀H2,Al H H2->R (.str (f q)) H2)->te zb zc C ex (some (.ref p)::js.map fun j=>(Y[j]?).join) H R)
  (hd:∀H D,Al H1 H->H1 D=none->H D=some (.lst ((qs.map f).map V.str))->Q (.ref D) H):Gv (Itl K a) te js Y Q H1:=by
 intro D hD;obtain⟨rs,hrs,kr⟩:=ha;have hlr:=kr.length;refine⟨fun i m ys H=>m=qs.length-i/\i<=qs.length/\ys=((qs.take i).map f).map V.str/\Al H1 H/\H D=some (.lst ys),⟨qs.length,by simp,ARu _,rfl,Aj hD _,Ag⟩,?_⟩;walk_at "A";walk_at "aP"
 .walk_at "aS";walk_at "l";walk_at "2";refine hs zb zc C ex p0 _ H' _ (ARS hlt) k0 sm fun H2 s2=>?_;walk_at "a"
  refine⟨s2 _ _ bN,by rw[Io,Io,ARc];omega,qs.length-(i+1),by omega,rfl,hlt,?_,CG (sm.trans s2) hD _,Ag⟩;rw[ASi,eq,ARU,ARU];rfl
 .have e:i=qs.length:=by omega
  subst e;rw[AR2]at bN;exact .inl ⟨⟨_,SqL.of hr,by rw[Io];omega⟩,hd H D sm hD bN⟩
theorem Ph(hn:z.length<=100000)(f:Nat->Bool)
  (hs:∀zb zc C ex c H (R:VK),c∈z->Al H1 H->R (.bl (f c)) H->te zb zc C ex (some (.str (sx [c]))::js.map fun j=>(Y[j]?).join) H R)
  (hd:∀H D,Al H1 H->H1 D=none->H D=some (.lst ((z.map f).map V.bl))->Q (.ref D) H):Gv (Its (sx z)) te js Y Q H1:=by
 intro D hD;have hsz:(sx z).cps.size=z.length:=BJ z;refine⟨fun i m ys H=>m=z.length-i/\i<=z.length/\ys=((z.take i).map f).map V.bl/\Al H1 H/\H D=some (.lst ys),⟨z.length,by simp,ARu _,rfl,Aj hD _,Ag⟩,?_⟩;walk_at "A";by_cases hlt:i<z.length
 .have eq:z[i]?=some z[i]:=AQ9 hlt;refine .inr ⟨(by show i<(sx z).cps.size;omega),fun x H' y zb zc C ex=>?_⟩;obtain⟨e,c,hc,hx⟩:=y;subst e hx;have hc':z[i]?=some c:=by
   have:(sx z).cps[i]?=z[i]?:=by simp[sx]
   rw[<-this];exact hc
  rw[eq]at hc';cases hc';refine hs zb zc C ex _ H' _ (ARS hlt) sm ?_;walk_at "a"
  refine⟨bN,by rw[Io,Io,ARc];omega,z.length-(i+1),by omega,rfl,hlt,?_,CG sm hD _,Ag⟩;rw[ASi,eq,ARU,ARU];rfl
 .have e:i=z.length:=by omega
  subst e;rw[AR2]at bN;exact .inl ⟨(by show(sx z).cps.size<=_;omega),hd H D sm hD bN⟩
def Tq(H:Hp)(r:Addr)(x:Rat×Rat):Prop:=∃p q,H r=some (.tup [.ref p,.ref q])/\Pq H p x.1/\Pq H q x.2
theorem Tq.keep(h:Tq H r x)(s:Al H H'):Tq H' r x:=by
 obtain⟨p,q,e,h1,h2⟩:=h;exact⟨p,q,s _ _ e,h1.keep s,h2.keep s⟩
abbrev Tqs(H:Hp):List Addr->List (Rat×Rat)->Prop:=Paired (Tq H)
theorem Tqs.keep(h:Tqs H ps qs)(s:Al H H'):Tqs H' ps qs:=Paired.imp' (fun _ _ z=>z.keep s) h
theorem Hj{α β:Type}{F:α->β->Prop}:∀{xs:List α} {ys:List β} {i:Nat} {y:β},Paired F xs ys->ys[i]?=some y->∃x,xs[i]?=some x/\F x y
 | _,_,0,_,.cons h _,e=>by cases e;exact⟨_,rfl,h⟩
 | _,_,_+1,_,.cons _ r,e=>by
  rw[ASP]at e;obtain⟨x,h1,h2⟩:=Hj r e;exact⟨x,by rw[ASP];exact h1,h2⟩
theorem Jl{α β:Type}{F:α->β->Prop}:∀{xs us:List α} {ys vs:List β},Paired F xs ys->Paired F us vs->Paired F (xs++us) (ys++vs)
 | _,_,_,_,.nil,k=>k
 | _,_,_,_,.cons h r,k=>.cons h (Jl r k)
def Rp(H:Hp)(a:Addr)(qs:List (Rat×Rat)):Prop:=∃ps:List Addr,H a=some (.lst (ps.map V.ref))/\Tqs H ps qs
theorem Rp.keep(h:Rp H a qs)(s:Al H H'):Rp H' a qs:=by
 obtain⟨ps,h1,h2⟩:=h;exact⟨ps,s _ _ h1,h2.keep s⟩
theorem Tq.updL(h:H D=some (.lst xs))(k:Tq H r x):Tq (upd H D (.lst ys)) r x:=by
 obtain⟨p,q,e,h1,h2⟩:=k;exact⟨p,q,by rw[An (Gk e h (by intro z;cases z))];exact e,h1.updL h,h2.updL h⟩
theorem Rp.app(h:Rp H D qs)(s:Al H H2)(kp:Tq H2 p q) :
  ∃xs,H2 D=some (.lst xs)/\xs.length=qs.length/\Rp (upd H2 D (.lst (xs++[.ref p]))) D (qs++[q]):=by
 obtain⟨ps,h1,h2⟩:=h.keep s;exact⟨_,h1,by rw[Io,AR1 h2],ps++[p],by rw[Ag];simp,Jl (Paired.imp' (fun _ _ z=>z.updL h1) h2) (.cons (kp.updL h1) .nil)⟩
theorem Rp.there(h:Rp H a qs):∃xs,H a=some (.lst xs)/\xs.length=qs.length:=by
 obtain⟨ps,h1,h2⟩:=h;exact⟨_,h1,by rw[Io,AR1 h2]⟩
theorem Ny{Y:L2.St}(S:List Addr)(I:Inv X aA Y H s)(k:∀b o,b∉S->s.heap.get? b=some o->h'.get? b=some o)(hS:∀b∈S,FP X aA H b):Inv X aA Y H { s with heap:=h',toks:=t' }:=by
 have i8:∀b u,H b=some u->b∉S:=fun b u e z=>by rw[(hS b z).1]at e;cases e
 refine I.step (g':=s.gens) (d':=s.drawn) (ch:=S) (fun b hb=>?_) (fun b o _ _ hc e _=>k b o hc e) (fun b o _ _ hc e _=>⟨o.slots,k b o hc e⟩) (fun _ _ _ _ n=>n)
  (fun b o hc e=>⟨o,k b o hc e⟩) (fun _ _ e=>e) (fun _ _ _ e=>e) (fun b ps e=>⟨#[],by rw[e];simp⟩) (fun m hm=>?_) (fun b u e=>?_) I.bare
 .obtain⟨h0,hL,_,h1,h2,h3⟩:=hS b hb;exact⟨h1,hL,h2,h3⟩
 .obtain⟨o,es,ep,ho,r⟩:=hm;exact⟨o,es,ep,k _ o (fun z=>(hS _ z).2.1 rfl) ho,r⟩
 .walk_at "aj"
  .rw[z];exact i8 b u e
  .exact i8 c _ z
def Itz(K:W.Frag)(a b:Addr):It :=
 ⟨fun i H=>∃xs ys x y,SqL K H a xs/\SqL K H b ys/\xs[i]?=some x/\ys[i]?=some y,
   fun i H v H'=>∃T x y,v=.ref T/\H T=none/\H'=upd H T (.tup [x,y])/\(∀xs,SqL K H a xs->xs[i]?=some x)/\∀ys,SqL K H b ys->ys[i]?=some y,
   fun i H=>∃xs ys,SqL K H a xs/\SqL K H b ys/\(xs.length<=i\/ys.length<=i)⟩
theorem ABZ{K:W.Frag}(a b z TI TO i1 i2:Addr)(D:ZipApart z TI TO i1 i2 a b):Turn P w K (.Tuple es k tp) (Itz K a b) [z,TI,TO,i1,i2] z
  (fun i h=>IsZip h z TI TO .none/\IsPair h TI (.ref i1) (.ref i2)/\(∃u v,IsPair h TO u v)/\h.IsListIter i1 a i/\h.IsListIter i2 b i) where
 mem:=by simp
 obj:=fun i h st c hc=>by
  walk_at "W"
  .exact⟨_,s1,fun v z=>by
    walk_at "ax";cases z'⟩
  .exact⟨_,s2,fun v z=>by
    walk_at "aD";cases z'⟩
  .exact⟨_,s3,fun v z=>by
    walk_at "aD";cases z'⟩
  .exact⟨o4,e4,fun v z=>by rw[d4]at z;cases z⟩
  .exact⟨o5,e5,fun v z=>by rw[d5]at z;cases z⟩
 keep:=fun i h h' st kk=>by
  obtain⟨s1,s2,⟨u,v,s3⟩,s4,s5⟩:=st;exact⟨kk z (by simp) _ s1,kk TI (by simp) _ s2,⟨u,v,kk TO (by simp) _ s3⟩,s4.at fun o e=>kk i1 (by simp) o e,s5.at fun o e=>kk i2 (by simp) o e⟩
 item:=by
  walk_at "d";walk_at "ab";obtain⟨xs,ys,x,y,fm,ft,hx,hy⟩:=hg;obtain⟨itx,gj,px,_⟩:=I.list fm;walk_at "al";walk_at "aa";have rY:i1<s.heap.objs.size:=by obtain⟨_,e,_⟩:=s4;exact ARF e
  have rZ:i2<s.heap.objs.size:=by obtain⟨_,e,_⟩:=s5;exact ARF e
  refine wpAny_pyNext_zip_item D s1 s2 s3 s4 s5 px.isList py.isList (x:=u) (y:=v) (by simpa using hu) (by simpa using hv) fun h1 a1 a2 a3 a4 a5 a6 hk1=>⟨_,rfl,AUZ a1 fun h2 b1 c6=>?_⟩;replace c6:Heap.SameBut z h1 h2:=c6;have fresh:H s.heap.objs.size=none:=I.hok.fresh (ARH _);have I1:Inv X aA Y (upd H s.heap.objs.size (.tup [x,y])) { s with heap:=s.heap.push { cls:=.type "tuple",data:=.seq ([u,v]:List Value).toArray },toks:=s.toks } :=
   I.laid (fun b o eb=>ARA _ eb) (ARH _) (show Bp X.prog X.w _ _ _ (.tup _) from⟨(by show 2<=sizeLine;decide),_,.cons ru (.cons rv .nil),IsTup.new _ _⟩)
  have fo:∀b,b<s.heap.objs.size->FP X aA H b->FP X aA (upd H s.heap.objs.size (.tup [x,y])) b:=fun b lb fb=>⟨by rw[An (ARt lb)];exact fb.1,fb.2⟩;have hfo:∀b∈[z,TI,TO,i1,i2],FP X aA (upd H s.heap.objs.size (.tup [x,y])) b:=fun b hb=>by
   refine fo b ?_ (hf b hb);simp only[ARI,AS4,or_false]at hb;rcases hb with rfl | rfl | rfl | rfl | rfl<;>assumption
  walk_at "aT"
  .refine⟨.ref s.heap.objs.size,_,I2,rfl,⟨_,x,y,rfl,fresh,rfl,fun zs hz=>by rw[I.list_inj hz fm];exact hx,fun zs hz=>by rw[I.list_inj hz ft];exact hy⟩,⟨b1,c6.extBut _ _ D.TIz (hk1 _ _ D.TIz D.TITO D.TIi1 D.TIi2 s2),⟨_,_,c6.extBut _ _ D.TOz a2⟩,a3.extBut c6.extBut D.i1z,a4.extBut c6.extBut D.i2z⟩,fun b hb=>(hfo b hb).1⟩
  .have n1:b≠z:=fun q=>nb (by simp[q]);walk_at "5";rcases ATz eb with⟨rfl,rfl⟩|eb
   .exact c6.extBut _ _ n1 a5
   .exact c6.extBut _ _ n1 (hk1 b o n1 n2 n3 n4 eb)
 done:=by
  walk_at "d";walk_at "ab";obtain⟨xs,ys,fm,ft,hend⟩:=hg;obtain⟨itx,gj,px,_⟩:=I.list fm;obtain⟨ji,gk,py,_⟩:=I.list ft;have lx:=gj.length;have ly:=gk.length;refine wpAny_pyNext_zip_end (I.ok.hd hc) D s1 s2 s3 s4 s5 px.isList py.isList ?_ fun h' hk=>⟨rfl,Ny (t':=s.toks) [z,TI,TO,i1,i2] I (fun b o nb e=>hk b o (fun q=>nb (by simp[q])) (fun q=>nb (by simp[q])) (fun q=>nb (by simp[q])) (fun q=>nb (by simp[q])) e) hf⟩;rcases hend with h|h
  .exact .inl (by simp;omega)
  .exact .inr (by simp;omega)
 self:=fun _ _ _ _ _ st h=>ATu st.1 h
def AP6(K:W.Frag)(ta:TA):TI:=fun Y H R=>ta Y H fun vs H1=>∃a b,vs=[.ref a,.ref b]/\(∃xs,SqL K H1 a xs)/\(∃ys,SqL K H1 b ys)/\R (Itz K a b) H1
theorem AAH{X:Cx}{es:List Expr}{k:Nat}{tp:Pos}{a b:Expr}{ta:TA}{p pos:Pos}(hg:Gl X "zip")(hm:X.mg "zip"=none)(ha:PA X [a,b] ta)(hs:starEach [a,b] X.env=[(false,eval a X.env),(false,eval b X.env)]:=by rfl)(hs2:starEach [b] X.env=[(false,eval b X.env)]:=by rfl) :
  PI X (.Tuple es k tp) (.Call (.Name "zip" p) [a,b] [] pos) (AP6 X.K ta):=by
 intro aA s Y H R I h;refine Call_ (Jx I hg hm boot_zip (ASN (thn (ha pos aA s Y H _ I h) fun us s1 ⟨vs,H1,I1,r1,q1⟩=>?_) (by rw[hs,hs2]) (by rw[hs2];rfl)));obtain⟨l1,l2,rfl,⟨xs,fm⟩,⟨ys,ft⟩,q⟩:=q1;cases r1 with
 | cons r rr =>
  cases rr with
  | cons r' rr =>
   cases rr;cases r;cases r';obtain⟨itx,gj,px,_⟩:=I1.list fm;obtain⟨ji,gk,py,_⟩:=I1.list ft;have a1:l1<s1.heap.objs.size:=by obtain⟨_,e,_⟩:=px.isList;exact ARF e
   have a2:l2<s1.heap.objs.size:=by obtain⟨_,e,_⟩:=py.isList;exact ARF e
   refine call_zip_2 px.isList py.isList fun h' hz hTI hTO hi1 hi2 hsz hk=>ATu hz ?_;walk_at "Y";refine⟨s1.heap.objs.size+4,[s1.heap.objs.size+4,s1.heap.objs.size+2,s1.heap.objs.size+3,s1.heap.objs.size,s1.heap.objs.size+1],_,_,H1,rfl,I2,ABZ l1 l2 _ _ _ _ _ (zipApart_new a1 a2),⟨hz,hTI,⟨_,_,hTO⟩,hi1,hi2⟩,fun b hb=>?_,q⟩;simp only[ARI,AS4,or_false]at hb;rcases hb with rfl|rfl|rfl|rfl|rfl
   .exact I1.fpOk (ARs _ 4) (I1.hok.fresh (ARs _ 4))
   .exact I1.fpOk (ARs _ 2) (I1.hok.fresh (ARs _ 2))
   .exact I1.fpOk (ARs _ 3) (I1.hok.fresh (ARs _ 3))
   .walk_at "C"
   .exact I1.fpOk (ARs _ 1) (I1.hok.fresh (ARs _ 1))
theorem ADc{K:PySem.W.Frag}{a b:Addr}{xs ys:List V}{g:TG}{tb:TS}{D:Ends}{Y:L2.St}{H:Hp}(n:Nat)(hn:n=min xs.length ys.length)(Pv:Nat->L2.St->Hp->Prop)(h0:Pv 0 Y H)(hl:∀i Y H,i<=n->Pv i Y H->SqL K H a xs/\SqL K H b ys)
  (hs:∀i x y Y H T,xs[i]?=some x->ys[i]?=some y->Pv i Y H->H T=none->g (.ref T) Y (upd H T (.tup [x,y])) fun zm H2=>tb { D with nx:=Pv (i+1),ct:=Pv (i+1),bk:=D.nx } zm H2) (hd:∀Y H,Pv n Y H->D.nx Y H) :
  ∃W:Nat->Nat->L2.St->Hp->Prop,(∃m,W 0 m Y H)/\∀i m Y H,W i m Y H ->
   ((Itz K a b).stop i H/\D.nx Y H)\/((Itz K a b).go i H/\∃N:L2.St->Hp->Prop,(∀zd H',N zd H'->∃m',m'<m/\W (i+1) m' zd H')/\∀x H',(Itz K a b).yld i H x H'->g x Y H' fun zm H2=>tb { D with nx:=N,ct:=N,bk:=D.nx } zm H2):=by
 walk_at "9";obtain⟨qx,qy⟩:=hl i Y H hi p;by_cases hlt:i<n
 .have h1:i<xs.length:=by omega
  have h2:i<ys.length:=by omega
  refine .inr ⟨⟨xs,ys,_,_,qx,qy,AQ9 h1,AQ9 h2⟩,Pv (i+1),fun zd H' p'=>⟨n-(i+1),by omega,rfl,hlt,p'⟩,?_⟩;rintro v H' ⟨T,x,y,rfl,hT,rfl,ex,ey⟩;exact hs i x y Y H T (ex xs qx) (ey ys qy) p hT
 .have e:i=n:=by omega
  subst e;exact .inl ⟨⟨xs,ys,qx,qy,by omega⟩,hd Y H p⟩
open PySem.W PySem.Calls
structure MJ(P:Program)(w:World)(K:W.Frag)(mg:Str->Option Value)(base:Heap)(C:Addr)(m:Str)(k:Nat)(ps:List Str)(sp:Sp):Prop where
 ex:∃f fd,BR P w K mg base CX0 k f fd ps sp/\DK K fd ps []/\ABJ K C m f/\Cls K C
structure ADU(P:Program)(w:World)(K:W.Frag)(mg:Str->Option Value)(base:Heap)(x:Str)(C:Addr)(k:Nat)(ps:List Str)(sp:Sp):Prop where
 ex:∃f fd,BR P w K mg base CX0 k f fd ps sp/\DK K fd ps []/\Mk K C f/\mg x=some (.ref C)
section
variable {X:Cx}{C:Addr}{m x:Str}{k j:Nat}{ps:List Str}{sp:Sp}{o e:Expr}{es:List Expr}{ta:TE}{t:TA}{p aF pos:Pos}{pl:Sem Bool}
theorem Iw(Cm:MJ X.prog X.w X.K X.mg X.base C m k ps sp)(hr:CJ j X.A)(he:PE X o ta)(hkj:k<=j:=by decide)
  (ht:eval (.Call (.Attribute o m aF) [] [] pos) X.env=(do
   let ov <-eval o X.env
   standAt aF.atName
   let (f,first) <-holding [ov] (getMethod ov m pl)
   callWith pos f first (backTo pos (starEach [] X.env)) (backToKw pos (keywordEach [] X.env))):=by rfl) :
  PE X (.Call (.Attribute o m aF) [] [] pos) (YB C m sp [] E0 ta NB):=by
 obtain⟨f,fd,F,b,hm,cl⟩:=Cm.ex;exact ABP he cl hm F (hr.mono hkj) b .nil YL ht
end
structure ABM(P:Program)(w:World)(K:W.Frag)(mg:Str->Option Value)(base:Heap)(x:Str)(k:Nat)(ps:List Str)(ds:List Value)(bX:List V)(sp:Sp):Prop where
 ex:∃f fd,BR P w K mg base CX0 k f fd ps sp/\DK K fd ps ds/\W.keepIn K (.ref f)=true/\mg x=some (.ref f)
 dv:Ba bX ds
theorem AAl{X:Cx}{x:Str}{k j:Nat}{ps:List Str}{ds:List Value}{bX:List V}{sp:Sp}{e:Expr}{es:List Expr}{t:TA}{p pos:Pos}(C:ABM X.prog X.w X.K X.mg X.base x k ps ds bX sp)(hr:CJ j X.A)(ha:PA X (e::es) t)(hkj:k<=j:=by decide)(hg:Gl X x:=by rfl)
  (hdb:(x==("__debug__":Str))=false:=by decide) (he:starEach (e::es) X.env=(false,eval e X.env)::starEach es X.env:=by rfl) (hpl:(backTo pos (starEach es X.env)).any (·.1)=false:=by rfl) :
  PE X (.Call (.Name x p) (e::es) [] pos) (Vh sp bX E0 t):=by
 walk_at "as";exact Nq F (hr.mono hkj) hg m kp b C.dv YL ha hdb he hpl
structure AQd(P:Program)(w:World)(K:W.Frag)(mg:Str->Option Value)(base:Heap)(x:Str)(k:Nat)(ps ks:List Str)(gV:List V->List V->List V)(sp:Sp):Prop where
 ex:∃f fd g,BR P w K mg base CX0 k f fd ps sp/\AHk K fd ps ks g gV/\W.keepIn K (.ref f)=true/\mg x=some (.ref f)
abbrev AFn(K:W.Frag)(x qual:Str)(st:Stmt)(dV:Value)(f:Addr)(fd:FuncData):Prop:=∃(oc:Value) (od:Option Addr) (kV doc pm:Value) (an:Option Addr) (cdv ct:Value) (osl:Array (Option Value)),
   fd=W.fnOf x qual (Bm st) (Bd st) (Ae st) dV kV doc pm an cdv ct/\K.lookup f=some ⟨oc,od,.func fd,osl⟩/\W.codeIn K cdv qual=true
theorem okD{P:Program}{w:World}{K:W.Frag}{mg:Str->Option Value}{base:Heap}{x qual:Str}{st:Stmt}{f:Addr}{fd:FuncData}{N ps:List Str}{k:Nat}{sp:Sp}{dV:Value}(F:AFn K x qual st dV f fd)
  (S:Ao N ps (Ae st)) (len:∀vs H Q E,sp vs H Q E->vs.length=ps.length)
  (hbody:∀(cdv:Value) (A:Around) (outer:List Env) (s:Shared) (H:Hp) (vs:List V) (Q:VK) (E:XK),CJ k (A.deeper (envOfC qual (Ae st) s.heap.objs.size f cdv))->sp vs H Q E ->
   ∃t,PSs (BL CX0 P w K mg base N qual (Ae st) f cdv A outer s H E).nox (Bd st) t/\t { nx:=fun _ H'=>Q .non H',rt:=Q } (Hc N vs) H):BR P w K mg base CX0 (k+1) f fd ps sp:=by
 obtain⟨oc,od,kV,doc,pm,an,cdv,ct,osl,rfl,lk,hcd⟩:=F;walk_at "X"
def AQW(K:W.Frag)(te ts:TE):TE:=fun Y H Q=>te Y H fun x H1=>ts Y H1 fun y H2=>∃a xs,x=.ref a/\y=.int (-1)/\SqL K H2 a xs/\∀p,H2 p=none->Q (.ref p) (upd H2 p (.lst xs.reverse))
theorem HF(hg:Gl X x)(hm:∃t,X.mg x=some (.int n t))(hd:(x==("__debug__":Str))=false:=by decide):PE X (.Name x pos) (tC (.int n)):=by
 obtain⟨t,hm⟩:=hm;exact Dz hg hm ⟨t,rfl⟩ hd
theorem Ox(hc:X.calm=true):HB X (.builtin "all") (fun xs H Q=>∃p bs,xs=[.ref p]/\SqL X.K H p (List.map V.bl bs)/\Q (.bl (bs.all id)) H):=by
 intro aA s Y H xs us Q I r h;obtain⟨p,bs,rfl,hq,q⟩:=h;obtain⟨u,rfl,rx⟩:=GQ r;cases rx;obtain⟨its,rv,pl,hz⟩:=I.list hq;have aB:=rv.length;rw[Io]at aB;have lt:p<s.heap.objs.size:=by
  obtain⟨o,ho,_⟩:=pl.isList;exact ARF ho
 refine call_all_walk (wpAny_pyIter_list pl.isList ?_);refine⟨s.heap.objs.size,_,_,_,_,_,(fun i=>(bs[i]?).getD true),rfl,Walks.list (A:=X.A.in1) (I.ok.hd hc) _ p (ARt lt) its.toArray,?st,?tr,fun h' tk hk=>?_⟩
 case st=>exact⟨⟨_,ARN _ rfl,rfl,rfl⟩,pl.isList.at fun o e=>ARA _ e⟩
 case tr =>
  intro i v s1 Q1 E1 hv q1;have hv':its[i]?=some v:=by simpa using hv
  have hi:i<bs.length:=by
   have:=(ARO.mp hv').1;omega
  have eb:bs[i]?=some bs[i]:=AQ9 hi;obtain⟨u,hu,ru⟩:=rv.get (i:=i) (x:=.bl bs[i]) (by rw[ARQ,eb];rfl);rw[hv']at hu;cases hu;cases ru;have q2:Q1 ((bs[i]?).getD true) s1:=q1;rw[eb]at q2;exact ASt q2
 .have e:(List.range its.toArray.size).all (fun i=>(bs[i]?).getD true)=bs.all id:=by
   rw[ARa,<-aB,ATY,ARg,ARg];constructor
   .intro hh b hb;obtain⟨i,hi,rfl⟩:=AVB hb;have:=hh i (ASh.mpr hi);rw[AQ9 hi]at this;exact this
   .intro hh i hi;have hi':=ASh.mp hi;rw[AQ9 hi'];exact hh _ (ARS hi')
  rw[e];refine⟨.bl (bs.all id),H,?_,rfl,q⟩;exact I.kept (h':=h') (t':=tk) fun b o eb=>hk b o (by
   simp;exact ARt (ARF eb)) (ARA _ eb)
theorem UJ{K:W.Frag}(hn:xs.length<=100000)(ha:H1 a=some (.lst xs))(f:Nat->Bool)
  (hs:∀zb zc C ex (i:Nat) x H (R:VK),xs[i]?=some x->Al H1 H->(∀H2,Al H H2->R (.bl (f i)) H2)->te zb zc C ex (some x::js.map fun j=>(Y[j]?).join) H R)
  (hd:∀H D,Al H1 H->H1 D=none->H D=some (.lst (((List.range xs.length).map f).map V.bl))->Q (.ref D) H):Gv (Itl K a) te js Y Q H1:=by
 intro D hD;refine⟨fun i m ys H=>m=xs.length-i/\i<=xs.length/\ys=((List.range i).map f).map V.bl/\Al H1 H/\H D=some (.lst ys),⟨xs.length,by simp,ARu _,rfl,Aj hD _,Ag⟩,?_⟩;walk_at "A";have hr:=sm _ _ ha;by_cases hlt:i<xs.length
 .have eq:xs[i]?=some xs[i]:=AQ9 hlt;refine .inr ⟨⟨_,_,SqL.of hr,eq⟩,fun x H' y zb zc C ex=>?_⟩;walk_at "m";rw[eq]at ex';cases ex';refine hs zb zc C ex i _ H' _ eq sm fun H2 s2=>?_;have h2:=s2 _ _ bN;walk_at "a"
  refine⟨h2,by rw[Io,Io,ASa];omega,xs.length-(i+1),by omega,rfl,hlt,?_,?_,Ag⟩
  .rw[ATF,ARU,ARU];rfl
  .intro b o e;rw[An (Az e hD)];exact s2 _ _ (sm _ _ e)
 .have e:i=xs.length:=by omega
  subst e;exact .inl ⟨⟨_,SqL.of hr,ARH _⟩,hd H D sm hD bN⟩
structure PEw(X:Cx)(e:Expr)(te:TE):Prop where
 h:PE X e te
structure PAw(X:Cx)(es:List Expr)(t:TA):Prop where
 h:PA X es t
section
variable {X:Cx}{es xs:List Expr}{e e2:Expr}{p p2:Pos}{te xW:TE}{t:TA}{k:Nat}
theorem BK:PEw X (.Constant (.str x) k p) (tC (.str x)):=⟨Ai⟩
theorem Cz(h:PAw X es t):PEw X (.Tuple es k p) (AGV t):=⟨CZ h.h⟩
theorem DX(h:PAw X es t):PEw X (.List es p) (WR t):=⟨Ff h.h⟩
theorem BZ(h:PE X e te):PEw X e te:=⟨h⟩
theorem BX:PAw X [] NB:=⟨Ab⟩
theorem Aw{c}(ha:PEw X (.Constant c k p) te)(hr:PAw X es t):PAw X (.Constant c k p::es) (Ha te t):=⟨Aa ha.h hr.h rfl⟩
theorem Bw(ha:PEw X (.Tuple xs k p) te)(hr:PAw X es t):PAw X (.Tuple xs k p::es) (Ha te t):=⟨Aa ha.h hr.h rfl⟩
theorem Be{o}(ha:PEw X (.BinOp e o e2 p) te)(hr:PAw X es t):PAw X (.BinOp e o e2 p::es) (Ha te t):=⟨Aa ha.h hr.h rfl⟩
end
structure PSw(X:Cx)(st:Stmt)(t:TS):Prop where
 h:PS X st t
structure ACp(X:Cx)(ss:List Stmt)(t:TS):Prop where
 h:PSs X ss t
theorem Mi{R:TS->Prop}(h:∃t,ACp X ss t/\R t):∃t,PSs X ss t/\R t:=by
 obtain⟨t,a,b⟩:=h;exact⟨t,a.h,b⟩
section
variable {X:Cx}{a b e:Expr}{pos pos':Pos}{ta tb te:TE}{st:Stmt}{ss:List Stmt}{t u:TS}
theorem Ei(ha:PEw X a ta)(hb:PEw X b tb):PEw X (.BinOp a .Add b pos) (tOp ACn ta tb):=⟨Ak T8 ha.h hb.h⟩
theorem CW{i:Nat}{x:Str}(hN:X.N.Nodup)(hi:X.N[i]?=some x)(hx:Loc X.env.scope x)(he:PEw X e te)(hs:swapsWith e (some (.Name x pos')) pos.line X.env=pure false:=by rfl)(hf:X.fn x=true\/X.env.scope.names.lookup x=some .local:=by first | exact .inl rfl | exact .inr rfl) :
  PSw X (.Assign [.Name x pos'] e pos) (Qe te (DP i)):=⟨AAs hN hi hx he.h hs hf⟩
theorem AAR(he:PEw X e te):PSw X (.Return (some e) pos) (ANu te):=⟨Aq he.h⟩
theorem XM(h:PSw X st t):ACp X [st] t:=⟨Af h.h⟩
theorem Bf(h:PSw X st t)(k:ACp X ss u):ACp X (st::ss) (Ve t u):=⟨Ac h.h k.h⟩
end
def ev2{α:Type}:List α->List α
 | []=>[]
 | [x]=>[x]
 | x::_::l=>x::ev2 l
theorem ev2_map{α β:Type}(f:α->β):∀l:List α,(ev2 l).map f=ev2 (l.map f)
 | []=>rfl
 | [_]=>rfl
 | x::y::l=>congrArg (f x::·) (ev2_map f l)
theorem ev2_mem{α:Type}{z:α}:∀{l:List α},z∈ev2 l->z∈l
 | [],h=>h
 | [_],h=>h
 | x::y::l,h=>by
  rcases ARI.mp h with e|e
  .rw[e];exact ASG
  .exact ARb _ (ARb _ (ev2_mem e))
theorem ev2_length{α:Type}:∀l:List α,(ev2 l).length=(l.length+1)/2
 | []=>by simp[ev2]
 | [_]=>by simp[ev2]
 | x::y::l=>by
  show(ev2 l).length+1=(l.length+1+1+1)/2;rw[ev2_length l];omega
theorem Ue{α:Type}:∀l:List α,(List.range ((l.length+1)/2)).filterMap (fun k=>l[2*k]?)=ev2 l
 | []=>by simp[ev2]
 | [_]=>by simp[ev2,ATF]
 | x::y::l=>by
  rw[show((x::y::l).length+1)/2=(l.length+1)/2+1 by simp only[ARD];omega,List.range_succ_eq_map,ASk];show x::List.filterMap (fun k=>(x::y::l)[2*k]?) (List.map Nat.succ (List.range ((l.length+1)/2)))=x::ev2 l;rw[AVM];refine congrArg (x::·) ?_;rw[<-Ue l];rfl
theorem RP{α β:Type}{f h:α->Option β}:∀{l:List α},(∀x∈l,f x=h x)->l.filterMap f=l.filterMap h
 | [],_=>rfl
 | x::l,e=>by
  rw[ASk,ASk,e x ASG,RP fun y hy=>e y (ARb _ hy)]
def AD7(lo:Option Int)(n:Nat):Prop:=(lo=none/\n=0)\/lo=some (n:Int)
theorem AA9(its:List Value){lo:Option Int}(h:AD7 lo n):slicePick its.toArray lo none (some 2)=(ev2 (its.drop n)).toArray:=by
 unfold slicePick
 congr 1
 obtain⟨m,hm⟩:∃m,m=min n its.length:=⟨_,rfl⟩;have eb:sliceBounds lo none (some 2) its.toArray.size=((m:Int),(its.length:Int),2):=by
  rw[ARa];rcases h with⟨rfl,rfl⟩|rfl
  .rw[hm,Nat.zero_min];rfl
  .simp only[sliceBounds,Option.getD_some,show(2:Int) > 0 by decide,if_true];refine Prod.ext ?_ rfl;show max 0 (min (if (n:Int)<0 then(n:Int)+(its.length:Int) else(n:Int)) (its.length:Int))=(m:Int);rw[if_neg (by omega)];omega
 rw[eb];have er:sliceRange (m:Int) (its.length:Int) 2=(List.range (((its.drop n).length+1)/2)).map fun k=>m+2*k:=by
  unfold sliceRange;have hc:(if (2:Int) > 0 then(if (m:Int)<(its.length:Int) then((its.length:Int)-(m:Int)+2-1)/2 else 0) else(if (m:Int) > (its.length:Int) then((m:Int)-(its.length:Int)-2-1)/(-2) else 0)).toNat=((its.drop n).length+1)/2:=by
   rw[if_pos (by decide),ARd];by_cases h:(m:Int)<(its.length:Int)
   .rw[if_pos h];omega
   .rw[if_neg h];omega
  show(List.range (if (2:Int) > 0 then _ else _:Int).toNat).map _=_;rw[hc];exact List.map_congr_left fun k _=>by omega
 show List.filterMap _ (sliceRange (m:Int) (its.length:Int) 2)=ev2 (its.drop n);rw[er,AVM,<-Ue];refine RP fun k hk=>?_;have hk':=ASh.mp hk;rw[ARd]at hk';show its.toArray[m+2*k]?=(its.drop n)[2*k]?;rw[List.getElem?_toArray,AVN,show m=n by omega]
theorem VB:∀{xs:List V} {us:List Value},Ba xs us->Ba (ev2 xs) (ev2 us)
 | _,_,.nil=>.nil
 | _,_,.cons a .nil=>.cons a .nil
 | _,_,.cons a (.cons _ r)=>.cons a (VB r)
def AIG(K:W.Frag)(te:TE)(tl:TO)(ts:TE):TE:=fun Y H Q=>te Y H fun x H1=>tl Y H1 fun l H2=>ts Y H2 fun y H3=>∃a xs n,x=.ref a/\y=.int 2/\AD7 l n/\SqL K H3 a xs/\∀p,H3 p=none->Q (.ref p) (upd H3 p (.lst (ev2 (xs.drop n))))
theorem U3{e st:Expr}{lo:Option Expr}(he:PE X e te)(hl:PO X lo tl)(hs:PE X st ts):PE X (.Subscript e (.Slice lo none (some st) p2) pos) (AIG X.K te tl ts):=by
 walk_at "i";walk_at "aN";refine wpAny_Slice (thn (hl aA s1 Y H1 _ I1 q1) fun vl s2 ⟨l,H2,I2,pl,q2⟩=>?_);rw[evalPart_none,evalPart_some];refine ARL (thn (hs aA s2 Y H2 _ I2 q2) fun w s3 ⟨y,H3,I3,r3,q3⟩=>?_);obtain⟨a,xs,n,rfl,rfl,hb,hx,q⟩:=q3;cases r1;obtain⟨t,rfl⟩:=r3;have I4:Inv X aA Y H3 { s3 with heap:=s3.heap.push { cls:=.type "slice",data:=.fields #[vl,.none,.int 2 t] } }:=I3.kept (t':=s3.toks) fun b ob q=>ARA _ q;obtain⟨its,rv,ht,hz⟩:=I4.list hx;have aB:=rv.length;show wpAny (model X.prog X.w) X.A (subscriptTail e (.Slice lo none (some st) p2) (.ref a) (.ref s3.heap.objs.size)) (EP X aA Y Q) X.xe { s3 with heap:=s3.heap.push { cls:=.type "slice",data:=.fields #[vl,.none,.int 2 t] } };refine tail_any (ops:=[.ref a,.ref s3.heap.objs.size]) ht.isList.typeIs slot_list_getitem.lookup ?_ (by with_unfolding_all rfl);refine AUe ht.isList (Heap.IsSliceOf.new ..) pl .none (.int 2 t) (by simp) ?_ (by rw[ARa]<;>omega);rw[AA9 its hb];refine⟨.ref _,_,I4.laid (t':=s3.toks) (o:=.lst (ev2 (xs.drop n))) (fun b ob q=>ARA _ q) (ARH _) ?_,rfl,q _ (I4.hok.fresh (ARH _))⟩;refine⟨?_,_,0,VB (rv.drop n),ARN _ rfl⟩;rw[ev2_length,ARd];omega
theorem XD{K:W.Frag}(hn:qs.length<=100000)(ha:Rw H1 a qs)(f:Rat->Int)
  (hs:∀zb zc C ex p q H (R:VK),q∈qs->Pq H p q->Al H1 H->R (.int (f q)) H->te zb zc C ex (some (.ref p)::js.map fun j=>(Y[j]?).join) H R)
  (hd:∀H D,Al H1 H->H1 D=none->H D=some (.lst ((qs.map f).map V.int))->Q (.ref D) H):Gv (Itl K a) te js Y Q H1:=by
 intro D hD;obtain⟨rs,hrs,kr⟩:=ha;have hlr:=kr.length;refine⟨fun i m ys H=>m=qs.length-i/\i<=qs.length/\ys=((qs.take i).map f).map V.int/\Al H1 H/\H D=some (.lst ys),⟨qs.length,by simp,ARu _,rfl,Aj hD _,Ag⟩,?_⟩;walk_at "A";walk_at "aP"
 .walk_at "aS";walk_at "l";walk_at "2";refine hs zb zc C ex p0 _ H' _ (ARS hlt) k0 sm ?_;walk_at "a"
  refine⟨bN,by rw[Io,Io,ARc];omega,qs.length-(i+1),by omega,rfl,hlt,?_,?_,Ag⟩
  .rw[ASi,eq,ARU,ARU];rfl
  .intro b o e;rw[An (Az e hD)];exact sm _ _ e
 .have e:i=qs.length:=by omega
  subst e;rw[AR2]at bN;exact .inl ⟨⟨_,SqL.of hr,by rw[Io];omega⟩,hd H D sm hD bN⟩
def cnt(p:Nat->Bool):Nat->Nat
 | 0=>0
 | n+1=>cnt p n+if p n then 1 else 0
theorem hu1(r:CJ k A):A.units+1<cLine:=by have:=r.un;omega
section
variable {prog:Program}{w:World}{A:Around}{E:Value->Shared->Prop}{s:Shared}
end
def Itk(a:Addr)(o:Obj)(aG:List (List Key×V)):It :=
 ⟨fun i H=>H a=some (.frz o (.dT aG))/\i<aG.length,fun i H x H'=>H'=H/\∃b p,aG[i]?=some p/\x=.ref b/\H b=some (.tup (p.1.map kV)),fun i H=>H a=some (.frz o (.dT aG))/\aG.length<=i⟩
def iDT(tl:TE):TI:=fun Y H R=>tl Y H fun x H1=>∃a aG,x=.ref a/\H1 a=some (.dT aG)/\∀o,R (Itk a o aG) (upd H1 a (.frz o (.dT aG)))
section
variable {prog:Program}{w:World}{A:Around}{E:Value->Shared->Prop}{s:Shared}
end
section
variable {prog:Program}{w:World}{A:Around}{E:Value->Shared->Prop}{s:Shared}
end
def AOr(ta:TA):TE:=fun Y H Q=>ta Y H fun vs H1=>∃j:Nat,vs=[.int j]/\j<=1000/\∀p,H1 p=none->Q (.ref p) (upd H1 p (.tup ((List.range j).map fun(i:Nat)=>V.int i)))
def AQV(K:W.Frag):V->V->Hp->VK->Prop:=fun x y H Q=>(∃a b ys,x=.ref a/\y=.ref b/\SqT K H a []/\SqT K H b ys/\Q (.ref b) H)\/AM9 K x y H Q
def APy(tk tv:TE):TE:=fun Y H Q=>∀p,H p=none->tk Y (upd H p (.dT [])) fun x H1=>tv Y H1 fun y H2=>∃b ks,x=.ref b/\H2 b=some (.tup (ks.map kV))/\H2 p=some (.dT [])/\Q (.ref p) (upd H2 p (.dT [(ks,y)]))
def WW:Value->Bool
 | .bool b=>b
 | _=>false
theorem R0:∀{bs:List Bool} {its:List Value},Ba (bs.map V.bl) its->its=bs.map Value.bool
 | [],_,h=>by
  cases h;rfl
 | b::bs,_,h=>by
  cases h with
  | cons r t =>
   cases r;rw[R0 t];rfl
theorem ABA{bs:List Bool}(A:Around)(s:Shared):∀y,y∈(bs.map Value.bool).toArray->SeqAt.EqAt A s y (.bool true) (WW y):=fun y hy=>by
 obtain⟨b,_,rfl⟩:=ARR.mp (List.mem_toArray.mp hy);have:=SeqAt.EqAt.bool_bool (A:=A) (s:=s) b true;rw[show(b==true)=WW (.bool b) from by cases b<;>rfl]at this;exact this
section
variable {X:Cx}
theorem Ys:MtR X "list.count" (fun x xs H Q=>∃(l:Addr) (bs:List Bool),x=.ref l/\xs=[.bl true]/\H l=some (.lst (bs.map V.bl))/\Q (.int ((bs.countP id:Nat):Int)) H):=by
 intro aA s Y H x xs v us Q I rx rs h;obtain⟨l,bs,rfl,rfl,hH,q⟩:=h;cases rx;obtain⟨u,rfl,ru⟩:=GQ rs;cases ru;obtain⟨z,its,n,r,hl,e⟩:=I.lstM hH;obtain rfl:=R0 r;refine call_meets F.slot_list_count ⟨_,e,rfl⟩ F.entry_list_count (F.args_list_count_2 _ _) (SeqAt.list_countAt l _ n none #[] (.bool true) WW) ⟨e,ABA _ _,?_⟩;have ec:(bs.map Value.bool).toArray.toList.countP WW=bs.countP id:=by
  rw[List.countP_map];rfl
 rw[ec];exact⟨.int ((bs.countP id:Nat):Int),H,I.tok _,⟨_,rfl⟩,q⟩
theorem Y7:MtR X "list.index" (fun x xs H Q=>∃(l:Addr) (bs:List Bool) (j:Nat),x=.ref l/\xs=[.bl true]/\H l=some (.lst (bs.map V.bl))/\j<1000/\bs[j]?=some true/\(∀i,i<j->bs[i]?=some false)/\Q (.int (j:Int)) H):=by
 intro aA s Y H x xs v us Q I rx rs h;obtain⟨l,bs,j,rfl,rfl,hH,hj,ht,hf,q⟩:=h;cases rx;obtain⟨u,rfl,ru⟩:=GQ rs;cases ru;obtain⟨z,its,n,r,hl,e⟩:=I.lstM hH;obtain rfl:=R0 r;have lj:j<bs.length:=(ARO.mp ht).1;have at_:∀i (hi:i<(bs.map Value.bool).toArray.size),WW (bs.map Value.bool).toArray[i]=(bs[i]?).getD false:=fun i hi=>by
  have hi':i<bs.length:=by simpa using hi
  simp[hi',WW]
 refine call_meets F.slot_list_index ⟨_,e,rfl⟩ F.entry_list_index (F.args_list_index_2 _ _) (SeqAt.list_indexAt l _ n none #[] (.bool true) WW j (by simpa using lj) (by omega) (by rw[at_,ht];rfl) (fun i hi h=>by rw[at_,hf i h];rfl)) ⟨e,ABA _ _,?_⟩;exact⟨.int (j:Int),H,I.tok _,⟨_,rfl⟩,q⟩
end
theorem T4(s sub:Str)(hi limit:Nat):∀(l:List Nat) (st:Array Nat×Nat),∃r,(forIn l st (StrLaws.occBody s sub hi limit)).run.fst.toList=st.fst.toList++r
 | [],st=>⟨[],by rw[ARx];rfl⟩
 | a::l,st=>by
  rw[ASx];unfold StrLaws.occBody
  split
  .obtain⟨r,e⟩:=T4 s sub hi limit l (st.fst.push a,a+sub.length);refine⟨a::r,?_⟩;refine(show _=_ from e).trans ?_;show(st.fst.push a).toList++r=_;rw[Array.toList_push,ATM];rfl
  .exact T4 s sub hi limit l (st.fst,st.snd)
theorem VF(s sub:Str)(hi k:Nat):∀(l:List Nat) (st:Array Nat×Nat),k<=st.fst.size->(forIn l st (StrLaws.occBody s sub hi k)).run.fst=st.fst
 | [],_,_=>rfl
 | a::l,st,h=>by
  rw[ASx];unfold StrLaws.occBody;rw[if_neg (fun z=>by have:=z.1.1.1;omega)];exact VF s sub hi k l (st.fst,st.snd) h
theorem occ_take(s sub:Str)(hi k M:Nat)(hM:k<=M):∀(l:List Nat) (st:Array Nat×Nat),st.fst.size<=k->(forIn l st (StrLaws.occBody s sub hi k)).run.fst.toList=((forIn l st (StrLaws.occBody s sub hi M)).run.fst.toList).take k
 | [],st,h=>by
  show st.fst.toList=st.fst.toList.take k;rw[ARj (by simpa using h)]
 | a::l,st,h=>by
  by_cases hk:st.fst.size=k
  .rw[VF s sub hi k (a::l) st (by omega)];obtain⟨r,e⟩:=T4 s sub hi M (a::l) st;rw[e,List.take_append_of_le_length (by simp;omega),ARj (by simp;omega)]
  .have ih:=fun st' h'=>occ_take s sub hi k M hM l st' h';rw[ASx,ASx];unfold StrLaws.occBody at *;by_cases c:(st.snd<=a/\a+sub.length<=hi)/\subAt s sub a=true
   .rw[if_pos ⟨⟨⟨by omega,c.1.1⟩,c.1.2⟩,c.2⟩,if_pos ⟨⟨⟨by omega,c.1.1⟩,c.1.2⟩,c.2⟩];exact ih (st.fst.push a,a+sub.length) (by simp only[Array.size_push];omega)
   .rw[if_neg (fun z=>c ⟨⟨z.1.1.2,z.1.2⟩,z.2⟩),if_neg (fun z=>c ⟨⟨z.1.1.2,z.1.2⟩,z.2⟩)];exact ih (st.fst,st.snd) h
theorem parts_len(x:Str)(w:Nat):∀(cuts:List Nat) (a:Nat),(StrLaws.partsFrom x w a cuts).length=cuts.length+1
 | [],_=>rfl
 | c::r,a=>by
  show(_::StrLaws.partsFrom x w (c+w) r).length=_;rw[ARD,parts_len x w r,ARD]
theorem Ow(x y:Str):∀(cuts:List Nat) (a f k:Nat),StrLaws.ChainTo x y x.length a cuts f->k<=cuts.length->StrLaws.partsFrom x y.length a (cuts.take k)=(StrLaws.partsFrom x y.length a cuts).take k++[Str.join y ((StrLaws.partsFrom x y.length a cuts).drop k)]
 | cuts,a,f,0,h,_=>by
  rw[List.take_zero,List.take_zero,ASc,StrLaws.join_partsFrom x y cuts a f h];rfl
 | [],a,f,k+1,h,hk=>by simp at hk
 | c::r,a,f,k+1,h,hk=>by
  rw[List.take_succ_cons];show strSub x a c::StrLaws.partsFrom x y.length (c+y.length) (r.take k)=_;rw[Ow x y r (c+y.length) f k h.2.2 (by simpa using hk)];rfl
theorem Yn{c:Nat}{ws:List (List Nat)}{k:Nat}(h:∀w∈ws,c∉w)(h1:1<=k)(hk:k<ws.length):Txt.splitMax (sx (jn c ws)) (sx [c]) (k:Int)=(ws.take k++[jn c (ws.drop k)]).map sx:=by
 have hn:ws≠[]:=fun z=>by rw[z]at hk;simp at hk
 have e:=U0 h hn;unfold Txt.split at e;have two:∀z:Str,[z]≠ws.map sx:=fun z q=>by
  have:=congrArg List.length q;rw[Io,ARn]at this;omega
 unfold Txt.splitMax
 split at e
 .exact absurd e (two _)
 .rename_i hc
  rw[if_neg hc]
  split at e
  .exact absurd e (two _)
  .rw[ASO]at e;obtain⟨f,ch⟩:=StrLaws.occ_chain (sx (jn c ws)) (sx [c]) ((sx (jn c ws)).length+1);have hl:=congrArg List.length e;rw[parts_len,Io]at hl;have hle:=StrLaws.occ_length_le (sx (jn c ws)) (sx [c]) 0 (sx (jn c ws)).length ((sx (jn c ws)).length+1);have lim:limitOf (sx (jn c ws)) (k:Int)=k:=by
    unfold limitOf;rw[if_neg (by omega),ASj]
   have tk:occurrences (sx (jn c ws)) (sx [c]) 0 (sx (jn c ws)).length k=(occurrences (sx (jn c ws)) (sx [c]) 0 (sx (jn c ws)).length ((sx (jn c ws)).length+1)).take k:=by
    rw[ASd,ASd];exact occ_take _ _ _ _ _ (by omega) _ _ (ARu _)
   rw[lim,tk];generalize occurrences (sx (jn c ws)) (sx [c]) 0 (sx (jn c ws)).length ((sx (jn c ws)).length+1)=cuts at *;have ne:¬((cuts.take k).isEmpty=true):=fun z=>by
    have:=AUs.mp z;have:=congrArg List.length this;rw[ARc,ASJ]at this;omega
   rw[if_neg ne,ASO,Ow _ _ cuts 0 f k ch (by omega),e,<-AT4,<-AT5,Kl,ARU];rfl
section
variable {X:Cx}
theorem Yw:MtR X "str.split" (fun x xs H Q=>∃a b,∃k:Nat,x=.str a/\xs=[.str b,.int k]/\b.length≠0/\k<2^62/\a.length<=sizeLine/\(Txt.splitMax a b k).length<=sizeLine/\∀p,H p=none->Q (.ref p) (upd H p (.lst ((Txt.splitMax a b k).map V.str)))):=by
 walk_at "T";obtain⟨a,b,k,rfl,rfl,hb,hk,ha,hn,q⟩:=h;walk_at "z";obtain⟨u,u2,rfl,ru,sd⟩:=ABq rs;obtain⟨t',rfl⟩:=ru;obtain⟨t2,rfl⟩:=sd;have hb':(b.length==0)=false:=by simpa using hb
 have hk':(decide ((k:Int) < -(2^63:Int)) || decide ((k:Int) >= 2^63))=false:=by
  rw[Bool.or_eq_false_iff];exact⟨decide_eq_false (by omega),decide_eq_false (by omega)⟩
 have q':=q s.heap.objs.size (I.hok.fresh (ARH _));have fin:∀(k':Nat) (ts:List Str) (its:List Value),Txt.splitMax a b k=ts->Ba (ts.map V.str) its->EP X aA Y Q (.ref s.heap.objs.size) { s with toks:=k',heap:=s.heap.push { cls:=.type "list",data:=.seq its.toArray } }:=fun k' ts its e r=>by
  rw[e]at q' hn;refine⟨.ref s.heap.objs.size,_,I.laid (t':=k') (o:=.lst (ts.map V.str)) (fun b ob q=>ARA _ q) (ARH _) ?_,rfl,q'⟩;exact⟨by rw[Io];exact hn,its,_,r,ARN _ rfl⟩
 cases h1:(decide (a.length<b.length) || decide (strKind a<strKind b)) with
 | true =>
  have e:Txt.splitMax a b k=[a]:=by unfold Txt.splitMax;rw[if_pos h1]
  exact call_meets AS3 (typeIs_str _ _ _) ASw (AUU _ _ _) (meets_str_split_max_cannot_occur a b k t t' t2 hk' h1) (fin s.toks [a] [.str a t] e (.cons ⟨_,rfl⟩ .nil))
 | false =>
  cases hf:(occurrences a b 0 a.length (limitOf a k)).isEmpty with
  | true =>
   have e:Txt.splitMax a b k=[a]:=by unfold Txt.splitMax;rw[h1,hf];rfl
   exact call_meets AS3 (typeIs_str _ _ _) ASw (AUU _ _ _) (meets_str_split_max_not_found a b k t t' t2 hk' h1 hb' hf) (fin s.toks [a] [.str a t] e (.cons ⟨_,rfl⟩ .nil))
  | false =>
   have e:Txt.splitMax a b k=partsBetween a (occurrences a b 0 a.length (limitOf a k)) b.length:=by unfold Txt.splitMax;rw[h1,hf];rfl
   exact call_meets AS3 (typeIs_str _ _ _) ASw (AUU _ _ _) (meets_str_split_sep_max a b k t t' t2 hk' h1 hb' hf ha (by rw[<-e];exact hn)) (fin _ _ _ e (Lq s.toks _))
end
def DcK(P:Program)(w:World)(K:W.Frag)(a:Addr)(aG:List (Key×V)):Prop:=(a==sysModules)=false/\∃(o:Obj) (vs:List (Key×Value)),K.lookup a=some o/\Obj.IsDictOf (Bx P w) o vs/\KV aG vs
def AGv(P:Program)(w:World)(K:W.Frag)(a:Addr)(tab:List (Str×List Str)):Prop:=∃aG,DcK P w K a aG/\Paired (fun(p:Key×V) (e:Str×List Str)=>p.1=.inr e.1/\∃t,p.2=.ref t/\∀H,SqT K H t (e.2.map V.str)) aG tab
def Du:List (Str×List Str)->Str->Option (List Str)
 | [],_=>none
 | e::r,x=>if e.1=x then some e.2 else Du r x
theorem W9{K:W.Frag}(h:Paired (fun(p:Key×V) (e:Str×List Str)=>p.1=.inr e.1/\∃t,p.2=.ref t/\∀H,SqT K H t (e.2.map V.str)) aG tab)(x:Str) :
  (∀row,Du tab x=some row->∃t,Dn aG (.inr x)=some (.ref t)/\∀H,SqT K H t (row.map V.str))/\(Du tab x=none->Dn aG (.inr x:Key)=none):=by
 induction h with
 | nil=>exact⟨fun row h=>(nomatch h),fun _=>rfl⟩
 | @cons p e ps es hp _ ih =>
  obtain⟨e1,t,e2,e3⟩:=hp;by_cases hx:e.1=x
  .refine⟨fun row h=>?_,fun h=>?_⟩
   .have h':(if e.1=x then some e.2 else Du es x)=some row:=h;rw[if_pos hx]at h';cases h';exact⟨t,by rw[Ck (by rw[e1,hx]),e2],e3⟩
   .have h':(if e.1=x then some e.2 else Du es x)=none:=h;rw[if_pos hx]at h';cases h'
  .have ne:p.1≠.inr x:=fun z=>hx (by rw[e1]at z;exact AU7 z);have er:Du (e::es) x=Du es x:=if_neg hx;rw[er,Cq ne];exact ih
section
variable {X:Cx}{aA:List (Addr×Obj)}{Y:L2.St}{H:Hp}{s:Shared}{a:Addr}{tab:List (Str×List Str)}
theorem ABQ(I:Inv X aA Y H s)(h:DcK X.prog X.w X.K a aG):(a==sysModules)=false/\∃vs,KV aG vs/\s.heap.DictOf (Bx X.prog X.w) a vs:=by
 obtain⟨h1,o,vs,hk,hd,rel⟩:=h;exact⟨h1,vs,rel,Heap.dictOf_iff.mpr ⟨o,I.kIn a o hk,hd⟩⟩
def AFO(P:Program)(w:World)(K:W.Frag)(td ty:TE):TE:=fun Y H Q=>td Y H fun x H1=>ty Y H1 fun y H2=>∃a tab t row,x=.ref a/\AGv P w K a tab/\y=.str t/\Du tab t=some row/\∀p,SqT K H2 p (row.map V.str)->Q (.ref p) H2
def ADK(P:Program)(w:World)(K:W.Frag)(ty td:TE):TE:=fun Y H Q=>ty Y H fun y H1=>td Y H1 fun x H2=>∃a tab t,x=.ref a/\AGv P w K a tab/\y=.str t/\Q (.bl (!(Du tab t).isSome)) H2
theorem Uh(ho:PE X o td)(hi:PE X i ty)(hs:AH4 i):PE X (.Subscript o i pos) (AFO X.prog X.w X.K td ty):=by
 walk_at "i";refine Xj AUY.lookup hs (thn (ho aA s Y H _ I h) fun u s1 ⟨x,H1,I1,rx,q1⟩=>thn (hi aA s1 Y H1 _ I1 q1) fun iv s2 ⟨y,H2,I2,ry,a,tab,t,row,ex,⟨aG,dk,pr⟩,ey,er,q2⟩=>?_);subst ex ey;obtain rfl:u=Value.ref a:=rx;obtain⟨hd,vs,rel,dd⟩:=ABQ I2 dk;obtain⟨p,hv,hp⟩:=(W9 pr t).1 row er;obtain⟨w',hw,dP⟩:=Gu.some_of (v:=.ref p) (o:=valueAt vs (.inr t)) (by rw[<-hv];exact rel.val _);exact⟨dd.typeIs,wpAny_getItem_of (Oq (k:=.inr t) ry) dd.mapOf hw ⟨_,H2,I2.tok _,dP,q2 p (hp H2)⟩⟩
theorem WX(hi:PE X i ty)(ho:PE X o td):PC X .NotIn i o (ADK X.prog X.w X.K ty td):=by
 intro aA s Y H Q I h;refine thn (hi aA s Y H _ I h) fun iv s1 ⟨y,H1,I1,ry,q1⟩=>thn (ho aA s1 Y H1 _ I1 q1) fun u s2 ⟨x,H2,I2,rx,a,tab,t,ex,⟨aG,dk,pr⟩,ey,q2⟩=>?_;subst ex ey;obtain rfl:u=Value.ref a:=rx;obtain⟨hd,vs,rel,dd⟩:=ABQ I2 dk;refine wpAny_notIn_of (Oq (k:=.inr t) ry) hd dd.mapOf ?_;have e:(valueAt vs (.inr t:Key)).isSome=(Du tab t).isSome:=by
  rw[<-(rel.val (.inr t)).isSome_eq];cases hr:Du tab t with
  | none=>rw[(W9 pr t).2 hr];rfl
  | some row =>
   obtain⟨p,hv,_⟩:=(W9 pr t).1 row hr;rw[hv];rfl
 rw[e];exact⟨.bl (!(Du tab t).isSome),H2,I2.tok _,rfl,q2⟩
inductive Ens(w:World):List DictEntry->List (Str×Addr)->Prop
 | nil:Ens w [] []
 | cons {x:Str} {t:Tok} {a:Addr} {es:List DictEntry} {ks:List (Str×Addr)}:Ens w es ks->Ens w (⟨PyData.keyHash w.params x,.str x t,.ref a⟩::es) ((x,a)::ks)
theorem Ens.keys(h:Ens w es ks):(∀e∈es,∃k,(Bx P w).is k e.key=true/\e.hash=(Bx P w).hash k)/\Pairs (Bx P w) es (ks.map fun p=>((.inr p.1:Key),Value.ref p.2)):=by
 induction h with
 | nil=>exact⟨fun e h=>by simp at h,.nil⟩
 | @cons x t a es ks _ ih =>
  refine⟨fun e h=>?_,.cons (Ia P w x t) rfl ih.2⟩;walk_at "aR"
  .rw[z];exact⟨.inr x,Ia P w x t,rfl⟩
  .exact ih.1 e z
theorem AJC{K:W.Frag}(hs:(a==sysModules)=false)(hk:K.lookup a=some ⟨.type "dict",none,.dict es ep,#[]⟩)(he:Ens w es.toList ks)(nd:(ks.map (·.1)).Nodup):DcK P w K a (ks.map fun p=>((.inr p.1:Key),V.ref p.2)):=by
 obtain⟨k1,k2⟩:=he.keys (P:=P);refine⟨hs,_,_,hk,⟨es,ep,⟨rfl,rfl,rfl⟩,rfl,fun e h=>k1 e (by simpa using h),k2,?_⟩,?_⟩
 .rw[List.map_map];have:((fun(x:Key×Value)=>x.1) ∘ fun(p:Str×Addr)=>((.inr p.1:Key),Value.ref p.2))=(fun(x:Str)=>(.inr x:Key)) ∘ (fun(p:Str×Addr)=>p.1):=rfl;rw[this,<-List.map_map];exact List.pairwise_map.mpr (nd.imp fun {a b} h z=>h (AU7 z))
 .clear k1 k2 he nd hk
  induction ks with
  | nil=>exact .nil
  | cons p r ih=>exact .cons ⟨rfl,rfl⟩ ih
end
structure Drw(prog:Program)(w:World)(i l:Addr)(xs:Array Value)(S:Nat->Heap->Prop):Prop where
 mv:∀{k:Nat} {h h':Heap} {c:Addr},S k h->Heap.ExtBut c h h'->i≠c->l≠c->S k h'
 ob:∀{k:Nat} {h:Heap},S k h->∃o,h.get? i=some o/\∃vs,o.data=.fields vs
 nx:∀{A:Around} {E:Value->Shared->Prop} {s:Shared} {k:Nat} {x:Value} {Q:Value->Shared->Prop},S k s.heap->xs[k]?=some x->(∀h',S (k+1) h'->Heap.SameBut i s.heap h'->Q x { s with heap:=h' })->wpAny (model prog w) A (Builtin.SmallTypes.nextOf (.ref i)) Q E s
 en:∀{A:Around} {E:Value->Shared->Prop} {s:Shared} {k:Nat} {Q:Value->Shared->Prop},A.handled=none->S k s.heap->xs[k]?=none->(∀h' e,Heap.ExtBut i s.heap h'->(∃o,h'.get? e=some o/\o.cls=.type "StopIteration")->E (.ref e) { s with heap:=h' })->wpAny (model prog w) A (Builtin.SmallTypes.nextOf (.ref i)) Q E s
theorem V4(ne:l≠i):Drw prog w i l xs (fun k h=>h.IsListIter i l k/\h.IsList l xs) where
 mv:=fun⟨a,b⟩ e n1 n2=>⟨a.extBut e n1,b.extBut e n2⟩
 ob:=fun⟨⟨o,e,_,d⟩,_⟩=>⟨o,e,_,d⟩
 nx:=fun⟨a,b⟩ hx q=>wpAny_nextOf_list_item a b hx fun h' a' sb=>q h' ⟨a',b.extBut sb.extBut ne⟩ sb
 en:=fun hh ⟨a,b⟩ hx q=>wpAny_nextOf_list_end hh a b hx fun h' e k o=>q h' e k o
theorem X3(ne:l≠i):Drw prog w i l xs (fun k h=>h.IsTupleIter i l k/\h.IsTuple l xs) where
 mv:=fun⟨a,b⟩ e n1 n2=>⟨a.extBut e n1,b.extBut e n2⟩
 ob:=fun⟨⟨o,e,_,d⟩,_⟩=>⟨o,e,_,d⟩
 nx:=fun {A E s k x Q} ⟨a,b⟩ hx q=>by
  walk_at "am";walk_at "B";walk_at "L";walk_at "an";have sb:=Heap.SameBut.update s.heap i (Obj.mapFields (·.setIfInBounds 1 (rawInt ((k:Int)+1))));refine AQ8 (ATo ho hd (by simp) (ARL ⟨x,rfl,ARL (q _ ⟨⟨_,AR8 _ ho (ATG (ATd hd _)),(Obj.cls_mapFields ..).trans hc,?_⟩,b.extBut sb.extBut ne⟩ sb)⟩));rw[ATd hd];simp[rawInt]
 en:=fun {A E s k Q} hh ⟨a,b⟩ hx q=>by
  walk_at "am";walk_at "B";walk_at "L";walk_at "an";refine AQ8 (AVY (AQ8 (ATo ho hd (by simp) ?_)));show wpAny _ _ (newExc (.type "StopIteration") [] >>= _) _ _ _;refine AQ8 ?_;simp only[newExc,newTuple];refine AQ8 (ATN ?_ (by size_fits));refine AQ8 (m:=firstArgMember _ _) (wpAny_of_eq (a:=Value.none) (by first | rfl | (simp only[firstArgMember];rfl)) ?_);refine ATN ?_ (by size_fits);simp only[raiseNew];refine AQ8 (wpAny_handled ?_)
  first | rw[show A.in1.handled=none from hh] | rw[hh]
  exact AQ8 (ARL (wpAny_throw (q _ _ (((Heap.SameBut.update ..).extBut.push _).push _) ⟨_,ARN _ rfl,rfl⟩)))
section
variable {prog:Program}{w:World}{A:Around}{E:Value->Shared->Prop}{s:Shared}{z TI TO i1 i2 l1 l2:Addr}{xs ys:Array Value}{S1 S2:Nat->Heap->Prop}{k1 k2:Nat}{a b:Value}
theorem Yz{x y:Value}{Q:Value->Shared->Prop}(D:ZipApart z TI TO i1 i2 l1 l2)(d1:Drw prog w i1 l1 xs S1)(d2:Drw prog w i2 l2 ys S2)(hz:IsZip s.heap z TI TO .none)(hTI:IsPair s.heap TI (.ref i1) (.ref i2))(hTO:IsPair s.heap TO a b)(h1:S1 k1 s.heap)(h2:S2 k2 s.heap)(hx:xs[k1]?=some x)(hy:ys[k2]?=some y)
  (hQ:∀h',IsZip h' z TI TO (rawInt s.heap.objs.size)->IsPair h' TO x y->S1 (k1+1) h'->S2 (k2+1) h'->IsPair h' s.heap.objs.size x y->(∀c o,c≠z->c≠TO->c≠i1->c≠i2->s.heap.get? c=some o->h'.get? c=some o)->Q (.ref s.heap.objs.size) { s with heap:=h' }) :
  wpAny (model prog w) A (Builtin.«zip.__next__» ⟨[.ref z],[]⟩) (fun fin s'=>∃v,fin=.done (.ret v)/\Q v s') E s:=by
 show wpAny _ _ (field (.ref z) 2 >>= _) _ _ _;refine AQ8 (ARZ hz rfl (x:=.bool false) rfl ?_);show wpAny _ _ (field (.ref z) 3 >>= _) _ _ _;refine AQ8 (ARZ hz rfl (x:=.ref TI) rfl (AQ8 (ASr hTI rfl ?_)));show wpAny _ _ (Builtin.SmallTypes.ownedTupleIsFree (.ref z) >>= _) _ _ _;refine AQ8 ?_;unfold Builtin.SmallTypes.ownedTupleIsFree;refine AQ8 (ARZ hz rfl (x:=.none) rfl (ARL ?_));simp only[if_true];refine AQ8 (AVY (AQ8 (ARZ hz rfl (x:=.ref TO) rfl (AQ8 (AR3 hz (by simp) fun g1 q1 b1=>AQ8 ?_)))));have z1:IsZip g1 z TI TO .ellipsis:=q1;walk_at "I";refine AQ8 (d1.nx (s:={ s with heap:=g1 }) (d1.mv h1 b1.extBut D.i1z D.l1z) hx fun g2 t1 b2=>ARL ?_);have p2:IsPair g2 TO a b:=b2.extBut _ _ D.TOi1 (b1.extBut _ _ D.TOz hTO);refine AQ8 (ASr p2 rfl (AQ8 (AT0 p2 fun g3 p3 b3=>AQ8 (AVC (ARL ?_)))));replace p3:IsPair g3 TO x b:=p3;refine AQ8 (AQ8 (AUk ?_));show wpAny _ _ (Builtin.SmallTypes.nextOf (.ref i2) >>= _) _ _ _;refine AQ8 (d2.nx (s:={ s with heap:=g3 }) (d2.mv (d2.mv (d2.mv h2 b1.extBut D.i2z D.l2z) b2.extBut D.i12.symm D.l2i1) b3.extBut D.TOi2.symm D.l2TO) hy fun g4 t2 b4=>ARL ?_);have p4:IsPair g4 TO x b:=b4.extBut _ _ D.TOi2 p3;refine AQ8 (ASr p4 rfl (AQ8 (AT0 p4 fun g5 p5 b5=>AQ8 (AVC (ARL (ARL ?_))))));replace p5:IsPair g5 TO x y:=p5;refine AQ8 (ASr p5 rfl (AQ8 (wpAny_newTuple ?_)));have hsz:g5.objs.size=s.heap.objs.size:=by rw[b5.1,b4.1,b3.1,b2.1,b1.1]
 have z5:IsZip g5 z TI TO .ellipsis:=b5.extBut _ _ D.TOz.symm (b4.extBut _ _ D.i2z.symm (b3.extBut _ _ D.TOz.symm (b2.extBut _ _ D.i1z.symm z1)));have k5:∀c o,c≠z->c≠TO->c≠i1->c≠i2->s.heap.get? c=some o->g5.get? c=some o:=fun c o c1 c2 c3 c4 e=>b5.extBut _ _ c2 (b4.extBut _ _ c4 (b3.extBut _ _ c2 (b2.extBut _ _ c3 (b1.extBut _ _ c1 e))));have sf:S1 (k1+1) g5:=d1.mv (d1.mv (d1.mv t1 b3.extBut D.TOi1.symm D.l1TO) b4.extBut D.i12 D.l1i2) b5.extBut D.TOi1.symm D.l1TO;have sj:S2 (k2+1) g5:=d2.mv t2 b5.extBut D.TOi2.symm D.l2TO;have lP:z<g5.objs.size:=ARF z5;show wpAny _ _ (Builtin.SmallTypes.ownedTupleHandOut (.ref z) (.ref g5.objs.size) >>= _) _ _ _;refine AQ8 ?_;unfold Builtin.SmallTypes.ownedTupleHandOut;have z6:IsZip (g5.push { cls:=.type "tuple",data:=.seq #[x,y] }) z TI TO .ellipsis:=ARA _ z5;refine AQ8 (AR3 z6 (by simp) fun g7 q7 b7=>?_);have z7:IsZip g7 z TI TO (rawInt g5.objs.size):=q7;refine AR3 z7 (by simp) fun g8 q8 b8=>?_;have z8:IsZip g8 z TI TO (rawInt g5.objs.size):=q8;have pB:Heap.ExtBut z (g5.push { cls:=.type "tuple",data:=.seq #[x,y] }) g8:=fun c o c1 e=>b8.extBut _ _ c1 (b7.extBut _ _ c1 e);have up:Heap.ExtBut z g5 g8:=fun c o c1 e=>pB c o c1 (ARA _ e);have pT:IsPair g8 g5.objs.size x y:=pB _ _ (AUR lP) (ARN _ rfl);rw[hsz]at z8 pT;refine ARL ⟨_,rfl,?_⟩;show Q (.ref g5.objs.size) _;rw[hsz];exact hQ g8 z8 (up _ _ D.TOz p5) (d1.mv sf up D.i1z D.l1z) (d2.mv sj up D.i2z D.l2z) pT fun c o c1 c2 c3 c4 e=>up c o c1 (k5 c o c1 c2 c3 c4 e)
theorem ABh(hh:A.handled=none)(D:ZipApart z TI TO i1 i2 l1 l2)(d1:Drw prog w i1 l1 xs S1)(d2:Drw prog w i2 l2 ys S2)(hz:IsZip s.heap z TI TO .none)(hTI:IsPair s.heap TI (.ref i1) (.ref i2))(hTO:IsPair s.heap TO a b)(h1:S1 k1 s.heap)(h2:S2 k2 s.heap)(hend:xs[k1]?=none\/ys[k2]?=none)
  (hE:∀h' e,(∀c o,c≠z->c≠TO->c≠i1->c≠i2->s.heap.get? c=some o->h'.get? c=some o)->(∃o,h'.get? e=some o/\o.cls=.type "StopIteration")->E (.ref e) { s with heap:=h' }) :
  wpAny (model prog w) A (Builtin.«zip.__next__» ⟨[.ref z],[]⟩) Q E s:=by
 show wpAny _ _ (field (.ref z) 2 >>= _) _ _ _;refine AQ8 (ARZ hz rfl (x:=.bool false) rfl ?_);show wpAny _ _ (field (.ref z) 3 >>= _) _ _ _;refine AQ8 (ARZ hz rfl (x:=.ref TI) rfl (AQ8 (ASr hTI rfl ?_)));show wpAny _ _ (Builtin.SmallTypes.ownedTupleIsFree (.ref z) >>= _) _ _ _;refine AQ8 ?_;unfold Builtin.SmallTypes.ownedTupleIsFree;refine AQ8 (ARZ hz rfl (x:=.none) rfl (ARL ?_));simp only[if_true];refine AQ8 (AVY (AQ8 (ARZ hz rfl (x:=.ref TO) rfl (AQ8 (AR3 hz (by simp) fun g1 q1 b1=>AQ8 ?_)))));have z1:IsZip g1 z TI TO .ellipsis:=q1;have stop:∀{h:Heap} {e:Addr},IsZip h z TI TO .ellipsis->(∃o,h.get? e=some o/\o.cls=.type "StopIteration")->e≠z:=fun q ⟨o,ho,hc⟩ y=>by
  subst y;rw[q]at ho;cases ho;simp at hc
 walk_at "I";have pC:=d1.mv h1 b1.extBut D.i1z D.l1z;cases hx:xs[k1]? with
 | none =>
  refine AQ8 (d1.en (s:={ s with heap:=g1 }) hh pC hx fun g2 e b2 he=>?_);have z2:IsZip g2 z TI TO .ellipsis:=b2 _ _ D.i1z.symm z1;have hez:=stop z2 he;obtain⟨oe,hoe,hce⟩:=he;exact AR3 z2 (by simp) fun g3 _ b3=>hE g3 e (fun c o c1 _ c3 _ y=>b3.extBut _ _ c1 (b2 _ _ c3 (b1.extBut _ _ c1 y))) ⟨oe,b3.extBut _ _ hez hoe,hce⟩
 | some x =>
  have hy:ys[k2]?=none:=hend.resolve_left (by rw[hx];exact fun y=>nomatch y);refine AQ8 (d1.nx (s:={ s with heap:=g1 }) pC hx fun g2 t1 b2=>ARL ?_);have p2:IsPair g2 TO a b:=b2.extBut _ _ D.TOi1 (b1.extBut _ _ D.TOz hTO);refine AQ8 (ASr p2 rfl (AQ8 (AT0 p2 fun g3 p3 b3=>AQ8 (AVC (ARL (AQ8 (AQ8 (AUk ?_)))))))) ;show wpAny _ _ (Builtin.SmallTypes.nextOf (.ref i2) >>= _) _ _ _;refine AQ8 (d2.en (s:={ s with heap:=g3 }) hh (d2.mv (d2.mv (d2.mv h2 b1.extBut D.i2z D.l2z) b2.extBut D.i12.symm D.l2i1) b3.extBut D.TOi2.symm D.l2TO) hy fun g4 e b4 he=>?_);have z4:IsZip g4 z TI TO .ellipsis:=b4 _ _ D.i2z.symm (b3.extBut _ _ D.TOz.symm (b2.extBut _ _ D.i1z.symm z1));have hez:=stop z4 he;obtain⟨oe,hoe,hce⟩:=he;exact AR3 z4 (by simp) fun g5 _ b5=>hE g5 e (fun c o c1 c2 c3 c4 y=>b5.extBut _ _ c1 (b4 _ _ c4 (b3.extBut _ _ c2 (b2.extBut _ _ c3 (b1.extBut _ _ c1 y))))) ⟨oe,b5.extBut _ _ hez hoe,hce⟩
theorem XR{x y:Value}{Q:Option Value->Shared->Prop}(D:ZipApart z TI TO i1 i2 l1 l2)(d1:Drw prog w i1 l1 xs S1)(d2:Drw prog w i2 l2 ys S2)(hz:IsZip s.heap z TI TO .none)(hTI:IsPair s.heap TI (.ref i1) (.ref i2))(hTO:IsPair s.heap TO a b)(h1:S1 k1 s.heap)(h2:S2 k2 s.heap)(hx:xs[k1]?=some x)(hy:ys[k2]?=some y)
  (hQ:∀h',IsZip h' z TI TO (rawInt s.heap.objs.size)->IsPair h' TO x y->S1 (k1+1) h'->S2 (k2+1) h'->IsPair h' s.heap.objs.size x y->(∀c o,c≠z->c≠TO->c≠i1->c≠i2->s.heap.get? c=some o->h'.get? c=some o)->Q (some (.ref s.heap.objs.size)) { s with heap:=h' }) :
  wpAny (model prog w) A (pyNext (.ref z)) Q E s:=by
 have hT:s.TypeIs (.ref z) "zip":=⟨_,hz,rfl⟩;unfold pyNext;exact AQ8 (AUl (ASQ (name:=Str.ofString "__next__") hT AUJ (AS5 AUJ hT F.entry_zip_next (Yz D d1 d2 hz hTI hTO h1 h2 hx hy fun h' a1 a2 a3 a4 a5 a6=>ARL (hQ h' a1 a2 a3 a4 a5 a6)) (F.args_zip_next_1 _))))
theorem Yt(hh:A.handled=none)(D:ZipApart z TI TO i1 i2 l1 l2)(d1:Drw prog w i1 l1 xs S1)(d2:Drw prog w i2 l2 ys S2)(hz:IsZip s.heap z TI TO .none)(hTI:IsPair s.heap TI (.ref i1) (.ref i2))(hTO:IsPair s.heap TO a b)(h1:S1 k1 s.heap)(h2:S2 k2 s.heap)(hend:xs[k1]?=none\/ys[k2]?=none)
  (hQ:∀h',(∀c o,c≠z->c≠TO->c≠i1->c≠i2->s.heap.get? c=some o->h'.get? c=some o)->Q none { s with heap:=h' }):wpAny (model prog w) A (pyNext (.ref z)) Q E s:=by
 have hT:s.TypeIs (.ref z) "zip":=⟨_,hz,rfl⟩;unfold pyNext;refine AQ8 (AUl (ASQ (name:=Str.ofString "__next__") hT AUJ (AS5 AUJ hT F.entry_zip_next (ABh hh D d1 d2 hz hTI hTO h1 h2 hend fun h' e hk he=>?_) (F.args_zip_next_1 _))));obtain⟨o,ho,hc⟩:=he;exact AQ8 (wpAny_isInstance (T:="StopIteration") (b:=true) ⟨o,ho,hc⟩ isSubtype_stop (ARL (hQ _ hk)))
end
def AFw(K:W.Frag)(a b:Addr):It :=
 ⟨fun i H=>∃xs ys x y,SqT K H a xs/\SqL K H b ys/\xs[i]?=some x/\ys[i]?=some y,
   fun i H v H'=>∃T x y,v=.ref T/\H T=none/\H'=upd H T (.tup [x,y])/\(∀xs,SqT K H a xs->xs[i]?=some x)/\∀ys,SqL K H b ys->ys[i]?=some y,
   fun i H=>∃xs ys,SqT K H a xs/\SqL K H b ys/\(xs.length<=i\/ys.length<=i)⟩
theorem Y6{K:W.Frag}(a b z TI TO i1 i2:Addr)(D:ZipApart z TI TO i1 i2 a b):Turn P w K (.Tuple es k tp) (AFw K a b) [z,TI,TO,i1,i2] z
  (fun i h=>IsZip h z TI TO .none/\IsPair h TI (.ref i1) (.ref i2)/\(∃u v,IsPair h TO u v)/\h.IsTupleIter i1 a i/\h.IsListIter i2 b i) where
 mem:=by simp
 obj:=fun i h st c hc=>by
  walk_at "W"
  .exact⟨_,s1,fun v z=>by
    walk_at "ax";cases z'⟩
  .exact⟨_,s2,fun v z=>by
    walk_at "aD";cases z'⟩
  .exact⟨_,s3,fun v z=>by
    walk_at "aD";cases z'⟩
  .exact⟨o4,e4,fun v z=>by rw[d4]at z;cases z⟩
  .exact⟨o5,e5,fun v z=>by rw[d5]at z;cases z⟩
 keep:=fun i h h' st kk=>by
  obtain⟨s1,s2,⟨u,v,s3⟩,⟨o4,e4,r4⟩,s5⟩:=st;exact⟨kk z (by simp) _ s1,kk TI (by simp) _ s2,⟨u,v,kk TO (by simp) _ s3⟩,⟨o4,kk i1 (by simp) o4 e4,r4⟩,s5.at fun o e=>kk i2 (by simp) o e⟩
 item:=by
  walk_at "d";walk_at "ab";obtain⟨xs,ys,x,y,fm,ft,hx,hy⟩:=hg;obtain⟨itx,gj,px,_⟩:=I.tuple fm;walk_at "al";walk_at "aa";have rY:i1<s.heap.objs.size:=by obtain⟨_,e,_⟩:=s4;exact ARF e
  have rZ:i2<s.heap.objs.size:=by obtain⟨_,e,_⟩:=s5;exact ARF e
  refine XR D (X3 D.l1i1) (V4 D.l2i2) s1 s2 s3 ⟨s4,px⟩ ⟨s5,py.isList⟩ (x:=u) (y:=v) (by simpa using hu) (by simpa using hv) fun h1 a1 a2 a3 a4 a5 hk1=>⟨_,rfl,AUZ a1 fun h2 b1 c6=>?_⟩;replace c6:Heap.SameBut z h1 h2:=c6;have fresh:H s.heap.objs.size=none:=I.hok.fresh (ARH _);have I1:Inv X aA Y (upd H s.heap.objs.size (.tup [x,y])) { s with heap:=s.heap.push { cls:=.type "tuple",data:=.seq ([u,v]:List Value).toArray },toks:=s.toks } :=
   I.laid (fun b o eb=>ARA _ eb) (ARH _) (show Bp X.prog X.w _ _ _ (.tup _) from⟨(by show 2<=sizeLine;decide),_,.cons ru (.cons rv .nil),IsTup.new _ _⟩)
  have fo:∀b,b<s.heap.objs.size->FP X aA H b->FP X aA (upd H s.heap.objs.size (.tup [x,y])) b:=fun b lb fb=>⟨by rw[An (ARt lb)];exact fb.1,fb.2⟩;have hfo:∀b∈[z,TI,TO,i1,i2],FP X aA (upd H s.heap.objs.size (.tup [x,y])) b:=fun b hb=>by
   refine fo b ?_ (hf b hb);simp only[ARI,AS4,or_false]at hb;rcases hb with rfl | rfl | rfl | rfl | rfl<;>assumption
  walk_at "aT"
  .refine⟨.ref s.heap.objs.size,_,I2,rfl,⟨_,x,y,rfl,fresh,rfl,fun zs hz=>?_,fun zs hz=>by rw[I.list_inj hz ft];exact hy⟩,⟨b1,c6.extBut _ _ D.TIz (hk1 _ _ D.TIz D.TITO D.TIi1 D.TIi2 s2),⟨_,_,c6.extBut _ _ D.TOz a2⟩,a3.1.extBut c6.extBut D.i1z,a4.1.extBut c6.extBut D.i2z⟩,fun b hb=>(hfo b hb).1⟩;rw[I.tuple_inj hz fm];exact hx
  .have n1:b≠z:=fun q=>nb (by simp[q]);walk_at "5";rcases ATz eb with⟨rfl,rfl⟩|eb
   .exact c6.extBut _ _ n1 a5
   .exact c6.extBut _ _ n1 (hk1 b o n1 n2 n3 n4 eb)
 done:=by
  walk_at "d";walk_at "ab";obtain⟨xs,ys,fm,ft,hend⟩:=hg;obtain⟨itx,gj,px,_⟩:=I.tuple fm;obtain⟨ji,gk,py,_⟩:=I.list ft;have lx:=gj.length;have ly:=gk.length;refine Yt (I.ok.hd hc) D (X3 D.l1i1) (V4 D.l2i2) s1 s2 s3 ⟨s4,px⟩ ⟨s5,py.isList⟩ ?_ fun h' hk=>⟨rfl,Ny (t':=s.toks) [z,TI,TO,i1,i2] I (fun b o nb e=>hk b o (fun q=>nb (by simp[q])) (fun q=>nb (by simp[q])) (fun q=>nb (by simp[q])) (fun q=>nb (by simp[q])) e) hf⟩;rcases hend with h|h
  .exact .inl (by simp;omega)
  .exact .inr (by simp;omega)
 self:=fun _ _ _ _ _ st h=>ATu st.1 h
def zt1(h:Heap)(l1:Addr):Heap:=h.push { cls:=.type "tuple_iterator",data:=.fields #[.ref l1,.int 0 0] }
def zt2(h:Heap)(l1 l2:Addr):Heap:=(zt1 h l1).push { cls:=.type "list_iterator",data:=.fields #[.ref l2,.int 0 0] }
def zt3(h:Heap)(l1 l2:Addr):Heap:=(zt2 h l1 l2).push { cls:=.type "tuple",data:=.seq #[.ref h.objs.size,.ref (zt1 h l1).objs.size] }
def zt4(h:Heap)(l1 l2:Addr):Heap:=(zt3 h l1 l2).push { cls:=.type "tuple",data:=.seq #[.none,.none] }
def zt5(h:Heap)(l1 l2:Addr):Heap:=(zt4 h l1 l2).push { cls:=.type "zip",data:=.fields #[.none,.bool false,.bool false,.ref (zt2 h l1 l2).objs.size,.ref (zt3 h l1 l2).objs.size] }
theorem ABX(l1 l2:Addr)(xs ys:Array Value) :
  Meets (Builtin.«zip.__new__» ⟨[.type "zip",.ref l1,.ref l2],[]⟩) (fun _ R s=>s.heap.IsTuple l1 xs/\s.heap.IsList l2 ys/\R (.ok (.ret (.ref (zt4 s.heap l1 l2).objs.size))) { s with heap:=zt5 s.heap l1 l2 }) :=
 .of_wp fun prog w A R s h=>by
  obtain⟨hp,g,d,tk,os⟩:=s;obtain⟨hl1,hl2,h⟩:=h;have hsub:=sub_zip;have hL1:Heap.IsTuple (Shared.heap ⟨hp,g,d,tk,os⟩) l1 xs:=hl1;have hL2:Heap.IsList (Shared.heap ⟨hp.push { cls:=.type "tuple_iterator",data:=.fields #[.ref l1,.int 0 0] },g,d,tk,os⟩) l2 ys:=Heap.IsList.push hl2 _
  wp_walk using wpAny_pyIter_tuple hL1,wpAny_pyIter_list hL2
  exact⟨_,rfl,h⟩
section
variable {prog:Program}{w:World}{A:Around}{E:Value->Shared->Prop}{s:Shared}
theorem ZQ{l1 l2:Addr}{xs ys:Array Value}{Q:Value->Shared->Prop}(hl1:s.heap.IsTuple l1 xs)(hl2:s.heap.IsList l2 ys)
  (h:∀h',IsZip h' (s.heap.objs.size+4) (s.heap.objs.size+2) (s.heap.objs.size+3) .none->IsPair h' (s.heap.objs.size+2) (.ref s.heap.objs.size) (.ref (s.heap.objs.size+1)) ->
   IsPair h' (s.heap.objs.size+3) .none .none->h'.IsTupleIter s.heap.objs.size l1 0->h'.IsListIter (s.heap.objs.size+1) l2 0->(∀c o,s.heap.get? c=some o->h'.get? c=some o)->Q (.ref (s.heap.objs.size+4)) { s with heap:=h' }) :
  wpAny (model prog w) A (call (.type "zip") [.ref l1,.ref l2]) Q E s:=by
 refine callType_new F.called_zip (by decide) (F.typeCall_zip_2 _ _) (F.newCall_zip_2 _ _) (fun obj=>F.args_object_init_3 obj _ _) F.entry_zip_new (ABX l1 l2 xs ys) ⟨hl1,hl2,?_⟩;have z1:(zt1 s.heap l1).objs.size=s.heap.objs.size+1:=AS6 ..;have z2:(zt2 s.heap l1 l2).objs.size=s.heap.objs.size+2:=(AS6 ..).trans (by rw[z1]);have z3:(zt3 s.heap l1 l2).objs.size=s.heap.objs.size+3:=(AS6 ..).trans (by rw[z2]);have z4:(zt4 s.heap l1 l2).objs.size=s.heap.objs.size+4:=(AS6 ..).trans (by rw[z3]);have u5:∀c o,(zt4 s.heap l1 l2).get? c=some o->(zt5 s.heap l1 l2).get? c=some o:=fun c o e=>ARA _ e;have u4:∀c o,(zt3 s.heap l1 l2).get? c=some o->(zt5 s.heap l1 l2).get? c=some o:=fun c o e=>u5 c o (ARA _ e);have u3:∀c o,(zt2 s.heap l1 l2).get? c=some o->(zt5 s.heap l1 l2).get? c=some o:=fun c o e=>u4 c o (ARA _ e);have u2:∀c o,(zt1 s.heap l1).get? c=some o->(zt5 s.heap l1 l2).get? c=some o:=fun c o e=>u3 c o (ARA _ e);have u1:∀c o,s.heap.get? c=some o->(zt5 s.heap l1 l2).get? c=some o:=fun c o e=>u2 c o (ARA _ e);have g5:(zt5 s.heap l1 l2).get? (zt4 s.heap l1 l2).objs.size=some { cls:=.type "zip",data:=.fields #[.none,.bool false,.bool false,.ref (zt2 s.heap l1 l2).objs.size,.ref (zt3 s.heap l1 l2).objs.size] }:=ARN _ rfl;have g4:(zt5 s.heap l1 l2).get? (zt3 s.heap l1 l2).objs.size=some { cls:=.type "tuple",data:=.seq #[.none,.none] }:=u5 _ _ (ARN _ rfl);have g3:(zt5 s.heap l1 l2).get? (zt2 s.heap l1 l2).objs.size=some { cls:=.type "tuple",data:=.seq #[.ref s.heap.objs.size,.ref (zt1 s.heap l1).objs.size] }:=u4 _ _ (ARN _ rfl);have g2:(zt5 s.heap l1 l2).get? (zt1 s.heap l1).objs.size=some { cls:=.type "list_iterator",data:=.fields #[.ref l2,.int 0 0] }:=u3 _ _ (ARN _ rfl);have g1:(zt5 s.heap l1 l2).get? s.heap.objs.size=some { cls:=.type "tuple_iterator",data:=.fields #[.ref l1,.int 0 0] }:=u2 _ _ (ARN _ rfl);show _/\_;rw[z2,z3,z4]at g5;rw[z1,z2]at g3;rw[z3]at g4;rw[z1]at g2;rw[z4];exact⟨⟨_,g5,rfl⟩,h _ g5 g3 g4 ⟨_,g1,rfl,rfl⟩ ⟨_,g2,rfl,rfl⟩ u1⟩
end
def AJo(K:W.Frag)(ta:TA):TI:=fun Y H R=>ta Y H fun vs H1=>∃a b,vs=[.ref a,.ref b]/\(∃xs,SqT K H1 a xs)/\(∃ys,SqL K H1 b ys)/\R (AFw K a b) H1
theorem X5{X:Cx}{es:List Expr}{k:Nat}{tp:Pos}{a b:Expr}{ta:TA}{p pos:Pos}(hg:Gl X "zip")(hm:X.mg "zip"=none)(ha:PA X [a,b] ta)(hs:starEach [a,b] X.env=[(false,eval a X.env),(false,eval b X.env)]:=by rfl)(hs2:starEach [b] X.env=[(false,eval b X.env)]:=by rfl) :
  PI X (.Tuple es k tp) (.Call (.Name "zip" p) [a,b] [] pos) (AJo X.K ta):=by
 intro aA s Y H R I h;refine Call_ (Jx I hg hm boot_zip (ASN (thn (ha pos aA s Y H _ I h) fun us s1 ⟨vs,H1,I1,r1,q1⟩=>?_) (by rw[hs,hs2]) (by rw[hs2];rfl)));obtain⟨l1,l2,rfl,⟨xs,fm⟩,⟨ys,ft⟩,q⟩:=q1;cases r1 with
 | cons r rr =>
  cases rr with
  | cons r' rr =>
   cases rr;cases r;cases r';obtain⟨itx,gj,px,_⟩:=I1.tuple fm;obtain⟨ji,gk,py,_⟩:=I1.list ft;have a1:l1<s1.heap.objs.size:=by obtain⟨_,e,_⟩:=px;exact ARF e
   have a2:l2<s1.heap.objs.size:=by obtain⟨_,e,_⟩:=py.isList;exact ARF e
   refine ZQ px py.isList fun h' hz hTI hTO hi1 hi2 hk=>ATu hz ?_;walk_at "Y";refine⟨s1.heap.objs.size+4,[s1.heap.objs.size+4,s1.heap.objs.size+2,s1.heap.objs.size+3,s1.heap.objs.size,s1.heap.objs.size+1],_,_,H1,rfl,I2,Y6 l1 l2 _ _ _ _ _ (zipApart_new a1 a2),⟨hz,hTI,⟨_,_,hTO⟩,hi1,hi2⟩,fun b hb=>?_,q⟩;simp only[ARI,AS4,or_false]at hb;rcases hb with rfl|rfl|rfl|rfl|rfl
   .exact I1.fpOk (ARs _ 4) (I1.hok.fresh (ARs _ 4))
   .exact I1.fpOk (ARs _ 2) (I1.hok.fresh (ARs _ 2))
   .exact I1.fpOk (ARs _ 3) (I1.hok.fresh (ARs _ 3))
   .walk_at "C"
   .exact I1.fpOk (ARs _ 1) (I1.hok.fresh (ARs _ 1))
theorem RC{K:W.Frag}{a b:Addr}{ks ys:List V}{β:Type}{bs:List β}{te:Shared->Hp->Addr->List Addr->TE}{js:List Nat}{Y:L2.St}{H1:Hp}{Q:VK}(G:Addr->Hp->V->β->Prop)(n:Nat)(hn:n<=100000)(hk:ks.length=n)(hy:ys.length=n)(hb:bs.length=n)
  (keep:∀{D H H' v x},G D H v x->Al H H'->G D H' v x) (put:∀{D H v x xs zs},G D H v x->H D=some (.lst xs)->G D (upd H D (.lst zs)) v x) (ha:∀H,Al H1 H->SqT K H a ks) (su:H1 b=some (.lst ys))
  (hs:∀zb zc C ex (i:Nat) k y x H D zs (R:VK),ks[i]?=some k->ys[i]?=some y->bs[i]?=some x->Al H1 H->H1 D=none->H D=some (.lst zs)->(∀v H2,Al H H2->G D H2 v x->R v H2)->te zb zc C ex (some k::some y::js.map fun j=>(Y[j]?).join) H R)
  (hd:∀H D vs,Al H1 H->H1 D=none->H D=some (.lst vs)->Paired (G D H) vs bs->Q (.ref D) H):Rb (AFw K a b) (ACO K 2 (Pb (DP 0) (Pb (DP 1) ACs))) (fun _ _ _ _=>Nk) te 2 js Y Q H1:=by
 intro D hD;refine⟨fun i m vs H=>m=n-i/\i<=n/\Paired (G D H) vs (bs.take i)/\Al H1 H/\H D=some (.lst vs),⟨n,by simp,ARu _,.nil,Aj hD _,Ag⟩,?_⟩;rintro i m vs H ⟨rfl,hi,pr,sm,bN⟩;refine⟨bN,?_⟩;have ix:=sm _ _ su;have hra:=ha H sm;by_cases hlt:i<n
 .have h1:ks[i]?=some (ks[i]'(by omega)):=AQ9 (by omega);have h2:ys[i]?=some (ys[i]'(by omega)):=AQ9 (by omega);have h3:bs[i]?=some (bs[i]'(by omega)):=AQ9 (by omega);refine .inr ⟨⟨_,_,_,_,hra,SqL.of ix,h1,h2⟩,?_⟩;rintro v H' ⟨T,x,y,rfl,hT,rfl,ex,ey⟩ zb zc C iy zj hσ;have ex':=ex _ hra;have ey':=ey _ (SqL.of ix);rw[h1]at ex';rw[h2]at ey';cases ex';cases ey';obtain⟨v1,v2,rfl⟩:∃v1 v2,zj=[v1,v2]:=by
   match zj,hσ with
   | [v1,v2],_=>exact⟨v1,v2,rfl⟩
  have u:=Aj hT (.tup [ks[i]'(by omega),ys[i]'(by omega)]);refine⟨T,_,rfl,SqT.of Ag,rfl,_,_,rfl,_,_,rfl,rfl,⟨[some (ks[i]'(by omega)),some (ys[i]'(by omega))],rfl,rfl⟩,?_⟩;dsimp only[Nk];refine Ga ?_;have gl:=u _ _ bN;refine hs zb zc C iy i _ _ _ _ D vs _ h1 h2 h3 (sm.trans u) hD gl fun v H2 s2 g2=>?_;walk_at "a"
  have lQ:=s2 _ _ gl;have lv:vs.length=i:=by
   rw[AR1 pr,ARc];omega
  refine⟨lQ,by omega,n-(i+1),by omega,rfl,hlt,?_,CG ((sm.trans u).trans s2) hD _,Ag⟩;rw[ASi,h3];have app:∀{xs us:List V} {zs ws:List β} {HH:Hp},Paired (G D HH) xs zs->Paired (G D HH) us ws->Paired (G D HH) (xs++us) (zs++ws):=by
   intro xs us zs ws HH h k
   induction h with
   | nil=>exact k
   | cons x _ ih=>exact .cons x ih
  exact app (Paired.imp' (fun _ _ z=>put (keep z (u.trans s2)) lQ) pr) (.cons (put g2 lQ) .nil)
 .have e:i=n:=by omega
  subst e;rw[<-hb,AR2]at pr;exact .inl ⟨⟨_,_,hra,SqL.of ix,by omega⟩,hd H D vs sm hD bN pr⟩
theorem got(x:Bp P w H h a o):∃ob,h.get? a=some ob:=by
 induction o with
 | lst xs=>obtain⟨_,_,_,_,e⟩:=x;exact⟨_,e⟩
 | tup xs=>obtain⟨_,_,_,ob,e,_⟩:=x;exact⟨_,e⟩
 | dK aG=>obtain⟨_,_,_,_,o,_,_,e,_⟩:=x;exact⟨_,e⟩
 | dT aG=>obtain⟨_,_,_,_,o,_,_,e,_⟩:=x;exact⟨_,e⟩
 | set S n=>obtain⟨o,_,_,_,e,_⟩:=x;exact⟨_,e⟩
 | ins C dx fs=>obtain⟨_,_,_,e,_⟩:=x;exact⟨_,e⟩
 | own y=>exact x
 | xd fs=>obtain⟨_,⟨_,_,_,e,_⟩,_⟩:=x;exact⟨_,e⟩
 | rng lo hi=>obtain⟨_,_,_,e⟩:=x;exact⟨_,e⟩
 | frz ob u ih=>obtain⟨e,_⟩:=x;exact⟨_,e⟩
 | tbl ps=>exact⟨_,x⟩
 | met f y=>exact⟨_,x⟩
 | ext φ=>obtain⟨_,e,_⟩:=x;exact e
structure Fly(outer:List Env)(H:Hp)(h0:Heap)(a:Addr)(C:Value)(h:Heap):Prop where
 ex:∃B T a0,Heap.FlyingW B outer a C a0 h/\(∀b o,h.get? b=some o->b∉frs outer->b≠a->b≠T->B.get? b=some o)/\H a=none/\H T=none/\h0.get? a=none/\h0.get? T=none
def CXe(P:Program)(w:World):CXT:=fun outer H s E e s'=>∃a C H',e=.ref a/\s'.os=s.os/\AllBare s'.gens/\Un (frs outer) [] H H' s.heap s'.heap/\HOk P w H' s'.heap/\Fly outer H' s.heap a C s'.heap/\E C none H'
section
variable {P:Program}{w:World}{K:W.Frag}{mg:Str->Option Value}{base:Heap}{N:List Str}{qual:Str}{scope:Scope}{f:Addr}{cd:Value}{A:Around}{outer:List Env}{s:Shared}{H:Hp}{E:XK}
 {aA:List (Addr×Obj)} {Y:L2.St} {H1:Hp} {s1:Shared}
end
abbrev Ky:List Value:=[.type "ValueError",.type "Exception",.type "BaseException",.type "object"]
def Hd(K:W.Frag)(C:Addr):Prop:=W.excIn K C Ky "ValueError.__new__"=true
theorem Hd.parts{K:W.Frag}(X:K.In h)(e:Hd K C) :
  ∃bm Nn nm qn bs hd sn sub ab col dd k0 k1 k2 k3 k5 mN,h.get? C=some (excClassObj nm qn C Nn bs bm hd sn sub ab col dd k0 k1 k2 k3 k5 "ValueError.__new__")/\h.Ns Nn mN/\mN "__init__"=none/\OwnTail h Ky bm:=by
 unfold Hd W.excIn at e
 split at e
 .rename_i d1 c1 l1 look
  split at e
  .rename_i C1 b1 x0 x1 x2 x3 n1 x5 em es
   simp only[ASK,beq_iff_eq,AUh]at e;walk_at "4";dsimp only at em e3 e5 e6;walk_at "ae";subst es';exact⟨b1,ns,nm,qn,bs,hd,sn,sub,ab,col,d1,x0,x1,x2,x3,x5,_,X _ _ look,.of_isNs (AUV X e5),W.nsMap_none_of_in X e5 e6,ATB X e4⟩
  .cases e
 .cases e
def AH6(E:XK)(C:Addr)(ta:TA):TS:=fun _ Y H=>ta Y H fun vs H1=>vs.length<=sizeLine/\E (.ref C) none H1
section
variable {P:Program}{w:World}{K:W.Frag}{mg:Str->Option Value}{base:Heap}{N:List Str}{qual:Str}{scope:Scope}{f:Addr}{cd:Value}{A:Around}{outer:List Env}{s:Shared}{H:Hp}{E:XK}
end
structure AQ6(P:Program)(w:World)(K:W.Frag)(mg:Str->Option Value)(base:Heap)(x:Str)(k:Nat)(ps:List Str)(ds:List Value)(bX:List V)(sp:Sp):Prop where
 ex:∃f fd,BR P w K mg base (CXe P w) k f fd ps sp/\DK K fd ps ds/\W.keepIn K (.ref f)=true/\mg x=some (.ref f)
 dv:Ba bX ds
def XP(X:Cx)(aA:List (Addr×Obj))(R:Value->L2.St->Hp->Prop)(e:Value)(s':Shared):Prop :=
 ∃a C zd H' H1 s1,e=.ref a/\Inv X aA zd H1 s1/\Inv X aA zd H' s'/\Fly X.stack H' s1.heap a C s'.heap/\R C zd H'
def PSx(X:Cx)(st:Stmt)(t:(Value->L2.St->Hp->Prop)->TS):Prop :=
 ∀(aA:List (Addr×Obj)) (s:Shared) (Y:L2.St) (H:Hp) (D:Ends) (R:Value->L2.St->Hp->Prop),Inv X aA Y H s->t R D Y H->wpAny (model X.prog X.w) X.A (exec st X.env) (SP X aA D) (XP X aA R) s
def APA(sp:Sp)(bX:List V)(t:TA):(Value->L2.St->Hp->Prop)->TS:=fun R D Y H=>t Y H fun vs H1=>sp (vs++bX) H1 (fun _ H2=>D.nx Y H2) fun C _ H2=>R C Y H2
def hdl(X:Cx)(a:Addr):Cx:={ X with A:=X.A.mark (some (.ref a)),calm:=false,xe:=fun _ _=>False }
section
variable {X:Cx}{aA:List (Addr×Obj)}{Y:L2.St}{H:Hp}{s:Shared}
theorem Vr(I:Inv X aA Y H s)(a:Addr):Inv (hdl X a) aA Y H s :=
 ⟨⟨I.ok.mod,I.ok.kind,I.ok.glob,I.ok.blt,I.ok.above,I.ok.inj,I.ok.has,I.ok.cab,fun z=>absurd (show false=true from z) ARJ,I.ok.frames,I.ok.stk,I.ok.exf,I.ok.bs,I.ok.bsz,I.ok.noex,I.ok.exfs,I.ok.funs,I.ok.frf⟩,
  I.os,I.bare,I.base,I.loc,I.cell,I.free,I.freeC,I.pin,I.hok,I.len⟩
theorem Oo(I:Inv (hdl X a) aA Y H s)(ok:X.Ok):Inv X aA Y H s:=⟨ok,I.os,I.bare,I.base,I.loc,I.cell,I.free,I.freeC,I.pin,I.hok,I.len⟩
def more(X:Cx)(l:List Addr):Cx:={ X with ex:=X.ex++l }
theorem AH1(I:Inv X aA Y H s)(hl:∀b∈l,b≠X.env.locals/\(∀x c,X.env.cells.lookup x=some c->c≠b)/\X.base.get? b=none/\b∉X.fs):Inv (more X l) aA Y H s:=by
 refine⟨⟨I.ok.mod,I.ok.kind,I.ok.glob,I.ok.blt,I.ok.above,I.ok.inj,I.ok.has,I.ok.cab,I.ok.hd,I.ok.frames,I.ok.stk,fun b hb=>?_,I.ok.bs,I.ok.bsz,fun b o e hb=>?_,fun b hb=>?_,I.ok.funs,I.ok.frf⟩,
  I.os,I.bare,I.base.mono (fun _ z=>z) (fun b z=>ASD _ z),I.loc,I.cell,I.free,I.freeC,I.pin,I.hok,I.len⟩
 .rcases ARP.mp hb with z|z
  .exact I.ok.exf b z
  .exact⟨(hl b z).1,(hl b z).2.1⟩
 .rcases ARP.mp hb with z|z
  .exact I.ok.noex b o e z
  .have e':X.base.get? b=some o:=e;rw[(hl b z).2.2.1]at e';cases e'
 .rcases ARP.mp hb with z|z
  .exact I.ok.exfs b z
  .exact(hl b z).2.2.2
theorem ACc(I:Inv (more X l) aA Y H s)(ok:X.Ok)(hl:∀b∈l,X.zb.heap.get? b=none):Inv X aA Y H s:=by
 have nl:∀b o,X.zb.heap.get? b=some o->b∉X.ex->b∉(more X l).ex:=fun b o q nx z=>by
  rcases ARP.mp z with z|z
  .exact nx z
  .rw[hl b z]at q;cases q
 exact⟨ok,I.os,I.bare,⟨fun b o q n h1 h2=>I.base.keep b o q n h1 (nl b o q h2),fun b o q n h1 h2=>I.base.slot b o q n h1 (nl b o q h2),fun b o q n h2=>I.base.free b o q n (nl b o q h2),fun b o q h2=>I.base.there b o q (nl b o q h2),I.base.tups,I.base.frzs,I.base.tbls⟩,
  I.loc,I.cell,I.free,I.freeC,I.pin,I.hok,I.len⟩
theorem Su{H1:Hp}{s1:Shared}{a T:Addr}{B h2:Heap}(hex:X.ex=[])(I0:Inv X aA Y H1 s1)(I:Inv X aA Y H s)(dX:s1.heap.get? a=none)(fk:s1.heap.get? T=none)(ha:H a=none)(hT:H T=none)
  (cov:∀b o,s.heap.get? b=some o->b∉frs X.stack->b≠a->b≠T->B.get? b=some o) (stay:B.StaysIn h2) (up:s.heap.UpToSlots h2):Inv X aA Y H { s with heap:=h2 }:=by
 have ne1:∀b o,s1.heap.get? b=some o->b≠a/\b≠T:=fun b o q=>⟨(fun z=>by rw[z,dX]at q;cases q),(fun z=>by rw[z,fk]at q;cases q)⟩;have cond:∀b∈[a,T],b≠X.env.locals/\(∀x c,X.env.cells.lookup x=some c->c≠b)/\X.base.get? b=none/\b∉X.fs:=fun b hb=>by
  have hb':b=a\/b=T:=by simpa using hb
  have nb:∀c o,s1.heap.get? c=some o->c≠b:=fun c o q=>by
   rcases hb' with rfl|rfl
   .exact(ne1 c o q).1
   .exact(ne1 c o q).2
  refine⟨?_,fun x c e=>?_,?_,fun z=>?_⟩
  .obtain⟨m,⟨o,_,_,q,_⟩,_⟩:=I0.loc;exact(nb _ o q).symm
  .obtain⟨v,o,q,_⟩:=I0.cell x c e;exact nb c o q
  .cases q:X.base.get? b with
   | none=>rfl
   | some o=>exact absurd rfl (nb b o (I0.bk b o q))
  .obtain⟨_,o,q,_⟩:=I0.funs.mem z;exact absurd rfl (nb b o q)
 have tr:∀c u,H c=some u->c∉frs X.stack/\c≠a/\c≠T:=fun c u e=>by
  refine⟨fun z=>?_,fun z=>?_,fun z=>?_⟩
  .have:=I.stkFree c z;rw[e]at this;cases this
  .rw[z,ha]at e;cases e
  .rw[z,hT]at e;cases e
 have ks:∀b o,s.heap.get? b=some o->b∈frs X.stack->∃sl,h2.get? b=some { o with slots:=sl }:=fun b o q hb=>by
  walk_at "K";exact up b o q hd
 have U:Un (frs X.stack) [a,T] H H s.heap h2:=by
  refine⟨fun b o q _ h1 h3=>stay b o (cov b o q h1 (fun z=>h3 (by simp[z])) fun z=>h3 (by simp[z])),fun b o q _ h1 _=>ks b o q h1,fun _ _ _ n _=>n,fun b o q h3=>?_,fun _ _ q=>q,fun _ _ _ q=>q,fun b ps q=>⟨#[],by rw[q];simp⟩⟩;by_cases hb:b∈frs X.stack
  .obtain⟨sl,q2⟩:=ks b o q hb;exact⟨_,q2⟩
  .exact⟨o,stay b o (cov b o q hb (fun z=>h3 (by simp[z])) fun z=>h3 (by simp[z]))⟩
 have hok:HOk X.prog X.w H h2:=fun b ob q=>by
  refine(I.hok b ob q).stay (fun c u hc qc=>?_) (fun _ z=>z) fun _ _ z=>z;have t:c∉frs X.stack/\c≠a/\c≠T:=by
   rcases hc with rfl|hc
   .exact tr c ob q
   .exact tr c _ hc
  exact stay c u (cov c u qc t.1 t.2.1 t.2.2)
 have I2:=(AH1 I cond).call' (s':={ s with heap:=h2 }) (ch:=[a,T]) rfl U hok I.bare (fun b hb=>⟨.inl (ART _ hb),(cond b hb).1,(cond b hb).2.1,fun p hp z=>?_⟩)
 .refine ACc I2 I.ok fun b hb=>?_;have hb':b=a\/b=T:=by simpa using hb
  cases q:X.zb.heap.get? b with
  | none=>rfl
  | some o =>
   obtain⟨o',q1⟩:=I0.base.there b o q (by rw[hex];simp);rcases hb' with rfl|rfl
   .exact absurd rfl (ne1 _ _ q1).1
   .exact absurd rfl (ne1 _ _ q1).2
 .have hb':b=a\/b=T:=by simpa using hb
  have q:=(I0.pin p hp).1;rcases hb' with rfl|rfl
  .exact(ne1 _ _ q).1 z
  .exact(ne1 _ _ q).2 z
def ADp(a:Addr)(C:Value)(h:Heap):Prop:=∃o,h.get? a=some o/\o.cls=C
theorem ACt(I:Inv X aA Y H s)(hN:X.N.Nodup)(hi:X.N[i]?=some n)
  (hl:∀(j:Nat) (x:Str) (y:V),X.N[j]?=some x->Y[j]?=some (some y)->Vis X.env.scope x->∃u,Bh y u/\AMP X.env s.heap m x u)
  (n2:h2.Ns X.env.locals (fun x=>if x=n then v else m x)) (sb:Heap.SameBut X.env.locals s.heap h2):Inv X aA (Y.set i none) H { s with heap:=h2,toks:=tk }:=by
 have iZ:∀b o,X.zb.heap.get? b=some o->b≠X.env.locals:=fun b o q z=>by
  rw[z]at q;exact absurd (ARX (ARF q) I.ok.above) (ARw _)
 refine⟨I.ok,I.os,I.bare,⟨fun b o q k h1 h3=>?_,fun b o q k h1 h3=>?_,I.base.free,fun b o q h3=>?_,I.base.tups,I.base.frzs,I.base.tbls⟩,⟨_,n2,fun j x y e1 e2 e3=>?_⟩,fun x c e=>?_,I.free,I.freeC,fun p hp=>?_,fun b ob q=>?_,by rw[List.length_set];exact I.len⟩
 .rw[show({ s with heap:=h2,toks:=tk }:Shared).heap.get? b=s.heap.get? b from sb.2 b (iZ b o q)];exact I.base.keep b o q k h1 h3
 .obtain⟨sl,q1⟩:=I.base.slot b o q k h1 h3;exact⟨sl,by rw[show({ s with heap:=h2,toks:=tk }:Shared).heap.get? b=s.heap.get? b from sb.2 b (iZ b o q)];exact q1⟩
 .obtain⟨o',q1⟩:=I.base.there b o q h3;exact⟨o',by rw[show({ s with heap:=h2,toks:=tk }:Shared).heap.get? b=s.heap.get? b from sb.2 b (iZ b o q)];exact q1⟩
 .have hj:j≠i:=fun z=>by
   subst z;by_cases hlt:j<Y.length
   .rw[ATh hlt]at e2;cases e2
   .rw[AR9 (by rw[List.length_set];omega)]at e2;cases e2
  rw[ATy (ATt hj)]at e2;have hx:x≠n:=fun z=>hj (Oz hN e1 (z ▸ hi));obtain⟨u,ru,lk⟩:=hl j x y e1 e2 e3;refine⟨u,ru,?_⟩;rcases lk with⟨k1,k2⟩|⟨k1,c,k2,k3⟩
  .exact .inl ⟨k1,by show(if x=n then v else m x)=some u;rw[if_neg hx];exact k2⟩
  .exact .inr ⟨k1,c,k2,k3.sameBut sb (I.cne x c k2)⟩
 .obtain⟨u,z⟩:=I.cell x c e;exact⟨u,z.sameBut sb (I.cne x c e)⟩
 .obtain⟨q1,q2,q3,q4⟩:=I.pin p hp;exact⟨(sb.2 p.1 q3).trans q1,q2,q3,q4⟩
 .refine(I.hok b ob q).stay (fun c u hc qc=>(sb.2 c fun z=>?_).trans qc) (fun _ z=>z) fun _ _ z=>z;have hf:=I.free;rcases hc with z2|z2
  .rw[<-z,z2,q]at hf;cases hf
  .rw[<-z,z2]at hf;cases hf
end
def unb(i:Nat)(D:Ends):Ends:={ nx:=fun Y H=>D.nx (Y.set i none) H,rt:=D.rt,bk:=fun Y H=>D.bk (Y.set i none) H,ct:=fun Y H=>D.ct (Y.set i none) H }
def AQ0(K:W.Frag)(C0:Addr)(i:Nat)(tb:(Value->L2.St->Hp->Prop)->TS)(ts:Addr->TS):TS:=fun D Y H =>
 tb (fun C zd H'=>W.exmOne K C (.ref C0)=some true/\∀a,H' a=none->ts a (unb i D) (zd.set i (some (.ref a))) (upd H' a (.ext (ADp a C)))) D Y H
def AKJ(xs ys:List V):Bool:=(List.range xs.length).all fun j=>eqV (xs.getD j .non) (ys.getD j .non)
section
variable {X:Cx}
def AQg(K:W.Frag)(neg:Bool):R2:=fun x y H Q=>∃a b xs ys,x=.ref a/\y=.ref b/\SqL K H a xs/\SqL K H b ys/\xs.length=ys.length/\xs.all JD=true/\ys.all JD=true/\Q (.bl (if neg then !AKJ xs ys else AKJ xs ys)) H
end
theorem O7{K:W.Frag}{c d:Addr}(h1:W.subIn K (.ref d) (.type "BaseException")=some true)(h2:W.kitOne K (.ref c) (.ref d)=some true)(h3:(Value.ref c==.ref d)=false):W.exmOne K (.ref c) (.ref d)=some true:=by
 unfold W.exmOne;rw[h1,if_pos (by rfl)];unfold W.kitOne at h2;rw[h3,if_neg (by decide)]at h2;exact h2
open Builtin Builtin.ObjectAttr Builtin.Getset_descriptor
structure CP(K:W.Frag)(D:Addr):Prop where
 is:W.isClsIn K D=true
 ga:W.findIn K (.ref D) "__getattribute__"=some (some (.builtin "BaseException.__getattribute__"))
 no:W.findIn K (.ref D) "__getattr__"=some none
 cl:W.findIn K (.ref D) "__class__"=some (some (.builtin "object.__class__"))
 mb:W.mroIn K D (.type "BaseException")=some true
 mo:W.mroIn K D (.type "object")=some true
section
variable {prog:Program}{w:World}{A:Around}{E:Value->Shared->Prop}{h:Heap}{g:Array GenState}{d:Drawn}{t:Nat}{os:OsState}{a D:Addr}{K:W.Frag}
theorem ADS(X:K.In h)(L0:W.Looks (model prog w) h (typeOf (.ref a)) (.ref D))(B:CP K D)(hq:R (.ok (.ret (.ref D))) ⟨h,g,d,t,os⟩) :
  codeAny (model prog w) A (.call (.builtin "getset_descriptor.__get__") ⟨[.builtin "object.__class__",.ref a,tp],[]⟩) R ⟨h,g,d,t,os⟩:=by
 have L1:=AUK (M:=model prog w) X B.mo;refine codeAny_call_builtin AVO.plain W.KF.entry_gs ?_;refine AVO.check _ _ _ _ _ _ _ _ W.KF.type_class (W.KF.args_gs _ _ _) ?_;unfold Builtin.«getset_descriptor.__get__» descrGet;rw[W.dga_obj];refine AQ8 (ARL ?_);unfold descrGetter descrCheckInstance descrNameAndClass isInstance;simp only[W.KF.owner_class]
 repeat lk
 refine⟨AUW _ (by decide +kernel),codeAny_builtin W.KF.entry_class ?_⟩;unfold Builtin.«object.__class__» shownTypeOf
 repeat lk
 exact hq
theorem Q7(X:K.In h)(hx:h.get? a=some o)(hc:o.cls=.ref D)(B:CP K D)(hq:Q () ⟨h,g,d,t,os⟩) :
  wpAny M A (checkBuiltinCall "BaseException.__getattribute__" ⟨[.ref a,nameV],[]⟩) Q E ⟨h,g,d,t,os⟩:=by
 have L1:=AUK (M:=M) X B.mb;have k1:builtinKind "BaseException.__getattribute__"=some .slot:=by decide +kernel
 have k2:splitId "BaseException.__getattribute__"=some ("BaseException","__getattribute__"):=by decide +kernel
 have k3:=F.args_bexc_ga (.ref a) nameV;simp only[checkBuiltinCall,k1,k2];refine AQ8 ?_;unfold isInstance
 repeat (first | (with_reducible refine wpAny_loadPart_at hx ?_;rw[hc]) | with_reducible refine L1.here ?_ | wp_step)
 exact hq
theorem YM(X:K.In h)(hx:h.get? a=some o)(hc:o.cls=.ref D)(B:CP K D)(hq:Q (.done (.ret (.ref D))) ⟨h,g,d,t,os⟩) :
  wpAny (model prog w) A (Builtin.«object.__getattribute__» ⟨[.ref a,.str "__class__" tk],[]⟩) Q E ⟨h,g,d,t,os⟩:=by
 have t5:(⟨h,g,d,t,os⟩:Shared).TypeIs (.builtin "object.__class__") "getset_descriptor":=F.typeOf_object_class;have t6:=F.slot_gs_get.lookup;have t7:=F.slot_gs_set.lookup;have L1:=ASS (M:=model prog w) X B.cl
 repeat (any_goals (first | assumption | (with_reducible refine wpAny_loadPart_at hx ?_;rw[hc]) | with_reducible refine L1.here ?_ | wp_step))
 refine ADS X (hc ▸ (ATv hx).andThen .now) B ?_
 repeat (any_goals (first | assumption | wp_step))
theorem AFL{fill expr:Bool}(X:K.In h)(hx:h.get? a=some o)(hc:o.cls=.ref D)(B:CP K D)(hq:Q (.ref D) ⟨h,g,d,t,os⟩) :
  wpAny (model prog w) A (getAttrBy (.ref a) (.str "__class__" tk) fill expr) Q E ⟨h,g,d,t,os⟩:=by
 have f3:=ATm.ga.bind (.ref a);have x0:(expr&&onTheHeap (Value.builtin "BaseException.__getattribute__"))=false:=by cases expr<;>rfl
 walk_at "3"
 have x1:(onTheHeap (Value.ref D)&&Value.builtin "BaseException.__getattribute__"==Value.builtin "object.__getattribute__")=false:=by rw[x2];rfl
 walk_at "aV"
 repeat (any_goals (first | assumption | (with_reducible refine wpAny_loadPart_at hx ?_;rw[hc]) | with_reducible refine L1.here ?_ | with_reducible refine L2.here ?_ | wp_step))
 refine codeAny_call_builtin ATm.ga.plain F.entry_bexc_ga (Q7 X hx hc B (YM X hx hc B ?_))
 repeat (any_goals (first | assumption | wp_step))
theorem Yd(X:K.In h)(hx:h.get? a=some o)(hc:o.cls=.ref D)(B:CP K D)(hq:Q (some (.ref D)) ⟨h,g,d,t+1,os⟩) :
  wpAny (model prog w) A (getAttr? (.ref a) "__class__") Q E ⟨h,g,d,t,os⟩:=by
 unfold getAttr? getAttrBy?
 repeat (any_goals (first | assumption | with_reducible apply AFL X hx hc B | wp_step))
theorem ABa(B:CP K D):W.KitX K (.ref a) (.ref D) (ADp a (.ref D)) where
 ty:=fun M h _ p=>by
  obtain⟨o,e1,e2⟩:=p;exact e2 ▸ (ATv e1).andThen .now
 it:=fun M h X _=>by
  have z:=B.is;unfold W.isClsIn at z;cases q:W.clsIn K D with
  | none=>rw[q]at z;cases z
  | some cd =>
   unfold W.clsIn at q
   split at q
   .rename_i look
    intro A' Q' E' s' k q';unfold isType loadHead;exact AQ8 (AU6 (k _ _ (X _ _ look)) (ARL q'))
   .cases q
 ne:=fun h tp dd its n sl X htp=>by
  have z:=B.is;unfold W.isClsIn at z;refine Bool.eq_false_iff.mpr fun e=>?_;have e':D=tp:=Value.ref.inj (beq_iff_eq.mp e);subst e';cases q:W.clsIn K D with
  | none=>rw[q]at z;cases z
  | some cd =>
   unfold W.clsIn at q
   split at q
   .rename_i look
    cases (X _ _ look).symm.trans htp
   .cases q
 ca:=fun {prog w A E Q s} X p k=>by
  obtain⟨h,g,d,t,os⟩:=s;obtain⟨o,e1,e2⟩:=p;exact Yd X e1 e2 B k
end
section
variable {X:Cx}
def AO3:V->Option Value
 | .ref a=>some (.ref a)
 | .ty n=>some (.type n)
 | _=>none
end
theorem Xe{h h' base base':Heap}(hb:∀b,base.get? b=none->base'.get? b=none):∀{l:List Env},(∀b o,b∈frs l->h.get? b=some o->∃sl,h'.get? b=some { o with slots:=sl })->h.FunFrames base l->h'.FunFrames base' l
 | [],_,_=>trivial
 | env::Bj,hk,F=>by
  obtain⟨k,⟨L,o,f1,f2,f3,f4⟩,r⟩:=F;have mL:L∈frs (env::Bj):=ASI.mpr ⟨env,by simp,f1⟩;obtain⟨sl,e⟩:=hk L o mL f3;refine⟨k,⟨L,_,f1,hb _ f2,e,f4⟩,Xe hb (fun b o hb' q=>hk b o ?_ q) r⟩;obtain⟨en,m,f⟩:=ASI.mp hb';exact ASI.mpr ⟨en,by simp[m],f⟩
section
variable {P:Program}{w:World}{K:W.Frag}{mg:Str->Option Value}{base:Heap}{N:List Str}{qual:Str}{scope:Scope}{f:Addr}{cd:Value}{A:Around}{outer:List Env}{s:Shared}{H:Hp}{E:XK}
 {aA:List (Addr×Obj)} {Y:L2.St} {H1:Hp} {s1 s2:Shared}
end
section
variable {P:Program}{w:World}{K:W.Frag}{mg:Str->Option Value}{base:Heap}{N:List Str}{qual:Str}{scope:Scope}{f:Addr}{cd:Value}{A:Around}{outer:List Env}{s:Shared}{H:Hp}{E:XK}
end
section
variable {P:Program}{w:World}{K:W.Frag}{mg:Str->Option Value}{base:Heap}{N:List Str}{qual:Str}{scope:Scope}{f:Addr}{cd:Value}{A:Around}{outer:List Env}{s:Shared}{H:Hp}{E:XK}
end
theorem Z0(o:Obj)(f):(o.mapFields f).dict=o.dict:=by
 obtain⟨c,d,dt,sl⟩:=o;cases dt<;>rfl
def TrD(h base:Heap)(e:Addr)(C:Value)(dx:Option Addr)(fl:Value):Prop :=
 ∃oe vs T oT ts,(h.get? e=some oe/\oe.cls=C/\oe.dict=dx/\oe.data=.fields vs/\vs[1]?=some (.ref T))/\(base.get? T=none/\T≠e)/\h.get? T=some oT/\oT.data=.fields ts/\ts[3]?=some fl
structure FlD(base:Heap)(l:List Env)(e:Addr)(C:Value)(dx:Option Addr)(fl:Value)(h:Heap):Prop where
 st:base.StaysIn h
 nw:base.get? e=none
 fr:h.FunFrames base l
 tr:TrD h base e C dx fl
theorem FlD.there(x:FlD base l e C dx fl h):∃o,h.get? e=some o/\o.cls=C/\o.dict=dx/\∃vs,o.data=.fields vs:=by
 obtain⟨oe,vs,_,_,_,⟨a,b,c,d,_⟩,_⟩:=x.tr;exact⟨oe,a,b,c,vs,d⟩
section
variable {M:Model}{A:Around}{E:Value->Shared->Prop}{s:Shared}{base:Heap}{env:Env}{outer l:List Env}{L e:Addr}{C fl:Value}{dx:Option Addr}{Q:Unit->Shared->Prop}
theorem AOX{h1:Heap}{ob oe:Obj}{vs:Array Value}(he:h1.get? e=some oe)(hd:oe.data=.fields vs)(hsz:1<vs.size)(hob:ob.isFreed=false)
  (h:∀h2,(∃o2,h2.get? e=some o2/\o2.cls=oe.cls/\o2.dict=oe.dict/\o2.data=.fields (vs.setIfInBounds 1 (.ref h1.objs.size)))->h2.get? h1.objs.size=some ob->(∀b o,b≠e->h1.get? b=some o->h2.get? b=some o)->Q () { s with heap:=h2 }) :
  wpAny M A (setField (.ref e) 1 (.ref h1.objs.size)) Q E { s with heap:=h1.push ob }:=by
 have he2:(h1.push ob).get? e=some oe:=ARA ob he;have ne:e≠h1.objs.size:=ARt (ARF he);have hd3:=ATd hd (·.setIfInBounds 1 (Value.ref h1.objs.size));refine ATo (s:={ s with heap:=h1.push ob }) he2 hd hsz (h _ ⟨_,AR8 _ he2 (ATG hd3),Obj.cls_mapFields _ _,Z0 _ _,hd3⟩ ?_ fun b o nb q=>?_)
 .rw[ARr _ _ ne];exact ARN _ hob
 .rw[ARr _ _ nb.symm];exact ARA _ q
theorem Wm{oe:Obj}{vs:Array Value}{head:Value}{nx:Bool}(hfr:A.frames=some (env::outer))(hl:s.heap.FunFrames base (env::outer))(hf:env.frame=some L)
  (he:s.heap.get? e=some oe) (hkb:base.StaysIn s.heap) (hen:base.get? e=none) (hd:oe.data=.fields vs) (hsz:1<vs.size)
  (h:∀h',FlD base (env::outer) e oe.cls oe.dict (rawInt L) h'->s.heap.UpToSlots h'->Q () { s with heap:=h' }) :
  wpAny M A (do let a <-frameOf env;let pl <-entryPlaceOf L nx;let b <-EntryCells.newEntry head a .none (rawInt L) .none pl;setField (.ref e) 1 b) Q E s:=by
 have rec_:∀b o,s.heap.get? b=some o->(∀ws,o.data≠.fields ws)->b≠e:=fun b o q n z=>by
  rw[z,he]at q;cases q;exact n vs hd
 have iA:e∉(env::outer).filterMap (·.frame):=fun z=>by
  obtain⟨_,o,q,n⟩:=hl.mem z;exact rec_ e o q n rfl
 walk_at "U";refine AQ8 (ATN ?_ (hpl.sizeOk5 _ _ _ _ _));have st1:base.StaysIn h1:=fun b o q=>(sl.2.1 b fun z=>by rw[(hl.mem z).1]at q;cases q).trans (hkb b o q);refine AOX ((sl.2.1 e iA).trans he) hd hsz rfl fun h2 ⟨o2,q2,c2,d2,f2⟩ tb keep=>h h2 ⟨fun b o q=>keep b o (fun z=>by rw[z,hen]at q;cases q) (st1 b o q),hen,hl.of_keeps fun b o q n=>?_,?_⟩ fun b o q n=>?_
 .obtain⟨z,w⟩:=sl.2.2 b o q;exact⟨_,keep b _ (rec_ b o q n) w,rfl⟩
 .refine⟨o2,_,h1.objs.size,_,_,⟨q2,c2,d2,f2,by simp[hsz]⟩,⟨st1.fresh,fun z=>?_⟩,tb,rfl,by first | (simp;done) | (rcases hpl with rfl | ⟨_,_,_,_,_,_,_,rfl⟩<;>simp)⟩;have:=ARF ((sl.2.1 e iA).trans he);rw[z]at this;exact absurd this (ARw _)
 .obtain⟨z,w⟩:=sl.2.2 b o q;exact⟨z,keep b _ (rec_ b o q n) w⟩
theorem QH(hfr:A.frames=some (env::outer))(hl:s.heap.FunFrames base (env::outer))(hf:env.frame=some L)
  (he:s.heap.get? e=some oe) (hkb:base.StaysIn s.heap) (hen:base.get? e=none) (hd:oe.data=.fields vs) (h1:vs[1]?=some .none)
  (h:∀h',FlD base (env::outer) e oe.cls oe.dict (rawInt L) h'->s.heap.UpToSlots h'->Q () { s with heap:=h' }):wpAny M A (noteFrame (.ref e) env) Q E s:=by
 walk_at "1";walk_at "t";rw[if_neg (by decide)];exact Wm hfr hl hf he hkb hen hd (ARi.mp h1).1 h
theorem turn{oT:Obj}{ts:Array Value}{T:Addr}{v sv:Value}(x:FlD base l e C dx fl s.heap)(hT:s.heap.get? T=some oT)(hdT:oT.data=.fields ts)(h3:ts[3]?=some sv)(hb:base.get? T=none)(hTe:T≠e)
  (h:∀h',base.StaysIn h'->h'.FunFrames base l->(∀b,b≠T->h'.get? b=s.heap.get? b)->(∃o2,h'.get? T=some o2/\o2.data=.fields (ts.setIfInBounds 3 v))->s.heap.UpToSlots h'->Q () { s with heap:=h' }) :
  wpAny M A (setField (.ref T) 3 v) Q E s:=by
 have other:∀b,b≠T->(s.heap.update T (Obj.mapFields (·.setIfInBounds 3 v))).get? b=s.heap.get? b:=fun b n=>ARr _ _ n.symm;have rec_:∀b o,s.heap.get? b=some o->(∀ws,o.data≠.fields ws)->b≠T:=fun b o q n z=>by
  rw[z,hT]at q;cases q;exact n ts hdT
 have hd3:=ATd hdT (·.setIfInBounds 3 v);exact ATo hT hdT (ARi.mp h3).1 (h _ (fun b o q=>(other b fun z=>by rw[z,hb]at q;cases q).trans (x.st b o q)) (x.fr.of_keeps fun b o q n=>⟨o,(other b (rec_ b o q n)).trans q,rfl⟩) other
  ⟨_,AR8 _ hT (ATG hd3),hd3⟩ fun b o q n=>⟨o.slots,(other b (rec_ b o q n)).trans q⟩)
theorem S6(hfr:A.frames=some (env::outer))(hf:env.frame=some L)(x:FlD base (env::outer) e C dx .none s.heap)
  (h:∀h',FlD base (env::outer) e C dx (rawInt L) h'->s.heap.UpToSlots h'->Q () { s with heap:=h' }):wpAny M A (noteFrame (.ref e) env) Q E s:=by
 walk_at "R";walk_at "1";walk_at "e";walk_at "F";exact Wm (s:={ s with heap:=h2 }) hfr fr hf ((oth e hTe.symm).trans he) st x.nw hd (ARi.mp h1).1 fun h3 f3 dQ=>h h3 f3 (up.trans dQ)
theorem Om(x:FlD base l e C dx fl s.heap)(h:∀h',FlD base l e C dx .none h'->s.heap.UpToSlots h'->Q () { s with heap:=h' }):wpAny M A (setFlight (.ref e) none) Q E s:=by
 walk_at "h";unfold setFlight;walk_at "e";walk_at "v"
theorem FlD.tail(x:FlD base (env::outer) e C dx fl h):FlD base outer e C dx fl h:=⟨x.st,x.nw,x.fr.2.2,x.tr⟩
theorem Rj(hfr:A.frames=some (env::outer))(hl:s.heap.FunFrames base (env::outer))(hf:env.frame=some L)
  (he:s.heap.get? e=some oe) (hkb:base.StaysIn s.heap) (hen:base.get? e=none) (hd:oe.data=.fields vs) (h1:vs[1]?=some .none)
  (h:∀h',FlD base outer e oe.cls oe.dict .none h'->s.heap.UpToSlots h'->Q () { s with heap:=h' }):wpAny M A (leaving env (.ref e)) Q E s:=by
 unfold leaving;exact AQ8 (QH hfr hl hf he hkb hen hd h1 fun h2 f2 ia=>Om (s:={ s with heap:=h2 }) f2 fun h3 f3 dQ=>h h3 f3.tail (ia.trans dQ))
theorem ZX(hfr:A.frames=some (env::outer))(hf:env.frame=some L)(x:FlD base (env::outer) e C dx .none s.heap)
  (h:∀h',FlD base outer e C dx .none h'->s.heap.UpToSlots h'->Q () { s with heap:=h' }):wpAny M A (leaving env (.ref e)) Q E s:=by
 unfold leaving;exact AQ8 (S6 hfr hf x fun h2 f2 ia=>Om (s:={ s with heap:=h2 }) f2 fun h3 f3 dQ=>h h3 f3.tail (ia.trans dQ))
end
def isR:Value->Bool
 | .ref _=>true
 | _=>false
def RZ(l:List Value):Bool:=l.dropWhile isR==[.type "ValueError",.type "Exception",.type "BaseException",.type "object"]
theorem Mx(self:Value)(what:Str):∀l:List Value,refuseLoop self what l=refuseLoop self what (l.dropWhile isR)
 | []=>rfl
 | v::r=>by
  cases h:isR v with
  | false=>rw[List.dropWhile_cons,h];rfl
  | true =>
   obtain⟨c,rfl⟩:∃c,v=.ref c:=by cases v<;>first | exact⟨_,rfl⟩ | cases h
   rw[refuseLoop_ref,List.dropWhile_cons_of_pos h];exact Mx self what r
theorem ZF(self:Value)(e:RZ l=true):refuseLoop self "__setattr__" l=pure ():=by
 rw[Mx,show l.dropWhile isR=_ from beq_iff_eq.mp e];exact PySem.F.store_ValueError.passes self
theorem AFl(e:RZ l=true)(h:([.type "ValueError",.type "Exception",.type "BaseException",.type "object"]:List Value).contains (.type n)=true):l.contains (.type n)=true:=by
 have q:l=l.takeWhile isR++l.dropWhile isR:=(List.takeWhile_append_dropWhile).symm;rw[q,show l.dropWhile isR=_ from beq_iff_eq.mp e,List.contains_append,h,AVd]
structure ACe(K:W.Frag)(C:Addr):Prop where
 ov:((W.clsIn K C).any fun cd=>RZ cd.mro)=true
 hd:W.hasDictIn K C=true
 sa:W.findIn K (.ref C) "__setattr__"=some (some (.builtin "object.__setattr__"))
 ga:W.findIn K (.ref C) "__getattribute__"=some (some (.builtin "BaseException.__getattribute__"))
 no:W.findIn K (.ref C) "__getattr__"=some none
 is:W.isClsIn K C=true
section
variable {prog:Program}{w:World}{A:Around}{E:Value->Shared->Prop}{s:Shared}{K:W.Frag}{x C:Addr}{name:Str}{v:Value}{ox:Obj}{vs:Array Value}
theorem ACl(X:K.In s.heap)(B:ACe K C)(ht:W.findIn K (.ref C) name=some none)(I:W.InstAt s.heap x ox C od)
  (h:wpAny (model prog w) A.in1 (storeInOwnDict (.ref x) (.ref C) (.str name tk) name v false)
   (fun fin s'=>match fin with | .done f=>R (.ok f) s' | .again c'=>c'.quiet=true/\codeAny (model prog w) A c' R s') (fun e s'=>R (.error e) s') s) :
  codeAny (model prog w) A (.call (.builtin "object.__setattr__") ⟨[.ref x,.str name tk,v],[]⟩) R s:=by
 have SF:=PySem.F.store_object;obtain⟨cd,hcd,ho⟩:=AUn B.ov;have ne:cd.mro.isEmpty=false:=by cases q:cd.mro with | nil=>rw[q]at ho;cases ho | cons _ _=>rfl
 have sub:W.Looks (model prog w) s.heap (isInstance (.ref x) (.type "object")) true:=I.type.andThen (AUK X (by unfold W.mroIn;rw[hcd,Option.bind_some,if_neg (by rw[ne];decide),AFl ho (by decide)]));refine codeAny_call_builtin SF.slot.plain SF.entry (@W.check_slot (model prog w) _ _ s "object.__setattr__" "object" "__setattr__" (.ref x) [.str name tk,v] [] _ SF.kind SF.split sub (SF.args (.ref x) (.str name tk) v) ?_);have hm:W.Looks (model prog w) s.heap (mroOf (.ref C)) cd.mro:=(AUD X hcd).andThen .now;rw[W.osa_eq,refuse_eq];refine AQ8 (AQ8 (I.type.here (AQ8 (hm.here ?_))));rw[ZF _ ho];have L3:W.Looks (model prog w) s.heap (storeTaker? none) none:=.now;refine ARL (AQ8 (I.type.here (AQ8 ((ASS X ht).here (AQ8 (L3.here ?_))))));exact h
theorem Yb(X:K.In s.heap)(B:ACe K C)(ht:W.findIn K (.ref C) name=some none)(hx:s.heap.get? x=some ox)(hc:ox.cls=.ref C)(hdat:ox.data=.fields vs)(hdn:ox.dict=none)
  (h:∀h' tk,h'.get? x=some { ox with dict:=some s.heap.objs.size }->h'.Ns1 s.heap.objs.size (fun y=>if y=name then some v else none)->(∀b o,b≠x->s.heap.get? b=some o->h'.get? b=some o)->Q () { s with heap:=h',toks:=tk }) :
  wpAny (model prog w) A (setAttr (.ref x) name v) Q E s:=by
 have I:W.InstAt s.heap x ox C none:=⟨hx,hc,by unfold W.notCls;rw[hdat],by rw[hdn];trivial⟩;refine AVS X I B.sa (ACl (s:={ s with toks:=s.toks+1 }) X B ht I ?_);obtain⟨xX,hc2,hd2⟩:=AUn B.hd;obtain⟨oc,odi,oda,osl⟩:=ox;dsimp only at hc hdat hdn;subst hc hdat hdn;refine AQ8 (ARL (AQ8 (AQ8 (AU6 hx (AQ8 (AVG (s:={ s with toks:=s.toks+1 }) (AUD X hc2) ?_))))));rw[hd2];have hx1:(s.heap.push { cls:=.type "dict",data:=.dict #[] }).get? x=some ⟨.ref C,none,.fields vs,osl⟩:=ARA _ hx;have ne:x≠s.heap.objs.size:=ARt (ARF hx);refine AQ8 (s:={ s with toks:=s.toks+1 }) (wpAny_alloc' ?_);refine AQ8 (wpAny_update' hx1 (ARL ?_));have hgd:((s.heap.push { cls:=.type "dict",data:=.dict #[] }).update x fun o=>{ cls:=o.cls,dict:=some s.heap.objs.size,data:=o.data,slots:=o.slots }).get? s.heap.objs.size=some { cls:=.type "dict",data:=.dict #[] } :=
  (ARr _ _ ne).trans (ARN _ rfl)
 have hnd:((s.heap.push { cls:=.type "dict",data:=.dict #[] }).update x fun o=>{ cls:=o.cls,dict:=some s.heap.objs.size,data:=o.data,slots:=o.slots }).Ns s.heap.objs.size (fun _=>none) :=
  ⟨_,#[],_,hgd,rfl,fun e he=>absurd he (by simp),fun _=>rfl⟩
 show wpAny _ _ (storeInDict s.heap.objs.size (.str name s.toks) name v) _ _ _;unfold storeInDict newKeyGuard;refine AQ8 (ARL (AQ8 (wpAny_nsSet1 (Heap.Ns1.of_empty hnd) fun h2 n2 sb=>?_)));obtain⟨oD,esD,epD,hoD,hdD,hcD⟩:=n2.count (Within.cons name v Within.nil);refine AQ8 (wpAny_lookBehind hoD (by rw[hdD];exact pastItsLine_dict (ASF hcD (by rw[ARD,ASJ,sizeLine_eq];omega))) ?_);refine ARL (h h2 _ ?_ n2 fun b o nb q=>?_)
 .exact(sb.2 x ne).trans (AR8 _ hx1 rfl)
 .exact(sb.2 b (ARt (ARF q))).trans ((ARr _ _ nb.symm).trans (ARA _ q))
end
structure T6(outer:List Env)(H:Hp)(h0:Heap)(a:Addr)(C:Value)(dx:Option Addr)(h:Heap):Prop where
 ex:∃B T,FlD B outer a C dx .none h/\(∀b o,h.get? b=some o->b∉frs outer->b≠a->b≠T->B.get? b=some o)/\H a=none/\H T=none/\h0.get? a=none/\h0.get? T=none
theorem T6.of(hf:FlD B outer a C dx .none h)(ha:H a=none)(dX:h0.get? a=none)
  (hT:∀T oT ts,B.get? T=none->h.get? T=some oT->oT.data=.fields ts->T≠a->H T=none/\h0.get? T=none):T6 outer H h0 a C dx h:=by
 obtain⟨f1,f2,f3,oe,vs,T,oT,ts,he,⟨hB,hne⟩,hT',hdT,h3⟩:=hf;obtain⟨t1,t2⟩:=hT T oT ts hB hT' hdT hne;refine⟨W.hideAll h (frs outer++[a,T]),T,⟨fun b o q=>ASM _ q,ASg _ (by simp),AS7 f3 fun env he b hb=>ASD _ (ASI.mpr ⟨env,he,hb⟩),oe,vs,T,oT,ts,he,⟨ASg _ (by simp),hne⟩,hT',hdT,h3⟩,
  fun b o q n1 n2 n3=>AR4 _ q fun z=>?_,ha,t1,dX,t2⟩
 rcases ARP.mp z with z|z
 .exact n1 z
 .simp at z;exact z.elim n2 n3
def CXd(P:Program)(w:World):CXT:=fun outer H s E e s'=>∃a C dx H',e=.ref a/\s'.os=s.os/\AllBare s'.gens/\Un (frs outer) [] H H' s.heap s'.heap/\HOk P w H' s'.heap/\T6 outer H' s.heap a C dx s'.heap/\E C dx H'
section
variable {P:Program}{w:World}{K:W.Frag}{mg:Str->Option Value}{base:Heap}{N:List Str}{qual:Str}{scope:Scope}{f:Addr}{cd:Value}{A:Around}{outer:List Env}{s:Shared}{H:Hp}{E:XK}
 {aA:List (Addr×Obj)} {Y:L2.St} {H1:Hp} {s1:Shared}
theorem JH{h2:Heap}(I:Inv (BL (CXd P w) P w K mg base N qual scope f cd A outer s H E) aA Y H1 s1)(bad:Addr->Prop)(hbad:∀b,bad b->s.heap.get? b=none/\H1 b=none)
  (kk:∀b o,s1.heap.get? b=some o->b∉frs (envOfC qual scope s.heap.objs.size f cd::outer)->¬bad b->h2.get? b=some o)
  (ks:∀b o,s1.heap.get? b=some o->b∈frs (envOfC qual scope s.heap.objs.size f cd::outer)->∃sl,h2.get? b=some { o with slots:=sl }) :
  Un (frs outer) [] H H1 s.heap h2/\HOk P w H1 h2:=by
 have iA:∀b o,s.heap.get? b=some o->b∉frs outer->b∉frs (envOfC qual scope s.heap.objs.size f cd::outer):=fun b o q nb hb=>by
  rcases ARI.mp (show b∈s.heap.objs.size::frs outer from hb) with z|z
  .walk_at "N"
  .exact nb z
 have jj:∀b o,s.heap.get? b=some o->¬bad b:=fun b o q z=>by rw[(hbad b z).1]at q;cases q
 walk_at "c";refine⟨⟨fun b o q n hb _=>kk b o (I.base.keep b o q n hb (dH b)) (iA b o q hb) (jj b o q),fun b o q n hb _=>?_,fun b o q n _=>I.base.free b o q n (dH b),fun b o q _=>?_,I.base.tups,I.base.frzs,I.base.tbls⟩,fun b ob q=>?_⟩
 .obtain⟨sl,q1⟩:=I.base.slot b o q n hb (dH b);obtain⟨sl',q2⟩:=ks b _ q1 (ARb _ hb);exact⟨sl',q2⟩
 .walk_at "aQ";by_cases hb:b∈frs (envOfC qual scope s.heap.objs.size f cd::outer)
  .obtain⟨sl,q2⟩:=ks b o' q1 hb;exact⟨_,q2⟩
  .exact⟨o',kk b o' q1 hb (jj b o q)⟩
 .have tr:∀c u,H1 c=some u->c∉frs (envOfC qual scope s.heap.objs.size f cd::outer)/\¬bad c:=fun c u e=>by
   refine⟨fun z=>?_,fun z=>?_⟩
   .have:=I.stkFree c z;rw[e]at this;cases this
   .have:=(hbad c z).2;rw[e]at this;cases this
  refine(I.hok b ob q).stay (fun c u hc qc=>?_) (fun _ z=>z) fun _ _ z=>z;have t:c∉frs (envOfC qual scope s.heap.objs.size f cd::outer)/\¬bad c:=by
   rcases hc with rfl|hc
   .exact tr c ob q
   .exact tr c _ hc
  exact kk c u qc t.1 t.2
theorem M5{e C:Addr}{oe:Obj}{vs:Array Value}(I:Inv (BL (CXd P w) P w K mg base N qual scope f cd A outer s H E) aA Y H1 s1)(he:s1.heap.get? e=some oe)(hc:oe.cls=.ref C)(hd:oe.data=.fields vs)(h1:vs[1]?=some .none)
  (hn:s.heap.get? e=none) (hH:H1 e=none) (hE:E (.ref C) oe.dict H1):(BL (CXd P w) P w K mg base N qual scope f cd A outer s H E).xe (.ref e) s1:=by
 show wpAny (model P w) (A.deeper (envOfC qual scope s.heap.objs.size f cd)) (leaving (envOfC qual scope s.heap.objs.size f cd) (.ref e)) _ _ s1;have fM:∀env∈(envOfC qual scope s.heap.objs.size f cd::outer),∀b,env.frame=some b->b∈frs (envOfC qual scope s.heap.objs.size f cd::outer)++[e]:=fun env he b hb=>ASD _ (ASI.mpr ⟨env,he,hb⟩);refine Rj (base:=W.hideAll s1.heap (frs (envOfC qual scope s.heap.objs.size f cd::outer)++[e])) I.ok.frames (AS7 I.stack fM) rfl he (fun b o q=>ASM _ q) (ASg _ (by simp)) hd h1 fun h2 fl up=>?_;have hid:∀b o,s1.heap.get? b=some o->b∉frs (envOfC qual scope s.heap.objs.size f cd::outer)->b≠e->(W.hideAll s1.heap (frs (envOfC qual scope s.heap.objs.size f cd::outer)++[e])).get? b=some o:=fun b o q nb ne =>
  AR4 _ q fun z=>by
   rcases ARP.mp z with z|z
   .exact nb z
   .exact ne (by simpa using z)
 have ks:∀b o,s1.heap.get? b=some o->b∈frs (envOfC qual scope s.heap.objs.size f cd::outer)->∃sl,h2.get? b=some { o with slots:=sl }:=fun b o q hb=>by
  walk_at "K";exact up b o q hd
 obtain⟨un,hok⟩:=JH I (fun b=>b=e) (fun b z=>by rw[z];exact⟨hn,hH⟩) (fun b o q nb ne=>fl.st b o (hid b o q nb ne)) ks;walk_at "c";refine⟨e,.ref C,oe.dict,H1,rfl,I.os,I.bare,un,hok,T6.of (hc ▸ fl) hH hn fun T oT ts hB hT hdT hne=>⟨?_,?_⟩,hE⟩
 .cases q:H1 T with
  | none=>rfl
  | some u =>
   obtain⟨ob,qo⟩:=got (I.hok T u q);rw[hid T ob qo (fun z=>by have:=I.stkFree T z;rw[q]at this;cases this) hne]at hB;cases hB
 .cases q:s.heap.get? T with
  | none=>rfl
  | some o =>
   walk_at "u"
   .walk_at "Z"
    .walk_at "N"
    .walk_at "ac";exact absurd hdT (hd2 ts)
   .rw[hid T o' q1 hb hne]at hB;cases hB
theorem QB:Dc (CXd P w) (BL (CXd P w) P w K mg base N qual scope f cd A outer s H E) E:=by
 intro aA Y H1 s1 e s2 I h;obtain⟨a,C,dx,H2,rfl,os,bare,un,hok,gn,hE⟩:=h;have I2:=I.call' (s':=s2) (ch:=[]) os un hok bare (fun b z=>absurd z (by simp));obtain⟨B,T,fl,cov,ha,hT,dX,fk⟩:=gn.ex;show wpAny (model P w) (A.deeper (envOfC qual scope s.heap.objs.size f cd)) (leaving (envOfC qual scope s.heap.objs.size f cd) (.ref a)) _ _ s2;have dH:∀b,b∉(BL (CXd P w) P w K mg base N qual scope f cd A outer s H E).ex:=fun b z=>absurd (show b∈([]:List Addr) from z) (by simp);have old:∀b,s1.heap.get? b=none->s.heap.get? b=none:=fun b n=>by
  cases q:s.heap.get? b with
  | none=>rfl
  | some o =>
   walk_at "aQ";rw[n]at q1;cases q1
 refine ZX I.ok.frames rfl fl fun h3 jk up=>?_;have ks:∀b o,s2.heap.get? b=some o->b∈frs (envOfC qual scope s.heap.objs.size f cd::outer)->∃sl,h3.get? b=some { o with slots:=sl }:=fun b o q hb=>by
  obtain⟨_,o',q',hd⟩:=I2.stack.mem hb;rw[q]at q';cases q';exact up b o q hd
 obtain⟨sw,lR⟩:=JH I2 (fun b=>b=a\/b=T) (fun b z=>by
  rcases z with rfl|rfl
  .exact⟨old _ dX,ha⟩
  .exact⟨old _ fk,hT⟩) (fun b o q nb nz=>jk.st b o (cov b o q nb (fun z=>nz (.inl z)) fun z=>nz (.inr z))) ks
 refine⟨a,C,dx,H2,rfl,I2.os,bare,sw,lR,T6.of jk ha (old a dX) fun T2 oT ts hB hT2 hd hne=>⟨?_,?_⟩,hE⟩
 .cases q:H2 T2 with
  | none=>rfl
  | some u =>
   obtain⟨ob,qo⟩:=got (I2.hok T2 u q);have nb:T2∉frs (envOfC qual scope s.heap.objs.size f cd::outer):=fun z=>by
    have:=I2.stkFree T2 z;rw[q]at this;cases this
   have nT:T2≠T:=fun z=>by
    rw[z,hT]at q;cases q
   rw[cov T2 ob qo nb hne nT]at hB;cases hB
 .cases q:s.heap.get? T2 with
  | none=>rfl
  | some o =>
   obtain⟨o',q1⟩:=I2.base.there T2 o q (dH T2);have nT:T2≠T:=fun z=>by
    rw[z,old T fk]at q;cases q
   by_cases hb:T2∈frs (envOfC qual scope s.heap.objs.size f cd::outer)
   .rcases ARI.mp (show T2∈s.heap.objs.size::frs outer from hb) with z|z
    .walk_at "N"
    .obtain⟨_,o2,q2,hd2⟩:=jk.fr.mem z;rw[hT2]at q2;cases q2;exact absurd hd (hd2 ts)
   .rw[cov T2 o' q1 hb hne nT]at hB;cases hB
end
structure DR(P:Program)(w:World)(K:W.Frag)(mg:Str->Option Value)(base:Heap)(x:Str)(k:Nat)(ps:List Str)(ds:List Value)(bX:List V)(sp:Sp):Prop where
 ex:∃f fd,BR P w K mg base (CXd P w) k f fd ps sp/\DK K fd ps ds/\W.keepIn K (.ref f)=true/\mg x=some (.ref f)
 dv:Ba bX ds
theorem Bg{P:Program}{w:World}{K:W.Frag}{mg:Str->Option Value}{base:Heap}{N:List Str}{qual:Str}{scope:Scope}{f:Addr}{cd:Value}{A:Around}{outer:List Env}{s:Shared}{H:Hp}{E:XK}
  {x:Str} {k j:Nat} {ps:List Str} {ds:List Value} {bX:List V} {sp:Sp} {e:Expr} {es:List Expr} {t:TA} {p pos:Pos} (C:DR P w K mg base x k ps ds bX sp) (hr:CJ j (A.deeper (envOfC qual scope s.heap.objs.size f cd)))
  (ha:PA (BL (CXd P w) P w K mg base N qual scope f cd A outer s H E) (e::es) t) (hkj:k<=j:=by decide) (hg:Gl (BL (CXd P w) P w K mg base N qual scope f cd A outer s H E) x:=by rfl)
  (hdb:(x==("__debug__":Str))=false:=by decide) (he:starEach (e::es) (envOfC qual scope s.heap.objs.size f cd)=(false,eval e (envOfC qual scope s.heap.objs.size f cd))::starEach es (envOfC qual scope s.heap.objs.size f cd):=by rfl)
  (hpl:(backTo pos (starEach es (envOfC qual scope s.heap.objs.size f cd))).any (·.1)=false:=by rfl) :
  PE (BL (CXd P w) P w K mg base N qual scope f cd A outer s H E) (.Call (.Name x p) (e::es) [] pos) (Vh sp bX E t):=by
 walk_at "as";exact Nq F (hr.mono hkj) hg m kp b C.dv QB ha hdb he hpl
theorem APp{P:Program}{w:World}{K:W.Frag}{mg:Str->Option Value}{base:Heap}{x qual:Str}{st:Stmt}{f:Addr}{fd:FuncData}{N ps:List Str}{k:Nat}{sp:Sp}{dV:Value}
  (F:∃(oc:Value) (od:Option Addr) (kV doc pm:Value) (an:Option Addr) (cdv ct:Value) (osl:Array (Option Value)),
   fd=W.fnOf x qual (Bm st) (Bd st) (Ae st) dV kV doc pm an cdv ct/\K.lookup f=some ⟨oc,od,.func fd,osl⟩/\W.codeIn K cdv qual=true)
  (S:Ao N ps (Ae st)) (len:∀vs H Q E,sp vs H Q E->vs.length=ps.length)
  (hbody:∀(cdv:Value) (A:Around) (outer:List Env) (s:Shared) (H:Hp) (vs:List V) (Q:VK) (E:XK),CJ k (A.deeper (envOfC qual (Ae st) s.heap.objs.size f cdv))->sp vs H Q E ->
   ∃t,PSs (BL (CXd P w) P w K mg base N qual (Ae st) f cdv A outer s H E) (Bd st) t/\t { nx:=fun _ H'=>Q .non H',rt:=Q } (Hc N vs) H):BR P w K mg base (CXd P w) (k+1) f fd ps sp:=by
 walk_at "P"
def XPD(X:Cx)(aA:List (Addr×Obj))(R:Value->Option Addr->L2.St->Hp->Prop)(e:Value)(s':Shared):Prop :=
 ∃a C dx zd H' H1 s1,e=.ref a/\Inv X aA zd H1 s1/\Inv X aA zd H' s'/\T6 X.stack H' s1.heap a C dx s'.heap/\R C dx zd H'
def AK7(X:Cx)(st:Stmt)(t:(Value->Option Addr->L2.St->Hp->Prop)->TS):Prop :=
 ∀(aA:List (Addr×Obj)) (s:Shared) (Y:L2.St) (H:Hp) (D:Ends) (R:Value->Option Addr->L2.St->Hp->Prop),Inv X aA Y H s->t R D Y H->wpAny (model X.prog X.w) X.A (exec st X.env) (SP X aA D) (XPD X aA R) s
def AOn(sp:Sp)(bX:List V)(t:TA):(Value->Option Addr->L2.St->Hp->Prop)->TS:=fun R D Y H=>t Y H fun vs H1=>sp (vs++bX) H1 (fun _ H2=>D.nx Y H2) fun C dx H2=>R C dx Y H2
section
variable {X:Cx}{aA:List (Addr×Obj)}{Y:L2.St}{H:Hp}{s:Shared}
def GD(a:Addr)(C:Value)(dx:Option Addr)(h:Heap):Prop:=∃o,h.get? a=some o/\o.cls=C/\o.dict=dx/\∃vs,o.data=.fields vs
theorem AAa(I:Inv X aA Y H s)(ha:H a=none)(hs:X.zb.heap.get? a=none)(hx:GD a C dx s.heap)(hL:a≠X.env.locals)(hc:∀x c,X.env.cells.lookup x=some c->c≠a)(hp:∀p∈X.pn++aA,p.1≠a) :
  Inv X aA Y (upd H a (.ext (GD a C dx))) s:=by
 have ne:∀b u,H b=some u->b≠a:=fun b u q z=>by rw[z,ha]at q;cases q
 refine⟨I.ok,I.os,I.bare,⟨I.base.keep,I.base.slot,fun b o q n h2=>?_,I.base.there,fun b xs q=>?_,fun b o u q=>?_,fun b ps q=>?_⟩,I.loc,I.cell,?_,fun x c e=>?_,fun p hq=>?_,fun b ob q=>?_,I.len⟩
 .rw[An (fun z=>by rw[z,hs]at q;cases q)];exact I.base.free b o q n h2
 .have q1:=I.base.tups b xs q;rw[An (ne b _ q1)];exact q1
 .have q1:=I.base.frzs b o u q;rw[An (ne b _ q1)];exact q1
 .obtain⟨mr,q1⟩:=I.base.tbls b ps q;exact⟨mr,by rw[An (ne b _ q1)];exact q1⟩
 .rw[An hL.symm];exact I.free
 .rw[An (hc x c e)];exact I.freeC x c e
 .obtain⟨q1,q2,q3⟩:=I.pin p hq;exact⟨q1,by rw[An (hp p hq)];exact q2,q3⟩
 .by_cases hb:b=a
  .subst hb;rw[Ag]at q;cases q;obtain⟨o,e1,e2⟩:=hx;refine⟨⟨o,e1,e2⟩,⟨o,e1⟩,fun h1 h2 ⟨o1,e3,e4⟩ k=>⟨o1,k o1 e3,e4⟩⟩
  .rw[An hb]at q;exact(I.hok b ob q).stay (fun _ _ _ z=>z) (fun c z=>by rw[An (ne c _ z)];exact z) fun c xs z=>by rw[An (ne c _ z)];exact z
end
def AKG(K:W.Frag)(C0:Addr)(i:Nat)(tb:(Value->Option Addr->L2.St->Hp->Prop)->TS)(ts:Addr->TS):TS:=fun D Y H =>
 tb (fun C dx zd H'=>W.exmOne K C (.ref C0)=some true/\∀a,H' a=none->ts a (unb i D) (zd.set i (some (.ref a))) (upd H' a (.ext (GD a C dx)))) D Y H
theorem ACT{X:Cx}{st b0:Stmt}{x n:Str}{np hpos pos:Pos}{suite:List Stmt}{C0:Addr}{tb:(Value->Option Addr->L2.St->Hp->Prop)->TS}{ts:Addr->TS}(i:Nat)(hb:AK7 X st tb)(hm:X.mg x=some (.ref C0))(hs:∀a,PSs (hdl X a) (b0::suite) (ts a))
  (hN:X.N.Nodup) (hi:X.N[i]?=some n:=by rfl) (hn:X.env.scope.names.lookup n=some .local:=by rfl) (hg:Gl X x:=by rfl) (hst:X.stack=X.env::X.outer:=by rfl) (hfr:X.env.frame=some X.env.locals:=by rfl) (hex:X.ex=[]:=by rfl) (hd:(x==("__debug__":Str))=false:=by decide) :
  PS X (.Try [st] [.ExceptHandler (some (.Name x np)) (some n) (b0::suite) hpos] [] [] pos) (AKG X.K C0 i tb ts):=by
 walk_at "S";refine wpAny_Try_except (ATU (ARe (hb aA s Y H D _ I h) (fun fl s1 q=>?_) (fun e s1 q=>?_)))
 .cases fl with
  | next=>exact ATD (ATD q)
  | ret v=>exact q
  | brk=>exact q
  | cont=>exact q
 .obtain⟨a,C,dx,zk,H1,H0,s0,rfl,I0,I1,gn,hx,hk⟩:=q;obtain⟨B,T,fl,cov,ha,hT,dX,fk⟩:=gn.ex;have lS:FlD B (X.env::X.outer) a C dx .none s1.heap:=by rw[<-hst];exact fl
  refine S6 (by rw[<-hst];exact I1.ok.frames) hfr lS fun h4 fN gu=>?_;refine Om (s:={ s1 with heap:=h4 }) fN fun h5 ic gv=>?_;have I5:=Su hex I0 I1 dX fk ha hT cov ic.st (gu.trans gv);refine wpAny_handleBy_cons (codeAny_handlers_test (En (X:=hdl X a) (Vr I5 a) hg hm ?_ hd)) (by intro q;cases q);obtain⟨oe,hoe,hoc,_⟩:=ic.there;have LT:W.Looks (model X.prog X.w) h5 (typeOf (.ref a)) C:=hoc ▸ (ATv hoe).andThen .now;refine(W.exm_one I5.kIn LT hx) _ _ _ _ (fun _ _ q=>q) ?_;refine codeAny_handlers_suite_as (Om (s:={ s1 with heap:=h5 }) ic fun h6 ig jm=>?_);have I6:=Su hex I0 I1 dX fk ha hT cov ig.st ((gu.trans gv).trans jm);obtain⟨sy,lT,lU⟩:=ig.there;have ne0:∀b o,s0.heap.get? b=some o->b≠a:=fun b o q z=>by rw[z,dX]at q;cases q
  have I7:=AAa (a:=a) (C:=C) (dx:=dx) I6 ha (by
    cases q:X.zb.heap.get? a with
    | none=>rfl
    | some o =>
     obtain⟨o',q1⟩:=I0.base.there a o q (by rw[hex];simp);exact absurd rfl (ne0 a o' q1)) ⟨sy,lT,lU⟩ (by
    obtain⟨m,⟨o,_,_,q,_⟩,_⟩:=I0.loc;exact(ne0 _ o q).symm) (fun y c e=>by
    obtain⟨v,o,q,_⟩:=I0.cell y c e;exact ne0 c o q) (fun p hp=>ne0 _ _ (I0.pin p hp).1)
  refine GP (X:=hdl X a) (Vr I7 a) hN hi (.inl hn) (v:=.ref a) rfl (fun s8 I8=>?_) (.inr hn);refine ARe (hs a aA s8 _ _ _ I8 (hk a ha)) (fun f9 s9 q9=>?_) (fun _ _ z=>False.elim z);have gone:∀zn H9,Inv X aA zn H9 s9->(∀eJ,Inv X aA (zn.set i none) H9 eJ->SP X aA D f9 eJ) ->
    wpAny (model X.prog X.w) X.A (do bindName X.env n .none;unbindBehindTheSuite X.env n hpos) (fun _ eJ=>SP X aA D f9 eJ) X.xe s9:=fun zn H9 I9 k=>by
   obtain⟨m9,n9,l9⟩:=I9.loc;exact wpAny_nameGoes_keeps hn n9 (by rw[I9.ok.kind];rfl) fun h10 v n10 lV=>k _ (ACt I9 hN hi l9 n10 lV)
  cases f9 with
  | next =>
   walk_at "G"
  | brk =>
   walk_at "G"
  | cont =>
   walk_at "G"
  | ret u =>
   obtain⟨v,zn,H9,I9,rv,z⟩:=q9;exact gone zn H9 (Oo I9 I.ok) fun eJ eK=>⟨v,_,H9,eK,rv,z⟩
section
variable {prog:Program}{w:World}{A:Around}{E:Value->Shared->Prop}{h:Heap}{g:Array GenState}{d:Drawn}{t:Nat}{os:OsState}{K:W.Frag}{x C:Addr}{name:Str}{v:Value}{ox:Obj}{od:Option Obj}
theorem Yc(X:K.In h)(I:W.InstAt h x ox C od)(hf:W.findObj K C od name=some (.value v))(hq:Q (.done (.ret v)) ⟨h,g,d,t,os⟩) :
  wpAny (model prog w) A (Builtin.«object.__getattribute__» ⟨[.ref x,.str name tk],[]⟩) Q E ⟨h,g,d,t,os⟩:=by
 have L0:=I.type (M:=model prog w);have L1:=W.looks_find (M:=model prog w) X I hf;unfold Builtin.«object.__getattribute__»;refine AQ8 (ARL (AQ8 (ARL (AQ8 (L0.here (AQ8 (L1.here ?_)))))));exact ARL hq
theorem Z3(X:K.In h)(B:CP K C)(I:W.InstAt h x ox C od)(hf:W.findObj K C od name=some (.value v))(hh:W.handedIn v=true)(hq:Q v ⟨h,g,d,t+1,os⟩) :
  wpAny (model prog w) A (getAttr (.ref x) name expr) Q E ⟨h,g,d,t,os⟩:=by
 have hx:=I.at_;have hc:=I.cls;have f3:=ATm.ga.bind (.ref x);have x0:(expr&&onTheHeap (Value.builtin "BaseException.__getattribute__"))=false:=by cases expr<;>rfl
 walk_at "3"
 have x1:(onTheHeap (Value.ref C)&&Value.builtin "BaseException.__getattribute__"==Value.builtin "object.__getattribute__")=false:=by rw[x2];rfl
 have x3:=W.handedOut_of hh;walk_at "aV";unfold getAttr;refine AQ8 (wpAny_mkText ?_)
 repeat (any_goals (first | assumption | (with_reducible refine wpAny_loadPart_at hx ?_;rw[hc]) | with_reducible refine L1.here ?_ | with_reducible refine L2.here ?_ | wp_step))
 refine codeAny_call_builtin ATm.ga.plain F.entry_bexc_ga (Q7 X hx hc B (Yc X I hf ?_))
 repeat (any_goals (first | assumption | (rw[x3]) | wp_step))
end
def AKO(K:W.Frag)(ta:TE)(f:Str):TE:=fun Y H Q=>ta Y H fun x H1=>∃a C d fs v,x=.ref a/\H1 a=some (.ext (GD a (.ref C) (some d)))/\CP K C/\W.hasDictIn K C=true/\Ey K C f/\H1 d=some (.xd fs)/\fs.lookup f=some v/\Q v H1
theorem ADN(he:PE X e ta)(hb:attributeBase e f X.env (eval e X.env)=eval e X.env):PE X (.Attribute e f pos) (AKO X.K ta f):=by
 walk_at "i";refine Xd hb (thn (he aA s Y H _ I h) fun u s1 ⟨x,H1,I1,rx,a,C,d,fs,v,ex,ea,B,hd,n,ed,l,q⟩=>?_);walk_at "q";obtain⟨⟨o,h1,h2,h3,vs,h4⟩,_⟩:=(show Bp X.prog X.w H1 s1.heap a (.ext (GD a (.ref C) (some d))) from I1.hok a _ ea);obtain⟨mA,ns,r⟩:=(show Bp X.prog X.w H1 s1.heap d (.xd fs) from I1.hok d _ ed);obtain⟨od,hod,look⟩:=Qt ns;obtain⟨u',hu,ru⟩:=Gu.some_of (v:=v) (o:=mA f) (by rw[<-l];exact r f);have In:W.InstAt s1.heap a o C (some od):=⟨h1,h2,by unfold W.notCls;rw[h4],by rw[h3];exact hod⟩;exact Z3 I1.kIn B In (AU8 hd n rfl (by rw[look,hu])) (RL ru) ⟨v,H1,I1.tok _,ru,q⟩
def HD(a:Addr)(C:Value)(dx:Option Addr)(h:Heap):Prop:=∃o vs,h.get? a=some o/\o.cls=C/\o.dict=dx/\o.data=.fields vs/\vs[1]?=some .none/\vs[2]?=some .none
theorem HD.ok(x:HD a C dx h):Bp P w H h a (.ext (HD a C dx)):=by
 walk_at "7"
def ANq(K:W.Frag)(ta tv:TE)(f:Str):TS:=fun D Y H=>tv Y H fun y H1=>ta Y H1 fun x H2=>∃a C,x=.ref a/\H2 a=some (.ext (HD a (.ref C) none))/\ACe K C/\Ey K C f /\
 ∀d,H2 d=none->d≠a->D.nx Y (upd (upd H2 d (.xd [(f,y)])) a (.ext (HD a (.ref C) (some d))))
theorem ACN(ha:PE X o ta)(hv:PE X value tv)(hs:swapsWith value (some (.Attribute o f pos')) pos.line X.env=pure false):PS X (.Assign [.Attribute o f pos'] value pos) (ANq X.K ta tv f):=by
 walk_at "S";refine plainObj_wpAny_Assign_Attribute (thn (hv aA s Y H _ I h) fun u s1 ⟨y,H1,I1,ry,q⟩=>thn (ha aA s1 Y H1 _ I1 q) fun ov s2 ⟨x,H2,I2,rx,a,C,ex,ea,B,n,q2⟩=>?_) hs;subst ex;obtain rfl:ov=Value.ref a:=rx;obtain⟨⟨o,vs,h1,h2,h3,h4,h5⟩,_⟩:=(show Bp X.prog X.w H2 s2.heap a (.ext (HD a (.ref C) none)) from I2.hok a _ ea);refine Yb I2.kIn B n h1 h2 h4 h3 fun h' tk e1 e2 e3=>⟨Y,_,?_,q2 s2.heap.objs.size (I2.hok.fresh (ARH _)) (AUR (ARF h1))⟩;have hf:H2 s2.heap.objs.size=none:=I2.hok.fresh (ARH _);have ne:s2.heap.objs.size≠a:=AUR (ARF h1);have nd:∀b ob,s2.heap.get? b=some ob->b≠s2.heap.objs.size:=fun b ob q=>ARt (ARF q);have na:∀b,H2 b=none->b≠a:=fun b q z=>by rw[z,ea]at q;cases q
 have same:∀b u,H2 b=some u->b≠a->(upd (upd H2 s2.heap.objs.size (.xd [(f,y)])) a (.ext (HD a (.ref C) (some s2.heap.objs.size)))) b=some u:=fun b u q z=>by
  rw[An z,An (fun w=>by rw[w,hf]at q;cases q)];exact q
 refine I2.call' (s':={ s2 with heap:=h',toks:=tk }) (ch:=[]) rfl ⟨fun b ob q z _ _=>e3 b ob (na b z) q,fun b ob q z _ _=>⟨ob.slots,e3 b ob (na b z) q⟩,fun b ob q z _=>?_,fun b ob q _=>?_,fun b xs q=>same b _ q ?_,fun b ob u q=>same b _ q ?_,fun b ps q=>⟨#[],?_⟩⟩ (fun b ob q=>?_) I2.bare (fun b z=>absurd z (by simp))
 .rw[An (na b z),An (nd b ob q)];exact z
 .by_cases z:b=a
  .exact⟨_,z ▸ e1⟩
  .exact⟨ob,e3 b ob z q⟩
 .intro z;rw[z,ea]at q;cases q
 .intro z;rw[z,ea]at q;cases q
 .rw[same b _ q fun z=>by rw[z,ea]at q;cases q];simp
 .by_cases z:b=a
  .subst z;rw[Ag]at q;cases q;exact HD.ok ⟨_,vs,e1,h2,rfl,h4,h5⟩
  .by_cases z2:b=s2.heap.objs.size
   .subst z2;rw[An ne,Ag]at q;cases q;refine⟨_,e2,fun g=>?_⟩;by_cases w:g=f
    .subst w;show Gu (List.lookup g [(g,y)]) (if g=g then some u else none);rw[if_pos rfl,ASV,beq_self_eq_true];exact ry
    .show Gu (List.lookup g [(f,y)]) (if g=f then some u else none);rw[if_neg w,ASV,beq_false_of_ne w];exact True.intro
   .rw[An z,An z2]at q;refine(I2.hok b ob q).stay (fun c w hc qc=>e3 c w (fun zz=>?_) qc) (fun c zz=>same c _ zz fun w=>by rw[w,ea]at zz;cases zz) fun c xs zz=>same c _ zz fun w=>by rw[w,ea]at zz;cases zz
    rcases hc with hc|hc
    .exact z (hc ▸ zz)
    .rw[zz,ea]at hc;cases hc
theorem Px{K:W.Frag}(X:K.In h)(G:h.Ns N m)(e:W.nsIn K N n=some (some v)):m n=some v:=by
 obtain⟨o,es,ep,ho,hd,_,hf⟩:=G;unfold W.nsIn at e
 split at e
 .rename_i q
  have:=X _ _ q;rw[ho]at this;cases this;cases hd
  split at e
  .rename_i he
   cases e;rw[<-hf];unfold nsFind findBy;rw[<-AVF,he];rfl
  .split at e<;>cases e
 .cases e
def Ss(K:W.Frag)(C fI:Addr):Bool:=match K.lookup C with
 | some ⟨.type "type",_,.cls cd,sl⟩=>(match cd.mro,sl.toList with
  | .ref C'::bm,[_,_,_,_,some (.builtin n),_]=>C'==C&&n=="ValueError.__new__"&&!cd.hasDel&&W.tailIn K Ky bm&&W.nsOkIn K cd.ns&&W.nsIn K cd.ns "__init__"==some (some (.ref fI))
  | _,_=>false)
 | _=>false
structure ACo(K:W.Frag)(C fI:Addr):Prop where
 ex:Ss K C fI=true
 fn:W.isFn K (.ref fI)=true
theorem ACo.parts{K:W.Frag}{C fI:Addr}(e0:ACo K C fI) :
  ∃bm Nn nm qn bs hd sn sub ab col dd k0 k1 k2 k3 k5 oI,K.lookup C=some (excClassObj nm qn C Nn bs bm hd sn sub ab col dd k0 k1 k2 k3 k5 "ValueError.__new__")/\W.nsOkIn K Nn=true/\W.nsIn K Nn "__init__"=some (some (.ref fI))/\W.tailIn K Ky bm=true /\
   K.lookup fI=some oI/\oI.cls=.type "function":=by
 have e:=e0.ex;unfold Ss at e
 split at e
 .rename_i d1 c1 l1 look
  split at e
  .rename_i C1 b1 x0 x1 x2 x3 n1 x5 em es
   simp only[ASK,beq_iff_eq,AUh]at e;walk_at "4";dsimp only at em e3 e5 e6;walk_at "ae";subst es';obtain⟨oI,lI,cI⟩:=ASY.mp (show(K.lookup fI).map (·.cls)=some (.type "function") from beq_iff_eq.mp e0.fn);exact⟨b1,ns,nm,qn,bs,hd,sn,sub,ab,col,d1,x0,x1,x2,x3,x5,oI,look,e5,e6,e4,lI,cI⟩
  .cases e
 .cases e
section
variable {prog:Program}{w:World}{A:Around}{E:Value->Shared->Prop}{h:Heap}{g:Array GenState}{d:Drawn}{t:Nat}{os:OsState}
variable {nm q:Str}{C N:Addr}{bs bm bmB:List Value}{hdct:Bool}{sn:List Str}{sub:List Value}{ab:Bool}{col:Option Bool}{dd:Option Addr}{k0 k1 k2 k3 k5:Option Value}{B newId initId:String}
theorem Wt(F:ExcBaseFacts B newId initId bmB)(T:OwnTail h bmB bm){mN:Str->Option Value}{Bj:List Value}{fI:Addr}{oI:Obj}{Q:Fin->Shared->Prop}
  (hC:h.get? C=some (excClassObj nm q C N bs bm hdct sn sub ab col dd k0 k1 k2 k3 k5 newId)) (hn:h.Ns N mN) (hi:mN "__init__"=some (.ref fI)) (hfI:h.get? fI=some oI) (hfc:oI.cls=.type "function") (hrest:Bj.length<=sizeLine)
  (hq:∀h' e,Heap.MadeExcOf h h' e (.ref C) Bj->wpAny (model prog w) A (call (.ref fI) (.ref e::Bj)) (fun r s'=>r=.none/\Q (.done (.ret (.ref e))) s') E ⟨h',g,d,t,os⟩) :
  wpAny (model prog w) A (Builtin.«type.__call__» ⟨.ref C::Bj,[]⟩) Q E ⟨h,g,d,t,os⟩:=by
 repeat (first | with_reducible refine wpAny_loadPart_at hC ?_ | with_reducible refine wpAny_madeBy_exc hC ?_ | wp_step)
 refine codeAny_call_builtin_code (AUW _ F.quiet) (wpAny_check_new_subT F T hC (codeAny_exc_new_subT F T hC ?_ hrest));show wpAny _ _ _ _ _ _;have kp:∀b o,h.get? b=some o->((h.push { cls:=.type "tuple",data:=.seq Bj.toArray }).push { cls:=.ref C,data:=.fields #[.ref h.objs.size,.none,.none,.none,.bool false,.none] }).get? b=some o :=
  fun b o e=>ARA _ (ARA _ e)
 have hn1:=hn.keeps kp;have T1:=T.keeps kp;have pD:=kp _ _ hC;have hf1:=kp _ _ hfI;have hget:((h.push { cls:=.type "tuple",data:=.seq Bj.toArray }).push { cls:=.ref C,data:=.fields #[.ref h.objs.size,.none,.none,.none,.bool false,.none] }).get? (h.objs.size+1)=some
   { cls:=.ref C,data:=.fields #[.ref h.objs.size,.none,.none,.none,.bool false,.none] }:=by heap_get
 have made:Heap.MadeExcOf h ((h.push { cls:=.type "tuple",data:=.seq Bj.toArray }).push { cls:=.ref C,data:=.fields #[.ref h.objs.size,.none,.none,.none,.bool false,.none] }) (h.objs.size+1) (.ref C) Bj :=
  ⟨kp,ATx (AUj _),h.objs.size,hget,ATx (ARH _),ARA _ (Heap.get?_push_at rfl rfl)⟩
 have hcC:(Value.ref C::bm).contains (.ref C)=true:=by simp
 unfold isInstance
 repeat (first | with_reducible refine wpAny_loadPart_at hget ?_ | (with_reducible refine wpAny_isSubtype_exc pD ?_;rw[hcC]) | wp_step)
 show wpAny _ _ (typeLookup (.ref C) _) _ _ _;refine wpAny_typeLookup_tail pD hn1 T1 F.mroIs F.init.lookup ?_;rw[hi];refine AT7 (AQ8 ?_);unfold bindSpecial;refine AQ8 (wpAny_typeOf (T:="function") ⟨_,hf1,hfc⟩ ?_);rw[if_pos (by decide)];refine ARL (AQ8 (ARe (hq _ (h.objs.size+1) made) (fun r s' hr=>?_) fun _ _ x=>x));obtain⟨rfl,hQ⟩:=hr
 wp_walk
 exact hQ
theorem Qn(F:ExcBaseFacts B newId initId bmB)(T:OwnTail h bmB bm){Bj:List Value}
  (hC:h.get? C=some (excClassObj nm q C N bs bm hdct sn sub ab col dd k0 k1 k2 k3 k5 newId)) (hn:h.Ns N mN) (hi:mN "__init__"=some (.ref fI)) (hfI:h.get? fI=some oI) (hfc:oI.cls=.type "function") (hrest:Bj.length<=sizeLine)
  (hq:∀h' e,Heap.MadeExcOf h h' e (.ref C) Bj->wpAny (model prog w) (A.under (.builtin "type.__call__" ⟨.ref C::Bj,[]⟩)) (call (.ref fI) (.ref e::Bj)) (fun r s'=>r=.none/\Q (.ref e) s') E ⟨h',g,d,t,os⟩) :
  wpAny (model prog w) A (call (.ref C) Bj) Q E ⟨h,g,d,t,os⟩:=by
 have f1:=tc_lookup;have f2:=tc_bind (.ref C);have hT:(⟨h,g,d,t,os⟩:Shared).TypeIs (.ref C) "type":=⟨_,hC,rfl⟩;refine AT9 (codeAny_of_tree ?_);show wpAny _ _ (callAny (.ref C) _) _ _ _
 repeat (any_goals (first | assumption | with_reducible refine wpAny_loadPart_at hC ?_ | wp_step))
 refine⟨rfl,?_⟩;exact codeAny_call_builtin_at (AUW _ (by decide +kernel)) entry_typeCall (wpAny_check_type_call_sub hC (Wt F T hC hn hi hfI hfc hrest fun h' e hm=>hq h' e hm))
end
section
variable {M:Model}{A:Around}{E:Value->Shared->Prop}{env:Env}
variable {nm q:Str}{C N:Addr}{bs bm:List Value}{hdct:Bool}{sn:List Str}{sub:List Value}{ab:Bool}{col:Option Bool}{dd:Option Addr}{k0 k1 k2 k3 k5:Option Value}{newId:String}
theorem Q9(hbase:bm.contains (.type "BaseException")=true)(hh:A.handled=none)
  (h:wpAny M A x (fun v ze=>∃e oe vs,v=.ref e/\ze.heap.get? C=some (excClassObj nm q C N bs bm hdct sn sub ab col dd k0 k1 k2 k3 k5 newId)/\ze.heap.get? e=some oe/\oe.cls=.ref C/\oe.data=.fields vs/\vs[1]?=some .none/\E (.ref e) ze) E s) :
  wpAny M A (raiseStmt env (some x) none) Q E s:=by
 walk_at "az"
 unfold raiseStmt;refine AQ8 (ARe h (fun v ze zr=>?_) fun _ _ x=>x);obtain⟨e,oe,vs,rfl,hC,he,hcl,hdt,h1,hE⟩:=zr;obtain⟨hp,g,d,tk,os⟩:=ze;obtain⟨oc,od,oda,osl⟩:=oe;dsimp only at hcl hdt;subst hcl hdt
 repeat (first | with_reducible refine wpAny_loadPart_at he ?_ | with_reducible refine wpAny_loadPart_at hC ?_ | (with_reducible refine wpAny_isSubtype_exc hC ?_;rw[hcB]) | wp_step)
 rw[h1];refine ARL ?_;rw[if_neg (by decide)];exact ARL (wpAny_raiseNew_none hh hE)
end
def drp(H:Hp)(a:Addr):Hp:=fun b=>if b=a then none else H b
theorem Eu(h:b≠a):drp H a b=H b:=if_neg h
theorem Ks:drp H a a=none:=if_pos rfl
theorem MN{Y:L2.St}(I:Inv X aA Y H s)(ha:H a=some (.ext φ)):Inv X aA Y (drp H a) s:=by
 have ne:∀b u,H b=some u->u≠.ext φ->b≠a:=fun b u q n z=>by
  rw[z,ha]at q;cases q;exact n rfl
 have dn:∀b,H b=none->drp H a b=none:=fun b q=>by
  by_cases z:b=a
  .rw[z];exact Ks
  .rw[Eu z];exact q
 refine⟨I.ok,I.os,I.bare,⟨I.base.keep,I.base.slot,fun b o q n h2=>dn b (I.base.free b o q n h2),I.base.there,fun b xs q=>?_,fun b o u q=>?_,fun b ps q=>?_⟩,I.loc,I.cell,dn _ I.free,fun x c e=>dn _ (I.freeC x c e),fun p hq=>?_,fun b ob q=>?_,I.len⟩
 .have q1:=I.base.tups b xs q;rw[Eu (ne b _ q1 (by intro z;cases z))];exact q1
 .have q1:=I.base.frzs b o u q;rw[Eu (ne b _ q1 (by intro z;cases z))];exact q1
 .obtain⟨mr,q1⟩:=I.base.tbls b ps q;exact⟨mr,by rw[Eu (ne b _ q1 (by intro z;cases z))];exact q1⟩
 .obtain⟨q1,q2,q3⟩:=I.pin p hq;exact⟨q1,dn _ q2,q3⟩
 .have z:b≠a:=fun z=>by rw[z,Ks]at q;cases q
  rw[Eu z]at q;exact(I.hok b ob q).stay (fun _ _ _ w=>w) (fun c w=>by rw[Eu (ne c _ w (by intro z;cases z))];exact w) fun c xs w=>by rw[Eu (ne c _ w (by intro z;cases z))];exact w
theorem ABj{Y:L2.St}(I:Inv X aA Y H s)(ha:H a=none)(hs:X.zb.heap.get? a=none)(hx:∀H',Bp X.prog X.w H' s.heap a (.ext φ))(hL:a≠X.env.locals)
  (hc:∀x c,X.env.cells.lookup x=some c->c≠a) (hp:∀p∈X.pn++aA,p.1≠a):Inv X aA Y (upd H a (.ext φ)) s:=by
 have ne:∀b u,H b=some u->b≠a:=fun b u q z=>by rw[z,ha]at q;cases q
 have up:∀b u,H b=some u->upd H a (.ext φ) b=some u:=fun b u q=>by rw[An (ne b u q)];exact q
 refine⟨I.ok,I.os,I.bare,⟨I.base.keep,I.base.slot,fun b o q n h2=>?_,I.base.there,fun b xs q=>up b _ (I.base.tups b xs q),fun b o u q=>up b _ (I.base.frzs b o u q),fun b ps q=>?_⟩,I.loc,I.cell,?_,fun x c e=>?_,fun p hq=>?_,fun b ob q=>?_,I.len⟩
 .rw[An (fun z=>by rw[z,hs]at q;cases q)];exact I.base.free b o q n h2
 .obtain⟨mr,q1⟩:=I.base.tbls b ps q;exact⟨mr,up b _ q1⟩
 .rw[An hL.symm];exact I.free
 .rw[An (hc x c e)];exact I.freeC x c e
 .obtain⟨q1,q2,q3⟩:=I.pin p hq;exact⟨q1,by rw[An (hp p hq)];exact q2,q3⟩
 .by_cases hb:b=a
  .subst hb;rw[Ag]at q;cases q;exact hx _
  .rw[An hb]at q;exact(I.hok b ob q).stay (fun _ _ _ z=>z) (fun c z=>up c _ z) fun c xs z=>up c _ z
def RX(E:XK)(C:Addr)(sp:Sp)(ta:TA):TS:=fun _ Y H=>ta Y H fun vs H1=>vs.length<=sizeLine/\∀e,H1 e=none ->
 sp (.ref e::vs) (upd H1 e (.ext (HD e (.ref C) none))) (fun r H2=>r=.non/\∃dx,H2 e=some (.ext (HD e (.ref C) dx))/\E (.ref C) dx (drp H2 e)) E0
theorem Yk{P:Program}{w:World}{K:W.Frag}{mg:Str->Option Value}{base:Heap}{N:List Str}{qual:Str}{scope:Scope}{f:Addr}{cd:Value}{A:Around}{outer:List Env}{s:Shared}{H:Hp}{E:XK}
  {x:Str} {C fI:Addr} {fd:FuncData} {ps:List Str} {sp:Sp} {k j:Nat} {np aD pos:Pos} {e0:Expr} {Bj:List Expr} {ta:TA} (hm:mg x=some (.ref C)) (ho:ACo K C fI) (kp:W.keepIn K (.ref C)=true) (F:BR P w K mg base CX0 k fI fd ps sp) (hb:DK K fd ps [])
  (hr:CJ j (A.deeper (envOfC qual scope s.heap.objs.size f cd))) (ha:PA (BL (CXd P w) P w K mg base N qual scope f cd A outer s H E) (e0::Bj) ta) (hkj:k+1<=j:=by decide)
  (hg:Gl (BL (CXd P w) P w K mg base N qual scope f cd A outer s H E) x:=by rfl) (hdb:(x==("__debug__":Str))=false:=by decide)
  (he:starEach (e0::Bj) (envOfC qual scope s.heap.objs.size f cd)=(false,eval e0 (envOfC qual scope s.heap.objs.size f cd))::starEach Bj (envOfC qual scope s.heap.objs.size f cd):=by rfl)
  (hpl:(backTo aD (starEach Bj (envOfC qual scope s.heap.objs.size f cd))).any (·.1)=false:=by rfl) :
  PS (BL (CXd P w) P w K mg base N qual scope f cd A outer s H E) (.Raise (some (.Call (.Name x np) (e0::Bj) [] aD)) none pos) (RX E C sp ta):=by
 intro aA s1 Y H1 D I h;obtain⟨bm,Nn,nm,qn,bs,hd,sn,sub,ab,col,dd,k0,k1,k2,k3,k5,oI,look,lX,nin,tl,lI,cI⟩:=ho.parts;rw[arm_exec_Raise];refine AQ8 (ASb (Q9 (C:=C) (nm:=nm) (q:=qn) (N:=Nn) (bs:=bs) (bm:=bm) (hdct:=hd) (sn:=sn) (sub:=sub) (ab:=ab) (col:=col) (dd:=dd) (k0:=k0) (k1:=k1) (k2:=k2) (k3:=k3) (k5:=k5) (newId:="ValueError.__new__")
  ((ATB I.kIn tl).hasType ARv.hasBase) (I.ok.hd rfl) (AQ8 (ARe (AUi (En I hg hm ?_ hdb)) (fun v s3 h3=>AQ8 (ASb (ARL h3))) fun _ _ x=>x))))
 walk_at "Q";walk_at "c";walk_at "aw";refine Qn ARv (ATB kin tl) (kin _ _ look) G (Px kin G nin) (kin _ _ lI) cI (by rw[AUG,<-r.length];exact aB) fun h' e hx=>?_;obtain⟨tt,at_,_,_⟩:=hx.there;have gone:∀b o,hp2.get? b=some o->b≠e:=fun b o qb z=>by rw[z,hx.new]at qb;cases qb
 have hH:H2 e=none:=by
  cases qe:H2 e with
  | none=>rfl
  | some u =>
   obtain⟨ob,qo⟩:=got (I2.hok e u qe);exact absurd rfl (gone e ob qo)
 have hs0:s.heap.get? e=none:=by
  cases qe:s.heap.get? e with
  | none=>rfl
  | some o =>
   walk_at "aK"
 have I3:Inv (BL (CXd P w) P w K mg base N qual scope f cd A outer s H E) aA Y (upd H2 e (.ext (HD e (.ref C) none))) ⟨h',g2,d2,t2,os2⟩ :=
  ABj (I2.kept (t':=t2) fun b ob qb=>hx.keeps b ob qb) hH hs0 (fun H'=>HD.ok ⟨_,_,at_,rfl,rfl,rfl,rfl,rfl⟩)
   (by obtain⟨m,⟨o,_,_,qo,_⟩,_⟩:=I2.loc;exact(gone _ o qo).symm) (fun y c ec=>by obtain⟨v,o,qo,_⟩:=I2.cell y c ec;exact gone c o qo) fun p hp=>gone _ _ (I2.pin p hp).1
 have hq:=q e hH;have r2:Ba (V.ref e::vs) (Value.ref e::us):=.cons rfl r;have hl:(Value.ref e::us++[]).length=ps.length:=by
  walk_at "au";exact z.symm
 walk_at "n";cases res with
 | error ev=>exact False.elim h4
 | ok fl =>
  cases fl with
  | ret u =>
   obtain⟨v,H4,I4,rv,ev,dx,jo,hE⟩:=I3.after h4;subst ev;obtain⟨⟨oe,ws,z1,z2,z3,z4,z5,_⟩,_⟩:=(show Bp P w H4 s4.heap e (.ext (HD e (.ref C) dx)) from I4.hok e _ jo);exact⟨rv,e,oe,ws,rfl,I4.kIn _ _ look,z1,z2,z4,z5,M5 (MN I4 jo) z1 z2 z4 z5 hs0 Ks (z3 ▸ hE)⟩
  | next=>exact False.elim h4
  | brk=>exact False.elim h4
  | cont=>exact False.elim h4
section
variable {P:Program}{w:World}{K:W.Frag}{mg:Str->Option Value}{base:Heap}{N:List Str}{qual:Str}{scope:Scope}{f:Addr}{cd:Value}{A:Around}{outer:List Env}{s:Shared}{H:Hp}{E:XK}
theorem Up{Y:L2.St}(I:Inv (BL (CXd P w) P w K mg base N qual scope f cd A outer s H E) aA Y H1 s1)(hx:Heap.MadeExcOf s1.heap h' e (.ref C) vs)(hE:E (.ref C) none H1) :
  (BL (CXd P w) P w K mg base N qual scope f cd A outer s H E).xe (.ref e) { s1 with heap:=h' }:=by
 obtain⟨tt,at_,_,_⟩:=hx.there;have gone:∀b o,s1.heap.get? b=some o->b≠e:=fun b o qb z=>by rw[z,hx.new]at qb;cases qb
 have dH:∀b,b∉(BL (CXd P w) P w K mg base N qual scope f cd A outer s H E).ex:=fun b z=>absurd (show b∈([]:List Addr) from z) (by simp);have hH:H1 e=none:=by
  cases qe:H1 e with
  | none=>rfl
  | some u =>
   obtain⟨ob,qo⟩:=got (I.hok e u qe);exact absurd rfl (gone e ob qo)
 have hs0:s.heap.get? e=none:=by
  cases qe:s.heap.get? e with
  | none=>rfl
  | some o =>
   obtain⟨o',q1⟩:=I.base.there e o qe (dH e);exact absurd rfl (gone e o' q1)
 exact M5 (I.kept (t':=s1.toks) fun b ob qb=>hx.keeps b ob qb) at_ rfl rfl rfl hs0 hH hE
theorem Bk{x:Str}{C:Addr}{np aD pos:Pos}{e0:Expr}{Bj:List Expr}{ta:TA}(hm:mg x=some (.ref C))(ho:Hd K C)(ha:PA (BL (CXd P w) P w K mg base N qual scope f cd A outer s H E) (e0::Bj) ta)
  (hg:Gl (BL (CXd P w) P w K mg base N qual scope f cd A outer s H E) x:=by rfl) (hd:(x==("__debug__":Str))=false:=by decide)
  (he:starEach (e0::Bj) (envOfC qual scope s.heap.objs.size f cd)=(false,eval e0 (envOfC qual scope s.heap.objs.size f cd))::starEach Bj (envOfC qual scope s.heap.objs.size f cd):=by rfl)
  (hpl:(backTo aD (starEach Bj (envOfC qual scope s.heap.objs.size f cd))).any (·.1)=false:=by rfl) :
  PS (BL (CXd P w) P w K mg base N qual scope f cd A outer s H E) (.Raise (some (.Call (.Name x np) (e0::Bj) [] aD)) none pos) (AH6 E C ta):=by
 intro aA s1 Y H1 D I h;obtain⟨bm,Nn,nm,qn,bs,hd',sn,sub,ab,col,dd,k0,k1,k2,k3,k5,mN,hC,hN,hni,T⟩:=ho.parts I.mod.kin;refine wpAny_Raise_call_subT (C:=C) (nm:=nm) (q:=qn) (N:=Nn) (bs:=bs) (bm:=bm) (hdct:=hd') (sn:=sn) (sub:=sub) (ab:=ab) (col:=col) (dd:=dd) (k0:=k0) (k1:=k1) (k2:=k2) (k3:=k3) (k5:=k5)
  ARv (mN:=mN) (T.hasType ARv.hasBase) (I.ok.hd rfl) ?_ hni (En I hg hm ⟨rfl,?_⟩ hd)
 .show(backTo aD (starEach (e0::Bj) (envOfC qual scope s.heap.objs.size f cd))).any (·.1)=false;rw[he];show(false || (backTo aD (starEach Bj (envOfC qual scope s.heap.objs.size f cd))).any (·.1))=false;rw[hpl];rfl
 .have q:=ha aD aA s1 Y H1 _ I h;show wpAny (model P w) _ (evalArgs (.ref C) true (backTo aD (starEach (e0::Bj) (envOfC qual scope s.heap.objs.size f cd))) []) _ _ s1;have q':wpAny (model P w) (A.deeper (envOfC qual scope s.heap.objs.size f cd)) (spliced (backTo aD (starEach (e0::Bj) (envOfC qual scope s.heap.objs.size f cd)))) _ _ s1:=q;rw[he]at q' ⊢;refine ATO (ARe q' (fun us s2 h2=>?_) fun _ _ z=>z);obtain⟨vs,H2,I2,r,hl,hE⟩:=h2;exact⟨rfl,by rw[<-r.length];exact hl,I2.bk _ _ hC,hN.keeps I2.bk,T.keeps I2.bk,fun h' e hx=>Up I2 hx hE⟩
end
structure AD4(P:Program)(w:World)(K:W.Frag)(mg:Str->Option Value)(base:Heap)(x:Str)(C:Addr)(k:Nat)(ps:List Str)(sp:Sp):Prop where
 ex:∃f fd,BR P w K mg base (CXd P w) k f fd ps sp/\DK K fd ps []/\Mk K C f/\mg x=some (.ref C)
section
variable {X:Cx}{C:Addr}{x:Str}{k j:Nat}{ps:List Str}{sp:Sp}{e:Expr}{es:List Expr}{t:TA}{p pos pos':Pos}
def APU(C:Addr)(sp:Sp)(t:TA):(Value->Option Addr->L2.St->Hp->Prop)->TS:=fun R D Y H=>t Y H fun vs H1=>∀x dx,H1 x=none->H1 dx=none->dx≠x ->
 sp (.ref x::vs) (upd (upd H1 dx (.own x)) x (.ins C dx [])) (fun v H2=>v=.non/\D.nx Y H2) fun Cv d H2=>R Cv d Y H2
theorem Er:HB X (.builtin "isinstance") (fun xs H Q=>∃x c u D dx b,xs=[.ref x,c]/\AO3 c=some u/\H x=some (.ext (GD x (.ref D) dx))/\CP X.K D/\W.kitOne X.K (.ref D) u=some b/\Q (.bl b) H):=by
 intro aA s Y H xs us Q I r h;obtain⟨x,c,u,D,dx,b,rfl,rc,hx,B,e,q⟩:=h;obtain⟨u1,u2,rfl,rx,rt⟩:=ABq r;cases rx;have eu:u2=u:=by
  cases c with
  | ref C =>
   cases rc;exact rt
  | ty n =>
   cases rc;exact rt
  | _=>cases rc
 subst eu;obtain⟨⟨o,p1,p2,_⟩,_,_⟩:=(show Bp X.prog X.w H s.heap x (.ext (GD x (.ref D) dx)) from I.hok x _ hx);exact AR6 (ABa B) I.kIn ⟨o,p1,p2⟩ e (fun z=>nomatch z) fun tk=>⟨.bl b,H,I.tok _,rfl,q⟩
end
structure Us(P:Program)(w:World)(K:W.Frag)(mg:Str->Option Value)(base:Heap)(x:Str)(C:Addr)(k:Nat)(ps:List Str)(sp:Sp):Prop where
 ex:∃fI fd,ACo K C fI/\W.keepIn K (.ref C)=true/\BR P w K mg base CX0 k fI fd ps sp/\DK K fd ps []/\mg x=some (.ref C)
theorem JX{P:Program}{w:World}{K:W.Frag}{mg:Str->Option Value}{base:Heap}{N:List Str}{qual:Str}{scope:Scope}{f:Addr}{cd:Value}{A:Around}{outer:List Env}{s:Shared}{H:Hp}{E:XK}
  {x:Str} {C:Addr} {ps:List Str} {sp:Sp} {k j:Nat} {np aD pos:Pos} {e0:Expr} {Bj:List Expr} {ta:TA} (Ci:Us P w K mg base x C k ps sp)
  (hr:CJ j (A.deeper (envOfC qual scope s.heap.objs.size f cd))) (ha:PA (BL (CXd P w) P w K mg base N qual scope f cd A outer s H E) (e0::Bj) ta) (hkj:k+1<=j:=by decide)
  (hg:Gl (BL (CXd P w) P w K mg base N qual scope f cd A outer s H E) x:=by rfl) (hdb:(x==("__debug__":Str))=false:=by decide)
  (he:starEach (e0::Bj) (envOfC qual scope s.heap.objs.size f cd)=(false,eval e0 (envOfC qual scope s.heap.objs.size f cd))::starEach Bj (envOfC qual scope s.heap.objs.size f cd):=by rfl)
  (hpl:(backTo aD (starEach Bj (envOfC qual scope s.heap.objs.size f cd))).any (·.1)=false:=by rfl) :
  PS (BL (CXd P w) P w K mg base N qual scope f cd A outer s H E) (.Raise (some (.Call (.Name x np) (e0::Bj) [] aD)) none pos) (RX E C sp ta):=by
 obtain⟨fI,fd,hE,kp,F,hb,hm⟩:=Ci.ex;exact Yk hm hE kp F hb hr ha hkj hg hdb he hpl
def Cn(e:Addr)(h:Heap):Prop:=∃oe vs,h.get? e=some oe/\oe.data=.fields vs/\vs[2]?=some .none
theorem Cn.of(x:Cn e h)(k:h'.get? e=h.get? e):Cn e h':=by
 obtain⟨oe,vs,a,b,c⟩:=x;exact⟨oe,vs,k.trans a,b,c⟩
section
variable {M:Model}{A:Around}{E:Value->Shared->Prop}{s:Shared}{base:Heap}{env:Env}{outer l:List Env}{L e:Addr}{C fl:Value}{dx:Option Addr}{Q:Unit->Shared->Prop}
theorem ABg{oe:Obj}{vs:Array Value}{head:Value}{nx:Bool}(hfr:A.frames=some (env::outer))(hl:s.heap.FunFrames base (env::outer))(hf:env.frame=some L)
  (he:s.heap.get? e=some oe) (hkb:base.StaysIn s.heap) (hen:base.get? e=none) (hd:oe.data=.fields vs) (hsz:1<vs.size) (hcx:vs[2]?=some .none)
  (h:∀h',FlD base (env::outer) e oe.cls oe.dict (rawInt L) h'->Cn e h'->s.heap.UpToSlots h'->Q () { s with heap:=h' }) :
  wpAny M A (do let a <-frameOf env;let pl <-entryPlaceOf L nx;let b <-EntryCells.newEntry head a .none (rawInt L) .none pl;setField (.ref e) 1 b) Q E s:=by
 have rec_:∀b o,s.heap.get? b=some o->(∀ws,o.data≠.fields ws)->b≠e:=fun b o q n z=>by
  rw[z,he]at q;cases q;exact n vs hd
 have iA:e∉(env::outer).filterMap (·.frame):=fun z=>by
  obtain⟨_,o,q,n⟩:=hl.mem z;exact rec_ e o q n rfl
 walk_at "U";refine AQ8 (ATN ?_ (hpl.sizeOk5 _ _ _ _ _));have st1:base.StaysIn h1:=fun b o q=>(sl.2.1 b fun z=>by rw[(hl.mem z).1]at q;cases q).trans (hkb b o q);refine AOX ((sl.2.1 e iA).trans he) hd hsz rfl fun h2 ⟨o2,q2,c2,d2,f2⟩ tb keep=>h h2 ⟨fun b o q=>keep b o (fun z=>by rw[z,hen]at q;cases q) (st1 b o q),hen,hl.of_keeps fun b o q n=>?_,?_⟩ ⟨o2,_,q2,f2,by rw[Array.getElem?_setIfInBounds_ne (by decide)];exact hcx⟩ fun b o q n=>?_
 .obtain⟨z,w⟩:=sl.2.2 b o q;exact⟨_,keep b _ (rec_ b o q n) w,rfl⟩
 .refine⟨o2,_,h1.objs.size,_,_,⟨q2,c2,d2,f2,by simp[hsz]⟩,⟨st1.fresh,fun z=>?_⟩,tb,rfl,by first | (simp;done) | (rcases hpl with rfl | ⟨_,_,_,_,_,_,_,rfl⟩<;>simp)⟩;have:=ARF ((sl.2.1 e iA).trans he);rw[z]at this;exact absurd this (ARw _)
 .obtain⟨z,w⟩:=sl.2.2 b o q;exact⟨z,keep b _ (rec_ b o q n) w⟩
theorem Ur(hfr:A.frames=some (env::outer))(hl:s.heap.FunFrames base (env::outer))(hf:env.frame=some L)
  (he:s.heap.get? e=some oe) (hkb:base.StaysIn s.heap) (hen:base.get? e=none) (hd:oe.data=.fields vs) (h1:vs[1]?=some .none) (hcx:vs[2]?=some .none)
  (h:∀h',FlD base (env::outer) e oe.cls oe.dict (rawInt L) h'->Cn e h'->s.heap.UpToSlots h'->Q () { s with heap:=h' }):wpAny M A (noteFrame (.ref e) env) Q E s:=by
 walk_at "1";walk_at "t";rw[if_neg (by decide)];exact ABg hfr hl hf he hkb hen hd (ARi.mp h1).1 hcx h
theorem AAV(hfr:A.frames=some (env::outer))(hf:env.frame=some L)(x:FlD base (env::outer) e C dx .none s.heap)(cn:Cn e s.heap)
  (h:∀h',FlD base (env::outer) e C dx (rawInt L) h'->Cn e h'->s.heap.UpToSlots h'->Q () { s with heap:=h' }):wpAny M A (noteFrame (.ref e) env) Q E s:=by
 walk_at "R";obtain⟨oe',vs',he',hd',hcx⟩:=cn;rw[he]at he';cases he';rw[hd]at hd';cases hd';walk_at "1";walk_at "e";walk_at "F";exact ABg (s:={ s with heap:=h2 }) hfr fr hf ((oth e hTe.symm).trans he) st x.nw hd (ARi.mp h1).1 hcx fun h3 f3 lY dQ=>h h3 f3 lY (up.trans dQ)
theorem W5(x:FlD base l e C dx fl s.heap)(cn:Cn e s.heap)(h:∀h',FlD base l e C dx .none h'->Cn e h'->s.heap.UpToSlots h'->Q () { s with heap:=h' }):wpAny M A (setFlight (.ref e) none) Q E s:=by
 walk_at "h";unfold setFlight;walk_at "e";refine turn x hT hdT h3 hb hTe fun h2 st fr oth ⟨o2,q2,d2⟩ up=>h h2 ⟨st,x.nw,fr,oe,vs,T,o2,_,⟨(oth e hTe.symm).trans he,hc,hx,hd,h1⟩,⟨hb,hTe⟩,q2,d2,?_⟩ (cn.of (oth e hTe.symm)) up;have:=(ARi.mp h3).1;simp[this]
theorem QL(hfr:A.frames=some (env::outer))(hl:s.heap.FunFrames base (env::outer))(hf:env.frame=some L)
  (he:s.heap.get? e=some oe) (hkb:base.StaysIn s.heap) (hen:base.get? e=none) (hd:oe.data=.fields vs) (h1:vs[1]?=some .none) (hcx:vs[2]?=some .none)
  (h:∀h',FlD base outer e oe.cls oe.dict .none h'->Cn e h'->s.heap.UpToSlots h'->Q () { s with heap:=h' }):wpAny M A (leaving env (.ref e)) Q E s:=by
 unfold leaving;exact AQ8 (Ur hfr hl hf he hkb hen hd h1 hcx fun h2 f2 jq ia=>W5 (s:={ s with heap:=h2 }) f2 jq fun h3 f3 lY dQ=>h h3 f3.tail lY (ia.trans dQ))
end
def CXn(P:Program)(w:World):CXT:=fun outer H s E e s'=>CXd P w outer H s E e s'/\∀a,e=.ref a->Cn a s'.heap
section
variable {P:Program}{w:World}{K:W.Frag}{mg:Str->Option Value}{base:Heap}{N:List Str}{qual:Str}{scope:Scope}{f:Addr}{cd:Value}{A:Around}{outer:List Env}{s:Shared}{H:Hp}{E:XK}
 {aA:List (Addr×Obj)} {Y:L2.St} {H1:Hp} {s1:Shared}
theorem AGI(I:Inv (BL CX P w K mg base N qual scope f cd A outer s H E) aA Y H1 s1):Inv (BL sB P w K mg base N qual scope f cd A outer s H E) aA Y H1 s1 :=
 ⟨⟨I.ok.mod,I.ok.kind,I.ok.glob,I.ok.blt,I.ok.above,I.ok.inj,I.ok.has,I.ok.cab,I.ok.hd,I.ok.frames,I.ok.stk,I.ok.exf,I.ok.bs,I.ok.bsz,I.ok.noex,I.ok.exfs,I.ok.funs,I.ok.frf⟩,I.os,I.bare,I.base,I.loc,I.cell,I.free,I.freeC,I.pin,I.hok,I.len⟩
theorem Vt{e C:Addr}{oe:Obj}{vs:Array Value}(I0:Inv (BL (CXn P w) P w K mg base N qual scope f cd A outer s H E) aA Y H1 s1)(he:s1.heap.get? e=some oe)(hc:oe.cls=.ref C)(hd:oe.data=.fields vs)(h1:vs[1]?=some .none)(hcx:vs[2]?=some .none)
  (hn:s.heap.get? e=none) (hH:H1 e=none) (hE:E (.ref C) oe.dict H1):(BL (CXn P w) P w K mg base N qual scope f cd A outer s H E).xe (.ref e) s1:=by
 have I:Inv (BL (CXd P w) P w K mg base N qual scope f cd A outer s H E) aA Y H1 s1:=AGI I0;show wpAny (model P w) (A.deeper (envOfC qual scope s.heap.objs.size f cd)) (leaving (envOfC qual scope s.heap.objs.size f cd) (.ref e)) _ _ s1;have fM:∀env∈(envOfC qual scope s.heap.objs.size f cd::outer),∀b,env.frame=some b->b∈frs (envOfC qual scope s.heap.objs.size f cd::outer)++[e]:=fun env he b hb=>ASD _ (ASI.mpr ⟨env,he,hb⟩);refine QL (base:=W.hideAll s1.heap (frs (envOfC qual scope s.heap.objs.size f cd::outer)++[e])) I.ok.frames (AS7 I.stack fM) rfl he (fun b o q=>ASM _ q) (ASg _ (by simp)) hd h1 hcx fun h2 fl cn up=>?_;have hid:∀b o,s1.heap.get? b=some o->b∉frs (envOfC qual scope s.heap.objs.size f cd::outer)->b≠e->(W.hideAll s1.heap (frs (envOfC qual scope s.heap.objs.size f cd::outer)++[e])).get? b=some o:=fun b o q nb ne =>
  AR4 _ q fun z=>by
   rcases ARP.mp z with z|z
   .exact nb z
   .exact ne (by simpa using z)
 have ks:∀b o,s1.heap.get? b=some o->b∈frs (envOfC qual scope s.heap.objs.size f cd::outer)->∃sl,h2.get? b=some { o with slots:=sl }:=fun b o q hb=>by
  walk_at "K";exact up b o q hd
 obtain⟨un,hok⟩:=JH I (fun b=>b=e) (fun b z=>by rw[z];exact⟨hn,hH⟩) (fun b o q nb ne=>fl.st b o (hid b o q nb ne)) ks;walk_at "c";refine⟨⟨e,.ref C,oe.dict,H1,rfl,I.os,I.bare,un,hok,T6.of (hc ▸ fl) hH hn fun T oT ts hB hT hdT hne=>⟨?_,?_⟩,hE⟩,fun a ea=>by cases ea;exact cn⟩
 .cases q:H1 T with
  | none=>rfl
  | some u =>
   obtain⟨ob,qo⟩:=got (I.hok T u q);rw[hid T ob qo (fun z=>by have:=I.stkFree T z;rw[q]at this;cases this) hne]at hB;cases hB
 .cases q:s.heap.get? T with
  | none=>rfl
  | some o =>
   walk_at "u"
   .walk_at "Z"
    .walk_at "N"
    .walk_at "ac";exact absurd hdT (hd2 ts)
   .rw[hid T o' q1 hb hne]at hB;cases hB
end
theorem APs{P:Program}{w:World}{K:W.Frag}{mg:Str->Option Value}{base:Heap}{x qual:Str}{st:Stmt}{f:Addr}{fd:FuncData}{N ps:List Str}{k:Nat}{sp:Sp}{dV:Value}
  (F:∃(oc:Value) (od:Option Addr) (kV doc pm:Value) (an:Option Addr) (cdv ct:Value) (osl:Array (Option Value)),
   fd=W.fnOf x qual (Bm st) (Bd st) (Ae st) dV kV doc pm an cdv ct/\K.lookup f=some ⟨oc,od,.func fd,osl⟩/\W.codeIn K cdv qual=true)
  (S:Ao N ps (Ae st)) (len:∀vs H Q E,sp vs H Q E->vs.length=ps.length)
  (hbody:∀(cdv:Value) (A:Around) (outer:List Env) (s:Shared) (H:Hp) (vs:List V) (Q:VK) (E:XK),CJ k (A.deeper (envOfC qual (Ae st) s.heap.objs.size f cdv))->sp vs H Q E ->
   ∃t,PSs (BL (CXn P w) P w K mg base N qual (Ae st) f cdv A outer s H E) (Bd st) t/\t { nx:=fun _ H'=>Q .non H',rt:=Q } (Hc N vs) H):BR P w K mg base (CXn P w) (k+1) f fd ps sp:=by
 walk_at "P"
theorem Q8{P:Program}{w:World}{K:W.Frag}{mg:Str->Option Value}{base:Heap}{N:List Str}{qual:Str}{scope:Scope}{f:Addr}{cd:Value}{A:Around}{outer:List Env}{s:Shared}{H:Hp}{E:XK}
  {x:Str} {C:Addr} {ps:List Str} {sp:Sp} {k j:Nat} {np aD pos:Pos} {e0:Expr} {Bj:List Expr} {ta:TA} (Ci:Us P w K mg base x C k ps sp)
  (hr:CJ j (A.deeper (envOfC qual scope s.heap.objs.size f cd))) (ha:PA (BL (CXn P w) P w K mg base N qual scope f cd A outer s H E) (e0::Bj) ta) (hkj:k+1<=j:=by decide)
  (hg:Gl (BL (CXn P w) P w K mg base N qual scope f cd A outer s H E) x:=by rfl) (hdb:(x==("__debug__":Str))=false:=by decide)
  (he:starEach (e0::Bj) (envOfC qual scope s.heap.objs.size f cd)=(false,eval e0 (envOfC qual scope s.heap.objs.size f cd))::starEach Bj (envOfC qual scope s.heap.objs.size f cd):=by rfl)
  (hpl:(backTo aD (starEach Bj (envOfC qual scope s.heap.objs.size f cd))).any (·.1)=false:=by rfl) :
  PS (BL (CXn P w) P w K mg base N qual scope f cd A outer s H E) (.Raise (some (.Call (.Name x np) (e0::Bj) [] aD)) none pos) (RX E C sp ta):=by
 obtain⟨fI,fd,ho,kp,F,hb,hm⟩:=Ci.ex;intro aA s1 Y H1 D I h;obtain⟨bm,Nn,nm,qn,bs,hd,sn,sub,ab,col,dd,k0,k1,k2,k3,k5,oI,look,lX,nin,tl,lI,cI⟩:=ho.parts;rw[arm_exec_Raise];refine AQ8 (ASb (Q9 (C:=C) (nm:=nm) (q:=qn) (N:=Nn) (bs:=bs) (bm:=bm) (hdct:=hd) (sn:=sn) (sub:=sub) (ab:=ab) (col:=col) (dd:=dd) (k0:=k0) (k1:=k1) (k2:=k2) (k3:=k3) (k5:=k5) (newId:="ValueError.__new__")
  ((ATB I.kIn tl).hasType ARv.hasBase) (I.ok.hd rfl) (AQ8 (ARe (AUi (En I hg hm ?_ hdb)) (fun v s3 h3=>AQ8 (ASb (ARL h3))) fun _ _ x=>x))))
 walk_at "Q";have dH:∀b,b∉(BL (CXn P w) P w K mg base N qual scope f cd A outer s H E).ex:=fun b z=>absurd (show b∈([]:List Addr) from z) (by simp);walk_at "aw";refine Qn ARv (ATB kin tl) (kin _ _ look) G (Px kin G nin) (kin _ _ lI) cI (by rw[AUG,<-r.length];exact aB) fun h' e hx=>?_;obtain⟨tt,at_,_,_⟩:=hx.there;have gone:∀b o,hp2.get? b=some o->b≠e:=fun b o qb z=>by rw[z,hx.new]at qb;cases qb
 have hH:H2 e=none:=by
  cases qe:H2 e with
  | none=>rfl
  | some u =>
   obtain⟨ob,qo⟩:=got (I2.hok e u qe);exact absurd rfl (gone e ob qo)
 have hs0:s.heap.get? e=none:=by
  cases qe:s.heap.get? e with
  | none=>rfl
  | some o =>
   walk_at "aK"
 have I3:Inv (BL (CXn P w) P w K mg base N qual scope f cd A outer s H E) aA Y (upd H2 e (.ext (HD e (.ref C) none))) ⟨h',g2,d2,t2,os2⟩ :=
  ABj (I2.kept (t':=t2) fun b ob qb=>hx.keeps b ob qb) hH hs0 (fun H'=>HD.ok ⟨_,_,at_,rfl,rfl,rfl,rfl,rfl⟩)
   (by obtain⟨m,⟨o,_,_,qo,_⟩,_⟩:=I2.loc;exact(gone _ o qo).symm) (fun y c ec=>by obtain⟨v,o,qo,_⟩:=I2.cell y c ec;exact gone c o qo) fun p hp=>gone _ _ (I2.pin p hp).1
 have hq:=q e hH;have r2:Ba (V.ref e::vs) (Value.ref e::us):=.cons rfl r;have hl:(Value.ref e::us++[]).length=ps.length:=by
  walk_at "au";exact z.symm
 walk_at "n";cases res with
 | error ev=>exact False.elim h4
 | ok fl =>
  cases fl with
  | ret u =>
   obtain⟨v,H4,I4,rv,ev,dx,jo,hE⟩:=I3.after h4;subst ev;obtain⟨⟨oe,ws,z1,z2,z3,z4,z5,z6⟩,_⟩:=(show Bp P w H4 s4.heap e (.ext (HD e (.ref C) dx)) from I4.hok e _ jo);exact⟨rv,e,oe,ws,rfl,I4.kIn _ _ look,z1,z2,z4,z5,Vt (MN I4 jo) z1 z2 z4 z5 z6 hs0 Ks (z3 ▸ hE)⟩
  | next=>exact False.elim h4
  | brk=>exact False.elim h4
  | cont=>exact False.elim h4
theorem R8(cn:Cn a s.heap)(h:Q .none s):wpAny (model prog w) A (runValue (.builtin "proto.unchain" ⟨[.ref e,.ref a,.ref a,.bool false],[]⟩)) Q E s:=by
 obtain⟨oe,vs,h1,h2,h3⟩:=cn;refine wpAny_runValue (codeAny_builtin (b:=Builtin.«proto.unchain») (entryFor_of_tree (by kernel_rfl)) ?_);show wpAny _ _ (Builtin.«proto.unchain» _) _ _ _;unfold Builtin.«proto.unchain»;refine AQ8 (ARZ h1 h2 h3 ?_);rw[if_pos (by decide)]
 wp_walk
 exact h
section
variable {prog:Program}{w:World}{A:Around}{E:Value->Shared->Prop}{env:Env}
variable {nm q:Str}{C N:Addr}{bs bm:List Value}{hdct:Bool}{sn:List Str}{sub:List Value}{ab:Bool}{col:Option Bool}{dd:Option Addr}{k0 k1 k2 k3 k5:Option Value}{newId:String}
theorem Wi{s:Shared}{x c:Sem Value}{a:Addr}{Q:Flow->Shared->Prop}(hbase:bm.contains (.type "BaseException")=true)(hh:A.handled=some (.ref a))
  (hc:∀(R:Value->Shared->Prop) (ze:Shared),R .none ze->wpAny (model prog w) A c R E ze)
  (h:wpAny (model prog w) A x (fun v ze=>∃e t,v=.ref e/\ze.heap.get? C=some (excClassObj nm q C N bs bm hdct sn sub ab col dd k0 k1 k2 k3 k5 newId) /\
   ze.heap.get? e=some { cls:=.ref C,data:=.fields #[.ref t,.none,.none,.none,.bool false,.none] }/\a≠e/\C≠e/\Cn a ze.heap /\
   ∀h',(∀b,b≠e->h'.get? b=ze.heap.get? b)->h'.get? e=some { cls:=.ref C,data:=.fields #[.ref t,.none,.ref a,.none,.bool true,.none] }->E (.ref e) { ze with heap:=h' }) E s) :
  wpAny (model prog w) A (raiseStmt env (some x) (some c)) Q E s:=by
 walk_at "az"
 unfold raiseStmt;refine AQ8 (ARe h (fun v ze zr=>?_) fun _ _ x=>x);obtain⟨e,t,rfl,hC,he,pE,xY,cn,hE⟩:=zr;obtain⟨hp,g,d,tk,os⟩:=ze;refine AQ8 (AT7 (hc _ _ (AQ8 (ARL ?_))))
 repeat (first | with_reducible refine wpAny_loadPart_at he ?_ | with_reducible refine wpAny_loadPart_at hC ?_ | (with_reducible refine wpAny_isSubtype_exc hC ?_;rw[hcB]) | wp_step)
 have sE:=AR8 (Obj.mapFields fun x=>x.setIfInBounds 3 Value.none) he rfl;have he2:=AR8 (Obj.mapFields fun x=>x.setIfInBounds 4 (Value.bool true)) sE rfl;have oth:∀b,b≠e->((hp.update e (Obj.mapFields fun x=>x.setIfInBounds 3 Value.none)).update e (Obj.mapFields fun x=>x.setIfInBounds 4 (Value.bool true))).get? b=hp.get? b:=fun b nb=>by
  rw[ARr _ _ nb.symm,ARr _ _ nb.symm]
 generalize (hp.update e (Obj.mapFields fun x=>x.setIfInBounds 3 Value.none)).update e (Obj.mapFields fun x=>x.setIfInBounds 4 (Value.bool true))=hp2 at *;have jq:Cn a hp2:=cn.of (oth a pE);unfold raiseNew;refine AQ8 (wpAny_handled ?_);rw[hh];dsimp only;rw[if_pos (by simpa using pE)];refine AQ8 (AT7 (R8 jq (AQ8 (ATo (i:=2) (x:=.ref a) (vs:=#[Value.ref t,.none,.none,.none,.bool true,.none]) he2 rfl (show 2<6 by decide) (wpAny_throw ?_)))));refine hE _ (fun b nb=>?_) ?_
 .rw[ARr _ _ nb.symm];exact oth b nb
 .exact AR8 (Obj.mapFields fun x=>x.setIfInBounds 2 (Value.ref a)) he2 rfl
end
section
variable {P:Program}{w:World}{K:W.Frag}{mg:Str->Option Value}{base:Heap}{N:List Str}{qual:Str}{scope:Scope}{f:Addr}{cd:Value}{A:Around}{outer:List Env}{s:Shared}{H:Hp}{E:XK}
 {aA:List (Addr×Obj)} {Y:L2.St} {H1:Hp} {s1:Shared}
end
structure CalCN(P:Program)(w:World)(K:W.Frag)(mg:Str->Option Value)(base:Heap)(x:Str)(C:Addr)(k:Nat)(ps:List Str)(sp:Sp):Prop where
 ex:∃f fd,BR P w K mg base (CXn P w) k f fd ps sp/\DK K fd ps []/\Mk K C f/\mg x=some (.ref C)
def sil(X:Cx):Cx:={ X with xe:=fun _ _=>False }
theorem AMy{Y:L2.St}(I:Inv X aA Y H s):Inv (sil X) aA Y H s :=
 ⟨⟨I.ok.mod,I.ok.kind,I.ok.glob,I.ok.blt,I.ok.above,I.ok.inj,I.ok.has,I.ok.cab,I.ok.hd,I.ok.frames,I.ok.stk,I.ok.exf,I.ok.bs,I.ok.bsz,I.ok.noex,I.ok.exfs,I.ok.funs,I.ok.frf⟩,I.os,I.bare,I.base,I.loc,I.cell,I.free,I.freeC,I.pin,I.hok,I.len⟩
theorem AIO{Y:L2.St}(I:Inv (sil X) aA Y H s):Inv X aA Y H s :=
 ⟨⟨I.ok.mod,I.ok.kind,I.ok.glob,I.ok.blt,I.ok.above,I.ok.inj,I.ok.has,I.ok.cab,I.ok.hd,I.ok.frames,I.ok.stk,I.ok.exf,I.ok.bs,I.ok.bsz,I.ok.noex,I.ok.exfs,I.ok.funs,I.ok.frf⟩,I.os,I.bare,I.base,I.loc,I.cell,I.free,I.freeC,I.pin,I.hok,I.len⟩
theorem Cn.ok(x:Cn a h):Bp P w H h a (.ext (Cn a)):=by
 walk_at "7"
theorem AAi(s:Al H H2)(n:H2 a=none):Al H (drp (upd H2 a o) a):=fun b ob e=>by
 have ne:b≠a:=Az (s _ _ e) n;rw[Eu ne,An ne];exact s _ _ e
def ALr(K:W.Frag)(C C0 CT:Addr)(sp:Sp)(t u:TA)(E:XK):TS:=fun D Y H=>t Y H fun vs H1=>∀x dx,H1 x=none->H1 dx=none->dx≠x ->
 sp (.ref x::vs) (upd (upd H1 dx (.own x)) x (.ins C dx [])) (fun v H2=>v=.non/\D.rt (.ref x) H2) fun Cv _ H2=>W.exmOne K Cv (.ref C0)=some true/\∀a,H2 a=none->u Y (upd H2 a (.ext (Cn a))) fun ws H3=>ws.length<=sizeLine/\H3 a=some (.ext (Cn a))/\E (.ref CT) none (drp H3 a)
section
variable {P:Program}{w:World}{K:W.Frag}{mg:Str->Option Value}{base:Heap}{N:List Str}{qual:Str}{scope:Scope}{f:Addr}{cd:Value}{A:Around}{outer:List Env}{s:Shared}{H:Hp}{E:XK}
end
section
variable {M:Model}{A:Around}{E:Value->Shared->Prop}{s:Shared}{base:Heap}{env:Env}{outer l:List Env}{L e:Addr}{C fl:Value}{dx:Option Addr}{Q:Unit->Shared->Prop}
theorem WF(hf:env.frame=some L)(x:FlD base l e C dx fl s.heap)(h:∀h',FlD base l e C dx (rawInt L) h'->s.heap.UpToSlots h'->E (.ref e) { s with heap:=h' }):cameBackBy M A env E (.ref e) s:=by
 walk_at "h";unfold cameBackBy;walk_at "t";rw[if_neg (show ¬((Value.ref T==Value.none)=true) from by simp)];unfold setFlight;walk_at "t";rw[if_pos (show(Value.ref T != Value.none)=true from by simp),hf];walk_at "v"
theorem Uq(hf:env.frame=some L)(x:FlD base (env::outer) e C dx (rawInt L) s.heap)(h:∀h',FlD base outer e C dx .none h'->s.heap.UpToSlots h'->Q () { s with heap:=h' }):wpAny M A (leaving env (.ref e)) Q E s:=by
 walk_at "h";unfold leaving;refine AQ8 ?_;walk_at "1";walk_at "e";refine AQ8 (ARZ hT hdT h3 ?_);rw[if_pos (show(rawInt L==rawInt L)=true from by simp)];refine ARL ?_;exact Om x fun h3 f3 dQ=>h h3 f3.tail dQ
end
section
variable {P:Program}{w:World}{K:W.Frag}{mg:Str->Option Value}{base:Heap}{N:List Str}{qual:Str}{scope:Scope}{f:Addr}{cd:Value}{A:Around}{outer:List Env}{s:Shared}{H:Hp}{E:XK}
 {aA:List (Addr×Obj)} {Y:L2.St} {H1:Hp} {s1:Shared}
theorem V8{h1 h2:Heap}{e C t:Addr}{a:Value}{vs:List Value}(I:Inv (BL (CXd P w) P w K mg base N qual scope f cd A outer s H E) aA Y H1 s1)(hx:Heap.MadeExcOf s1.heap h1 e (.ref C) vs)
  (oth:∀b,b≠e->h2.get? b=h1.get? b) (he:h2.get? e=some { cls:=.ref C,data:=.fields #[.ref t,.none,a,.none,.bool true,.none] }) (hE:E (.ref C) none H1) (ha:Option Value) :
  notedBy (model P w) ((BL (CXd P w) P w K mg base N qual scope f cd A outer s H E).A.mark ha) (envOfC qual scope s.heap.objs.size f cd) (fun x s'=>cameBackBy (model P w) (BL (CXd P w) P w K mg base N qual scope f cd A outer s H E).A (envOfC qual scope s.heap.objs.size f cd) (BL (CXd P w) P w K mg base N qual scope f cd A outer s H E).xe x s') (.ref e) { s1 with heap:=h2 }:=by
 have fM:∀env∈(envOfC qual scope s.heap.objs.size f cd::outer),∀b,env.frame=some b->b∈frs (envOfC qual scope s.heap.objs.size f cd::outer):=fun env he b hb=>ASI.mpr ⟨env,he,hb⟩;have k2:∀b o,s1.heap.get? b=some o->h2.get? b=some o:=fun b o q=>by
  rw[oth b (fun z=>by rw[z,hx.new]at q;cases q)];exact hx.keeps b o q
 have st:(W.hideAll s1.heap (frs (envOfC qual scope s.heap.objs.size f cd::outer))).StaysIn h2:=fun b o q=>k2 b o (ASM _ q);have ff:h2.FunFrames (W.hideAll s1.heap (frs (envOfC qual scope s.heap.objs.size f cd::outer))) (envOfC qual scope s.heap.objs.size f cd::outer):=(AS7 I.stack fM).of_keeps fun b o q _=>⟨o,k2 b o q,rfl⟩;have hen:(W.hideAll s1.heap (frs (envOfC qual scope s.heap.objs.size f cd::outer))).get? e=none:=by
  cases q:(W.hideAll s1.heap (frs (envOfC qual scope s.heap.objs.size f cd::outer))).get? e with
  | none=>rfl
  | some o =>
   have:=ASM _ q;rw[hx.new]at this;cases this
 show wpAny (model P w) _ (noteFrame (.ref e) (envOfC qual scope s.heap.objs.size f cd)) _ _ _;refine QH I.ok.frames ff rfl he st hen rfl rfl fun h3 jk dQ=>?_;refine WF (s:={ s1 with heap:=h3 }) rfl jk fun h4 sF gu=>?_;show wpAny (model P w) (A.deeper (envOfC qual scope s.heap.objs.size f cd)) (leaving (envOfC qual scope s.heap.objs.size f cd) (.ref e)) _ _ _;refine Uq (s:={ s1 with heap:=h4 }) rfl sF fun h5 fl gv=>?_;have kk:∀b o,s1.heap.get? b=some o->b∉frs (envOfC qual scope s.heap.objs.size f cd::outer)->h5.get? b=some o:=fun b o q nb=>fl.st b o (AR4 _ q nb);have ks:∀b o,s1.heap.get? b=some o->b∈frs (envOfC qual scope s.heap.objs.size f cd::outer)->∃sl,h5.get? b=some { o with slots:=sl }:=fun b o q hb=>by
  walk_at "K";obtain⟨sG,e3⟩:=dQ b o (k2 b o q) hd;obtain⟨pG,e4⟩:=gu b _ e3 hd;obtain⟨pH,e5⟩:=gv b _ e4 hd;exact⟨pH,e5⟩
 obtain⟨un,hok⟩:=JH I (fun _=>False) (fun _ z=>z.elim) (fun b o q nb _=>kk b o q nb) ks;have tr:∀c u,H1 c=some u->∃ob,s1.heap.get? c=some ob/\c∉frs (envOfC qual scope s.heap.objs.size f cd::outer):=fun c u q=>by
  obtain⟨ob,qo⟩:=got (I.hok c u q);refine⟨ob,qo,fun z=>?_⟩;have:=I.stkFree c z;rw[q]at this;cases this
 walk_at "c";refine⟨e,.ref C,none,H1,rfl,I.os,I.bare,un,hok,T6.of fl ?_ ?_ fun T oT ts hB hT hd hne=>⟨?_,?_⟩,hE⟩
 .cases q:H1 e with
  | none=>rfl
  | some u =>
   obtain⟨ob,qo,_⟩:=tr e u q;rw[hx.new]at qo;cases qo
 .cases q:s.heap.get? e with
  | none=>rfl
  | some o =>
   obtain⟨o',q1⟩:=I.base.there e o q (dH e);rw[hx.new]at q1;cases q1
 .cases q:H1 T with
  | none=>rfl
  | some u =>
   obtain⟨ob,qo,nb⟩:=tr T u q;rw[AR4 _ qo nb]at hB;cases hB
 .cases q:s.heap.get? T with
  | none=>rfl
  | some o =>
   walk_at "u"
   .walk_at "Z"
    .walk_at "N"
    .walk_at "ac";exact absurd hd (hd2 ts)
   .rw[AR4 _ q1 hb]at hB;cases hB
theorem Z8{x xn xt:Str}{C C0 CT:Addr}{k j:Nat}{ps:List Str}{sp:Sp}{e m0:Expr}{es ms:List Expr}{t u:TA}{p pos rpos np tp aD npos lZ hpos tpos:Pos}{kd:Nat}
  (Cc:CalCN P w K mg base x C k ps sp) (hr:CJ j (A.deeper (envOfC qual scope s.heap.objs.size f cd))) (ha:PA (sil (BL (CXd P w) P w K mg base N qual scope f cd A outer s H E)) (e::es) t)
  (hm:mg xn=some (.ref C0)) (sI:mg xt=some (.ref CT)) (ho:Hd K CT) (hu:∀a,PA (hdl (BL (CXd P w) P w K mg base N qual scope f cd A outer s H E) a) (m0::ms) u)
  (hkj:k+1<=j:=by decide) (hg:Gl (BL (CXd P w) P w K mg base N qual scope f cd A outer s H E) x:=by rfl) (sJ:Gl (BL (CXd P w) P w K mg base N qual scope f cd A outer s H E) xn:=by rfl) (hgt:Gl (BL (CXd P w) P w K mg base N qual scope f cd A outer s H E) xt:=by rfl)
  (hdb:(x==("__debug__":Str))=false:=by decide) (hdn:(xn==("__debug__":Str))=false:=by decide) (hdt:(xt==("__debug__":Str))=false:=by decide)
  (he:starEach (e::es) (envOfC qual scope s.heap.objs.size f cd)=(false,eval e (envOfC qual scope s.heap.objs.size f cd))::starEach es (envOfC qual scope s.heap.objs.size f cd):=by rfl)
  (hpl:(backTo pos (starEach es (envOfC qual scope s.heap.objs.size f cd))).any (·.1)=false:=by rfl)
  (he':starEach (m0::ms) (envOfC qual scope s.heap.objs.size f cd)=(false,eval m0 (envOfC qual scope s.heap.objs.size f cd))::starEach ms (envOfC qual scope s.heap.objs.size f cd):=by rfl)
  (hpl':(backTo aD (starEach ms (envOfC qual scope s.heap.objs.size f cd))).any (·.1)=false:=by rfl) :
  PS (BL (CXd P w) P w K mg base N qual scope f cd A outer s H E) (.Try [.Return (some (.Call (.Name x p) (e::es) [] pos)) rpos] [.ExceptHandler (some (.Name xn np)) none [.Raise (some (.Call (.Name xt tp) (m0::ms) [] aD)) (some (.Constant .none kd npos)) lZ] hpos] [] [] tpos) (ALr K C C0 CT sp t u E):=by
 obtain⟨fc,fd,F,b,M,m⟩:=Cc.ex;intro aA s0 Y H0 D I h;refine wpAny_Try_except (ATU ?_);refine wpAny_Return_some ?_;have ha':=ha pos aA s0 Y H0 _ (AMy I) h;refine ASp (En I hg m ?_ hdb);refine ASf (h₀:=base) I.ok.mod.kin M.kp (ARe ha' (fun us s1 h1=>?_) fun _ _ z=>False.elim z) he hpl;obtain⟨vs,H1,sK,r,q⟩:=h1;have I1:=AIO sK;refine⟨I1.kIn,?_⟩;have hq:=q (s1.heap.objs.size+1) s1.heap.objs.size (I1.hok.fresh (AUj _)) (I1.hok.fresh (ARH _)) (ARt (AUo _));have I2:=Inv.made (C:=C) I1;have r2:Ba (V.ref (s1.heap.objs.size+1)::vs) (Value.ref (s1.heap.objs.size+1)::us):=.cons rfl r;have hl:(Value.ref (s1.heap.objs.size+1)::us++[]).length=ps.length:=by
  walk_at "au";exact z.symm
 have hbt:=b _ (Value.ref (s1.heap.objs.size+1)::us) I2.kIn hl;rw[ARx]at hbt;refine AT9 (Vu (f:=fc) I1.kIn M.makes M.init (beq_iff_eq.mp M.fn) (codeAny_mono (F.run _ (envOfC qual scope s.heap.objs.size f cd::outer) _ _ ⟨Value.ref (s1.heap.objs.size+1)::us,[]⟩ (Value.ref (s1.heap.objs.size+1)::us) _ _ _ ((hr.mono hkj).make C us [])
  (I2.env0.make C us []) hbt r2 hq) fun res s2 h2=>?_))
 cases res with
 | ok fl =>
  cases fl with
  | ret v0 =>
   obtain⟨v,H2,I3,rv,ev,qv⟩:=I2.after h2;subst ev;exact⟨rv,.ref (s1.heap.objs.size+1),Y,H2,I3,rfl,qv⟩
  | next=>exact False.elim h2
  | brk=>exact False.elim h2
  | cont=>exact False.elim h2
 | error ev =>
  obtain⟨⟨a,Cv,dx,H2,rfl,os,bare,un,hok,gn,hx,hE⟩,cn⟩:=h2;have I3:=I2.call' (s':=s2) (ch:=[]) os un hok bare (fun b z=>absurd z (by simp));obtain⟨B,T,fl,cov,kN,pI,dX,fk⟩:=gn.ex;have jq:=cn a rfl;refine AAV I3.ok.frames rfl fl jq fun h4 fN sL gu=>?_;refine W5 (s:={ s2 with heap:=h4 }) fN sL fun h5 ic sM gv=>?_;have I5:=Su rfl I2 I3 dX fk kN pI cov ic.st (gu.trans gv);refine wpAny_handleBy_cons (codeAny_handlers_test (En (X:=hdl (BL (CXd P w) P w K mg base N qual scope f cd A outer s H E) a) (Vr I5 a) sJ hm ?_ hdn)) (by intro q;cases q);obtain⟨oe,hoe,hoc,_⟩:=ic.there;have LT:W.Looks (model P w) h5 (typeOf (.ref a)) Cv:=hoc ▸ (ATv hoe).andThen .now;refine(W.exm_one I5.kIn LT hx) _ _ _ _ (fun _ _ q=>q) ?_;refine codeAny_handlers_suite (W5 (s:={ s2 with heap:=h5 }) ic sM fun h6 ig sN jm=>?_);have I6:=Su rfl I2 I3 dX fk kN pI cov ig.st ((gu.trans gv).trans jm);refine ATU ?_;rw[arm_exec_Raise];obtain⟨bm,Nn,nm,qn,bs,hd',sn,sub,ab,col,dd,k0,k1,k2,k3,k5,mN,hC,hN,hni,TT⟩:=ho.parts I6.mod.kin;refine AQ8 (ASb (Wi (C:=CT) (nm:=nm) (q:=qn) (N:=Nn) (bs:=bs) (bm:=bm) (hdct:=hd') (sn:=sn) (sub:=sub) (ab:=ab) (col:=col) (dd:=dd) (k0:=k0) (k1:=k1) (k2:=k2) (k3:=k3) (k5:=k5) (newId:="ValueError.__new__") (a:=a)
   (TT.hasType ARv.hasBase) rfl (fun R s7 q7=>AQ8 (Constant_none (AQ8 (ASb (ARL q7))))) ?_))
  refine AQ8 (ARe (AUi (En (X:=hdl (BL (CXd P w) P w K mg base N qual scope f cd A outer s H E) a) (Vr I6 a) hgt sI ?_ hdt)) (fun v zt zw=>AQ8 (ASb (ARL zw))) fun _ _ x=>x);have ne0:∀b o,((s1.heap.push W.emptyDict).push (W.instObj C s1.heap.objs.size)).get? b=some o->b≠a:=fun b o q z=>by
   rw[z,dX]at q;cases q
  have hs0:s.heap.get? a=none:=by
   cases q:s.heap.get? a with
   | none=>rfl
   | some o =>
    obtain⟨o',q1⟩:=I2.base.there a o q (fun z=>absurd (show a∈([]:List Addr) from z) (by simp));exact absurd rfl (ne0 a o' q1)
  have sO:=ABj (φ:=Cn a) I6 kN hs0 (fun H'=>Cn.ok sN) (by
    obtain⟨m,⟨o,_,_,q,_⟩,_⟩:=I2.loc;exact(ne0 _ o q).symm) (fun y c e=>by
    obtain⟨v,o,q,_⟩:=I2.cell y c e;exact ne0 c o q) (fun p hp=>ne0 _ _ (I2.pin p hp).1)
  have hu':=hu a aD aA _ Y _ _ (Vr sO a) (hE a kN);have q':wpAny (model P w) ((A.deeper (envOfC qual scope s.heap.objs.size f cd)).mark (some (.ref a))) (spliced (backTo aD (starEach (m0::ms) (envOfC qual scope s.heap.objs.size f cd)))) _ _ _:=hu';have hplain:(backTo aD (starEach (m0::ms) (envOfC qual scope s.heap.objs.size f cd))).any (·.1)=false:=by
   rw[he'];show(false || (backTo aD (starEach ms (envOfC qual scope s.heap.objs.size f cd))).any (·.1))=false;rw[hpl'];rfl
  show wpAny (model P w) ((A.deeper (envOfC qual scope s.heap.objs.size f cd)).mark (some (.ref a))) (callWith aD (.ref CT) [] (backTo aD (starEach (m0::ms) (envOfC qual scope s.heap.objs.size f cd))) []) _ _ _;unfold callWith;refine AQ8 (AT7 ?_);refine ARe (Q:=fun ar zi=>ar.kw=[]/\ar.pos.length<=sizeLine/\zi.heap.get? CT=some (excClassObj nm qn CT Nn bs bm hd' sn sub ab col dd k0 k1 k2 k3 k5 "ValueError.__new__")/\zi.heap.Ns Nn mN/\OwnTail zi.heap Ky bm/\∃H7,Inv (BL (CXd P w) P w K mg base N qual scope f cd A outer s H E) aA Y H7 zi/\H7 a=some (.ext (Cn a))/\E (.ref CT) none (drp H7 a)) ?_ (fun ar zi zu=>AQ8 (ASb ?_)) fun _ _ x=>x
  .rw[he']at q' ⊢;refine ATO (ARe q' (fun xZ s7 h7=>?_) fun _ _ z=>False.elim z);obtain⟨ws,H7,sP,r7,jr,me⟩:=h7;have I7:=Oo sP I6.ok;exact⟨rfl,by rw[<-r7.length];exact jr,I7.bk _ _ hC,hN.keeps I7.bk,TT.keeps I7.bk,H7,I7,me⟩
  obtain⟨aF,akw⟩:=ar;obtain⟨hkw,aB,jt,sQ,T7,H7,I7,pJ,me⟩:=zu;obtain rfl:akw=[]:=hkw;obtain⟨hp,g,d,tk,os⟩:=zi;simp only[hplain];refine AQ8 (wpAny_keeperOf_exc jt ?_);refine AQ8 (wpAny_call_exc_subT (hrest:=aB) ARv T7 jt sQ hni fun h' e hm=>AQ8 (AT7 (wpAny_point (ARL ?_))));obtain⟨t,ht,_,_⟩:=hm.there;have pK:Cn a hp:=(I7.hok a _ pJ).1;refine⟨e,t,rfl,hm.keeps _ _ jt,ht,fun z=>?_,fun z=>?_,?_,fun h8 mh sR=>V8 (MN I7 pJ) hm mh sR me _⟩
  .obtain⟨_,_,q,_⟩:=pK;rw[z,hm.new]at q;cases q
  .rw[z,hm.new]at jt;cases jt
  .obtain⟨o,v,q,r⟩:=pK;exact⟨o,v,hm.keeps _ _ q,r⟩
end
theorem Z6{P:Program}{w:World}{K:W.Frag}{mg:Str->Option Value}{base:Heap}{N:List Str}{qual:Str}{scope:Scope}{f:Addr}{cd:Value}{A:Around}{outer:List Env}{s:Shared}{H:Hp}{E:XK}
  {C:Addr} {x:Str} {k j:Nat} {ps:List Str} {sp:Sp} {e:Expr} {es:List Expr} {t:TA} {p pos:Pos} (Cc:AD4 P w K mg base x C k ps sp) (hr:CJ j (A.deeper (envOfC qual scope s.heap.objs.size f cd)))
  (ha:PA (BL (CXd P w) P w K mg base N qual scope f cd A outer s H E) (e::es) t) (hkj:k+1<=j:=by decide) (hg:Gl (BL (CXd P w) P w K mg base N qual scope f cd A outer s H E) x:=by rfl)
  (hdb:(x==("__debug__":Str))=false:=by decide) (he:starEach (e::es) (envOfC qual scope s.heap.objs.size f cd)=(false,eval e (envOfC qual scope s.heap.objs.size f cd))::starEach es (envOfC qual scope s.heap.objs.size f cd):=by rfl)
  (hpl:(backTo pos (starEach es (envOfC qual scope s.heap.objs.size f cd))).any (·.1)=false:=by rfl) :
  PE (BL (CXd P w) P w K mg base N qual scope f cd A outer s H E) (.Call (.Name x p) (e::es) [] pos) (YF C sp [] E t):=by
 obtain⟨f,fd,F,b,M,hm⟩:=Cc.ex;exact ACg M F (hr.mono hkj) hg hm b .nil QB ha hdb he hpl
def AP8(sp:Sp)(bX:List V)(i:Nat)(t:TA):(Value->Option Addr->L2.St->Hp->Prop)->TS:=fun R D Y H=>t Y H fun vs H1=>sp (vs++bX) H1 (fun v H2=>D.nx (Y.set i (some v)) H2) fun C dx H2=>R C dx Y H2
section
variable {M:Model}{A:Around}{E:Value->Shared->Prop}{s:Shared}{base:Heap}{env:Env}{outer l:List Env}{L e:Addr}{C fl:Value}{dx:Option Addr}
theorem Zj(hfr:A.frames=some (env::outer))(hf:env.frame=some L)(x:FlD base (env::outer) e C dx fl s.heap)
  (h:∀h',FlD base outer e C dx .none h'->s.heap.UpToSlots h'->Q () { s with heap:=h' }):wpAny M A (leaving env (.ref e)) Q E s:=by
 unfold leaving;by_cases c:fl=rawInt L
 .walk_at "h";refine AQ8 ?_;walk_at "1";walk_at "e";refine AQ8 (ARZ hT hdT h3 ?_);rw[if_pos (show((fl==rawInt L)=true) from by rw[c];simp)];refine ARL ?_;exact Om x fun h3 f3 dQ=>h h3 f3.tail dQ
 .walk_at "R";refine AQ8 ?_;walk_at "1";walk_at "e";refine AQ8 (ARZ hT hdT h3 ?_);rw[if_neg (show ¬((fl==rawInt L)=true) from by simpa using c)];refine AQ8 (turn x hT hdT h3 hb hTe fun h2 st fr oth _ up=>?_);refine Wm (s:={ s with heap:=h2 }) hfr fr hf ((oth e hTe.symm).trans he) st x.nw hd (ARi.mp h1).1 fun h3 f3 dQ=>?_;exact Om (s:={ s with heap:=h3 }) f3 fun h4 f4 gu=>h h4 f4.tail ((up.trans dQ).trans gu)
theorem AAm{α:Type}{Q:α->Shared->Prop}(x:FlD base l e C dx fl s.heap)
  (h:∀h' lS,FlD base l e C dx lS h'->s.heap.UpToSlots h'->E (.ref e) { s with heap:=h' }):wpAny M A (PySem.passOn what (.ref e) cenv) Q E s:=by
 walk_at "h";have lt:=(ARi.mp h3).1;simp only[PySem.passOn];walk_at "t";rw[if_neg (by simp)];refine AQ8 ?_;simp only[setFlight];walk_at "t";rw[if_pos (by simp)];refine turn x hT hdT h3 hb hTe fun h2 st fr oth ⟨o2,q2,d2⟩ up=>?_;exact wpAny_throw (h h2 _ ⟨st,x.nw,fr,oe,vs,T,o2,_,⟨(oth e hTe.symm).trans he,hc,hx,hd,h1⟩,⟨hb,hTe⟩,q2,d2,by simp[lt];rfl⟩ up)
end
section
variable {P:Program}{w:World}{K:W.Frag}{mg:Str->Option Value}{base:Heap}{N:List Str}{qual:Str}{scope:Scope}{f:Addr}{cd:Value}{A:Around}{outer:List Env}{s:Shared}{H:Hp}{E:XK}
 {aA:List (Addr×Obj)} {Y:L2.St} {H1:Hp} {s1 s2:Shared}
theorem KC{aM:Scope}{cl:List (Str×Addr)}{C:Addr}{use:Option (Value->Sem Unit)}{R:Value->Shared->Prop}{acc e:Value}(I:Inv (BL (CXd P w) P w K mg base N qual scope f cd A outer s H E) aA Y H1 s1)(hC:FP (BL (CXd P w) P w K mg base N qual scope f cd A outer s H E) aA H1 C)(ns:∃m,s1.heap.Ns C m)
  (h:CXd P w (BL (CXd P w) P w K mg base N qual scope f cd A outer s H E).stack H1 s1 E e s2) :
  notedBy (model P w) (BL (CXd P w) P w K mg base N qual scope f cd A outer s H E).A (compEnvC aM cl C (BL (CXd P w) P w K mg base N qual scope f cd A outer s H E).env) (fun e s'=>compPost (model P w) (BL (CXd P w) P w K mg base N qual scope f cd A outer s H E).A (BL (CXd P w) P w K mg base N qual scope f cd A outer s H E).xe use R acc C (.error e) s') e s2:=by
 obtain⟨a,Cv,dx,H2,rfl,os,bare,un,hok,gn,hE⟩:=h;have I2:=I.call' (s':=s2) (ch:=[]) os un hok bare (fun b z=>absurd z (by simp));obtain⟨B,T,fl,cov,ha,hT,dX,fk⟩:=gn.ex;obtain⟨c0,c1,c2,c3,c4,c5⟩:=hC;obtain⟨m,oC,es,ep,eC,dC,kC,fC⟩:=ns;have kO:C∉frs (envOfC qual scope s.heap.objs.size f cd::outer):=fun z=>by
  rcases ARI.mp (show C∈s.heap.objs.size::frs outer from z) with z|z
  .exact c1 z
  .exact c2 z
 have pL:C≠a:=fun z=>by rw[z,dX]at eC;cases eC
 have sS:C≠T:=fun z=>by rw[z,fk]at eC;cases eC
 have sU:s2.heap.get? C=some oC:=un.keep C oC eC c0 kO (by simp);have pM:H2 C=none:=un.free C oC eC c0 (by simp);have sC:s.heap.get? C=none:=by
  rcases c3 with z|z
  .exact absurd (show C∈([]:List Addr) from z) (by simp)
  .cases q:s.heap.get? C with
   | none=>rfl
   | some o=>exact absurd (ARX (ARF q) z) (ARw _)
 have BC:B.get? C=some oC:=cov C oC sU kO pL sS;have dH:∀b,b∉(BL (CXd P w) P w K mg base N qual scope f cd A outer s H E).ex:=fun b z=>absurd (show b∈([]:List Addr) from z) (by simp);have old:∀b,s1.heap.get? b=none->s.heap.get? b=none:=fun b n=>by
  cases q:s.heap.get? b with
  | none=>rfl
  | some o =>
   walk_at "aQ";rw[n]at q1;cases q1
 show wpAny (model P w) (A.deeper (envOfC qual scope s.heap.objs.size f cd)) (noteFrame (.ref a) (envOfC qual scope s.heap.objs.size f cd)) _ _ s2;refine S6 I.ok.frames rfl fl fun h3 held dQ=>?_;refine⟨m,⟨oC,es,ep,held.st C oC BC,dC,kC,fC⟩,fun h4 sb cenv pN=>?_⟩;have gy:(W.hideAll B [C]).StaysIn h4:=fun b o q=>by
  have q':=ASM [C] q;have ne:b≠C:=fun z=>by
   rw[z,ASg [C] (by simp)]at q;cases q
  rw[sb.2 b ne];exact held.st b o q'
 have fO:∀b,B.get? b=none->(W.hideAll B [C]).get? b=none:=fun b n=>by
  cases q:(W.hideAll B [C]).get? b with
  | none=>rfl
  | some o =>
   rw[ASM [C] q]at n;cases n
 have sV:h4.FunFrames (W.hideAll B [C]) (envOfC qual scope s.heap.objs.size f cd::outer):=Xe fO (fun b o hb q=>⟨o.slots,by
  rw[sb.2 b (fun z=>kO (z ▸ hb)),q]⟩) held.fr
 have iB:∀b o,b≠C->h3.get? b=some o->h4.get? b=some o:=fun b o ne q=>by rw[sb.2 b ne];exact q
 obtain⟨oe,vs,T1,oT,ts,⟨he,hcl,hdx,hd,h1⟩,⟨hnT,hTe⟩,hT1,hdT,h3'⟩:=held.tr;have mi:a≠C:=ATt pL;have sW:T1≠C:=fun z=>by
  rw[z,BC]at hnT;cases hnT
 have sX:FlD (W.hideAll B [C]) (envOfC qual scope s.heap.objs.size f cd::outer) a Cv dx (rawInt ↑s.heap.objs.size) h4:=⟨gy,fO _ fl.nw,sV,oe,vs,T1,oT,ts,⟨iB a oe mi he,hcl,hdx,hd,h1⟩,⟨fO _ hnT,hTe⟩,iB T1 oT sW hT1,hdT,h3'⟩;refine AAm (s:={ s2 with heap:=h4 }) sX fun h5 ic f5 gv=>?_;show wpAny (model P w) (A.deeper (envOfC qual scope s.heap.objs.size f cd)) (leaving (envOfC qual scope s.heap.objs.size f cd) (.ref a)) _ _ _;refine Zj (s:={ s2 with heap:=h5 }) I.ok.frames rfl f5 fun h6 ig jm=>?_;have ks:∀b o,s2.heap.get? b=some o->b∈frs (envOfC qual scope s.heap.objs.size f cd::outer)->∃sl,h6.get? b=some { o with slots:=sl }:=fun b o q hb=>by
  obtain⟨_,o',q',hd'⟩:=I2.stack.mem hb;rw[q]at q';cases q';obtain⟨sG,e3⟩:=dQ b o q hd';have e4:=iB b _ (fun z=>kO (z ▸ hb)) e3;obtain⟨pH,e5⟩:=gv b _ e4 hd';obtain⟨sY,e6⟩:=jm b _ e5 hd';exact⟨sY,e6⟩
 have kk:∀b o,s2.heap.get? b=some o->b∉frs (envOfC qual scope s.heap.objs.size f cd::outer)->¬(b=a\/b=T\/b=C)->h6.get? b=some o:=fun b o q nb nz=>ig.st b o (AR4 [C] (cov b o q nb (fun z=>nz (.inl z)) fun z=>nz (.inr (.inl z))) (fun z=>nz (.inr (.inr (by simpa using z)))));obtain⟨sZ,mj⟩:=JH I2 (fun b=>b=a\/b=T\/b=C) (fun b z=>by
  rcases z with rfl|rfl|rfl
  .exact⟨old _ dX,ha⟩
  .exact⟨old _ fk,hT⟩
  .exact⟨sC,pM⟩) kk ks
 refine⟨a,Cv,dx,H2,rfl,I2.os,bare,sZ,mj,T6.of ig ha (old a dX) fun T2 x4 tf hB hT2 hd2 hne=>⟨?_,?_⟩,hE⟩
 .cases q:H2 T2 with
  | none=>rfl
  | some u =>
   obtain⟨ob,qo⟩:=got (I2.hok T2 u q);have nb:T2∉frs (envOfC qual scope s.heap.objs.size f cd::outer):=fun z=>by
    have:=I2.stkFree T2 z;rw[q]at this;cases this
   have nT:T2≠T:=fun z=>by
    rw[z,hT]at q;cases q
   have nC:T2≠C:=fun z=>by
    rw[z,pM]at q;cases q
   rw[AR4 [C] (cov T2 ob qo nb hne nT) (by simpa using nC)]at hB;cases hB
 .cases q:s.heap.get? T2 with
  | none=>rfl
  | some o =>
   obtain⟨o',q1⟩:=I2.base.there T2 o q (dH T2);have nT:T2≠T:=fun z=>by
    rw[z,old T fk]at q;cases q
   have nC:T2≠C:=fun z=>by
    rw[z,sC]at q;cases q
   by_cases hb:T2∈frs (envOfC qual scope s.heap.objs.size f cd::outer)
   .rcases ARI.mp (show T2∈s.heap.objs.size::frs outer from hb) with z|z
    .walk_at "N"
    .obtain⟨_,o2,q2,hd3⟩:=ig.fr.mem z;rw[hT2]at q2;cases q2;exact absurd hd2 (hd3 tf)
   .rw[AR4 [C] (cov T2 o' q1 hb hne nT) (by simpa using nC)]at hB;cases hB
theorem Qu{elt iter target:Expr}{ifs:List Expr}{pos:Pos}{aM:Scope}{wi:TI}{tg:TG}{tt:Shared->Hp->Addr->List Addr->TT}{te:Shared->Hp->Addr->List Addr->TE}(xs:List Str)(js:List Nat){N':List Str}{fsc:Scope}{N1:List Str}(ok:Kr fsc aM xs js N1 N')(hi:PI (BL (CXd P w) P w K mg base N qual scope f cd A outer s H E) target iter wi)
  (hg:∀zb zc C ex,PG (blk (BL (CXd P w) P w K mg base N qual scope f cd A outer s H E) aM N' zb zc C ex) target tg) (ht:∀zb zc C ex,PTs (blk (BL (CXd P w) P w K mg base N qual scope f cd A outer s H E) aM N' zb zc C ex) ifs (tt zb zc C ex))
  (he:∀zb zc C ex YY,Dc (CXd P w) (Mp (BL (CXd P w) P w K mg base N qual scope f cd A outer s H E) aM N' zb zc C ex YY) E->PE (Mp (BL (CXd P w) P w K mg base N qual scope f cd A outer s H E) aM N' zb zc C ex YY) elt (te zb zc C ex))
  (hc:(BL (CXd P w) P w K mg base N qual scope f cd A outer s H E).calm=true:=by rfl) (hsc:(BL (CXd P w) P w K mg base N qual scope f cd A outer s H E).env.scope=fsc:=by rfl) (dY:(BL (CXd P w) P w K mg base N qual scope f cd A outer s H E).N=N1:=by rfl) (hs:∀x,foldedSetIterable iter (BL (CXd P w) P w K mg base N qual scope f cd A outer s H E).env x=pure x:=by intro _;rfl) :
  PE (BL (CXd P w) P w K mg base N qual scope f cd A outer s H E) (.ListComp elt [⟨target,iter,ifs,0⟩] aM pos) (Tj wi tg tt te xs.length js):=by
 intro aA s1 Y H1 Q I h;rw[eval_ListComp];exact KH (CX:=CXd P w) (E:=E) xs js ok hi hg ht he hc hsc dY hs none _ (fun C acc e aA Y H1 s1 s2 I hC ns hx=>KC I hC ns hx) I h fun D C s6 H5 m6 _ I6 f6 n6 q=>⟨m6,n6,fun h7 sb=>⟨.ref D,H5,K6 I6 f6 sb,rfl,q⟩⟩
end
theorem Jd{X:Cx}{x:Str}{k j:Nat}{ps:List Str}{ds:List Value}{bX:List V}{sp:Sp}{E:XK}{e:Expr}{es:List Expr}{t:TA}{p pos:Pos}(C:DR X.prog X.w X.K X.mg X.base x k ps ds bX sp)(hr:CJ j X.A)(hp:Dc (CXd X.prog X.w) X E)(ha:PA X (e::es) t)(hkj:k<=j:=by decide)(hg:Gl X x:=by rfl)
  (hdb:(x==("__debug__":Str))=false:=by decide) (he:starEach (e::es) X.env=(false,eval e X.env)::starEach es X.env:=by rfl) (hpl:(backTo pos (starEach es X.env)).any (·.1)=false:=by rfl) :
  PE X (.Call (.Name x p) (e::es) [] pos) (Vh sp bX E t):=by
 walk_at "as";exact Nq F (hr.mono hkj) hg m kp b C.dv hp ha hdb he hpl
theorem Ku:PSs X ss (fun _ _ _=>False):=fun _ _ _ _ _ _ h=>h.elim
section
variable {P:Program}{w:World}{K:W.Frag}{mg:Str->Option Value}{base:Heap}{N:List Str}{qual:Str}{scope:Scope}{f:Addr}{cd:Value}{A:Around}{outer:List Env}{s:Shared}{H:Hp}{E:XK}
theorem Q6{elt iter:Expr}{x:Str}{px pos:Pos}{aM:Scope}{wi:TI}{te:Shared->Hp->Addr->List Addr->TE}(js:List Nat){N':List Str}{fsc:Scope}{N1:List Str}(ok:Py fsc aM x js N1 N')(hi:PI (BL (CXd P w) P w K mg base N qual scope f cd A outer s H E) (.Name x px) iter wi)
  (he:∀zb zc C ex YY,Dc (CXd P w) (Mp (BL (CXd P w) P w K mg base N qual scope f cd A outer s H E) aM N' zb zc C ex YY) E->PE (Mp (BL (CXd P w) P w K mg base N qual scope f cd A outer s H E) aM N' zb zc C ex YY) elt (te zb zc C ex)) (hc:(BL (CXd P w) P w K mg base N qual scope f cd A outer s H E).calm=true:=by rfl) (hsc:(BL (CXd P w) P w K mg base N qual scope f cd A outer s H E).env.scope=fsc:=by rfl) (dY:(BL (CXd P w) P w K mg base N qual scope f cd A outer s H E).N=N1:=by rfl) (hs:∀x,foldedSetIterable iter (BL (CXd P w) P w K mg base N qual scope f cd A outer s H E).env x=pure x:=by intro _;rfl) :
  PE (BL (CXd P w) P w K mg base N qual scope f cd A outer s H E) (.ListComp elt [⟨.Name x px,iter,[],0⟩] aM pos) (V5 wi te js):=by
 intro aA s1 Y H1 Q I h;rw[eval_ListComp];exact Lr (E:=E) js ok hi he hc hsc dY hs none _ (fun C acc e aA Y H1 s1 s2 I hC ns hx=>KC I hC ns hx) I h fun D C s6 H5 m6 _ I6 f6 n6 q=>⟨m6,n6,fun h7 sb=>⟨.ref D,H5,K6 I6 f6 sb,rfl,q⟩⟩
theorem LC{elt iter:Expr}{x y:Str}{px py pos spos:Pos}{i:Nat}{aM:Scope}{wi:TI}{te:Shared->Hp->Addr->List Addr->TE}(hN:(BL (CXd P w) P w K mg base N qual scope f cd A outer s H E).N.Nodup)(hi':(BL (CXd P w) P w K mg base N qual scope f cd A outer s H E).N[i]?=some y)(hy:Loc (BL (CXd P w) P w K mg base N qual scope f cd A outer s H E).env.scope y)
  (js:List Nat) {N':List Str} {fsc:Scope} {N1:List Str} (ok:Py fsc aM x js N1 N') (hi:PI (BL (CXd P w) P w K mg base N qual scope f cd A outer s H E) (.Name x px) iter wi)
  (he:∀zb zc C ex YY,Dc (CXd P w) (Mp (BL (CXd P w) P w K mg base N qual scope f cd A outer s H E) aM N' zb zc C ex YY) E->PE (Mp (BL (CXd P w) P w K mg base N qual scope f cd A outer s H E) aM N' zb zc C ex YY) elt (te zb zc C ex)) (hsw:swapsWith (.ListComp elt [⟨.Name x px,iter,[],0⟩] aM pos) (some (.Name y py)) spos.line (BL (CXd P w) P w K mg base N qual scope f cd A outer s H E).env=pure true:=by rfl)
  (hc:(BL (CXd P w) P w K mg base N qual scope f cd A outer s H E).calm=true:=by rfl) (hsc:(BL (CXd P w) P w K mg base N qual scope f cd A outer s H E).env.scope=fsc:=by rfl) (dY:(BL (CXd P w) P w K mg base N qual scope f cd A outer s H E).N=N1:=by rfl) (hs:∀x,foldedSetIterable iter (BL (CXd P w) P w K mg base N qual scope f cd A outer s H E).env x=pure x:=by intro _;rfl)
  (hf:(BL (CXd P w) P w K mg base N qual scope f cd A outer s H E).fn y=true\/(BL (CXd P w) P w K mg base N qual scope f cd A outer s H E).env.scope.names.lookup y=some .local:=by first | exact .inl rfl | exact .inr rfl | assumption) :
  PS (BL (CXd P w) P w K mg base N qual scope f cd A outer s H E) (.Assign [.Name y py] (.ListComp elt [⟨.Name x px,iter,[],0⟩] aM pos) spos) (Qe (V5 wi te js) (DP i)):=by
 intro aA s9 zn H9 D I h;rw[exec_Assign_Name_used _ _ _ _ hsw];refine AQ8 (ASb (AQ8 ?_));show wpAny _ (BL (CXd P w) P w K mg base N qual scope f cd A outer s H E).A (do let _ <-comprehension (.ListComp elt [⟨.Name x px,iter,[],0⟩] aM pos) aM (BL (CXd P w) P w K mg base N qual scope f cd A outer s H E).env _ (newList []) false (eval iter (BL (CXd P w) P w K mg base N qual scope f cd A outer s H E).env) (some (assign (.Name y py) (BL (CXd P w) P w K mg base N qual scope f cd A outer s H E).env))) _ _ s9;refine AQ8 (ARe (Lr (E:=E) js ok hi he hc hsc dY hs (some (assign (.Name y py) (BL (CXd P w) P w K mg base N qual scope f cd A outer s H E).env)) (fun _ s'=>SP (BL (CXd P w) P w K mg base N qual scope f cd A outer s H E) aA D .next s') (fun C acc e aA Y H1 s1 s2 I hC ns hx=>KC I hC ns hx) I h ?_) (fun _ s' hq=>ARL (ARL hq)) fun _ _ e=>e);intro D' C s6 H5 m6 r I6 f6 n6 q;show wpAny _ (BL (CXd P w) P w K mg base N qual scope f cd A outer s H E).A (assign (.Name y py) (BL (CXd P w) P w K mg base N qual scope f cd A outer s H E).env (.ref D')) _ _ _;obtain⟨o6,es,ep,ho,hd,hrest⟩:=id n6;have Ip:=I6.pinned (fp:=[C]) (fun b hb=>by
  walk_at "aC"
  subst e;exact f6) (fun b hb=>by
  walk_at "aC"
  subst e;exact⟨o6,ho,fun v z=>by rw[hd]at z;cases z⟩)
 walk_at "w"
end
structure Qv(P:Program)(w:World)(K:W.Frag)(mg:Str->Option Value)(base:Heap)(C:Addr)(m:Str)(k:Nat)(ps:List Str)(sp:Sp):Prop where
 ex:∃f fd,BR P w K mg base (CXd P w) k f fd ps sp/\DK K fd ps []/\ABJ K C m f/\Cls K C
theorem ADw{X:Cx}{C:Addr}{m:Str}{k j:Nat}{ps:List Str}{sp:Sp}{E:XK}{o e:Expr}{es:List Expr}{ta:TE}{t:TA}{aF pos:Pos}{pl:Sem Bool}(Cm:Qv X.prog X.w X.K X.mg X.base C m k ps sp)(hr:CJ j X.A)(hp:Dc (CXd X.prog X.w) X E)(he:PE X o ta)(ha:PA X (e::es) t)(hkj:k<=j:=by decide)
  (hst:starEach (e::es) X.env=(false,eval e X.env)::starEach es X.env:=by rfl) (hpl:(backTo pos (starEach es X.env)).any (·.1)=false:=by rfl)
  (ht:eval (.Call (.Attribute o m aF) (e::es) [] pos) X.env=(do
   let ov <-eval o X.env
   standAt aF.atName
   let (f,first) <-holding [ov] (getMethod ov m pl)
   callWith pos f first (backTo pos (starEach (e::es) X.env)) (backToKw pos (keywordEach [] X.env))):=by rfl) :
  PE X (.Call (.Attribute o m aF) (e::es) [] pos) (YB C m sp [] E ta t):=by
 obtain⟨f,fd,F,b,hm,cl⟩:=Cm.ex;exact ADQ he cl hm F (hr.mono hkj) b .nil hp ha hst hpl ht
def ACQ(C:Addr)(m:Str)(sp:Sp)(i:Nat)(ta:TE)(t:TA):(Value->Option Addr->L2.St->Hp->Prop)->TS:=fun R D Y H=>ta Y H fun x H1=>∃a dx fs,x=.ref a/\H1 a=some (.ins C dx fs)/\fs.lookup m=none /\
 t Y H1 fun vs H2=>sp (x::vs) H2 (fun v H3=>D.nx (Y.set i (some v)) H3) fun C dx H3=>R C dx Y H3
theorem Zf{X:Cx}{C:Addr}{m y:Str}{i k j:Nat}{ps:List Str}{sp:Sp}{o e:Expr}{es:List Expr}{ta:TE}{t:TA}{aF yp pos pos':Pos}{pl:Sem Bool}(Cm:Qv X.prog X.w X.K X.mg X.base C m k ps sp)(hr:CJ j X.A)(hN:X.N.Nodup)(hi:X.N[i]?=some y)(hy:Loc X.env.scope y)(ho:PE X o ta)(ha:PA X (e::es) t)(pO:X.xe=(fun _ _=>False):=by rfl)(hkj:k<=j:=by decide)
  (hst:starEach (e::es) X.env=(false,eval e X.env)::starEach es X.env:=by rfl) (hpl:(backTo pos (starEach es X.env)).any (·.1)=false:=by rfl)
  (ht:eval (.Call (.Attribute o m aF) (e::es) [] pos) X.env=(do
   let ov <-eval o X.env
   standAt aF.atName
   let (f,first) <-holding [ov] (getMethod ov m pl)
   callWith pos f first (backTo pos (starEach (e::es) X.env)) (backToKw pos (keywordEach [] X.env))):=by rfl)
  (hs:swapsWith (.Call (.Attribute o m aF) (e::es) [] pos) (some (.Name y yp)) pos'.line X.env=pure false:=by rfl) (hf:X.fn y=true\/X.env.scope.names.lookup y=some .local:=by first | exact .inl rfl | exact .inr rfl | assumption) :
  AK7 X (.Assign [.Name y yp] (.Call (.Attribute o m aF) (e::es) [] pos) pos') (ACQ C m sp i ta t):=by
 obtain⟨f,fd,F,b,hm,cl⟩:=Cm.ex;intro aA s Y H D R I h;have ho':=ho aA s Y H _ I h;rw[pO]at ho';refine wpAny_Assign_Name (ATq (pl:=pl) (ARe ho' (fun u s1 h1=>?_) fun _ _ z=>False.elim z) ht) hs;obtain⟨x,H1,I1,rx,a,dx,fs,ex,ea,l,q⟩:=h1;walk_at "q";refine Ju I1 ea cl hm l ?_;have ha':=ha pos aA s1 Y H1 _ I1 q;rw[pO]at ha';refine ASf (first:=[.ref a]) (h₀:=X.base) I.ok.mod.kin hm.kp (ARe ha' (fun us s2 h2=>?_) fun _ _ z=>False.elim z) hst hpl;obtain⟨vs,H2,I2,r,q2⟩:=h2;refine⟨I2.kIn,?_⟩;have r2:Ba (.ref a::vs) (.ref a::us):=.cons rfl r;have hl:(Value.ref a::us).length=ps.length:=by rw[<-r2.length];exact F.len _ _ _ _ q2
 refine AT9 (codeAny_mono (F.run X.A X.stack s2 H2 ⟨.ref a::us,[]⟩ (.ref a::us) (.ref a::vs) _ _ (hr.mono hkj) I2.env0 (by simpa using b s2 (.ref a::us) I2.kIn (by simpa using hl)) r2 q2) fun res s3 hq=>?_);cases res with
 | error ev =>
  obtain⟨ae,Cv,dx,H3,rfl,os,bare,un,hok,gn,hE⟩:=hq;exact⟨ae,Cv,dx,Y,H3,H2,s2,rfl,I2,I2.call' (ch:=[]) os un hok bare (fun b z=>absurd z (by simp)),gn,hE⟩
 | ok fl =>
  cases fl with
  | ret u =>
   obtain⟨v,H3,I3,rv,qv⟩:=I2.after hq;exact GP I3 hN hi hy rv (fun s4 I4=>⟨_,H3,I4,qv⟩) hf
  | next=>exact False.elim hq
  | brk=>exact False.elim hq
  | cont=>exact False.elim hq
theorem Tt:HB X (.type "str") (fun xs H Q=>xs=[.non]/\Q (.str "None") H):=by
 walk_at "V";obtain⟨rfl,q⟩:=h;obtain⟨u,rfl,rx⟩:=GQ r;cases rx;exact PySem.P.str_of_none ⟨.str _,H,I.tok _,⟨_,rfl⟩,q⟩
def AQT(tc:TT)(t u:(Value->Option Addr->L2.St->Hp->Prop)->TS):(Value->Option Addr->L2.St->Hp->Prop)->TS:=fun R D Y H=>tc Y H fun b H1=>if b=true then t R D Y H1 else u R D Y H1
def isInt:PyData->Bool
 | .int _=>true
 | _=>false
def AQX:PyData->Bool
 | .tuple _=>true
 | _=>false
def AQE:PyData->Bool
 | .list _=>true
 | _=>false
def frd:PyData->Bool
 | .tuple [.int a,.int b]=>decide (1<=b)&&decide (g a b=1)
 | _=>false
def abo:PyData->Bool
 | .tuple [.int a,.int b]=>decide (1<=b)&&decide (g a b=1)&&decide (0<a)
 | _=>false
def AKr:PyData->Bool
 | .list ds=>ds.all abo
 | _=>false
def APY:PyData->PyData->Bool
 | .list a,.list b=>decide (a.length=b.length+1)&&decide (b.length<=12)
 | _,_=>false
def APu(a b:PyData):Bool:=AKr a&&AKr b&&APY a b
structure Ke(K:W.Frag)(H:Hp)(v:V)(i b t l:Bool):Prop where
 ex:∃ty,Em K H v ty/\W.kitOne K ty (.type "int")=some i/\W.kitOne K ty (.type "bool")=some b/\W.kitOne K ty (.type "tuple")=some t/\W.kitOne K ty (.type "list")=some l
mutual
def Wc:PyData->Bool
 | .list _=>false
 | .dict _=>false
 | .tuple ds=>flatAll ds
 | .none=>true
 | .bool _=>true
 | .int _=>true
 | .str _=>true
def flatAll:List PyData->Bool
 | []=>true
 | d::ds=>Wc d&&flatAll ds
end
mutual
theorem Dv.upl{H:Hp}{D:Addr}{xs ys:List V}(hD:H D=some (.lst xs)):∀{v:V} {d:PyData},Dv H v d->Wc d=true->Dv (upd H D (.lst ys)) v d
 | _,_,.non,_=>.non
 | _,_,.bl b,_=>.bl b
 | _,_,.int i,_=>.int i
 | _,_,.str x ok,_=>.str x ok
 | _,_,.lst _ _,e=>by rw[Wc]at e;cases e
 | _,_,.tup h r,e=>by
  rw[Wc]at e;exact .tup (by rw[An (Gk h hD (by intro z;cases z))];exact h) (DvAll.upl hD r e)
theorem DvAll.upl{H:Hp}{D:Addr}{xs ys:List V}(hD:H D=some (.lst xs)):∀{vs:List V} {ds:List PyData},DvAll H vs ds->flatAll ds=true->DvAll (upd H D (.lst ys)) vs ds
 | _,_,.nil,_=>.nil
 | _,_,.cons h r,e=>by
  rw[flatAll,ASK]at e;exact .cons (Dv.upl hD h e.1) (DvAll.upl hD r e.2)
end
def APn:PyData->Bool
 | .list ds=>flatAll ds
 | d=>Wc d
def AQM:PyData->Bool
 | .list ds=>ds.all APn
 | d=>Wc d
def Off(D:Addr)(H:Hp)(v:V)(d:PyData):Prop:=(Wc d=true/\Dv H v d)\/∃l zs ds,v=.ref l/\l≠D/\H l=some (.lst zs)/\DvAll H zs ds/\flatAll ds=true/\d=.list ds
abbrev AQu(D:Addr)(H:Hp):List V->List PyData->Prop:=Paired (Off D H)
section
variable {prog:Program}{w:World}{A:Around}{E:Value->Shared->Prop}{s:Shared}
end
def AOZ(K:W.Frag)(ta:TA):TE:=fun Y H Q=>ta Y H fun vs H1=>∃a xs,vs=[.ref a]/\SqL K H1 a xs/\∀p,H1 p=none->Q (.ref p) (upd H1 p (.lst xs.reverse))
section
variable {prog:Program}{w:World}{A:Around}{E:Value->Shared->Prop}
end
def AQC(K:W.Frag)(n:Nat)(t:TGs):TG:=fun v Y H Q=>∃a xs,v=.ref a/\SqL K H a xs/\xs.length=n/\t xs Y H Q
section
variable {X:Cx}{c:Expr}{a b:List Stmt}{t u:TS}{tc:TT}{pos:Pos}
end
theorem AEs{X:Cx}{p pos:Pos}(Cc:ADU X.prog X.w X.K X.mg X.base x C k ps sp)(hr:CJ j X.A)(hkj:k+1<=j:=by decide)(hg:Gl X x:=by rfl)
  (hdb:(x==("__debug__":Str))=false:=by decide):PE X (.Call (.Name x p) [] [] pos) (YF C sp [] E0 NB):=by
 obtain⟨f,fd,F,b,M,hm⟩:=Cc.ex;exact ABw M F (hr.mono hkj) hg hm b .nil YL hdb
section
variable {prog:Program}{w:World}{A:Around}{E:Value->Shared->Prop}{s:Shared}
theorem Zv{e it l:Addr}{c:Int}{i:Nat}{items:Array Value}{x old:Value}{Q:Value->Shared->Prop}(eE:IsEnum s.heap e it c old)(eI:s.heap.IsListIter it l i)(eL:s.heap.IsList l items)(ex:items[i]?=some x)(ne:e≠it)
  (q:∀h',IsEnumOut h' e it (c+1) x s.heap.objs.size->h'.IsListIter it l (i+1)->h'.get? s.heap.objs.size=some { cls:=.type "tuple",data:=.seq #[.int c s.toks,x] } ->
   (∀b o,b≠e->b≠it->s.heap.get? b=some o->h'.get? b=some o)->Q (.ref s.heap.objs.size) { s with heap:=h',toks:=s.toks+1 }) :
  wpAny (model prog w) A (Builtin.«enumerate.__next__» ⟨[.ref e],[]⟩) (fun fin s'=>∃v,fin=.done (.ret v)/\Q v s') E s:=by
 obtain⟨hp,gg,dd,tk,oo⟩:=s;show wpAny (model prog w) A (field (.ref e) 2 >>= _) _ E _;refine AQ8 (ARZ eE rfl (x:=.ref it) rfl (AQ8 (wpAny_nextOf_list_item eI eL ex fun k1 tj ju=>?_)));replace ju:Heap.SameBut it hp k1:=ju;have mm:IsEnum k1 e it c old:=(ju.2 e ne).trans eE;show wpAny (model prog w) A (field (.ref e) 3 >>= _) _ E ⟨k1,gg,dd,tk,oo⟩;refine AQ8 (ARZ mm rfl (x:=rawInt c) rfl ?_);show wpAny (model prog w) A (field (.ref e) 4 >>= _) _ E ⟨k1,gg,dd,tk,oo⟩;refine AQ8 (ARZ mm rfl (x:=.none) rfl ?_);show wpAny (model prog w) A (mkInt c >>= _) _ E ⟨k1,gg,dd,tk,oo⟩;refine AQ8 (wpAny_mkInt ?_);show wpAny (model prog w) A (setField (.ref e) 3 (rawInt (c+1)) >>= _) _ E ⟨k1,gg,dd,tk+1,oo⟩;refine AQ8 (AR3 mm (by simp) fun k2 mw c6=>?_);replace c6:Heap.SameBut e k1 k2:=c6;replace mw:IsEnum k2 e it (c+1) old:=mw;show wpAny (model prog w) A (setField (.ref e) 4 .none >>= _) _ E ⟨k2,gg,dd,tk+1,oo⟩;refine AQ8 (AR3 mw (by simp) fun k3 mz jv=>?_);replace jv:Heap.SameBut e k2 k3:=jv;replace mz:IsEnum k3 e it (c+1) old:=mz;show wpAny (model prog w) A (newTuple [.int c tk,x] >>= _) _ E ⟨k3,gg,dd,tk+1,oo⟩;refine AQ8 (wpAny_newTuple ?_);have sz:k3.objs.size=hp.objs.size:=by rw[jv.1,c6.1,ju.1]
 have lt:e<hp.objs.size:=ARF eE;have ne2:hp.objs.size≠e:=AUR lt;obtain⟨k4,e4⟩:∃k4,k4=k3.push { cls:=.type "tuple",data:=.seq #[.int c tk,x] }:=⟨_,rfl⟩;have mB:IsEnum k4 e it (c+1) old:=by rw[e4];exact ARA _ mz
 have tu:k4.get? hp.objs.size=some { cls:=.type "tuple",data:=.seq #[.int c tk,x] }:=by rw[e4,<-sz];exact ARN _ rfl
 have tw:∀b o,b≠e->b≠it->hp.get? b=some o->k4.get? b=some o:=fun b o z1 z2 h=>by
  rw[e4];exact ARA _ (jv.extBut b o z1 (c6.extBut b o z1 (ju.extBut b o z2 h)))
 have tz:k4.IsListIter it l (i+1):=by
  obtain⟨o,ho,r⟩:=(tj.extBut c6.extBut ne.symm).extBut jv.extBut ne.symm;exact⟨o,by rw[e4];exact ARA _ ho,r⟩
 show wpAny (model prog w) A (Builtin.SmallTypes.ownedTupleIsFree (.ref e) >>= _) _ E ⟨k3.push { cls:=.type "tuple",data:=.seq #[.int c tk,x] },gg,dd,tk+1,oo⟩;rw[sz,<-e4];refine AQ8 ?_;unfold Builtin.SmallTypes.ownedTupleIsFree;refine AQ8 (ARZ mB rfl (x:=.none) rfl (ARL ?_));rw[if_pos rfl];refine AQ8 (AVY (AQ8 (ARZ mB rfl (x:=old) rfl (AQ8 (AR3 mB (by simp) fun k5 mD mE=>?_)))));replace mE:Heap.SameBut e k4 k5:=mE;replace mD:IsEnum k5 e it (c+1) x:=mD;show wpAny (model prog w) A (Builtin.SmallTypes.ownedTupleHandOut (.ref e) (.ref hp.objs.size) >>= _) _ E ⟨k5,gg,dd,tk+1,oo⟩;refine AQ8 ?_;unfold Builtin.SmallTypes.ownedTupleHandOut;refine AQ8 (AR3 mD (by simp) fun k6 mF mG=>?_);replace mG:Heap.SameBut e k5 k6:=mG;replace mF:IsEnumOut k6 e it (c+1) x hp.objs.size:=mF;refine AR3 mF (by simp) fun k7 tD mH=>?_;replace mH:Heap.SameBut e k6 k7:=mH;have up:∀b o,b≠e->k4.get? b=some o->k7.get? b=some o:=fun b o z h=>mH.extBut b o z (mG.extBut b o z (mE.extBut b o z h));exact AQ8 (AVC (ARL ⟨_,rfl,q k7 tD (tz.at fun o h=>up it o ne.symm h) (up _ _ ne2 tu) fun b o z1 z2 h=>up b o z1 (tw b o z1 z2 h)⟩))
theorem Y5{e it l:Addr}{c:Int}{i:Nat}{items:Array Value}{x old:Value}{Q:Option Value->Shared->Prop}(eE:IsEnum s.heap e it c old)(eI:s.heap.IsListIter it l i)(eL:s.heap.IsList l items)(ex:items[i]?=some x)(ne:e≠it)
  (q:∀h',IsEnumOut h' e it (c+1) x s.heap.objs.size->h'.IsListIter it l (i+1)->h'.get? s.heap.objs.size=some { cls:=.type "tuple",data:=.seq #[.int c s.toks,x] } ->
   (∀b o,b≠e->b≠it->s.heap.get? b=some o->h'.get? b=some o)->Q (some (.ref s.heap.objs.size)) { s with heap:=h',toks:=s.toks+1 }):wpAny (model prog w) A (pyNext (.ref e)) Q E s:=by
 walk_at "ah";exact AQ8 (AUl (ASQ (name:=Str.ofString "__next__") ty sl (AS5 sl ty F.entry_enumerate_next (Zv eE eI eL ex ne fun h' a b c k=>ARL (q h' a b c k)) (AUm _))))
theorem QS(hh:A.handled=none)(eE:IsEnum s.heap e it c old)(eI:s.heap.IsListIter it l i)(eL:s.heap.IsList l items)(ex:items[i]?=none)
  (q:∀h',Heap.ExtBut it s.heap h'->Q none { s with heap:=h' }):wpAny (model prog w) A (pyNext (.ref e)) Q E s:=by
 walk_at "ah";refine AQ8 (AUl (ASQ (name:=Str.ofString "__next__") ty sl (AS5 sl ty F.entry_enumerate_next ?_ (AUm _))));show wpAny (model prog w) _ (field (.ref e) 2 >>= _) _ _ _;refine AQ8 (ARZ eE rfl (x:=.ref it) rfl (AQ8 (wpAny_nextOf_list_end hh eI eL ex fun h' x eb hx=>?_)));obtain⟨o,ho,hc⟩:=hx;exact AQ8 (wpAny_isInstance (T:="StopIteration") (b:=true) ⟨o,ho,hc⟩ isSubtype_stop (ARL (q _ eb)))
end
theorem ACL{Y:L2.St}(I:Inv X aA Y H s)(k:∀b u,b≠e->b≠it->s.heap.get? b=some u->h'.get? b=some u)(ho:s.heap.get? it=some o)(ho':h'.get? it=some o')
  (hd:o'.data=.fields vs) (fe:FP X aA H e) (fi:FP X aA H it):Inv X aA Y H { s with heap:=h',toks:=t' }:=by
 have I1:Inv X aA Y H { s with heap:=s.heap.update it fun _=>o',toks:=s.toks }:=I.turned (it:=it) (fun b u hb eb=>(ARr s.heap _ (ATt hb)).trans eb) fi.1 fi.2.1 fi.2.2.2.1 fi.2.2.2.2.1 fi.2.2.2.2.2;have I2:=I1.turned (h':=h') (t':=t') (it:=e) (fun b u hb eb=>?_) fe.1 fe.2.1 fe.2.2.2.1 fe.2.2.2.2.1 fe.2.2.2.2.2
 .exact I2
 .by_cases z:b=it
  .subst z;rw[AR8 (fun _=>o') ho (ATG hd)]at eb;exact ho'.trans eb
  .exact k b u hb z ((ARr s.heap _ (ATt z)).symm.trans eb)
def Ite(K:W.Frag)(a:Addr)(c:Int):It :=
 ⟨fun i H=>∃xs x,SqL K H a xs/\xs[i]?=some x,fun i H v H'=>∃T x,v=.ref T/\H T=none/\H'=upd H T (.tup [.int (c+i),x])/\∀xs,SqL K H a xs->xs[i]?=some x,fun i H=>∃xs,SqL K H a xs/\xs.length<=i⟩
theorem ZC{K:W.Frag}(a e it:Addr)(c:Int)(ne:e≠it):Turn P w K (.Tuple es k tp) (Ite K a c) [e,it] e (fun i h=>(∃old,IsEnum h e it (c+(i:Nat)) old)/\h.IsListIter it a i) where
 mem:=by simp
 obj:=fun i h st b hb=>by
  obtain⟨⟨old,se⟩,o,so,oc,od⟩:=st;rcases ARI.mp hb with rfl|hb
  .exact⟨_,se,fun v z=>by
    walk_at "ax";cases z'⟩
  .obtain rfl:b=it:=by simpa using hb
   exact⟨o,so,fun v z=>by rw[od]at z;cases z⟩
 keep:=fun i h h' st kk=>⟨let ⟨old,se⟩:=st.1;⟨old,kk e (by simp) _ se⟩,st.2.at fun o eo=>kk it (by simp) o eo⟩
 item:=by
  intro X hP hw hK hc i aA s Y H E I hf st hg;subst hP hw hK;obtain⟨⟨old,se⟩,si⟩:=st;obtain⟨xs,x,hq,hx⟩:=hg;obtain⟨its,rv,p,hz⟩:=I.list hq;obtain⟨u,hu,ru⟩:=rv.get hx;have fe:=hf e (by simp);have fi:=hf it (by simp);have pP:e<s.heap.objs.size:=ARF se;obtain⟨oi,hoi,hoc,hod⟩:=id si;have pQ:it<s.heap.objs.size:=ARF hoi;refine Y5 se si p.isList (x:=u) (by simpa using hu) ne fun h1 tF tG ht1 hk1=>⟨_,rfl,wpAny_letOwnedTupleGo_enum tF fun h2 tH c6=>?_⟩;replace c6:Heap.SameBut e h1 h2:=c6;have fresh:H s.heap.objs.size=none:=I.hok.fresh (ARH _);have I1:Inv X aA Y (upd H s.heap.objs.size (.tup [.int (c+(i:Nat)),x])) { s with heap:=s.heap.push { cls:=.type "tuple",data:=.seq ([.int (c+(i:Nat)) s.toks,u]:List Value).toArray },toks:=s.toks } :=
   I.laid (fun b o eb=>ARA _ eb) (ARH _) (show Bp X.prog X.w _ _ _ (.tup _) from⟨(by show 2<=sizeLine;decide),_,.cons ⟨_,rfl⟩ (.cons ru .nil),IsTup.new _ _⟩)
  have pR:h2.IsListIter it a (i+1):=tG.at fun o eo=>(c6.2 it ne.symm).trans eo;obtain⟨o2,ho2,_,hd2⟩:=id pR;have fo:∀b,b<s.heap.objs.size->FP X aA H b->FP X aA (upd H s.heap.objs.size (.tup [.int (c+(i:Nat)),x])) b:=fun b lb fb=>⟨by rw[An (ARt lb)];exact fb.1,fb.2⟩;have I2:=ACL (h':=h2) (t':=s.toks+1) I1 (e:=e) (it:=it) (fun b o z1 z2 eb=>?_) (ARA _ hoi) ho2 hd2 (fo e pP fe) (fo it pQ fi)
  .refine⟨.ref s.heap.objs.size,_,I2,rfl,⟨_,x,rfl,fresh,rfl,fun ys hy=>by rw[I.list_inj hy hq];exact hx⟩,⟨⟨u,?_⟩,pR⟩,fun b hb=>?_⟩
   .have ei:c+((i+1:Nat):Int)=c+(i:Nat)+1:=by omega
    rw[ei];exact tH
   .rcases ARI.mp hb with rfl|hb
    .exact(fo _ pP fe).1
    .obtain rfl:b=it:=by simpa using hb
     exact(fo _ pQ fi).1
  .rcases ATz eb with⟨rfl,rfl⟩|eb
   .exact(c6.2 _ z1).trans ht1
   .exact(c6.2 _ z1).trans (hk1 b o z1 z2 eb)
 done:=by
  walk_at "d";obtain⟨⟨old,se⟩,si⟩:=st;obtain⟨xs,hq,hx⟩:=hg;obtain⟨its,rv,p,hz⟩:=I.list hq;walk_at "p";have aB:=rv.length;exact QS (I.ok.hd hc) se si p.isList (by simp;omega) fun h' eb=>⟨rfl,I.turned (t':=s.toks) (fun b o hb z=>eb b o hb z) f0 f1 f3 f4 f5⟩
 self:=fun _ _ _ _ _ st h=>let ⟨_,se⟩:=st.1;wpAny_pyIter_enum se h
def AKy(K:W.Frag)(ta:TA):TI:=fun Y H R=>ta Y H fun vs H1=>∃a,vs=[.ref a]/\(∃xs,SqL K H1 a xs)/\R (Ite K a 0) H1
theorem ADT(hg:Gl X "enumerate")(hm:X.mg "enumerate"=none)(ha:PA X [a] ta)(hs:starEach [a] X.env=[(false,eval a X.env)]:=by rfl):PI X (.Tuple es k tp) (.Call (.Name "enumerate" p) [a] [] pos) (AKy X.K ta):=by
 intro aA s Y H R I h;refine Call_ (Jx I hg hm boot_enumerate (ASN (thn (ha pos aA s Y H _ I h) fun us s1 ⟨vs,H1,I1,r1,q1⟩=>?_) hs rfl));obtain⟨l,rfl,⟨xs,hq⟩,q⟩:=q1;cases r1 with
 | cons r rr =>
  cases rr;cases r;obtain⟨its,rv,pl,hz⟩:=I1.list hq;refine call_enumerate_list pl.isList fun h' se si hsz hk=>wpAny_pyIter_enum se ?_;walk_at "Y";refine⟨s1.heap.objs.size+1,[s1.heap.objs.size+1,s1.heap.objs.size],_,_,H1,rfl,I2,ZC l _ _ 0 (Nat.succ_ne_self _),⟨⟨.none,by simpa using se⟩,si⟩,fun b hb=>?_,q⟩;rcases ARI.mp hb with rfl|hb
  .exact I1.fpOk (AUj _) (I1.hok.fresh (AUj _))
  .obtain rfl:b=s1.heap.objs.size:=by simpa using hb
   walk_at "C"
theorem ABW{K:PySem.W.Frag}{a:Addr}{c:Int}{xs:List V}{g:TG}{tb:TS}{D:Ends}{Y:L2.St}{H:Hp}(Pv:Nat->L2.St->Hp->Prop)(h0:Pv 0 Y H)(hl:∀i Y H,i<=xs.length->Pv i Y H->SqL K H a xs)
  (hs:∀i x Y H T,xs[i]?=some x->Pv i Y H->H T=none->g (.ref T) Y (upd H T (.tup [.int (c+i),x])) fun zm H2=>tb { D with nx:=Pv (i+1),ct:=Pv (i+1),bk:=D.nx } zm H2) (hd:∀Y H,Pv xs.length Y H->D.nx Y H) :
  ∃W:Nat->Nat->L2.St->Hp->Prop,(∃m,W 0 m Y H)/\∀i m Y H,W i m Y H ->
   ((Ite K a c).stop i H/\D.nx Y H)\/((Ite K a c).go i H/\∃N:L2.St->Hp->Prop,(∀zd H',N zd H'->∃m',m'<m/\W (i+1) m' zd H')/\∀x H',(Ite K a c).yld i H x H'->g x Y H' fun zm H2=>tb { D with nx:=N,ct:=N,bk:=D.nx } zm H2):=by
 walk_at "H";by_cases hlt:i<xs.length
 .refine .inr ⟨⟨xs,_,q,AQ9 hlt⟩,Pv (i+1),fun zd H' p'=>⟨xs.length-(i+1),by omega,rfl,hlt,p'⟩,?_⟩;rintro v H' ⟨T,x,rfl,hT,rfl,y⟩;exact hs i x Y H T (y xs q) p hT
 .obtain rfl:i=xs.length:=by omega
  exact .inl ⟨⟨xs,q,ARH _⟩,hd Y H p⟩
def Pz(n:Nat)(H:Hp)(p:Addr)(v:Rat):Prop:=∃Tp M:Int,H p=some (.tup [.int Tp,.int M])/\0<M/\Po.Rep n v Tp M
def Rz(n:Nat)(H:Hp)(a:Addr)(vs:List Rat):Prop:=∃ps:List Addr,H a=some (.lst (ps.map V.ref))/\Paired (Pz n H) ps vs
def Rc(H:Hp)(rc:Addr×List Addr)(row:List (List Rat)):Prop:=H rc.1=some (.lst (rc.2.map V.ref))/\Paired (Rw H) rc.2 row
def al(tI:List (Addr×List Addr)):List Addr:=(tI.map fun rc=>rc.1::rc.2).flatten
theorem ZK{K:W.Frag}(hn:qs.length<=100000)(ha:Rp H1 a qs)
  (hs:∀zb zc C ex r p q' H (R:VK),H r=some (.tup [.ref p,.ref q'])->R (.ref p) H->te zb zc C ex (some (.ref r)::js.map fun j=>(Y[j]?).join) H R)
  (hd:∀H D,Al H1 H->H1 D=none->Rw H D (qs.map Prod.fst)->Q (.ref D) H):Gv (Itl K a) te js Y Q H1:=by
 intro D hD;obtain⟨rs,hrs,kr⟩:=ha;have hlr:rs.length=qs.length:=AR1 kr;refine⟨fun i m ys H=>m=qs.length-i/\i<=qs.length/\(∃ps,ys=ps.map V.ref/\Pqs H ps ((qs.take i).map Prod.fst))/\Al H1 H/\H D=some (.lst ys),⟨qs.length,by simp,ARu _,⟨[],rfl,.nil⟩,Aj hD _,Ag⟩,?_⟩;rintro i m ys H ⟨rfl,hi,⟨ps,rfl,hp⟩,sm,bN⟩;refine⟨bN,?_⟩;walk_at "aP"
 .have eq:qs[i]?=some qs[i]:=AQ9 hlt;obtain⟨r0,h0,p0,q0,e0,k0,_⟩:=Hj (Tqs.keep kr sm) eq;have h0':(rs.map V.ref)[i]?=some (.ref r0):=by rw[ARQ,h0];rfl
  refine .inr ⟨⟨_,_,SqL.of hr,h0'⟩,fun x H' y zb zc C ex=>?_⟩;walk_at "m";rw[h0']at ex';cases ex';refine hs zb zc C ex r0 p0 q0 H' _ e0 ?_;have hl:=hp.length;rw[Io,ARc]at hl;walk_at "a"
  refine⟨bN,by rw[Io];omega,qs.length-(i+1),by omega,rfl,hlt,⟨ps++[p0],by simp,?_⟩,CG sm hD _,Ag⟩;rw[ASi,eq,ARU];exact(hp.updL bN).append (.cons (k0.updL bN) .nil)
 .have e:i=qs.length:=by omega
  subst e;rw[AR2]at hp;exact .inl ⟨⟨_,SqL.of hr,by rw[Io];omega⟩,hd H D sm hD ⟨ps,bN,hp⟩⟩
def FnV(P:Program)(w:World)(K:W.Frag)(mg:Str->Option Value)(base:Heap)(j:Nat)(f:Addr)(sp:Sp):Prop:=∃k fd ps,k<=j/\BR P w K mg base (CXe P w) k f fd ps sp/\DK K fd ps []/\W.keepIn K (.ref f)=true
def AOe(P:Program)(w:World)(K:W.Frag)(mg:Str->Option Value)(base:Heap)(j i:Nat)(t:TA):(Value->L2.St->Hp->Prop)->TS:=fun R D Y H=>∃f sp,FnV P w K mg base j f sp/\Qd i Y H fun y H1=>y=.ref f/\t Y H1 fun vs H2=>sp vs H2 (fun _ H3=>D.nx Y H3) fun C _ H3=>R C Y H3
end L3
namespace Po
open Ra Rq
def lift(A B:List Rat):List Rat:=List.replicate (A.length-B.length) 0++B
def rst(A B:List Rat):List Rat:=(List.range (A.length-1)).map fun i=>A.getD i 0-lst A/lst B*(lift A B).getD i 0
section
variable (gs ws:List Rat)
def hdp(j:Nat):List Rat:=(pst gs ws [] [1] j).1
def lsp(j:Nat):List Rat:=(pst gs ws [] [1] j).2
end
section
variable {gs ws:List Rat}
theorem TY(A B:List Rat):(rst A B).length=A.length-1:=by
 unfold rst;rw[Io,ASa]
def PA(gs ws:List Rat)(p:Nat):List Rat:=if p%2=0 then hdp gs ws (ws.length-p/2) else lsp gs ws (ws.length-p/2)
def PB(gs ws:List Rat)(p:Nat):List Rat:=if p%2=0 then lsp gs ws (ws.length-p/2) else if p/2<ws.length then hdp gs ws (ws.length-p/2-1) else []
def duP(gs ws:List Rat)(p:Nat):Rat:=if p%2=0 then gs.getD (ws.length-p/2) 0 else ws.getD (ws.length-p/2-1) 0
end
open PySem
def lam(x:Rat):List Rat->Rat
 | []=>1
 | l::ls=>if l=x then lam x ls else lam x ls/(x-l)
def APa(f:Rat->Rat):List Rat->Rat
 | []=>0
 | l::ls=>f l+APa f ls
def syn(a:Rat):List Rat->List Rat
 | []=>[]
 | _::p=>ev p a::syn a p
section
variable (U L:List Rat)
def sq:Nat->List Rat×List Rat
 | 0=>(U,L)
 | k+1=>(rst (sq k).1 (sq k).2,rst (sq k).2 (rst (sq k).1 (sq k).2))
def gq(k:Nat):Rat:=lst (sq U L k).1/lst (sq U L k).2
def mq(k:Nat):Rat:=-(lst (sq U L k).2/lst (sq U L (k+1)).1)
def ad:Nat->List Rat×List Rat
 | 0=>([1],[])
 | k+1=>(AOM (ad k).1 (0::Mt (ACi (ad k).2 (Mt (ad k).1 (mq U L k))) (gq U L (k+1))),ACi (ad k).2 (Mt (ad k).1 (mq U L k)))
end
structure Pts(n:Nat)(s:Rat)(U L ls:List Rat):Prop where
 hU:U.length=n+1
 hL:L.length=n+1
 nd:ls.Nodup
 hn:ls.length=n
 pos:∀x∈ls,0<x
 zero:∀x∈ls,ev L x=0
 one:L.getD 0 0=1
 wt:∀x∈ls,0<s*lam x ls*ev U x
 neg:s*lst L<0
 quo:0<lst U/lst L
structure Inv(n:Nat)(s:Rat)(U L ls:List Rat)(k:Nat):Prop where
 lu:(sq U L k).1.length=n-k+1
 ll:(sq U L k).2.length=n-k+1
 l0:lst (sq U L k).2≠0
 g0:0<gq U L k
 f0:(sq U L k).2.getD 0 0=1
 eL:∀x∈ls,ev (sq U L k).2 x=x*ev (ad U L k).2 x*ev U x
 eU:∀x∈ls,ev (sq U L (k+1)).1 x=ev (ad U L k).1 x*ev U x
 a0:(ad U L k).1.getD 0 0=1
 aj:∀j,k+1<=j->(ad U L k).1.getD j 0=0
 d0:0<=(ad U L k).2.getD 0 0
 dj:∀j,k<=j->(ad U L k).2.getD j 0=0
 sg:∃y c,0<c/\0<s*y*lst (sq U L k).2/\(ad U L k).1.getD k 0=-(c*y)
def AMz(w k:Rat):List Rat->List Rat
 | []=>[0-k/w]
 | c::p=>(c-k/w)::AMz w c p
def ANQ(p us:List Rat):List Rat:=us.foldl (fun p u=>AMz u 0 p) p
def pu(t:Rat):List Rat->Rat
 | []=>1
 | u::us=>(1-t/u)*pu t us
def sgN:Nat->Rat
 | 0=>1
 | n+1=>-sgN n
def ANC(a:Rat):List Rat->List Rat->Prop
 | [],[]=>True
 | l::ls,u::us=>a<l/\l<u/\ANC u ls us
 | _,_=>False
def OvN(N:Nat)(A:List Rat):Prop:=∃M:Int,M≠0/\Bt N M/\∀q∈A,Ov N M q
def fbn(a b:Nat):Nat->Nat×Nat
 | 0=>(a,b)
 | k+1=>((fbn a b k).1+(fbn a b k).2+1,(fbn a b k).2+((fbn a b k).1+(fbn a b k).2+1)+1)
section
variable {gs ws:List Rat}
end
structure Fnd(c:Rat)(ls us gs ws:List Rat):Prop where
 lg:gs.length=ws.length+1
 lw:ws.length=ls.length
 pg:∀q∈gs,0<q
 pw:∀q∈ws,0<q
 hd:hdp gs ws ws.length=ANQ [c] us
 ls:lsp gs ws ws.length=ANQ [1] ls
 oh:∀k,k<=ws.length->OvN ((fbn 57 57 k).1+100) (hdp gs ws (ws.length-k))
 ol:∀k,k<=ws.length->OvN (fbn 57 57 k).2 (lsp gs ws (ws.length-k))
section
variable {c:Rat}{lo us gs ws:List Rat}
end
def abp(U L:List Rat):Nat->List Rat×List Rat
 | 0=>(U,L)
 | p+1=>((abp U L p).2,rst (abp U L p).1 (abp U L p).2)
def qAt(k:Nat)(A B:List Rat):Rat:=if lst B=0 then 0 else if k%2=0 then lst A/lst B else -(lst A/lst B)
def qp(U L:List Rat)(p:Nat):Rat:=qAt p (abp U L p).1 (abp U L p).2
theorem qAt_pos(h:0<qAt k A B):lst B≠0:=fun z=>by
 unfold qAt at h;rw[if_pos z]at h;exact absurd h (by decide)
theorem Xz{U L:List Rat}{n:Nat}(hU:U.length=n+1)(hL:L.length=n+1):∀k,(abp U L (2*k)).1.length=n+1-k/\(abp U L (2*k)).2.length=n+1-k/\(abp U L (2*k+1)).1.length=n+1-k/\(abp U L (2*k+1)).2.length=n-k
 | 0=>⟨hU,hL,hL,by show(rst U L).length=n-0;rw[TY,hU];omega⟩
 | k+1=>by
  obtain⟨a,b,c,d⟩:=Xz hU hL k;have e1:(abp U L (2*(k+1))).1.length=n+1-(k+1):=by
   show(abp U L (2*k+1)).2.length=_;rw[d];omega
  have e2:(abp U L (2*(k+1))).2.length=n+1-(k+1):=by
   show(rst (abp U L (2*k+1)).1 (abp U L (2*k+1)).2).length=_;rw[TY,c];omega
  refine⟨e1,e2,e2,?_⟩;show(rst (abp U L (2*(k+1))).1 (abp U L (2*(k+1))).2).length=_;rw[TY,e1];omega
theorem abp_lens{U L:List Rat}{n:Nat}(hU:U.length=n+1)(hL:L.length=n+1){p:Nat}(hp:p<2*n+1):0<(abp U L p).2.length/\(abp U L p).2.length<=(abp U L p).1.length/\(abp U L p).1.length<=(abp U L p).2.length+1/\(abp U L p).1.length<=n+1/\(p%2=0->(abp U L p).1.length=(abp U L p).2.length)/\(p%2=1->(abp U L p).1.length=(abp U L p).2.length+1)/\(abp U L p).2.length=n+1-(p+1)/2:=by
 obtain⟨a,b,c,d⟩:=Xz hU hL (p/2);rcases Nat.mod_two_eq_zero_or_one p with h|h
 .rw[show 2*(p/2)=p by omega]at a b;refine⟨by omega,by omega,by omega,by omega,fun _=>by omega,fun z=>by omega,by omega⟩
 .rw[show 2*(p/2)+1=p by omega]at c d;refine⟨by omega,by omega,by omega,by omega,fun z=>by omega,fun _=>by omega,by omega⟩
def fbz(a b:Nat):Nat->Nat
 | 0=>a
 | 1=>b
 | p+2=>fbz a b p+fbz a b (p+1)+1
end Po
namespace L3
open PySem PySem.Spec PyProof.Rows L2 Ra Rq
theorem Wv{K:W.Frag}{ns:List Int}(hn:ns.length<=100000)(ha:H1 a=some (.lst (ns.map V.int)))(f:Int->Int)
  (hs:∀zb zc C ex x H (R:VK),x∈ns->R (.int (f x)) H->te zb zc C ex (some (.int x)::js.map fun j=>(Y[j]?).join) H R)
  (hd:∀H D,Al H1 H->H1 D=none->H D=some (.lst ((ns.map f).map V.int))->Q (.ref D) H):Gv (Itl K a) te js Y Q H1:=by
 intro D hD;refine⟨fun i m ys H=>m=ns.length-i/\i<=ns.length/\ys=((ns.take i).map f).map V.int/\Al H1 H/\H D=some (.lst ys),⟨ns.length,by simp,ARu _,rfl,Aj hD _,Ag⟩,?_⟩;walk_at "A";have hr:=sm _ _ ha;by_cases hlt:i<ns.length
 .have eq:ns[i]?=some ns[i]:=AQ9 hlt;have h0:(ns.map V.int)[i]?=some (.int ns[i]):=by rw[ARQ,eq];rfl
  walk_at "l";walk_at "2";refine hs zb zc C ex _ H' _ (ARS hlt) ?_;walk_at "a"
  refine⟨bN,by rw[Io,Io,ARc];omega,ns.length-(i+1),by omega,rfl,hlt,?_,?_,Ag⟩
  .rw[ASi,eq,ARU,ARU];rfl
  .intro b o e;rw[An (Az e hD)];exact sm _ _ e
 .have e:i=ns.length:=by omega
  subst e;rw[AR2]at bN;exact .inl ⟨⟨_,SqL.of hr,by rw[Io];omega⟩,hd H D sm hD bN⟩
theorem Zr{K:W.Frag}{a b:Addr}{ns ms:List Int}{tt:Shared->Hp->Addr->List Addr->TT}{te:Shared->Hp->Addr->List Addr->TE}{js:List Nat}{Y:L2.St}{H1:Hp}{Q:VK}(n:Nat)(hnm:n=min ns.length ms.length)(hn:n<=100000)(ha:H1 a=some (.lst (ns.map V.int)))(hb:H1 b=some (.lst (ms.map V.int)))(f:Int->Int->Int)
  (ht:∀zb zc C ex x y H (R:Bool->Hp->Prop),R true H->tt zb zc C ex (some (.int x)::some (.int y)::js.map fun j=>(Y[j]?).join) H R)
  (hs:∀zb zc C ex x y H (R:VK),x∈ns->y∈ms->R (.int (f x y)) H->te zb zc C ex (some (.int x)::some (.int y)::js.map fun j=>(Y[j]?).join) H R)
  (hd:∀H D,Al H1 H->H1 D=none->H D=some (.lst (((List.range n).map fun i=>f (ns.getD i 0) (ms.getD i 0)).map V.int))->Q (.ref D) H):Rb (Itz K a b) (ACO K 2 (Pb (DP 0) (Pb (DP 1) ACs))) tt te 2 js Y Q H1:=by
 intro D hD;refine⟨fun i m ys H=>m=n-i/\i<=n/\ys=((List.range i).map fun i=>f (ns.getD i 0) (ms.getD i 0)).map V.int/\Al H1 H/\H D=some (.lst ys),⟨n,by simp,ARu _,rfl,Aj hD _,Ag⟩,?_⟩;rintro i m ys H ⟨rfl,hi,hys,sm,bN⟩;refine⟨bN,?_⟩;have hra:=sm _ _ ha;have ix:=sm _ _ hb;by_cases hlt:i<n
 .have l1:i<ns.length:=by omega
  have l2:i<ms.length:=by omega
  have h1:(ns.map V.int)[i]?=some (.int ns[i]):=by rw[ARQ,AQ9 l1];rfl
  have h2:(ms.map V.int)[i]?=some (.int ms[i]):=by rw[ARQ,AQ9 l2];rfl
  refine .inr ⟨⟨_,_,_,_,SqL.of hra,SqL.of ix,h1,h2⟩,?_⟩;rintro v H' ⟨T,x,y,rfl,hT,rfl,ex,ey⟩ zb zc C iy zj hσ;have ex':=ex _ (SqL.of hra);have ey':=ey _ (SqL.of ix);rw[h1]at ex';rw[h2]at ey';cases ex';cases ey';obtain⟨v1,v2,rfl⟩:∃v1 v2,zj=[v1,v2]:=by
   match zj,hσ with
   | [v1,v2],_=>exact⟨v1,v2,rfl⟩
  have u:=Aj hT (.tup [.int ns[i],.int ms[i]]);refine⟨T,_,rfl,SqT.of Ag,rfl,_,_,rfl,_,_,rfl,rfl,⟨[some (.int ns[i]),some (.int ms[i])],rfl,rfl⟩,?_⟩;refine ht zb zc C iy ns[i] ms[i] _ _ ?_;rw[if_pos rfl];walk_at "a"
  have g1:ns.getD i 0=ns[i]:=by rw[ARV,AQ9 l1];rfl
  have g2:ms.getD i 0=ms[i]:=by rw[ARV,AQ9 l2];rfl
  have gl:=u _ _ bN;have ly:ys.length=i:=by rw[hys,Io,Io,ASa]
  refine hs zb zc C iy ns[i] ms[i] _ _ (ARS l1) (ARS l2) ⟨gl,by omega,n-(i+1),by omega,rfl,hlt,?_,CG (sm.trans u) hD _,Ag⟩;rw[hys,ATF,ARU,ARU,ATA,ATA,g1,g2]
 .have e:i=n:=by omega
  subst e;subst hys;exact .inl ⟨⟨_,_,SqL.of hra,SqL.of ix,by rw[Io,Io];omega⟩,hd H D sm hD bN⟩
end L3
namespace L2
open PySem PySem.Spec PyProof.Rows
def Itd(hi:Int)(n:Nat):It:=⟨fun i _=>i<n,fun i H x H'=>H'=H/\x=.int (hi-i),fun i _=>n<=i⟩
section
variable {X:Cx}{tg:Expr}
def AQY(ta:TA):TI:=fun Y H R=>ta Y H fun vs H1=>∃i j:Int,vs=[.int i,.int j,.int (-1)]/\(-(2^62)<=i/\i<2^62/\-(2^62)<=j/\j<2^62)/\R (Itd i (i-j).toNat) H1
end
end L2
namespace L3
open PySem PySem.Spec PyProof.Rows L2 Ra
theorem fsc{N ps:List Str}{sc:Scope}(h1:sc.kind=.function:=by rfl)(h2:sc.isCoroutine=false:=by rfl)(h3:sc.isGenerator=false:=by rfl)(h4:N.Nodup:=by decide +kernel)(h5:N.take ps.length=ps:=by rfl)(h6:∀x∈ps,sc.names.lookup x=some .local\/sc.names.lookup x=some .cell:=by decide +kernel)(h7:∀y∈sc.names,y.2≠.free:=by decide +kernel):Ao N ps sc:=⟨h1,h2,h3,h4,h5,h6,h7⟩
section
variable {X:Cx}{a b e:Expr}{ta tb te:TE}{i:Nat}{x:Str}{pos pos':Pos}
theorem ixL(ha:PE X a ta)(hb:PE X b tb)(hs:RV b:=by exact fun _ _=>rfl):PE X (.Subscript a b pos) (tOp (ACa X.K) ta tb):=UW ACz ha hb hs
theorem ixT(ha:PE X a ta)(hb:PE X b tb)(hs:RV b:=by exact fun _ _=>rfl):PE X (.Subscript a b pos) (tOp (AIM X.K) ta tb):=UW AGG ha hb hs
theorem pS(i:Nat)(hN:X.N.Nodup)(he:PE X e te)(hi:X.N[i]?=some x:=by rfl)(hx:Loc X.env.scope x:=by first | exact Or.inl rfl | exact Or.inr rfl)(hs:swapsWith e (some (.Name x pos')) pos.line X.env=pure false:=by rfl)(hf:X.fn x=true\/X.env.scope.names.lookup x=some .local:=by first | exact .inl rfl | exact .inr rfl | assumption):PS X (.Assign [.Name x pos'] e pos) (Qe te (DP i)):=AAs hN hi hx he hs hf
theorem gN(i:Nat)(hN:X.N.Nodup)(hi:X.N[i]?=some x:=by rfl)(hx:Loc X.env.scope x:=by first | exact Or.inl rfl | exact Or.inr rfl)(hf:X.fn x=true\/X.env.scope.names.lookup x=some .local:=by first | exact .inl rfl | exact .inr rfl | assumption):PG X (.Name x pos) (DP i):=Xm hN hi hx hf
end
section
variable {P:Program}{w:World}{K:W.Frag}{mg:Str->Option Value}{base h:Heap}{x q m:Str}{st:Stmt}{f C:Addr}{fd:FuncData}{N ps:List Str}{k:Nat}{sp:Sp}
theorem _root_.L2.Fun.okk(F:Fun K x q st f fd)(S:Ao N ps (Ae st)) (h:∀vs H Q E,sp vs H Q E->vs.length=ps.length/\∀(cdv:Value) (A:Around) (outer:List Env) (s:Shared),CJ k (A.deeper (envOfC q (Ae st) s.heap.objs.size f cdv)) ->
   ∃t,PSs (BL CX0 P w K mg base N q (Ae st) f cdv A outer s H E).nox (Bd st) t/\t { nx:=fun _ H'=>Q .non H',rt:=Q } (Hc N vs) H):BR P w K mg base CX0 (k+1) f fd ps sp :=
 F.ok S (fun vs H Q E z=>(h vs H Q E z).1) fun cdv A outer s H vs Q E hr z=>(h vs H Q E z).2 cdv A outer s hr
theorem lb1{us:List Value}(h:us.length=1):∃a,us=[a]:=match us,h with | [a],_=>⟨a,rfl⟩
theorem lb2{us:List Value}(h:us.length=2):∃a b,us=[a,b]:=match us,h with | [a,b],_=>⟨a,b,rfl⟩
theorem lb3{us:List Value}(h:us.length=3):∃a b c,us=[a,b,c]:=match us,h with | [a,b,c],_=>⟨a,b,c,rfl⟩
theorem lb4{us:List Value}(h:us.length=4):∃a b c d,us=[a,b,c,d]:=match us,h with | [a,b,c,d],_=>⟨a,b,c,d,rfl⟩
def Hb(x q:Str)(st:Stmt)(ps:List Str):Prop:=∀(kV doc pm:Value) (an:Option Addr) (cdv ct:Value) (us:List Value),us.length=ps.length->bindArgs (W.fnOf x q (Bm st) (Bd st) (Ae st) .none kV doc pm an cdv ct) ⟨us,[]⟩=pure (ps.zip us)
theorem hbT{x q:Str}{st:Stmt}{ps:List Str} (h:∀(kV doc pm:Value) (an:Option Addr) (cdv ct:Value) (us:List Value),us.length=ps.length->bindArgs (W.fnOf x q (Bm st) (Bd st) (Ae st) .none kV doc pm an cdv ct) ⟨us,[]⟩=pure (ps.zip us):=by
   intro _ _ _ _ _ _ us hl;first | (obtain⟨_,rfl⟩:=L3.lb1 hl;rfl) | (obtain⟨_,_,rfl⟩:=L3.lb2 hl;rfl) | (obtain⟨_,_,_,rfl⟩:=L3.lb3 hl;rfl) | (obtain⟨_,_,_,_,rfl⟩:=L3.lb4 hl;rfl) | (obtain⟨_,_,_,_,_,rfl⟩:=L3.lb5 hl;rfl)):Hb x q st ps:=h
def Dq(K:W.Frag)(x q:Str)(st:Stmt)(f:Addr):Prop:=∃(oc:Value) (od:Option Addr) (kV doc pm:Value) (an:Option Addr) (cdv ct:Value) (osl:Array (Option Value)),K.lookup f=some ⟨oc,od,.func (W.fnOf x q (Bm st) (Bd st) (Ae st) .none kV doc pm an cdv ct),osl⟩/\W.codeIn K cdv q=true/\W.keepIn K (.ref f)=true
def Gd(K:W.Frag)(x:Str)(st:Stmt):Prop:=∃f,W.nsIn K mainGlobals x=some (some (.ref f))/\Dq K x x st f
def Gm(K:W.Frag)(C:Addr)(m q:Str)(st:Stmt):Prop:=∃f,W.findIn K (.ref C) m=some (some (.ref f))/\W.isFn K (.ref f)=true/\Dq K m q st f
theorem gd{x:Str}{st:Stmt}{f:Addr}{oc:Value}{od:Option Addr}{kV doc pm:Value}{an:Option Addr}{cdv ct:Value}{osl:Array (Option Value)}(a:W.nsIn K mainGlobals x=some (some (.ref f)):=by k_is)(l:K.lookup f=some ⟨oc,od,.func (W.fnOf x x (Bm st) (Bd st) (Ae st) .none kV doc pm an cdv ct),osl⟩:=by k_is)(c:W.codeIn K cdv x=true:=by k_is)(k:W.keepIn K (.ref f)=true:=by k_is):Gd K x st:=⟨f,a,oc,od,kV,doc,pm,an,cdv,ct,osl,l,c,k⟩
theorem gm{C:Addr}{m q:Str}{st:Stmt}{f:Addr}{oc:Value}{od:Option Addr}{kV doc pm:Value}{an:Option Addr}{cdv ct:Value}{osl:Array (Option Value)}(a:W.findIn K (.ref C) m=some (some (.ref f)):=by k_is)(i:W.isFn K (.ref f)=true:=by k_is)(l:K.lookup f=some ⟨oc,od,.func (W.fnOf m q (Bm st) (Bd st) (Ae st) .none kV doc pm an cdv ct),osl⟩:=by k_is)(c:W.codeIn K cdv q=true:=by k_is)(k:W.keepIn K (.ref f)=true:=by k_is):Gm K C m q st:=⟨f,a,i,oc,od,kV,doc,pm,an,cdv,ct,osl,l,c,k⟩
theorem Dq.g(d:Dq K x q st f):∃fd,Fun K x q st f fd/\W.keepIn K (.ref f)=true:=by
 obtain⟨oc,od,kV,doc,pm,an,cdv,ct,osl,l,c,k⟩:=d;exact⟨_,AAw l c k,k⟩
theorem Gd.g(d:Gd K x st)(X:K.In h)(G:h.Ns mainGlobals mg):∃f fd,Fun K x x st f fd/\W.keepIn K (.ref f)=true/\mg x=some (.ref f):=by
 obtain⟨f,a,d⟩:=d;obtain⟨fd,F,k⟩:=d.g;exact⟨f,fd,F,k,ARq X G a⟩
theorem Gm.g(d:Gm K C m q st):∃f fd,Fun K m q st f fd/\W.findIn K (.ref C) m=some (some (.ref f))/\W.isFn K (.ref f)=true/\W.keepIn K (.ref f)=true:=by
 obtain⟨f,a,i,d⟩:=d;obtain⟨fd,F,k⟩:=d.g;exact⟨f,fd,F,a,i,k⟩
structure Zz(P:Program)(w:World)(K:W.Frag)(mg:Str->Option Value)(base:Heap):Prop where
 ex:∃h:Heap,K.In h/\h.Ns mainGlobals mg
theorem Gd.cal(d:Gd K x st)(Z:Zz P w K mg base)(ok:∀{f fd},Fun K x x st f fd->BR P w K mg base CX0 k f fd ps sp)
  (hb:Hb x x st ps):Cal P w K mg base x k ps sp:=by
 obtain⟨_,X,G⟩:=Z.ex;obtain⟨f,fd,F,kp,a⟩:=d.g X G;exact⟨f,fd,ok F,F.binds hb,kp,a⟩
theorem Gm.cal(d:Gm K C m q st)(_:Zz P w K mg base)(cl:Cls K C)(ok:∀{f fd},Fun K m q st f fd->BR P w K mg base CX0 k f fd ps sp)
  (hb:Hb m q st ps):MJ P w K mg base C m k ps sp:=by
 obtain⟨f,fd,F,a,i,kp⟩:=d.g;exact⟨f,fd,ok F,F.binds hb,⟨a,i,kp⟩,cl⟩
theorem Gm.calC(d:Gm K C "__init__" q st)(_:Zz P w K mg base)(mk:W.makesIn K C=true)(kc:W.keepIn K (.ref C)=true)(mx:mg x=some (.ref C))(ok:∀{f fd},Fun K "__init__" q st f fd->BR P w K mg base CX0 k f fd ps sp)
  (hb:Hb "__init__" q st ps):ADU P w K mg base x C k ps sp:=by
 obtain⟨f,fd,F,a,i,_⟩:=d.g;exact⟨f,fd,ok F,F.binds hb,⟨mk,a,i,kc⟩,mx⟩
end
abbrev FnY(K:W.Frag)(x qual:Str)(st:Stmt)(f:Addr)(fd:FuncData):Prop:=∃(oc:Value) (od:Option Addr) (kV doc pm:Value) (an:Option Addr) (cdv ct:Value) (osl:Array (Option Value)),
  fd=W.fnOf x qual (Bm st) (Bd st) (Ae st) .none kV doc pm an cdv ct/\K.lookup f=some ⟨oc,od,.func fd,osl⟩/\W.codeIn K cdv qual=true
section
variable {P:Program}{w:World}{K:W.Frag}{mg:Str->Option Value}{base h:Heap}{x q m:Str}{st:Stmt}{C:Addr}{ps:List Str}{k:Nat}{sp:Sp}
theorem Gd.calY(d:Gd K x st)(Z:Zz P w K mg base)(ok:∀{f fd},FnY K x x st f fd->BR P w K mg base (CXd P w) k f fd ps sp)
  (hb:Hb x x st ps):DR P w K mg base x k ps [] [] sp:=by
 obtain⟨_,X,G⟩:=Z.ex;obtain⟨f,fd,F,kp,a⟩:=d.g X G;exact⟨⟨f,fd,ok F.ex,F.binds hb,kp,a⟩,.nil⟩
theorem Gm.calMX(d:Gm K C m q st)(_:Zz P w K mg base)(cl:Cls K C)(ok:∀{f fd},FnY K m q st f fd->BR P w K mg base (CXd P w) k f fd ps sp)
  (hb:Hb m q st ps):Qv P w K mg base C m k ps sp:=by
 obtain⟨f,fd,F,a,i,kp⟩:=d.g;exact⟨f,fd,ok F.ex,F.binds hb,⟨a,i,kp⟩,cl⟩
def Gi(K:W.Frag)(C:Addr)(q:Str)(st:Stmt):Prop:=∃f,W.isFn K (.ref f)=true/\Dq K "__init__" q st f/\Ss K C f=true
theorem gi{C:Addr}{q:Str}{st:Stmt}{f:Addr}{oc:Value}{od:Option Addr}{kV doc pm:Value}{an:Option Addr}{cdv ct:Value}{osl:Array (Option Value)}(a:W.findIn K (.ref C) "__init__"=some (some (.ref f)):=by k_is)(i:W.isFn K (.ref f)=true:=by k_is)(l:K.lookup f=some ⟨oc,od,.func (W.fnOf "__init__" q (Bm st) (Bd st) (Ae st) .none kV doc pm an cdv ct),osl⟩:=by k_is)(c:W.codeIn K cdv q=true:=by k_is)(k:W.keepIn K (.ref f)=true:=by k_is)(e:Ss K C f=true:=by kernel_rfl):Gi K C q st:=⟨f,i,⟨oc,od,kV,doc,pm,an,cdv,ct,osl,l,c,k⟩,e⟩
theorem Gi.calI(d:Gi K C q st)(_:Zz P w K mg base)(kc:W.keepIn K (.ref C)=true)(mx:mg x=some (.ref C))(ok:∀{f fd},Fun K "__init__" q st f fd->BR P w K mg base CX0 k f fd ps sp)
  (hb:Hb "__init__" q st ps):Us P w K mg base x C k ps sp:=by
 obtain⟨f,i,d,e⟩:=d;obtain⟨fd,F,kp⟩:=d.g;exact⟨f,fd,⟨e,i⟩,kc,ok F,F.binds hb,mx⟩
end
def Kq(K:W.Frag)(a:Addr):List (Value×Bool)->Prop
 | []=>True
 | p::r=>W.kitOne K (.ref a) p.1=some p.2/\Kq K a r
theorem Cd{P:Program}{w:World}{K:W.Frag}{mg:Str->Option Value}{base:Heap}{x q:Str}{st:Stmt}{f:Addr}{fd:FuncData}{N ps:List Str}{k:Nat}{sp:Sp}(F:FnY K x q st f fd)(S:Ao N ps (Ae st))
  (h:∀vs H Q E,sp vs H Q E->vs.length=ps.length/\∀(cdv:Value) (A:Around) (outer:List Env) (s:Shared),CJ k (A.deeper (envOfC q (Ae st) s.heap.objs.size f cdv))->∃t,PSs (BL (CXd P w) P w K mg base N q (Ae st) f cdv A outer s H E) (Bd st) t/\t { nx:=fun _ H'=>Q .non H',rt:=Q } (Hc N vs) H):BR P w K mg base (CXd P w) (k+1) f fd ps sp :=
 APp F S (fun vs H Q E z=>(h vs H Q E z).1) fun cdv A outer s H vs Q E hr z=>(h vs H Q E z).2 cdv A outer s hr
theorem exM{K:W.Frag}{D:Addr}(a:W.isClsIn K D=true:=by k_is)(b:W.findIn K (.ref D) "__getattribute__"=some (some (.builtin "BaseException.__getattribute__")):=by k_is)(c:W.findIn K (.ref D) "__getattr__"=some none:=by k_is)(d:W.findIn K (.ref D) "__class__"=some (some (.builtin "object.__class__")):=by k_is)(e:W.mroIn K D (.type "BaseException")=some true:=by k_is)(f:W.mroIn K D (.type "object")=some true:=by k_is):CP K D:=⟨a,b,c,d,e,f⟩
theorem Gm.calCN{K:W.Frag}{st:Stmt}(d:Gm K C "__init__" q st)(_:Zz P w K mg base)(mk:W.makesIn K C=true)(kc:W.keepIn K (.ref C)=true)(mx:mg x=some (.ref C))(ok:∀{f fd},FnY K "__init__" q st f fd->BR P w K mg base (CXn P w) k f fd ps sp)
  (hb:Hb "__init__" q st ps):CalCN P w K mg base x C k ps sp:=by
 obtain⟨f,fd,F,a,i,_⟩:=d.g;exact⟨f,fd,ok F.ex,F.binds hb,⟨mk,a,i,kc⟩,mx⟩
end L3
namespace My
open PySem L2 L3 Ra Rq PyProof.Rows
theorem bt2(h:x.natAbs<2^n):Bt n x:=h
local macro_rules | `(tactic| walk_at "s")=>`(tactic| first
 | refine⟨_,rfl,?_⟩
 | refine⟨_,_,rfl,rfl,?_⟩
 | refine⟨_,_,rfl,?_⟩
 | refine⟨rfl,?_⟩
 | refine⟨_,_,_,_,rfl,rfl,Pr.sq (by assumption),rfl,?_⟩
 | refine⟨_,_,_,_,rfl,Em.int _,Mw _,?_⟩
 | refine⟨_,_,_,_,rfl,Em.int _,La _,?_⟩
 | refine⟨_,_,_,_,rfl,Em.tup (by assumption),M7 _,?_⟩
 | refine⟨_,_,rfl,.inr (Pr.sq (by assumption)),?_⟩
 | refine FZ ?_
 | refine Ga ?_
 | refine⟨(by show(0:Int)<_;decide),?_⟩
 | refine⟨⟨(by decide),bt2 (by decide +kernel)⟩,?_⟩
 | refine⟨(⟨(by decide),(by decide),(by decide)⟩:ADe _ _),?_⟩)
local macro_rules | `(tactic| walk_at "r")=>`(tactic| repeat walk_at "s")
structure Txt(mg:Str->Option Value):Prop where
 z_abs:mg "abs"=none
 z_len:mg "len"=none
 z_isinstance:mg "isinstance"=none
 z_int:mg "int"=none
 z_bool:mg "bool"=none
 z_tuple:mg "tuple"=none
 z_range:mg "range"=none
 z_list:mg "list"=none
 z_zip:mg "zip"=none
 z_all:mg "all"=none
 z_str:mg "str"=none
 z_reversed:mg "reversed"=none
 z_max:mg "max"=none
 z_enumerate:mg "enumerate"=none
 z_ValueError:mg "ValueError"=none
 c_MOST_BEADS:∃t,mg "MOST_BEADS"=some (.int 12 t)
 c_FIGURES:∃t,mg "FIGURES"=some (.str "0123456789" t)
 c_MOST_FIGURES:∃t,mg "MOST_FIGURES"=some (.int 30 t)
 c_LETTERS:∃t,mg "LETTERS"=some (.str "abcdefghijklmnopqrstuvwxyz" t)
 c_LONGEST_NAME:∃t,mg "LONGEST_NAME"=some (.int 8 t)
 c_MOST_HALVINGS:∃t,mg "MOST_HALVINGS"=some (.int 60 t)
structure Fw(K:W.Frag)(mg:Str->Option Value)(ah aq ak af ai ao ap:Addr):Prop where
 m_NoText:mg "NoText"=some (.ref ah)
 m_NoName:mg "NoName"=some (.ref aq)
 m_NoBead:mg "NoBead"=some (.ref ak)
 m_NoCord:mg "NoCord"=some (.ref af)
 m_NoWorth:mg "NoWorth"=some (.ref ai)
 m_NoFraction:mg "NoFraction"=some (.ref ao)
 m_CordError:mg "CordError"=some (.ref ap)
 o_NoText:Hd K ah
 i_NoText:W.isIn K (.ref ah) ah=true
 x_NoText:W.exmOne K (.ref ah) (.ref ap)=some true
 e_NoText:CP K ah
 o_NoName:Hd K aq
 i_NoName:W.isIn K (.ref aq) aq=true
 x_NoName:W.exmOne K (.ref aq) (.ref ap)=some true
 e_NoName:CP K aq
 o_NoBead:Hd K ak
 i_NoBead:W.isIn K (.ref ak) ak=true
 x_NoBead:W.exmOne K (.ref ak) (.ref ap)=some true
 e_NoBead:CP K ak
 o_NoWorth:Hd K ai
 i_NoWorth:W.isIn K (.ref ai) ai=true
 x_NoWorth:W.exmOne K (.ref ai) (.ref ap)=some true
 e_NoWorth:CP K ai
 x_NoCord:W.exmOne K (.ref af) (.ref ap)=some true
 e_NoCord:CP K af
 fx_NoCord:ACe K af
 nf_NoCord:Ey K af "place"
 xs_NoCord:W.exmOne K (.ref af) (.ref af)=some true
 k_NoText_NoText:W.kitOne K (.ref ah) (.ref ah)=some true
 k_NoText_NoName:W.kitOne K (.ref ah) (.ref aq)=some false
 k_NoText_NoBead:W.kitOne K (.ref ah) (.ref ak)=some false
 k_NoText_NoCord:W.kitOne K (.ref ah) (.ref af)=some false
 k_NoText_NoWorth:W.kitOne K (.ref ah) (.ref ai)=some false
 k_NoText_NoFraction:W.kitOne K (.ref ah) (.ref ao)=some false
 k_NoText_ValueError:W.kitOne K (.ref ah) (.type "ValueError")=some true
 k_NoName_NoText:W.kitOne K (.ref aq) (.ref ah)=some false
 k_NoName_NoName:W.kitOne K (.ref aq) (.ref aq)=some true
 k_NoName_NoBead:W.kitOne K (.ref aq) (.ref ak)=some false
 k_NoName_NoCord:W.kitOne K (.ref aq) (.ref af)=some false
 k_NoName_NoWorth:W.kitOne K (.ref aq) (.ref ai)=some false
 k_NoName_NoFraction:W.kitOne K (.ref aq) (.ref ao)=some false
 k_NoName_ValueError:W.kitOne K (.ref aq) (.type "ValueError")=some true
 k_NoBead_NoText:W.kitOne K (.ref ak) (.ref ah)=some false
 k_NoBead_NoName:W.kitOne K (.ref ak) (.ref aq)=some false
 k_NoBead_NoBead:W.kitOne K (.ref ak) (.ref ak)=some true
 k_NoBead_NoCord:W.kitOne K (.ref ak) (.ref af)=some false
 k_NoBead_NoWorth:W.kitOne K (.ref ak) (.ref ai)=some false
 k_NoBead_NoFraction:W.kitOne K (.ref ak) (.ref ao)=some false
 k_NoBead_ValueError:W.kitOne K (.ref ak) (.type "ValueError")=some true
 k_NoWorth_NoText:W.kitOne K (.ref ai) (.ref ah)=some false
 k_NoWorth_NoName:W.kitOne K (.ref ai) (.ref aq)=some false
 k_NoWorth_NoBead:W.kitOne K (.ref ai) (.ref ak)=some false
 k_NoWorth_NoCord:W.kitOne K (.ref ai) (.ref af)=some false
 k_NoWorth_NoWorth:W.kitOne K (.ref ai) (.ref ai)=some true
 k_NoWorth_NoFraction:W.kitOne K (.ref ai) (.ref ao)=some false
 k_NoWorth_ValueError:W.kitOne K (.ref ai) (.type "ValueError")=some true
 k_NoCord_NoText:W.kitOne K (.ref af) (.ref ah)=some false
 k_NoCord_NoName:W.kitOne K (.ref af) (.ref aq)=some false
 k_NoCord_NoBead:W.kitOne K (.ref af) (.ref ak)=some false
 k_NoCord_NoCord:W.kitOne K (.ref af) (.ref af)=some true
 k_NoCord_NoWorth:W.kitOne K (.ref af) (.ref ai)=some false
 k_NoCord_NoFraction:W.kitOne K (.ref af) (.ref ao)=some false
 k_NoCord_ValueError:W.kitOne K (.ref af) (.type "ValueError")=some true
structure K4(K:W.Frag)(mg:Str->Option Value)(C:Addr):Prop where
 m:mg "Cord"=some (.ref C)
 cl:Cls K C
 c1:W.findIn K (.ref C) "__class__"=some (some (.builtin "object.__class__"))
 c2:W.specialIn K (.builtin "object.__class__") "__get__"=some (some (.builtin "getset_descriptor.__get__"))
 c3:W.takesIn K (.builtin "object.__class__")=some true
 c4:W.mroIn K C (.type "object")=some true
 self:W.kitOne K (.ref C) (.ref C)=some true
 n_kept_gaps:Ey K C "kept_gaps"
 n_kept_weights:Ey K C "kept_weights"
structure Kg(K:W.Frag)(mg:Str->Option Value)(C:Addr):Prop where
 m:mg "Desk"=some (.ref C)
 cl:Cls K C
 c1:W.findIn K (.ref C) "__class__"=some (some (.builtin "object.__class__"))
 c2:W.specialIn K (.builtin "object.__class__") "__get__"=some (some (.builtin "getset_descriptor.__get__"))
 c3:W.takesIn K (.builtin "object.__class__")=some true
 c4:W.mroIn K C (.type "object")=some true
 self:W.kitOne K (.ref C) (.ref C)=some true
 n_kept:Ey K C "kept"
def Dw:List (Str×List Str):=[("cord",["new","cord"]),("turn",["new","name"]),("join",["new","name","name"]),("heavier",["new","name","whole","fraction"]),("longer",["new","name","whole","fraction"]),("find",["new","two polys"]),("even",["new","length and worths"]),("drop",["name"]),("show",["name"]),("poly",["name","which"]),("count",["name","end","fraction"]),("span",["name","end","whole","halvings"]),("mode",["name","end","fraction"]),("alike",["name","name","end"])]
structure Ln(P:Program)(w:World)(K:W.Frag)(mg:Str->Option Value)(d:Addr):Prop where
 m:mg "FORMS"=some (.ref d)
 t:AGv P w K d Dw
def top(i:Nat):Stmt:=PySem.Challenge.pw_tautcord_k86_rows_refused.main.body.getD i (.Pass ⟨0,0,0,0⟩)
abbrev Gs:Stmt:=Bb (top 3) 0
abbrev Js:Stmt:=top 9
abbrev Mv:Stmt:=top 10
abbrev Gw:Stmt:=top 12
abbrev DY:Stmt:=top 13
abbrev XF:Stmt:=top 14
abbrev Nj:Stmt:=top 15
abbrev Nx:Stmt:=top 16
abbrev APt:Stmt:=top 17
abbrev J4:Stmt:=top 18
abbrev Xa:Stmt:=top 19
abbrev JM:Stmt:=top 20
abbrev Eg:Stmt:=top 23
abbrev JB:Stmt:=Bb (top 24) 0
abbrev JG:Stmt:=Bb (top 24) 1
abbrev GF:Stmt:=Bb (top 24) 2
abbrev Hi:Stmt:=Bb (top 24) 3
abbrev ACJ:Stmt:=Bb (top 24) 4
abbrev ACG:Stmt:=Bb (top 24) 5
abbrev Mh:Stmt:=top 26
abbrev Pj:Stmt:=top 27
abbrev ALW:Stmt:=top 28
abbrev Ho:Stmt:=top 29
abbrev IK:Stmt:=top 30
abbrev AOs:Stmt:=top 32
abbrev AOc:Stmt:=top 33
abbrev AAQ:Stmt:=top 34
abbrev AOi:Stmt:=top 35
abbrev ALk:Stmt:=top 36
abbrev W3:Stmt:=top 38
abbrev ADm:Stmt:=top 39
abbrev ADo:Stmt:=top 40
abbrev ACV:Stmt:=top 41
abbrev ANe:Stmt:=top 42
abbrev Fj:Stmt:=top 43
abbrev Do:Stmt:=top 44
abbrev ACI:Stmt:=top 45
abbrev O5:Stmt:=top 47
abbrev Eb:Stmt:=top 48
abbrev Gq:Stmt:=top 49
abbrev Jc:Stmt:=top 50
abbrev DQ:Stmt:=top 51
abbrev APm:Stmt:=top 53
abbrev AOk:Stmt:=top 54
abbrev AO6:Stmt:=top 55
abbrev APK:Stmt:=top 56
abbrev APv:Stmt:=top 57
abbrev AAr:Stmt:=top 58
abbrev IW:Stmt:=top 60
abbrev WD:Stmt:=top 61
abbrev Zw:Stmt:=top 62
abbrev X4:Stmt:=top 63
abbrev ACH:Stmt:=top 64
abbrev FW:Stmt:=top 66
abbrev Fv:Stmt:=top 68
abbrev XJ:Stmt:=top 69
abbrev Fg:Stmt:=top 73
abbrev Hs:Stmt:=top 74
abbrev Ie:Stmt:=top 75
abbrev Fl:Stmt:=top 76
abbrev Hh:Stmt:=top 77
abbrev FT:Stmt:=top 78
abbrev Hl:Stmt:=top 79
abbrev FN:Stmt:=top 80
abbrev Fb:Stmt:=top 81
abbrev El:Stmt:=top 82
abbrev Gj:Stmt:=top 88
abbrev J0:Stmt:=top 89
abbrev Hf:Stmt:=top 90
abbrev Gf:Stmt:=top 91
abbrev Hr:Stmt:=top 92
abbrev Fd:Stmt:=top 93
abbrev Gy:Stmt:=top 94
abbrev JF:Stmt:=top 95
abbrev Di:Stmt:=top 96
abbrev AOh:Stmt:=top 98
abbrev W4:Stmt:=top 100
abbrev AD5:Stmt:=top 101
abbrev Iu:Stmt:=Bb (top 103) 0
abbrev Jm:Stmt:=Bb (top 103) 1
abbrev DN:Stmt:=Bb (top 103) 2
abbrev GJ:Stmt:=Bb (top 103) 3
abbrev WP:Stmt:=top 104
abbrev Og:Stmt:=top 105
abbrev APx:Stmt:=top 106
abbrev AJe:Stmt:=top 107
abbrev Lf:Stmt:=top 109
abbrev Ds:Stmt:=top 110
abbrev Ej:Stmt:=top 111
abbrev Il:Stmt:=top 112
abbrev JC:Stmt:=top 113
abbrev Ij:Stmt:=top 114
abbrev O9:Stmt:=top 115
abbrev FnX(K:W.Frag)(x qual:Str)(st:Stmt)(f:Addr)(fd:FuncData):Prop:=∃(oc:Value) (od:Option Addr) (kV doc pm:Value) (an:Option Addr) (cdv ct:Value) (osl:Array (Option Value)),
   fd=W.fnOf x qual (Bm st) (Bd st) (Ae st) .none kV doc pm an cdv ct/\K.lookup f=some ⟨oc,od,.func fd,osl⟩/\W.codeIn K cdv qual=true
def JL:Sp:=fun vs H Q _=>∃a b,vs=[.int a,.int b]/\Q (.int (g a b)) H
def AOm(K:W.Frag):Sp:=fun vs H Q _=>∃(a:Addr) (ns:List Int) (k:Nat),vs=[.ref a,.int k]/\SqL K H a (ns.map V.int)/\Q (.int (AL6 ns k)) H
def AMg:Sp:=fun vs H Q _=>∃c k,vs=[.int c,.int k]/\(0<=k/\k<=1000)/\Q (.int (ALz c k)) H
def AJf:Sp:=fun vs H Q _=>∃n,vs=[.int n]/\∀H',Al H H'->Q (.int (AIr n)) H'
def AP3:Sp:=fun vs H Q _=>∃t b,vs=[.int t,.int b]/\0<b/\Bt 8000 b/\∀r H',Al H H'->Pr H' r (t/g t b) (b/g t b)->Q (.ref r) H'
def AKl:Sp:=fun vs H Q _=>∃n,vs=[.int n]/\0<=n/\∀r x y H',Al H H'->Fq x y->Bt 101 x->Bt 101 y->Pr H' r x y->Q (.ref r) H'
def PX:Sp:=fun vs H Q _=>∃i,vs=[.int i]/\Q (.bl true) H
def AQK:Sp:=fun vs H Q _=>∃r x y t b,vs=[.ref r,.int t,.int b]/\Pr H r x y/\Fq x y/\x*b=t*y/\IntMulOk x b/\IntMulOk t y/\Q (.bl true) H
def Nr:Sp:=fun vs H Q _=>∃p q a b c d,vs=[.ref p,.ref q]/\Pr H p a b/\Pr H q c d/\0<b/\0<d/\Bt 8000 a/\Bt 8000 b/\Bt 8000 c/\Bt 8000 d/\∀r H',Al H H'->Pr H' r (VD a b c d) (Vl a b c d)->Q (.ref r) H'
def Ui:Sp:=fun vs H Q _=>∃p q a b c d,vs=[.ref p,.ref q]/\Pr H p a b/\Pr H q c d/\0<b/\0<d/\Bt 8000 a/\Bt 8000 b/\Bt 8000 c/\Bt 8000 d/\∀r H',Al H H'->Pr H' r (VD a b (-c) d) (Vl a b (-c) d)->Q (.ref r) H'
def VL:Sp:=fun vs H Q _=>∃p q a b c d,vs=[.ref p,.ref q]/\Pr H p a b/\Pr H q c d/\0<b/\0<d/\Bt 8000 a/\Bt 8000 b/\Bt 8000 c/\Bt 8000 d/\∀r H',Al H H'->Pr H' r (We a b c d) (Wn a b c d)->Q (.ref r) H'
def S5(K:W.Frag):Sp:=fun vs H Q _=>∃(a:Addr) (ns:List Int),vs=[.ref a]/\SqL K H a (ns.map V.int)/\ns.length<=63/\∀H',Q (.bl true) H'
theorem ABs(h:0<b)(k:Bt n b):Bt n (g t b):=by
 refine k.of_le ?_;have h1:g t b<=b:=Int.le_of_dvd h (Br t b);have h2:=HQ t b;omega
section
variable {P:Program}{w:World}{K:W.Frag}{mg:Str->Option Value}{base:Heap}{f:Addr}{fd:FuncData}
theorem Et:Ao ["one","other","first","second","rest"] ["one","other"] (Ae Mv):=fsc
theorem W8(F:Fun K "divisor" "divisor" Mv f fd)(T:Txt mg):BR P w K mg base CX0 1 f fd ["one","other"] JL:=by
 refine F.okk Et fun vs H Q E h=>?_;obtain⟨a,b,rfl,q⟩:=h;refine⟨rfl,fun cdv A outer s hr=>?_⟩;refine⟨_,(Ac (pS 2 Et.nd (Ax VP rfl T.z_abs boot_abs (Aa (pv 0) Ab)))
   (Ac (pS 3 Et.nd (Ax VP rfl T.z_abs boot_abs (Aa (pv 1) Ab)))
   (Ac (Vi ASm (Am HN (pv 3) Ad (Av _))
    (Ac (pS 4 Et.nd (Ak Dm (pv 2) (pv 3)))
    (Ac (pS 2 Et.nd (pv 3))
    (Af (pS 3 Et.nd (pv 4))))))
   (Af (Aq (pv 2)))))),?_⟩
 refine⟨_,rfl,_,rfl,_,rfl,_,rfl,?_⟩;refine⟨fun m Y H'=>∃x y r,Y=[some (.int a),some (.int b),some (.int x),some (.int y),r]/\H=H'/\0<=x/\0<=y/\g x y=g a b/\m=y.toNat,⟨_,_,_,_,rfl,rfl,?_,?_,ANg a b,rfl⟩,?_⟩
 .split<;>omega
 .split<;>omega
 rintro m Y _ ⟨x,y,r,rfl,rfl,hx,hy,e,rfl⟩;walk_at "aq";refine Cw (fun c=>⟨fun zd H'=>∃m',m'<y.toNat/\∃x y r,zd=[some (.int a),some (.int b),some (.int x),some (.int y),r]/\H=H'/\0<=x/\0<=y/\g x y=g a b/\m'=y.toNat,fun _ _ h=>h,?_⟩) (fun c=>?_)
 .have c':(0:Int)<y:=of_decide_eq_true c;refine⟨_,rfl,_,rfl,_,_,rfl,rfl,c',_,rfl,_,rfl,?_⟩;have h1:=AR5 x (show y≠0 by omega);have h2:=ARz x c';exact⟨_,by omega,y,x%y,_,rfl,rfl,hy,h1,by rw[AIg hx c',e],rfl⟩
 .have c':¬(0:Int)<y:=of_decide_eq_false (Bool.eq_false_iff.mpr c);have y0:y=0:=by omega
  refine⟨_,rfl,?_⟩;rw[<-e,y0,ALe hx]at q;exact q
theorem N7:Ao ["one","other","shared","top","left"] ["one","other"] (Ae XF):=fsc
theorem ADE(F:Fun K "plus" "plus" XF f fd)(T:Txt mg)(ay:Cal P w K mg base "divisor" 1 ["one","other"] JL):BR P w K mg base CX0 2 f fd ["one","other"] Nr:=by
 refine F.okk N7 fun vs H Q E h=>?_;obtain⟨p,q,a,b,c,d,rfl,hp,hq,hb,hd,ba,bb,bc,bd,k⟩:=h;refine⟨rfl,fun cdv A outer s hr=>?_⟩;have c1:0<g b d/\Bt 9000 (g b d):=⟨Hx (by omega),(ABs hd bd).mono (by decide)⟩;have c2:0<g (Wh a b c d) (g b d)/\Bt 9000 (g (Wh a b c d) (g b d)):=⟨Hx (by omega),ABs c1.1 c1.2⟩;have m1:IntMulOk a (d/g b d):=Ek ba bd.ediv (by decide);have m2:IntMulOk c (b/g b d):=Ek bc bb.ediv (by decide);have m3:IntMulOk (b/g b d) (d/g (Wh a b c d) (g b d)):=Ek bb.ediv bd.ediv (by decide);refine⟨_,(Ac (pS 2 N7.nd (BW ay hr (Aa (ixT (pv 0) Ad) (Aa (ixT (pv 1) Ad) Ab))))
   (Ac (pS 3 N7.nd (Ak J6 (Ak Cg (ixT (pv 0) Ad) (Ak Ca (ixT (pv 1) Ad) (pv 2))) (Ak Cg (ixT (pv 1) Ad) (Ak Ca (ixT (pv 0) Ad) (pv 2)))))
   (Ac (pS 4 N7.nd (BW ay hr (Aa (pv 3) (Aa (pv 2) Ab))))
   (Af (Aq (CZ (Aa (Ak Ca (pv 3) (pv 4)) (Aa (Ak Cg (Ak Ca (ixT (pv 0) Ad) (pv 2)) (Ak Ca (ixT (pv 1) Ad) (pv 4))) Ab)))))))),?_⟩
 walk_at "aA";refine⟨_,rfl,_,_,_,_,rfl,rfl,hp.sq,rfl,_,rfl,_,_,_,_,rfl,rfl,hq.sq,rfl,_,rfl,_,_,rfl,rfl,c1,_,_,rfl,rfl,m1,_,rfl,_,_,_,_,rfl,rfl,hq.sq,rfl,_,rfl,_,_,_,_,rfl,rfl,hp.sq,rfl,_,rfl,_,_,rfl,rfl,c1,_,_,rfl,rfl,m2,_,_,rfl,rfl,?_⟩;refine⟨_,rfl,_,rfl,_,_,rfl,?_⟩;exact⟨_,rfl,_,rfl,_,_,rfl,rfl,c2,_,rfl,_,_,_,_,rfl,rfl,hp.sq,rfl,_,rfl,_,_,rfl,rfl,c1,_,rfl,_,_,_,_,rfl,rfl,hq.sq,rfl,_,rfl,_,_,rfl,rfl,c2,_,_,rfl,rfl,m3,(by show 2<=sizeLine;decide),fun r h=>k r _ (Aj h _) Pr.new⟩
theorem ABG:Ao ["one","other"] ["one","other"] (Ae Nj):=fsc
theorem Z4(F:Fun K "minus" "minus" Nj f fd)(T:Txt mg)(cu:Cal P w K mg base "plus" 2 ["one","other"] Nr):BR P w K mg base CX0 3 f fd ["one","other"] Ui:=by
 refine F.okk ABG fun vs H Q E h=>?_;obtain⟨p,q,a,b,c,d,rfl,hp,hq,hb,hd,ba,bb,bc,bd,k⟩:=h;walk_at "b";refine⟨_,(Af (Aq (BW cu hr (Aa (pv 0) (Aa (CZ (Aa (Hv Fi (ixT (pv 1) Ad)) (Aa (ixT (pv 1) Ad) Ab))) Ab))))),?_⟩;refine⟨_,rfl,_,rfl,_,_,_,_,rfl,rfl,hq.sq,rfl,_,rfl,_,rfl,_,_,_,_,rfl,rfl,hq.sq,rfl,(by show 2<=sizeLine;decide),fun r h=>?_⟩;exact⟨_,_,_,_,_,_,rfl,hp.keep (Aj h _),Pr.new,hb,hd,ba,bb,bc.neg,bd,fun r' H' s' h'=>k r' H' ((Aj h _).trans s') h'⟩
theorem O6:Ao ["one","other","first","second"] ["one","other"] (Ae Nx):=fsc
theorem ABv(F:Fun K "times" "times" Nx f fd)(T:Txt mg)(ay:Cal P w K mg base "divisor" 1 ["one","other"] JL):BR P w K mg base CX0 2 f fd ["one","other"] VL:=by
 refine F.okk O6 fun vs H Q E h=>?_;obtain⟨p,q,a,b,c,d,rfl,hp,hq,hb,hd,ba,bb,bc,bd,k⟩:=h;refine⟨rfl,fun cdv A outer s hr=>?_⟩;have c1:0<g a d/\Bt 9000 (g a d):=⟨Hx (by omega),(ABs hd bd).mono (by decide)⟩;have c2:0<g c b/\Bt 9000 (g c b):=⟨Hx (by omega),(ABs hb bb).mono (by decide)⟩;have m1:IntMulOk (a/g a d) (c/g c b):=Ek ba.ediv bc.ediv (by decide);have m2:IntMulOk (b/g c b) (d/g a d):=Ek bb.ediv bd.ediv (by decide);refine⟨_,(Ac (pS 2 O6.nd (BW ay hr (Aa (ixT (pv 0) Ad) (Aa (ixT (pv 1) Ad) Ab))))
   (Ac (pS 3 O6.nd (BW ay hr (Aa (ixT (pv 1) Ad) (Aa (ixT (pv 0) Ad) Ab))))
   (Af (Aq (CZ (Aa (Ak Cg (Ak Ca (ixT (pv 0) Ad) (pv 2)) (Ak Ca (ixT (pv 1) Ad) (pv 3))) (Aa (Ak Cg (Ak Ca (ixT (pv 0) Ad) (pv 3)) (Ak Ca (ixT (pv 1) Ad) (pv 2))) Ab))))))),?_⟩
 walk_at "aA";refine⟨_,rfl,_,_,_,_,rfl,rfl,hq.sq,rfl,_,rfl,_,_,_,_,rfl,rfl,hp.sq,rfl,_,_,rfl,?_⟩;exact⟨_,rfl,_,_,_,_,rfl,rfl,hp.sq,rfl,_,rfl,_,_,rfl,rfl,c1,_,rfl,_,_,_,_,rfl,rfl,hq.sq,rfl,_,rfl,_,_,rfl,rfl,c2,_,_,rfl,rfl,m1,_,rfl,_,_,_,_,rfl,rfl,hp.sq,rfl,_,rfl,_,_,rfl,rfl,c2,_,rfl,_,_,_,_,rfl,rfl,hq.sq,rfl,_,rfl,_,_,rfl,rfl,c1,_,_,rfl,rfl,m2,(by show 2<=sizeLine;decide),fun r h=>k r _ (Aj h _) Pr.new⟩
def AJc:Sp:=fun vs H Q _=>∃i,vs=[.int i]/\Q (.bl true) H
def AD9(c:Addr):Sp:=fun vs H Q E=>∃t b,vs=[.int t,.int b]/\(b=0->E (.ref c) none H)/\(b≠0->Bt 8000 b/\∀r H',Al H H'->Pr H' r (frN t b) (frD t b)->Q (.ref r) H')
def AOg(cN:Addr):Sp:=fun vs H Q E=>∃p q a b c d,vs=[.ref p,.ref q]/\Pr H p a b/\Pr H q c d/\(c=0->E (.ref cN) none H) /\
 (c≠0->0<b/\0<d/\Bt 8000 a/\Bt 8000 b/\Bt 8000 c/\Bt 8000 d/\∀r H',Al H H'->Pr H' r (We a b (frN d c) (frD d c)) (Wn a b (frN d c) (frD d c))->Q (.ref r) H')
def U5:Sp:=fun vs H Q _=>∃p q a b c d,vs=[.ref p,.ref q]/\Pr H p a b/\Pr H q c d/\IntMulOk a d/\IntMulOk c b/\Q (.bl (decide (a*d<c*b))) H
def Hm:Sp:=fun vs H Q _=>∃p a b,vs=[.ref p]/\Pr H p a b/\Q (.int (sgn a)) H
def ALX:Sp:=fun vs H Q _=>∃p a b,vs=[.ref p]/\Pr H p a b/\Bt 9000 a/\Q (.int (sgn a)) H
theorem Vo:Ao ["thing"] ["thing"] (Ae Js):=fsc
theorem Ua(F:Fun K "is_whole" "is_whole" Js f fd)(T:Txt mg):BR P w K mg base CX0 1 f fd ["thing"] PX:=by
 refine F.okk Vo fun vs H Q E h=>?_;obtain⟨i,rfl,q⟩:=h;walk_at "b";refine⟨_,(Af (Aq (SQ (Ax HX rfl T.z_isinstance boot_isinstance (Aa (pv 0) (Aa (Hk (v:=.ty "int") rfl T.z_int boot_int rfl) Ab))) (S9 (AIf (Ax HX rfl T.z_isinstance boot_isinstance (Aa (pv 0) (Aa (Hk (v:=.ty "bool") rfl T.z_bool boot_bool rfl) Ab)))))))),?_⟩;refine⟨_,rfl,_,_,_,_,rfl,Em.int _,Mw _,_,rfl,Ga ?_⟩;exact⟨_,rfl,_,_,_,_,rfl,Em.int _,La _,_,rfl,q⟩
theorem V7:Ao ["one","other"] ["one","other"] (Ae J4):=fsc
theorem Uw(F:Fun K "is_under" "is_under" J4 f fd)(T:Txt mg):BR P w K mg base CX0 1 f fd ["one","other"] U5:=by
 refine F.okk V7 fun vs H Q E h=>?_;obtain⟨p,q,a,b,c,d,rfl,hp,hq,m1,m2,k⟩:=h;walk_at "b";refine⟨_,(Af (Aq (Gn Jj (Ak Cg (ixT (pv 0) Ad) (ixT (pv 1) Ad)) (Ak Cg (ixT (pv 1) Ad) (ixT (pv 0) Ad)) (Av _)))),?_⟩;exact⟨_,rfl,_,_,_,_,rfl,rfl,hp.sq,rfl,_,rfl,_,_,_,_,rfl,rfl,hq.sq,rfl,_,_,rfl,rfl,m1,_,rfl,_,_,_,_,rfl,rfl,hq.sq,rfl,_,rfl,_,_,_,_,rfl,rfl,hp.sq,rfl,_,_,rfl,rfl,m2,_,_,rfl,rfl,k⟩
theorem ADM:Ao ["one"] ["one"] (Ae Xa):=fsc
theorem ACh(F:Fun K "side" "side" Xa f fd)(T:Txt mg):BR P w K mg base CX0 1 f fd ["one"] Hm:=by
 refine F.okk ADM fun vs H Q E h=>?_;obtain⟨p,a,b,rfl,hp,q⟩:=h;refine⟨rfl,fun cdv A outer s hr=>?_⟩;unfold sgn at q;refine⟨_,(Ac (BP (Am HN (ixT (pv 0) Ad) Ad (Av _))
    (Af (Aq Ad))
    Ar)
   (Ac (BP (Am Jj (ixT (pv 0) Ad) Ad (Av _))
    (Af (Aq (Hv Fi Ad)))
    Ar)
   (Af (Aq Ad)))),?_⟩
 refine⟨_,rfl,_,_,_,_,rfl,rfl,hp.sq,rfl,_,_,rfl,rfl,_,rfl,?_⟩;refine Cw (fun c=>?_) (fun c=>?_)
 .have z:a > 0:=of_decide_eq_true c;rw[if_pos z]at q;exact q
 .have z:¬a > 0:=of_decide_eq_false (Bool.eq_false_iff.mpr c);rw[if_neg z]at q;refine⟨_,rfl,_,_,_,_,rfl,rfl,hp.sq,rfl,_,_,rfl,rfl,_,rfl,?_⟩;refine Cw (fun c2=>?_) (fun c2=>?_)
  .have z2:a<0:=of_decide_eq_true c2;rw[if_pos z2]at q;exact⟨_,rfl,q⟩
  .have z2:¬a<0:=of_decide_eq_false (Bool.eq_false_iff.mpr c2);rw[if_neg z2]at q;exact q
def Ht(n:Nat)(op:Rat->Rat->Rat):Sp:=fun vs H Q _=>∃p q a b,vs=[.ref p,.ref q]/\Pq H p a/\Pq H q b/\Bq n a/\Bq n b/\∀r H',Al H H'->Pq H' r (op a b)->Q (.ref r) H'
def AOj:Sp:=fun vs H Q _=>∃t b,vs=[.int t,.int b]/\0<b/\Bt 8000 b/\∀r H',Al H H'->Pq H' r ((t:Rat)/(b:Rat))->Q (.ref r) H'
def AJd:Sp:=fun vs H Q _=>∃n,vs=[.int n]/\0<=n/\∀r q H',Al H H'->Bq 101 q->Pq H' r q->Q (.ref r) H'
def APV:Sp:=fun vs H Q _=>∃r q t b,vs=[.ref r,.int t,.int b]/\Pq H r q/\b≠0/\q=(t:Rat)/(b:Rat)/\IntMulOk q.num b/\IntMulOk t q.den/\Q (.bl true) H
def APS:Sp:=fun vs H Q _=>∃(a:Addr) (qs:List Rat) (k:Nat),vs=[.ref a,.int k]/\Rw H a qs/\∀p H',Al H H'->Pq H' p (qs.getD k 0)->Q (.ref p) H'
def RD:Sp:=fun vs H Q _=>∃a qs,vs=[.ref a]/\Rw H a qs/\qs.length<=1000/\∀r H',Al H H'->H r=none->Rw H' r (Po.strip qs)->Q (.ref r) H'
def AJi:Sp:=fun vs H Q _=>∃c k w,vs=[.int c,.int k,.int w]/\(0<=k/\k<=900)/\(w=2\/w=3)/\∀r qs H',Al H H'->H r=none->Rw H' r qs->qs.length<=13->(∀q∈qs,Bq 101 q)->(w=2->∀q∈qs,Bq 6 q)->Q (.ref r) H'
def AKH:Sp:=fun vs H Q _=>∃a b qs,vs=[.ref a,.ref b]/\Rw H a qs/\Rw H b qs/\qs.length<=1000/\Q (.bl true) H
abbrev Rws(H:Hp):List Addr->List (List Rat)->Prop:=Paired (Rw H)
def ACm(a h k:Addr)(H:Hp)(R:Hp->Prop):Prop:=∃qs as bs jh,Rw H a qs/\qs.length<=1000/\H h=some (.lst (as.map V.ref))/\Rws H as jh/\H k=some (.lst (bs.map V.ref))/\Rws H bs jh /\
 a∉as/\a∉bs/\a≠h/\a≠k/\h∉as/\as.length<=2/\(∀rs∈jh,rs.length<=1000)/\∀H',Sx (a::as) H H'->R H'
def AMo:Sp:=fun vs H Q _=>∃a h k,vs=[.ref a,.ref h,.ref k]/\ACm a h k H fun H'=>Q (.bl true) H'
theorem ABR(h:Ht 8000 (·+·) vs H Q E):Nr vs H Q E:=by
 obtain⟨p,q,a,b,rfl,hp,hq,ba,bb,k⟩:=h;exact⟨p,q,_,_,_,_,rfl,hp,hq,den_pos a,den_pos b,ba.1,ba.2,bb.1,bb.2,fun r H' s hr=>k r H' s (Pq.of hr ⟨(ABi a b).1.symm,(ABi a b).2.symm⟩)⟩
theorem Zi(h:Ht 8000 (·-·) vs H Q E):Ui vs H Q E:=by
 obtain⟨p,q,a,b,rfl,hp,hq,ba,bb,k⟩:=h;exact⟨p,q,_,_,_,_,rfl,hp,hq,den_pos a,den_pos b,ba.1,ba.2,bb.1,bb.2,fun r H' s hr=>k r H' s (Pq.of hr ⟨(ADz a b).1.symm,(ADz a b).2.symm⟩)⟩
theorem Yg(h:Ht 8000 (·*·) vs H Q E):VL vs H Q E:=by
 obtain⟨p,q,a,b,rfl,hp,hq,ba,bb,k⟩:=h;exact⟨p,q,_,_,_,_,rfl,hp,hq,den_pos a,den_pos b,ba.1,ba.2,bb.1,bb.2,fun r H' s hr=>k r H' s (Pq.of hr ⟨(AAd a b).1.symm,(AAd a b).2.symm⟩)⟩
theorem Yv(F:Fun K "minus" "minus" Nj f fd)(T:Txt mg)(cu:Cal P w K mg base "plus" 2 ["one","other"] Nr):BR P w K mg base CX0 3 f fd ["one","other"] (Ht 8000 (·-·)):=(Z4 F T cu).imp fun _ _ _ _=>Zi
theorem Y0(F:Fun K "times" "times" Nx f fd)(T:Txt mg)(ay:Cal P w K mg base "divisor" 1 ["one","other"] JL):BR P w K mg base CX0 2 f fd ["one","other"] (Ht 8000 (·*·)):=(ABv F T ay).imp fun _ _ _ _=>Yg
theorem Ni:sgn a=0 ↔ a=0:=by
 unfold sgn
 split
 .omega
 .split<;>omega
theorem Rx:Ao ["figures","most"] ["figures"] (Ae W3):=fsc
theorem ACj(F:Fun K "poly" "poly" W3 f fd)(T:Txt mg)(aS:Cal P w K mg base "side" 1 ["one"] Hm):BR P w K mg base CX0 2 f fd ["figures"] RD:=by
 refine F.okk Rx fun vs H Q E h=>?_;obtain⟨a,qs,rfl,⟨ps,h1,h2⟩,hz,q⟩:=h;refine⟨rfl,fun cdv A outer s hr=>?_⟩;have hl:=h2.length;refine⟨_,(Ac (pS 1 Rx.nd (Ax BV rfl T.z_len ARW (Aa (pv 0) Ab)))
   (Ac (Vi ASm (PW.pt (AFY (Am HN (pv 1) Ad (Av _)) (ACq (Am Bs (BW aS hr (Aa (ixL (pv 0) (Ak Jw (pv 1) Ad)) Ab)) Ad (Av _)))))
    (Af (AHw (i:=1) Rx.nd rfl (Or.inl rfl) Ad AFK)))
   (Af (Aq (Cr JW (pv 0) Dr (DG (pv 1))))))),?_⟩
 refine⟨_,rfl,a,_,rfl,.inl (SqL.of h1),?_⟩;refine⟨fun m Y H'=>∃n:Nat,Y=[some (.ref a),some (.int n)]/\H=H'/\n<=qs.length/\Po.strip (qs.take n)=Po.strip qs/\m=n,⟨_,qs.length,?_,rfl,ARH _,by rw[AR2],rfl⟩,?_⟩
 .rw[Io,hl];rfl
 rintro m Y _ ⟨n,rfl,rfl,hn,e,rfl⟩;have fin:Po.strip qs=qs.take m->∀p,H p=none->Q (.ref p) (upd H p (.lst (GK (ps.map V.ref) none (some (m:Int))))):=fun e2 p hp=>by
  refine q p _ (Aj hp _) hp ⟨ps.take m,?_,?_⟩
  .rw[Ag];unfold GK;rw[HT.sIx_none,HT.sIx_nat,Io,AUH (by omega),ASc,AT4];rfl
  .rw[e2];exact(h2.take m).keep (Aj hp _)
 walk_at "aq";refine Cw (fun c=>?_) (fun c=>?_)
 .have c':(0:Int)<m:=of_decide_eq_true c;obtain⟨n,rfl⟩:∃n,m=n+1:=⟨m-1,by omega⟩;have hlt:n<qs.length:=by omega
  have eq:=AQ9 hlt;obtain⟨p,e1,hp⟩:=h2.get eq;have e0:((n+1:Nat):Int)-1=(n:Int):=by omega
  have ei:atI (ps.map V.ref) (((n+1:Nat):Int)-1)=some (.ref p):=by
   rw[e0];exact Df e1
  refine⟨_,rfl,_,rfl,_,_,rfl,rfl,a,_,_,_,rfl,rfl,SqL.of h1,ei,_,_,_,rfl,hp,rfl,_,rfl,?_⟩;refine Cw (fun c2=>⟨fun zd H'=>∃m',m'<n+1/\∃n:Nat,zd=[some (.ref a),some (.int n)]/\H=H'/\n<=qs.length/\Po.strip (qs.take n)=Po.strip qs/\m'=n,fun _ _ h=>h,?_⟩) (fun c2=>?_)
  .have z:qs[n]=0:=Vy.mp (Ni.mp (V.int.inj (of_decide_eq_true c2)));refine⟨_,rfl,_,_,rfl,rfl,n,by omega,n,?_,rfl,by omega,?_,rfl⟩
   .show [some (V.ref a),some (V.int (((n+1:Nat):Int)-1))]=_;rw[e0]
   .rw[Po.take_snoc eq,z,Po.strip_snoc0]at e;exact e
  .have z:qs[n]≠0:=fun z=>of_decide_eq_false (Bool.eq_false_iff.mpr c2) (congrArg V.int (Ni.mpr (Vy.mpr z)));refine⟨_,rfl,_,rfl,_,rfl,_,_,rfl,SqL.of h1,fun p hp=>fin ?_ p hp⟩;rw[Po.take_snoc eq,Po.strip_snoc z]at e;rw[<-e,Po.take_snoc eq]
 .have c':¬(0:Int)<m:=of_decide_eq_false (Bool.eq_false_iff.mpr c);obtain rfl:m=0:=by omega
  refine FZ ?_;refine⟨_,rfl,_,rfl,_,rfl,_,_,rfl,SqL.of h1,fun p hp=>fin ?_ p hp⟩;rw[<-e];rfl
def ANw(ns:List Int)(k:Nat):Int:=ns.getD k 0
def AMO(K:W.Frag):Sp:=fun vs H Q _=>∃(a:Addr) (ns:List Int) (k:Nat),vs=[.ref a,.int k]/\SqL K H a (ns.map V.int)/\Q (.int (ANw ns k)) H
def APq:Sp:=fun vs H Q _=>∃a b,vs=[.int a,.int b]/\0<=b/\Q (.int (g a b)) H
def AHF:Sp:=fun vs H Q _=>∃(c:Int) (m:Nat),vs=[.int c,.int m]/\m<=100/\∀(r:Addr) (ns:List Int) (H':Hp),Al H H'->H r=none->H' r=some (.lst (ns.map V.int))->ns.length=m->(∀n∈ns,0<=n/\n<100000)->Q (.ref r) H'
def abv(v:Int):Rat:=((1+v%12:Int):Rat)/((1+v/12%12:Int):Rat)
def ALD:Sp:=fun vs H Q _=>∃v,vs=[.int v]/\∀r H',Al H H'->Pq H' r (abv v)->Q (.ref r) H'
structure Drawn(mo:Nat)(gs ws:List Rat):Prop where
 len:gs.length=ws.length+1
 most:ws.length<=mo
 pos:(∀q∈gs,0<q)/\∀q∈ws,0<q
 size:((∀q∈gs,Bq 4 q)/\∀q∈ws,Bq 4 q)\/(ws.length<=1+mo/11/\(∀q∈gs,Bq 101 q)/\∀q∈ws,Bq 101 q)
def AFv(K:W.Frag):Sp:=fun vs H Q _=>∃(a:Addr) (ns:List Int) (most:Nat),vs=[.ref a,.int most]/\SqL K H a (ns.map V.int)/\(∀n∈ns,Bt 1048576 n)/\(4<=most/\most<=12) /\
 ∀r ga wa gs ws H',Al H H'->H' r=some (.tup [.ref ga,.ref wa])->H ga=none->H wa=none->ga≠wa->Rw H' ga gs->Rw H' wa ws->Drawn most gs ws->Q (.ref r) H'
def AOo(K:W.Frag):Sp:=fun vs H Q _=>∃(a:Addr) (ns:List Int),vs=[.ref a]/\SqL K H a (ns.map V.int)/\ns.length<=63/\(∀n∈ns,Bt 1048576 n)/\∀H',Q (.bl true) H'
def AQi(H:Hp)(a xs:Addr)(mo:Nat)(hd:Int)(zd:L2.St)(H':Hp):Prop:=∃(m':Nat) (pt:Addr) (qs:List Rat) (v w:Option V),zd=[some (.ref a),some (.int mo),some (.int hd),some (.int m'),some (.ref xs),some (.ref pt),v,w]/\Al H H'/\H pt=none/\Rw H' pt qs/\qs.length=2*m'+1/\m'<=mo/\(∀q∈qs,0<q)/\((∀q∈qs,Bq 4 q)\/(m'<=1+mo/11/\∀q∈qs,Bq 101 q))
def AQ5(H2:Hp)(a xs pt:Addr)(mo m':Nat)(hd:Int)(i:Nat)(Y:L2.St)(H':Hp):Prop:=∃(v w:Option V) (qs:List Rat),Y=[some (.ref a),some (.int mo),some (.int hd),some (.int m'),some (.ref xs),some (.ref pt),v,w]/\Al H2 H'/\Rw H' pt qs/\qs.length=i/\(∀q∈qs,0<q)/\∀q∈qs,Bq 101 q
def Co(C:Addr)(H:Hp)(c ga wa:Addr)(gs ws:List Rat):Prop:=(∃dx,H c=some (.ins C dx [("kept_gaps",.ref ga),("kept_weights",.ref wa)]))/\Rw H ga gs/\Rw H wa ws
theorem Co.keep(h:Co C H c ga wa gs ws)(s:Al H H'):Co C H' c ga wa gs ws:=by
 obtain⟨⟨dx,e⟩,r1,r2⟩:=h;exact⟨⟨dx,s _ _ e⟩,r1.keep s,r2.keep s⟩
structure AHm(gs ws:List Rat):Prop where
 len:gs.length=ws.length+1
 most:ws.length<=12
 pos:(∀q∈gs,0<q)/\∀q∈ws,0<q
 bq:(∀q∈gs,Bq 101 q)/\∀q∈ws,Bq 101 q
def AOp(C:Addr):Sp:=fun vs H Q _=>∃x a b gs ws dx,vs=[.ref x,.ref a,.ref b]/\H x=some (.ins C dx [])/\Rw H a gs/\Rw H b ws/\AHm gs ws /\
 ∀ga wa H',(∀b o,b≠x->H b=some o->H' b=some o)->H ga=none->H wa=none->Co C H' x ga wa gs ws->Q .non H'
structure Qs(gs ws:List Rat):Prop where
 len:gs.length=ws.length+1
 most:ws.length<=12
 pos:(∀q∈gs,0<q)/\∀q∈ws,0<q
def AJl(C:Addr):Sp:=fun vs H Q _=>∃x a b gs ws dx,vs=[.ref x,.ref a,.ref b]/\H x=some (.ins C dx [])/\Rw H a gs/\Rw H b ws/\Qs gs ws /\
 ∀ga wa H',(∀b o,b≠x->H b=some o->H' b=some o)->H ga=none->H wa=none->Co C H' x ga wa gs ws->Q .non H'
def KR(C:Addr):Sp:=fun vs H Q _=>∃c ga wa gs ws,vs=[.ref c]/\Co C H c ga wa gs ws/\∀r H',Al H H'->H r=none->Rw H' r gs->Q (.ref r) H'
def Fy(C:Addr):Sp:=fun vs H Q _=>∃c ga wa gs ws,vs=[.ref c]/\Co C H c ga wa gs ws/\∀r H',Al H H'->H r=none->Rw H' r ws->Q (.ref r) H'
def LK(C:Addr):Sp:=fun vs H Q _=>∃c ga wa gs ws,vs=[.ref c]/\Co C H c ga wa gs ws/\Q (.int ws.length) H
def AJb(C:Addr):Sp:=fun vs H Q _=>∃c ga wa gs ws,vs=[.ref c]/\Co C H c ga wa gs ws/\gs.length<=13/\(∀q∈gs,Bq 101 q)/\∀r H',Al H H'->Pq H' r (Po.lsum gs)->Q (.ref r) H'
def AJh(C:Addr):Sp:=fun vs H Q _=>∃c ga wa gs ws,vs=[.ref c]/\Co C H c ga wa gs ws/\AHm gs ws/\∀c' i0 i4 H',Al H H'->H c'=none->H i0=none->H i4=none->Co C H' c' i0 i4 gs.reverse ws.reverse->Q (.ref c') H'
def AOl:Sp:=fun vs H Q _=>∃p q,vs=[.ref p]/\Pq H p q/\Q (.bl true) H
def ACR:Sp:=fun vs H Q _=>∃a qs,vs=[.ref a]/\Rw H a qs/\(∀q∈qs,0<q)/\qs.length<=1000/\∀H',Al H H'->Q (.bl true) H'
def AJg:Sp:=fun vs H Q _=>∃i,vs=[.int i]/\Q (.bl true) H
def AL7:Sp:=fun vs H Q _=>∃p p' q,vs=[.ref p,.ref p']/\Pq H p q/\Pq H p' q/\Q (.bl true) H
def ACM:Sp:=fun vs H Q _=>∃a b qs,vs=[.ref a,.ref b]/\Rw H a qs/\Rw H b qs/\qs.length<=1000/\Q (.bl true) H
def APH:Sp:=fun vs H Q _=>∃a gs,vs=[.ref a]/\Rw H a gs/\gs.length<=13/\(∀q∈gs,Bq 101 q)/\∀r H',Al H H'->Pq H' r (Po.lsum gs)->Q (.ref r) H'
def AOb(C:Addr):Sp:=fun vs H Q _=>∃c ga wa g w gs ws,vs=[.ref c,.ref g,.ref w]/\Co C H c ga wa gs ws/\Rw H g gs/\Rw H w ws/\AHm gs ws/\∀H',Al H H'->Q (.bl true) H'
variable {au:Addr}
theorem TX:Ao ["self"] ["self"] (Ae JG):=fsc
theorem R4(F:Fun K "gaps" "Cord.gaps" JG f fd)(T:Txt mg)(O:K4 K mg au):BR P w K mg base CX0 1 f fd ["self"] (KR au):=by
 refine F.okk TX fun vs H Q E h=>?_;walk_at "ad";walk_at "b";obtain⟨xs,hx,_⟩:=r1.there;walk_at "aH";exact⟨_,rfl,c,_,dx,_,_,rfl,e,O.cl,O.n_kept_gaps,rfl,ga,_,rfl,.inl (SqL.of hx),fun r hr'=>q r _ (Aj hr' _) hr' (r1.copy hx hr')⟩
theorem NZ:Ao ["self"] ["self"] (Ae GF):=fsc
theorem Nb(F:Fun K "weights" "Cord.weights" GF f fd)(T:Txt mg)(O:K4 K mg au):BR P w K mg base CX0 1 f fd ["self"] (Fy au):=by
 refine F.okk NZ fun vs H Q E h=>?_;walk_at "ad";walk_at "b";obtain⟨xs,hx,_⟩:=r2.there;walk_at "aH";exact⟨_,rfl,c,_,dx,_,_,rfl,e,O.cl,O.n_kept_weights,rfl,wa,_,rfl,.inl (SqL.of hx),fun r hr'=>q r _ (Aj hr' _) hr' (r2.copy hx hr')⟩
theorem Qk:Ao ["self"] ["self"] (Ae Hi):=fsc
theorem QX(F:Fun K "beads" "Cord.beads" Hi f fd)(T:Txt mg)(O:K4 K mg au):BR P w K mg base CX0 1 f fd ["self"] (LK au):=by
 refine F.okk Qk fun vs H Q E h=>?_;walk_at "ad";walk_at "b";obtain⟨xs,hx,hl⟩:=r2.there;refine⟨_,(Af (Aq (Ax BV rfl T.z_len ARW (Aa (Jp (pv 0) rfl) Ab)))),?_⟩;rw[<-hl]at q;exact⟨_,rfl,c,_,dx,_,_,rfl,e,O.cl,O.n_kept_weights,rfl,wa,_,rfl,.inl (SqL.of hx),q⟩
def F30(q:Rat):Prop:=q.num.natAbs<10^30/\q.den<10^30
theorem F30.log(h:F30 q):q.num.natAbs.log2<1920/\(q.den:Int).natAbs.log2<1920:=by
 have k:∀n:Nat,n<10^30->n.log2<1920:=fun n hn=>by
  by_cases z:n=0
  .rw[z];decide
  .refine(AVg z).mpr (ARX hn ?_);exact ASF (show 10^30<=2^100 by decide +kernel) (ATP (by decide) (by decide))
 exact⟨k _ h.1,k _ h.2⟩
theorem Rt(h:i.natAbs<10^30):(itx i).length<=31:=by
 have:=Je (k:=30) (by decide) h;unfold itx
 split
 .rw[ARD];omega
 .omega
theorem Nu(h:F30 q):(ftx q).length<=62:=by
 have h1:=Rt h.1;have h2:=Je (k:=30) (by decide) h.2;unfold ftx
 split
 .omega
 .rw[ARG,ARD];omega
def Ld:Sp:=fun vs H Q _=>∃p q,vs=[.ref p]/\Pq H p q/\F30 q/\Q (.str (sx (ftx q))) H
def Jr(l:List Nat):Bool:=if l.length<1 then false else if 30<l.length then false else(l.map fun c=>decide (c∈([48,49,50,51,52,53,54,55,56,57]:List Nat))).all id
def Uc:Sp:=fun vs H Q _=>∃l,vs=[.str (sx l)]/\(∀c∈l,c<128)/\l.length<=100000/\∀H',Al H H'->Q (.bl (Jr l)) H'
def Gz(l:List Nat):List Nat:=if l[0]?=some 45 then l.drop 1 else l
def YG:Sp:=fun vs H Q _=>∃l,vs=[.str (sx l)]/\l.length<=100000/\Q (.str (sx (Gz l))) H
theorem OD(n:Int):Gz (itx n)=dgs n.natAbs:=by
 unfold Gz itx;by_cases h:n<0
 .rw[if_pos h,if_pos (by rfl)];rfl
 .rw[if_neg h,if_neg];intro z;have:=Im _ 45 (ARf z);exact absurd this.1 (by decide)
theorem Np(h:m<10^30):Jr (dgs m)=true:=by
 have h1:=Je (k:=30) (by decide) h;have h2:=AS2.mpr (Oj m);unfold Jr;rw[if_neg (by omega),if_neg (by omega),ARg];intro b hb;obtain⟨c,hc,rfl⟩:=ARR.mp hb;obtain⟨k1,k2⟩:=Im m c hc;refine decide_eq_true ?_;have:c=48\/c=49\/c=50\/c=51\/c=52\/c=53\/c=54\/c=55\/c=56\/c=57:=by omega
 simpa using this
theorem Q3(q:Rat):(q.den=1/\Dl (sx (ftx q)) (sx [47])=[sx (itx q.num),Str.empty,Str.empty])\/(q.den≠1/\Dl (sx (ftx q)) (sx [47])=[sx (itx q.num),sx [47],sx (dgs q.den)]):=by
 have hf:47∉itx q.num:=Ii (by decide) (fun z=>absurd z.1 (by decide)) _;unfold ftx;by_cases h:q.den=1
 .rw[if_pos h];exact .inl ⟨h,Li hf⟩
 .rw[if_neg h];exact .inr ⟨h,Mg hf⟩
theorem AKj{ta tb:TE}(M:V)(h1:b=true->R M H->ta Y H R)(h2:¬b=true->R M H->tb Y H R)(h:R M H):if b=true then ta Y H R else tb Y H R:=by
 by_cases z:b=true
 .rw[if_pos z];exact h1 z h
 .rw[if_neg z];exact h2 z h
theorem Z5{c:Nat}:∀{ws:List (List Nat)},(∀w∈ws,w≠[])->jn c ws=[]->ws=[]
 | [],_,_=>rfl
 | [w],h,e=>absurd e (h w (by simp))
 | w::v::r,_,e=>absurd e (by show w++c::jn c (v::r)≠[];simp)
theorem AIA(i:Int):itx i≠[]:=by
 unfold itx
 split
 .simp
 .exact Oj _
theorem AHp(q:Rat):ftx q≠[]:=by
 unfold ftx
 split
 .exact AIA _
 .simp
theorem Jv(q:Rat):32∉ftx q:=LR (by decide) (fun z=>absurd z.1 (by decide)) (by decide) q
def Ay(qs:List Rat):List (List Nat):=qs.map ftx
theorem Xf{ts:List (List Nat)}(h:∀t∈ts,t.length<=64)(hn:ts.length<=1000):JoinOk (sx [32]) (ts.map sx)=true:=by
 have hf:=StrLaws.joinFits (sep:=sx [32]) (texts:=ts.map sx) (B:=64) (fun y hy=>by
  obtain⟨t,ht,rfl⟩:=ARR.mp hy;rw[BJ];exact h t ht) (by
  rw[Io];show ts.length*64+ts.length*1<=_;omega)
 unfold JoinOk;rw[hf];rfl
def UT:Sp:=fun vs H Q _=>∃a qs,vs=[.ref a]/\Rw H a qs/\qs.length<=100/\(∀q∈qs,F30 q)/\∀H',Al H H'->Q (.str (sx (jn 32 (Ay qs)))) H'
theorem Ew:Ao ["one","top","bottom"] ["one"] (Ae Fg):=fsc
theorem Mj(F:Fun K "show_fraction" "show_fraction" Fg f fd)(T:Txt mg):BR P w K mg base CX0 1 f fd ["one"] Ld:=by
 refine F.okk Ew fun vs H Q E h=>?_;obtain⟨p,q,rfl,kp,hq,k⟩:=h;walk_at "b";obtain⟨l1,l2⟩:=hq.log;have h1:=Rt hq.1;have h2:=Je (k:=30) (by decide) hq.2;walk_at "O"
 have eb:itx (q.den:Int)=dgs q.den:=by
  unfold itx;rw[if_neg (by omega)];rfl
 refine⟨_,(Ac (pS 1 Ew.nd (ixT (pv 0) Ad))
   (Ac (pS 2 Ew.nd (ixT (pv 0) Ad))
   (Ac (BP (Am Bs (pv 2) Ad (Av _))
    (Af (Aq (AFk (XX (pv 1)))))
    Ar)
   (Af (Aq (AHu (XX (pv 1)) Ai (XX (pv 2)))))))),?_⟩
 refine⟨_,rfl,_,_,_,_,rfl,rfl,kp.sq,rfl,_,rfl,_,_,_,_,rfl,rfl,kp.sq,rfl,_,rfl,rfl,_,rfl,Cw (fun c=>?_) (fun c=>?_)⟩
 .have c':(q.den:Int)=1:=V.int.inj (of_decide_eq_true c);unfold ftx at k;rw[if_pos (by omega)]at k;refine⟨_,rfl,_,rfl,l1,?_⟩;rw[tos];exact k
 .have c':¬(q.den:Int)=1:=fun z=>of_decide_eq_false (Bool.eq_false_iff.mpr c) (congrArg V.int z);unfold ftx at k;rw[if_neg (by omega)]at k;refine⟨_,rfl,_,rfl,l1,_,rfl,?_,_,rfl,?_,_,rfl,_,rfl,l2,_,rfl,?_,?_⟩
  .rw[tos,BJ];omega
  .rw[tos,BJ];show _+1<=_;omega
  .rw[tos,tos,BJ,BJ,eb];show _+1+_<=_;omega
  .rw[tos,tos,eb,show(Str.ofString "/")=sx [47] from rfl,Cy,Cy,ATM];exact k
theorem Vb:Ao ["row"] ["row"] (Ae Hs):=fsc
theorem Vk(F:Fun K "show_row" "show_row" Hs f fd)(T:Txt mg)(aE:Cal P w K mg base "show_fraction" 1 ["one"] Ld):BR P w K mg base CX0 2 f fd ["row"] UT:=by
 refine F.okk Vb fun vs H Q E h=>?_;obtain⟨a,qs,rfl,ra,hl,hq,k⟩:=h;walk_at "b";obtain⟨x,e,_⟩:=ra.there;refine⟨_,(Af (Aq (Eo ARk ATr ATs Td Ai (Aa (Gp (N':=["one"]) (fsc:=Ae Hs) (N:=["row"]) [] ⟨rfl,by decide +kernel,by decide +kernel,by decide +kernel,rfl,by decide +kernel,rfl,by decide +kernel⟩ (Dg (pv 0)) (fun _ _ _ _=>(BW aE hr (Aa (pv 0) Ab)))) Ab)))),?_⟩;refine⟨rfl,_,rfl,a,rfl,⟨_,SqL.of e⟩,Wb (by omega) ra (fun q=>sx (ftx q)) ?_ fun H1 D s1 nD eD=>?_⟩
 .intro _ _ _ _ p q H1 R hm kp s1 fin;exact⟨_,rfl,p,q,rfl,kp,hq q hm,fin H1 (Al.refl _)⟩
 have em:(qs.map fun q=>sx (ftx q))=(Ay qs).map sx:=by unfold Ay;rw[List.map_map];rfl
 rw[em]at eD;have k1:=k H1 s1;rw[<-Ud]at k1;exact⟨_,D,_,rfl,rfl,SqL.of eD,Xf (fun t ht=>by
  obtain⟨q,hm,rfl⟩:=ARR.mp ht;have:=Nu (hq q hm);omega) (by unfold Ay;rw[Io];omega),k1⟩
theorem QD:Ao ["text"] ["text"] (Ae FN):=fsc
theorem QC(F:Fun K "are_figures" "are_figures" FN f fd)(T:Txt mg):BR P w K mg base CX0 1 f fd ["text"] Uc:=by
 refine F.okk QD fun vs H Q E h=>?_;obtain⟨l,rfl,ha,hl,q⟩:=h;walk_at "b";walk_at "a"
 refine⟨_,(Ac (BP (PW.pt (Dk (Am Jj (Ax CK rfl T.z_len ARW (Aa (pv 0) Ab)) Ad (Av _)) (CV (Am HN (Ax CK rfl T.z_len ARW (Aa (pv 0) Ab)) (HF rfl T.c_MOST_FIGURES) (Av _)))))
    (Af (Aq JK))
    Ar)
   (Af (Aq (Ax (Ox rfl) rfl T.z_all boot_all (Aa (Gp (N':=["sign"]) (fsc:=Ae FN) (N:=["text"]) [] ⟨rfl,by decide +kernel,by decide +kernel,by decide +kernel,rfl,by decide +kernel,rfl,by decide +kernel⟩ (ABe (pv 0)) (fun _ _ _ _=>(Gn Qz (pv 0) (Vj rfl T.c_FIGURES) (by with_unfolding_all rfl)))) Ab))))),?_⟩
 unfold Jr at q;refine⟨_,rfl,sx l,rfl,by rw[BJ];omega,_,_,rfl,rfl,_,rfl,Cw (fun c=>?_) (fun c=>?_)⟩
 .have c':((sx l).length:Int)<1:=of_decide_eq_true c;rw[BJ]at c';rw[if_pos (by omega)]at q;exact q H (Al.refl H)
 have c0:¬((sx l).length:Int)<1:=of_decide_eq_false (Bool.eq_false_iff.mpr c);rw[BJ]at c0;rw[if_neg (by omega)]at q;refine⟨_,rfl,sx l,rfl,by rw[BJ];omega,_,_,rfl,rfl,_,rfl,Cw (fun c=>?_) (fun c=>?_)⟩
 .have c':(30:Int)<((sx l).length:Int):=of_decide_eq_true c;rw[BJ]at c';rw[if_pos (by omega)]at q;exact q H (Al.refl H)
 have c1:¬(30:Int)<((sx l).length:Int):=of_decide_eq_false (Bool.eq_false_iff.mpr c);rw[BJ]at c1;rw[if_neg (by omega)]at q;refine⟨_,rfl,sx l,rfl,?_,Ph (by omega) (fun c=>decide (c∈([48,49,50,51,52,53,54,55,56,57]:List Nat))) ?_ fun H1 D s1 nD eD=>?_⟩
 .rw[AVZ];intro i hi;exact decide_eq_true (ha _ (by simp[sx]))
 .intro _ _ _ _ c H1 R hc s1 fin;refine⟨_,rfl,_,_,rfl,rfl,?_⟩;rw[show Str.ofString "0123456789"=sx [48,49,50,51,52,53,54,55,56,57] from rfl,ABz];exact fin
 .exact⟨D,_,rfl,SqL.of eD,q H1 s1⟩
theorem Lg:Ao ["text"] ["text"] (Ae Fb):=fsc
theorem Ms(F:Fun K "without_minus" "without_minus" Fb f fd)(T:Txt mg):BR P w K mg base CX0 1 f fd ["text"] YG:=by
 refine F.okk Lg fun vs H Q E h=>?_;obtain⟨l,rfl,hl,q⟩:=h;walk_at "b";walk_at "a"
 refine⟨_,(Ac (BP (Bv (Eo ARk AUL AUM Qp (pv 0) (Aa Ai Ab)))
    (Af (Aq (Cr Mm (pv 0) (DG Ad) Dr)))
    Ar)
   (Af (Aq (pv 0)))),?_⟩
 unfold Gz at q;refine⟨_,rfl,rfl,_,_,rfl,rfl,_,rfl,Cw (fun c=>?_) (fun c=>?_)⟩
 .rw[show Str.ofString "-"=sx [45] from rfl,Jt]at c;have c':=of_decide_eq_true c;rw[if_pos c']at q;refine⟨_,rfl,_,rfl,_,rfl,by rw[BJ];omega,?_⟩;rw[Jo (fun z=>by rw[z]at c';simp at c')];exact q
 .rw[show Str.ofString "-"=sx [45] from rfl,Jt]at c;have c':¬l[0]?=some 45:=fun z=>c (decide_eq_true z);rw[if_neg c']at q;exact⟨_,rfl,q⟩
def cw:List Rat->List Rat->List (List Nat)
 | w::ws,g::gs=>(40::(ftx w++[41]))::ftx g::cw ws gs
 | _,_=>[]
def Bu(gs ws:List Rat):List (List Nat):=ftx (gs.getD 0 0)::cw ws (gs.drop 1)
theorem Xq:∀{ws gs:List Rat} (w g:Rat),ws.length=gs.length->cw (ws++[w]) (gs++[g])=cw ws gs++[40::(ftx w++[41])]++[ftx g]
 | [],[],_,_,_=>rfl
 | a::ws,b::gs,w,g,h=>by
  show(40::(ftx a++[41]))::ftx b::cw (ws++[w]) (gs++[g])=_;rw[Xq w g (by simpa using h)];rfl
 | [],_::_,_,_,h=>by simp at h
 | _::_,[],_,_,h=>by simp at h
theorem RQ:∀{ws gs:List Rat},ws.length=gs.length->(cw ws gs).length=2*ws.length
 | [],[],_=>rfl
 | a::ws,b::gs,h=>by
  show(cw ws gs).length+1+1=2*(ws.length+1);rw[RQ (by simpa using h)];omega
 | [],_::_,h=>by simp at h
 | _::_,[],h=>by simp at h
theorem ACA:∀{ws gs:List Rat} {P:List Nat->Prop},(∀w∈ws,P (40::(ftx w++[41])))->(∀g∈gs,P (ftx g))->∀t∈cw ws gs,P t
 | [],_,_,_,_,t,h=>by cases h
 | _::_,[],_,_,_,t,h=>by cases h
 | w::ws,g::gs,P,h1,h2,t,h=>by
  walk_at "aR"
  .rw[z];exact h1 w (by simp)
  .rcases ARI.mp z with z|z
   .rw[z];exact h2 g (by simp)
   .exact ACA (fun q hq=>h1 q (by simp[hq])) (fun q hq=>h2 q (by simp[hq])) t z
structure C30(gs ws:List Rat):Prop where
 fine:Qs gs ws
 g30:∀q∈gs,F30 q
 w30:∀q∈ws,F30 q
theorem C30.mem(h:C30 gs ws){P:List Nat->Prop}(h1:∀w∈ws,P (40::(ftx w++[41])))(h2:∀g∈gs,P (ftx g)):∀t∈Bu gs ws,P t:=fun t ht=>by
 have hl:=h.fine.len;rcases ARI.mp ht with z|z
 .rw[z,Po.getD_in (show 0<gs.length by omega)];exact h2 _ (ARS _)
 .exact ACA h1 (fun g hg=>h2 g (ASE hg)) t z
theorem C30.len(h:C30 gs ws):∀t∈Bu gs ws,t.length<=64:=h.mem (fun w hw=>by
  have:=Nu (h.w30 w hw);rw[ARD,ARG];show _+1+1<=_;omega) fun g hg=>by have:=Nu (h.g30 g hg);omega
theorem C30.cnt(h:C30 gs ws):(Bu gs ws).length=2*ws.length+1:=by
 have hl:=h.fine.len;show(cw ws (gs.drop 1)).length+1=_;rw[RQ (by rw[ARd];omega)]
theorem QJ:∀{ws gs:List Rat} (x:List Nat),ws.length=gs.length->L3.ev2 (x::cw ws gs)=x::gs.map ftx
 | [],[],_,_=>rfl
 | w::ws,g::gs,x,h=>by
  show x::L3.ev2 (ftx g::cw ws gs)=_;rw[QJ (ftx g) (by simpa using h)];rfl
 | [],_::_,_,h=>by simp at h
 | _::_,[],_,h=>by simp at h
def brx(q:Rat):List Nat:=40::(ftx q++[41])
theorem Tf:∀{ws gs:List Rat},ws.length=gs.length->L3.ev2 (cw ws gs)=ws.map brx
 | [],[],_=>rfl
 | w::ws,g::gs,h=>by
  show(40::(ftx w++[41]))::L3.ev2 (cw ws gs)=_;rw[Tf (by simpa using h)];rfl
 | [],_::_,h=>by simp at h
 | _::_,[],h=>by simp at h
def Ol(C:Addr):Sp:=fun vs H Q _=>∃c ga wa gs ws,vs=[.ref c]/\Co C H c ga wa gs ws/\C30 gs ws/\∀H',Al H H'->Q (.str (sx (jn 32 (Bu gs ws)))) H'
theorem Ed:Ao ["cord","gaps","words","weight","gap"] ["cord"] (Ae Ie):=fsc
theorem T5(F:Fun K "show_cord" "show_cord" Ie f fd)(T:Txt mg)(aE:Cal P w K mg base "show_fraction" 1 ["one"] Ld)(aO:MJ P w K mg base au "gaps" 1 ["self"] (KR au))(aI:MJ P w K mg base au "weights" 1 ["self"] (Fy au)):BR P w K mg base CX0 2 f fd ["cord"] (Ol au):=by
 refine F.okk Ed fun vs H Q E h=>?_;obtain⟨c,ga,wa,gs,ws,rfl,co,dG,k⟩:=h;walk_at "b";have aB:=dG.fine.len;have aC:=dG.fine.most;walk_at "O"
 obtain⟨dx,ec⟩:=co.1;have h0:0<gs.length:=by omega
 refine⟨_,(Ac (pS 1 Ed.nd (Iw aO hr (pv 0)))
   (Ac (pS 2 Ed.nd (Ff (Aa (BW aE hr (Aa (ixL (pv 1) Ad) Ab)) Ab)))
   (Ac (J7 ASm rfl (AAH rfl T.z_zip (Aa (Iw aI hr (pv 0)) (Aa (Cr JW (pv 1) (DG Ad) Dr) Ab))) (Ru rfl (FQ (gN 3 Ed.nd) (FQ (gN 4 Ed.nd) Ng)))
    (Ac (Dy (Eo ASB ASy ASz HS (pv 2) (Aa (Ak Ah (Ak Ah Ai (BW aE hr (Aa (pv 3) Ab))) Ai) Ab)))
    (Af (Dy (Eo ASB ASy ASz HS (pv 2) (Aa (BW aE hr (Aa (pv 4) Ab)) Ab))))))
   (Af (Aq (Eo ARk ATr ATs Td Ai (Aa (pv 2) Ab))))))),?_⟩
 refine⟨_,rfl,c,dx,_,rfl,ec,rfl,c,ga,wa,gs,ws,rfl,co,fun g1 H1 s1 n1 tJ=>?_⟩;obtain⟨pg,eg,kg⟩:=id tJ;have x6:=kg.length;obtain⟨p0,e0,k0⟩:=kg.get (AQ9 h0);refine⟨_,rfl,g1,_,_,_,rfl,rfl,SqL.of eg,Df (j:=0) e0,p0,_,rfl,k0,dG.g30 _ (ARS h0),(by show 1<=sizeLine;decide),fun D hD=>?_⟩;have u2:=Aj hD (.lst [.str (sx (ftx gs[0]))]);have s2:=s1.trans u2;have mI:upd H1 D (.lst [.str (sx (ftx gs[0]))]) D=some (.lst (([ftx gs[0]].map sx).map V.str)):=Ag;have pU:=u2 _ _ eg;have pV:=kg.keep u2;generalize upd H1 D (.lst [.str (sx (ftx gs[0]))])=H2 at *;refine⟨_,rfl,c,dx,_,rfl,s2 _ _ ec,rfl,c,ga,wa,gs,ws,rfl,co.keep s2,fun w1 H3 s3 n3 tK=>?_⟩;have fu:=s2.trans s3;have pW:=s3 _ _ pU;have pX:=pV.keep s3;have mJ:=s3 _ _ mI;obtain⟨pw,pY,mK⟩:=id tK;have x9:=mK.length;refine⟨_,rfl,_,rfl,g1,_,rfl,SqL.of pW,fun l hl=>?_⟩;have u4:=Aj hl (.lst (GK (pg.map V.ref) (some 1) none));have pZ:upd H3 l (.lst (GK (pg.map V.ref) (some 1) none)) l=some (.lst ((pg.drop 1).map V.ref)):=by
  rw[Ag];exact congrArg (fun z=>some (HO.lst z)) (Kv V.ref pg 1)
 have tM:=(pX.drop 1).keep u4;have qa:=u4 _ _ pY;have tN:=mK.keep u4;have kP:=u4 _ _ mJ;have tO:=fu.trans u4;have qf:H D=none:=s1.free hD;have nw:w1≠D:=ATt (Az mI n3);have nl:l≠D:=ATt (Az mJ hl);clear pW pX pY mK mJ u4 hl fu s3 pU pV mI u2 eg kg;generalize upd H3 l (.lst (GK (pg.map V.ref) (some 1) none))=H4 at *;have yg:(pg.drop 1).length=ws.length:=by rw[ARd];omega
 have jw:(gs.drop 1).length=ws.length:=by rw[ARd];omega
 refine⟨w1,l,rfl,⟨_,SqL.of qa⟩,⟨_,SqL.of pZ⟩,?_⟩;refine ADc (xs:=pw.map V.ref) (ys:=(pg.drop 1).map V.ref) ws.length (by rw[Io,Io];omega) (fun i Y H'=>(∃v u,Y=[some (.ref c),some (.ref g1),some (.ref D),v,u])/\Al H H'/\(∀b o,b≠D->H4 b=some o->H' b=some o)/\H' D=some (.lst (((ftx gs[0]::cw (ws.take i) ((gs.drop 1).take i)).map sx).map V.str))) ⟨⟨_,_,rfl⟩,tO,fun _ _ _ e=>e,kP⟩ ?_ ?_ ?_
 .rintro i Y H5 _ ⟨_,sm,kp,eD⟩;exact⟨SqL.of (kp _ _ nw qa),SqL.of (kp _ _ nl pZ)⟩
 .rintro i x y Y H5 T0 hx hy ⟨⟨v,u,rfl⟩,kQ,qg,tP⟩ hT;have hi:i<ws.length:=by
   have h:=(ARO.mp hx).1;rw[Io]at h;omega
  have hi2:i<(gs.drop 1).length:=by omega
  have kq:∀{p:Addr} {q:Rat},Pq H4 p q->Pq H5 p q:=fun {p q} h=>qg _ _ (fun z=>by
   rw[z]at h;have h':H4 D=some (.tup [.int q.num,.int q.den]):=h;rw[kP]at h';cases h') h
  obtain⟨p1,e1,k1⟩:=tN.get (AQ9 hi);obtain rfl:x=.ref p1:=ARK (hx.symm.trans e1);obtain⟨p2,e2,k2⟩:=tM.get (AQ9 hi2);obtain rfl:y=.ref p2:=ARK (hy.symm.trans e2);have f1:=dG.w30 _ (ARS hi);have f2:F30 (gs.drop 1)[i]:=dG.g30 _ (ASE (ARS hi2));have l1:=Nu f1;refine⟨T0,_,rfl,SqT.of Ag,rfl,_,_,rfl,_,_,rfl,rfl,?_⟩;have sT:=Aj hT (.tup [.ref p1,.ref p2]);have k1':=(kq k1).keep sT;have k2':=(kq k2).keep sT;have mM:=sT _ _ tP;have sm:=kQ.trans sT;have tQ:∀b o,b≠D->H4 b=some o->upd H5 T0 (.tup [.ref p1,.ref p2]) b=some o:=fun b o n e=>sT _ _ (qg b o n e);generalize upd H5 T0 (.tup [.ref p1,.ref p2])=H6 at *;have lc:(cw (ws.take i) ((gs.drop 1).take i)).length=2*i:=by
   rw[RQ (by rw[ARc,ARc];omega),ARc];omega
  have tR:Str.ofString "("++sx (ftx ws[i])++Str.ofString ")"=sx (40::(ftx ws[i]++[41])):=by
   rw[show Str.ofString "("=sx [40] from rfl,show Str.ofString ")"=sx [41] from rfl,Cy,Cy];rfl
  refine⟨_,rfl,.inl ⟨rfl,_,SqL.of mM⟩,_,rfl,p1,_,rfl,k1',f1,_,_,rfl,rfl,?_,_,_,rfl,rfl,?_,D,_,_,rfl,rfl,mM,?_,?_⟩
  .rw[BJ];show 1+_<=_;omega
  .rw[V6,BJ];show 1+_+1<=_;omega
  .rw[Io,Io,ARD];omega
  rw[tR];have k2'':Pq (upd H6 D (.lst (((ftx gs[0]::cw (ws.take i) ((gs.drop 1).take i)).map sx).map V.str++[.str (sx (40::(ftx ws[i]++[41])))]))) p2 (gs.drop 1)[i]:=k2'.updL mM;refine⟨_,rfl,.inl ⟨rfl,_,SqL.of Ag⟩,_,rfl,p2,_,rfl,k2'',f2,D,_,_,rfl,rfl,Ag,?_,⟨_,_,rfl⟩,CG (CG sm qf _) qf _,fun b o n e=>?_,?_⟩
  .rw[ARG,Io,Io,ARD];show _+1<_;omega
  .rw[An n,An n];exact tQ b o n e
  .rw[Ag,ASW hi,ASW hi2,Xq _ _ (by rw[ARc,ARc];omega)];simp
 .rintro Y H5 ⟨⟨v,u,rfl⟩,sm,kp,eD⟩;rw[AR2,show(gs.drop 1).take ws.length=gs.drop 1 by rw[<-jw,AR2]]at eD;have e0':(ftx gs[0]::cw ws (gs.drop 1))=Bu gs ws:=by
   unfold Bu;rw[Po.getD_in h0]
  rw[e0']at eD;have k1:=k H5 sm;rw[<-Ud]at k1;exact⟨rfl,_,rfl,_,D,_,rfl,rfl,SqL.of eD,Xf dG.len (by rw[dG.cnt];omega),k1⟩
def Uj(K:W.Frag)(H:Hp)(v:V):Prop:=∃ty,Em K H v ty/\W.kitOne K ty (.type "str")=some false
def Jb(K:W.Frag)(cT:Addr):Sp:=fun vs H Q E=>∃v,vs=[v]/\((∃x,v=.str x/\Q .non H)\/(Uj K H v/\E (.ref cT) none H))
def Pln(l:List Nat):Prop:=(∀c∈l,c<128)/\l.length<=50000
def JQ(K:W.Frag)(cT:Addr):Sp:=fun vs H Q E=>∃v,vs=[v]/\((Uj K H v/\E (.ref cT) none H)\/∃l,v=.str (sx l)/\Pln l/\(∀q,F30 q->l=ftx q->∀p H',Al H H'->Pq H' p q->Q (.ref p) H') /\
 ((∀q,F30 q->l≠ftx q)->∀H',Al H H'->E (.ref cT) none H'))
def Th(K:W.Frag)(cT:Addr):Sp:=fun vs H Q E=>∃v,vs=[v]/\((Uj K H v/\E (.ref cT) none H)\/∃l,v=.str (sx l)/\Pln l/\(∀qs,(∀q∈qs,F30 q)->l=jn 32 (Ay qs)->∀r H',Al H H'->H r=none->Rw H' r qs->Q (.ref r) H') /\
 ((∀qs,(∀q∈qs,F30 q)->l≠jn 32 (Ay qs))->∀H',Al H H'->E (.ref cT) none H'))
def R6:Sp:=fun vs H Q _=>∃p x y,vs=[.ref p]/\Pr H p x y/\Q (.bl (decide (1<=y)&&decide (g x y=1))) H
theorem V0{c:Nat}:∀{l:List Nat},c∈l->∃a b,l=a++c::b/\c∉a
 | [],h=>by cases h
 | x::l,h=>by
  by_cases e:x=c
  .exact⟨[],l,by rw[e];rfl,by simp⟩
  .obtain⟨a,b,e1,e2⟩:=V0 (l:=l) (by
    walk_at "aR"
    .exact absurd z.symm e
    .exact z)
   exact⟨x::a,b,by rw[e1];rfl,fun z=>by
    rcases ARI.mp z with z|z
    .exact e z.symm
    .exact e2 z⟩
theorem PP(h:l≠[]):Str.empty≠sx l:=fun z=>h (by
 have:sx []=sx l:=z;exact(Ex this).symm)
theorem RN(l:List Nat):∃a b x y,Dl (sx l) (sx [47])=[sx a,x,y]/\(∀c∈a,c∈l)/\a.length<=l.length/\((x=Str.empty/\b=[49])\/(x=sx [47]/\y=sx b/\(∀c∈b,c∈l)/\b.length<=l.length))/\∀q,l=ftx q->a=itx q.num/\b=dgs q.den:=by
 by_cases h:47∈l
 .obtain⟨a,b,e1,e2⟩:=V0 h;have e3:=Mg (b:=b) e2;rw[<-e1]at e3;refine⟨a,b,_,_,e3,fun c hc=>by rw[e1];simp[hc],by rw[e1];simp,.inr ⟨rfl,rfl,fun c hc=>by rw[e1];simp[hc],by rw[e1];simp;omega⟩,fun q hq=>?_⟩;rw[hq]at e3;rcases Q3 q with⟨_,e⟩|⟨_,e⟩
  .rw[e3]at e;injection e with _ e;injection e with e _;exact absurd e.symm (PP (by simp))
  .rw[e3]at e;injection e with i1 e;injection e with _ e;injection e with i3 _;exact⟨Ex i1,Ex i3⟩
 .have e3:=Li h;refine⟨l,[49],_,_,e3,fun c hc=>hc,ARH _,.inl ⟨rfl,rfl⟩,fun q hq=>?_⟩;rw[hq]at e3;rcases Q3 q with⟨d,e⟩|⟨_,e⟩
  .rw[e3]at e;injection e with i1 _;refine⟨by rw[hq];exact Ex i1,?_⟩;rw[d];rfl
  .rw[e3]at e;injection e with _ e;injection e with e _;exact absurd e (PP (by simp))
theorem Xb(h:Jr l=true):l≠[]/\l.length<=30/\∀c∈l,QV c:=by
 unfold Jr at h
 split at h
 .cases h
 .split at h
  .cases h
  .rename_i h1 h2
   refine⟨fun z=>h1 (by rw[z];decide),by omega,fun c hc=>?_⟩;have:=ARg.mp h _ (ARR.mpr ⟨c,hc,rfl⟩);have hm:=of_decide_eq_true this;unfold QV;have:c=48\/c=49\/c=50\/c=51\/c=52\/c=53\/c=54\/c=55\/c=56\/c=57:=by simpa using hm
   omega
theorem ABN(t:List Nat)(h:∀c∈t,QV c):dgv t<10^t.length:=by
 have key:∀r:List Nat,(∀c∈r,QV c)->dgv r.reverse<10^r.length:=fun r=>by
  induction r with
  | nil=>intro _;decide
  | cons c r ih =>
   intro hr;have i:=ih fun x hx=>hr x (by simp[hx]);have hc:=hr c (by simp);rw[List.reverse_cons,Vd,ARD,Nat.pow_succ];have:=hc.2;omega
 have:=key t.reverse fun c hc=>h c (AUr.mp hc);rw[List.reverse_reverse,List.length_reverse]at this;exact this
theorem AAh(h:Jr t=true):dgv t<10^30:=by
 obtain⟨_,h2,h3⟩:=Xb h;exact ARX (ABN t h3) (ATP (by decide) h2)
theorem WL(a:List Nat):a=if decide (a[0]?=some 45)=true then 45::Gz a else Gz a:=by
 unfold Gz;by_cases h:a[0]?=some 45
 .rw[if_pos (decide_eq_true h),if_pos h];cases a with
  | nil=>simp at h
  | cons x r =>
   have:x=45:=by simpa using h
   rw[this];rfl
 .rw[if_neg (fun z=>h (of_decide_eq_true z)),if_neg h]
def Jh(a:List Nat):Int:=if decide (a[0]?=some 45)=true then -(dgv (Gz a):Int) else(dgv (Gz a):Int)
theorem Kh(n:Int):Jh (itx n)=n:=by
 unfold Jh;rw[OD,Ja];by_cases h:n<0
 .have:(itx n)[0]?=some 45:=by unfold itx;rw[if_pos h];rfl
  rw[if_pos (decide_eq_true this)];omega
 .have:¬(itx n)[0]?=some 45:=fun z=>by
   unfold itx at z;rw[if_neg h]at z;exact absurd (Im _ 45 (ARf z)).1 (by decide)
  rw[if_neg (fun z=>this (of_decide_eq_true z))];omega
theorem AMF(h:1<=y)(hg:g x y=1):Fq x y:=⟨by omega,by
 unfold g at hg;omega⟩
theorem O4(l:List Nat):∃W:List (List Nat),W≠[]/\(∀w∈W,32∉w)/\jn 32 W=l/\Txt.split (sx l) (sx [32])=W.map sx:=by
 have e1:=AUT (sx l) (sx [32]);have e2:Txt.split (sx l) (sx [32])=((Txt.split (sx l) (sx [32])).map fun p=>p.cps.toList).map sx:=by
  walk_at "aO"
 have f:=StrLaws.split_free (sx l) 32;have ne:=V3 (sx l) (sx [32]);rw[e2,Kl]at e1;refine⟨_,fun z=>ne (ASL.mp z),fun w hw=>?_,Ex e1,e2⟩;obtain⟨p,hp,rfl⟩:=ARR.mp hw;exact f p hp
theorem Nv{c:Nat}:∀{W:List (List Nat)} {w:List Nat},w∈W->(∀x∈w,x∈jn c W)/\w.length<=(jn c W).length
 | [],_,h=>by cases h
 | [v],w,h=>by
  rw[ARp.mp h];exact⟨fun x hx=>hx,ARH _⟩
 | v::u::r,w,h=>by
  show(∀x∈w,x∈v++c::jn c (u::r))/\w.length<=(v++c::jn c (u::r)).length;walk_at "aR"
  .rw[z];exact⟨fun x hx=>by simp[hx],by simp⟩
  .obtain⟨i1,i2⟩:=Nv (c:=c) z;exact⟨fun x hx=>ART _ (ARb _ (i1 x hx)),by rw[ARG,ARD];omega⟩
theorem Pu{c:Nat}:∀{W:List (List Nat)},W.length<=(jn c W).length+1
 | []=>ARu _
 | [v]=>by show 1<=v.length+1;omega
 | v::u::r=>by
  have:=Pu (c:=c) (W:=u::r);have e:(v++c::jn c (u::r)).length=v.length+((jn c (u::r)).length+1):=by rw[ARG,ARD]
  show(u::r).length+1<=(v++c::jn c (u::r)).length+1;omega
theorem KQ(hn:W.length<=100000)(ha:H1 a=some (.lst ((W.map sx).map V.str)))(G:Rat->Prop)(t:Rat->List Nat)
  (hs:∀zb zc C ex w H (R:VK),w∈W->Al H1 H->(∀q p' H2,G q->w=t q->Al H H2->Pq H2 p' q->R (.ref p') H2)->te zb zc C ex (some (.str (sx w))::js.map fun j=>(Y[j]?).join) H R)
  (hd:∀H D qs,(∀q∈qs,G q)->W=qs.map t->Al H1 H->H1 D=none->Rw H D qs->Q (.ref D) H):Gv (Itl K a) te js Y Q H1:=by
 intro D hD;refine⟨fun i m ys H=>m=W.length-i/\i<=W.length/\(∃ps qs,ys=ps.map V.ref/\Pqs H ps qs/\(∀q∈qs,G q)/\W.take i=qs.map t)/\Al H1 H/\H D=some (.lst ys),⟨W.length,by simp,ARu _,⟨[],[],rfl,.nil,fun q hq=>absurd hq (by simp),rfl⟩,Aj hD _,Ag⟩,?_⟩;rintro i m ys H ⟨rfl,hi,⟨ps,qs,rfl,hp,hG,hW⟩,sm,bN⟩;refine⟨bN,?_⟩;have hr:=sm _ _ ha;by_cases hlt:i<W.length
 .have eq:W[i]?=some W[i]:=AQ9 hlt;have h0:((W.map sx).map V.str)[i]?=some (.str (sx W[i])):=by rw[ARQ,ARQ,eq];rfl
  walk_at "l";walk_at "2";refine hs zb zc C ex _ H' _ (ARS hlt) sm fun q p H2 gq et s2 kp=>?_;have h2:=s2 _ _ bN;have hp2:=hp.keep s2;have hl:=hp.length;have hl2:=congrArg List.length hW;rw[ARc,Io]at hl2;walk_at "a"
  refine⟨h2,by rw[Io];omega,W.length-(i+1),by omega,rfl,hlt,⟨ps++[p],qs++[q],by simp,(hp2.updL h2).append (.cons (kp.updL h2) .nil),fun q' hq=>?_,?_⟩,CG (sm.trans s2) hD _,Ag⟩
  .rcases ARP.mp hq with z|z
   .exact hG q' z
   .rw[ARp.mp z];exact gq
  .rw[ASi,eq,hW,ARU,et];rfl
 .have e:i=W.length:=by omega
  subst e;rw[AR2]at hW;exact .inl ⟨⟨_,SqL.of hr,by rw[Io,Io];omega⟩,hd H D qs hG hW sm hD ⟨ps,bN,hp⟩⟩
theorem QK:Ao ["thing"] ["thing"] (Ae Gw):=fsc
theorem N8(F:Fun K "is_fraction" "is_fraction" Gw f fd)(T:Txt mg)(aU:Cal P w K mg base "is_whole" 1 ["thing"] PX)(ay:Cal P w K mg base "divisor" 1 ["one","other"] JL):BR P w K mg base CX0 2 f fd ["thing"] R6:=by
 refine F.okk QK fun vs H Q E h=>?_;obtain⟨p,x,y,rfl,kp,q⟩:=h;refine⟨rfl,fun cdv A outer s hr=>?_⟩;refine⟨_,(Ac (BP (PW.pt (Dk (By (Bv (Ax HX rfl T.z_isinstance boot_isinstance (Aa (pv 0) (Aa (Hk (v:=.ty "tuple") rfl T.z_tuple boot_tuple rfl) Ab))))) (CV (Am GC (Ax BV rfl T.z_len ARW (Aa (pv 0) Ab)) Ad (Av _)))))
    (Af (Aq JK))
    Ar)
   (Ac (BP (PW.pt (Dk (By (Bv (BW aU hr (Aa (ixT (pv 0) Ad) Ab)))) (CV (By (Bv (BW aU hr (Aa (ixT (pv 0) Ad) Ab)))))))
    (Af (Aq JK))
    Ar)
   (Af (Aq (SQ (Gn AM4 (ixT (pv 0) Ad) Ad (Av _)) (S9 (Gn Bs (BW ay hr (Aa (ixT (pv 0) Ad) (Aa (ixT (pv 0) Ad) Ab))) Ad (Av _)))))))),?_⟩
 refine⟨_,rfl,_,_,_,_,rfl,Em.tup kp,M7 _,_,rfl,FZ ?_⟩;refine⟨_,rfl,_,_,rfl,.inr kp.sq,rfl,_,rfl,Ji rfl ?_⟩;refine⟨_,rfl,_,_,_,_,rfl,rfl,kp.sq,rfl,_,rfl,_,rfl,FZ ?_⟩;refine⟨_,rfl,_,_,_,_,rfl,rfl,kp.sq,rfl,_,rfl,_,rfl,FZ ?_⟩;refine⟨_,rfl,_,_,_,_,rfl,rfl,kp.sq,rfl,_,_,rfl,rfl,_,rfl,Cw (fun c=>?_) (fun c=>?_)⟩
 .have c':(1:Int)<=y:=of_decide_eq_true c;refine⟨_,rfl,_,_,_,_,rfl,rfl,kp.sq,rfl,_,rfl,_,_,_,_,rfl,rfl,kp.sq,rfl,_,_,rfl,rfl,?_⟩;rw[decide_eq_true c',Bool.true_and]at q;by_cases hg:g x y=1
  .rw[decide_eq_true hg]at q;rw[decide_eq_true (congrArg V.int hg)];exact q
  .rw[decide_eq_false hg]at q;rw[decide_eq_false (fun z=>hg (V.int.inj z))];exact q
 .have c':¬(1:Int)<=y:=of_decide_eq_false (Bool.eq_false_iff.mpr c);rw[decide_eq_false c',ATQ]at q;exact q
theorem Qi:Ao ["thing"] ["thing"] (Ae Hl):=fsc
theorem Qj{ah aq ak af ai ao ap:Addr}(F:FnX K "check_text" "check_text" Hl f fd)(T:Txt mg)(R:Fw K mg ah aq ak af ai ao ap):BR P w K mg base (CXd P w) 1 f fd ["thing"] (Jb K ah):=by
 refine Cd F Qi fun vs H Q E h=>?_;obtain⟨v,rfl,h⟩:=h;refine⟨rfl,fun cdv A outer s hr=>?_⟩;refine⟨_,(Af (BP (By (Bv (Ax HX rfl T.z_isinstance boot_isinstance (Aa (pv 0) (Aa (Hk (v:=.ty "str") rfl T.z_str boot_str rfl) Ab)))))
    (Af (Bk R.m_NoText R.o_NoText (Aa Ai Ab)))
    Ar)),?_⟩
 rcases h with⟨x,rfl,q⟩|⟨⟨ty,ht,hk⟩,e⟩
 .exact⟨_,rfl,_,_,_,_,rfl,Em.str _,M8 _,_,rfl,FZ q⟩
 .exact⟨_,rfl,_,_,_,_,rfl,ht,hk,_,rfl,Ga ⟨(by show 1<=sizeLine;decide),e⟩⟩
theorem Ce:Ao ["text","parts","top","bottom","one"] ["text"] (Ae Fl):=fsc
theorem MK{ah aq ak af ai ao ap:Addr}(F:FnX K "read_fraction" "read_fraction" Fl f fd)(T:Txt mg)(R:Fw K mg ah aq ak af ai ao ap)(aJ:DR P w K mg base "check_text" 1 ["thing"] [] [] (Jb K ah))(bH:Cal P w K mg base "are_figures" 1 ["text"] Uc)(bO:Cal P w K mg base "without_minus" 1 ["text"] YG)(aP:Cal P w K mg base "is_fraction" 2 ["thing"] R6)(aE:Cal P w K mg base "show_fraction" 1 ["one"] Ld):BR P w K mg base (CXd P w) 3 f fd ["text"] (JQ K ah):=by
 refine Cd F Ce fun vs H Q E h=>?_;obtain⟨v,rfl,h⟩:=h;refine⟨rfl,fun cdv A outer s hr=>?_⟩;refine⟨_,(Ac (Dy (Bg aJ hr (Aa (pv 0) Ab)))
   (Ac (pS 1 Ce.nd (Eo ARk AUP AUQ Xr (pv 0) (Aa Ai Ab)))
   (Ac (pS 2 Ce.nd (ixT (pv 1) Ad))
   (Ac (pS 3 Ce.nd (Hy (Am Bs (ixT (pv 1) Ad) Ai (Av _)) (ixT (pv 1) Ad) Ai))
   (Ac (BP (PW.pt (Dk (By (Bv (BW bH hr (Aa (BW bO hr (Aa (pv 2) Ab)) Ab)))) (CV (By (Bv (BW bH hr (Aa (pv 3) Ab)))))))
    (Af (Bk R.m_NoText R.o_NoText (Aa Ai Ab)))
    Ar)
   (Ac (pS 4 Ce.nd (CZ (Aa (Cu K7 rfl T.z_int boot_int (Aa (pv 2) Ab)) (Aa (Cu K7 rfl T.z_int boot_int (Aa (pv 3) Ab)) Ab))))
   (Ac (BP (PW.pt (Dk (By (Bv (BW aP hr (Aa (pv 4) Ab)))) (CV (Am GC (BW aE hr (Aa (pv 4) Ab)) (pv 0) (Av _)))))
    (Af (Bk R.m_NoText R.o_NoText (Aa Ai Ab)))
    Ar)
   (Af (Aq (pv 4)))))))))),?_⟩
 walk_at "ao"
 .walk_at "ar"
 walk_at "a"
 refine⟨_,rfl,_,rfl,.inl ⟨_,rfl,?_⟩⟩;refine⟨_,rfl,rfl,_,_,rfl,rfl,(by decide),by rw[BJ];omega,fun p hp=>?_⟩;obtain⟨a,b,x,y,ep,qh,yh,hxy,key⟩:=RN l;have s1:=Aj hp (.tup ((Dl (sx l) (Str.ofString "/")).map V.str));have e2:upd H p (.tup ((Dl (sx l) (Str.ofString "/")).map V.str)) p=some (.tup [.str (sx a),.str x,.str y]):=by
  rw[Ag,show Str.ofString "/"=sx [47] from rfl,ep];rfl
 generalize upd H p (.tup ((Dl (sx l) (Str.ofString "/")).map V.str))=H1 at *;refine⟨_,rfl,p,_,_,_,rfl,rfl,SqT.of e2,rfl,?_⟩;refine⟨_,rfl,p,_,_,_,rfl,rfl,SqT.of e2,rfl,rfl,_,rfl,?_⟩;have Bj:(sx b)=(if x=sx [47] then y else Str.ofString "1"):=by
  rcases hxy with⟨h1,h2⟩|⟨h1,h2,_⟩
  .rw[if_neg (by rw[h1];exact PP (by simp)),h2];rfl
  .rw[if_pos h1,h2]
 have hb:(∀c∈b,c<128)/\b.length<=50000:=by
  rcases hxy with⟨_,h2⟩|⟨_,_,h3,h4⟩
  .rw[h2];exact⟨by simp,by decide⟩
  .exact⟨fun c hc=>ha c (h3 c hc),by omega⟩
 refine AKj (V.str (sx b)) (fun c fin=>?_) (fun c fin=>?_) ?_
 .have c':x=sx [47]:=V.str.inj (of_decide_eq_true c);rw[if_pos c']at Bj;rw[<-Bj]at e2;refine⟨_,rfl,p,_,_,_,rfl,rfl,SqT.of e2,rfl,?_⟩;exact fin
 .have c':¬x=sx [47]:=fun z=>of_decide_eq_false (Bool.eq_false_iff.mpr c) (congrArg V.str z);rw[if_neg c']at Bj;rw[<-Bj];exact fin
 have wl:(Gz a).length<=50000/\∀c∈Gz a,c<128:=by
  unfold Gz
  split
  .exact⟨by rw[ARd];omega,fun c hc=>ha c (qh c (ASE hc))⟩
  .exact⟨by omega,fun c hc=>ha c (qh c hc)⟩
 refine⟨_,rfl,a,rfl,by omega,Gz a,rfl,wl.2,by omega,fun H2 s2=>?_⟩;walk_at "8"
 .exact⟨(by show 1<=sizeLine;decide),kx (fun q hq z=>by
   rw[(key q z).1,OD,Np hq.1]at c;exact absurd c (by decide)) H2 (s1.trans s2)⟩
 have f1:Jr (Gz a)=true:=by
  cases h:Jr (Gz a) with
  | true=>rfl
  | false=>exact absurd (by rw[h];rfl) c
 refine⟨_,rfl,b,rfl,hb.1,by omega,fun H3 s3=>?_⟩;walk_at "8"
 .exact⟨(by show 1<=sizeLine;decide),kx (fun q hq z=>by
   rw[(key q z).2,Np hq.2]at c;exact absurd c (by decide)) H3 (s1.trans (s2.trans s3))⟩
 have f2:Jr b=true:=by
  cases h:Jr b with
  | true=>rfl
  | false=>exact absurd (by rw[h];rfl) c
 obtain⟨g1,g2,g3⟩:=Xb f1;obtain⟨g4,g5,g6⟩:=Xb f2;refine⟨_,rfl,sx a,decide (a[0]?=some 45),Gz a,rfl,g1,g3,by omega,WL a,_,rfl,sx b,false,b,rfl,g4,g6,by omega,rfl,(by show 2<=sizeLine;decide),fun o ho=>?_⟩;have ei:(if decide (a[0]?=some 45)=true then -(dgv (Gz a):Int) else(dgv (Gz a):Int))=Jh a:=rfl;rw[ei,if_neg (by decide)];have s4:=Aj ho (.tup [.int (Jh a),.int (dgv b:Int)]);have ko:Pr (upd H3 o (.tup [.int (Jh a),.int (dgv b:Int)])) o (Jh a) (dgv b):=Ag;have mO:=s1.trans (s2.trans (s3.trans s4));have iv:∀q,F30 q->l=ftx q->Jh a=q.num/\(dgv b:Int)=q.den:=fun q _ z=>by
  obtain⟨z1,z2⟩:=key q z;rw[z1,z2,Kh,Ja];exact⟨rfl,rfl⟩
 refine⟨_,rfl,o,_,_,rfl,ko,_,rfl,Cw (fun c=>?_) (fun c=>?_)⟩
 .exact⟨(by show 1<=sizeLine;decide),kx (fun q hq z=>by
   obtain⟨z1,z2⟩:=iv q hq z;have d:=den_pos q;have hg:g q.num q.den=1:=by
    unfold g;rw[(fq q).one];rfl
   rw[z1,z2,decide_eq_true (show(1:Int)<=(q.den:Int) by omega),decide_eq_true hg]at c;exact absurd c (by decide)) _ mO⟩
 have fr:(decide ((1:Int)<=(dgv b:Int))&&decide (g (Jh a) (dgv b:Int)=1))=true:=by
  cases h:(decide ((1:Int)<=(dgv b:Int))&&decide (g (Jh a) (dgv b:Int)=1)) with
  | true=>rfl
  | false=>exact absurd (by rw[h];rfl) c
 obtain⟨tT,tU⟩:=ARB.mp fr;have Fa:=AMF (of_decide_eq_true tT) (of_decide_eq_true tU);obtain⟨qn,qd⟩:=Zk Fa (q:=(Jh a:Rat)/((dgv b:Int):Rat)) rfl;generalize (Jh a:Rat)/((dgv b:Int):Rat)=q0 at *;have kq:Pq (upd H3 o (.tup [.int (Jh a),.int (dgv b:Int)])) o q0:=by
  show _=some (HO.tup [V.int q0.num,V.int q0.den]);rw[qn,qd];exact ko
 have h30:F30 q0:=by
  have b1:=AAh f1;have b2:=AAh f2;refine⟨?_,by omega⟩;rw[qn];unfold Jh
  split<;>omega
 refine⟨_,rfl,o,q0,rfl,kq,h30,_,rfl,rfl,_,rfl,Cw (fun c=>?_) (fun c=>?_)⟩
 .exact⟨(by show 1<=sizeLine;decide),kx (fun q hq z=>by
   obtain⟨z1,z2⟩:=iv q hq z;have:q=q0:=AVj (by rw[qn,z1]) (by omega);rw[z,this]at c;exact absurd c (by simp)) _ mO⟩
 .have el:l=ftx q0:=by
   apply ASe;intro z;exact c (by
    have:¬V.str (sx (ftx q0))=V.str (sx l):=fun y=>z (Ex (V.str.inj y)).symm;simp[this])
  exact⟨_,rfl,k q0 h30 el o _ mO kq⟩
theorem V1:Ao ["text"] ["text"] (Ae Hh):=fsc
theorem Vn(F:FnX K "read_row" "read_row" Hh f fd)(T:Txt mg)(aJ:DR P w K mg base "check_text" 1 ["thing"] [] [] (Jb K ah))(aw:DR P w K mg base "read_fraction" 3 ["text"] [] [] (JQ K ah)):BR P w K mg base (CXd P w) 4 f fd ["text"] (Th K ah):=by
 refine Cd F V1 fun vs H Q E h=>?_;obtain⟨v,rfl,h⟩:=h;refine⟨rfl,fun cdv A outer s hr=>?_⟩;refine⟨_,(Ac (Dy (Bg aJ hr (Aa (pv 0) Ab)))
   (Ac (BP (Am Bs (pv 0) Ai (Av _))
    (Af (Aq (Ff Ab)))
    Ar)
   (Af (Aq (Q6 (N':=["word"]) (fsc:=Ae Hh) (N1:=["text"]) [] ⟨rfl,by decide +kernel,by decide +kernel,by decide +kernel,rfl,by decide +kernel,rfl,by decide +kernel⟩ (Dg (Eo ARk AS8 AS9 Pg (pv 0) (Aa Ai Ab))) (fun _ _ _ _ _ hpp=>(Jd aw hr hpp (Aa (pv 0) Ab)))))))),?_⟩
 walk_at "ao"
 .walk_at "ar"
 walk_at "a"
 refine⟨_,rfl,_,rfl,.inl ⟨_,rfl,?_⟩⟩;refine⟨_,rfl,rfl,_,rfl,Cw (fun c=>?_) (fun c=>?_)⟩
 .have c':sx l=sx []:=V.str.inj (of_decide_eq_true c);exact⟨(by show 0<=sizeLine;decide),fun D hD=>k [] (fun q hq=>absurd hq (by simp)) (Ex c') D _ (Aj hD _) hD ⟨[],Ag,.nil⟩⟩
 have nl:l≠[]:=fun z=>c (decide_eq_true (by rw[z];rfl));obtain⟨W,nW,fW,eW,es⟩:=O4 l;have lc:=Pu (c:=32) (W:=W);rw[eW]at lc;have es':Txt.split (sx l) (Str.ofString " ")=W.map sx:=es;refine⟨_,rfl,rfl,_,_,rfl,rfl,(by decide),by rw[BJ];omega,by rw[es',Io];omega,fun D hD=>?_⟩;rw[es'];have s1:=Aj hD (.lst ((W.map sx).map V.str));refine⟨D,rfl,⟨_,SqL.of Ag⟩,KQ (W:=W) (by omega) Ag F30 ftx ?_ fun H2 D2 qs hG hW s2 n2 r2=>?_⟩
 .intro _ _ _ _ w H2 R' hw s2 fin;obtain⟨j1,j2⟩:=Nv (c:=32) hw;rw[eW]at j1 j2;refine⟨_,rfl,_,rfl,.inr ⟨w,rfl,⟨fun x hx=>ha x (j1 x hx),by omega⟩,fun q hq ew p H3 s3 kp=>fin q p H3 hq ew s3 kp,fun nf H3 s3=>kx (fun qs tV z=>?_) H3 (s1.trans (s2.trans s3))⟩⟩;have nq:Ay qs≠[]:=fun y=>nl (by rw[z,y];rfl);have:=Fe (c:=32) fW (fun v hv=>by
   obtain⟨q,_,rfl⟩:=ARR.mp hv;exact Jv q) nW nq (eW.trans z)
  rw[this]at hw;obtain⟨q,hm,eq⟩:=ARR.mp hw;exact nf q (tV q hm) eq.symm
 .exact k qs hG (by rw[<-eW,hW];rfl) D2 H2 (s1.trans s2) (s1.free n2) r2
structure Odd(l:List Nat):Prop where
 pln:∀c∈l,c<128
 len:l.length<=64
 no:∀q,F30 q->l≠ftx q
 bl:32∈l->l=[49,32]\/l=[32,49]\/l=[49,32,32,50]
def APd:Sp:=fun vs H Q _=>∃(r:Int) (p:Addr) (q:Rat),vs=[.int r,.ref p]/\Pq H p q/\F30 q/\∀l H',Al H H'->Odd l->Q (.str (sx l)) H'
def rdB(l:List Nat):Bool :=
 let a:=l.takeWhile fun c=>c != 47;let b:=match l.dropWhile fun c=>c != 47 with
  | []=>[49]
  | _::r=>r
 Jr (Gz a)&&Jr b&&decide ((1:Int)<=dgv b)&&decide (Int.gcd (Jh a) (dgv b)=1)&&decide (l=if dgv b=1 then itx (Jh a) else itx (Jh a)++47::dgs (dgv b))
theorem JS(h:F30 q):rdB (ftx q)=true:=by
 have hf:∀c∈itx q.num,(c != 47)=true:=fun c hc=>by
  have:c≠47:=fun z=>Ii (c:=47) (by decide) (fun z=>absurd z.1 (by decide)) q.num (z ▸ hc);simpa using this
 have ea:(ftx q).takeWhile (fun c=>c != 47)=itx q.num:=by
  unfold ftx
  split
  .have:=ATC (l₂:=[]) hf;rw[ARx]at this;rw[this];simp
  .rw[ATC hf];simp
 have eb:(match (ftx q).dropWhile (fun c=>c != 47) with | []=>[49] | _::r=>r)=dgs q.den:=by
  unfold ftx;by_cases d:q.den=1
  .have:=AT8 (l₂:=[]) hf;rw[ARx]at this;rw[if_pos d,this,d];rfl
  .rw[if_neg d,AT8 hf];rfl
 have d:=den_pos q;have e1:decide ((1:Int)<=((q.den:Nat):Int))=true:=decide_eq_true (by omega);have e2:decide (Int.gcd q.num ((q.den:Nat):Int)=1)=true:=decide_eq_true (fq q).one;have e3:decide (ftx q=if q.den=1 then itx q.num else itx q.num++47::dgs q.den)=true:=decide_eq_true rfl;unfold rdB;simp only[ea,eb,Kh,Ja,OD,Np h.1,Np h.2,e1,e2,e3,Bool.and_self]
def AQI:List (List Nat):=[[],[43,49],[45,48],[48,49],[49,47,49],[50,47,52],[49,47,48],[48,47,53],[49,47,45,50],[49,47,47,50],[49,47],[47,50],[97],[49,46,53],[40,49,41],[45,45,49]]
def AQD:List (List Nat):=[[48,47,49],[45,48,47,51],[49,47,48,50],[45],[45,49,47],[49,32],[32,49],[49,32,32,50],[45,54,47,51],[49,47,50,47,51],[48,48],[49,47,43,50]]
def AQH:List (List Nat):=[[49,48,48,48,48,48,48,48,48,48,48,48,48,48,48,48,48,48,48,48,48,48,48,48,48,48,48,48,48,48,48],[49,47,49,48,48,48,48,48,48,48,48,48,48,48,48,48,48,48,48,48,48,48,48,48,48,48,48,48,48,48,48,48,48],[45,49,48,48,48,48,48,48,48,48,48,48,48,48,48,48,48,48,48,48,48,48,48,48,48,48,48,48,48,48,48,48]]
def AQn(l:List Nat):Bool:=l.all (fun c=>decide (c<128))&&decide (l.length<=64)&&!rdB l&&(!decide (32∈l) || decide (l=[49,32]) || decide (l=[32,49]) || decide (l=[49,32,32,50]))
def AQo:List Nat:=[43,46,95,120,65,40,41,44,58]
theorem Uk{l:List Nat}{n:Nat}(h:n<=l.length):Txt.slice (sx l) none (some (n:Int))=sx (l.take n):=by
 refine(show Txt.slice (sx l) none (some (n:Int))=_ from StrLaws.sliceText_to ⟨by omega,by rw[Dp];omega⟩).trans ?_;rw[Dp,ASc];unfold sx
 congr 3
theorem ABb{l:List Nat}{n:Nat}(h:n<=l.length):Txt.slice (sx l) (some (n:Int)) none=sx (l.drop n):=by
 refine(show Txt.slice (sx l) (some (n:Int)) none=_ from StrLaws.sliceText_from ⟨by omega,by rw[Dp];omega⟩).trans ?_;rw[Dp,ASj];unfold sx;rw[ARj (by rw[ARd];omega)]
theorem FJ(h:ftx p=ftx q):p=q:=by
 obtain⟨a,b,x,y,_,_,_,_,key⟩:=RN (ftx p);obtain⟨k1,k2⟩:=key p rfl;obtain⟨k3,k4⟩:=key q h;have e1:p.num=q.num:=by rw[<-Kh p.num,<-k1,k3,Kh]
 have e2:p.den=q.den:=by rw[<-Ja p.den,<-k2,k4,Ja]
 exact AVj e1 e2
theorem Lz:∀{ps qs:List Rat},Ay ps=Ay qs->ps=qs
 | [],[],_=>rfl
 | [],_::_,h=>by cases h
 | _::_,[],h=>by cases h
 | p::ps,q::qs,h=>by
  have h':ftx p::Ay ps=ftx q::Ay qs:=h;injection h' with h1 h2;rw[FJ h1,Lz h2]
theorem JN(qs:List Rat):∀v∈Ay qs,32∉v:=fun v hv=>by
 obtain⟨q,_,rfl⟩:=ARR.mp hv;exact Jv q
theorem Ub(qs:List Rat):∀v∈Ay qs,v≠[]:=fun v hv=>by
 obtain⟨q,_,rfl⟩:=ARR.mp hv;exact AHp q
theorem K3(h:jn 32 (Ay ps)=jn 32 (Ay qs)):ps=qs:=by
 by_cases e:Ay ps=[]
 .rw[e]at h;have:=Z5 (Ub qs) h.symm;exact Lz (e.trans this.symm)
 .by_cases e':Ay qs=[]
  .rw[e']at h;exact absurd (Z5 (Ub ps) h) e
  .exact Lz (Fe (JN ps) (JN qs) e e' h)
theorem AAt{c:Nat}(hc:c<128):∀{W:List (List Nat)},(∀w∈W,∀x∈w,x<128)->∀x∈jn c W,x<128
 | [],_,x,hx=>by cases hx
 | [w],h,x,hx=>h w (by simp) x hx
 | w::v::r,h,x,hx=>by
  rcases ARP.mp (show x∈w++c::jn c (v::r) from hx) with y|y
  .exact h w (by simp) x y
  .rcases ARI.mp y with y|y
   .rw[y];exact hc
   .exact AAt hc (W:=v::r) (fun u hu=>h u (ARb _ hu)) x y
def AAf(H:Hp)(v:V):Prop:=v=.non\/(∃b,v=.bl b)\/(∃i,v=.int i)\/∃p xs,v=.ref p/\(H p=some (.tup xs)\/H p=some (.lst xs))
theorem AAf.no(h:AAf H v):Uj K H v:=by
 rcases h with h|⟨b,h⟩|⟨i,h⟩|⟨p,xs,h,h'|h'⟩
 .rw[h];exact⟨_,Em.non,by with_unfolding_all rfl⟩
 .rw[h];exact⟨_,Em.bl b,by with_unfolding_all rfl⟩
 .rw[h];exact⟨_,Em.int i,by with_unfolding_all rfl⟩
 .rw[h];exact⟨_,Em.tup h',by with_unfolding_all rfl⟩
 .rw[h];exact⟨_,Em.lst h',by with_unfolding_all rfl⟩
def Bad(l:List Nat):Prop:=Pln l/\∀qs,(∀q∈qs,F30 q)->l≠jn 32 (Ay qs)
theorem AAe(l:List Nat)(c:Nat):Txt.endswith (sx l) (sx [c])=decide (l.getLast?=some c):=by
 rcases ATI l with e|⟨m,x,e⟩
 .subst e;unfold Txt.endswith;have:decide ((sx [c]).length<=(sx ([]:List Nat)).length)=false:=decide_eq_false (by rw[BJ,BJ];simp);simp[this]
 .rw[ATJ]at e;subst e;have h:=QF (m++[x]) c m.length;unfold StrLaws.At at h;unfold Txt.endswith;have e1:(sx (m++[x])).length-(sx [c]).length=m.length:=by rw[BJ,BJ];simp
  rw[e1];have e2:(m++[x])[m.length]?=some x:=by simp
  have e3:(m++[x]).getLast?=some x:=by simp
  rw[e3];rw[e2]at h;by_cases hx:x=c
  .have:=h.mpr (by rw[hx]);rw[decide_eq_true (show some x=some c by rw[hx]),ASK];refine⟨decide_eq_true ?_,this.2⟩;rw[BJ,BJ];simp
  .rw[decide_eq_false (fun z=>hx (ARK z))];refine Bool.eq_false_iff.mpr fun z=>hx (ARK (h.mp ?_));rw[ASK]at z;refine⟨?_,z.2⟩;rw[BJ,BJ];simp
theorem Kp(h:C30 gs ws):∀v∈Bu gs ws,32∉v:=h.mem (fun w _ z=>by
  rcases ARI.mp z with y|y
  .cases y
  .rcases ARP.mp y with y|y
   .exact Jv w y
   .cases ARp.mp y) fun g _=>Jv g
theorem Ka(h:C30 gs ws):L3.ev2 (Bu gs ws)=gs.map ftx:=by
 have hl:=h.fine.len;have h0:0<gs.length:=by omega
 unfold Bu;rw[QJ _ (by rw[ARd];omega),Po.getD_in h0,<-ARm (f:=ftx),<-ASs h0,ASc]
theorem JR(h:C30 gs ws):L3.ev2 ((Bu gs ws).drop 1)=ws.map brx:=by
 have hl:=h.fine.len;show L3.ev2 (cw ws (gs.drop 1))=_;rw[Tf (by rw[ARd];omega)]
theorem Ih{f:Rat->List Nat}(hf:∀p q,f p=f q->p=q):∀{ps qs:List Rat},ps.map f=qs.map f->ps=qs
 | [],[],_=>rfl
 | [],_::_,h=>by cases h
 | _::_,[],h=>by cases h
 | p::ps,q::qs,h=>by
  rw[ARm,ARm]at h;injection h with h1 h2;rw[hf _ _ h1,Ih hf h2]
theorem YD(h:brx p=brx q):p=q:=by
 unfold brx at h;injection h with _ h;exact FJ (ATX h)
theorem Ut:∀(xs ys:List (List Nat)),xs.length=ys.length->L3.ev2 xs=L3.ev2 ys->L3.ev2 (xs.drop 1)=L3.ev2 (ys.drop 1)->xs=ys
 | [],[],_,_,_=>rfl
 | [x],[y],_,h,_=>h
 | x::x'::xs,y::y'::ys,hl,h,h'=>by
  have h1:x::L3.ev2 xs=y::L3.ev2 ys:=h;injection h1 with h1 h2;have hl':(x'::xs).length=(y'::ys).length:=by simpa using hl
  have h3:L3.ev2 (x'::xs)=L3.ev2 (y'::ys):=h';have:=Ut (x'::xs) (y'::ys) hl' h3 h2;rw[h1,this]
 | [],_::_,h,_,_=>by simp at h
 | _::_,[],h,_,_=>by simp at h
 | [_],_::_::_,h,_,_=>by simp at h
 | _::_::_,[_],h,_,_=>by simp at h
theorem Z2(fine:Qs gs ws)(hg:L3.ev2 W=gs.map ftx)(hw:L3.ev2 (W.drop 1)=ws.map brx):W=Bu gs ws:=by
 have hl:=fine.len;have h0:0<gs.length:=by omega
 have jw:ws.length=(gs.drop 1).length:=by rw[ARd];omega
 have e0:L3.ev2 (Bu gs ws)=gs.map ftx:=by
  unfold Bu;rw[QJ _ jw,Po.getD_in h0,<-ARm (f:=ftx),<-ASs h0,ASc]
 have e1:L3.ev2 ((Bu gs ws).drop 1)=ws.map brx:=by
  show L3.ev2 (cw ws (gs.drop 1))=_;rw[Tf jw]
 refine Ut _ _ ?_ (hg.trans e0.symm) (hw.trans e1.symm);have a1:=congrArg List.length hg;have a2:=congrArg List.length hw;rw[L3.ev2_length,Io]at a1 a2;rw[ARd]at a2;show _=(cw ws (gs.drop 1)).length+1;rw[RQ jw];omega
def Rh(cT:Addr):Sp:=fun vs H Q E=>∃l,vs=[.str (sx l)]/\l.length<=50000/\(∀m,l=40::(m++[41])->Q (.str (sx m)) H)/\((∀m,l≠40::(m++[41]))->E (.ref cT) none H)
def Rr(K:W.Frag)(C cT:Addr):Sp:=fun vs H Q E=>∃v,vs=[v]/\((Uj K H v/\E (.ref cT) none H)\/∃l,v=.str (sx l)/\Pln l/\(∀gs ws,C30 gs ws->l=jn 32 (Bu gs ws)->∀c ga wa H',Al H H'->H ga=none->H wa=none->Co C H' c ga wa gs ws->Q (.ref c) H') /\
 ((∀gs ws,C30 gs ws->l≠jn 32 (Bu gs ws))->∀H',Al H H'->E (.ref cT) none H'))
def Fx(cN:Addr):Sp:=fun vs H Q _=>∃e v,vs=[.ref e,v]/\H e=some (.ext (HD e (.ref cN) none))/\∀d,H d=none->d≠e->Q .non (upd (upd H d (.xd [("place",v)])) e (.ext (HD e (.ref cN) (some d))))
def Xx:Sp:=fun vs H Q _=>∃a qs,vs=[.ref a]/\Rw H a qs/\qs.length<=60000/\∀b H',Al H H'->(b=true ↔ ∀q∈qs,0<q)->Q (.bl b) H'
def Iv(C cN:Addr):Sp:=fun vs H Q E=>∃x a b gs ws dx,vs=[.ref x,.ref a,.ref b]/\H x=some (.ins C dx [])/\Rw H a gs/\Rw H b ws/\gs.length<=60000/\ws.length<=60000 /\
 (Qs gs ws->∀ga wa H',(∀b o,b≠x->H b=some o->H' b=some o)->H ga=none->H wa=none->Co C H' x ga wa gs ws->Q .non H') /\
 (¬Qs gs ws->∀d H',Al H H'->E (.ref cN) (some d) H')
theorem Z1(q:Rat):(decide ((1:Int)<=(q.den:Int))&&decide (g q.num (q.den:Int)=1))=true:=by
 have d:=den_pos q;have hg:g q.num q.den=1:=by
  unfold g;rw[(fq q).one];rfl
 rw[decide_eq_true (show(1:Int)<=(q.den:Int) by omega),decide_eq_true hg];rfl
theorem Xk(q:Rat):sgn q.num=1 ↔ 0<q:=by
 unfold sgn;constructor
 .intro h;by_cases h':0<q.num
  .have h0:0<=q:=Rat.num_nonneg.mp (by omega);apply ASe;intro z;have:q=0:=Rat.le_antisymm (Rat.not_lt.mp z) h0;rw[this]at h';exact absurd h' (by decide)
  .rw[if_neg h']at h
   split at h<;>omega
 .intro h;have h0:0<=q.num:=Rat.num_nonneg.mpr (Rat.le_of_lt h);have h1:q.num≠0:=fun z=>Rat.ne_of_gt h (ATc.mp z);rw[if_pos (by omega)]
theorem J9:Ao ["word"] ["word"] (Ae El):=fsc
theorem KJ{ah aq ak af ai ao ap:Addr}(F:FnX K "within_brackets" "within_brackets" El f fd)(T:Txt mg)(R:Fw K mg ah aq ak af ai ao ap):BR P w K mg base (CXd P w) 1 f fd ["word"] (Rh ah):=by
 refine Cd F J9 fun vs H Q E h=>?_;obtain⟨l,rfl,hl,q,qx⟩:=h;walk_at "b";walk_at "a"
 refine⟨_,(Ac (BP (PW.pt (Dk (By (Bv (Eo ARk AUL AUM Qp (pv 0) (Aa Ai Ab)))) (CV (By (Bv (Eo ARk PySem.F.slot_str_endswith PySem.F.type_str_endswith ACS (pv 0) (Aa Ai Ab)))))))
    (Af (Bk R.m_NoText R.o_NoText (Aa Ai Ab)))
    Ar)
   (Af (Aq (Cr Mm (pv 0) (DG Ad) (DG (Hv Fi Ad)))))),?_⟩
 refine⟨_,rfl,rfl,_,_,rfl,rfl,?_⟩;rw[show Str.ofString "("=sx [40] from rfl,Jt];walk_at "8"
 .refine⟨(by show 1<=sizeLine;decide),qx fun m z=>?_⟩;rw[z]at c;exact absurd c (by simp)
 have c0:l[0]?=some 40:=by
  apply ASe;intro z;exact c (by rw[decide_eq_false z];rfl)
 refine⟨_,rfl,rfl,_,_,rfl,rfl,?_⟩;rw[show Str.ofString ")"=sx [41] from rfl,AAe];walk_at "8"
 .refine⟨(by show 1<=sizeLine;decide),qx fun m z=>?_⟩;have e:l.getLast?=some 41:=by
   rw[z,<-ASo];exact AT1
  rw[decide_eq_true e]at c;exact absurd c (by decide)
 have c1:l.getLast?=some 41:=by
  apply ASe;intro z;exact c (by rw[decide_eq_false z];rfl)
 obtain⟨m,rfl⟩:∃m,l=40::(m++[41]):=by
  cases l with
  | nil=>simp at c0
  | cons x r =>
   have ex:x=40:=by simpa using c0
   subst ex;rcases ATI r with e|⟨m,y,e⟩
   .subst e;simp at c1
   .rw[ATJ]at e;subst e;rw[<-ASo]at c1;rw[AT1]at c1;have:y=41:=ARK c1;exact⟨m,by rw[this]⟩
 refine⟨_,rfl,_,rfl,_,rfl,_,rfl,_,rfl,?_,?_⟩
 .rw[BJ];omega
 .rw[Ye];exact q m rfl
theorem NP:Ao ["thing"] ["thing"] (Ae Eg):=fsc
theorem NT(F:Fun K "is_row_above" "is_row_above" Eg f fd)(T:Txt mg)(aP:Cal P w K mg base "is_fraction" 2 ["thing"] R6)(aS:Cal P w K mg base "side" 1 ["one"] Hm):BR P w K mg base CX0 3 f fd ["thing"] Xx:=by
 refine F.okk NP fun vs H Q E h=>?_;obtain⟨a,qs,rfl,ra,aB,q⟩:=h;refine⟨rfl,fun cdv A outer s hr=>?_⟩;obtain⟨ps,hx,kp⟩:=id ra;have hl:=kp.length;refine⟨_,(Ac (BP (By (Bv (Ax HX rfl T.z_isinstance boot_isinstance (Aa (pv 0) (Aa (Hk (v:=.ty "list") rfl T.z_list boot_list rfl) Ab)))))
    (Af (Aq JK))
    Ar)
   (Af (Aq (Ax (Ox rfl) rfl T.z_all boot_all (Aa (Gp (N':=["part"]) (fsc:=Ae Eg) (N:=["thing"]) [] ⟨rfl,by decide +kernel,by decide +kernel,by decide +kernel,rfl,by decide +kernel,rfl,by decide +kernel⟩ (Dg (pv 0)) (fun _ _ _ _=>(SQ (BW aP hr (Aa (pv 0) Ab)) (S9 (Gn Bs (BW aS hr (Aa (pv 0) Ab)) Ad (Av _)))))) Ab))))),?_⟩
 refine⟨_,rfl,_,_,_,_,rfl,Em.lst hx,U7 _,_,rfl,FZ ?_⟩;refine⟨_,rfl,a,rfl,⟨_,SqL.of hx⟩,UJ (xs:=ps.map V.ref) (by rw[Io];omega) hx (fun i=>decide (0<qs.getD i 0)) ?_ fun H1 D s1 nD eD=>?_⟩
 .intro _ _ _ _ i x H1 R mP s1 fin;have hi:i<qs.length:=by
   have:=(ARO.mp mP).1;rw[Io]at this;omega
  obtain⟨p1,e1,k1⟩:=kp.get (AQ9 hi);rw[mP]at e1;cases e1;have k2:=k1.keep s1;rw[Po.getD_in hi]at fin;generalize qs[i]=q1 at *;refine⟨_,rfl,p1,_,_,rfl,k2,_,rfl,?_⟩;rw[Z1];refine Ga ⟨_,rfl,p1,_,_,rfl,k2,rfl,?_⟩;have e:decide (V.int (sgn q1.num)=V.int 1)=decide (0<q1):=by
   by_cases h:0<q1
   .rw[decide_eq_true h,decide_eq_true (congrArg V.int ((Xk q1).mpr h))]
   .rw[decide_eq_false h,decide_eq_false (fun z=>h ((Xk q1).mp (V.int.inj z)))]
  rw[e];exact fin H1 (Al.refl _)
 .refine⟨D,_,rfl,SqL.of eD,q _ H1 s1 ?_⟩;rw[Io,hl,ARg];constructor
  .intro h x hx;obtain⟨i,hi,rfl⟩:=AVB hx;have:=h (decide (0<qs.getD i 0)) (ARR.mpr ⟨i,ASh.mpr hi,rfl⟩);rw[Po.getD_in hi]at this;exact of_decide_eq_true this
  .intro h x hx;obtain⟨i,hi,rfl⟩:=ARR.mp hx;have hi':=ASh.mp hi;rw[Po.getD_in hi'];exact decide_eq_true (h _ (ARS hi'))
theorem Pa:Ao ["self","place"] ["self","place"] (Ae Gs):=fsc
theorem OJ{ah aq ak af ai ao ap:Addr}(F:Fun K "__init__" "NoCord.__init__" Gs f fd)(T:Txt mg)(R:Fw K mg ah aq ak af ai ao ap):BR P w K mg base CX0 1 f fd ["self","place"] (Fx af):=by
 refine F.okk Pa fun vs H Q E h=>?_;obtain⟨e,v,rfl,he,q⟩:=h;walk_at "b";refine⟨_,(Af (ACN (pv 0) (pv 1) rfl)),?_⟩;exact⟨_,rfl,_,rfl,e,af,rfl,he,R.fx_NoCord,R.nf_NoCord,fun d hd hne=>q d hd hne⟩
theorem T3:Ao ["self","gaps","weights"] ["self","gaps","weights"] (Ae JB):=fsc
theorem QZ{ah aq ak af ai ao ap:Addr}(F:FnX K "__init__" "Cord.__init__" JB f fd)(T:Txt mg)(R:Fw K mg ah aq ak af ai ao ap)(O:K4 K mg au)(bn:Cal P w K mg base "is_row_above" 3 ["thing"] Xx)(ax:Us P w K mg base "NoCord" af 1 ["self","place"] (Fx af)):BR P w K mg base (CXn P w) 4 f fd ["self","gaps","weights"] (Iv au af):=by
 refine APs F T3 (fun vs H Q E h=>?_) (fun cdv A outer s H vs Q E hr h=>?_)
 .obtain⟨x,a,b,gs,ws,dx,rfl,_⟩:=h;rfl
 obtain⟨x,a,b,gs,ws,dx,rfl,iy,mQ,mR,mS,mT,qi,qe⟩:=h;walk_at "a"
 have raise:∀(H1:Hp),Al H H1->¬Qs gs ws->([V.non]:List V).length<=sizeLine/\∀e,H1 e=none->Fx af (.ref e::[V.non]) (upd H1 e (.ext (HD e (.ref af) none)))
   (fun r H2=>r=.non/\∃dx,H2 e=some (.ext (HD e (.ref af) dx))/\E (.ref af) dx (drp H2 e)) E0:=fun H1 sm nf=>by
  refine⟨by show 1<=sizeLine;decide,fun e he=>⟨e,.non,rfl,Ag,fun d hd hde=>⟨rfl,some d,Ag,?_⟩⟩⟩;have hd1:H1 d=none:=by rw[An hde]at hd;exact hd
  refine qe nf d _ (fun b o eb=>?_);have n1:b≠e:=Az (sm _ _ eb) he;have n2:b≠d:=Az (sm _ _ eb) hd1;rw[Eu n1,An n1,An n2,An n1];exact sm _ _ eb
 refine⟨_,(Ac (BP (PW.pt (Dk (By (Bv (BW bn hr (Aa (pv 1) Ab)))) (CV (By (Bv (BW bn hr (Aa (pv 2) Ab)))))))
    (Af (Q8 ax hr (Aa Gr Ab)))
    Ar)
   (Ac (BP (PW.pt (Dk (Am GC (Ax BV rfl T.z_len ARW (Aa (pv 1) Ab)) (Ak J6 (Ax BV rfl T.z_len ARW (Aa (pv 2) Ab)) Ad) (Av _)) (CV (Am HN (Ax BV rfl T.z_len ARW (Aa (pv 2) Ab)) (HF rfl T.c_MOST_BEADS) (Av _)))))
    (Af (Q8 ax hr (Aa Gr Ab)))
    Ar)
   (Ac (WM (pv 0) (Cu EY rfl T.z_list boot_list (Aa (pv 1) Ab)) rfl)
   (Af (WM (pv 0) (Cu EY rfl T.z_list boot_list (Aa (pv 2) Ab)) rfl))))),?_⟩
 refine⟨_,rfl,a,gs,rfl,mQ,mS,fun b1 H1 t1 hb1=>⟨_,rfl,?_⟩⟩;by_cases e1:b1=true
 case neg =>
  rw[Bool.eq_false_iff.mpr e1];exact Ga (raise H1 t1 fun fine=>e1 (hb1.mpr fine.pos.1))
 subst e1;refine FZ ?_;refine⟨_,rfl,b,ws,rfl,mR.keep t1,mT,fun b2 H2 t2 hb2=>⟨_,rfl,?_⟩⟩;by_cases e2:b2=true
 case neg =>
  rw[Bool.eq_false_iff.mpr e2];exact Ga (raise H2 (t1.trans t2) fun fine=>e2 (hb2.mpr fine.pos.2))
 subst e2;refine FZ ?_;have pg:=hb1.mp rfl;have pw:=hb2.mp rfl;have ij:=t1.trans t2;have ex:=ij _ _ iy;have ra:=mQ.keep ij;have rb:=mR.keep ij;have eM:=raise H2 ij;obtain⟨xa,ea,la⟩:=ra.there;obtain⟨xb,eb,lb⟩:=rb.there;by_cases aB:gs.length=ws.length+1
 case neg =>
  refine⟨_,rfl,_,_,rfl,.inl (SqL.of ea),_,rfl,_,_,rfl,.inl (SqL.of eb),_,_,rfl,rfl,rfl,_,rfl,Cw (fun c=>?_) (fun c=>?_)⟩
  .exact eM fun fine=>aB fine.len
  .exfalso;refine c ?_;have:¬(V.int (xa.length:Int)=V.int ((xb.length:Int)+1)):=fun z=>aB (by have:=V.int.inj z;omega);simpa using this
 by_cases aC:ws.length<=12
 case neg =>
  refine⟨_,rfl,_,_,rfl,.inl (SqL.of ea),_,rfl,_,_,rfl,.inl (SqL.of eb),_,_,rfl,rfl,rfl,_,rfl,Ji (by rw[la,lb];exact congrArg V.int (by omega)) ?_⟩;exact⟨_,rfl,_,_,rfl,.inl (SqL.of eb),_,_,rfl,rfl,_,rfl,Ly (by omega) (eM fun fine=>aC fine.most)⟩
 clear raise eM;have q0:=qi ⟨aB,aC,pg,pw⟩;clear qe qi ea la eb lb xa xb hb1 hb2;have q:∀ga wa H',(∀b o,b≠x->H2 b=some o->H' b=some o)->H2 ga=none->H2 wa=none->Co au H' x ga wa gs ws->Q .non H':=fun ga wa H' k n1 n2 co=>q0 ga wa H' (fun b o n e=>k b o n (ij _ _ e)) (ij.free n1) (ij.free n2) co;clear q0 iy mQ mR t1;clear ij;clear t2;clear H1;generalize H2=H at *;obtain⟨xa,ea,la⟩:=ra.there;obtain⟨xb,eb,lb⟩:=rb.there;refine⟨_,rfl,_,_,rfl,.inl (SqL.of ea),_,rfl,_,_,rfl,.inl (SqL.of eb),_,_,rfl,rfl,rfl,_,rfl,Ji (by rw[la,lb];exact congrArg V.int (by omega)) ?_⟩;refine⟨_,rfl,_,_,rfl,.inl (SqL.of eb),_,_,rfl,rfl,_,rfl,Hw (by omega) ?_⟩;refine⟨_,rfl,a,_,rfl,.inl (SqL.of ea),fun ga hga=>?_⟩;have s1:=Aj hga (.lst xa);have r1:=ra.copy ea hga;refine⟨_,rfl,x,_,dx,_,rfl,s1 _ _ ex,O.cl,O.n_kept_gaps,by decide,?_⟩;have yj:x≠ga:=Az ex hga;have nb:b≠x:=Gk eb ex (by intro z;cases z);obtain⟨H2,e2⟩:∃H2,H2=upd (upd H ga (.lst xa)) x (.ins au dx (Hn "kept_gaps" (.ref ga) [])):=⟨_,rfl⟩;rw[<-e2];have k2:∀c o,c≠x->(upd H ga (.lst xa)) c=some o->H2 c=some o:=fun c o n e=>by rw[e2,An n];exact e
 have rows:∀{c:Addr} {qs:List Rat},Rw (upd H ga (.lst xa)) c qs->Rw H2 c qs:=fun {c qs} r=>by
  obtain⟨ps,h1,h2⟩:=r;exact⟨ps,k2 _ _ (Gk h1 (s1 _ _ ex) (by intro z;cases z)) h1,Paired.imp' (fun p t z=>by
   have z':(upd H ga (.lst xa)) p=some (.tup [.int t.num,.int t.den]):=z;exact k2 _ _ (Gk z' (s1 _ _ ex) (by intro w;cases w)) z') h2⟩
 have qj:=rows (rb.keep s1);have tW:=rows r1;have kR:H2 x=some (.ins au dx [("kept_gaps",.ref ga)]):=by rw[e2,Ag];rfl
 obtain⟨jx,qk,lb2⟩:=qj.there;refine⟨_,rfl,b,_,rfl,.inl (SqL.of qk),fun wa i5=>?_⟩;have s3:=Aj i5 (.lst jx);have r3:=qj.copy qk i5;refine⟨_,rfl,x,_,dx,_,rfl,s3 _ _ kR,O.cl,O.n_kept_weights,(by show 1<1000;decide),?_⟩;obtain⟨H4,e4⟩:∃H4,H4=upd (upd H2 wa (.lst jx)) x (.ins au dx (Hn "kept_weights" (.ref wa) [("kept_gaps",.ref ga)])):=⟨_,rfl⟩;have k4:∀c o,c≠x->(upd H2 wa (.lst jx)) c=some o->H4 c=some o:=fun c o n e=>by rw[e4,An n];exact e
 have iq:∀{c:Addr} {qs:List Rat},Rw (upd H2 wa (.lst jx)) c qs->Rw H4 c qs:=fun {c qs} r=>by
  obtain⟨ps,h1,h2⟩:=r;exact⟨ps,k4 _ _ (Gk h1 (s3 _ _ kR) (by intro z;cases z)) h1,Paired.imp' (fun p t z=>by
   have z':(upd H2 wa (.lst jx)) p=some (.tup [.int t.num,.int t.den]):=z;exact k4 _ _ (Gk z' (s3 _ _ kR) (by intro w;cases w)) z') h2⟩
 have fin:=q ga wa H4 (fun c o n e=>k4 c o n (s3 _ _ (k2 c o n (s1 _ _ e)))) hga ?_ ⟨⟨dx,?_⟩,iq (tW.keep s3),iq r3⟩
 .rw[e4]at fin;exact fin
 .cases hw:H wa with
  | none=>rfl
  | some o =>
   by_cases n:wa=x
   .rw[n,kR]at i5;cases i5
   .rw[k2 wa o n (s1 _ _ hw)]at i5;cases i5
 .rw[e4,Ag];rfl
theorem Fo:Ao ["text","words","gaps","weights"] ["text"] (Ae FT):=fsc
theorem TQ{ah aq ak af ai ao ap:Addr}(F:FnX K "read_cord" "read_cord" FT f fd)(T:Txt mg)(R:Fw K mg ah aq ak af ai ao ap)(aJ:DR P w K mg base "check_text" 1 ["thing"] [] [] (Jb K ah))(aw:DR P w K mg base "read_fraction" 3 ["text"] [] [] (JQ K ah))(bp:DR P w K mg base "within_brackets" 1 ["word"] [] [] (Rh ah))
  (aN:CalCN P w K mg base "Cord" au 4 ["self","gaps","weights"] (Iv au af)):BR P w K mg base (CXd P w) 6 f fd ["text"] (Rr K au ah):=by
 refine Cd F Fo fun vs H Q E h=>?_;obtain⟨v,rfl,h⟩:=h;refine⟨rfl,fun cdv A outer s hr=>?_⟩;refine⟨_,(Ac (Dy (Bg aJ hr (Aa (pv 0) Ab)))
   (Ac (pS 1 Fo.nd (Eo ARk AS8 AS9 Pg (pv 0) (Aa Ai Ab)))
   (Ac (LC (i:=2) Fo.nd rfl (Or.inl rfl) (N':=["word"]) (fsc:=Ae FT) (N1:=["text","words","gaps","weights"]) [] ⟨rfl,by decide +kernel,by decide +kernel,by decide +kernel,rfl,by decide +kernel,rfl,by decide +kernel⟩ (Dg (U3 (pv 1) Dr Ad)) (fun _ _ _ _ _ hpp=>(Jd aw hr hpp (Aa (pv 0) Ab))))
   (Ac (LC (i:=3) Fo.nd rfl (Or.inl rfl) (N':=["word"]) (fsc:=Ae FT) (N1:=["text","words","gaps","weights"]) [] ⟨rfl,by decide +kernel,by decide +kernel,by decide +kernel,rfl,by decide +kernel,rfl,by decide +kernel⟩ (Dg (U3 (pv 1) (DG Ad) Ad)) (fun _ _ _ _ _ hpp=>(Jd aw hr hpp (Aa (Jd bp hr hpp (Aa (pv 0) Ab)) Ab))))
   (Af (Z8 aN hr (Aa (pv 2) (Aa (pv 3) Ab)) R.m_NoCord R.m_NoText R.o_NoText (fun _=>(Aa Ai Ab)))))))),?_⟩
 walk_at "ao"
 .walk_at "ar"
 walk_at "a"
 refine⟨_,rfl,_,rfl,.inl ⟨_,rfl,?_⟩⟩;obtain⟨W,nW,fW,eW,es⟩:=O4 l;have lc:=Pu (c:=32) (W:=W);rw[eW]at lc;have es':Txt.split (sx l) (Str.ofString " ")=W.map sx:=es;have key:∀gs ws,C30 gs ws->l=jn 32 (Bu gs ws)->W=Bu gs ws:=fun gs ws dG z=>Fe (c:=32) fW (Kp dG) nW (by unfold Bu;simp) (eW.trans z);refine⟨_,rfl,rfl,_,_,rfl,rfl,(by decide),by rw[BJ];omega,by rw[es',Io];omega,fun D hD=>?_⟩;rw[es'];have s1:=Aj hD (.lst ((W.map sx).map V.str));have e1:upd H D (.lst ((W.map sx).map V.str)) D=some (.lst ((W.map sx).map V.str)):=Ag;generalize upd H D (.lst ((W.map sx).map V.str))=H1 at *;have ev:∀n,L3.ev2 (((W.map sx).map V.str).drop n)=(((L3.ev2 (W.drop n)).map sx).map V.str):=fun n=>by
  rw[L3.ev2_map,L3.ev2_map,AT5,AT5]
 have hev:∀n,(L3.ev2 (W.drop n)).length<=60000:=fun n=>by
  rw[L3.ev2_length,ARd];omega
 have hmem:∀n,∀w∈L3.ev2 (W.drop n),Pln w:=fun n w hw=>by
  obtain⟨j1,j2⟩:=Nv (c:=32) (ASE (L3.ev2_mem hw));rw[eW]at j1 j2;exact⟨fun x hx=>ha x (j1 x hx),by omega⟩
 refine⟨_,rfl,D,_,0,rfl,rfl,.inl ⟨rfl,rfl⟩,SqL.of e1,fun g1 n1=>?_⟩;rw[ev 0];have s2:=Aj n1 (.lst (((L3.ev2 (W.drop 0)).map sx).map V.str));have l0:=hev 0;refine⟨g1,rfl,⟨_,SqL.of Ag⟩,KQ (W:=L3.ev2 (W.drop 0)) (by omega) Ag F30 ftx ?_ fun H3 G gs gG gW s3 nG rG=>?_⟩
 .intro _ _ _ _ w H2 R' hw s3 fin;refine⟨_,rfl,_,rfl,.inr ⟨w,rfl,hmem 0 w hw,fun q hq ew p H3 s4 kp=>fin q p H3 hq ew s4 kp,fun nf H3 s4=>kx (fun gs ws dG z=>?_) H3 (s1.trans (s2.trans (s3.trans s4)))⟩⟩;rw[key gs ws dG z,ASc,Ka dG]at hw;obtain⟨q,hq,eq⟩:=ARR.mp hw;exact nf q (dG.g30 q hq) eq.symm
 have e3:=(s2.trans s3) _ _ e1;refine⟨_,rfl,_,rfl,D,_,1,rfl,rfl,.inr rfl,SqL.of e3,fun w1 n2=>?_⟩;rw[ev 1];have s4:=Aj n2 (.lst (((L3.ev2 (W.drop 1)).map sx).map V.str));have l1:=hev 1;refine⟨w1,rfl,⟨_,SqL.of Ag⟩,KQ (W:=L3.ev2 (W.drop 1)) (by omega) Ag F30 brx ?_ fun H5 Wa ws wG wW s5 nW rW=>?_⟩
 .intro _ _ _ _ w H2 R' hw s5 fin;have bad:(∀q,F30 q->w≠brx q)->∀gs ws,C30 gs ws->l≠jn 32 (Bu gs ws):=fun nf gs ws dG z=>by
   rw[key gs ws dG z,JR dG]at hw;obtain⟨q,hq,eq⟩:=ARR.mp hw;exact nf q (dG.w30 q hq) eq.symm
  have sA:=s1.trans (s2.trans (s3.trans (s4.trans s5)));have pw:=hmem 1 w hw;refine⟨_,rfl,w,rfl,pw.2,fun m em=>?_,fun nm=>kx (bad fun q _ z=>nm _ z) _ sA⟩;refine⟨_,rfl,.inr ⟨m,rfl,⟨fun x hx=>pw.1 x (by rw[em];simp[hx]),?_⟩,fun q hq ew p H3 s6 kp=>fin q p H3 hq (by rw[em,ew];rfl) s6 kp,fun nf H3 s6=>kx (bad fun q hq z=>?_) H3 (sA.trans s6)⟩⟩
  .have:=pw.2;rw[em]at this;simp at this;omega
  .rw[em]at z;unfold brx at z;injection z with _ z;exact nf q hq (ATX z)
 have jy:=s1.trans (s2.trans (s3.trans (s4.trans s5)));have tX:=rG.keep (s4.trans s5);clear e3 e1 s1 s2 s3 s4 s5 rG;have lg:gs.length<=60000:=by
  have:=congrArg List.length gW;rw[Io]at this;omega
 have lw:ws.length<=60000:=by
  have:=congrArg List.length wW;rw[Io]at this;omega
 rw[ASc]at gW;refine⟨_,rfl,_,rfl,?_⟩;intro x jz nx ndx ne;have s6:Al H5 (upd (upd H5 jz (.own x)) x (.ins au jz [])):=fun b o e=>by
  rw[An (Az e nx),An (Az e ndx)];exact e
 refine⟨x,G,Wa,gs,ws,jz,rfl,Ag,tX.keep s6,rW.keep s6,lg,lw,fun fine i0 i4 H' kp n1 n2 co=>⟨rfl,?_⟩,fun nf d H' s7=>⟨R.xs_NoCord,fun a na=>?_⟩⟩
 .exact k gs ws ⟨fine,gG,wG⟩ (by rw[<-eW,Z2 fine gW wW]) x i0 i4 H' (fun b o z=>kp b o (Az (jy _ _ z) nx) ((jy.trans s6) _ _ z)) ((jy.trans s6).free n1) ((jy.trans s6).free n2) co
 .refine⟨(by show 1<=sizeLine;decide),Ag,kx (fun gs' ws' dG z=>nf ?_) _ (AAi ((jy.trans s6).trans s7) na)⟩;have e:=key gs' ws' dG z;rw[e,Ka dG]at gW;rw[e,JR dG]at wW;rw[<-Ih (fun p q=>FJ) gW,<-Ih (fun p q=>YD) wW];exact dG.fine
open PySem.Builtin PySem.Builtin.Str in
theorem at3(ha:59∉a)(hb:59∉b)(i:Nat):StrLaws.At (sx (a++32::59::32::b)) (sx [32,59,32]) (sx (a++32::59::32::b)).length i ↔ i=a.length:=by
 unfold StrLaws.At;rw[StrLaws.subAt_eq,Dp,Dp,BJ,BJ];constructor
 .rintro⟨h1,h2⟩;have e:((a++32::59::32::b).drop i).take 3=[32,59,32]:=by simpa using h2
  have e1:(a++32::59::32::b)[i+1]?=some 59:=by
   have:=congrArg (fun l=>l[1]?) e;simp only[List.getElem?_take,AVN]at this;simpa using this
  by_cases h:i+1<a.length
  .rw[AR0 h]at e1;exact absurd (ARf e1) ha
  .rw[ARh (by omega)]at e1
   match k:i+1-a.length,e1 with
   | 0,e1=>cases e1
   | 1,_=>omega
   | 2,e1=>cases e1
   | j+3,e1=>exact absurd (ARf (show b[j]?=some 59 from e1)) hb
 .rintro rfl;refine⟨by rw[ARG];show a.length+3<=a.length+(b.length+3);omega,?_⟩;rw[List.drop_left']
  .simp
  .rfl
theorem AHV(ha:59∉a)(hb:59∉b):Txt.split (sx (a++32::59::32::b)) (sx [32,59,32])=[sx a,sx b]:=by
 have hl:(sx (a++32::59::32::b)).length=a.length+(b.length+3):=by rw[BJ,ARG];rfl
 have hs:(sx [32,59,32]).length=3:=rfl;have tY:PySem.Builtin.Str.occurrences (sx (a++32::59::32::b)) (sx [32,59,32]) 0 (sx (a++32::59::32::b)).length ((sx (a++32::59::32::b)).length+1)=[a.length]:=by
  rcases AUq (sx (a++32::59::32::b)) (sx [32,59,32]) ((sx (a++32::59::32::b)).length+1) (by omega) with⟨_,h⟩|⟨i,r,e,hi,_⟩
  .exact absurd ((at3 ha hb _).mpr rfl) (h a.length)
  .obtain rfl:=(at3 ha hb i).mp hi;obtain⟨f,ch⟩:=StrLaws.occ_chain (sx (a++32::59::32::b)) (sx [32,59,32]) ((sx (a++32::59::32::b)).length+1);rw[e]at ch ⊢;cases r with
   | nil=>rfl
   | cons j r =>
    obtain⟨_,_,h1,h2,_⟩:=ch;have:=(at3 ha hb j).mp h2;rw[hs]at h1;omega
 unfold Txt.split;rw[if_neg,tY,if_neg (by simp),ASO]
 .show [_,_]=_;refine congr (congrArg List.cons ?_) (congrArg (fun x=>[x]) ?_)
  .refine AVJ ?_;have:=StrLaws.strSub_toList (sx (a++32::59::32::b)) 0 a.length;rw[Dp,ASc,AVc,List.take_left' rfl]at this;exact Array.toList_inj.mp this
  .refine AVJ ?_;have:=StrLaws.strSub_toList (sx (a++32::59::32::b)) (a.length+3) (sx (a++32::59::32::b)).length;rw[Dp,hl]at this;have e:((a++32::59::32::b).drop (a.length+3)).take (a.length+(b.length+3)-(a.length+3))=b:=by
    rw[List.drop_append,List.drop_of_length_le (by omega),AUG,show a.length+3-a.length=3 by omega];show(b.take _)=b;exact ARj (by omega)
   rw[e]at this;rw[hl];exact Array.toList_inj.mp this
 .intro z;rw[Bool.or_eq_true]at z;rcases z with z|z
  .have:=of_decide_eq_true z;rw[hl,hs]at this;omega
  .have:=of_decide_eq_true z;have k:PySem.Builtin.Str.strKind (sx [32,59,32])=1:=by decide +kernel
   have p:=strKind_pos (sx (a++32::59::32::b));rw[k]at this;omega
def Nm(l:List Nat):Prop:=(1<=l.length/\l.length<=8)/\∀c∈l,c∈(List.range 26).map (97+·)
inductive Tg where
 | txt (l:List Nat)
 | cord (gs ws:List Rat)
 | frac (q:Rat)
 | whl (k:Int)
 | wrd (l:List Nat)
 | hlv (n:Nat)
 | pols (U L:List Rat)
 | row (qs:List Rat)
def TgD(C:Addr)(D:Addr)(H:Hp)(v:V):Tg->Prop
 | .txt l=>v=.str (sx l)
 | .cord gs ws=>∃c ga wa,v=.ref c/\Co C H c ga wa gs ws/\ga≠D/\wa≠D
 | .frac q=>∃p,v=.ref p/\Pq H p q
 | .whl k=>v=.int k
 | .wrd l=>v=.str (sx l)
 | .hlv n=>v=.int n
 | .pols U L=>∃D' u l,v=.ref D'/\H D'=some (.lst [.ref u,.ref l])/\Rw H u (Po.strip U)/\Rw H l (Po.strip L)/\D'≠D/\u≠D/\l≠D
 | .row qs=>∃r,v=.ref r/\Rw H r qs/\r≠D
theorem TgD.keep(h:TgD C D H v x)(s:Al H H'):TgD C D H' v x:=by
 cases x with
 | cord gs ws =>
  obtain⟨c,ga,wa,e,co,n1,n2⟩:=h;exact⟨c,ga,wa,e,co.keep s,n1,n2⟩
 | frac q =>
  obtain⟨p,e,k⟩:=h;exact⟨p,e,k.keep s⟩
 | pols U L =>
  obtain⟨D',u,l,e,ed,r1,r2,n0,n1,n2⟩:=h;exact⟨D',u,l,e,s _ _ ed,r1.keep s,r2.keep s,n0,n1,n2⟩
 | row qs =>
  obtain⟨r,e,r1,n⟩:=h;exact⟨r,e,r1.keep s,n⟩
 | _=>exact h
theorem TgD.put(h:TgD C D H v x)(e:H D=some (.lst xs)):TgD C D (upd H D (.lst zs)) v x:=by
 cases x with
 | cord gs ws =>
  obtain⟨c,ga,wa,ev,⟨⟨dx,ec⟩,r1,r2⟩,n1,n2⟩:=h;refine⟨c,ga,wa,ev,⟨⟨dx,?_⟩,r1.updO e n1,r2.updO e n2⟩,n1,n2⟩;rw[An (fun z=>by rw[z,e]at ec;cases ec)];exact ec
 | frac q =>
  obtain⟨p,ev,k⟩:=h;refine⟨p,ev,?_⟩;show upd H D (.lst zs) p=_;rw[An (fun z=>by
   have k':H p=_:=k;rw[z,e]at k';cases k')]
  exact k
 | pols U L =>
  obtain⟨D',u,l,ev,ed,r1,r2,n0,n1,n2⟩:=h;refine⟨D',u,l,ev,?_,r1.updO e n1,r2.updO e n2,n0,n1,n2⟩;rw[An n0];exact ed
 | row qs =>
  obtain⟨r,ev,r1,n⟩:=h;exact⟨r,ev,r1.updO e n,n⟩
 | _=>exact h
def whs:List (List Nat):=[[104,101,108,100],[108,111,111,115,101],[110,101,97,114],[102,114,101,101]]
def Ob:List (List Nat):=[[104,101,108,100],[108,111,111,115,101]]
theorem Xg:whs.map sx=[("held":Str),"loose","near","free"]:=by decide +kernel
theorem Uo:Ob.map sx=[("held":Str),"loose"]:=by decide +kernel
theorem Rf{cs:List (List Nat)}:sx l∈cs.map sx ↔ l∈cs:=⟨fun h=>by
 obtain⟨m,hm,e⟩:=ARR.mp h;rw[<-Ex e];exact hm,fun h=>ARR.mpr ⟨l,h,rfl⟩⟩
def ptx(U L:List Rat):List Nat:=jn 32 (Ay U)++32::59::32::jn 32 (Ay L)
def Ef(qs:List Rat):Prop:=qs≠[]/\∀q∈qs,F30 q
def RdT(k:Str)(l:List Nat):Tg->Prop
 | .txt m=>(k="new"\/k="name")/\l=m/\Nm m
 | .cord gs ws=>k="cord"/\l=jn 32 (Bu gs ws)/\C30 gs ws
 | .frac q=>k="fraction"/\l=ftx q/\F30 q
 | .whl i=>k="whole"/\l=ftx (i:Rat)/\F30 (i:Rat)
 | .wrd m=>(k="end"/\m∈Ob\/k="which"/\m∈whs)/\l=m
 | .hlv n=>k="halvings"/\l=ftx ((n:Int):Rat)/\n<=60
 | .pols U L=>k="two polys"/\l=ptx U L/\Ef U/\Ef L
 | .row qs=>k="length and worths"/\l=jn 32 (Ay qs)/\Ef qs
def kds:List Str:=["new","name","cord","fraction","whole","halvings","end","which","two polys","length and worths"]
def MP(cT:Addr):Sp:=fun vs H Q E=>∃l,vs=[.str (sx l)]/\Pln l/\(Nm l->∀H',Al H H'->Q (.str (sx l)) H')/\(¬Nm l->∀H',Al H H'->E (.ref cT) none H')
def Hq(cT:Addr):Sp:=fun vs H Q E=>∃l,vs=[.str (sx l)]/\Pln l/\(∀i:Int,F30 (i:Rat)->l=ftx (i:Rat)->∀H',Al H H'->Q (.int i) H')/\((∀i:Int,F30 (i:Rat)->l≠ftx (i:Rat))->∀H',Al H H'->E (.ref cT) none H')
def Ma(cT:Addr):Sp:=fun vs H Q E=>∃l,vs=[.str (sx l)]/\Pln l/\(∀n:Nat,n<=60->l=ftx ((n:Int):Rat)->∀H',Al H H'->Q (.int n) H')/\((∀n:Nat,n<=60->l≠ftx ((n:Int):Rat))->∀H',Al H H'->E (.ref cT) none H')
def Hz(cT:Addr):Sp:=fun vs H Q E=>∃(l:Str) (t:Addr) (cs:List Str),vs=[.str l,.ref t]/\H t=some (.tup (cs.map V.str))/\(l∈cs->∀H',Al H H'->Q (.str l) H')/\(l∉cs->∀H',Al H H'->E (.ref cT) none H')
def Jf(cT:Addr):Sp:=fun vs H Q E=>∃l,vs=[.str (sx l)]/\Pln l/\(∀qs,Ef qs->l=jn 32 (Ay qs)->∀r H',Al H H'->H r=none->Rw H' r qs->Q (.ref r) H')/\((∀qs,Ef qs->l≠jn 32 (Ay qs))->∀H',Al H H'->E (.ref cT) none H')
def Mf(cT:Addr):Sp:=fun vs H Q E=>∃l,vs=[.str (sx l)]/\Pln l/\l.length<=900/\(∀U L,Ef U->Ef L->l=ptx U L->∀D' u l' H',Al H H'->H D'=none->H u=none->H l'=none->H' D'=some (.lst [.ref u,.ref l'])->Rw H' u (Po.strip U)->Rw H' l' (Po.strip L)->Q (.ref D') H')/\((∀U L,Ef U->Ef L->l≠ptx U L)->∀H',Al H H'->E (.ref cT) none H')
def Jy(C cT:Addr):Sp:=fun vs H Q E=>∃k l,vs=[.str k,.str (sx l)]/\k∈kds/\Pln l/\l.length<=900/\(∀x,RdT k l x->∀v H',Al H H'->(∀D,H D≠none->TgD C D H' v x)->Q v H')/\((∀x,¬RdT k l x)->∀H',Al H H'->E (.ref cT) none H')
theorem sne{A B:Prop}(h:a≠b)(k:B):if decide (V.str a=V.str b)=true then A else B:=Hw (fun z=>h (V.str.inj z)) k
theorem HR{A B:Prop}(h:a=b)(k:A):if decide (V.str a=V.str b)=true then A else B:=Ly (by rw[h]) k
theorem Qx(row:List Str):(row.map V.str).all JD=true:=by
 rw[AVe];exact ARg.mpr fun _ _=>rfl
theorem Xy(l:Str)(row:List Str):inV (.str l) (row.map V.str)=decide (l∈row):=by
 unfold inV
 induction row with
 | nil=>rfl
 | cons c r ih =>
  rw[ARm,ATa,ih];have e:eqV (V.str c) (V.str l)=decide (c=l):=by
   by_cases h:c=l
   .rw[decide_eq_true h];simp[eqV,h]
   .rw[decide_eq_false h];simp[eqV,h]
  rw[e];by_cases h:c=l
  .simp[h]
  .have:¬l=c:=fun z=>h z.symm;simp[h,this]
theorem X6{n:Nat}(h:n<=60):F30 ((n:Int):Rat):=by
 have hz:(100:Nat)<10^30:=by decide
 refine⟨?_,?_⟩
 .rw[ATe];omega
 .rw[ATK];omega
theorem S8:Ao ["text"] ["text"] (Ae Gf):=fsc
theorem Rk{ah aq ak af ai ao ap:Addr}(F:FnX K "read_name" "read_name" Gf f fd)(T:Txt mg)(R:Fw K mg ah aq ak af ai ao ap):BR P w K mg base (CXd P w) 1 f fd ["text"] (MP ah):=by
 refine Cd F S8 fun vs H Q E h=>?_;obtain⟨l,rfl,⟨lt,hl⟩,q,qe⟩:=h;walk_at "b";walk_at "a"
 refine⟨_,(Ac (BP (PW.pt (Dk (Am Jj (Ax CK rfl T.z_len ARW (Aa (pv 0) Ab)) Ad (Av _)) (Dk (Am HN (Ax CK rfl T.z_len ARW (Aa (pv 0) Ab)) (HF rfl T.c_LONGEST_NAME) (Av _)) (CV (By (Bv (Ax (Ox rfl) rfl T.z_all boot_all (Aa (Gp (N':=["sign"]) (fsc:=Ae Gf) (N:=["text"]) [] ⟨rfl,by decide +kernel,by decide +kernel,by decide +kernel,rfl,by decide +kernel,rfl,by decide +kernel⟩ (ABe (pv 0)) (fun _ _ _ _=>(Gn Qz (pv 0) (Vj rfl T.c_LETTERS) (by with_unfolding_all rfl)))) Ab))))))))
    (Af (Bk R.m_NoText R.o_NoText (Aa Ai Ab)))
    Ar)
   (Af (Aq (pv 0)))),?_⟩
 refine⟨_,rfl,sx l,rfl,by rw[BJ];omega,_,_,rfl,rfl,_,rfl,Cw (fun c=>?_) (fun c=>?_)⟩
 .refine⟨by show 1<=sizeLine;decide,qe (fun n=>?_) H (Al.refl _)⟩;have:=of_decide_eq_true c;rw[BJ]at this;have:=n.1.1;omega
 have c1:1<=l.length:=by
  have:=of_decide_eq_false (Bool.eq_false_iff.mpr c);rw[BJ]at this;omega
 refine⟨_,rfl,sx l,rfl,by rw[BJ];omega,_,_,rfl,rfl,_,rfl,Cw (fun c=>?_) (fun c=>?_)⟩
 .refine⟨by show 1<=sizeLine;decide,qe (fun n=>?_) H (Al.refl _)⟩;have:=of_decide_eq_true c;rw[BJ]at this;have:=n.1.2;omega
 have c2:l.length<=8:=by
  have:=of_decide_eq_false (Bool.eq_false_iff.mpr c);rw[BJ]at this;omega
 refine⟨_,rfl,sx l,rfl,?_,Ph (by omega) (fun c=>decide (c∈(List.range 26).map (97+·))) ?_ fun H1 D s1 nD eD=>?_⟩
 .rw[AVZ];intro i hi;exact decide_eq_true (lt _ (by simp[sx]))
 .intro _ _ _ _ c H1 R hc s1 fin;refine⟨_,rfl,_,_,rfl,rfl,?_⟩;rw[show Str.ofString "abcdefghijklmnopqrstuvwxyz"=sx ((List.range 26).map (97+·)) from rfl,ABz];exact fin
 .refine⟨D,_,rfl,SqL.of eD,_,rfl,Cw (fun c=>?_) (fun c=>?_)⟩
  .refine⟨by show 1<=sizeLine;decide,qe (fun n=>?_) H1 s1⟩;have e:(l.map fun c=>decide (c∈(List.range 26).map (97+·))).all id=true:=by
    rw[AVe];exact ARg.mpr fun c hc=>decide_eq_true (n.2 c hc)
   rw[e]at c;cases c
  .have e:(l.map fun c=>decide (c∈(List.range 26).map (97+·))).all id=true:=by
    cases h:(l.map fun c=>decide (c∈(List.range 26).map (97+·))).all id with
    | true=>rfl
    | false =>
     rw[h]at c;exact absurd rfl c
   refine⟨_,rfl,q ⟨⟨c1,c2⟩,fun c hc=>?_⟩ H1 s1⟩;rw[AVe]at e;exact of_decide_eq_true (ARg.mp e c hc)
theorem Jk:Ao ["text","one"] ["text"] (Ae Hr):=fsc
theorem Qg{ah aq ak af ai ao ap:Addr}(F:FnX K "read_whole" "read_whole" Hr f fd)(T:Txt mg)(R:Fw K mg ah aq ak af ai ao ap)(aw:DR P w K mg base "read_fraction" 3 ["text"] [] [] (JQ K ah)):BR P w K mg base (CXd P w) 4 f fd ["text"] (Hq ah):=by
 refine Cd F Jk fun vs H Q E h=>?_;obtain⟨l,rfl,pl,q,qe⟩:=h;refine⟨rfl,fun cdv A outer s hr=>?_⟩;refine⟨_,(Ac (pS 1 Jk.nd (Bg aw hr (Aa (pv 0) Ab)))
   (Ac (BP (Am GC (ixT (pv 1) Ad) Ad (Av _))
    (Af (Bk R.m_NoText R.o_NoText (Aa Ai Ab)))
    Ar)
   (Af (Aq (ixT (pv 1) Ad))))),?_⟩
 refine⟨_,rfl,_,rfl,.inr ⟨l,rfl,pl,fun x hx el p H1 s1 k1=>?_,fun nf H1 s1=>qe (fun i hi e=>nf _ hi e) H1 s1⟩⟩;refine⟨_,rfl,_,_,_,_,rfl,rfl,k1.sq,rfl,rfl,_,rfl,?_⟩;by_cases hd:x.den=1
 .have ex:x=((x.num:Int):Rat):=AVj (by rw[ATe]) (by rw[hd,ATK]);refine Ji (by rw[hd];rfl) ?_;exact⟨_,rfl,_,_,_,_,rfl,rfl,k1.sq,rfl,q x.num (ex ▸ hx) (by rw[<-ex];exact el) H1 s1⟩
 .refine Uz (fun z=>hd (by have:=V.int.inj z;omega)) ⟨by show 1<=sizeLine;decide,qe (fun i hi e=>hd ?_) H1 s1⟩;have:=FJ (el.symm.trans e);rw[this,ATK]
theorem HJ:Ao ["text","halvings"] ["text"] (Ae Fd):=fsc
theorem Ls{ah aq ak af ai ao ap:Addr}(F:FnX K "read_halvings" "read_halvings" Fd f fd)(T:Txt mg)(R:Fw K mg ah aq ak af ai ao ap)(aV:DR P w K mg base "read_whole" 4 ["text"] [] [] (Hq ah)):BR P w K mg base (CXd P w) 5 f fd ["text"] (Ma ah):=by
 refine Cd F HJ fun vs H Q E h=>?_;obtain⟨l,rfl,pl,q,qe⟩:=h;refine⟨rfl,fun cdv A outer s hr=>?_⟩;refine⟨_,(Ac (pS 1 HJ.nd (Bg aV hr (Aa (pv 0) Ab)))
   (Ac (BP (PW.pt (Dk (Am Jj (pv 1) Ad (Av _)) (CV (Am HN (pv 1) (HF rfl T.c_MOST_HALVINGS) (Av _)))))
    (Af (Bk R.m_NoText R.o_NoText (Aa Ai Ab)))
    Ar)
   (Af (Aq (pv 1))))),?_⟩
 refine⟨_,rfl,_,rfl,pl,fun i hi el H1 s1=>?_,fun nf H1 s1=>qe (fun n hn e=>nf _ (X6 hn) e) H1 s1⟩;have no:i<0\/60<i->∀n:Nat,n<=60->l≠ftx ((n:Int):Rat):=fun h n hn e=>by
  have:=ATf.mp (FJ (el.symm.trans e));omega
 refine⟨_,rfl,_,_,rfl,rfl,_,rfl,Cw (fun c=>?_) (fun c=>?_)⟩
 .exact⟨by show 1<=sizeLine;decide,qe (no (.inl (of_decide_eq_true c))) H1 s1⟩
 have c1:=of_decide_eq_false (Bool.eq_false_iff.mpr c);refine⟨_,rfl,_,_,rfl,rfl,_,rfl,Cw (fun c=>?_) (fun c=>?_)⟩
 .exact⟨by show 1<=sizeLine;decide,qe (no (.inr (of_decide_eq_true c))) H1 s1⟩
 have c2:=of_decide_eq_false (Bool.eq_false_iff.mpr c);have en:((i.toNat:Nat):Int)=i:=by omega
 have:=q i.toNat (by omega) (by rw[en];exact el) H1 s1;rw[en]at this;exact⟨_,rfl,this⟩
theorem QG:Ao ["text","choices"] ["text","choices"] (Ae Gy):=fsc
theorem Oa{ah aq ak af ai ao ap:Addr}(F:FnX K "read_choice" "read_choice" Gy f fd)(T:Txt mg)(R:Fw K mg ah aq ak af ai ao ap):BR P w K mg base (CXd P w) 1 f fd ["text","choices"] (Hz ah):=by
 refine Cd F QG fun vs H Q E h=>?_;obtain⟨l,t,cs,rfl,et,q,qe⟩:=h;refine⟨rfl,fun cdv A outer s hr=>?_⟩;refine⟨_,(Ac (BP (Am Tw (pv 0) (pv 1) (by with_unfolding_all rfl))
    (Af (Bk R.m_NoText R.o_NoText (Aa Ai Ab)))
    Ar)
   (Af (Aq (pv 0)))),?_⟩
 refine⟨_,rfl,_,rfl,t,_,rfl,.inr (SqT.of et),rfl,Qx cs,_,rfl,?_⟩;rw[Xy];by_cases hl:l∈cs
 .rw[decide_eq_true hl];exact FZ ⟨_,rfl,q hl H (Al.refl _)⟩
 .rw[decide_eq_false hl];exact Ga ⟨by show 1<=sizeLine;decide,qe hl H (Al.refl _)⟩
theorem RdT.fr(h:RdT "fraction" l x):∃q,x=.frac q/\l=ftx q/\F30 q:=by
 cases x with
 | frac q=>exact⟨q,rfl,h.2⟩
 | wrd m=>exact h.1.elim (fun z=>absurd z.1 (by decide)) fun z=>absurd z.1 (by decide)
 | _=>exact absurd h.1 (by decide)
theorem RdT.wh(h:RdT "whole" l x):∃i:Int,x=.whl i/\l=ftx (i:Rat)/\F30 (i:Rat):=by
 cases x with
 | whl q=>exact⟨q,rfl,h.2⟩
 | wrd m=>exact h.1.elim (fun z=>absurd z.1 (by decide)) fun z=>absurd z.1 (by decide)
 | _=>exact absurd h.1 (by decide)
theorem RdT.hv(h:RdT "halvings" l x):∃n:Nat,x=.hlv n/\l=ftx ((n:Int):Rat)/\n<=60:=by
 cases x with
 | hlv q=>exact⟨q,rfl,h.2⟩
 | wrd m=>exact h.1.elim (fun z=>absurd z.1 (by decide)) fun z=>absurd z.1 (by decide)
 | _=>exact absurd h.1 (by decide)
theorem RdT.co(h:RdT "cord" l x):∃gs ws,x=.cord gs ws/\l=jn 32 (Bu gs ws)/\C30 gs ws:=by
 cases x with
 | cord gs ws=>exact⟨gs,ws,rfl,h.2⟩
 | wrd m=>exact h.1.elim (fun z=>absurd z.1 (by decide)) fun z=>absurd z.1 (by decide)
 | _=>exact absurd h.1 (by decide)
theorem RdT.po(h:RdT "two polys" l x):∃U L,x=.pols U L/\l=ptx U L/\Ef U/\Ef L:=by
 cases x with
 | pols U L=>exact⟨U,L,rfl,h.2⟩
 | wrd m=>exact h.1.elim (fun z=>absurd z.1 (by decide)) fun z=>absurd z.1 (by decide)
 | _=>exact absurd h.1 (by decide)
theorem RdT.ro(h:RdT "length and worths" l x):∃qs,x=.row qs/\l=jn 32 (Ay qs)/\Ef qs:=by
 cases x with
 | row q=>exact⟨q,rfl,h.2⟩
 | wrd m=>exact h.1.elim (fun z=>absurd z.1 (by decide)) fun z=>absurd z.1 (by decide)
 | _=>exact absurd h.1 (by decide)
theorem RdT.en(h:RdT "end" l x):x=.wrd l/\l∈Ob:=by
 cases x with
 | wrd m =>
  obtain⟨⟨_,z⟩|⟨z,_⟩,rfl⟩:=h
  .exact⟨rfl,z⟩
  .exact absurd z (by decide)
 | _=>exact absurd h.1 (by decide)
theorem RdT.wc(h:RdT "which" l x):x=.wrd l/\l∈whs:=by
 cases x with
 | wrd m =>
  obtain⟨⟨z,_⟩|⟨_,z⟩,rfl⟩:=h
  .exact absurd z (by decide)
  .exact⟨rfl,z⟩
 | _=>exact absurd h.1 (by decide)
theorem RdT.nm{k:Str}(hk:k="new"\/k="name")(h:RdT k l x):x=.txt l/\Nm l:=by
 cases x with
 | txt m =>
  obtain⟨_,rfl,h⟩:=h;exact⟨rfl,h⟩
 | wrd m=>rcases hk with rfl | rfl<;>exact h.1.elim (fun z=>absurd z.1 (by decide)) fun z=>absurd z.1 (by decide)
 | _=>rcases hk with rfl | rfl<;>exact absurd h.1 (by decide)
theorem w59(qs:List Rat):∀{ws:List (List Nat)},ws=Ay qs->59∉jn 32 ws:=fun {ws} e z=>by
 have h:∀w∈ws,59∉w:=fun w hw=>by
  rw[e]at hw;obtain⟨q,_,rfl⟩:=ARR.mp hw;exact LR (by decide) (fun y=>absurd y.2 (by decide)) (by decide) q
 clear e
 induction ws with
 | nil=>cases z
 | cons w r ih =>
  cases r with
  | nil=>exact h w (by simp) z
  | cons v r =>
   have z':59∈w++32::jn 32 (v::r):=z;rcases ARP.mp z' with y|y
   .exact h w (by simp) y
   rcases ARI.mp y with y|y
   .cases y
   .exact ih y fun x hx=>h x (ARb _ hx)
theorem Mq(U L:List Rat):Txt.split (sx (ptx U L)) (sx [32,59,32])=[jn 32 (Ay U),jn 32 (Ay L)].map sx:=AHV (w59 U rfl) (w59 L rfl)
theorem XS:∀{a b:List (List Nat)},a.map sx=b.map sx->a=b
 | [],[],_=>rfl
 | [],_::_,h=>by cases h
 | _::_,[],h=>by cases h
 | x::a,y::b,h=>by
  rw[ARm,ARm]at h;injection h with h1 h2;rw[Ex h1,XS h2]
theorem ADZ(h:ptx U L=ptx U' L'):U=U'/\L=L':=by
 have e:=XS ((Mq U L).symm.trans (h ▸ Mq U' L'));injection e with e1 e2;injection e2 with e2 _;exact⟨K3 e1,K3 e2⟩
theorem ZR(h:C30 gs ws)(h':C30 gs' ws')(e:jn 32 (Bu gs ws)=jn 32 (Bu gs' ws')):gs=gs'/\ws=ws':=by
 have e:=Fe (Kp h) (Kp h') (by unfold Bu;simp) (by unfold Bu;simp) e;have a:=Ka h;have b:=JR h;rw[e,Ka h']at a;rw[e,JR h']at b;exact⟨(Ih (fun p q=>FJ) a).symm,(Ih (fun p q=>YD) b).symm⟩
theorem RdT.uniq(hk:k∈kds)(h:RdT k l x)(g:RdT k l y):x=y:=by
 have hk':k="new"\/k="name"\/k="cord"\/k="fraction"\/k="whole"\/k="halvings"\/k="end"\/k="which"\/k="two polys"\/k="length and worths":=by simpa[kds] using hk
 rcases hk' with e|e|e|e|e|e|e|e|e|e
 .rw[(h.nm (.inl e)).1,(g.nm (.inl e)).1]
 .rw[(h.nm (.inr e)).1,(g.nm (.inr e)).1]
 all_goals subst e
 .obtain⟨gs,ws,rfl,e1,c1⟩:=h.co;obtain⟨gs',ws',rfl,e2,c2⟩:=g.co;obtain⟨a,b⟩:=ZR c1 c2 (e1.symm.trans e2);rw[a,b]
 .obtain⟨q,rfl,e1,_⟩:=h.fr;obtain⟨q',rfl,e2,_⟩:=g.fr;rw[FJ (e1.symm.trans e2)]
 .obtain⟨q,rfl,e1,_⟩:=h.wh;obtain⟨q',rfl,e2,_⟩:=g.wh;rw[ATf.mp (FJ (e1.symm.trans e2))]
 .obtain⟨q,rfl,e1,_⟩:=h.hv;obtain⟨q',rfl,e2,_⟩:=g.hv;rw[Int.ofNat_inj.mp (ATf.mp (FJ (e1.symm.trans e2)))]
 .rw[h.en.1,g.en.1]
 .rw[h.wc.1,g.wc.1]
 .obtain⟨U,L,rfl,e1,_⟩:=h.po;obtain⟨U',L',rfl,e2,_⟩:=g.po;obtain⟨a,b⟩:=ADZ (e1.symm.trans e2);rw[a,b]
 .obtain⟨q,rfl,e1,_⟩:=h.ro;obtain⟨q',rfl,e2,_⟩:=g.ro;rw[K3 (e1.symm.trans e2)]
theorem PL{α β:Type}{T:α->β->Prop}{xs us:List α}{zs ws:List β}(h:Paired T xs zs)(k:Paired T us ws):Paired T (xs++us) (zs++ws):=by
 induction h with
 | nil=>exact k
 | cons x _ ih=>exact .cons x ih
theorem Zn{K:W.Frag}{a:Addr}{ys:List V}{β:Type}{bs:List β}{te:Shared->Hp->Addr->List Addr->TE}{js:List Nat}{Y:L2.St}{H1:Hp}{Q:VK}(G:Addr->Hp->V->β->Prop)(hn:ys.length<=100000)(hb:bs.length=ys.length)
  (keep:∀{D H H' v x},G D H v x->Al H H'->G D H' v x) (put:∀{D H v x xs zs},G D H v x->H D=some (.lst xs)->G D (upd H D (.lst zs)) v x) (ha:H1 a=some (.lst ys))
  (hs:∀zb zc C ex (i:Nat) y x H D zs (R:VK),ys[i]?=some y->bs[i]?=some x->Al H1 H->H1 D=none->H D=some (.lst zs)->(∀v H2,Al H H2->G D H2 v x->R v H2)->te zb zc C ex (some y::js.map fun j=>(Y[j]?).join) H R)
  (hd:∀H D vs,Al H1 H->H1 D=none->H D=some (.lst vs)->Paired (G D H) vs bs->Q (.ref D) H):Gv (Itl K a) te js Y Q H1:=by
 intro D hD;refine⟨fun i m vs H=>m=ys.length-i/\i<=ys.length/\Paired (G D H) vs (bs.take i)/\Al H1 H/\H D=some (.lst vs),⟨ys.length,by simp,ARu _,.nil,Aj hD _,Ag⟩,?_⟩;rintro i m vs H ⟨rfl,hi,pr,sm,bN⟩;refine⟨bN,?_⟩;have hr:=sm _ _ ha;by_cases hlt:i<ys.length
 .have h1:ys[i]?=some ys[i]:=AQ9 hlt;have h3:bs[i]?=some (bs[i]'(by omega)):=AQ9 (by omega);refine .inr ⟨⟨_,_,SqL.of hr,h1⟩,fun x H' y zb zc C ex=>?_⟩;walk_at "m";rw[h1]at ex';cases ex';refine hs zb zc C ex i _ _ H' D vs _ h1 h3 sm hD bN fun v H2 s2 g2=>?_;walk_at "a"
  have lv:=AR1 pr;rw[ARc]at lv;have hD2:=s2 _ _ bN;refine⟨hD2,by omega,ys.length-(i+1),by omega,rfl,hlt,?_,CG (sm.trans s2) hD _,Ag⟩;rw[ASi,h3];refine PL (Paired.imp' (fun _ _ z=>put (keep z s2) hD2) pr) (.cons (put g2 hD2) .nil)
 .have e:i=ys.length:=by omega
  subst e;refine .inl ⟨⟨_,SqL.of hr,ARH _⟩,hd H D vs sm hD bN ?_⟩;rw[<-hb,AR2]at pr;exact pr
theorem ZJ(a b:Str):(Txt.split a b).length<=a.length+2:=by
 unfold Txt.split
 split
 .simp
 .split
  .simp
  .rw[ASO,L3.parts_len];have:=StrLaws.occ_length_le a b 0 a.length (a.length+1);omega
theorem Km:Ao ["text","row"] ["text"] (Ae JF):=fsc
theorem Sd{ah aq ak af ai ao ap:Addr}(F:FnX K "read_some" "read_some" JF f fd)(T:Txt mg)(R:Fw K mg ah aq ak af ai ao ap)(cX:DR P w K mg base "read_row" 4 ["text"] [] [] (Th K ah)):BR P w K mg base (CXd P w) 5 f fd ["text"] (Jf ah):=by
 refine Cd F Km fun vs H Q E h=>?_;obtain⟨l,rfl,pl,q,qe⟩:=h;refine⟨rfl,fun cdv A outer s hr=>?_⟩;refine⟨_,(Ac (pS 1 Km.nd (Bg cX hr (Aa (pv 0) Ab)))
   (Ac (BP (Am Bs (Ax BV rfl T.z_len ARW (Aa (pv 1) Ab)) Ad (Av _))
    (Af (Bk R.m_NoText R.o_NoText (Aa Ai Ab)))
    Ar)
   (Af (Aq (pv 1))))),?_⟩
 refine⟨_,rfl,_,rfl,.inr ⟨l,rfl,pl,fun qs hq el r H1 s1 n1 r1=>?_,fun nf H1 s1=>qe (fun qs h e=>nf qs h.2 e) H1 s1⟩⟩;obtain⟨ps,e,k⟩:=id r1;have lk:=k.length;refine⟨_,rfl,r,_,rfl,.inl (SqL.of e),rfl,_,rfl,?_⟩;by_cases ne:qs=[]
 .refine Ly (congrArg V.int ?_) ⟨by show 1<=sizeLine;decide,qe (fun yk h' e'=>h'.1 ?_) H1 s1⟩
  .rw[Io,lk,ne];rfl
  .rw[<-K3 (el.symm.trans e'),ne]
 .have l0:=AS2.mpr ne;refine Hw (fun z=>?_) ⟨_,rfl,q qs ⟨ne,hq⟩ el r H1 s1 n1 r1⟩;have:=V.int.inj z;rw[Io]at this;omega
theorem Ge:Ao ["text","parts"] ["text"] (Ae Di):=fsc
theorem K1{ah aq ak af ai ao ap:Addr}(F:FnX K "read_two_polys" "read_two_polys" Di f fd)(T:Txt mg)(R:Fw K mg ah aq ak af ai ao ap)(aZ:DR P w K mg base "read_some" 5 ["text"] [] [] (Jf ah))(eO:Cal P w K mg base "poly" 2 ["figures"] RD):BR P w K mg base (CXd P w) 6 f fd ["text"] (Mf ah):=by
 refine Cd F Ge fun vs H Q E h=>?_;obtain⟨l,rfl,pl,l9,q,qe⟩:=h;refine⟨rfl,fun cdv A outer s hr=>?_⟩;refine⟨_,(Ac (pS 1 Ge.nd (Eo ARk AS8 AS9 Pg (pv 0) (Aa Ai Ab)))
   (Ac (BP (Am GC (Ax BV rfl T.z_len ARW (Aa (pv 1) Ab)) Ad (Av _))
    (Af (Bk R.m_NoText R.o_NoText (Aa Ai Ab)))
    Ar)
   (Af (Aq (Q6 (N':=["part"]) (fsc:=Ae Di) (N1:=["text","parts"]) [] ⟨rfl,by decide +kernel,by decide +kernel,by decide +kernel,rfl,by decide +kernel,rfl,by decide +kernel⟩ (Dg (pv 1)) (fun _ _ _ _ _ hpp=>(BW eO hr (Aa (Jd aZ hr hpp (Aa (pv 0) Ab)) Ab)))))))),?_⟩
 walk_at "a"
 obtain⟨W,eW⟩:∃W:List (List Nat),Txt.split (sx l) (Str.ofString " ; ")=W.map sx:=⟨(Txt.split (sx l) (Str.ofString " ; ")).map fun p=>p.cps.toList,by
  rw[List.map_map];exact(AVh _).symm.trans (List.map_congr_left fun p _=>AAg p)⟩
 have e3:Str.ofString " ; "=sx [32,59,32]:=by decide +kernel
 have key:∀U L,l=ptx U L->W=[jn 32 (Ay U),jn 32 (Ay L)]:=fun U L e=>by
  rw[e3,e,Mq]at eW;exact(XS eW).symm
 have cnt:=ZJ (sx l) (Str.ofString " ; ");rw[eW,Io,BJ]at cnt;refine⟨_,rfl,rfl,_,_,rfl,rfl,(by decide),by rw[BJ];omega,by rw[eW,Io];omega,fun D hD=>?_⟩;rw[eW];have u:=Aj hD (.lst ((W.map sx).map V.str));have eD:upd H D (.lst ((W.map sx).map V.str)) D=some (.lst ((W.map sx).map V.str)):=Ag;generalize upd H D (.lst ((W.map sx).map V.str))=H1 at *;refine⟨_,rfl,D,_,rfl,.inl (SqL.of eD),rfl,_,rfl,?_⟩;by_cases h2:W.length=2
 .refine Ji (congrArg V.int (by rw[Io,Io,h2];rfl)) ?_;obtain⟨a,b,rfl⟩:∃a b,W=[a,b]:=by
   match W,h2 with
   | [a,b],_=>exact⟨a,b,rfl⟩
  have el:l=a++32::59::32::b:=by
   have:=AUT (sx l) (Str.ofString " ; ");rw[eW,e3]at this;have e4:sx a++sx [32,59,32]++sx b=sx l:=this;rw[Cy,Cy]at e4;have:=Ex e4;simpa using this.symm
  have la:a.length<=900/\b.length<=900:=by
   rw[el,ARG,ARD,ARD,ARD]at l9;omega
  have sub:∀t∈[a,b],Pln t/\t.length<=900:=fun t ht=>by
   rcases ARI.mp ht with rfl|ht
   .exact⟨⟨fun c hc=>pl.1 c (by rw[el];simp[hc]),by omega⟩,la.1⟩
   .rw[ARp.mp ht];exact⟨⟨fun c hc=>pl.1 c (by rw[el];simp[hc]),by omega⟩,la.2⟩
  refine⟨_,rfl,D,rfl,⟨_,SqL.of eD⟩,Zn (bs:=[a,b]) (fun D H v t=>∃p X,v=.ref p/\Ef X/\t=jn 32 (Ay X)/\Rw H p (Po.strip X)/\p≠D/\H1 p=none) (by show 2<=100000;omega) rfl (fun⟨p,X,e,h,e',r,n,f⟩ s=>⟨p,X,e,h,e',r.keep s,n,f⟩) (fun⟨p,X,e,h,e',r,n,f⟩ z=>⟨p,X,e,h,e',r.updO z n,n,f⟩) eD ?_ fun H4 L' vs s4 nL eL pr=>?_⟩
  .intro zb zc C ex i y t H' D' zs R hy ht sH nD tZ fin;obtain rfl:y=.str (sx t):=by
    match i with
    | 0 =>
     cases hy;cases ht;rfl
    | 1 =>
     cases hy;cases ht;rfl
    | j+2=>cases hy
   have mt:=ARf ht;refine⟨_,rfl,t,rfl,(sub t mt).1,fun X hX eX r H2 s2 n2 r2=>?_,fun nf H2 s2=>qe (fun U L hU hL e=>?_) H2 (u.trans (sH.trans s2))⟩
   .refine⟨r,X,rfl,r2,?_,fun r' H3 s3 n3 r3=>fin _ H3 (s2.trans s3) ⟨r',X,rfl,hX,eX,r3,(fun z=>by rw[z,s2 _ _ tZ]at n3;cases n3),(sH.trans s2).free n3⟩⟩;have h1:=Pu (c:=32) (W:=Ay X);have h2:=(sub t mt).2;rw[<-eX]at h1;unfold Ay at h1;rw[Io]at h1;omega
   .rw[key U L e]at mt;rcases ARI.mp mt with z|z
    .exact nf U hU z
    .exact nf L hL (ARp.mp z)
  .cases pr with
   | cons t0 pr=>cases pr with
    | cons t1 pr =>
     cases pr;obtain⟨u',U,rfl,hU,eU,ru,_,f1⟩:=t0;obtain⟨l',L,rfl,hL,ua,rl,_,f2⟩:=t1;exact q U L hU hL (by rw[el,eU,ua];rfl) L' u' l' H4 (u.trans s4) (u.free nL) (u.free f1) (u.free f2) eL ru rl
 .refine Uz (fun z=>h2 ?_) ⟨by show 1<=sizeLine;decide,qe (fun U L _ _ e=>h2 (by rw[key U L e];rfl)) H1 u⟩;have:=V.int.inj z;rw[Io,Io]at this;omega
theorem Qc:Ao ["kind","text"] ["kind","text"] (Ae Hf):=fsc
theorem QW{ah:Addr}(F:FnX K "read_thing" "read_thing" Hf f fd)(T:Txt mg)(cv:DR P w K mg base "read_cord" 6 ["text"] [] [] (Rr K au ah))(aw:DR P w K mg base "read_fraction" 3 ["text"] [] [] (JQ K ah))(aV:DR P w K mg base "read_whole" 4 ["text"] [] [] (Hq ah))(bP:DR P w K mg base "read_halvings" 5 ["text"] [] [] (Ma ah))(bI:DR P w K mg base "read_choice" 1 ["text","choices"] [] [] (Hz ah))(bA:DR P w K mg base "read_two_polys" 6 ["text"] [] [] (Mf ah))(aZ:DR P w K mg base "read_some" 5 ["text"] [] [] (Jf ah))(cx:DR P w K mg base "read_name" 1 ["text"] [] [] (MP ah)):BR P w K mg base (CXd P w) 7 f fd ["kind","text"] (Jy au ah):=by
 refine Cd F Qc fun vs H Q E h=>?_;obtain⟨k,l,rfl,hk,pl,l9,q,qe⟩:=h;refine⟨rfl,fun cdv A outer s hr=>?_⟩;refine⟨_,(Ac (BP (Am Bs (pv 0) Ai (Av _))
    (Af (Aq (Bg cv hr (Aa (pv 1) Ab))))
    Ar)
   (Ac (BP (Am Bs (pv 0) Ai (Av _))
    (Af (Aq (Bg aw hr (Aa (pv 1) Ab))))
    Ar)
   (Ac (BP (Am Bs (pv 0) Ai (Av _))
    (Af (Aq (Bg aV hr (Aa (pv 1) Ab))))
    Ar)
   (Ac (BP (Am Bs (pv 0) Ai (Av _))
    (Af (Aq (Bg bP hr (Aa (pv 1) Ab))))
    Ar)
   (Ac (BP (Am Bs (pv 0) Ai (Av _))
    (Af (Aq (Bg bI hr (Aa (pv 1) (Aa (CZ (Aa Ai (Aa Ai Ab))) Ab)))))
    Ar)
   (Ac (BP (Am Bs (pv 0) Ai (Av _))
    (Af (Aq (Bg bI hr (Aa (pv 1) (Aa (CZ (Aa Ai (Aa Ai (Aa Ai (Aa Ai Ab))))) Ab)))))
    Ar)
   (Ac (BP (Am Bs (pv 0) Ai (Av _))
    (Af (Aq (Bg bA hr (Aa (pv 1) Ab))))
    Ar)
   (Ac (BP (Am Bs (pv 0) Ai (Av _))
    (Af (Aq (Bg aZ hr (Aa (pv 1) Ab))))
    Ar)
   (Af (Aq (Bg cx hr (Aa (pv 1) Ab)))))))))))),?_⟩
 have hk':k="cord"\/k="fraction"\/k="whole"\/k="halvings"\/k="end"\/k="which"\/k="two polys"\/k="length and worths"\/(k="new"\/k="name"):=by
  walk_at "J"
  rcases this with e | e | e | e | e | e | e | e | e | e<;>simp[e]
 rcases hk' with rfl|rfl|rfl|rfl|rfl|rfl|rfl|rfl|hk
 .walk_at "g";exact⟨_,rfl,_,rfl,.inr ⟨l,rfl,pl,fun gs ws hc el c ga wa H' s' n1 n2 co=>q (.cord gs ws) ⟨rfl,el,hc⟩ _ H' s' fun D hD=>⟨c,ga,wa,rfl,co,fun z=>hD (z ▸ n1),fun z=>hD (z ▸ n2)⟩,fun nf H' s'=>qe (fun x hx=>by obtain⟨gs,ws,_,e,c⟩:=hx.co;exact nf gs ws c e) H' s'⟩⟩
 .refine⟨_,rfl,rfl,_,rfl,sne (by decide) ?_⟩;walk_at "g";exact⟨_,rfl,_,rfl,.inr ⟨l,rfl,pl,fun x hx el p H' s' k=>q (.frac x) ⟨rfl,el,hx⟩ _ H' s' fun D hD=>⟨p,rfl,k⟩,fun nf H' s'=>qe (fun x hx=>by obtain⟨y,_,e,c⟩:=hx.fr;exact nf y c e) H' s'⟩⟩
 .iterate 2 refine⟨_,rfl,rfl,_,rfl,sne (by decide) ?_⟩
  walk_at "g";exact⟨_,rfl,l,rfl,pl,fun i hi el H' s'=>q (.whl i) ⟨rfl,el,hi⟩ _ H' s' fun D hD=>rfl,fun nf H' s'=>qe (fun x hx=>by obtain⟨y,_,e,c⟩:=hx.wh;exact nf y c e) H' s'⟩
 .iterate 3 refine⟨_,rfl,rfl,_,rfl,sne (by decide) ?_⟩
  walk_at "g";exact⟨_,rfl,l,rfl,pl,fun i hi el H' s'=>q (.hlv i) ⟨rfl,el,hi⟩ _ H' s' fun D hD=>rfl,fun nf H' s'=>qe (fun x hx=>by obtain⟨y,_,e,c⟩:=hx.hv;exact nf y c e) H' s'⟩
 .iterate 4 refine⟨_,rfl,rfl,_,rfl,sne (by decide) ?_⟩
  walk_at "g";refine⟨_,rfl,(by show 2<=sizeLine;decide),fun t ht=>?_⟩;have u:=Aj ht (.tup [.str (Str.ofString "held"),.str (Str.ofString "loose")]);exact⟨sx l,t,[Str.ofString "held",Str.ofString "loose"],rfl,Ag,fun hl H' s'=>q (.wrd l) ⟨.inl ⟨rfl,Rf.mp (Uo ▸ hl)⟩,rfl⟩ _ H' (u.trans s') fun D hD=>rfl,fun nl H' s'=>qe (fun x hx=>nl (Uo ▸ Rf.mpr hx.en.2)) H' (u.trans s')⟩
 .iterate 5 refine⟨_,rfl,rfl,_,rfl,sne (by decide) ?_⟩
  walk_at "g";refine⟨_,rfl,(by show 4<=sizeLine;decide),fun t ht=>?_⟩;have u:=Aj ht (.tup [.str (Str.ofString "held"),.str (Str.ofString "loose"),.str (Str.ofString "near"),.str (Str.ofString "free")]);exact⟨sx l,t,[Str.ofString "held",Str.ofString "loose",Str.ofString "near",Str.ofString "free"],rfl,Ag,fun hl H' s'=>q (.wrd l) ⟨.inr ⟨rfl,Rf.mp (Xg ▸ hl)⟩,rfl⟩ _ H' (u.trans s') fun D hD=>rfl,fun nl H' s'=>qe (fun x hx=>nl (Xg ▸ Rf.mpr hx.wc.2)) H' (u.trans s')⟩
 .iterate 6 refine⟨_,rfl,rfl,_,rfl,sne (by decide) ?_⟩
  walk_at "g";exact⟨_,rfl,l,rfl,pl,l9,fun U L hU hL el D' u l' H' s' n0 n1 n2 ed r1 r2=>q (.pols U L) ⟨rfl,el,hU,hL⟩ _ H' s' fun D hD=>⟨D',u,l',rfl,ed,r1,r2,fun z=>hD (z ▸ n0),fun z=>hD (z ▸ n1),fun z=>hD (z ▸ n2)⟩,fun nf H' s'=>qe (fun x hx=>by obtain⟨U,L,_,e,a,b⟩:=hx.po;exact nf U L a b e) H' s'⟩
 .iterate 7 refine⟨_,rfl,rfl,_,rfl,sne (by decide) ?_⟩
  walk_at "g";exact⟨_,rfl,l,rfl,pl,fun qs hq el r H' s' n r1=>q (.row qs) ⟨rfl,el,hq⟩ _ H' s' fun D hD=>⟨r,rfl,r1,fun z=>hD (z ▸ n)⟩,fun nf H' s'=>qe (fun x hx=>by obtain⟨y,_,e,c⟩:=hx.ro;exact nf y c e) H' s'⟩
 .have nk:∀{b:Str},(("new":Str)≠b/\("name":Str)≠b)->k≠b:=fun h z=>by
   rcases hk with e|e
   .exact h.1 (by rw[<-e,z])
   .exact h.2 (by rw[<-e,z])
  iterate 8 refine⟨_,rfl,rfl,_,rfl,sne (nk (by decide)) ?_⟩
  exact⟨_,rfl,l,rfl,pl,fun hn H' s'=>q (.txt l) ⟨hk,rfl,hn⟩ _ H' s' fun D hD=>rfl,fun nn H' s'=>qe (fun x hx=>nn (hx.nm hk).2) H' s'⟩
theorem KY(h:SqT K H a xs)(s:Al H H'):SqT K H' a xs:=by
 rcases h with(h|⟨o,h⟩)|h
 .exact .inl (.inl (s _ _ h))
 .exact .inl (.inr ⟨o,s _ _ h⟩)
 .exact .inr h
structure Lj(l dl:List Nat)(row:List Str)(init aH:List (List Nat))(aK:List Tg):Prop where
 eq:l=jn 32 (dl::(init++aH))
 form:Du Dw (sx dl)=some row
 free:∀w∈dl::(init++aH),32∉w
 last:aH≠[]
 len:row.length=init.length+1
 lth:aK.length=row.length
 rd:∀(i:Nat) k t x,row[i]?=some k->(init++[jn 32 aH])[i]?=some t->aK[i]?=some x->RdT k t x
theorem AAG:∀{tab:List (Str×List Str)} {x:Str} {row:List Str},Du tab x=some row->∃e∈tab,e.2=row
 | [],_,_,h=>by cases h
 | e::r,x,row,h=>by
  unfold Du at h
  split at h
  .exact⟨e,by simp,ARK h⟩
  .obtain⟨e',m,q⟩:=AAG h;exact⟨e',by simp[m],q⟩
theorem Ko(h:Du Dw x=some row):(1<=row.length/\row.length<=4)/\∀k∈row,k∈kds:=by
 obtain⟨e,m,rfl⟩:=AAG h;exact(by decide +kernel:∀e∈Dw,(1<=e.2.length/\e.2.length<=4)/\∀k∈e.2,k∈kds) e m
theorem Lj.uniq{l dl fP:List Nat}(h:Lj l dl row init aH aK)(g:Lj l fP cU cV b9 aQ):dl=fP/\row=cU/\init=cV/\aH=b9/\aK=aQ:=by
 have e:=Fe h.free g.free (by simp) (by simp) (h.eq.symm.trans g.eq);injection e with e1 e2;subst e1;have e3:row=cU:=ARK (h.form.symm.trans g.form);subst e3;have l1:=h.len;have l2:=g.len;obtain⟨e4,e5⟩:=List.append_inj e2 (by omega);subst e4;subst e5;refine⟨rfl,rfl,rfl,rfl,ATn fun i=>?_⟩;by_cases hi:i<row.length
 .have a1:row[i]?=some row[i]:=AQ9 hi;have a2:(init++[jn 32 aH])[i]?=some ((init++[jn 32 aH])[i]'(by rw[ARG,ARn];omega)):=AQ9 _;have a3:aK[i]?=some (aK[i]'(by rw[h.lth];exact hi)):=AQ9 _;have a4:aQ[i]?=some (aQ[i]'(by rw[g.lth];exact hi)):=AQ9 _;rw[a3,a4,(h.rd i _ _ _ a1 a2 a3).uniq ((Ko h.form).2 _ (ARf a1)) (g.rd i _ _ _ a1 a2 a4)]
 .rw[AR9 (by rw[h.lth];omega),AR9 (by rw[g.lth];omega)]
theorem YS(h:∀w∈ws,c∉w)(hn:ws≠[])(hk:ws.length<=k):Txt.splitMax (sx (jn c ws)) (sx [c]) (k:Int)=ws.map sx:=by
 have e:=U0 h hn;have e0:=e;unfold Txt.split at e;unfold Txt.splitMax;have lim:limitOf (sx (jn c ws)) (k:Int)=k:=by
  unfold limitOf;rw[if_neg (by omega),ASj]
 split at e
 .rename_i hc
  rw[if_pos hc];exact e
 .rename_i hc
  rw[if_neg hc,lim]
  split at e
  .rename_i h0
   have:PySem.Builtin.Str.occurrences (sx (jn c ws)) (sx [c]) 0 (sx (jn c ws)).length k=[]:=by
    by_cases hk2:k<=(sx (jn c ws)).length+1
    .have tk:PySem.Builtin.Str.occurrences (sx (jn c ws)) (sx [c]) 0 (sx (jn c ws)).length k=(PySem.Builtin.Str.occurrences (sx (jn c ws)) (sx [c]) 0 (sx (jn c ws)).length ((sx (jn c ws)).length+1)).take k:=by
      rw[ASd,ASd];exact L3.occ_take _ _ _ _ _ hk2 _ _ (ARu _)
     rw[tk,AUs.mp h0,AVQ]
    .have tk:PySem.Builtin.Str.occurrences (sx (jn c ws)) (sx [c]) 0 (sx (jn c ws)).length ((sx (jn c ws)).length+1)=(PySem.Builtin.Str.occurrences (sx (jn c ws)) (sx [c]) 0 (sx (jn c ws)).length k).take ((sx (jn c ws)).length+1):=by
      rw[ASd,ASd];exact L3.occ_take _ _ _ _ _ (by omega) _ _ (ARu _)
     have ol:=AUa (sx (jn c ws)) (sx [c]) 0 (sx (jn c ws)).length k;rw[ARj (by omega)]at tk;rw[<-tk];exact AUs.mp h0
   rw[this];exact e
  .rename_i h0
   have cl:(PySem.Builtin.Str.occurrences (sx (jn c ws)) (sx [c]) 0 (sx (jn c ws)).length ((sx (jn c ws)).length+1)).length+1=ws.length:=by
    rw[ASO]at e;have:=congrArg List.length e;rw[L3.parts_len,Io]at this;exact this
   have:PySem.Builtin.Str.occurrences (sx (jn c ws)) (sx [c]) 0 (sx (jn c ws)).length k=PySem.Builtin.Str.occurrences (sx (jn c ws)) (sx [c]) 0 (sx (jn c ws)).length ((sx (jn c ws)).length+1):=by
    by_cases hk2:k<=(sx (jn c ws)).length+1
    .have tk:PySem.Builtin.Str.occurrences (sx (jn c ws)) (sx [c]) 0 (sx (jn c ws)).length k=(PySem.Builtin.Str.occurrences (sx (jn c ws)) (sx [c]) 0 (sx (jn c ws)).length ((sx (jn c ws)).length+1)).take k:=by
      rw[ASd,ASd];exact L3.occ_take _ _ _ _ _ hk2 _ _ (ARu _)
     rw[tk,ARj (by omega)]
    .have tk:PySem.Builtin.Str.occurrences (sx (jn c ws)) (sx [c]) 0 (sx (jn c ws)).length ((sx (jn c ws)).length+1)=(PySem.Builtin.Str.occurrences (sx (jn c ws)) (sx [c]) 0 (sx (jn c ws)).length k).take ((sx (jn c ws)).length+1):=by
      rw[ASd,ASd];exact L3.occ_take _ _ _ _ _ (by omega) _ _ (ARu _)
     have ol:=AUa (sx (jn c ws)) (sx [c]) 0 (sx (jn c ws)).length k;rw[tk,ARj (by omega)]
   rw[this,if_neg h0];exact e
theorem Wo{c:Nat}{b:List (List Nat)}(hb:b≠[]):∀{a:List (List Nat)},a≠[]->jn c (a++b)=jn c a++c::jn c b
 | [],h=>absurd rfl h
 | [x],_=>by
  cases b with
  | nil=>exact absurd rfl hb
  | cons y r=>rfl
 | x::y::l,_=>by
  show x++c::jn c (y::l++b)=(x++c::jn c (y::l))++c::jn c b;rw[Wo hb (a:=y::l) (by simp)];simp
def Uu(K:W.Frag):Sp:=fun vs H Q _=>∃d row,vs=[.str d]/\Du Dw d=some row/\∀t,SqT K H t (row.map V.str)->Q (.ref t) H
def PQ(K:W.Frag)(C cT:Addr):Sp:=fun vs H Q E=>∃v,vs=[v]/\((Uj K H v/\E (.ref cT) none H)\/∃l,v=.str (sx l)/\(∀c∈l,c<128)/\l.length<=900 /\
 (∀dl row init aH aK,Lj l dl row init aH aK->∀r L vs H',Al H H'->H' r=some (.tup [.str (sx dl),.ref L])->H L=none->H' L=some (.lst vs)->Paired (TgD C L H') vs aK->Q (.ref r) H') /\
 ((∀dl row init aH aK,¬Lj l dl row init aH aK)->∀H',Al H H'->E (.ref cT) none H'))
theorem Vm:Ao ["deed"] ["deed"] (Ae J0):=fsc
theorem Vc(F:Fun K "kinds_of" "kinds_of" J0 f fd)(T:Txt mg)(FM:Ln P w K mg bY):BR P w K mg base CX0 1 f fd ["deed"] (Uu K):=by
 refine F.okk Vm fun vs H Q E h=>?_;obtain⟨d,row,rfl,hr',q⟩:=h;walk_at "b";refine⟨_,(Af (Aq (Uh (Dz (v:=.ref _) rfl FM.m rfl) (pv 0) (fun _ _=>rfl)))),?_⟩;exact⟨_,rfl,_,_,_,row,rfl,FM.t,rfl,hr',fun t ht=>q t ht⟩
theorem RJ{α β γ:Type}{T:α->γ->Prop}{R:β->γ->Prop}:∀{vs:List α} {bs:List β},Paired (fun v b=>∃x,R b x/\T v x) vs bs->∃xs,xs.length=bs.length/\Paired T vs xs/\∀(i:Nat) b x,bs[i]?=some b->xs[i]?=some x->R b x
 | _,_,.nil=>⟨[],rfl,.nil,fun i b x h=>by cases h⟩
 | _,_,.cons ⟨x,r,t⟩ p=>by
  obtain⟨xs,l,q,h⟩:=RJ p;refine⟨x::xs,by rw[ARD,ARD,l],.cons t q,fun i b y h1 h2=>?_⟩;cases i with
  | zero =>
   cases h1;cases h2;exact r
  | succ j=>exact h j b y h1 h2
theorem Ft:Ao ["row","deed","form","texts"] ["row"] (Ae Gj):=fsc
theorem SM{ah aq ak af ai ao ap:Addr}{bY:Addr}(F:FnX K "read_told" "read_told" Gj f fd)(T:Txt mg)(R:Fw K mg ah aq ak af ai ao ap)(FM:Ln P w K mg bY)(aJ:DR P w K mg base "check_text" 1 ["thing"] [] [] (Jb K ah))(cg:DR P w K mg base "read_thing" 7 ["kind","text"] [] [] (Jy au ah)):BR P w K mg base (CXd P w) 8 f fd ["row"] (PQ K au ah):=by
 refine Cd F Ft fun vs H Q E h=>?_;obtain⟨v,rfl,h⟩:=h;refine⟨rfl,fun cdv A outer s hr=>?_⟩;refine⟨_,(Ac (Dy (Bg aJ hr (Aa (pv 0) Ab)))
   (Ac (pS 1 Ft.nd (ixT (Eo ARk AUP AUQ Xr (pv 0) (Aa Ai Ab)) Ad))
   (Ac (BP (ABr (WX (pv 1) (Dz (v:=.ref _) rfl FM.m rfl)))
    (Af (Bk R.m_NoText R.o_NoText (Aa Ai Ab)))
    Ar)
   (Ac (pS 2 Ft.nd (Uh (Dz (v:=.ref _) rfl FM.m rfl) (pv 1) (fun _ _=>rfl)))
   (Ac (pS 3 Ft.nd (Cr JW (Eo ARk AS8 AS9 Yw (pv 0) (Aa Ai (Aa (Ax BV rfl T.z_len ARW (Aa (pv 2) Ab)) Ab))) (DG Ad) Dr))
   (Ac (BP (Am GC (Ax BV rfl T.z_len ARW (Aa (pv 3) Ab)) (Ax BV rfl T.z_len ARW (Aa (pv 2) Ab)) (Av _))
    (Af (Bk R.m_NoText R.o_NoText (Aa Ai Ab)))
    Ar)
   (Af (Aq (CZ (Aa (pv 1) (Aa (Qu (N':=["kind","text"]) (fsc:=Ae Gj) (N1:=["row","deed","form","texts"]) ["kind","text"] [] ⟨rfl,by decide +kernel,by decide +kernel,rfl,by decide +kernel,by decide +kernel⟩ (X5 rfl T.z_zip (Aa (pv 2) (Aa (pv 3) Ab))) (fun _ _ _ _=>(Rv (N':=["kind","text"]) (i:=0) (j:=1) rfl (by decide +kernel) rfl rfl rfl rfl)) (fun _ _ _ _=>N6) (fun _ _ _ _ _ hpp=>(Jd cg hr hpp (Aa (pv 0) (Aa (pv 1) Ab))))) Ab))))))))))),?_⟩
 rcases h with⟨nt,e⟩|⟨l,rfl,ha,l9,q,qe⟩
 .walk_at "ar"
 walk_at "a"
 obtain⟨W,nW,fW,eW,_⟩:=O4 l;obtain⟨dl,Ws,rfl⟩:∃dl Ws,W=dl::Ws:=by
  cases W with
  | nil=>exact absurd rfl nW
  | cons a r=>exact⟨a,r,rfl⟩
 have words:∀{fP cU cV b9 aQ},Lj l fP cU cV b9 aQ->fP=dl/\cV++b9=Ws:=fun {fP cU cV b9 aQ} td=>by
  have e:=Fe td.free fW (by simp) (by simp) (td.eq.symm.trans eW.symm);injection e with e1 e2;exact⟨e1,e2⟩
 have cnt:=Pu (c:=32) (W:=dl::Ws);rw[eW,ARD]at cnt;refine⟨_,rfl,_,rfl,.inl ⟨_,rfl,?_⟩⟩;refine⟨_,rfl,rfl,_,_,rfl,rfl,(by decide),by rw[BJ];omega,fun p hp=>?_⟩;obtain⟨px,py,ep⟩:∃px py,Dl (sx l) (Str.ofString " ")=[sx dl,px,py]:=by
  rw[show Str.ofString " "=sx [32] from rfl,<-eW];cases Ws with
  | nil=>exact⟨_,_,Li (fW dl (by simp))⟩
  | cons a r=>exact⟨_,_,Mg (fW dl (by simp))⟩
 have s1:=Aj hp (.tup ((Dl (sx l) (Str.ofString " ")).map V.str));have e1:upd H p (.tup ((Dl (sx l) (Str.ofString " ")).map V.str)) p=some (.tup [.str (sx dl),.str px,.str py]):=by
  rw[Ag,ep];rfl
 generalize upd H p (.tup ((Dl (sx l) (Str.ofString " ")).map V.str))=H1 at *;refine⟨p,_,_,_,rfl,rfl,SqT.of e1,rfl,?_⟩;refine⟨_,rfl,_,_,_,rfl,FM.t,rfl,_,rfl,?_⟩;cases hform:Du Dw (sx dl) with
 | none =>
  refine Ga ⟨by show 1<=sizeLine;decide,qe (fun fP cU cV b9 aQ td=>?_) H1 s1⟩;have:=td.form;rw[(words td).1,hform]at this;cases this
 | some row =>
 refine FZ ?_;obtain⟨⟨r1,r4⟩,rk⟩:=Ko hform;refine⟨_,rfl,_,_,_,row,rfl,FM.t,rfl,hform,fun fp hf=>?_⟩;have fQ:(row.map V.str).length=row.length:=Io _;by_cases hw:row.length<=Ws.length
 .have es:Txt.splitMax (sx l) (Str.ofString " ") (((row.map V.str).length:Nat):Int)=((dl::Ws.take (row.length-1))++[jn 32 (Ws.drop (row.length-1))]).map sx:=by
   rw[fQ,show Str.ofString " "=sx [32] from rfl,<-eW,Yn fW (by omega) (by rw[ARD];omega)];obtain⟨n,en⟩:∃n,row.length=n+1:=⟨row.length-1,by omega⟩;rw[en];rfl
  obtain⟨init,ei⟩:∃init,init=Ws.take (row.length-1):=⟨_,rfl⟩;obtain⟨aH,el⟩:∃aH,aH=Ws.drop (row.length-1):=⟨_,rfl⟩;have jA:init++aH=Ws:=by rw[ei,el,List.take_append_drop]
  have li:init.length+1=row.length:=by
   rw[ei,ARc];omega
  have ll:aH≠[]:=fun z=>by
   have:=congrArg List.length z;rw[el,ARd,ASJ]at this;omega
  rw[<-ei,<-el]at es;have lw:((dl::init)++[jn 32 aH]).length<=10:=by
   rw[ARG,ARD,ARn];omega
  refine⟨_,rfl,rfl,_,rfl,fp,_,rfl,.inr hf,_,_,(row.map V.str).length,rfl,rfl,(by decide),?_,by rw[BJ];omega,?_,fun D hD=>?_⟩
  .rw[fQ];show row.length<4611686018427387904;omega
  .rw[es,Io];omega
  rw[es];have sD:=Aj hD (.lst ((((dl::init)++[jn 32 aH]).map sx).map V.str));refine⟨1,rfl,D,_,rfl,SqL.of Ag,fun tp htp=>?_⟩;have ec:GK ((((dl::init)++[jn 32 aH]).map sx).map V.str) (some 1) none=((init++[jn 32 aH]).map sx).map V.str:=Kv V.str (((dl::init)++[jn 32 aH]).map sx) 1;rw[ec];have sT:=Aj htp (.lst (((init++[jn 32 aH]).map sx).map V.str));have et:upd (upd H1 D (.lst ((((dl::init)++[jn 32 aH]).map sx).map V.str))) tp (.lst (((init++[jn 32 aH]).map sx).map V.str)) tp=some (.lst (((init++[jn 32 aH]).map sx).map V.str)):=Ag;have s2:=sD.trans sT;generalize upd (upd H1 D (.lst ((((dl::init)++[jn 32 aH]).map sx).map V.str))) tp (.lst (((init++[jn 32 aH]).map sx).map V.str))=H2 at *;have hf2:=KY hf s2;have ub:(init++[jn 32 aH]).length=row.length:=by rw[ARG,ARn,li]
  have lt:(((init++[jn 32 aH]).map sx).map V.str).length=row.length:=by rw[Io,Io,ub]
  have ql:l=jn 32 (dl::init)++32::jn 32 aH:=by
   rw[<-eW,<-jA,<-ASo,Wo ll (by simp)]
  have sub:∀t∈init++[jn 32 aH],(∀c∈t,c<128)/\t.length<=900:=fun t ht=>by
   rcases ARP.mp ht with z|z
   .obtain⟨j1,j2⟩:=Nv (c:=32) (W:=dl::Ws) (w:=t) (by rw[<-jA];simp[z]);rw[eW]at j1 j2;exact⟨fun c hc=>ha c (j1 c hc),by omega⟩
   .rw[ARp.mp z];refine⟨fun c hc=>ha c (by rw[ql];simp[hc]),?_⟩;rw[ql,ARG,ARD]at l9;omega
  refine⟨_,rfl,tp,_,rfl,.inl (SqL.of et),_,rfl,fp,_,rfl,.inr hf2,rfl,_,rfl,Ji (congrArg V.int (by rw[lt,Io])) ?_⟩;refine⟨_,rfl,_,rfl,_,rfl,fp,tp,rfl,⟨_,hf2⟩,⟨_,SqL.of et⟩,RC (bs:=row.zip (init++[jn 32 aH])) (fun D H v b=>∃x,RdT b.1 b.2 x/\TgD au D H v x) row.length (by omega) fQ lt (by rw[List.length_zip];omega) (fun⟨x,r,h⟩ s=>⟨x,r,h.keep s⟩) (fun⟨x,r,h⟩ e=>⟨x,r,h.put e⟩) (fun H' s'=>KY hf2 s') et ?_ fun H4 L vs s4 nL eL pr=>?_⟩
  .intro zb zc C ex i k y b H' D' zs R hk hy hb sH nD eD fin;rw[ARQ]at hk;rw[List.map_map,ARQ]at hy;obtain⟨kind,hk',rfl⟩:=ASY.mp hk;obtain⟨t,hl',rfl⟩:=ASY.mp hy;rw[AUb]at hb;obtain⟨b1,b2⟩:=hb;rw[hk']at b1;rw[hl']at b2;obtain⟨kM,lJ⟩:=sub t (ARf hl');refine⟨_,rfl,_,rfl,kind,t,rfl,rk _ (ARf hk'),⟨kM,by omega⟩,lJ,fun x hx v H5 s5 hv=>fin v H5 s5 ⟨x,?_,hv D' (by rw[eD];exact fun z=>nomatch z)⟩,fun nx H5 s5=>qe (fun fP cU cV b9 aQ td=>?_) H5 (s1.trans (s2.trans (sH.trans s5)))⟩
   .rw[<-ARK b1,<-ARK b2];exact hx
   .obtain⟨w1,w2⟩:=words td;have e3:cU=row:=by
     have:=td.form;rw[w1,hform]at this;exact(ARK this).symm
    subst e3;have l2:=td.len;obtain⟨e4,e5⟩:=List.append_inj (w2.trans jA.symm) (by omega);subst e4;subst e5;have hi:=(ARO.mp hk').1;exact nx _ (td.rd i kind t _ hk' hl' (AQ9 (by rw[td.lth];exact hi)))
  .obtain⟨aK,lth,pt,rd⟩:=RJ pr;rw[List.length_zip]at lth;refine⟨(by show 2<=sizeLine;decide),fun r hr'=>?_⟩;have u:=Aj hr' (.tup [.str (sx dl),.ref L]);refine q dl row init aH aK ⟨by rw[jA,eW],hform,by rw[jA];exact fW,ll,li.symm,by omega,fun i k t x h1 h2 h3=>rd i (k,t) x ?_ h3⟩ r L vs _ (s1.trans (s2.trans (s4.trans u))) Ag ((s1.trans s2).free nL) (u _ _ eL) (Paired.imp' (fun _ _ z=>TgD.keep z u) pt);rw[AUb];exact⟨h1,h2⟩
 .have es:Txt.splitMax (sx l) (Str.ofString " ") (((row.map V.str).length:Nat):Int)=(dl::Ws).map sx:=by
   rw[fQ,show Str.ofString " "=sx [32] from rfl,<-eW,YS fW (by simp) (by rw[ARD];omega)]
  refine⟨_,rfl,rfl,_,rfl,fp,_,rfl,.inr hf,_,_,(row.map V.str).length,rfl,rfl,(by decide),?_,by rw[BJ];omega,?_,fun D hD=>?_⟩
  .rw[fQ];show row.length<4611686018427387904;omega
  .rw[es,Io,ARD];omega
  rw[es];have sD:=Aj hD (.lst (((dl::Ws).map sx).map V.str));refine⟨1,rfl,D,_,rfl,SqL.of Ag,fun tp htp=>?_⟩;have ec:GK (((dl::Ws).map sx).map V.str) (some 1) none=(Ws.map sx).map V.str:=Kv V.str ((dl::Ws).map sx) 1;rw[ec];have sT:=Aj htp (.lst ((Ws.map sx).map V.str));have et:upd (upd H1 D (.lst (((dl::Ws).map sx).map V.str))) tp (.lst ((Ws.map sx).map V.str)) tp=some (.lst ((Ws.map sx).map V.str)):=Ag;have s2:=sD.trans sT;generalize upd (upd H1 D (.lst (((dl::Ws).map sx).map V.str))) tp (.lst ((Ws.map sx).map V.str))=H2 at *;have hf2:=KY hf s2;refine⟨_,rfl,tp,_,rfl,.inl (SqL.of et),_,rfl,fp,_,rfl,.inr hf2,rfl,_,rfl,Uz (fun z=>?_) ⟨by show 1<=sizeLine;decide,qe (fun fP cU cV b9 aQ td=>hw ?_) H2 (s1.trans s2)⟩⟩
  .have:=V.int.inj z;rw[Io,Io,Io]at this;omega
  .obtain⟨w1,w2⟩:=words td;have e3:cU=row:=by
    have:=td.form;rw[w1,hform]at this;exact(ARK this).symm
   have l2:=td.len;have l3:=AS2.mpr td.last;rw[<-w2,<-e3,ARG];omega
def cq(ns:List Int):List Rat:=ns.map fun(z:Int)=>(z:Rat)
theorem Yp(ns:List Int):(cq ns).length=ns.length:=Io _
def Iz(H:Hp)(a:Addr)(ns:List Int):Prop:=H a=some (.lst (ns.map V.int))
theorem Zg{α:Type}(x:α)(n:Nat):(List.replicate n [x]).flatten=List.replicate n x:=by
 induction n with
 | zero=>rfl
 | succ n ih=>rw[ASl,ATL,ih];rfl
theorem ADg{s x y:Rat}(h:s≠0)(e:s*x=s*y):x=y:=by grind
def Lw(b:Int)(A:List Rat):Prop:=∀M:Int,(∀q∈A,∃T:Int,q*(M:Rat)=(T:Rat))->b ∣ M
def Fz(H:Hp)(p:Addr)(A:List Rat):Prop:=∃(fa:Addr) (fs:List Int) (b:Int),H p=some (.tup [.ref fa,.int b])/\Iz H fa fs/\b≠0/\cq fs=A.map (·*(b:Rat))/\Lw b A
theorem Fz.keep(h:Fz H p A)(s:Al H H'):Fz H' p A:=by
 obtain⟨fa,fs,b,h1,h2,h3⟩:=h;exact⟨fa,fs,b,s _ _ h1,s _ _ h2,h3⟩
theorem MT{A:List Rat}{b:Int}(e:cq fs=A.map (·*(b:Rat))):fs.length=A.length:=by
 have:=congrArg List.length e;rw[Yp,Io]at this;exact this
theorem R7{A:List Rat}{b:Int}(e:cq fs=A.map (·*(b:Rat)))(i:Nat):((fs.getD i 0:Int):Rat)=A.getD i 0*(b:Rat):=by
 have h:=congrArg (fun l:List Rat=>l[i]?) e;simp only[cq,ARQ]at h;rw[ARV,ARV];cases hf:fs[i]? with
 | none =>
  rw[hf]at h;cases hA:A[i]? with
  | none=>show((0:Int):Rat)=0*_;rw[AVf];rfl
  | some a=>rw[hA]at h;cases h
 | some f =>
  rw[hf]at h;cases hA:A[i]? with
  | none=>rw[hA]at h;cases h
  | some a=>rw[hA]at h;exact ARK h
theorem AMr(e:cq fs=A.map (·*(b:Rat)))(lw:Lw b A)(hM:M≠0)(bM:Bt N M)(o:∀q∈A,Po.Ov N M q):Bt N b/\∀f∈fs,Bt N f:=by
 have hd:b ∣ M:=lw M fun q hq=>by
  obtain⟨T,_,e⟩:=o q hq;exact⟨T,e⟩
 refine⟨bM.of_le (AT3 (by omega) (ARo.mpr hd)),fun f hf=>?_⟩;obtain⟨c,hc⟩:=hd;have hf':((f:Int):Rat)∈cq fs:=ARR.mpr ⟨f,hf,rfl⟩;rw[e]at hf';obtain⟨q,hq,eq⟩:=ARR.mp hf';obtain⟨T,bT,eT⟩:=o q hq;have uc:T=f*c:=by
  have:((T:Int):Rat)=((f*c:Int):Rat):=by
   rw[<-eT,hc,Rat.intCast_mul,Rat.intCast_mul,<-eq];grind
  exact ATf.mp this
 have hc0:c≠0:=fun z=>hM (by rw[hc,z,Int.mul_zero]);refine bT.of_le ?_;rw[uc,ATR];exact Nat.le_mul_of_pos_right _ (by omega)
theorem ACf{M T:Int}(h:q*(M:Rat)=(T:Rat)):(q.den:Int) ∣ M:=by
 by_cases hM:M=0
 .rw[hM];exact Int.dvd_zero _
 .have hM':(M:Rat)≠0:=fun z=>hM (Rat.intCast_eq_zero_iff.mp z);exact(AAp hM (show q=(T:Rat)/(M:Rat) by rw[<-h];grind)).2
theorem ACy(hB:0<B)(hd:0<d)(h1:B ∣ M)(h2:d ∣ M):B*(d/g B d) ∣ M:=by
 have hg:0<g B d:=Hx (by omega);obtain⟨x,hx⟩:=DW B d;obtain⟨y,hy⟩:=Br B d;have c:Int.gcd x y=1:=by
  have h:=JZ (a:=B) (b:=d) (by omega);have e1:B/g B d=x:=ASR (AS0 hg) hx;have e2:d/g B d=y:=ASR (AS0 hg) hy;rw[e1,e2]at h;exact h
 have e2:d/g B d=y:=ASR (AS0 hg) hy;rw[e2];obtain⟨z,hz⟩:=h1;obtain⟨v,hv⟩:=h2;generalize g B d=gg at *;have k:x*z=y*v:=by
  have:gg*(x*z)=gg*(y*v):=by
   rw[<-ASq,<-ASq,<-hx,<-hy,<-hz,<-hv]
  exact Int.eq_of_mul_eq_mul_left (AS0 hg) this
 have dy:y ∣ x*z:=⟨v,k⟩;have dz:y ∣ z:=by
  have d':=ARo.mpr dy;rw[ATR]at d';exact ARo.mp (ATl (Nat.Coprime.symm c) d')
 obtain⟨u,hu⟩:=dz;exact⟨u,by rw[hz,hu,ASq]⟩
def YH:Sp:=fun vs H Q _=>∃a qs β,vs=[.ref a]/\Rw H a qs/\qs.length<=13/\(∀q∈qs,Bq β q)/\β<=1300/\∀B:Int,0<B->(∀q∈qs,(q.den:Int) ∣ B)->(∀M:Int,(∀q∈qs,(q.den:Int) ∣ M)->B ∣ M)->Bt (1300*13+1) B->Q (.int B) H
theorem Dh:Ao ["figures","bottom","figure"] ["figures"] (Ae Fj):=fsc
theorem Lp(F:Fun K "shared_bottom" "shared_bottom" Fj f fd)(T:Txt mg)(ay:Cal P w K mg base "divisor" 1 ["one","other"] JL):BR P w K mg base CX0 2 f fd ["figures"] YH:=by
 refine F.okk Dh fun vs H Q E h=>?_;obtain⟨a,qs,β,rfl,⟨ps,ea,kp⟩,hl,bq,hβ,q⟩:=h;refine⟨rfl,fun cdv A outer s hr=>?_⟩;have lp:=kp.length;refine⟨_,(Ac (pS 1 Dh.nd Ad)
   (Ac (J7 ASm rfl (Dg (pv 0)) (gN 2 Dh.nd)
    (Af (pS 1 Dh.nd (Ak Cg (pv 1) (Ak Ca (ixT (pv 2) Ad) (BW ay hr (Aa (pv 1) (Aa (ixT (pv 2) Ad) Ab))))))))
   (Af (Aq (pv 1))))),?_⟩
 refine⟨_,rfl,a,rfl,⟨_,SqL.of ea⟩,?_⟩;refine Kz (xs:=ps.map V.ref) (fun i Y H'=>H=H'/\∃(B:Int) (v:Option V),Y=[some (.ref a),some (.int B),v]/\0<B/\(∀q∈qs.take i,(q.den:Int) ∣ B)/\(∀M:Int,(∀q∈qs.take i,(q.den:Int) ∣ M)->B ∣ M)/\Bt (1300*i+1) B)
  ⟨rfl,1,_,rfl,by decide,fun q hq=>absurd hq (by simp),fun M _=>⟨M,(Int.one_mul M).symm⟩,Bt.mono (m:=1) (by show(1:Nat)<2^1;decide) (by omega)⟩ ?_ ?_ ?_
 .rintro i Y _ _ ⟨rfl,_⟩;exact SqL.of ea
 .rintro i x Y _ hi ⟨rfl,B,v,rfl,hB,hd,hm,bB⟩;have hlt:i<qs.length:=by
   have:=(ARO.mp hi).1;rw[Io]at this;omega
  have eq:=AQ9 hlt;obtain⟨p1,e1,k1⟩:=kp.get eq;rw[hi]at e1;cases e1;have b1:Bq 1300 qs[i]:=(bq _ (ARS hlt)).mono hβ;have d1:=den_pos qs[i];have hg:0<g B qs[i].den:=Hx (by omega);have bg:Bt 9000 (g B qs[i].den):=(ABs d1 b1.2).mono (by decide);have gd:=Br B (qs[i].den:Int);have gB:=DW B (qs[i].den:Int);have qq:Bt 1300 ((qs[i].den:Int)/g B qs[i].den):=b1.2.ediv;have et:qs.take (i+1)=qs.take i++[qs[i]]:=ASW hlt;refine⟨_,rfl,_,rfl,_,_,_,_,rfl,rfl,k1.sq,rfl,_,rfl,_,rfl,_,_,_,_,rfl,rfl,k1.sq,rfl,_,_,rfl,_,_,rfl,rfl,⟨hg,bg⟩,_,_,rfl,rfl,Ek bB qq (by omega),rfl,_,_,rfl,?_,fun q hq=>?_,fun M hM=>?_,?_⟩
  .obtain⟨c,hc⟩:=gd;have:(qs[i].den:Int)/g B qs[i].den=c:=ASR (AS0 hg) hc;rw[this];refine ATV hB ?_;by_cases h0:0<c
   .exact h0
   .exfalso;have:g B qs[i].den*c<=0:=Int.mul_nonpos_of_nonneg_of_nonpos (by omega) (by omega);omega
  .rw[et]at hq;rcases ARP.mp hq with z|z
   .exact AVR (hd q z) (AVa _ _)
   .have:q=qs[i]:=by simpa using z
    rw[this];obtain⟨c,hc⟩:=gd;obtain⟨e,he⟩:=gB;have e1:(qs[i].den:Int)/g B qs[i].den=c:=ASR (AS0 hg) hc;rw[e1];refine⟨e,?_⟩;generalize g B (qs[i].den:Int)=gg at *;rw[hc,he,ASq,ASq,ASU e c]
  .rw[et]at hM;exact ACy hB d1 (hm M fun q hq=>hM q (ASD _ hq)) (hM _ (ART _ (by simp)))
  .rw[Nat.mul_succ];exact(bB.mul qq).mono (by omega)
 .rintro Y _ ⟨rfl,B,v,rfl,hB,hd,hm,bB⟩;rw[Io,lp]at hd hm bB;rw[AR2]at hd hm;exact⟨_,rfl,q B hB hd hm (bB.mono (by omega))⟩
def Xc:Sp:=fun vs H Q _=>∃a qs B,vs=[.ref a,.int B]/\Rw H a qs/\qs.length<=100/\0<B/\(∀q∈qs,(q.den:Int) ∣ B)/\(∀q∈qs,Bq 1300 q)/\Bt 20000 B /\
 ∀r ns H',Al H H'->H r=none->Iz H' r ns->cq ns=qs.map (·*(B:Rat))->Q (.ref r) H'
theorem Lx:Ao ["one","bottom"] ["one","bottom"] (Ae Do):=fsc
theorem Lk(F:Fun K "whole_figures" "whole_figures" Do f fd)(T:Txt mg):BR P w K mg base CX0 1 f fd ["one","bottom"] Xc:=by
 refine F.okk Lx fun vs H Q E h=>?_;obtain⟨a,qs,B,rfl,ra,hl,hB,hd,bq,bB,q⟩:=h;walk_at "b";obtain⟨xa,ea,la⟩:=ra.there;refine⟨_,(Af (Aq (Gp (N':=["figure","bottom"]) (fsc:=Ae Do) (N:=["one","bottom"]) [1] ⟨rfl,by decide +kernel,by decide +kernel,by decide +kernel,rfl,by decide +kernel,rfl,by decide +kernel⟩ (Dg (pv 0)) (fun _ _ _ _=>(Ak Cg (ixT (pv 0) Ad) (Ak Ca (pv 1) (ixT (pv 0) Ad))))))),?_⟩;refine⟨_,rfl,a,rfl,⟨_,SqL.of ea⟩,XD (by omega) ra (fun q=>q.num*(B/q.den)) ?_ fun H1 D s1 nD eD=>q D _ H1 s1 nD eD ?_⟩
 .intro _ _ _ _ p x H1 R hx kp s1 fin;have b1:=bq x hx;exact⟨_,rfl,_,_,_,_,rfl,rfl,kp.sq,rfl,_,rfl,_,rfl,_,_,_,_,rfl,rfl,kp.sq,rfl,_,_,rfl,rfl,⟨den_pos x,b1.2.mono (by decide)⟩,_,_,rfl,rfl,Ek b1.1 (bB.ediv) (by decide),fin⟩
 .unfold cq;rw[List.map_map];refine List.map_congr_left fun x hx=>?_;show((x.num*(B/(x.den:Int)):Int):Rat)=x*(B:Rat);obtain⟨c,hc⟩:=hd x hx;have d:=den_pos x;have e1:B/(x.den:Int)=c:=by
   rw[hc];exact ASv _ (by omega)
  rw[e1,hc,Rat.intCast_mul,Rat.intCast_mul];have e:=ZL x;have n:=O8 x;have e3:x=(x.num:Rat)/((x.den:Int):Rat):=e.symm;generalize (x.num:Rat)=u at *;generalize ((x.den:Int):Rat)=v at *;rw[e3];grind
def ABk:Sp:=fun vs H Q _=>∃a A,vs=[.ref a]/\Rw H a A/\A.length<=13/\(∀q∈A,Bq 1300 q)/\∀r H',Al H H'->Fz H' r A->Q (.ref r) H'
theorem GZ:Ao ["one","bottom"] ["one"] (Ae Eb):=fsc
theorem KD(F:Fun K "over_one_bottom" "over_one_bottom" Eb f fd)(T:Txt mg)(bQ:Cal P w K mg base "shared_bottom" 2 ["figures"] YH)(bR:Cal P w K mg base "whole_figures" 1 ["one","bottom"] Xc):BR P w K mg base CX0 3 f fd ["one"] ABk:=by
 refine F.okk GZ fun vs H Q E h=>?_;obtain⟨a,A',rfl,ra,hl,bq,q⟩:=h;refine⟨rfl,fun cdv A outer s hr=>?_⟩;refine⟨_,(Ac (pS 1 GZ.nd (BW bQ hr (Aa (pv 0) Ab)))
   (Af (Aq (CZ (Aa (BW bR hr (Aa (pv 0) (Aa (pv 1) Ab))) (Aa (pv 1) Ab)))))),?_⟩
 refine⟨_,rfl,a,A',1300,rfl,ra,hl,bq,ARH _,fun B hB hd hm bB=>?_⟩;refine⟨_,rfl,_,rfl,a,A',B,rfl,ra,by omega,hB,hd,bq,bB.mono (by decide),fun r1 ns H1 s1 n1 iz e=>?_⟩;refine⟨_,rfl,(by show 2<=sizeLine;decide),fun r hr'=>?_⟩;have u:=Aj hr' (.tup [.ref r1,.int B]);refine q r _ (s1.trans u) ⟨r1,ns,B,Ag,u _ _ iz,AS0 hB,e,fun M h=>hm M fun q hq=>?_⟩;obtain⟨T,eT⟩:=h q hq;exact ACf eT
theorem AEV(h:a≠0)(k:Bt n a):Bt n (g a b):=by
 refine k.of_le ?_;exact AT3 (by omega) (ARo.mpr (DW a b))
theorem Yh(h1:x ∣ a*M)(h2:x ∣ b*M):x ∣ g a b*M:=by
 have h:x ∣ ((Int.gcd (a*M) (b*M):Nat):Int):=Int.dvd_coe_gcd h1 h2;rw[Int.gcd_mul_right,Int.natCast_mul]at h;have h':x ∣ g a b*((M.natAbs:Nat):Int):=h;rcases Int.natAbs_eq M with e|e
 .rw[e];exact h'
 .rw[e,AVA];exact Int.dvd_neg.mpr h'
def AAq:Sp:=fun vs H Q _=>∃fa fs b A,vs=[.ref fa,.int b]/\Iz H fa fs/\fs.length<=13/\b≠0/\Bt 9000 b/\cq fs=A.map (·*(b:Rat))/\∀r H',Al H H'->Fz H' r A->Q (.ref r) H'
theorem Cj:Ao ["figures","bottom","shared","figure"] ["figures","bottom"] (Ae DQ):=fsc
theorem J5(F:Fun K "in_lowest_terms" "in_lowest_terms" DQ f fd)(T:Txt mg)(ay:Cal P w K mg base "divisor" 1 ["one","other"] JL):BR P w K mg base CX0 2 f fd ["figures","bottom"] AAq:=by
 refine F.okk Cj fun vs H Q E h=>?_;obtain⟨fa,fs,b,A',rfl,iz,hl,hb,bb,e,q⟩:=h;refine⟨rfl,fun cdv A outer s hr=>?_⟩;refine⟨_,(Ac (pS 2 Cj.nd (pv 1))
   (Ac (J7 ASm rfl (Dg (pv 0)) (gN 3 Cj.nd)
    (Af (pS 2 Cj.nd (BW ay hr (Aa (pv 2) (Aa (pv 3) Ab))))))
   (Af (Aq (CZ (Aa (Gp (N':=["figure","shared"]) (fsc:=Ae DQ) (N:=["figures","bottom","shared","figure"]) [2] ⟨rfl,by decide +kernel,by decide +kernel,by decide +kernel,rfl,by decide +kernel,rfl,by decide +kernel⟩ (Dg (pv 0)) (fun _ _ _ _=>(Ak Tn (pv 0) (pv 1)))) (Aa (Ak Tn (pv 1) (pv 2)) Ab))))))),?_⟩
 refine⟨_,rfl,_,rfl,fa,rfl,⟨_,SqL.of iz⟩,?_⟩;refine Kz (xs:=fs.map V.int) (fun i Y H'=>H=H'/\∃(S:Int) (v:Option V),Y=[some (.ref fa),some (.int b),some (.int S),v]/\S≠0/\Bt 9000 S/\S ∣ b/\(∀f∈fs.take i,S ∣ f)/\∀x M:Int,x ∣ b*M->(∀f∈fs.take i,x ∣ f*M)->x ∣ S*M)
  ⟨rfl,b,_,rfl,hb,bb,Int.dvd_refl b,fun f hf=>absurd hf (by simp),fun x M h _=>h⟩ ?_ ?_ ?_
 .rintro i Y _ _ ⟨rfl,_⟩;exact SqL.of iz
 .rintro i x Y _ hi ⟨rfl,S,v,rfl,hS,bS,dS,df,hx⟩;have hlt:i<fs.length:=by
   have:=(ARO.mp hi).1;rw[Io]at this;exact this
  have e1:(fs.map V.int)[i]?=some (.int fs[i]):=by rw[ARQ,AQ9 hlt];rfl
  obtain rfl:x=.int fs[i]:=ARK (hi.symm.trans e1);have et:fs.take (i+1)=fs.take i++[fs[i]]:=ASW hlt;have g1:=DW S fs[i];have g2:=Br S fs[i];refine⟨_,rfl,_,rfl,_,_,rfl,rfl,_,_,rfl,fun z=>hS (AGp z).1,AEV hS bS,AVR g1 dS,fun f hf=>?_,fun x M h1 h2=>?_⟩
  .rw[et]at hf;rcases ARP.mp hf with z|z
   .exact AVR g1 (df f z)
   .rw[ARp.mp z];exact g2
  .rw[et]at h2;exact Yh (hx x M h1 fun f hf=>h2 f (ASD _ hf)) (h2 _ (ART _ (by simp)))
 .rintro Y _ ⟨rfl,S,v,rfl,hS,bS,dS,df,hx⟩;rw[Io,AR2]at df hx;refine⟨_,rfl,fa,rfl,⟨_,SqL.of iz⟩,Wv (ns:=fs) (by omega) iz (fun f=>f.fdiv S) ?_ fun H1 D s1 nD eD=>?_⟩
  .intro _ _ _ _ x H1 R mP fin;exact⟨_,rfl,_,rfl,_,_,rfl,rfl,⟨hS,bS⟩,fin⟩
  refine⟨_,rfl,_,rfl,_,_,rfl,rfl,⟨hS,bS⟩,(by show 2<=sizeLine;decide),fun r hr'=>?_⟩;have u:=Aj hr' (.tup [.ref D,.int (b.fdiv S)]);obtain⟨b',hb'⟩:=dS;have eb:b.fdiv S=b':=by
   rw[AS1 ⟨b',hb'⟩,hb'];exact ASv _ hS
  have hS':(S:Rat)≠0:=fun z=>hS (Rat.intCast_eq_zero_iff.mp z);refine q r _ (s1.trans u) ⟨D,fs.map fun f=>f.fdiv S,b',?_,u _ _ eD,fun z=>hb (by rw[hb',z,Int.mul_zero]),?_,fun M h=>?_⟩
  .rw[Ag];show some (HO.tup [V.ref D,V.int (b.fdiv S)])=some (HO.tup [V.ref D,V.int b']);rw[eb]
  .refine ATn fun i=>?_;have h:=congrArg (fun l:List Rat=>l[i]?) e;simp only[cq,ARQ]at h ⊢;cases hf:fs[i]? with
   | none =>
    rw[hf]at h;cases hA:A'[i]? with
    | none=>rfl
    | some a=>rw[hA]at h;cases h
   | some f =>
    rw[hf]at h;cases hA:A'[i]? with
    | none=>rw[hA]at h;cases h
    | some a =>
     rw[hA]at h;have h':((f:Int):Rat)=a*(b:Rat):=ARK h;obtain⟨f',hf'⟩:=df f (ARf hf);have ef:f.fdiv S=f':=by
      rw[AS1 ⟨f',hf'⟩,hf'];exact ASv _ hS
     show some (((f.fdiv S:Int)):Rat)=some (a*(b':Rat));rw[ef];rw[hf',hb',Rat.intCast_mul,Rat.intCast_mul]at h'
     congr 1
     have:(S:Rat)*(f':Rat)=(S:Rat)*(a*(b':Rat)):=by rw[h'];grind
     exact ADg hS' this
  .have qt:b ∣ S*M:=hx b M (AVa _ _) fun f hf=>by
    have hf':((f:Int):Rat)∈cq fs:=ARR.mpr ⟨f,hf,rfl⟩;rw[e]at hf';obtain⟨a,ha,ea⟩:=ARR.mp hf';obtain⟨T,eT⟩:=h a ha;refine⟨T,?_⟩;have:((f*M:Int):Rat)=((b*T:Int):Rat):=by
     rw[Rat.intCast_mul,Rat.intCast_mul,<-eT,<-ea];grind
    exact ATf.mp this
   rw[hb']at qt;exact Int.dvd_of_mul_dvd_mul_left hS qt
def PJ:Sp:=fun vs H Q _=>∃t b,vs=[.int t,.int b]/\b≠0/\Bt 8000 b/\∀r H',Al H H'->Pq H' r ((t:Rat)/(b:Rat))->Q (.ref r) H'
theorem Ik:Ao ["top","bottom","shared"] ["top","bottom"] (Ae DY):=fsc
theorem U8(F:AFn K "fraction" "fraction" DY dV f fd)(T:Txt mg)(aU:Cal P w K mg base "is_whole" 1 ["thing"] PX)(ay:Cal P w K mg base "divisor" 1 ["one","other"] JL):BR P w K mg base CX0 2 f fd ["top","bottom"] PJ:=by
 refine okD F Ik (fun vs H Q E h=>?_) (fun cdv A outer s H vs Q E hr h=>?_)
 .obtain⟨t,b,rfl,_⟩:=h;rfl
 obtain⟨t,b,rfl,hb,bb,q⟩:=h;have fin:∀x,x=sh t b->(x≠0/\Bt 9000 x)/\∀r,H r=none->Q (.ref r) (upd H r (.tup [.int (t.fdiv x),.int (b.fdiv x)])):=fun x e=>by
  subst e;obtain⟨f1,e1⟩:=AKV (t:=t) hb;exact⟨⟨ALx hb,(AKX hb bb).mono (by decide)⟩,fun r hr=>q r _ (Aj hr _) (Pq.of Pr.new (Te f1 hb e1 rfl))⟩
 refine⟨_,(Ac (BP (PW.pt (Dk (By (Bv (BW aU hr (Aa (pv 0) Ab)))) (CV (By (Bv (BW aU hr (Aa (pv 1) Ab)))))))
    (Af GX)
    Ar)
   (Ac (BP (Am Bs (pv 1) Ad (Av _))
    (Af GX)
    Ar)
   (Ac (pS 2 Ik.nd (BW ay hr (Aa (pv 0) (Aa (pv 1) Ab))))
   (Ac (BP (Am Jj (pv 1) Ad (Av _))
    (Af (pS 2 Ik.nd (Hv Fi (pv 2))))
    Ar)
   (Af (Aq (CZ (Aa (Ak Tn (pv 0) (pv 2)) (Aa (Ak Tn (pv 1) (pv 2)) Ab))))))))),?_⟩
 refine⟨_,rfl,_,rfl,_,rfl,FZ ?_⟩;refine⟨_,rfl,_,rfl,_,rfl,FZ ?_⟩;refine⟨_,rfl,rfl,_,rfl,Hw (fun z=>hb (V.int.inj z)) ?_⟩;refine⟨_,rfl,_,rfl,_,_,rfl,?_⟩;walk_at "aq";refine Cw (fun c2=>?_) (fun c2=>?_)
 .have d2:b<0:=of_decide_eq_true c2;obtain⟨c3,q3⟩:=fin (-(g t b)) (by unfold sh;rw[if_pos d2]);refine⟨_,rfl,_,rfl,?_⟩;exact⟨_,rfl,_,rfl,_,_,rfl,rfl,c3,_,rfl,_,rfl,_,_,rfl,rfl,c3,(by show 2<=sizeLine;decide),q3⟩
 .have d2:¬b<0:=of_decide_eq_false (Bool.eq_false_iff.mpr c2);obtain⟨c3,q3⟩:=fin (g t b) (by unfold sh;rw[if_neg d2]);exact⟨_,rfl,_,rfl,_,_,rfl,rfl,c3,_,rfl,_,rfl,_,_,rfl,rfl,c3,(by show 2<=sizeLine;decide),q3⟩
theorem JT{fs:List Int}(h:0<fs.length):atI (fs.map V.int) (-1)=some (.int (fs.getD (fs.length-1) 0)):=by
 rcases ATI fs with z|⟨L,x,z⟩
 .rw[z]at h;simp at h
 .rw[ATJ]at z;have e:fs.getD (fs.length-1) 0=x:=by
   rw[z,ARG,ARn,Nat.add_sub_cancel,ARV,ARh (ARH _),Nat.sub_self];rfl
  rw[e,z,ARU];exact U4 _ _
theorem K8{fs:List Int}(h:i<fs.length):fs.getD i 0∈fs:=by
 rw[ARV,AQ9 h];exact ARS h
def OvM(A:List Rat):Prop:=∃M:Int,M≠0/\Bt 1300 M/\∀q∈A,Po.Ov 1300 M q
theorem YJ{b:Int}(e:cq fs=A.map (·*(b:Rat))):((fs.getD (fs.length-1) 0:Int):Rat)=Po.lst A*(b:Rat):=by
 unfold Po.lst;rw[R7 e,MT e]
def AOf:Sp:=fun vs H Q _=>∃(k:Nat) (p p':Addr) (A B:List Rat),vs=[.int k,.ref p,.ref p']/\Fz H p A/\Fz H p' B/\0<A.length/\0<B.length/\Po.lst B≠0/\OvM A/\OvM B/\∀r H',Al H H'->Pq H' r (if k%2=0 then Po.lst A/Po.lst B else -(Po.lst A/Po.lst B))->Q (.ref r) H'
theorem Tu{b:Int}(o:Po.OvN n A)(e:cq fs=A.map (·*(b:Rat)))(lw:Lw b A):Bt n b/\∀f∈fs,Bt n f:=by
 obtain⟨M,h1,h2,h3⟩:=o;exact AMr e lw h1 h2 h3
theorem ABy{x:Rat}(h:0<x):sgn x.num=1:=by
 have h0:0<=x.num:=Rat.num_nonneg.mpr (Rat.le_of_lt h);have h1:x.num≠0:=fun z=>Rat.ne_of_gt h (ATc.mp z);unfold sgn;rw[if_pos (by omega)]
def Vf:Sp:=fun vs H Q _=>∃(k:Nat) (p p':Addr) (A B:List Rat) (na nb:Nat),vs=[.int k,.ref p,.ref p']/\Fz H p A/\Fz H p' B/\0<A.length/\0<B.length/\Po.OvN na A/\Po.OvN nb B/\na+nb<=7990/\∀r H',Al H H'->Pq H' r (Po.qAt k A B)->Q (.ref r) H'
def U9:Sp:=fun vs H Q _=>∃(p p':Addr) (A B:List Rat) (na nb:Nat),vs=[.ref p,.ref p']/\Fz H p A/\Fz H p' B/\A.length<=13/\0<B.length/\B.length<=A.length/\Po.lst B≠0/\Po.OvN na A/\Po.OvN nb B/\na+nb<=7990/\∀r H',Al H H'->Fz H' r (Po.rst A B)->Q (.ref r) H'
structure Vs(U L:List Rat)(n:Nat):Prop where
 lu:U.length=n+1
 ll:L.length=n+1
 most:n<=12
 one:L[0]?=some 1
 bU:∀q∈U,Bq 1300 q
 bL:∀q∈L,Bq 1300 q
 ov:∀p,p<2*n+1->(∀j,j<p->0<Po.qp U L j)->∃na nb,Po.OvN na (Po.abp U L p).1/\Po.OvN nb (Po.abp U L p).2/\na+nb<=7990
def AOt:Sp:=fun vs H Q _=>∃(u l:Addr) (U L:List Rat) (n:Nat),vs=[.ref u,.ref l]/\Rw H u U/\Rw H l L/\Vs U L n /\
 ∀r lq m H',Al H H'->m<=2*n+1->(∀j,j<m->0<Po.qp U L j)->(m<2*n+1->¬0<Po.qp U L m)->H lq=none->H' r=some (.tup [.ref lq,if m=2*n+1 then .non else .int m])->Rw H' lq ((List.range m).map (Po.qp U L))->Q (.ref r) H'
theorem Ea:Ao ["place","one","other","last","divided_by","quotient"] ["place","one","other"] (Ae Gq):=fsc
theorem Ou(F:Fun K "quotient_at" "quotient_at" Gq f fd)(T:Txt mg)(cc:ABM P w K mg base "fraction" 2 ["top","bottom"] [] [] PJ)(cS:Cal P w K mg base "minus" 3 ["one","other"] (Ht 8000 (·-·))):BR P w K mg base CX0 4 f fd ["place","one","other"] Vf:=by
 refine F.okk Ea fun vs H Q E h=>?_;obtain⟨k,p,p',A',B,na,nb,rfl,⟨fa,fs,b,ep,iz,hb,e,lw⟩,⟨fb,gs',b',ep',jB,hb',e',mU⟩,lA,lB,oA,oB,kS,q⟩:=h;refine⟨rfl,fun cdv A outer s hr=>?_⟩;have lf:=MT e;have lg:=MT e';obtain⟨bb,bf⟩:=Tu oA e lw;obtain⟨mV,kT⟩:=Tu oB e' mU;have eA:=YJ e;have eB:=YJ e';have m1:=bf _ (K8 (show fs.length-1<fs.length by omega));have m2:=kT _ (K8 (show gs'.length-1<gs'.length by omega));have a1:=JT (fs:=fs) (by omega);have a2:=JT (fs:=gs') (by omega);generalize fs.getD (fs.length-1) 0=iC at *;generalize gs'.getD (gs'.length-1) 0=dg at *;have ud:(b:Rat)≠0:=fun z=>hb (Rat.intCast_eq_zero_iff.mp z);have iD:(b':Rat)≠0:=fun z=>hb' (Rat.intCast_eq_zero_iff.mp z);refine⟨_,(Ac (pS 3 Ea.nd (ixL (ixT (pv 1) Ad) (Hv Fi Ad)))
   (Ac (pS 4 Ea.nd (ixL (ixT (pv 2) Ad) (Hv Fi Ad)))
   (Ac (BP (Am Bs (pv 4) Ad (Av _))
    (Af (Aq (CZ (Aa Ad (Aa Ad Ab)))))
    Ar)
   (Ac (pS 5 Ea.nd (AAl cc hr (Aa (Ak Cg (pv 3) (ixT (pv 2) Ad)) (Aa (Ak Cg (pv 4) (ixT (pv 1) Ad)) Ab))))
   (Ac (BP (Am Bs (Ak Dm (pv 0) Ad) Ad (Av _))
    (Af (Aq (pv 5)))
    Ar)
   (Af (Aq (BW cS hr (Aa (CZ (Aa Ad (Aa Ad Ab))) (Aa (pv 5) Ab)))))))))),?_⟩
 refine⟨_,rfl,p,_,_,_,rfl,rfl,SqT.of ep,rfl,_,rfl,fa,_,_,_,rfl,rfl,SqL.of iz,a1,?_⟩;refine⟨_,rfl,p',_,_,_,rfl,rfl,SqT.of ep',rfl,_,rfl,fb,_,_,_,rfl,rfl,SqL.of jB,a2,?_⟩;refine⟨_,rfl,rfl,_,rfl,Cw (fun c0=>?_) (fun c0=>?_)⟩
 .have uf:dg=0:=V.int.inj (of_decide_eq_true c0);have hL:Po.lst B=0:=by
   rw[uf]at eB;walk_at "aE"
   .exact w
   .exact absurd w iD
  refine⟨(by show 2<=sizeLine;decide),fun z hz=>q z _ (Aj hz _) ?_⟩;unfold Po.qAt;rw[if_pos hL];exact Pq.of Pr.new ⟨rfl,rfl⟩
 have hdg:dg≠0:=fun z=>of_decide_eq_false (Bool.eq_false_iff.mpr c0) (congrArg V.int z);have hL:Po.lst B≠0:=fun z=>by
  rw[z,AVf]at eB;exact hdg (Rat.intCast_eq_zero_iff.mp eB)
 unfold Po.qAt at q;rw[if_neg hL]at q;refine⟨_,rfl,_,rfl,p',_,_,_,rfl,rfl,SqT.of ep',rfl,_,_,rfl,rfl,Ek m1 mV (by omega),_,rfl,_,rfl,p,_,_,_,rfl,rfl,SqT.of ep,rfl,_,_,rfl,rfl,Ek m2 bb (by omega),_,_,rfl,AU0 hdg hb,(m2.mul bb).mono (by omega),fun r1 H1 s1 k1=>?_⟩;have ev:((iC*b':Int):Rat)/((dg*b:Int):Rat)=Po.lst A'/Po.lst B:=by
  rw[Rat.intCast_mul,Rat.intCast_mul,eA,eB];grind
 rw[ev]at k1;have bq:Bq 7990 (Po.lst A'/Po.lst B):=AKs (AU0 hdg hb) ev.symm ((m1.mul mV).mono (by omega)) ((m2.mul bb).mono (by omega));refine⟨_,rfl,_,_,rfl,rfl,(by show(0:Int)<2;decide),rfl,_,rfl,Cw (fun c=>?_) (fun c=>?_)⟩
 .have c':(k:Int)%2=0:=V.int.inj (of_decide_eq_true c);refine⟨_,rfl,q r1 H1 s1 ?_⟩;rw[if_pos (by omega)];exact k1
 .have c':¬(k:Int)%2=0:=fun z=>of_decide_eq_false (Bool.eq_false_iff.mpr c) (congrArg V.int z);refine⟨(by show 2<=sizeLine;decide),fun z hz=>?_⟩;have u:=Aj hz (.tup [.int 0,.int 1]);have kz:Pq (upd H1 z (.tup [.int 0,.int 1])) z 0:=Pq.of Pr.new ⟨rfl,rfl⟩;refine⟨_,rfl,z,r1,_,_,rfl,kz,k1.keep u,Bq.zero (by decide),bq.mono (by decide),fun r2 H2 s2 k2=>q r2 H2 (s1.trans (u.trans s2)) ?_⟩;rw[if_neg (by omega)];have:-(Po.lst A'/Po.lst B)=0-Po.lst A'/Po.lst B:=by grind
  rw[this];exact k2
theorem YQ{b':Int}(e':cq gs'=B.map (·*(b':Rat)))(m i:Nat):(((List.replicate m (0:Int)++gs').getD i 0:Int):Rat)=(List.replicate m (0:Rat)++B).getD i 0*(b':Rat):=by
 refine R7 (fs:=List.replicate m (0:Int)++gs') (A:=List.replicate m (0:Rat)++B) ?_ i;unfold cq at e' ⊢;rw[ARU,ARU,e',AUX,AUX,AVf];rfl
theorem GR:Ao ["one","other","lifted","last","divided_by","figures"] ["one","other"] (Ae Jc):=fsc
theorem WT(F:Fun K "rest_of" "rest_of" Jc f fd)(T:Txt mg)(br:Cal P w K mg base "in_lowest_terms" 2 ["figures","bottom"] AAq):BR P w K mg base CX0 3 f fd ["one","other"] U9:=by
 refine F.okk GR fun vs H Q E h=>?_;obtain⟨p,p',A',B,na,nb,rfl,⟨fa,fs,b,ep,iz,hb,e,lw⟩,⟨fb,gs',b',ep',jB,hb',e',mU⟩,yo,lB,yq,hL,oA,oB,kS,q⟩:=h;refine⟨rfl,fun cdv A outer s hr=>?_⟩;have lf:=MT e;have lg:=MT e';obtain⟨bb,bf⟩:=Tu oA e lw;obtain⟨mV,kT⟩:=Tu oB e' mU;have eA:=YJ e;have eB:=YJ e';have m1:=bf _ (K8 (show fs.length-1<fs.length by omega));have m2:=kT _ (K8 (show gs'.length-1<gs'.length by omega));have a1:=JT (fs:=fs) (by omega);have a2:=JT (fs:=gs') (by omega);generalize fs.getD (fs.length-1) 0=iC at *;generalize gs'.getD (gs'.length-1) 0=dg at *;have ud:(b:Rat)≠0:=fun z=>hb (Rat.intCast_eq_zero_iff.mp z);have iD:(b':Rat)≠0:=fun z=>hb' (Rat.intCast_eq_zero_iff.mp z);have hdg:dg≠0:=fun z=>by
  rw[z]at eB;walk_at "aE"
  .exact hL w
  .exact iD w
 walk_at "O"
 have kU:(fs.map V.int).length=fs.length:=Io _;have jC:(gs'.map V.int).length=gs'.length:=Io _;refine⟨_,(Ac (pS 2 GR.nd (Ak T8 (Ak AJZ (Ff (Aa Ad Ab)) (Ak Jw (Ax BV rfl T.z_len ARW (Aa (ixT (pv 0) Ad) Ab)) (Ax BV rfl T.z_len ARW (Aa (ixT (pv 1) Ad) Ab)))) (ixT (pv 1) Ad)))
   (Ac (pS 3 GR.nd (ixL (ixT (pv 0) Ad) (Hv Fi Ad)))
   (Ac (pS 4 GR.nd (ixL (ixT (pv 1) Ad) (Hv Fi Ad)))
   (Ac (UV (i:=5) GR.nd rfl (Or.inl rfl) (N':=["figure","less","divided_by","last"]) (fsc:=Ae Jc) (N:=["one","other","lifted","last","divided_by","figures"]) ["figure","less"] [4,3] ⟨rfl,by decide +kernel,by decide +kernel,rfl,by decide +kernel,by decide +kernel⟩ (AAH rfl T.z_zip (Aa (ixT (pv 0) Ad) (Aa (pv 2) Ab))) (fun _ _ _ _=>(Rv (N':=["figure","less","divided_by","last"]) (i:=0) (j:=1) rfl (by decide +kernel) rfl rfl rfl rfl)) (fun _ _ _ _=>N6) (fun _ _ _ _=>(Ak Jw (Ak Cg (pv 2) (pv 0)) (Ak Cg (pv 3) (pv 1)))))
   (Ac (Dy (AEO ASB PySem.F.slot_list_pop PySem.F.type_list_pop AG1 (pv 5)))
   (Af (Aq (BW br hr (Aa (pv 5) (Aa (Ak Cg (pv 4) (ixT (pv 0) Ad)) Ab)))))))))),?_⟩
 refine⟨(by show 1<=sizeLine;decide),fun l0 hl0=>?_⟩;have s1:=Aj hl0 (.lst [.int 0]);refine⟨_,rfl,p,_,_,_,rfl,rfl,SqT.of (s1 _ _ ep),rfl,fa,_,rfl,.inl (SqL.of (s1 _ _ iz)),_,rfl,p',_,_,_,rfl,rfl,SqT.of (s1 _ _ ep'),rfl,fb,_,rfl,.inl (SqL.of (s1 _ _ jB)),_,_,rfl,rfl,l0,_,_,rfl,rfl,Ag,?_,?_,?_,fun l1 hl1=>?_⟩
 .rw[kU,jC];omega
 .rw[kU,jC];omega
 .rw[kU,jC,ARn];omega
 have en:(((fs.map V.int).length:Int)-((gs'.map V.int).length:Int)).toNat=fs.length-gs'.length:=by
  rw[kU,jC];omega
 rw[en,Zg];have s2:=Aj hl1 (.lst (List.replicate (fs.length-gs'.length) (V.int 0)));have s12:=s1.trans s2;refine⟨_,rfl,p',_,_,_,rfl,rfl,SqT.of (s12 _ _ ep'),rfl,l1,fb,_,_,rfl,rfl,Ag,s12 _ _ jB,by rw[jC,ARy];omega,fun L ug=>?_⟩;have s3:=Aj ug (.lst (List.replicate (fs.length-gs'.length) (V.int 0)++gs'.map V.int));have qu:Iz (upd (upd (upd H l0 (.lst [.int 0])) l1 (.lst (List.replicate (fs.length-gs'.length) (V.int 0)))) L (.lst (List.replicate (fs.length-gs'.length) (V.int 0)++gs'.map V.int))) L (List.replicate (fs.length-gs'.length) 0++gs'):=by
  unfold Iz;rw[Ag,ARU,AUX]
 have fu:=s12.trans s3;have qw:=fu _ _ ep;have mX:=fu _ _ ep';have mY:=fu _ _ iz;have mZ:=fu _ _ jB;generalize upd (upd (upd H l0 (.lst [.int 0])) l1 (.lst (List.replicate (fs.length-gs'.length) (V.int 0)))) L (.lst (List.replicate (fs.length-gs'.length) (V.int 0)++gs'.map V.int))=H3 at *;have lL:(List.replicate (fs.length-gs'.length) (0:Int)++gs').length=fs.length:=by rw[ARG,ARy];omega
 have bL:∀z∈List.replicate (fs.length-gs'.length) (0:Int)++gs',Bt nb z:=fun z hz=>by
  rcases ARP.mp hz with w|w
  .rw[List.eq_of_mem_replicate w];exact Bt.zero
  .exact kT z w
 refine⟨_,rfl,p,_,_,_,rfl,rfl,SqT.of qw,rfl,_,rfl,fa,_,_,_,rfl,rfl,SqL.of mY,a1,?_⟩;refine⟨_,rfl,p',_,_,_,rfl,rfl,SqT.of mX,rfl,_,rfl,fb,_,_,_,rfl,rfl,SqL.of mZ,a2,?_⟩;refine⟨_,rfl,p,_,_,_,rfl,rfl,SqT.of qw,rfl,_,rfl,fa,L,rfl,⟨_,SqL.of mY⟩,⟨_,SqL.of qu⟩,Zr (ns:=fs) (ms:=List.replicate (fs.length-gs'.length) (0:Int)++gs') fs.length (by rw[lL];omega) (by omega) mY qu (fun x y=>dg*x-iC*y) ?_ ?_ fun H4 D s4 nD eD=>?_⟩
 .intro _ _ _ _ x y H4 R fin;exact fin
 .intro _ _ _ _ x y H4 R hx hy fin;exact⟨_,rfl,_,rfl,_,_,rfl,rfl,Ek m2 (bf x hx) (by omega),_,rfl,_,rfl,_,_,rfl,rfl,Ek m1 (bL y hy) (by omega),_,_,rfl,rfl,fin⟩
 obtain⟨m,hm⟩:∃m,fs.length=m+1:=⟨fs.length-1,by omega⟩;rw[hm]at eD;rw[ATF,ARU,ARU,ATA,ATA]at eD;refine⟨_,rfl,.inl ⟨rfl,_,SqL.of eD⟩,D,_,V.int (dg*fs.getD m 0-iC*(List.replicate (m+1-gs'.length) (0:Int)++gs').getD m 0),rfl,rfl,eD,?_,?_⟩
 .rw[ARG,ARn,Nat.add_sub_cancel,ARh (ARH _),Nat.sub_self];rfl
 rw[AU4];have s5:Al H (upd H4 D (.lst (((List.range m).map fun i=>dg*fs.getD i 0-iC*(List.replicate (m+1-gs'.length) (0:Int)++gs').getD i 0).map V.int))):=CG (fu.trans s4) (fu.free nD) _;have uh:(upd H4 D (.lst (((List.range m).map fun i=>dg*fs.getD i 0-iC*(List.replicate (m+1-gs'.length) (0:Int)++gs').getD i 0).map V.int))) p=some (.tup [.ref fa,.int b]):=s5 _ _ ep;refine⟨_,rfl,_,rfl,_,rfl,p,_,_,_,rfl,rfl,SqT.of uh,rfl,_,_,rfl,rfl,Ek m2 bb (by omega),D,_,dg*b,Po.rst A' B,rfl,Ag,by rw[Io,ASa];omega,AU0 hdg hb,(m2.mul bb).mono (by omega),?_,fun r H6 s6 fz=>q r H6 (s5.trans s6) fz⟩;have qz:A'.length=m+1:=by omega
 unfold cq Po.rst;rw[List.map_map,List.map_map,qz,Nat.add_sub_cancel];refine List.map_congr_left fun i hi=>?_;show((dg*fs.getD i 0-iC*(List.replicate (m+1-gs'.length) (0:Int)++gs').getD i 0:Int):Rat)=(A'.getD i 0-Po.lst A'/Po.lst B*(Po.lift A' B).getD i 0)*((dg*b:Int):Rat);have e1:=R7 e i;have e2:=YQ e' (m+1-gs'.length) i;unfold Po.lift;rw[qz,<-lg,Rat.intCast_sub,Rat.intCast_mul,Rat.intCast_mul,Rat.intCast_mul,e1,e2,eA,eB];generalize A'.getD i 0=x at *;generalize (List.replicate (m+1-gs'.length) (0:Rat)++B).getD i 0=y at *;generalize Po.lst A'=u at *;generalize Po.lst B=v at *;grind
theorem Fz.updD(h:Fz H p A)(hA:0<A.length)(rD:Rw H D qs):Fz (upd H D (.lst ys)) p A:=by
 obtain⟨fa,fs,b,h1,h2,h3,h4,h5⟩:=h;obtain⟨ps,e,_⟩:=rD;refine⟨fa,fs,b,?_,?_,h3,h4,h5⟩
 .rw[An (Gk h1 e (by intro z;cases z))];exact h1
 .unfold Iz;rw[An]
  .exact h2
  .intro z;rw[z]at h2;have h2':H D=some (.lst (fs.map V.int)):=h2;rw[e]at h2';injection h2' with w;injection w with w;have l:=MT h4;cases fs with
   | nil=>simp at l;omega
   | cons f fs =>
    cases ps with
    | nil=>simp at w
    | cons q ps=>simp at w
theorem _root_.L3.CalCN.toX(Cc:CalCN P w K mg base x C k ps sp):AD4 P w K mg base x C k ps sp:=by
 obtain⟨f,fd,F,b,M,m⟩:=Cc.ex;exact⟨f,fd,⟨F.len,fun A outer s H args us vs Q E hr he hb hv hs=>codeAny_mono (F.run A outer s H args us vs Q E hr he hb hv hs) fun r s' q=>by
  cases r with
  | error e=>exact q.1
  | ok fl=>cases fl<;>exact q⟩,b,M,m⟩
theorem _root_.L3.raised_one{H H1:Hp}{e d:Addr}{x x' y:HO}(s1:Al H H1)(he:H1 e=none)(hd:(upd H1 e x) d=none)(hde:d≠e):Al H (drp (upd (upd (upd H1 e x) d y) e x') e)/\drp (upd (upd (upd H1 e x) d y) e x') e d=some y:=by
 have hd:H1 d=none:=by rw[An hde]at hd;exact hd
 refine⟨fun b o eb=>?_,?_⟩
 .walk_at "ap";exact s1 _ _ eb
 .rw[Eu hde,An hde,Ag]
theorem ABO{q:Rat}(h:¬0<q):V.int (sgn q.num)≠V.int 1:=fun z=>by
 have es:=V.int.inj z;have h0:=Rat.num_nonneg.mpr (show 0<=-q by grind);rw[Rat.neg_num]at h0;unfold sgn at es;rw[if_neg (by omega)]at es
 split at es<;>exact absurd es (by decide)
def Ry(C cB:Addr):Sp:=fun vs H Q E=>∃c ga wa gs ws,∃(n:Int),vs=[.ref c,.int n]/\Co C H c ga wa gs ws/\(1<=n->n<=ws.length->Q .non H)/\(n<1\/(ws.length:Int)<n->E (.ref cB) none H)
def Nt(cN:Addr):Sp:=fun vs H Q E=>∃va vk p q,vs=[va,vk,.ref p]/\Pq H p q/\¬0<q/\∀d H',Al H H'->H' d=some (.xd [("place",.non)])->E (.ref cN) (some d) H'
def Hu(lo:Int)(C cN cB:Addr):Sp:=fun vs H Q E=>∃(c ga wa:Addr) (gs ws:List Rat) (n:Int) (p:Addr) (q:Rat),vs=[.ref c,.int n,.ref p]/\Co C H c ga wa gs ws/\Pq H p q/\((n<lo\/(ws.length:Int)<n)->∀H',Al H H'->E (.ref cB) none H') /\
 (lo<=n->n<=ws.length->¬0<q/\∀d H',Al H H'->H' d=some (.xd [("place",.non)])->E (.ref cN) (some d) H')
def Lh(C cW:Addr):Sp:=fun vs H Q E=>∃(c ga wa:Addr) (gs ws:List Rat) (ve vh:V) (n:Int),vs=[.ref c,ve,.int n,vh]/\Co C H c ga wa gs ws/\(n<1\/(ws.length:Int)<n)/\∀H',Al H H'->E (.ref cW) none H'
def SX(a:Rat):List Rat->Bool
 | []=>true
 | x::xs=>decide (a<x)&&SX x xs
def Qw:Sp:=fun vs H Q _=>∃a qs,vs=[.ref a]/\Rw H a qs/\(∀q∈qs,Bq 4000 q)/\∀H',Al H H'->Q (.bl (SX 0 qs)) H'
def Tv(cW:Addr):Sp:=fun vs H Q E=>∃(a p:Addr) (qs:List Rat) (q:Rat),vs=[.ref a,.ref p]/\Rw H a qs/\Pq H p q/\qs.length<=12/\(∀q∈qs,Bq 4000 q)/\(SX 0 qs=false\/¬0<q)/\∀H',Al H H'->E (.ref cW) none H'
def Eh(U L:List Rat):Prop:=¬(U.length=L.length/\1<=U.length/\U.length<=13/\L[0]?=some 1)
def Uy(U L:List Rat)(n m:Nat):Prop:=m<2*n+1/\(∀j,j<m->0<Po.qp U L j)/\¬0<Po.qp U L m
def Sw(cN:Addr):Sp:=fun vs H Q E=>∃(u l:Addr) (U L:List Rat),vs=[.ref u,.ref l]/\Rw H u U/\Rw H l L/\U.length<=100/\L.length<=100 /\
 (Eh U L->∀d H',Al H H'->H' d=some (.xd [("place",.non)])->E (.ref cN) (some d) H') /\
 (¬Eh U L->∃n m,Vs U L n/\m<2*n+1/\(∀j,j<m->0<Po.qp U L j)/\¬0<Po.qp U L m/\∀r i lq H',Al H H'->i<2*n+1->(∀j,j<i->0<Po.qp U L j)->¬0<Po.qp U L i->H' r=some (.tup [lq,.int i])->Q (.ref r) H')
def Rn(cN:Addr):Sp:=fun vs H Q E=>∃(u l:Addr) (U L:List Rat),vs=[.ref u,.ref l]/\Rw H u U/\Rw H l L/\U.length<=100/\L.length<=100 /\
 (Eh U L->∀d H',Al H H'->H' d=some (.xd [("place",.non)])->E (.ref cN) (some d) H') /\
 (¬Eh U L->∃n m,Vs U L n/\Uy U L n m/\∀d H',Al H H'->H' d=some (.xd [("place",.int m)])->E (.ref cN) (some d) H')
theorem tri{a b c X N:Prop}(body:a\/b\/c->X)(k:(a->X)->(b->X)->(c->X)->N):N:=k (fun h=>body (.inl h)) (fun h=>body (.inr (.inl h))) fun h=>body (.inr (.inr h))
theorem Gh{H H1:Hp}{e d:Addr}{x x' y:HO}(s1:Al H H1)(he:H1 e=none)(hd:H1 d=none)(hde:d≠e):Al H (drp (upd (upd (upd H1 e x) d y) e x') e)/\drp (upd (upd (upd H1 e x) d y) e x') e d=some y:=by
 refine⟨fun b o eb=>?_,?_⟩
 .walk_at "ap";exact s1 _ _ eb
 .rw[Eu hde,An hde,Ag]
theorem QR:Ao ["cord","bead"] ["cord","bead"] (Ae Ho):=fsc
theorem Qh{ah aq ak af ai ao ap:Addr}(F:FnX K "check_bead" "check_bead" Ho f fd)(T:Txt mg)(R:Fw K mg ah aq ak af ai ao ap)(aR:MJ P w K mg base au "beads" 1 ["self"] (LK au)):BR P w K mg base (CXd P w) 2 f fd ["cord","bead"] (Ry au ak):=by
 refine Cd F QR fun vs H Q E h=>?_;obtain⟨c,ga,wa,gs,ws,n,rfl,co,q,qe⟩:=h;refine⟨rfl,fun cdv A outer s hr=>?_⟩;obtain⟨dx,ec⟩:=co.1;refine⟨_,(Af (BP (PW.pt (Dk (Am Jj (pv 1) Ad (Av _)) (CV (Am HN (pv 1) (Iw aR hr (pv 0)) (Av _)))))
    (Af (Bk R.m_NoBead R.o_NoBead (Aa Ai Ab)))
    Ar)),?_⟩
 by_cases h1:n<1
 .exact⟨_,rfl,_,_,rfl,rfl,_,rfl,Ly h1 (Ga ⟨by show 1<=sizeLine;decide,qe (.inl h1)⟩)⟩
 .walk_at "o";by_cases h2:(ws.length:Int)<n
  .exact Ly h2 ⟨by show 1<=sizeLine;decide,qe (.inr h2)⟩
  .exact Hw h2 (q (by omega) (by omega))
theorem Ri:Ao ["row","place","more"] ["row","place","more"] (Ae IK):=fsc
theorem Sq{ah aq ak af ai ao ap:Addr}(F:FnX K "with_more" "with_more" IK f fd)(T:Txt mg)(R:Fw K mg ah aq ak af ai ao ap)(aP:Cal P w K mg base "is_fraction" 2 ["thing"] R6)(aS:Cal P w K mg base "side" 1 ["one"] Hm)(ax:Us P w K mg base "NoCord" af 1 ["self","place"] (Fx af)):BR P w K mg base (CXd P w) 3 f fd ["row","place","more"] (Nt af):=by
 refine Cd F Ri fun vs H Q E h=>?_;obtain⟨va,vk,p,q,rfl,kp,np,qe⟩:=h;refine⟨rfl,fun cdv A outer s hr=>?_⟩;refine⟨_,(Ac (BP (PW.pt (Dk (By (Bv (BW aP hr (Aa (pv 2) Ab)))) (CV (Am GC (BW aS hr (Aa (pv 2) Ab)) Ad (Av _)))))
    (Af (JX ax hr (Aa Gr Ab)))
    Ar)
   Ku),?_⟩
 refine⟨_,rfl,p,_,_,rfl,kp,_,rfl,?_⟩;rw[Z1 q];refine FZ ?_;refine⟨_,rfl,p,_,_,rfl,kp,rfl,_,rfl,Uz (ABO np) ?_⟩;exact⟨by show 1<=sizeLine;decide,fun e he=>⟨e,.non,rfl,Ag,fun d hd hde=>⟨rfl,some d,Ag,qe d _ (raised_one (Al.refl H) he hd hde).1 (raised_one (Al.refl H) he hd hde).2⟩⟩⟩
theorem Wl:Ao ["cord","bead","more"] ["cord","bead","more"] (Ae Mh):=fsc
theorem Wq{af ak:Addr}(F:FnX K "heavier" "heavier" Mh f fd)(T:Txt mg)(cj:DR P w K mg base "check_bead" 2 ["cord","bead"] [] [] (Ry au ak))(bj:DR P w K mg base "with_more" 3 ["row","place","more"] [] [] (Nt af))(aO:MJ P w K mg base au "gaps" 1 ["self"] (KR au))(aI:MJ P w K mg base au "weights" 1 ["self"] (Fy au))(aN:CalCN P w K mg base "Cord" au 4 ["self","gaps","weights"] (Iv au af)):BR P w K mg base (CXd P w) 6 f fd ["cord","bead","more"] (Hu 1 au af ak):=by
 replace aN:=aN.toX;refine Cd F Wl fun vs H Q E h=>?_;obtain⟨c,ga,wa,gs,ws,n,p,q,rfl,co,kp,qb,qn⟩:=h;refine⟨rfl,fun cdv A outer s hr=>?_⟩;obtain⟨dx,ec⟩:=co.1;refine⟨_,(Ac (Dy (Bg cj hr (Aa (pv 0) (Aa (pv 1) Ab))))
   (Af (Aq (Z6 aN hr (Aa (Iw aO hr (pv 0)) (Aa (Bg bj hr (Aa (Iw aI hr (pv 0)) (Aa (Ak Jw (pv 1) Ad) (Aa (pv 2) Ab)))) Ab)))))),?_⟩
 refine⟨_,rfl,_,rfl,c,ga,wa,gs,ws,n,rfl,co,fun h1 h2=>?_,fun h=>qb h H (Al.refl _)⟩;obtain⟨np,qe⟩:=qn h1 h2;walk_at "aJ";refine⟨_,rfl,c,dx,_,rfl,s1 _ _ ec,rfl,c,ga,wa,gs,ws,rfl,co.keep s1,fun w1 H2 s2 n2 r2=>?_⟩;exact⟨_,rfl,_,_,rfl,rfl,_,rfl,_,_,p,q,rfl,kp.keep (s1.trans s2),np,fun d H3 s3 ed=>qe d H3 ((s1.trans s2).trans s3) ed⟩
theorem Zq:Ao ["cord","gap","more"] ["cord","gap","more"] (Ae Pj):=fsc
theorem YZ{ah aq ak af ai ao ap:Addr}(F:FnX K "longer" "longer" Pj f fd)(T:Txt mg)(R:Fw K mg ah aq ak af ai ao ap)(bj:DR P w K mg base "with_more" 3 ["row","place","more"] [] [] (Nt af))(aO:MJ P w K mg base au "gaps" 1 ["self"] (KR au))(aI:MJ P w K mg base au "weights" 1 ["self"] (Fy au))(aR:MJ P w K mg base au "beads" 1 ["self"] (LK au))(aN:CalCN P w K mg base "Cord" au 4 ["self","gaps","weights"] (Iv au af)):BR P w K mg base (CXd P w) 6 f fd ["cord","gap","more"] (Hu 0 au af ak):=by
 replace aN:=aN.toX;refine Cd F Zq fun vs H Q E h=>?_;obtain⟨c,ga,wa,gs,ws,n,p,q,rfl,co,kp,qb,qn⟩:=h;refine⟨rfl,fun cdv A outer s hr=>?_⟩;obtain⟨dx,ec⟩:=co.1;refine⟨_,(Ac (BP (PW.pt (Dk (Am Jj (pv 1) Ad (Av _)) (CV (Am HN (pv 1) (Iw aR hr (pv 0)) (Av _)))))
    (Af (Bk R.m_NoBead R.o_NoBead (Aa Ai Ab)))
    Ar)
   (Af (Aq (Z6 aN hr (Aa (Bg bj hr (Aa (Iw aO hr (pv 0)) (Aa (pv 1) (Aa (pv 2) Ab)))) (Aa (Iw aI hr (pv 0)) Ab)))))),?_⟩
 by_cases h1:n<0
 .exact⟨_,rfl,_,_,rfl,rfl,_,rfl,Ly h1 (Ga ⟨by show 1<=sizeLine;decide,qb (.inl h1) H (Al.refl _)⟩)⟩
 walk_at "o";by_cases h2:(ws.length:Int)<n
 .exact Ly h2 ⟨by show 1<=sizeLine;decide,qb (.inr h2) H (Al.refl _)⟩
 refine Hw h2 ?_;obtain⟨np,qe⟩:=qn (by omega) (by omega);walk_at "aJ";exact⟨_,rfl,_,rfl,_,_,p,q,rfl,kp.keep s1,np,fun d H3 s3 ed=>qe d H3 (s1.trans s3) ed⟩
theorem ADF:Ao ["cord","end","k","halvings","low","high","halving","middle"] ["cord","end","k","halvings"] (Ae W4):=fsc
theorem ADA{ah aq ak af ai ao ap:Addr}(F:FnX K "span" "span" W4 f fd)(T:Txt mg)(R:Fw K mg ah aq ak af ai ao ap)(aR:MJ P w K mg base au "beads" 1 ["self"] (LK au)):BR P w K mg base (CXd P w) 2 f fd ["cord","end","k","halvings"] (Lh au ai):=by
 refine Cd F ADF fun vs H Q E h=>?_;obtain⟨c,ga,wa,gs,ws,ve,vh,n,rfl,co,hn,qe⟩:=h;refine⟨rfl,fun cdv A outer s hr=>?_⟩;obtain⟨dx,ec⟩:=co.1;refine⟨_,(Ac (BP (PW.pt (Dk (Am Jj (pv 2) Ad (Av _)) (CV (Am HN (pv 2) (Iw aR hr (pv 0)) (Av _)))))
    (Af (Bk R.m_NoWorth R.o_NoWorth (Aa Ai Ab)))
    Ar)
   Ku),?_⟩
 by_cases h1:n<1
 .exact⟨_,rfl,_,_,rfl,rfl,_,rfl,Ly h1 (Ga ⟨by show 1<=sizeLine;decide,qe H (Al.refl _)⟩)⟩
 walk_at "o";exact Ly (by omega) ⟨by show 1<=sizeLine;decide,qe H (Al.refl _)⟩
theorem Fp:Ao ["row","last","one"] ["row"] (Ae JM):=fsc
theorem TJ(F:Fun K "is_rising" "is_rising" JM f fd)(T:Txt mg)(cY:Cal P w K mg base "is_under" 1 ["one","other"] U5):BR P w K mg base CX0 2 f fd ["row"] Qw:=by
 refine F.okk Fp fun vs H Q E h=>?_;obtain⟨a,qs,rfl,⟨ps,ea,kp⟩,bq,q⟩:=h;refine⟨rfl,fun cdv A outer s hr=>?_⟩;have lp:=kp.length;refine⟨_,(Ac (pS 1 Fp.nd (CZ (Aa Ad (Aa Ad Ab))))
   (Ac (J7 ASm rfl (Dg (pv 0)) (gN 2 Fp.nd)
    (Ac (BP (By (Bv (BW cY hr (Aa (pv 1) (Aa (pv 2) Ab)))))
     (Af (Aq JK))
     Ar)
    (Af (pS 1 Fp.nd (pv 2)))))
   (Af (Aq JK)))),?_⟩
 refine⟨(by show 2<=sizeLine;decide),fun p0 hp0=>?_⟩;have s0:=Aj hp0 (.tup [.int 0,.int 1]);have k0:Pq (upd H p0 (.tup [.int 0,.int 1])) p0 0:=Pq.of Pr.new ⟨rfl,rfl⟩;generalize upd H p0 (.tup [.int 0,.int 1])=H0 at *;have ea:=s0 _ _ ea;have kp:=kp.keep s0;refine⟨_,rfl,a,rfl,⟨_,SqL.of ea⟩,?_⟩;refine Kz (xs:=ps.map V.ref) (fun i Y H'=>H0=H'/\∃(pl:Addr) (x:Rat) (v:Option V),Y=[some (.ref a),some (.ref pl),v]/\Pq H0 pl x/\Bq 4000 x/\SX 0 qs=SX x (qs.drop i)) ⟨rfl,p0,0,_,rfl,k0,Bq.zero (by decide),rfl⟩ ?_ ?_ ?_
 .rintro i Y _ _ ⟨rfl,_⟩;exact SqL.of ea
 .rintro i x Y _ hi ⟨rfl,pl,y,v,rfl,kl,qA,hr'⟩;have hlt:i<qs.length:=by
   have:=(ARO.mp hi).1;rw[Io]at this;omega
  obtain⟨p1,e1,k1⟩:=kp.get (AQ9 hlt);obtain rfl:x=.ref p1:=ARK (hi.symm.trans e1);have b1:=bq _ (ARS hlt);rw[ASs hlt]at hr';have hr2:SX 0 qs=(decide (y<qs[i])&&SX qs[i] (qs.drop (i+1))):=hr';refine⟨_,rfl,_,rfl,pl,p1,_,_,_,_,rfl,kl,k1,Ek qA.1 b1.2 (by decide),Ek b1.1 qA.2 (by decide),_,rfl,?_⟩;by_cases c:y<qs[i]
  .have e:decide (y.num*(qs[i].den:Int)<qs[i].num*(y.den:Int))=true:=decide_eq_true ((AVi _ _).mp c);rw[e];rw[decide_eq_true c,Bool.true_and]at hr2;exact FZ ⟨_,rfl,rfl,p1,_,_,rfl,k1,b1,hr2⟩
  .have e:decide (y.num*(qs[i].den:Int)<qs[i].num*(y.den:Int))=false:=decide_eq_false fun z=>c ((AVi _ _).mpr z);rw[e];rw[decide_eq_false c,ATQ]at hr2;have fin:=q H0 s0;rw[hr2]at fin;exact Ga fin
 .rintro Y _ ⟨rfl,pl,x,v,rfl,_,_,hr'⟩;rw[Io,lp,List.drop_length]at hr';have fin:=q H0 s0;rw[hr']at fin;exact fin
theorem ADY:Ao ["helds","length","upper","lower","weight"] ["helds","length"] (Ae WD):=fsc
theorem ACr{ah aq ak af ai ao ap:Addr}(F:FnX K "even" "even" WD f fd)(T:Txt mg)(R:Fw K mg ah aq ak af ai ao ap)(cC:Cal P w K mg base "is_rising" 2 ["row"] Qw)(aS:Cal P w K mg base "side" 1 ["one"] Hm):BR P w K mg base (CXd P w) 3 f fd ["helds","length"] (Tv ai):=by
 refine Cd F ADY fun vs H Q E h=>?_;obtain⟨a,p,qs,q,rfl,ra,kp,qB,bq,hb,qe⟩:=h;refine⟨rfl,fun cdv A outer s hr=>?_⟩;obtain⟨ps,ea,k⟩:=id ra;have lk:=k.length;refine⟨_,(Ac (BP (Am HN (Ax BV rfl T.z_len ARW (Aa (pv 0) Ab)) (HF rfl T.c_MOST_BEADS) (Av _))
    (Af (Bk R.m_NoWorth R.o_NoWorth (Aa Ai Ab)))
    Ar)
   (Ac (BP (PW.pt (Dk (By (Bv (BW cC hr (Aa (pv 0) Ab)))) (CV (Am GC (BW aS hr (Aa (pv 1) Ab)) Ad (Av _)))))
    (Af (Bk R.m_NoWorth R.o_NoWorth (Aa Ai Ab)))
    Ar)
   Ku)),?_⟩
 refine⟨_,rfl,a,_,rfl,.inl (SqL.of ea),_,_,rfl,rfl,_,rfl,Hw (by rw[Io];show ¬(12:Int)<_;omega) ?_⟩;refine⟨_,rfl,a,qs,rfl,ra,bq,fun H1 s1=>⟨_,rfl,?_⟩⟩;cases hr':SX 0 qs with
 | false=>exact Ga (Ga ⟨by show 1<=sizeLine;decide,qe H1 s1⟩)
 | true =>
  refine FZ ?_;refine⟨_,rfl,p,_,_,rfl,kp.keep s1,rfl,_,rfl,Uz (ABO (hb.resolve_left (by rw[hr'];simp))) ⟨by show 1<=sizeLine;decide,qe H1 s1⟩⟩
theorem Dj:Ao ["upper","lower","one","other","quotients","place","quotient","rest"] ["upper","lower"] (Ae O5):=fsc
theorem ZS{ah aq ak af ai ao ap:Addr}(F:FnX K "ladder" "ladder" O5 f fd)(T:Txt mg)(R:Fw K mg ah aq ak af ai ao ap)(aT:Cal P w K mg base "over_one_bottom" 3 ["one"] ABk)(ce:Cal P w K mg base "quotient_at" 4 ["place","one","other"] Vf)(aS:Cal P w K mg base "side" 1 ["one"] Hm)(c9:Cal P w K mg base "rest_of" 3 ["one","other"] U9)(ax:Us P w K mg base "NoCord" af 1 ["self","place"] (Fx af)):BR P w K mg base (CXd P w) 5 f fd ["upper","lower"] (Sw af):=by
 refine Cd F Dj fun vs H Q E h=>?_;obtain⟨u,l,U,L,rfl,ru,rl,nU,nL,q0,q1⟩:=h;walk_at "b";obtain⟨xu,eu,ui⟩:=ru.there;obtain⟨pl,el,kl⟩:=id rl;have uj:=kl.length;walk_at "O"
 refine⟨_,(Ac (BP (PW.pt (Dk (Am GC (Ax BV rfl T.z_len ARW (Aa (pv 0) Ab)) (Ax BV rfl T.z_len ARW (Aa (pv 1) Ab)) (Av _)) (Dk (Am Jj (Ax BV rfl T.z_len ARW (Aa (pv 0) Ab)) Ad (Av _)) (CV (Am HN (Ax BV rfl T.z_len ARW (Aa (pv 0) Ab)) (Ak J6 (HF rfl T.c_MOST_BEADS) Ad) (Av _))))))
    (Af (JX ax hr (Aa Gr Ab)))
    Ar)
   (Ac (BP (Am (AFf hr.units) (ixL (pv 1) Ad) (CZ (Aa Ad (Aa Ad Ab))) (Av _))
    (Af (JX ax hr (Aa Gr Ab)))
    Ar)
   (Ac (pS 2 Dj.nd (BW aT hr (Aa (pv 0) Ab)))
   (Ac (pS 3 Dj.nd (BW aT hr (Aa (pv 1) Ab)))
   (Ac (pS 4 Dj.nd (Ff Ab))
   (Ac (J7 PassesOwn.leaving rfl (Q4 rfl T.z_range (Aa (Ak Jw (Ak Cg Ad (Ax BV rfl T.z_len ARW (Aa (pv 0) Ab))) Ad) Ab)) (gN 5 Dj.nd)
    (Ac (pS 6 Dj.nd (BW ce hr (Aa (pv 5) (Aa (pv 2) (Aa (pv 3) Ab)))))
    (Ac (BP (Am GC (BW aS hr (Aa (pv 6) Ab)) Ad (Av _))
     (Af (Aq (CZ (Aa (pv 4) (Aa (pv 5) Ab)))))
     Ar)
    (Ac (Dy (Eo ASB ASy ASz HS (pv 4) (Aa (pv 6) Ab)))
    (Ac (pS 7 Dj.nd (BW c9 hr (Aa (pv 2) (Aa (pv 3) Ab))))
    (Ac (pS 2 Dj.nd (pv 3))
    (Af (pS 3 Dj.nd (pv 7)))))))))
   (Af (Aq (CZ (Aa (pv 4) (Aa Gr Ab))))))))))),?_⟩
 refine tri (a:=¬U.length=L.length) (b:=U.length<1) (c:=13<U.length) ?body fun b1 b2 b3=>⟨_,rfl,_,_,rfl,.inl (SqL.of eu),_,rfl,_,_,rfl,.inl (SqL.of el),rfl,_,rfl,Cw (fun c1=>Ga (b1 ?n1)) (fun c1=>⟨_,rfl,_,_,rfl,.inl (SqL.of eu),_,_,rfl,rfl,_,rfl,Cw (fun c2=>Ga (b2 ?n2)) (fun c2=>⟨_,rfl,_,_,rfl,.inl (SqL.of eu),_,_,rfl,rfl,_,_,rfl,rfl,_,rfl,Cw (fun c3=>b3 ?n3) (fun c3=>?go)⟩)⟩)⟩
 case n1 =>
  intro z;rw[ui,Io,uj,z]at c1;exact absurd c1 (by simp)
 case n2 =>
  have c':(xu.length:Int)<1:=of_decide_eq_true c2;omega
 case n3 =>
  have c':(12+1:Int)<(xu.length:Int):=of_decide_eq_true c3;omega
 case body =>
  intro hb;have bad:Eh U L:=fun z=>by
   obtain⟨z1,z2,z3,_⟩:=z;rcases hb with h|h|h
   .exact h z1
   .omega
   .omega
  refine⟨by show 1<=sizeLine;decide,fun e he=>⟨e,.non,rfl,Ag,fun d hd hde=>⟨rfl,some d,Ag,?_⟩⟩⟩;have hd1:H d=none:=by rw[An hde]at hd;exact hd
  exact q0 bad d _ (Gh (Al.refl H) he hd1 hde).1 (Gh (Al.refl H) he hd1 hde).2
 have hl:U.length=L.length:=by
  have:¬¬((xu.length:Int)=((pl.map V.ref).length:Int)):=fun z=>c1 (by simp at z ⊢;omega);rw[Io]at this;omega
 have h1:1<=U.length:=by
  have c':¬(xu.length:Int)<1:=of_decide_eq_false (Bool.eq_false_iff.mpr c2);omega
 have h13:U.length<=13:=by
  have c':¬(12+1:Int)<(xu.length:Int):=of_decide_eq_false (Bool.eq_false_iff.mpr c3);omega
 have hL0:0<L.length:=by omega
 obtain⟨p1,e1,k1⟩:=kl.get (AQ9 hL0);refine⟨_,rfl,l,_,_,_,rfl,rfl,SqL.of el,Df (j:=0) e1,(by show 2<=sizeLine;decide),fun z hz'=>?_⟩;have uz:=Aj hz' (.tup [.int 1,.int 1]);have kz:Pq (upd H z (.tup [.int 1,.int 1])) z 1:=Pq.of Pr.new ⟨rfl,rfl⟩;refine⟨_,_,(k1.keep uz).dv,kz.dv,ASF (ABH _) (by decide),_,rfl,Cw (fun c4=>?_) (fun c4=>?_)⟩
 .have bad:Eh U L:=fun z=>by
   obtain⟨_,_,_,z4⟩:=z;rw[AQ9 hL0]at z4;rw[ARK z4,V2]at c4;exact absurd c4 (by decide)
  refine⟨by show 1<=sizeLine;decide,fun e he=>⟨e,.non,rfl,Ag,fun d hd hde=>⟨rfl,some d,Ag,?_⟩⟩⟩;have hd1:(upd H z (.tup [.int 1,.int 1])) d=none:=by rw[An hde]at hd;exact hd
  exact q0 bad d _ (Gh uz he hd1 hde).1 (Gh uz he hd1 hde).2
 have one:L[0]?=some 1:=by
  rw[AQ9 hL0];refine congrArg some (ATS fun z=>c4 ?_);rw[AB1,decide_eq_false z];rfl
 obtain⟨n,m,g,hm,gm,nm,q⟩:=q1 (fun bad=>bad ⟨hl,h1,h13,one⟩);have lu:=g.lu;have ll:=g.ll;have hn:=g.most;refine⟨_,rfl,u,_,rfl,ru.keep uz,by omega,g.bU,fun a1 H1 s1 f1=>?_⟩;refine⟨_,rfl,l,_,rfl,rl.keep (uz.trans s1),by omega,g.bL,fun a2 H2 s2 f2=>?_⟩;refine⟨(by show 0<=sizeLine;decide),fun D hD=>?_⟩;have gh:=uz.trans (s1.trans s2);have u3:=Aj hD (.lst []);have ul:H D=none:=gh.free hD;refine⟨_,rfl,_,_,rfl,.inl (SqL.of ((gh.trans u3) _ _ eu)),_,_,rfl,rfl,AFX.ok (.inl ⟨by decide,by decide⟩),_,_,rfl,rfl,_,rfl,by omega,by omega,?_⟩;rw[show(2*((xu.length:Nat):Int)-1).toNat=2*n+1 by omega];refine Zb (n:=2*n+1) (fun i Y H'=>(∃(x y:Addr) (v1 v2 v3:Option V),Y=[some (.ref u),some (.ref l),some (.ref x),some (.ref y),some (.ref D),v1,v2,v3]/\Fz H' x (Po.abp U L i).1/\Fz H' y (Po.abp U L i).2)/\Al H H'/\Rw H' D ((List.range i).map (Po.qp U L))/\∀j,j<i->0<Po.qp U L j)
  ⟨⟨a1,a2,_,_,_,rfl,f1.keep (s2.trans u3),f2.keep u3⟩,gh.trans u3,⟨[],Ag,.nil⟩,fun j hj=>absurd hj (by omega)⟩ ?_ ?_
 .rintro i Y H3 hi ⟨⟨x,y,v1,v2,v3,rfl,fx,fy⟩,sm,rD,gd⟩;obtain⟨l1,l2,l3,l4,_⟩:=Po.abp_lens lu ll hi;obtain⟨na,nb,oA,oB,kS⟩:=g.ov i hi gd;have qC:0<(Po.abp U L i).1.length:=by omega
  refine⟨_,rfl,_,rfl,_,rfl,i,x,y,_,_,na,nb,?_,fx,fy,qC,l1,oA,oB,kS,fun r4 H4 s4 k4=>?_⟩
  .rw[Int.zero_add];rfl
  replace k4:Pq H4 r4 (Po.qp U L i):=k4;refine⟨_,rfl,r4,_,_,rfl,k4,rfl,_,rfl,Cw (fun c1=>?_) (fun c1=>?_)⟩
  .have np:¬0<Po.qp U L i:=fun z=>by
    rw[ABy z]at c1;exact absurd c1 (by decide)
   refine⟨_,rfl,_,rfl,(by show 2<=sizeLine;decide),fun r hr'=>?_⟩;have u:=Aj hr' (.tup [.ref D,.int (0+(i:Int))]);obtain⟨xd,ed,_⟩:=(rD.keep (s4.trans u)).there;exact q r i _ _ (sm.trans (s4.trans u)) hi gd np (by rw[Ag,Int.zero_add])
  have np:0<Po.qp U L i:=by
   have es:sgn (Po.qp U L i).num=1:=by
    cases h:decide (V.int (sgn (Po.qp U L i).num)=V.int 1) with
    | true=>exact V.int.inj (of_decide_eq_true h)
    | false=>exact absurd (by rw[h];rfl) c1
   refine Rat.not_le.mp fun z=>?_;have h0:=Rat.num_nonneg.mpr (show 0<=-Po.qp U L i by grind);rw[Rat.neg_num]at h0;unfold sgn at es;rw[if_neg (by omega)]at es
   split at es<;>exact absurd es (by decide)
  have hL:=Po.qAt_pos np;obtain⟨jD,hxs,m4,um⟩:=rD.app s4 k4;rw[Io,ASa]at m4;refine⟨_,rfl,.inl ⟨rfl,_,SqL.of hxs⟩,_,rfl,D,jD,_,rfl,rfl,hxs,by omega,?_⟩;have uo:=(fx.keep s4).updD (ys:=jD++[.ref r4]) qC (rD.keep s4);have qD:=(fy.keep s4).updD (ys:=jD++[.ref r4]) l1 (rD.keep s4);have s5:Al H (upd H4 D (.lst (jD++[.ref r4]))):=CG (sm.trans s4) ul _;generalize upd H4 D (.lst (jD++[.ref r4]))=H5 at *;refine⟨_,rfl,_,rfl,x,y,_,_,na,nb,rfl,uo,qD,by omega,l1,l2,hL,oA,oB,kS,fun r6 H6 s6 f6=>?_⟩;refine⟨_,rfl,_,rfl,⟨y,r6,_,_,_,rfl,qD.keep s6,f6⟩,s5.trans s6,?_,fun j hj=>?_⟩
  .rw[ATF,ARU];exact um.keep s6
  .by_cases e:j=i
   .rw[e];exact np
   .exact gd j (by omega)
 .rintro Y H3 ⟨⟨x,y,v1,v2,v3,rfl,_,_⟩,sm,rD,gd⟩;refine⟨_,rfl,(by show 2<=sizeLine;decide),fun r hr'=>?_⟩;have u:=Aj hr' (.tup [.ref D,.non]);obtain⟨xd,ed,_⟩:=(rD.keep u).there;exact absurd (gd m hm) nm
theorem Lb:Ao ["upper","lower","told","steps"] ["upper","lower"] (Ae IW):=fsc
theorem R5{ah aq ak af ai ao ap:Addr}(F:FnX K "cord_with" "cord_with" IW f fd)(T:Txt mg)(R:Fw K mg ah aq ak af ai ao ap)(dI:DR P w K mg base "ladder" 5 ["upper","lower"] [] [] (Sw af))(ax:Us P w K mg base "NoCord" af 1 ["self","place"] (Fx af)):BR P w K mg base (CXd P w) 6 f fd ["upper","lower"] (Rn af):=by
 refine Cd F Lb fun vs H Q E h=>?_;obtain⟨u,l,U,L,rfl,ru,rl,nU,nL,qb,qm⟩:=h;refine⟨rfl,fun cdv A outer s hr=>?_⟩;refine⟨_,(Ac (pS 2 Lb.nd (Bg dI hr (Aa (pv 0) (Aa (pv 1) Ab))))
   (Ac (BP (Am ADP (ixT (pv 2) Ad) Gr (Av _))
    (Af (JX ax hr (Aa (ixT (pv 2) Ad) Ab)))
    Ar)
   Ku)),?_⟩
 refine⟨_,rfl,_,rfl,u,l,U,L,rfl,ru,rl,nU,nL,fun bad d H1 s1 ed=>qb bad d H1 s1 ed,fun nb=>?_⟩;obtain⟨n,m,g,⟨m1,m2,m3⟩,qe⟩:=qm nb;refine⟨n,m,g,m1,m2,m3,fun r i lq H1 s1 i1 i2 i3 er=>?_⟩;obtain rfl:i=m:=by
  rcases AVX i m with h|h|h
  .exact absurd (m2 i h) i3
  .exact h
  .exact absurd (i2 m h) m3
 refine⟨_,rfl,r,_,_,_,rfl,rfl,SqT.of er,rfl,rfl,_,rfl,Ga ?_⟩;exact⟨_,rfl,r,_,_,_,rfl,rfl,SqT.of er,rfl,by show 1<=sizeLine;decide,fun e he=>⟨e,.int i,rfl,Ag,fun d hd hde=>⟨rfl,some d,Ag,qe d _ (raised_one s1 he hd hde).1 (raised_one s1 he hd hde).2⟩⟩⟩
def AFz(gs ws:List Rat)(t:Rat):List Rat:=(List.range ws.length).map fun k=>(Po.stp gs ws t 0 1 k).1
theorem Kc(gs ws:List Rat)(t h0 l0:Rat):(Po.walkQ gs ws t h0 l0).length=gs.length:=by
 unfold Po.walkQ;rw[Io,ASa]
theorem AHs(aB:gs.length=ws.length+1):((Po.walkQ gs ws t 0 1).take ((Po.walkQ gs ws t 0 1).length-1)).map Prod.fst=AFz gs ws t:=by
 rw[Kc,aB,Nat.add_sub_cancel];unfold Po.walkQ AFz;rw[<-AT4,List.map_map,List.take_range,aB,AUH (by omega)];rfl
theorem Ze{α:Type}(f:α->V)(ps:List α):GK (ps.map f) none (some (-1))=(ps.take (ps.length-1)).map f:=by
 unfold GK;have e:HT.sIx (ps.map f).length (ps.map f).length (some (-1))=ps.length-1:=by
  show(if (-1:Int)<0 then((-1:Int)+((ps.map f).length:Int)).toNat else min (-1:Int).toNat (ps.map f).length)=_;rw[if_pos (by decide),Io];omega
 rw[HT.sIx_none,e,ASc,AVc,AT4]
theorem AAS(h:Paired (Tq HH) xs ys)(n:Nat):Paired (Tq HH) (xs.take n) (ys.take n):=by
 induction h generalizing n with
 | nil=>rw[AVQ,AVQ];exact .nil
 | cons x _ ih=>cases n with
  | zero=>exact .nil
  | succ n=>exact .cons x (ih n)
theorem AGh(er:H1 rs=some (.lst (ps.map V.ref)))(kr:Paired (Tq H1) ps qs)(hl:H1 l=none):Rp (upd H1 l (.lst (GK (ps.map V.ref) none (some (-1))))) l (qs.take (qs.length-1)):=by
 have lp:ps.length=qs.length:=AR1 kr;refine⟨ps.take (qs.length-1),by rw[Ag,Ze,lp],?_⟩;exact AAS (Tqs.keep kr (Aj hl _)) _
def Gx:Sp:=fun vs H Q _=>∃(a:Addr) (qs:List (Rat×Rat)),vs=[.ref a]/\Rp H a qs/\qs.length<=1000/\∀r H',Al H H'->H r=none->Rw H' r ((qs.take (qs.length-1)).map Prod.fst)->Q (.ref r) H'
theorem QQ:Ao ["steps"] ["steps"] (Ae Fv):=fsc
theorem QM(F:Fun K "heights_of" "heights_of" Fv f fd)(T:Txt mg):BR P w K mg base CX0 1 f fd ["steps"] Gx:=by
 refine F.okk QQ fun vs H Q E h=>?_;obtain⟨a,qs,rfl,rp,hz,q⟩:=h;walk_at "b";obtain⟨ps,er,kr⟩:=id rp;refine⟨_,(Af (Aq (Gp (N':=["step"]) (fsc:=Ae Fv) (N:=["steps"]) [] ⟨rfl,by decide +kernel,by decide +kernel,by decide +kernel,rfl,by decide +kernel,rfl,by decide +kernel⟩ (Dg (Cr JW (pv 0) Dr (DG (Hv Fi Ad)))) (fun _ _ _ _=>(ixT (pv 0) Ad))))),?_⟩;refine⟨_,rfl,_,rfl,_,rfl,a,_,rfl,SqL.of er,fun l hl=>?_⟩;have u:=Aj hl (.lst (GK (ps.map V.ref) none (some (-1))));have rl:=AGh er kr hl;obtain⟨xl,uq,_⟩:=rl.there;refine⟨l,rfl,⟨_,SqL.of uq⟩,ZK (by rw[ARc];omega) rl ?_ fun H3 D s3 nD rD=>q D H3 (u.trans s3) (u.free nD) rD⟩;intro _ _ _ _ r p q' HH R e fin;exact⟨_,rfl,r,_,_,_,rfl,rfl,SqT.of e,rfl,fin⟩
def hl(gs ws:List Rat)(t h0 l0:Rat):Nat->Rat×Rat
 | 0=>(h0,l0)
 | k+1=>Po.stp gs ws t h0 l0 k
theorem AAj(gy:∀j,j<=ws.length->Bq 2700 (Po.stp gs ws t 0 1 j).1/\Bq 2000 (Po.stp gs ws t 0 1 j).2)(hi:i<=ws.length+1):Bq 2700 (hl gs ws t 0 1 i).1/\Bq 2000 (hl gs ws t 0 1 i).2:=by
 cases i with
 | zero=>exact⟨Bq.zero (by decide),Bq.one (by decide)⟩
 | succ k=>exact gy k (by omega)
def KN(C:Addr):Sp:=fun vs H Q _=>∃(c ga wa tp:Addr) (gs ws:List Rat) (t:Rat),vs=[.ref c,.ref tp,.non,.non]/\Co C H c ga wa gs ws/\Pq H tp t/\gs.length=ws.length+1/\ws.length<=4/\(∀q∈gs,Bq 2071 q)/\(∀q∈ws,Bq 3288 q)/\Bq 100 t/\(∀j,j<=ws.length->Bq 2700 (Po.stp gs ws t 0 1 j).1/\Bq 2000 (Po.stp gs ws t 0 1 j).2) /\
 ∀r H',Al H H'->H r=none->Rp H' r (Po.walkQ gs ws t 0 1)->Q (.ref r) H'
theorem Wy{ps:List Addr}(h:(ps.map V.ref)[ps.length-1]?=some (.ref y)):atI (ps.map V.ref) (-1)=some (.ref y):=by
 rcases ATI ps with rfl|⟨L,z,rfl⟩
 .simp at h
 .have e:z=y:=by simpa using h
  rw[ATJ,ARU,e];exact U4 _ _
theorem ACF:∀{H:Hp} {ps:List Addr} {qs:List (Rat×Rat)} {i:Nat} {q:Rat×Rat},Tqs H ps qs->qs[i]?=some q->∃p,(ps.map V.ref)[i]?=some (.ref p)/\Tq H p q
 | _,_,_,0,_,.cons h _,e=>by cases e;exact⟨_,rfl,h⟩
 | _,_,_,_+1,_,.cons _ r,e=>by
  rw[ASP]at e;obtain⟨p,h1,h2⟩:=ACF r e;exact⟨p,by rw[ARm,ASP];exact h1,h2⟩
theorem Yj{H:Hp}{r:Addr}{gs ws:List Rat}{t:Rat}(hl:gs.length=ws.length+1)(h:Rp H r (Po.walkQ gs ws t 0 1)):∃(ps:List Addr) (y a b:Addr),H r=some (.lst (ps.map V.ref))/\atI (ps.map V.ref) (-1)=some (.ref y)/\H y=some (.tup [.ref a,.ref b])/\Pq H a (Po.stp gs ws t 0 1 ws.length).1/\Pq H b (Po.stp gs ws t 0 1 ws.length).2:=by
 obtain⟨ps,e,k⟩:=h;have lk:ps.length=(Po.walkQ gs ws t 0 1).length:=AR1 k;have lw:(Po.walkQ gs ws t 0 1).length=ws.length+1:=by
  unfold Po.walkQ;rw[Io,ASa,hl]
 have ex:(Po.walkQ gs ws t 0 1)[ws.length]?=some (Po.stp gs ws t 0 1 ws.length):=by
  unfold Po.walkQ;rw[ARQ,AUN (by omega)];rfl
 obtain⟨y,e1,a,b,e2,k1,k2⟩:=ACF k ex;refine⟨ps,y,a,b,e,Wy ?_,e2,k1,k2⟩;rw[show ps.length-1=ws.length by omega];exact e1
theorem De:Ao ["cord","t","height","lean","here","leaning","weights","steps","place","gap"] ["cord","t","height","lean"] (Ae FW):=fsc
theorem Za{dV:Value}(F:AFn K "walked" "walked" FW dV f fd)(T:Txt mg)(cu:Cal P w K mg base "plus" 2 ["one","other"] (Ht 8000 (·+·)))(cS:Cal P w K mg base "minus" 3 ["one","other"] (Ht 8000 (·-·)))(c7:Cal P w K mg base "times" 2 ["one","other"] (Ht 8000 (·*·)))
  (aO:MJ P w K mg base au "gaps" 1 ["self"] (KR au)) (aI:MJ P w K mg base au "weights" 1 ["self"] (Fy au)):BR P w K mg base CX0 4 f fd ["cord","t","height","lean"] (KN au):=by
 refine okD F De (fun vs H Q E h=>?_) (fun cdv A outer s H vs Q E hr h=>?_)
 .obtain⟨c,ga,wa,tp,gs,ws,t,rfl,_⟩:=h;rfl
 obtain⟨c,ga,wa,tp,gs,ws,t,rfl,co,kt,aB,aC,bg,bw,bt,gy,q⟩:=h;have hsz:(1000:Nat)<sizeLine:=by decide
 refine⟨_,(Ac (Wz (pS 4 De.nd (Hy (Am AAv (pv 2) Gr (Av _)) (CZ (Aa Ad (Aa Ad Ab))) (pv 2))))
   (Ac (Wz (pS 5 De.nd (Hy (Am AAv (pv 3) Gr (Av _)) (CZ (Aa Ad (Aa Ad Ab))) (pv 3))))
   (Ac (pS 6 De.nd (Iw aI hr (pv 0)))
   (Ac (pS 7 De.nd (Ff Ab))
   (Ac (J7 ASm rfl (ADT rfl T.z_enumerate (Aa (Iw aO hr (pv 0)) Ab)) (Ru rfl (FQ (gN 8 De.nd) (FQ (gN 9 De.nd) Ng)))
    (Ac (Wz (BP (Am HN (pv 8) Ad (Av _))
     (Af (pS 5 De.nd (BW cS hr (Aa (pv 5) (Aa (BW c7 hr (Aa (BW c7 hr (Aa (pv 1) (Aa (ixL (pv 6) (Ak Jw (pv 8) Ad)) Ab))) (Aa (pv 4) Ab))) Ab)))))
     Ar))
    (Ac (pS 4 De.nd (BW cu hr (Aa (pv 4) (Aa (BW c7 hr (Aa (pv 9) (Aa (pv 5) Ab))) Ab))))
    (Af (Dy (Eo ASB ASy ASz HS (pv 7) (Aa (CZ (Aa (pv 4) (Aa (pv 5) Ab))) Ab)))))))
   (Af (Aq (pv 7)))))))),?_⟩
 refine⟨fun zd H'=>(∃ph,zd=[some (.ref c),some (.ref tp),some .non,some .non,some (.ref ph),none,none,none,none,none]/\Pq H' ph 0)/\Al H H',?tl,?hd⟩
 case hd =>
  refine⟨_,rfl,rfl,_,rfl,?_⟩;exact Ly rfl ⟨(by show 2<=sizeLine;decide),fun p hp=>⟨⟨p,rfl,Pq.of Pr.new ⟨rfl,rfl⟩⟩,Aj hp _⟩⟩
 rintro _ H1 ⟨⟨ph,rfl,kh⟩,s1⟩;refine⟨fun zd H'=>(∃pl,zd=[some (.ref c),some (.ref tp),some .non,some .non,some (.ref ph),some (.ref pl),none,none,none,none]/\Pq H' pl 1)/\Al H1 H',?tl2,?hd2⟩
 case hd2 =>
  refine⟨_,rfl,rfl,_,rfl,?_⟩;exact Ly rfl ⟨(by show 2<=sizeLine;decide),fun p hp=>⟨⟨p,rfl,Pq.of Pr.new ⟨rfl,rfl⟩⟩,Aj hp _⟩⟩
 rintro _ H2 ⟨⟨pl,rfl,kl⟩,s2⟩;have m5:=co.keep (s1.trans s2);obtain⟨jz,e2⟩:=m5.1;refine⟨_,rfl,c,jz,_,rfl,e2,rfl,c,ga,wa,gs,ws,rfl,m5,fun dP H3 s3 n3 ⟨pw,ur,qE⟩=>?_⟩;refine⟨(by show 0<=sizeLine;decide),fun D hD=>?_⟩;have s5:=Aj hD (.lst []);have qF:=m5.keep (s3.trans s5);obtain⟨ut,e3⟩:=qF.1;refine⟨_,rfl,c,ut,_,rfl,e3,rfl,c,ga,wa,gs,ws,rfl,qF,fun rg H4 s4 n4 ⟨pg,qG,qH⟩=>⟨rg,rfl,⟨_,SqL.of qG⟩,?_⟩⟩;have m7:=s5.trans s4;have fu:=s1.trans (s2.trans s3);have uv:=kt.keep fu;have lg:=qH.length;have lw:=qE.length;have kP:H4 D=some (.lst []):=s4 _ _ Ag;have uw:rg≠D:=fun z=>by
  rw[z,Ag]at n4;cases n4
 refine ABW (xs:=pg.map V.ref) (fun i Y H'=>(∃(ph pl:Addr) (v u:Option V),Y=[some (.ref c),some (.ref tp),some .non,some .non,some (.ref ph),some (.ref pl),some (.ref dP),some (.ref D),v,u]/\Pq H' ph (hl gs ws t 0 1 i).1/\Pq H' pl (hl gs ws t 0 1 i).2)/\Al H3 H'/\H' rg=some (.lst (pg.map V.ref))/\Pqs H' pg gs/\Rp H' D ((List.range i).map (Po.stp gs ws t 0 1)))
  ⟨⟨ph,pl,_,_,rfl,kh.keep (s2.trans (s3.trans m7)),kl.keep (s3.trans m7)⟩,m7,qG,qH,⟨[],kP,.nil⟩⟩ ?_ ?_ ?_
 .rintro i Y H5 _ ⟨_,_,er,_⟩;exact SqL.of er
 .rintro i x Y H0 T0 hx ⟨⟨ph,pl,v,u,rfl,qI,qJ⟩,kQ,qK,m8,qL⟩ hT;have hi:i<gs.length:=by
   have h:=(ARO.mp hx).1;rw[Io]at h;omega
  obtain⟨p0,e0,qM⟩:=m8.get (AQ9 hi);obtain rfl:x=.ref p0:=ARK (hx.symm.trans e0);refine⟨T0,_,rfl,SqT.of Ag,rfl,_,_,rfl,_,_,rfl,rfl,?_⟩;have u0:=Aj hT (.tup [.int (0+(i:Int)),.ref p0]);have kh:=qI.keep u0;have kl:=qJ.keep u0;have sm:=kQ.trans u0;have er:=u0 _ _ qK;have kg:=m8.keep u0;have rp:=qL.keep u0;have uy:=qM.keep u0;clear qI qJ kQ qK m8 qL qM;generalize upd H0 T0 (.tup [.int (0+(i:Int)),.ref p0])=H5 at *;obtain⟨nc,uD⟩:=AAj gy (show i<=ws.length+1 by omega);have uE:=uv.keep sm;refine⟨fun zd H'=>(∃pl,zd=[some (.ref c),some (.ref tp),some .non,some .non,some (.ref ph),some (.ref pl),some (.ref dP),some (.ref D),some (.int (0+(i:Int))),some (.ref p0)]/\Pq H' pl (Po.stp gs ws t 0 1 i).2)/\Al H5 H',?tl3,?hd3⟩
  case hd3 =>
   walk_at "aq";cases i with
   | zero=>exact Hw (by decide) ⟨⟨pl,rfl,kl⟩,Al.refl _⟩
   | succ k =>
    have hk:k<ws.length:=by omega
    obtain⟨p9,e9,k9⟩:=qE.get (AQ9 hk);have ei:atI (pw.map V.ref) (0+((k+1:Nat):Int)-1)=some (.ref p9):=by
     rw[show(0:Int)+((k+1:Nat):Int)-1=(k:Int) by omega];exact Df e9
    have ng:=bw _ (ARS hk);have gw:ws.getD k 0=ws[k]:=by rw[ARV,AQ9 hk];rfl
    refine Ly (by omega) ?_;refine⟨_,rfl,_,rfl,_,rfl,_,rfl,_,_,rfl,rfl,dP,_,_,_,rfl,rfl,SqL.of (sm _ _ ur),ei,tp,p9,_,_,rfl,uE,k9.keep sm,bt.mono (by decide),ng.mono (by decide),fun r1 H6 s6 k6=>?_⟩;refine⟨_,rfl,r1,ph,_,_,rfl,k6,kh.keep s6,(bt.mul ng).mono (by decide),nc.mono (by decide),fun r2 H7 s7 k7=>?_⟩;refine⟨pl,r2,_,_,rfl,kl.keep (s6.trans s7),k7,uD.mono (by decide),((bt.mul ng).mul nc).mono (by decide),fun r3 H8 s8 k8=>⟨⟨r3,rfl,?_⟩,s6.trans (s7.trans s8)⟩⟩;show Pq H8 r3 ((Po.stp gs ws t 0 1 k).2-t*ws.getD k 0*(Po.stp gs ws t 0 1 k).1);rw[gw];exact k8
  rintro _ H6 ⟨⟨jE,rfl,qN⟩,s6⟩;have qO:=bg _ (ARS hi);have gg:gs.getD i 0=gs[i]:=by rw[ARV,AQ9 hi];rfl
  obtain⟨yr,bl2⟩:=AAj gy (show i+1<=ws.length+1 by omega);have jF:Bq 2000 (Po.stp gs ws t 0 1 i).2:=bl2;refine⟨_,rfl,_,rfl,_,rfl,p0,jE,_,_,rfl,uy.keep s6,qN,qO.mono (by decide),jF.mono (by decide),fun r1 H7 s7 k7=>?_⟩;refine⟨ph,r1,_,_,rfl,kh.keep (s6.trans s7),k7,nc.mono (by decide),(qO.mul jF).mono (by decide),fun r2 H8 s8 k8=>?_⟩;have es:(Po.stp gs ws t 0 1 i).1=(hl gs ws t 0 1 i).1+gs[i]*(Po.stp gs ws t 0 1 i).2:=by
   rw[<-gg];cases i with
   | zero=>rfl
   | succ k=>rfl
  replace k8:Pq H8 r2 (Po.stp gs ws t 0 1 i).1:=by rw[es];exact k8
  have qP:=qN.keep (s7.trans s8);obtain⟨x8,f8,_⟩:=(rp.keep (s6.trans (s7.trans s8))).there;refine⟨_,rfl,.inl ⟨rfl,_,SqL.of f8⟩,_,rfl,_,rfl,(by show 2<=sizeLine;decide),fun r3 uF=>?_⟩;have s9:=Aj uF (.tup [.ref r2,.ref jE]);have tq:Tq (upd H8 r3 (.tup [.ref r2,.ref jE])) r3 (Po.stp gs ws t 0 1 i):=⟨r2,jE,Ag,k8.keep s9,qP.keep s9⟩;have kW:=s6.trans (s7.trans (s8.trans s9));obtain⟨xs,hxs,m4,uG⟩:=rp.app kW tq;rw[Io,ASa]at m4;refine⟨D,xs,_,rfl,rfl,hxs,by omega,⟨r2,jE,_,_,rfl,?_,?_⟩,CG (sm.trans kW) hD _,?_,?_,?_⟩
  .exact(k8.keep s9).updL hxs
  .exact(qP.keep s9).updL hxs
  .rw[An uw];exact kW _ _ er
  .exact(kg.keep kW).updL hxs
  .rw[ATF,ARU];exact uG
 .rintro Y H5 ⟨⟨ph,pl,v,u,rfl,_,_⟩,sm,_,_,rp⟩;rw[Io,lg]at rp;exact⟨_,rfl,q D H5 (fu.trans sm) (fu.free hD) rp⟩
def ADf(gs ws:List Rat)(t:Rat):Prop:=gs.length=ws.length+1/\ws.length<=4/\(∀q∈gs,Bq 2071 q)/\(∀q∈ws,Bq 3288 q)/\Bq 100 t/\∀j,j<=ws.length->Bq 2500 (Po.stp gs ws t 0 1 j).1/\Bq 2000 (Po.stp gs ws t 0 1 j).2
def UG(gs ws:List Rat)(lo:Bool)(t:Rat):Rat:=if lo then(Po.stp gs ws t 0 1 ws.length).2 else(Po.stp gs ws t 0 1 ws.length).1
def O1(C cN:Addr):Sp:=fun vs H Q E=>∃(c ga wa tp:Addr) (gs ws:List Rat) (lo:Bool) (t:Rat),vs=[.ref c,.str (if lo then "loose" else "held"),.ref tp]/\Co C H c ga wa gs ws/\Pq H tp t/\ADf gs ws t/\(UG gs ws lo t≠0->∀H',Al H H'->E (.ref cN) none H')/\(UG gs ws lo t=0->∀r H',Al H H'->H r=none->Rw H' r (AFz gs ws t)->Q (.ref r) H')
theorem Sv:Ao ["cord","end","t","steps","last"] ["cord","end","t"] (Ae XJ):=fsc
theorem ADa{ah aq ak af ai ao ap:Addr}(F:FnX K "mode" "mode" XJ f fd)
  (T:Txt mg) (R:Fw K mg ah aq ak af ai ao ap) (cD:ABM P w K mg base "walked" 4 ["cord","t","height","lean"] [.none,.none] [.non,.non] (KN au)) (aS:Cal P w K mg base "side" 1 ["one"] Hm) (ck:Cal P w K mg base "heights_of" 1 ["steps"] Gx):BR P w K mg base (CXd P w) 5 f fd ["cord","end","t"] (O1 au ai):=by
 refine Cd F Sv fun vs H Q E h=>?_;obtain⟨c,ga,wa,tp,gs,ws,lo,t,rfl,co,kt,⟨aB,aC,bg,bw,bt,gy⟩,q0,q1⟩:=h;refine⟨rfl,fun cdv A outer s hr=>?_⟩;refine⟨_,(Ac (pS 3 Sv.nd (AAl cD hr (Aa (pv 0) (Aa (pv 2) Ab))))
   (Ac (pS 4 Sv.nd (Hy (Am Bs (pv 1) Ai (Av _)) (ixT (ixL (pv 3) (Hv Fi Ad)) Ad) (ixT (ixL (pv 3) (Hv Fi Ad)) Ad)))
   (Ac (BP (Am GC (BW aS hr (Aa (pv 4) Ab)) Ad (Av _))
    (Af (Bk R.m_NoWorth R.o_NoWorth (Aa Ai Ab)))
    Ar)
   (Af (Aq (BW ck hr (Aa (pv 3) Ab))))))),?_⟩
 refine⟨_,rfl,_,rfl,c,ga,wa,tp,gs,ws,t,rfl,co,kt,aB,aC,bg,bw,bt,fun j hj=>⟨(gy j hj).1.mono (by decide),(gy j hj).2⟩,fun rs H1 s1 n1 rp=>?_⟩;obtain⟨ps,y,a',b',er,ea,ey,ka,kb⟩:=Yj aB rp;have fin:UG gs ws lo t=0->∀E2,Gx [.ref rs] H1 Q E2:=fun z E2=>by
  refine⟨rs,_,rfl,rp,by rw[Kc];omega,fun r H2 s2 n2 r2=>q1 z r H2 (s1.trans s2) (s1.free n2) ?_⟩;rw[AHs aB]at r2;exact r2
 cases lo with
 | false =>
  refine⟨_,rfl,rfl,_,rfl,Ly rfl ?_⟩;walk_at "aB";refine⟨_,rfl,a',_,_,rfl,ka,rfl,_,rfl,Cw (fun c1=>?_) (fun c1=>?_)⟩
  .have ne:UG gs ws false t≠0:=fun z=>by
    have z':(Po.stp gs ws t 0 1 ws.length).1=0:=z;rw[z']at c1;exact absurd c1 (by decide)
   exact⟨(by show 1<=sizeLine;decide),q0 ne H1 s1⟩
  .have z:UG gs ws false t=0:=ATS fun z=>c1 (by
    have z0:¬(Po.stp gs ws t 0 1 ws.length).1=0:=z;rw[decide_eq_false (fun e=>z0 (ATc.mp (Ni.mp (V.int.inj e))))];rfl)
   exact⟨_,rfl,fin z E0⟩
 | true =>
  refine⟨_,rfl,rfl,_,rfl,Hw (by decide) ?_⟩;walk_at "aB";refine⟨_,rfl,b',_,_,rfl,kb,rfl,_,rfl,Cw (fun c1=>?_) (fun c1=>?_)⟩
  .have ne:UG gs ws true t≠0:=fun z=>by
    have z':(Po.stp gs ws t 0 1 ws.length).2=0:=z;rw[z']at c1;exact absurd c1 (by decide)
   exact⟨(by show 1<=sizeLine;decide),q0 ne H1 s1⟩
  .have z:UG gs ws true t=0:=ATS fun z=>c1 (by
    have z0:¬(Po.stp gs ws t 0 1 ws.length).2=0:=z;rw[decide_eq_false (fun e=>z0 (ATc.mp (Ni.mp (V.int.inj e))))];rfl)
   exact⟨_,rfl,fin z E0⟩
def DkM(C:Addr)(H:Hp)(aG:List (Key×V))(m:List Nat->Option (List Rat×List Rat)):Prop:=∀l,(m l=none->Dn aG (.inr (sx l):Key)=none)/\∀g,m l=some g->∃c ga wa,Dn aG (.inr (sx l):Key)=some (.ref c)/\Co C H c ga wa g.1 g.2
def Kw(CD C:Addr)(N:Nat)(H:Hp)(d ka:Addr)(m:List Nat->Option (List Rat×List Rat)):Prop:=∃dx aG,H d=some (.ins CD dx [("kept",.ref ka)])/\H ka=some (.dK aG)/\aG.length<=N/\DkM C H aG m
theorem DkM.keep(h:DkM C H aG m)(s:Al H H'):DkM C H' aG m:=fun l=>⟨(h l).1,fun g hg=>by
 obtain⟨c,ga,wa,e,co⟩:=(h l).2 g hg;exact⟨c,ga,wa,e,co.keep s⟩⟩
theorem Kw.keep(h:Kw CD C N H d ka m)(s:Al H H'):Kw CD C N H' d ka m:=by
 obtain⟨dx,aG,e1,e2,hl,dm⟩:=h;exact⟨dx,aG,s _ _ e1,s _ _ e2,hl,dm.keep s⟩
theorem Xn(h:Co C H c ga wa gs ws)(e:H ka=some (.dK aG)):Co C (upd H ka (.dK kvs')) c ga wa gs ws:=by
 obtain⟨⟨dx,ec⟩,⟨ps,ea,kp⟩,⟨qs,eb,kq⟩⟩:=h;have ne:∀{b:Addr} {o:HO},H b=some o->(∀k,o≠.dK k)->upd H ka (.dK kvs') b=some o:=fun {b o} q n=>by
  rw[An (fun z=>by rw[z,e]at q;exact n _ (ARK q).symm)];exact q
 have pq:∀{ps:List Addr} {qs:List Rat},Pqs H ps qs->Pqs (upd H ka (.dK kvs')) ps qs:=fun k=>by
  induction k with
  | nil=>exact .nil
  | cons x _ ih=>exact .cons (ne x fun k z=>(nomatch z)) ih
 exact⟨⟨dx,ne ec fun k z=>(nomatch z)⟩,⟨ps,ne ea fun k z=>(nomatch z),pq kp⟩,⟨qs,ne eb fun k z=>(nomatch z),pq kq⟩⟩
def rsv(m:List Nat->Option (List Rat×List Rat))(k:Str):Tg->Option Tg
 | .txt l=>if k="name" then(m l).map fun g=>.cord g.1 g.2 else some (.txt l)
 | x=>if k="name" then none else some x
def Vq(CD:Addr):Sp:=fun vs H Q _=>∃x dx,vs=[.ref x]/\H x=some (.ins CD dx [])/\∀ka,H ka=none->Q .non (upd (upd H ka (.dK [])) x (.ins CD dx [("kept",.ref ka)]))
def Ml(CD cN:Addr):Sp:=fun vs H Q E=>∃d dx ka aG l,vs=[.ref d,.str (sx l)]/\H d=some (.ins CD dx [("kept",.ref ka)])/\H ka=some (.dK aG)/\(∀c,Dn aG (.inr (sx l):Key)=some (.ref c)->Q (.ref c) H)/\(Dn aG (.inr (sx l):Key)=none->E (.ref cN) none H)/\((∃c,Dn aG (.inr (sx l):Key)=some (.ref c))\/Dn aG (.inr (sx l):Key)=none)
theorem TgD.re(h:TgD C D H v x)(n:H D'=none):TgD C D' H v x:=by
 cases x with
 | cord gs ws =>
  obtain⟨c,ga,wa,e,co,_,_⟩:=h;obtain⟨_,⟨ps,ea,_⟩,⟨qs,eb,_⟩⟩:=id co;exact⟨c,ga,wa,e,co,(fun z=>by rw[z,n]at ea;cases ea),(fun z=>by rw[z,n]at eb;cases eb)⟩
 | pols U L =>
  obtain⟨E,u,l,e,ed,⟨ps,ea,k1⟩,⟨qs,eb,k2⟩,_,_,_⟩:=h;exact⟨E,u,l,e,ed,⟨ps,ea,k1⟩,⟨qs,eb,k2⟩,(fun z=>by rw[z,n]at ed;cases ed),(fun z=>by rw[z,n]at ea;cases ea),(fun z=>by rw[z,n]at eb;cases eb)⟩
 | row qs =>
  obtain⟨r,e,⟨ps,ea,k1⟩,_⟩:=h;exact⟨r,e,⟨ps,ea,k1⟩,(fun z=>by rw[z,n]at ea;cases ea)⟩
 | _=>exact h
theorem Od{β:Type}{T:V->β->Prop}:∀{vs:List V} {bs:List (Option β)},Paired (fun v o=>∃x,o=some x/\T v x) vs bs->∃xs,bs=xs.map some/\Paired T vs xs
 | _,_,.nil=>⟨[],rfl,.nil⟩
 | _,_,.cons ⟨x,e,h⟩ t=>by
  obtain⟨xs,e2,p⟩:=Od t;exact⟨x::xs,by rw[e,e2];rfl,.cons h p⟩
def O3(K:W.Frag)(CD C cN:Addr):Sp:=fun vs H Q E=>∃(N:Nat) (d ka:Addr) (m:List Nat->Option (List Rat×List Rat)) (kp tl:Addr) (ks:List Str) (tvs:List V) (aK:List Tg),vs=[.ref d,.ref kp,.ref tl]/\Kw CD C N H d ka m/\SqT K H kp (ks.map V.str)/\H tl=some (.lst tvs)/\Paired (TgD C tl H) tvs aK/\ks.length=aK.length/\aK.length<=100/\(∀(i:Nat) x,ks[i]?=some ("name":Str)->aK[i]?=some x->∃l,x=.txt l) /\
 (∀aQ:List Tg,aQ.length=aK.length->(∀(i:Nat) k x,ks[i]?=some k->aK[i]?=some x->rsv m k x=aQ[i]?)->∀r vs' H',Al H H'->H r=none->H' r=some (.lst vs')->Paired (TgD C r H') vs' aQ->Q (.ref r) H') /\
 ((∃(i:Nat) (k:Str) (x:Tg),ks[i]?=some k/\aK[i]?=some x/\rsv m k x=none)->∀H',Al H H'->E (.ref cN) none H')
theorem Ti:Ao ["self"] ["self"] (Ae Iu):=fsc
theorem Ro(F:Fun K "__init__" "Desk.__init__" Iu f fd)(T:Txt mg)(O:Kg K mg av):BR P w K mg base CX0 1 f fd ["self"] (Vq av):=by
 refine F.okk Ti fun vs H Q E h=>?_;obtain⟨x,dx,rfl,ex,q⟩:=h;walk_at "b";refine⟨_,(Af (WM (pv 0) ABS rfl)),?_⟩;intro ka hka;have u:=Aj hka (.dK []);exact⟨_,rfl,x,av,dx,_,rfl,u _ _ ex,O.cl,O.n_kept,by decide,q ka hka⟩
theorem M9:Ao ["self","name"] ["self","name"] (Ae GJ):=fsc
theorem Nf{ah aq ak af ai ao ap:Addr}(F:FnX K "cord_by" "Desk.cord_by" GJ f fd)(T:Txt mg)(R:Fw K mg ah aq ak af ai ao ap)(O:Kg K mg av):BR P w K mg base (CXd P w) 1 f fd ["self","name"] (Ml av aq):=by
 refine Cd F M9 fun vs H Q E h=>?_;obtain⟨d,dx,ka,aG,l,rfl,e1,e2,q,qe,hor⟩:=h;refine⟨rfl,fun cdv A outer s hr=>?_⟩;refine⟨_,(Ac (BP (ABr (YW (hu1 hr) (pv 1) (Jp (pv 0) rfl)))
    (Af (Bk R.m_NoName R.o_NoName (Aa Ai Ab)))
    Ar)
   (Af (Aq (ACZ (hu1 hr) (Jp (pv 0) rfl) (pv 1) (fun _ _=>rfl))))),?_⟩
 refine⟨_,rfl,_,rfl,d,_,dx,_,_,rfl,e1,O.cl,O.n_kept,rfl,ka,_,rfl,Mu.k (k:=.inr (sx l)) e2,_,rfl,?_⟩;rcases hor with⟨c,ev⟩|ev
 .rw[ev];refine FZ ?_;exact⟨_,rfl,d,_,dx,_,_,rfl,e1,O.cl,O.n_kept,rfl,_,rfl,ka,_,rfl,by rw[<-ev];exact Mu.k (k:=.inr (sx l)) e2,q c ev⟩
 .rw[ev];exact Ga ⟨by show 1<=sizeLine;decide,qe ev⟩
theorem Jz:Ao ["self","kinds","things"] ["self","kinds","things"] (Ae DN):=fsc
theorem Jq(F:FnX K "with_cords" "Desk.with_cords" DN f fd)(T:Txt mg)(O:Kg K mg av)(bV:Qv P w K mg base av "cord_by" 1 ["self","name"] (Ml av aq)):BR P w K mg base (CXd P w) 2 f fd ["self","kinds","things"] (O3 K av au aq):=by
 refine Cd F Jz fun vs H Q E h=>?_;obtain⟨N,d,ka,m,kp,tl,ks,tvs,aK,rfl,⟨dx,aG,e1,e2,hl,dm⟩,hk,ht,pr,lk,few,nt,q,qe⟩:=h;walk_at "b";have lt:tvs.length=aK.length:=AR1 pr;refine⟨_,(Af (Aq (Qu (N':=["kind","thing","self"]) (fsc:=Ae DN) (N1:=["self","kinds","things"]) ["kind","thing"] [0] ⟨rfl,by decide +kernel,by decide +kernel,rfl,by decide +kernel,by decide +kernel⟩ (X5 rfl T.z_zip (Aa (pv 1) (Aa (pv 2) Ab))) (fun _ _ _ _=>(Rv (N':=["kind","thing","self"]) (i:=0) (j:=1) rfl (by decide +kernel) rfl rfl rfl rfl)) (fun _ _ _ _=>N6) (fun _ _ _ _ _ hpp=>(Hy (Am Bs (pv 0) Ai (Av _)) (ADw bV hr hpp (pv 2) (Aa (pv 1) Ab)) (pv 1)))))),?_⟩;refine⟨_,rfl,_,rfl,kp,tl,rfl,⟨_,hk⟩,⟨_,SqL.of ht⟩,RC (bs:=List.zipWith (rsv m) ks aK) (fun D H v o=>∃x,o=some x/\TgD au D H v x) aK.length (by omega) (by rw[Io,lk]) lt (by rw[AVD];omega) (fun⟨x,e,h⟩ s=>⟨x,e,h.keep s⟩) (fun⟨x,e,h⟩ z=>⟨x,e,h.put z⟩) (fun H' s'=>KY hk s') ht ?_ fun H4 r vs' s4 nr er uH=>?_⟩
 .intro zb zc C ex i k y o H' D zs R hk' hy ho sH nD eD fin;rw[ARQ]at hk';obtain⟨kind,hk2,rfl⟩:=ASY.mp hk';have hi:i<aK.length:=by
   have:=(ARO.mp hk2).1;omega
  have hx:aK[i]?=some aK[i]:=AQ9 hi;obtain⟨y',hy',ty⟩:=Hj pr hx;rw[hy]at hy';cases hy';have eo:o=rsv m kind aK[i]:=by
   rw[AU1,hk2,hx]at ho;exact(ARK ho).symm
  generalize aK[i]=x at *;refine⟨_,rfl,rfl,_,rfl,?_⟩;by_cases hn:kind="name"
  .obtain⟨l,rfl⟩:=nt i x (by rw[hk2,hn]) hx;have ey:y=.str (sx l):=ty;subst ey;have er:rsv m kind (.txt l)=(m l).map fun g=>.cord g.1 g.2:=by
    show(if kind=("name":Str) then(m l).map (fun g=>Tg.cord g.1 g.2) else some (.txt l))=_;rw[if_pos hn]
   refine HR hn ⟨_,rfl,d,dx,_,rfl,sH _ _ e1,rfl,_,rfl,d,dx,ka,aG,l,rfl,sH _ _ e1,sH _ _ e2,fun c hv=>?_,fun hv=>?_,?_⟩
   .cases hm:m l with
    | none =>
     rw[(dm l).1 hm]at hv;cases hv
    | some g =>
     obtain⟨c',ga,wa,ev,co⟩:=(dm l).2 g hm;rw[hv]at ev;cases ev;have tg:TgD au D H (.ref c) (.cord g.1 g.2):=by
      obtain⟨_,⟨ps,ea,_⟩,⟨qs,eb,_⟩⟩:=id co;exact⟨c,ga,wa,rfl,co,(fun z=>by rw[z,nD]at ea;cases ea),(fun z=>by rw[z,nD]at eb;cases eb)⟩
     exact fin _ H' (Al.refl _) ⟨.cord g.1 g.2,by rw[eo,er,hm];rfl,tg.keep sH⟩
   .cases hm:m l with
    | none=>exact qe ⟨i,kind,.txt l,hk2,hx,by rw[er,hm];rfl⟩ H' sH
    | some g =>
     obtain⟨c',ga,wa,ev,co⟩:=(dm l).2 g hm;rw[hv]at ev;cases ev
   .cases hm:m l with
    | none=>exact .inr ((dm l).1 hm)
    | some g =>
     obtain⟨c',ga,wa,ev,co⟩:=(dm l).2 g hm;exact .inl ⟨c',ev⟩
  .refine sne hn ⟨_,rfl,fin _ H' (Al.refl _) ⟨x,?_,(ty.re nD).keep sH⟩⟩;rw[eo];unfold rsv;cases x<;>simp[hn]
 .obtain⟨aQ,eb,pt⟩:=Od uH;have lb:aQ.length=aK.length:=by
   have:=congrArg List.length eb;rw[AVD,Io]at this;omega
  refine q aQ lb (fun i k x h1 h2=>?_) r vs' H4 s4 nr er pt;have h3:(List.zipWith (rsv m) ks aK)[i]?=some (rsv m k x):=by rw[AU1,h1,h2]
  rw[eb,ARQ]at h3;cases h4:aQ[i]? with
  | none=>rw[h4]at h3;cases h3
  | some z=>rw[h4]at h3;exact(ARK h3).symm
inductive Out where
 | cord (gs ws:List Rat)
 | text (l:List Nat)
 | bead
 | nocord (p:Option Nat)
 | worth
def AGc:Option Nat->V
 | none=>.non
 | some m=>.int m
inductive MkR:Str->List Tg->Out->Prop
 | cord {x:Tg} {gs ws:List Rat}:MkR "cord" [x,.cord gs ws] (.cord gs ws)
 | heavB {x:Tg} {gs ws:List Rat} {n:Int} {q:Rat}:(n<1\/(ws.length:Int)<n)->MkR "heavier" [x,.cord gs ws,.whl n,.frac q] .bead
 | heavC {x:Tg} {gs ws:List Rat} {n:Int} {q:Rat}:¬(n<1\/(ws.length:Int)<n)->¬0<q->MkR "heavier" [x,.cord gs ws,.whl n,.frac q] (.nocord none)
 | longB {x:Tg} {gs ws:List Rat} {n:Int} {q:Rat}:(n<0\/(ws.length:Int)<n)->MkR "longer" [x,.cord gs ws,.whl n,.frac q] .bead
 | longC {x:Tg} {gs ws:List Rat} {n:Int} {q:Rat}:¬(n<0\/(ws.length:Int)<n)->¬0<q->MkR "longer" [x,.cord gs ws,.whl n,.frac q] (.nocord none)
 | findB {x:Tg} {U L:List Rat}:(Po.strip U).length<=100->(Po.strip L).length<=100->Eh (Po.strip U) (Po.strip L)->MkR "find" [x,.pols U L] (.nocord none)
 | findM {x:Tg} {U L:List Rat} {n m:Nat}:(Po.strip U).length<=100->(Po.strip L).length<=100->¬Eh (Po.strip U) (Po.strip L)->Vs (Po.strip U) (Po.strip L) n->Uy (Po.strip U) (Po.strip L) n m->MkR "find" [x,.pols U L] (.nocord (some m))
 | even {x:Tg} {q:Rat} {qs:List Rat}:qs.length<=12->(∀y∈qs,Bq 4000 y)->(SX 0 qs=false\/¬0<q)->MkR "even" [x,.row (q::qs)] .worth
inductive AnR:Str->List Tg->Out->Prop
 | shown {gs ws:List Rat}:C30 gs ws->AnR "show" [.cord gs ws] (.text (jn 32 (Bu gs ws)))
 | span {gs ws:List Rat} {e:List Nat} {n:Int} {h:Nat}:(n<1\/(ws.length:Int)<n)->AnR "span" [.cord gs ws,.wrd e,.whl n,.hlv h] .worth
 | mode {gs ws:List Rat} {t:Rat}:ADf gs ws t->UG gs ws false t≠0->AnR "mode" [.cord gs ws,.wrd [104,101,108,100],.frac t] .worth
def Ends(C cN cB cW:Addr)(H:Hp)(Q:VK)(E:XK):Out->Prop
 | .cord gs ws=>∀c ga wa H',Al H H'->Co C H' c ga wa gs ws->Q (.ref c) H'
 | .text l=>∀H',Al H H'->Q (.str (sx l)) H'
 | .bead=>∀H',Al H H'->E (.ref cB) none H'
 | .nocord p=>∀d H',Al H H'->H' d=some (.xd [("place",AGc p)])->E (.ref cN) (some d) H'
 | .worth=>∀H',Al H H'->E (.ref cW) none H'
def MF(C cN cB cW:Addr):Sp:=fun vs H Q E=>∃deed L tvs aK o,vs=[.str deed,.ref L]/\H L=some (.lst tvs)/\Paired (TgD C L H) tvs aK/\MkR deed aK o/\Ends C cN cB cW H Q E o
def IV(C cN cB cW:Addr):Sp:=fun vs H Q E=>∃deed L tvs aK o,vs=[.str deed,.ref L]/\H L=some (.lst tvs)/\Paired (TgD C L H) tvs aK/\AnR deed aK o/\Ends C cN cB cW H Q E o
theorem ADb:Ao ["deed","things"] ["deed","things"] (Ae WP):=fsc
theorem ADJ{af ak ai:Addr}(F:FnX K "made" "made" WP f fd)(T:Txt mg)(dh:DR P w K mg base "heavier" 6 ["cord","bead","more"] [] [] (Hu 1 au af ak))(dJ:DR P w K mg base "longer" 6 ["cord","gap","more"] [] [] (Hu 0 au af ak))(cF:DR P w K mg base "cord_with" 6 ["upper","lower"] [] [] (Rn af))(eP:DR P w K mg base "even" 3 ["helds","length"] [] [] (Tv ai)):BR P w K mg base (CXd P w) 7 f fd ["deed","things"] (MF au af ak ai):=by
 refine Cd F ADb fun vs H Q E h=>?_;obtain⟨deed,L,tvs,aK,o,rfl,eL,pr,mk,q⟩:=h;refine⟨rfl,fun cdv A outer s hr=>?_⟩;refine⟨_,(Ac (BP (Am Bs (pv 0) Ai (Av _))
    (Af GX)
    Ar)
   (Ac (BP (Am Bs (pv 0) Ai (Av _))
    (Af GX)
    Ar)
   (Ac (BP (Am Bs (pv 0) Ai (Av _))
    (Af (Aq (Bg dh hr (Aa (ixL (pv 1) Ad) (Aa (ixL (pv 1) Ad) (Aa (ixL (pv 1) Ad) Ab))))))
    Ar)
   (Ac (BP (Am Bs (pv 0) Ai (Av _))
    (Af (Aq (Bg dJ hr (Aa (ixL (pv 1) Ad) (Aa (ixL (pv 1) Ad) (Aa (ixL (pv 1) Ad) Ab))))))
    Ar)
   (Ac (BP (Am Bs (pv 0) Ai (Av _))
    (Af (Aq (Bg cF hr (Aa (ixL (ixL (pv 1) Ad) Ad) (Aa (ixL (ixL (pv 1) Ad) Ad) Ab)))))
    Ar)
   (Ac (BP (Am Bs (pv 0) Ai (Av _))
    (Af (Aq (Bg eP hr (Aa (Cr JW (ixL (pv 1) Ad) (DG Ad) Dr) (Aa (ixL (ixL (pv 1) Ad) Ad) Ab)))))
    Ar)
   (Af (Aq (ixL (pv 1) Ad))))))))),?_⟩
 have chg:∀{lo:Int} {x:Tg} {gs ws:List Rat} {n:Int} {y:Rat},Paired (TgD au L H) tvs [x,.cord gs ws,.whl n,.frac y]->((n<lo\/(ws.length:Int)<n)->∀H',Al H H'->E (.ref ak) none H')->(¬(n<lo\/(ws.length:Int)<n)->¬0<y/\∀d H',Al H H'->H' d=some (.xd [("place",.non)])->E (.ref af) (some d) H')->∃a c p,tvs=[a,.ref c,.int n,.ref p]/\Hu lo au af ak [.ref c,.int n,.ref p] H Q E:=fun {lo x gs ws n y} pr h1 h2=>by
  cases pr with
  | cons t0 pr=>cases pr with
   | cons t1 pr=>cases pr with
    | cons t2 pr=>cases pr with
     | cons t3 pr =>
      cases pr;obtain⟨c,ga,wa,rfl,co,_,_⟩:=t1;obtain rfl:=(show _=V.int n from t2);obtain⟨p,rfl,kp⟩:=t3;exact⟨_,c,p,rfl,c,ga,wa,gs,ws,n,p,y,rfl,co,kp,h1,fun a b=>h2 (by omega)⟩
 have qQ:∀{x:Tg} {U L':List Rat},Paired (TgD au L H) tvs [x,.pols U L']->∃a D u l,tvs=[a,.ref D]/\H D=some (.lst [.ref u,.ref l])/\Rw H u (Po.strip U)/\Rw H l (Po.strip L'):=fun {x U L'} pr=>by
  cases pr with
  | cons t0 pr=>cases pr with
   | cons t1 pr =>
    cases pr;obtain⟨D,u,l,rfl,ed,r1,r2,_⟩:=t1;exact⟨_,D,u,l,rfl,ed,r1,r2⟩
 cases mk with
 | cord =>
  cases pr with
  | cons t0 pr=>cases pr with
   | cons t1 pr =>
    cases pr;obtain⟨c,ga,wa,rfl,co,_,_⟩:=t1
    iterate 6 refine⟨_,rfl,rfl,_,rfl,sne (by decide) ?_⟩
    exact⟨_,rfl,L,_,_,_,rfl,rfl,SqL.of eL,rfl,q c ga wa H (Al.refl _) co⟩
 | heavB h =>
  obtain⟨a,c,p,rfl,z⟩:=chg pr (fun _=>q) (fun n=>absurd h n)
  iterate 2 refine⟨_,rfl,rfl,_,rfl,sne (by decide) ?_⟩
  walk_at "f"
 | heavC h np =>
  obtain⟨a,c,p,rfl,z⟩:=chg pr (fun n=>absurd n h) (fun _=>⟨np,q⟩)
  iterate 2 refine⟨_,rfl,rfl,_,rfl,sne (by decide) ?_⟩
  walk_at "f"
 | longB h =>
  obtain⟨a,c,p,rfl,z⟩:=chg pr (fun _=>q) (fun n=>absurd h n)
  iterate 3 refine⟨_,rfl,rfl,_,rfl,sne (by decide) ?_⟩
  walk_at "f"
 | longC h np =>
  obtain⟨a,c,p,rfl,z⟩:=chg pr (fun n=>absurd n h) (fun _=>⟨np,q⟩)
  iterate 3 refine⟨_,rfl,rfl,_,rfl,sne (by decide) ?_⟩
  walk_at "f"
 | findB l1 l2 bad =>
  obtain⟨a,D,u,l,rfl,ed,r1,r2⟩:=qQ pr
  iterate 4 refine⟨_,rfl,rfl,_,rfl,sne (by decide) ?_⟩
  walk_at "g";exact⟨_,rfl,L,_,_,_,rfl,rfl,SqL.of eL,rfl,D,_,_,_,rfl,rfl,SqL.of ed,rfl,_,rfl,L,_,_,_,rfl,rfl,SqL.of eL,rfl,D,_,_,_,rfl,rfl,SqL.of ed,rfl,u,l,_,_,rfl,r1,r2,l1,l2,fun _=>q,fun nb=>absurd bad nb⟩
 | findM l1 l2 nb g lm =>
  obtain⟨a,D,u,l,rfl,ed,r1,r2⟩:=qQ pr
  iterate 4 refine⟨_,rfl,rfl,_,rfl,sne (by decide) ?_⟩
  walk_at "g";exact⟨_,rfl,L,_,_,_,rfl,rfl,SqL.of eL,rfl,D,_,_,_,rfl,rfl,SqL.of ed,rfl,_,rfl,L,_,_,_,rfl,rfl,SqL.of eL,rfl,D,_,_,_,rfl,rfl,SqL.of ed,rfl,u,l,_,_,rfl,r1,r2,l1,l2,fun bad=>absurd bad nb,fun _=>⟨_,_,g,lm,q⟩⟩
 | @even x y ys qB bq hb =>
  cases pr with
  | cons t0 pr=>cases pr with
   | cons t1 pr =>
    cases pr;obtain⟨r,rfl,⟨ps,er,k⟩,_⟩:=t1;cases k with
    | @cons p _ ps _ k0 k =>
     iterate 5 refine⟨_,rfl,rfl,_,rfl,sne (by decide) ?_⟩
     refine⟨_,rfl,rfl,_,rfl,HR rfl ?_⟩;refine⟨_,rfl,L,_,_,_,rfl,rfl,SqL.of eL,rfl,_,rfl,r,_,rfl,SqL.of er,fun t ht=>?_⟩;have u:=Aj ht (.lst (GK ((p::ps).map V.ref) (some 1) none));have et:upd H t (.lst (GK ((p::ps).map V.ref) (some 1) none)) t=some (.lst (ps.map V.ref)):=by
      rw[Ag];exact congrArg (fun z=>some (HO.lst z)) (Kv V.ref (p::ps) 1)
     exact⟨_,rfl,L,_,_,_,rfl,rfl,SqL.of (u _ _ eL),rfl,r,_,_,_,rfl,rfl,SqL.of (u _ _ er),Df (j:=0) rfl,t,p,ys,y,rfl,⟨ps,et,Pqs.keep k u⟩,Pq.keep k0 u,qB,bq,hb,fun H' s'=>q H' (u.trans s')⟩
theorem Zd:Ao ["deed","things"] ["deed","things"] (Ae Og):=fsc
theorem Yx{af ak ai:Addr}(F:FnX K "answer" "answer" Og f fd)(T:Txt mg)(cH:Cal P w K mg base "show_cord" 2 ["cord"] (Ol au))(cm:Cal P w K mg base "show_row" 2 ["row"] UT)(eQ:DR P w K mg base "span" 2 ["cord","end","k","halvings"] [] [] (Lh au ai))(eR:DR P w K mg base "mode" 5 ["cord","end","t"] [] [] (O1 au ai)):BR P w K mg base (CXd P w) 6 f fd ["deed","things"] (IV au af ak ai):=by
 refine Cd F Zd fun vs H Q E h=>?_;obtain⟨deed,L,tvs,aK,o,rfl,eL,pr,an,q⟩:=h;refine⟨rfl,fun cdv A outer s hr=>?_⟩;refine⟨_,(Ac (BP (Am Bs (pv 0) Ai (Av _))
    (Af (Aq (BW cH hr (Aa (ixL (pv 1) Ad) Ab))))
    Ar)
   (Ac (BP (Am Bs (pv 0) Ai (Av _))
    (Af GX)
    Ar)
   (Ac (BP (Am Bs (pv 0) Ai (Av _))
    (Af GX)
    Ar)
   (Ac (BP (Am Bs (pv 0) Ai (Av _))
    (Af (Aq (BW cm hr (Aa (Cu EY rfl T.z_list boot_list (Aa (Bg eQ hr (Aa (ixL (pv 1) Ad) (Aa (ixL (pv 1) Ad) (Aa (ixL (pv 1) Ad) (Aa (ixL (pv 1) Ad) Ab))))) Ab)) Ab))))
    Ar)
   (Ac (BP (Am Bs (pv 0) Ai (Av _))
    (Af (Aq (BW cm hr (Aa (Bg eR hr (Aa (ixL (pv 1) Ad) (Aa (ixL (pv 1) Ad) (Aa (ixL (pv 1) Ad) Ab)))) Ab))))
    Ar)
   (Af GX)))))),?_⟩
 cases an with
 | @shown gs ws dG =>
  cases pr with
  | cons t0 pr =>
   walk_at "aW";walk_at "g";exact⟨_,rfl,L,_,_,_,rfl,rfl,SqL.of eL,rfl,c,ga,wa,gs,ws,rfl,co,dG,fun H' s'=>q H' s'⟩
 | @span gs ws e n h hn =>
  cases pr with
  | cons t0 pr=>cases pr with
   | cons t1 pr=>cases pr with
    | cons t2 pr=>cases pr with
     | cons t3 pr =>
      walk_at "aW";obtain rfl:=(show _=V.int n from t2)
      iterate 3 refine⟨_,rfl,rfl,_,rfl,sne (by decide) ?_⟩
      walk_at "g";exact⟨_,rfl,L,_,_,_,rfl,rfl,SqL.of eL,rfl,_,rfl,L,_,_,_,rfl,rfl,SqL.of eL,rfl,_,rfl,L,_,_,_,rfl,rfl,SqL.of eL,rfl,_,rfl,L,_,_,_,rfl,rfl,SqL.of eL,rfl,c,ga,wa,gs,ws,_,_,n,rfl,co,hn,q⟩
 | @mode gs ws t md ne =>
  cases pr with
  | cons t0 pr=>cases pr with
   | cons t1 pr=>cases pr with
    | cons t2 pr =>
     walk_at "aW";obtain rfl:=(show _=V.str (sx [104,101,108,100]) from t1);obtain⟨p,rfl,kp⟩:=t2
     iterate 4 refine⟨_,rfl,rfl,_,rfl,sne (by decide) ?_⟩
     walk_at "g";exact⟨_,rfl,L,_,_,_,rfl,rfl,SqL.of eL,rfl,_,rfl,L,_,_,_,rfl,rfl,SqL.of eL,rfl,_,rfl,L,_,_,_,rfl,rfl,SqL.of eL,rfl,c,ga,wa,p,gs,ws,false,t,rfl,co,kp,md,fun _=>q,fun z=>absurd z ne⟩
def Sk(ka:Addr)(H H':Hp):Prop:=∀b o,b≠ka->H b=some o->H' b=some o
def YT(m:List Nat->Option (List Rat×List Rat))(l:List Nat)(g:Option (List Rat×List Rat)):List Nat->Option (List Rat×List Rat):=fun x=>if x=l then g else m x
theorem ADG(aG:List (Key×V))(k:Key)(v:V):(Ig aG k v).length<=aG.length+1:=by
 unfold Ig
 split
 .rw[Io];omega
 .rw[ARG,ARn];omega
theorem DkM.put{g:List Rat×List Rat}(h:DkM C H aG m)(e:H ka=some (.dK aG))(co:Co C H c ga wa g.1 g.2)(hk:kvs'=Ig aG (.inr (sx l)) (.ref c)):DkM C (upd H ka (.dK kvs')) kvs' (YT m l (some g)):=by
 intro x;unfold YT;rw[hk,AB4];by_cases hx:x=l
 .rw[if_pos hx,if_pos (by rw[hx])];exact⟨fun z=>(nomatch z),fun g' hg=>by
   cases hg;exact⟨c,ga,wa,rfl,Xn co e⟩⟩
 .rw[if_neg hx,if_neg (fun z=>hx (Ex (AU7 z)))];exact⟨(h x).1,fun g' hg=>by
   obtain⟨c',i0,i4,ev,uI⟩:=(h x).2 g' hg;exact⟨c',i0,i4,ev,Xn uI e⟩⟩
def Rsv(m:List Nat->Option (List Rat×List Rat))(row:List Str)(aK aQ:List Tg):Prop:=aQ.length=aK.length/\∀(i:Nat) k x,row[i]?=some k->aK[i]?=some x->rsv m k x=aQ[i]?
theorem Rsv.uniq(hl:row.length=aK.length)(h:Rsv m row aK a)(g:Rsv m row aK b):a=b:=by
 refine ATn fun i=>?_;by_cases hi:i<aK.length
 .have h1:row[i]?=some (row[i]'(by omega)):=AQ9 (by omega);have h2:aK[i]?=some aK[i]:=AQ9 hi;rw[<-h.2 i _ _ h1 h2,<-g.2 i _ _ h1 h2]
 .rw[AR9 (by rw[h.1];omega),AR9 (by rw[g.1];omega)]
theorem Rsv.some(h:Rsv m row aK a):¬∃(i:Nat) (k:Str) (x:Tg),row[i]?=some k/\aK[i]?=some x/\rsv m k x=none:=fun⟨i,k,x,h1,h2,h3⟩=>by
 have e:=h.2 i k x h1 h2;have hi:=(ARO.mp h2).1;rw[h3,AQ9 (by rw[h.1];exact hi)]at e;cases e
theorem Lj.nt{l dl:List Nat}(td:Lj l dl row init aH aK)(i:Nat)(x:Tg)(h1:row[i]?=some ("name":Str))(h2:aK[i]?=some x):∃l,x=.txt l:=by
 have hi:=(ARO.mp h1).1;have aB:=td.len;have h3:(init++[jn 32 aH])[i]?=some ((init++[jn 32 aH])[i]'(by rw[ARG,ARn];omega)):=AQ9 _;exact⟨_,(RdT.nm (.inr rfl) (td.rd i _ _ x h1 h3 h2)).1⟩
theorem Ends.mono(h:Ends C cN cB cW H Q E o)(s:Al H H2):Ends C cN cB cW H2 Q E o:=by
 cases o with
 | cord gs ws=>exact fun c ga wa H' s' co=>h c ga wa H' (s.trans s') co
 | text l=>exact fun H' s'=>h H' (s.trans s')
 | bead=>exact fun H' s'=>h H' (s.trans s')
 | nocord p=>exact fun d H' s' e=>h d H' (s.trans s') e
 | worth=>exact fun H' s'=>h H' (s.trans s')
def APG(K:W.Frag)(CD C cT cM cN cB cW:Addr)(N:Nat)(d ka:Addr)(m:List Nat->Option (List Rat×List Rat))(v:V)(H:Hp)(Q:VK)(E:XK):Prop :=
 (Uj K H v/\E (.ref cT) none H)\/∃l,v=.str (sx l)/\(∀c∈l,c<128)/\l.length<=900 /\
  (((∀dl row init aH aK,¬Lj l dl row init aH aK)/\∀H',Al H H'->E (.ref cT) none H') \/
    ∃dl row init aH aK,Lj l dl row init aH aK /\
   (((∃(i:Nat) (k:Str) (x:Tg),row[i]?=some k/\aK[i]?=some x/\rsv m k x=none)/\∀H',Al H H'->E (.ref cM) none H') \/
     ∃aQ o,Rsv m row aK aQ/\sx dl≠"drop" /\
    ((("new":Str)∈row/\MkR (sx dl) aQ o/\∃n0 Bj,aK=.txt n0::Bj/\(∀gs ws,o=.cord gs ws->∀H',Sk ka H H'->Kw CD C (N+1) H' d ka (YT m n0 (some (gs,ws)))->Q (.str "ok") H')/\((∀gs ws,o≠.cord gs ws)->Ends C cN cB cW H Q E o)) \/
      (("new":Str)∉row/\AnR (sx dl) aQ o/\Ends C cN cB cW H Q E o))))
def HW(K:W.Frag)(CD C cT cM cN cB cW:Addr):Sp:=fun vs H Q E=>∃(N:Nat) (d ka:Addr) (m:List Nat->Option (List Rat×List Rat)) (v:V),vs=[.ref d,v]/\Kw CD C N H d ka m/\N<1000/\APG K CD C cT cM cN cB cW N d ka m v H Q E
theorem ACv(row:List Str):inV (.str "new") (row.map V.str)=decide (("new":Str)∈row):=Xy "new" row
theorem Dt:Ao ["self","row","order","deed","told","things","cord"] ["self","row"] (Ae Jm):=fsc
theorem Vz{ah aq ak af ai:Addr}(F:FnX K "say" "Desk.say" Jm f fd)(T:Txt mg)(O:Kg K mg av)(cJ:DR P w K mg base "read_told" 8 ["row"] [] [] (PQ K au ah))(cr:Cal P w K mg base "kinds_of" 1 ["deed"] (Uu K))(bx:Qv P w K mg base av "with_cords" 2 ["self","kinds","things"] (O3 K av au aq))(eV:DR P w K mg base "made" 7 ["deed","things"] [] [] (MF au af ak ai))(dL:DR P w K mg base "answer" 6 ["deed","things"] [] [] (IV au af ak ai)):BR P w K mg base (CXd P w) 9 f fd ["self","row"] (HW K av au ah aq af ak ai):=by
 refine Cd F Dt fun vs H Q E h=>?_;obtain⟨N,d,ka,m,v,rfl,qR,hN,h⟩:=h;walk_at "b";walk_at "a"
 refine⟨_,(Ac (pS 2 Dt.nd (Bg cJ hr (Aa (pv 1) Ab)))
   (Ac (pS 3 Dt.nd (ixT (pv 2) Ad))
   (Ac (pS 4 Dt.nd (ixT (pv 2) Ad))
   (Ac (pS 5 Dt.nd (ADw bx hr QB (pv 0) (Aa (BW cr hr (Aa (pv 3) Ab)) (Aa (pv 4) Ab))))
   (Ac (BP (Am Bs (pv 3) Ai (Av _))
    (Ac (Dy (AAP (Jp (pv 0) rfl) (ixL (pv 4) Ad) ⟨rfl,rfl,rfl,rfl⟩))
    (Af (Aq Ai)))
    Ar)
   (Ac (BP (Am Yi Ai (BW cr hr (Aa (pv 3) Ab)) (by with_unfolding_all rfl))
    (Ac (pS 6 Dt.nd (Bg eV hr (Aa (pv 3) (Aa (pv 5) Ab))))
    (Ac (ACk (hu1 hr) (Jp (pv 0) rfl) (ixL (pv 4) Ad) (pv 6) rfl)
    (Af (Aq Ai))))
    Ar)
   (Af (Aq (Bg dL hr (Aa (pv 3) (Aa (pv 5) Ab))))))))))),?_⟩
 refine⟨_,rfl,v,rfl,?_⟩;rcases h with⟨nt,e⟩|⟨l,rfl,ha,l9,h⟩
 .exact .inl ⟨nt,e⟩
 refine .inr ⟨l,rfl,ha,l9,fun dl row init aH aK td r L tvs H1 s1 er nL eL pr=>?_,fun no H' s'=>?_⟩
 case refine_2 =>
  rcases h with⟨_,e⟩|⟨dl,row,init,aH,aK,td,_⟩
  .exact e H' s'
  .exact absurd td (no _ _ _ _ _)
 rcases h with⟨no,_⟩|⟨fP,cU,cV,b9,aQ,qS,hout⟩
 .exact absurd td (no _ _ _ _ _)
 obtain⟨rfl,rfl,rfl,rfl,rfl⟩:=td.uniq qS;clear qS;have lth:=td.lth;have few:=(Ko td.form).1.2;refine⟨_,rfl,r,_,_,_,rfl,rfl,SqT.of er,rfl,?_⟩;refine⟨_,rfl,r,_,_,_,rfl,rfl,SqT.of er,rfl,?_⟩;have nh:=qR.keep s1;obtain⟨dx,_,e1,_⟩:=id nh;refine⟨_,rfl,d,dx,_,rfl,e1,rfl,_,rfl,sx dl,row,rfl,td.form,fun kp hkp=>⟨_,rfl,N,d,ka,m,kp,L,row,tvs,aK,rfl,nh,hkp,eL,pr,lth.symm,by omega,td.nt,fun a hla hra r' vs' H2 s2 yt qT qU=>?_,fun hex H2 s2=>?_⟩⟩
 case refine_2 =>
  rcases hout with⟨_,hE⟩|⟨aQ,o,hr',_⟩
  .exact hE H2 (s1.trans s2)
  .exact absurd hex hr'.some
 clear e1 nh hkp kp;have gh:=s1.trans s2;obtain⟨dx,aG,e1,e2,hl,dm⟩:=qR.keep gh;have ni:=s2 _ _ eL;have jd:∀{H3:Hp} {o:HO},Al H2 H3->Sk ka H (upd H3 ka o):=fun {H3 o} s3 b ob nb eb=>by
  rw[An nb];exact s3 _ _ (gh _ _ eb)
 rcases hout with⟨hex,_⟩|⟨aQ,o,hr',hd,hout⟩
 .exact absurd hex (Rsv.some ⟨hla,hra⟩)
 obtain rfl:aQ=a:=hr'.uniq lth.symm ⟨hla,hra⟩;refine⟨_,rfl,rfl,_,rfl,sne hd ?_⟩;refine⟨_,rfl,sx dl,row,rfl,td.form,fun uJ nj=>⟨uJ,_,rfl,.inr nj,rfl,Qx row,_,rfl,?_⟩⟩;rw[ACv];rcases hout with⟨aL,mk,n0,Bj,rfl,q,qn⟩|⟨aL,an,q⟩
 .cases pr with
  | cons t0 pr =>
   obtain rfl:=(show _=V.str (sx n0) from t0);rw[decide_eq_true aL];refine Ga ?_;refine⟨_,rfl,_,rfl,sx dl,r',vs',aQ,o,rfl,qT,qU,mk,?_⟩;cases o with
   | cord gs ws =>
    intro c ga wa H3 s3 co;have nu:=s3 _ _ e1;have nv:=s3 _ _ e2;refine⟨_,rfl,_,rfl,d,_,dx,_,_,rfl,nu,O.cl,O.n_kept,rfl,_,rfl,L,_,_,_,rfl,rfl,SqL.of (s3 _ _ ni),Df (j:=0) rfl,ka,_,rfl,Ym.k (k:=.inr (sx n0)) nv (by omega),?_⟩;refine q gs ws rfl _ (jd s3) ⟨dx,_,?_,Ag,?_,(dm.keep s3).put (g:=(gs,ws)) nv co rfl⟩
    .rw[An (Gk nu nv (by intro z;cases z))];exact nu
    .have:=ADG aG (.inr (sx n0):Key) (.ref c);omega
   | text l=>cases mk
   | bead=>exact fun H' s'=>qn (fun _ _ z=>nomatch z) H' (gh.trans s')
   | nocord p=>exact fun dd H' s' e=>qn (fun _ _ z=>nomatch z) dd H' (gh.trans s') e
   | worth=>exact fun H' s'=>qn (fun _ _ z=>nomatch z) H' (gh.trans s')
 .rw[decide_eq_false aL];refine FZ ?_;exact⟨_,rfl,_,rfl,sx dl,r',vs',aQ,o,rfl,qT,qU,an,q.mono gh⟩
theorem Vg:HB X (.type "str") (fun xs H Q=>(xs=[.non]/\Q (.str "None") H)\/∃i:Int,xs=[.int i]/\i.natAbs.log2<1920/\Q (.str (toString i)) H):=by
 walk_at "V";rcases h with h|h
 .exact Tt aA s Y H xs us Q I r h
 .exact Hg aA s Y H xs us Q I r h
def AJG:Option Nat->Str
 | none=>"!cordNone"
 | some m=>Str.ofString "!cord"++Str.ofString (toString (m:Int))
def Rfs(cT cM cN cB cW:Addr)(Q:VK):XK:=fun Cv dx H'=>(Cv=.ref cT/\dx=none/\∀H2,Al H' H2->Q (.str "!text") H2)\/(Cv=.ref cM/\dx=none/\∀H2,Al H' H2->Q (.str "!name") H2)\/(Cv=.ref cB/\dx=none/\∀H2,Al H' H2->Q (.str "!bead") H2)\/(Cv=.ref cW/\dx=none/\∀H2,Al H' H2->Q (.str "!worth") H2)\/∃d p,Cv=.ref cN/\dx=some d/\H' d=some (.xd [("place",AGc p)])/\(∀m,p=some m->m<=100)/\∀H2,Al H' H2->Q (.str (AJG p)) H2
def Ez(K:W.Frag)(CD C cT cM cN cB cW:Addr):Sp:=fun vs H Q _=>HW K CD C cT cM cN cB cW vs H Q (Rfs cT cM cN cB cW Q)
theorem Yr(h:Q [] H):NB Y H Q:=h
theorem Ends.imp{C cN cB cW:Addr}{H:Hp}{Q Q':VK}{E E':XK}{o:Out}(h:Ends C cN cB cW H Q E o)(ho:∀gs ws,o≠.cord gs ws)(hq:∀t H',Q (.str t) H'->Q' (.str t) H')(he:∀Cv dx H',E Cv dx H'->E' Cv dx H'):Ends C cN cB cW H Q' E' o:=by
 cases o with
 | cord gs ws=>exact absurd rfl (ho gs ws)
 | text l=>exact fun H' s'=>hq _ _ (h H' s')
 | bead=>exact fun H' s'=>he _ _ _ (h H' s')
 | nocord p=>exact fun d H' s' e=>he _ _ _ (h d H' s' e)
 | worth=>exact fun H' s'=>he _ _ _ (h H' s')
theorem AAk{K:W.Frag}{CD C cT cM cN cB cW:Addr}{vs:List V}{H:Hp}{Q Q':VK}{E E':XK}(h:HW K CD C cT cM cN cB cW vs H Q E)(hq:∀t H',Q (.str t) H'->Q' (.str t) H')(he:∀Cv dx H',E Cv dx H'->E' Cv dx H'):HW K CD C cT cM cN cB cW vs H Q' E':=by
 obtain⟨N,d,ka,m,v,e,dk,hN,h⟩:=h;refine⟨N,d,ka,m,v,e,dk,hN,?_⟩;rcases h with⟨nt,h⟩|⟨l,ev,ha,l9,h⟩
 .exact .inl ⟨nt,he _ _ _ h⟩
 refine .inr ⟨l,ev,ha,l9,?_⟩;rcases h with⟨no,h⟩|⟨dl,row,init,aH,aK,td,h⟩
 .exact .inl ⟨no,fun H' s'=>he _ _ _ (h H' s')⟩
 refine .inr ⟨dl,row,init,aH,aK,td,?_⟩;rcases h with⟨hex,h⟩|⟨aQ,o,hr,hd,h⟩
 .exact .inl ⟨hex,fun H' s'=>he _ _ _ (h H' s')⟩
 refine .inr ⟨aQ,o,hr,hd,?_⟩;rcases h with⟨hn,mk,n0,Bj,et,q,qn⟩|⟨hn,an,q⟩
 .exact .inl ⟨hn,mk,n0,Bj,et,fun gs ws ho H' a b=>hq _ _ (q gs ws ho H' a b),fun ho=>(qn ho).imp ho hq he⟩
 .refine .inr ⟨hn,an,q.imp (fun gs ws z=>?_) hq he⟩;subst z;cases an
theorem Ep:Ao ["_law_desk","_law_row","_law_answer","e","_law_kinds"] ["_law_desk","_law_row"] (Ae Lf):=fsc
theorem Wk{ah aq ak af ai ao ap:Addr}(F:Fun K "_law_say" "_law_say" Lf f fd)(T:Txt mg)(R:Fw K mg ah aq ak af ai ao ap)(cZ:Qv P w K mg base av "say" 9 ["self","row"] (HW K av au ah aq af ak ai)):BR P w K mg base CX0 10 f fd ["_law_desk","_law_row"] (Ez K av au ah aq af ak ai):=by
 refine F.ok Ep (fun vs H Q E h=>?_) (fun cdv A outer s H vs Q E hr h=>?_)
 .obtain⟨N,d,ka,m,v,rfl,_⟩:=h;rfl
 have h0:=h;obtain⟨N,d,ka,m,v,rfl,dk,_⟩:=h;obtain⟨dx,aG,e1,_⟩:=dk;refine⟨_,(Ac (pS 2 Ep.nd Ai)
   (Ac (ACT 3 (Zf (i:=2) cZ hr Ep.nd rfl (Or.inl rfl) (pv 0) (Aa (pv 1) Ab)) R.m_CordError (fun _ =>
    (Ac (pS 4 Ep.nd (Ff (Aa (Ax Er rfl T.z_isinstance boot_isinstance (Aa (pv 3) (Aa (Dz (v:=.ref _) rfl R.m_NoText rfl) Ab))) (Aa (Ax Er rfl T.z_isinstance boot_isinstance (Aa (pv 3) (Aa (Dz (v:=.ref _) rfl R.m_NoName rfl) Ab))) (Aa (Ax Er rfl T.z_isinstance boot_isinstance (Aa (pv 3) (Aa (Dz (v:=.ref _) rfl R.m_NoBead rfl) Ab))) (Aa (Ax Er rfl T.z_isinstance boot_isinstance (Aa (pv 3) (Aa (Dz (v:=.ref _) rfl R.m_NoCord rfl) Ab))) Ab))))))
    (Ac (pS 4 Ep.nd (Ak T8 (pv 4) (Ff (Aa (Ax Er rfl T.z_isinstance boot_isinstance (Aa (pv 3) (Aa (Dz (v:=.ref _) rfl R.m_NoWorth rfl) Ab))) (Aa (Ax Er rfl T.z_isinstance boot_isinstance (Aa (pv 3) (Aa (Dz (v:=.ref _) rfl R.m_NoFraction rfl) Ab))) Ab)))))
    (Ac (BP (PW.pt (Dk (Am GC (Eo ASB PySem.F.slot_list_count PySem.F.type_list_count Ys (pv 4) (Aa JK Ab)) Ad (Av _)) (CV (By (Bv (Ax Er rfl T.z_isinstance boot_isinstance (Aa (pv 3) (Aa (Hk (v:=.ty "ValueError") rfl T.z_ValueError PyProof.Rows.Boot.«ValueError» rfl) Ab))))))))
     (Af (Aq Ai))
     Ar)
    (Ac (BP (Bv (ixL (pv 4) Ad))
     (Af (Aq (Ak Ah Ai (Cu Vg rfl T.z_str boot_str (Aa (ADN (pv 3) rfl) Ab)))))
     Ar)
    (Af (Aq (ixL (PEw.h (DX (Aw BK (Aw BK (Aw BK (Aw BK (Aw BK (Aw BK BX)))))))) (Eo ASB PySem.F.slot_list_index PySem.F.type_list_index Y7 (pv 4) (Aa JK Ab)))))))))) Ep.nd)
   (Ac (BP (By (Bv (Ax HX rfl T.z_isinstance boot_isinstance (Aa (pv 2) (Aa (Hk (v:=.ty "str") rfl T.z_str boot_str rfl) Ab)))))
    (Af (Aq Ai))
    Ar)
   (Af (Aq (pv 2)))))),?_⟩
 refine⟨_,rfl,d,dx,_,rfl,e1,rfl,_,rfl,?_⟩;refine Yr ?_;refine AAk h0 (fun t H' q=>?_) (fun Cv dv H' q=>?_)
 .exact⟨_,rfl,_,_,_,_,rfl,Em.str _,M8 _,_,rfl,FZ ⟨_,rfl,q⟩⟩
 .obtain⟨c,b0,b1,b2,b3,b4,b5,i,rfl,hx,he,k0,k1,k2,k3,k4,k5,kv,hc,hi,fin⟩:∃(c:Addr) (b0 b1 b2 b3 b4 b5:Bool) (i:Nat),Cv=.ref c/\W.exmOne K (.ref c) (.ref ap)=some true/\CP K c/\W.kitOne K (.ref c) (.ref ah)=some b0/\W.kitOne K (.ref c) (.ref aq)=some b1/\W.kitOne K (.ref c) (.ref ak)=some b2/\W.kitOne K (.ref c) (.ref af)=some b3/\W.kitOne K (.ref c) (.ref ai)=some b4/\W.kitOne K (.ref c) (.ref ao)=some b5/\W.kitOne K (.ref c) (.type "ValueError")=some true/\[b0,b1,b2,b3,b4,b5].countP id=1/\(i<1000/\[b0,b1,b2,b3,b4,b5][i]?=some true/\∀j,j<i->[b0,b1,b2,b3,b4,b5][j]?=some false)/\((b3=false/\∃t:Str,[Str.ofString "!text","!name","!bead","","!worth","!fraction"][i]?=some t/\∀H2,Al H' H2->Q (.str t) H2)\/(b3=true/\c=af/\∃dd p,dv=some dd/\H' dd=some (.xd [("place",AGc p)])/\(∀m,p=some m->m<=100)/\∀H2,Al H' H2->Q (.str (AJG p)) H2)):=by
   rcases q with⟨rfl,rfl,q⟩|⟨rfl,rfl,q⟩|⟨rfl,rfl,q⟩|⟨rfl,rfl,q⟩|⟨dd,p,rfl,rfl,ed,hp,q⟩
   .exact⟨_,_,_,_,_,_,_,0,rfl,R.x_NoText,R.e_NoText,R.k_NoText_NoText,R.k_NoText_NoName,R.k_NoText_NoBead,R.k_NoText_NoCord,R.k_NoText_NoWorth,R.k_NoText_NoFraction,R.k_NoText_ValueError,rfl,⟨by decide,rfl,by decide⟩,.inl ⟨rfl,_,rfl,q⟩⟩
   .exact⟨_,_,_,_,_,_,_,1,rfl,R.x_NoName,R.e_NoName,R.k_NoName_NoText,R.k_NoName_NoName,R.k_NoName_NoBead,R.k_NoName_NoCord,R.k_NoName_NoWorth,R.k_NoName_NoFraction,R.k_NoName_ValueError,rfl,⟨by decide,rfl,by decide⟩,.inl ⟨rfl,_,rfl,q⟩⟩
   .exact⟨_,_,_,_,_,_,_,2,rfl,R.x_NoBead,R.e_NoBead,R.k_NoBead_NoText,R.k_NoBead_NoName,R.k_NoBead_NoBead,R.k_NoBead_NoCord,R.k_NoBead_NoWorth,R.k_NoBead_NoFraction,R.k_NoBead_ValueError,rfl,⟨by decide,rfl,by decide⟩,.inl ⟨rfl,_,rfl,q⟩⟩
   .exact⟨_,_,_,_,_,_,_,4,rfl,R.x_NoWorth,R.e_NoWorth,R.k_NoWorth_NoText,R.k_NoWorth_NoName,R.k_NoWorth_NoBead,R.k_NoWorth_NoCord,R.k_NoWorth_NoWorth,R.k_NoWorth_NoFraction,R.k_NoWorth_ValueError,rfl,⟨by decide,rfl,by decide⟩,.inl ⟨rfl,_,rfl,q⟩⟩
   .exact⟨_,_,_,_,_,_,_,3,rfl,R.x_NoCord,R.e_NoCord,R.k_NoCord_NoText,R.k_NoCord_NoName,R.k_NoCord_NoBead,R.k_NoCord_NoCord,R.k_NoCord_NoWorth,R.k_NoCord_NoFraction,R.k_NoCord_ValueError,rfl,⟨by decide,rfl,by decide⟩,.inr ⟨rfl,rfl,dd,p,rfl,ed,hp,q⟩⟩
  refine⟨hx,fun a haa=>?_⟩;have sa:=Aj haa (.ext (GD a (.ref c) dv));have ea:upd H' a (.ext (GD a (.ref c) dv)) a=some (.ext (GD a (.ref c) dv)):=Ag;generalize upd H' a (.ext (GD a (.ref c) dv))=H1 at *;refine⟨_,rfl,a,_,_,c,dv,b0,rfl,rfl,ea,he,k0,_,rfl,a,_,_,c,dv,b1,rfl,rfl,ea,he,k1,_,rfl,a,_,_,c,dv,b2,rfl,rfl,ea,he,k2,_,rfl,a,_,_,c,dv,b3,rfl,rfl,ea,he,k3,(by show 4<=sizeLine;decide),fun l1 h1=>?_⟩;have s1:=Aj h1 (.lst [.bl b0,.bl b1,.bl b2,.bl b3]);have e1':upd H1 l1 (.lst [.bl b0,.bl b1,.bl b2,.bl b3]) l1=some (.lst [.bl b0,.bl b1,.bl b2,.bl b3]):=Ag;have ny:=s1 _ _ ea;generalize upd H1 l1 (.lst [.bl b0,.bl b1,.bl b2,.bl b3])=H2 at *;refine⟨_,rfl,_,rfl,a,_,_,c,dv,b4,rfl,rfl,ny,he,k4,_,rfl,a,_,_,c,dv,b5,rfl,rfl,ny,he,k5,(by show 2<=sizeLine;decide),fun l2 h2=>?_⟩;have s2:=Aj h2 (.lst [.bl b4,.bl b5]);refine⟨l1,l2,_,_,rfl,rfl,s2 _ _ e1',Ag,(by show 6<=sizeLine;decide),fun l3 h3=>?_⟩;have s3:=Aj h3 (.lst ([.bl b0,.bl b1,.bl b2,.bl b3]++[.bl b4,.bl b5]));have e3:upd (upd H2 l2 (.lst [.bl b4,.bl b5])) l3 (.lst ([.bl b0,.bl b1,.bl b2,.bl b3]++[.bl b4,.bl b5])) l3=some (.lst (([b0,b1,b2,b3,b4,b5]:List Bool).map V.bl)):=Ag;have qV:=(s2.trans s3) _ _ ny;have uK:=s2.trans s3;generalize upd (upd H2 l2 (.lst [.bl b4,.bl b5])) l3 (.lst ([.bl b0,.bl b1,.bl b2,.bl b3]++[.bl b4,.bl b5]))=H3 at *;have sq:=(sa.trans s1).trans uK;refine⟨_,rfl,.inl ⟨rfl,_,SqL.of e3⟩,l3,[b0,b1,b2,b3,b4,b5],rfl,rfl,e3,rfl,_,rfl,Ji (by rw[hc];rfl) ?_⟩;refine⟨_,rfl,a,_,_,c,dv,true,rfl,rfl,qV,he,kv,_,rfl,FZ ?_⟩;refine⟨_,rfl,l3,_,_,_,rfl,rfl,SqL.of e3,rfl,_,rfl,?_⟩;rcases fin with⟨rfl,t,et,q⟩|⟨rfl,rfl,dd,p,rfl,ed,hp,q⟩
  .refine FZ ?_;refine⟨(by show 6<=sizeLine;decide),fun l4 h4=>?_⟩;have s4:=Aj h4 (.lst [.str "!text",.str "!name",.str "!bead",.str "",.str "!worth",.str "!fraction"]);have uL:([.str "!text",.str "!name",.str "!bead",.str "",.str "!worth",.str "!fraction"]:List V)[i]?=some (.str t):=by
    have:=congrArg (Option.map V.str) et;rw[<-ARQ]at this;exact this
   exact⟨_,rfl,.inl ⟨rfl,_,SqL.of (s4 _ _ e3)⟩,l3,[b0,b1,b2,false,b4,b5],i,rfl,rfl,s4 _ _ e3,hi.1,hi.2.1,hi.2.2,l4,_,_,_,rfl,rfl,SqL.of Ag,Df uL,q _ (sq.trans s4)⟩
  .refine Ga ?_;have uM:=sq _ _ ed;refine⟨_,rfl,a,c,dd,_,_,rfl,qV,R.e_NoCord,R.fx_NoCord.hd,R.nf_NoCord,uM,rfl,?_⟩;cases p with
   | none =>
    refine .inl ⟨rfl,_,_,rfl,rfl,(by decide +kernel),?_⟩;have ec:(Str.ofString "!cord"++Str.ofString "None")=Str.ofString "!cordNone":=by decide +kernel
    rw[ec];exact q _ sq
   | some m =>
    have hm:=hp m rfl;walk_at "O"
    refine .inr ⟨(m:Int),rfl,?_,_,_,rfl,rfl,?_,q _ sq⟩
    .rw[ATg];exact AVH (Nat.log2_le_self m) (by omega)
    .have l1:(Str.ofString (toString (m:Int))).length<=100:=by
      rw[tos,BJ];have hb:(100:Nat)<10^30:=by decide
      have:=Rt (i:=(m:Int)) (by omega);omega
     have l2:(Str.ofString "!cord").length=5:=by decide +kernel
     omega
structure Le(l:List Nat):Prop where
 pln:∀c∈l,c<128
 len:l.length<=64
 fr:32∉l
 ne:l≠[]
 no:∀q,F30 q->l≠ftx q
 semi:l≠[59]
def SJ:List (List Nat):=[[48,49],[50,47,52],[51,47,49],[43,49],[45,48],[49,47,48],[49,47,48,49],[49,47,45,50],[49,47,47,50],[47,50],[49,47],[45,45,49],[48,47,51],[49,46,48],[49,101,51],[]]
def Wf:List Nat:=[97,98,99,120,121,122,65,90,95,46,44,58,59,33,63,40,41,35,39,124,123,125,60,62,64,38,94,36,126,42,43,61,91,93]
theorem ACd:[V.str (Str.ofString "01"),V.str (Str.ofString "2/4"),V.str (Str.ofString "3/1"),V.str (Str.ofString "+1"),V.str (Str.ofString "-0"),V.str (Str.ofString "1/0"),V.str (Str.ofString "1/01"),V.str (Str.ofString "1/-2"),V.str (Str.ofString "1//2"),V.str (Str.ofString "/2"),V.str (Str.ofString "1/"),V.str (Str.ofString "--1"),V.str (Str.ofString "0/3"),V.str (Str.ofString "1.0"),V.str (Str.ofString "1e3"),V.str (Str.ofString "")]=SJ.map fun l=>V.str (sx l):=rfl
theorem Le.of(h:(l.all (fun c=>decide (c<128))&&decide (l.length<=64)&&decide (32∉l)&&decide (l≠[])&&decide (l≠[59])&&!rdB l)=true):Le l:=by
 simp only[ASK,AUh,decide_eq_true_eq,ARg]at h;obtain⟨⟨⟨⟨⟨h1,h2⟩,h3⟩,h4⟩,h6⟩,h5⟩:=h;refine⟨h1,h2,h3,h4,fun q hq z=>?_,h6⟩;rw[z,JS hq]at h5;cases h5
theorem AAT(h:n<15)(e:SJ[n]?=some l):Le l:=by
 have:∀i,i<15->∀l,SJ[i]?=some l->(l.all (fun c=>decide (c<128))&&decide (l.length<=64)&&decide (32∉l)&&decide (l≠[])&&decide (l≠[59])&&!rdB l)=true:=by
  intro i hi l e
  match i,e with
  | 0,e | 1,e | 2,e | 3,e | 4,e | 5,e | 6,e | 7,e | 8,e | 9,e | 10,e | 11,e | 12,e | 13,e | 14,e =>
   cases e;decide +kernel
  | j+15,_=>omega
 exact Le.of (this n h l e)
theorem AOy(h:c∈Wf):Le [55,c,53]:=by
 have:∀c∈Wf,c<128/\c≠32/\c≠45/\c≠47/\¬(48<=c/\c<=57):=by decide +kernel
 obtain⟨h1,h2,h3,h4,h5⟩:=this c h;refine⟨fun x hx=>?_,by show 3<=64;decide,fun z=>?_,by simp,fun q _ z=>LR h3 h5 h4 q (by rw[<-z];simp),by simp⟩
 .rcases ARI.mp hx with e|hx
  .rw[e];decide
  rcases ARI.mp hx with e|hx
  .rw[e];exact h1
  rw[ARp.mp hx];decide
 .have:32=c:=by simpa using z
  exact h2 this.symm
theorem APN(h:10^30<=n)(h2:n<10^31):Le (49::(dgs n).drop 1):=by
 have hd:=Im n;have hl:31<=(dgs n).length:=by
  have:=ABN (dgs n) hd;rw[Ja]at this;apply ASe;intro z;have:=ATP (n:=10) (by decide) (show(dgs n).length<=30 by omega);omega
 have hm:=Je (k:=31) (by decide) h2;have mem:∀c∈49::(dgs n).drop 1,QV c:=fun c hc=>by
  rcases ARI.mp hc with e|e
  .rw[e];exact⟨by decide,by decide⟩
  .exact hd c (ASE e)
 have ll:(49::(dgs n).drop 1).length=31:=by
  rw[ARD,ARd];omega
 refine⟨fun c hc=>by have:=(mem c hc).2;omega,by omega,fun z=>absurd (mem _ z).1 (by decide),by simp,fun q hq z=>?_,fun z=>by rw[z]at ll;cases ll⟩;have e1:=JS hq;rw[<-z]at e1;have ea:(49::(dgs n).drop 1).takeWhile (fun c=>c != 47)=49::(dgs n).drop 1:=by
  have:=ATC (p:=fun c=>c != 47) (l₁:=49::(dgs n).drop 1) (l₂:=[]) (fun c hc=>by
   have:=(mem c hc).1;simp;omega)
  rw[ARx,List.takeWhile_nil,ARx]at this;exact this
 unfold rdB at e1;rw[ea]at e1;have ef:Jr (Gz (49::(dgs n).drop 1))=false:=by
  have:Gz (49::(dgs n).drop 1)=49::(dgs n).drop 1:=if_neg (by simp);rw[this];unfold Jr;rw[if_neg (by omega),if_pos (by omega)]
 dsimp only at e1;rw[ef]at e1;simp only[ATQ]at e1;cases e1
def Xw:Sp:=fun vs H Q _=>∃c:Int,vs=[.int c]/\∀l H',Al H H'->Le l->Q (.str (sx l)) H'
theorem CQ:Ao ["_law_cell","_law_odd","_law_some","_law_way"] ["_law_cell"] (Ae Ds):=fsc
theorem Jg(F:Fun K "_law_bad_fraction" "_law_bad_fraction" Ds f fd)(T:Txt mg):BR P w K mg base CX0 1 f fd ["_law_cell"] Xw:=by
 refine F.okk CQ fun vs H Q E h=>?_;obtain⟨c,rfl,k⟩:=h;refine⟨rfl,fun cdv A outer s hr=>?_⟩;refine Mi ?_;refine⟨_,(Bf (CW (i:=1) CQ.nd rfl (Or.inl rfl) BK)
   (Bf (CW (i:=2) CQ.nd rfl (Or.inl rfl) (DX (Aw BK (Aw BK (Aw BK (Aw BK (Aw BK (Aw BK (Aw BK (Aw BK (Aw BK (Aw BK (Aw BK (Aw BK (Aw BK (Aw BK (Aw BK (Aw BK BX))))))))))))))))))
   (Bf (CW (i:=3) CQ.nd rfl (Or.inl rfl) (BZ (Ak Dm (Ak Ca (pv 0) Ad) Ad)))
   (Bf (PSw.mk (BP (Am Bs (pv 3) Ad (Av _))
   (Af (Aq (Ak Ah (Ak Ah Ai (UW W0 (pv 1) (Ak Dm (Ak Ca (pv 0) Ad) (Ax CK rfl T.z_len ARW (Aa (pv 1) Ab))) (fun _ _=>rfl))) Ai)))
   Ar))
   (Bf (PSw.mk (BP (Am Bs (pv 3) Ad (Av _))
   (Af (Aq (Ak Ah Ai (Cr Mm (Cu Hg rfl T.z_str boot_str (Aa (Ak J6 (Ak ABm Ad Ad) (Ak Dm (pv 0) (Ak ABm Ad Ad))) Ab)) (DG Ad) Dr))))
   Ar))
   (XM (AAR (BZ (ixL (pv 2) (Ak Dm (Ak Ca (pv 0) Ad) Ad)))))))))),?_⟩
 walk_at "a"
 refine⟨(by show 16<=sizeLine;decide),fun L1 h1=>?_⟩;rw[ACd];have u1:=Aj h1 (.lst (SJ.map fun l=>V.str (sx l)));have e1:upd H L1 (.lst (SJ.map fun l=>V.str (sx l))) L1=some (.lst (SJ.map fun l=>V.str (sx l))):=Ag;generalize upd H L1 (.lst (SJ.map fun l=>V.str (sx l)))=H1 at *;refine⟨_,rfl,_,_,rfl,rfl,⟨by decide,bt2 (by decide +kernel)⟩,_,_,rfl,rfl,(by show(0:Int)<4;decide),?_⟩;have dd:∀(k:Int),0<k->∃n:Nat,c/96%k=n/\(n:Int)<k:=fun k hk=>⟨(c/96%k).toNat,by have:=AR5 (c/96) (show k≠0 by omega);omega,by have:=AR5 (c/96) (show k≠0 by omega);have:=ARz (c/96) hk;omega⟩;refine⟨_,rfl,rfl,_,rfl,Cw (fun c1=>?_) (fun c1=>?_)⟩
 .obtain⟨n,hn,hn2⟩:=dd 34 (by decide);have jG:n<Wf.length:=by show n<34;omega
  have hat:atI (Str.ofString "abcxyzAZ_.,:;!?()#'|{}<>@&^$~*+=[]").cps.toList (c/96%((34:Nat):Int))=some Wf[n]:=by
   show atI Wf (c/96%34)=_;rw[hn];exact Df (AQ9 jG)
  refine⟨_,rfl,_,rfl,_,_,rfl,rfl,⟨by decide,bt2 (by decide +kernel)⟩,_,rfl,_,rfl,(by decide +kernel),?_⟩;rw[show(Str.ofString "abcxyzAZ_.,:;!?()#'|{}<>@&^$~*+=[]").length=34 by decide +kernel];refine⟨_,_,rfl,rfl,(by show(0:Int)<34;decide),_,_,_,rfl,rfl,(by decide +kernel),hat,_,_,rfl,rfl,(by show 1+1<=sizeLine;omega),_,_,rfl,rfl,(by rw[V6];show 1+1+1<=sizeLine;omega),?_⟩;have:=k _ H1 u1 (AOy (ARS jG));rw[show sx [55,Wf[n],53]=sx [55]++sx [Wf[n]]++sx [53] by rw[Cy,Cy];rfl]at this;exact this
 refine⟨_,rfl,rfl,_,rfl,Cw (fun c2=>?_) (fun c2=>?_)⟩
 .have h0:=AR5 c (show(10^29:Int)≠0 by decide);have h9:=ARz c (show(0:Int)<10^29 by decide);obtain⟨n,hn⟩:∃n:Nat,(10^30:Int)+c%10^29=n:=⟨((10^30:Int)+c%10^29).toNat,by omega⟩;have b1:10^30<=n:=by omega
  have b2:n<10^31:=by omega
  refine⟨_,_,rfl,rfl,(⟨by decide,by decide,by decide⟩:ADe _ _),_,rfl,_,_,rfl,rfl,(⟨by decide,by decide,by decide⟩:ADe _ _),_,_,rfl,rfl,(by show(0:Int)<10^29;decide),_,_,rfl,rfl,(10^30:Int)+c%10^29,rfl,?_,?_⟩
  .rw[hn,ATg];exact(AVg (by omega)).mpr (ARX b2 (by decide +kernel))
  have et:Str.ofString (toString ((10^30:Int)+c%10^29))=sx (dgs n):=by
   rw[hn,tos];unfold itx;rw[if_neg (by omega),ATg]
  have hm:=Je (k:=31) (by decide) b2;have this:=k _ H1 u1 (APN b1 b2);have e2:sx (49::(dgs n).drop 1)=sx [49]++Txt.slice (sx (dgs n)) (some 1) none:=by
   rw[Jo (Oj n),Cy];rfl
  rw[e2]at this;refine⟨1,rfl,_,rfl,by rw[et,BJ];omega,_,_,rfl,rfl,?_,?_⟩
  .rw[et,Jo (Oj n),BJ,ARd];show 1+_<=_;omega
  .rw[et];exact this
 .obtain⟨n,hn,hn2⟩:=dd 15 (by decide);have jG:n<SJ.length:=by show n<16;omega
  refine⟨_,rfl,_,rfl,_,_,rfl,rfl,⟨by decide,bt2 (by decide +kernel)⟩,_,_,rfl,rfl,(by show(0:Int)<15;decide),L1,_,_,.str (sx SJ[n]),rfl,rfl,SqL.of e1,?_,k _ H1 u1 (AAT (n:=n) (by omega) (AQ9 jG))⟩;show atI _ (c/96%15)=_;rw[hn];refine Df ?_;rw[ARQ,AQ9 jG];rfl
theorem Ug{lo:Int}(hn:n<=100000)(f:Nat->V->Prop)
  (hs:∀zb zc C ex i H ys (D:Addr) (R:VK),i<n->ys.length=i->Al H1 H->H1 D=none->H D=some (.lst ys)->(∀y H2,H2 D=some (.lst ys)->Al H1 H2->f i y->R y H2)->te zb zc C ex (some (.int (lo+i))::js.map fun j=>(Y[j]?).join) H R)
  (hd:∀ys H D,ys.length=n->(∀i y,ys[i]?=some y->f i y)->Al H1 H->H1 D=none->H D=some (.lst ys)->Q (.ref D) H) :
  Gv (Itr lo n) te js Y Q H1:=by
 intro D hD;refine⟨fun i m ys H=>m=n-i/\i<=n/\ys.length=i/\(∀j y,ys[j]?=some y->f j y)/\Al H1 H/\H D=some (.lst ys),⟨n,by simp,ARu _,rfl,fun j y e=>by simp at e,Aj hD _,Ag⟩,?_⟩;rintro i m ys H ⟨rfl,hi,hl,hf,sm,bN⟩;refine⟨bN,?_⟩;by_cases hlt:i<n
 .refine .inr ⟨hlt,fun x H' y zb zc C ex=>?_⟩;obtain⟨e,y⟩:=y;subst e y;refine hs zb zc C ex i H' ys D _ hlt hl sm hD bN fun y H2 h1 h2 h3=>⟨h1,?_,n-(i+1),by omega,rfl,hlt,by simp[hl],fun j z ez=>?_,fun b o q=>?_,Ag⟩
  .have:(100000:Nat)<sizeLine:=by decide
   omega
  .by_cases hj:j<ys.length
   .rw[AR0 hj]at ez;exact hf j z ez
   .rw[ARh (by omega)]at ez;have hj0:j-ys.length=0:=by
     by_cases h0:j-ys.length=0
     .exact h0
     .rw[AR9 (by simp;omega)]at ez;cases ez
    rw[hj0]at ez;cases ez;have:j=i:=by omega
    subst this;exact h3
  .rw[An (Az q hD)];exact h2 b o q
 .have e:i=n:=by omega
  subst e;exact .inl ⟨ARH _,hd ys H D hl hf sm hD bN⟩
theorem AFs(h0:0<=i)(h1:i<26):atI (Str.ofString "abcdefghijklmnopqrstuvwxyz").cps.toList i=some (97+i.toNat):=by
 obtain⟨n,rfl⟩:∃n:Nat,i=n:=⟨i.toNat,by omega⟩;have hn:n<26:=by omega
 refine Df (j:=n) ?_;show((List.range 26).map (97+·))[n]?=_;rw[ARQ,AUN hn,ASj];rfl
theorem ADW{i:Int}(h0:0<=i)(h1:i<26):97+i.toNat∈(List.range 26).map (97+·):=ARR.mpr ⟨i.toNat,ASh.mpr (by omega),rfl⟩
theorem Q5:∀ws:List (List Nat),Str.join (sx []) (ws.map sx)=sx ws.flatten
 | []=>rfl
 | [w]=>by
  show sx w=sx ([w].flatten);simp
 | w::v::r=>by
  show sx w++sx []++Str.join (sx []) ((v::r).map sx)=_;rw[Q5 (v::r),Cy,Cy,ARx];rfl
theorem AAx{ts:List (List Nat)}(h:∀t∈ts,t.length<=64)(hn:ts.length<=1000):JoinOk (sx []) (ts.map sx)=true:=by
 walk_at "a"
 have hf:=StrLaws.joinFits (sep:=sx []) (texts:=ts.map sx) (B:=64) (fun y hy=>by
  obtain⟨t,ht,rfl⟩:=ARR.mp hy;rw[BJ];exact h t ht) (by
  rw[Io];show ts.length*64+ts.length*0<=_;omega)
 unfold JoinOk;rw[hf];rfl
structure Zo(l:List Nat):Prop where
 pln:∀c∈l,c<128
 len:l.length<=20
 fr:32∉l
 ne:l≠[]
 no:¬Nm l
def AAn:List Nat:=[65,66,89,90,48,49,56,57,95,46,45,47,40,41]
def Qf:List Nat:=(List.range 26).map (97+·)
theorem Nz:∀c∈Qf,c<128/\c≠32:=by decide +kernel
theorem ADX:∀c∈AAn,c<128/\c≠32/\c∉Qf:=by decide +kernel
theorem AJ3{w:List Nat}(hw:∀c∈w,c∈Qf)(hl:w.length=9):Zo w:=by
 refine⟨fun c hc=>(Nz c (hw c hc)).1,by omega,fun z=>(Nz _ (hw _ z)).2 rfl,fun z=>?_,fun z=>?_⟩
 .rw[z]at hl;cases hl
 .have:=z.1.2;omega
theorem ALb(ha:∀x∈a,x∈Qf)(hb:∀x∈b,x∈Qf)(la:a.length<=8)(lb:b.length<=8)(hc:c∈AAn):Zo (a++[c]++b):=by
 obtain⟨c1,c2,c3⟩:=ADX c hc;have mem:∀x∈a++[c]++b,x∈Qf\/x=c:=fun x hx=>by
  rcases ARP.mp hx with y|y
  .rcases ARP.mp y with y|y
   .exact .inl (ha x y)
   .exact .inr (ARp.mp y)
  .exact .inl (hb x y)
 refine⟨fun x hx=>?_,?_,fun z=>?_,by simp,fun z=>c3 (z.2 c (by simp))⟩
 .rcases mem x hx with y|y
  .exact(Nz x y).1
  .rw[y];exact c1
 .simp only[ARG,ARn];omega
 .rcases mem 32 z with y|y
  .exact(Nz _ y).2 rfl
  .exact c2 y.symm
theorem ADt:∀W:List Nat,(W.map fun x=>[x]).flatten=W
 | []=>rfl
 | a::r=>congrArg (a::·) (ADt r)
theorem ACY(e:x=y)(h:DP i (.str y) Y H Q):DP i (.str x) Y H Q:=e ▸ h
def YK:Sp:=fun vs H Q _=>∃c:Int,vs=[.int c]/\∀l H',Al H H'->Zo l->Q (.str (sx l)) H'
theorem Cp:Ao ["_law_cell","_law_letters","_law_odd","_law_word","_law_spot"] ["_law_cell"] (Ae Ej):=fsc
theorem NQ(F:Fun K "_law_bad_name" "_law_bad_name" Ej f fd)(T:Txt mg):BR P w K mg base CX0 1 f fd ["_law_cell"] YK:=by
 refine F.okk Cp fun vs H Q E h=>?_;obtain⟨c,rfl,k⟩:=h;walk_at "b";walk_at "a"
 refine⟨_,(Ac (pS 1 Cp.nd Ai)
   (Ac (pS 2 Cp.nd Ai)
   (Ac (pS 3 Cp.nd (Eo ARk ATr ATs Td Ai (Aa (Gp (N':=["_law_k","_law_letters","_law_cell"]) (fsc:=Ae Ej) (N:=["_law_cell","_law_letters","_law_odd","_law_word","_law_spot"]) [1,0] ⟨rfl,by decide +kernel,by decide +kernel,by decide +kernel,rfl,by decide +kernel,rfl,by decide +kernel⟩ (Q4 rfl T.z_range (Aa (Ak J6 Ad (Ak Dm (Ak Ca (pv 0) Ad) Ad)) Ab)) (fun _ _ _ _=>(UW W0 (pv 1) (Ak Dm (Ak J6 (pv 2) (pv 0)) Ad) (fun _ _=>rfl)))) Ab)))
   (Ac (BP (Am Bs (Ak Dm (pv 0) Ad) Ad (Av _))
    (Af (Aq (Ak Ah (pv 3) (Cr Mm Ai Dr (DG (Ak Jw Ad (Ax CK rfl T.z_len ARW (Aa (pv 3) Ab))))))))
    Ar)
   (Ac (pS 4 Cp.nd (Ak Dm (Ak Ca (pv 0) Ad) (Ax CK rfl T.z_len ARW (Aa (pv 3) Ab))))
   (Af (Aq (Ak Ah (Ak Ah (Cr Mm (pv 3) Dr (DG (pv 4))) (UW W0 (pv 2) (Ak Dm (Ak Ca (pv 0) Ad) (Ax CK rfl T.z_len ARW (Aa (pv 2) Ab))) (fun _ _=>rfl))) (Cr Mm (pv 3) (DG (Ak J6 (pv 4) Ad)) Dr))))))))),?_⟩
 have a1:=AR5 (c/26) (show(8:Int)≠0 by decide);have a2:=ARz (c/26) (show(0:Int)<8 by decide);refine⟨rfl,_,rfl,_,_,rfl,rfl,⟨by decide,Bt.between (by decide +kernel) (by decide +kernel)⟩,_,_,rfl,rfl,(show(0:Int)<8 by decide),_,_,rfl,rfl,_,rfl,by omega,by omega,Ug (by omega) (fun i y=>y=.str (sx [97+((c+((0:Int)+i))%26).toNat])) ?_ ?_⟩
 .intro zb zc C ex i H' ys D R hi hy sH nD eD fin;have b1:=AR5 (c+((0:Int)+i)) (show(26:Int)≠0 by decide);have b2:=ARz (c+((0:Int)+i)) (show(0:Int)<26 by decide);exact⟨_,rfl,_,rfl,_,rfl,_,_,rfl,rfl,_,_,rfl,rfl,(show(0:Int)<26 by decide),_,_,_,rfl,rfl,(by decide +kernel),AFs b1 b2,fin _ H' eD sH rfl⟩
 intro ys H1 D hl hf s1 nD eD;obtain⟨n,hn⟩:∃n:Nat,1+c/26%8=n:=⟨(1+c/26%8).toNat,by omega⟩;have n1:1<=n/\n<=8:=by omega
 obtain⟨W,lW,mW,eys⟩:∃W:List Nat,W.length=n/\(∀x∈W,x∈Qf)/\ys=((W.map fun x=>[x]).map sx).map V.str:=by
  refine⟨(List.range n).map fun i=>97+((c+((0:Int)+(i:Nat)))%26).toNat,by simp,fun x hx=>?_,ATn fun i=>?_⟩
  .obtain⟨i,_,rfl⟩:=ARR.mp hx;exact ADW (AR5 _ (by decide)) (ARz _ (by decide))
  .by_cases hi:i<ys.length
   .have h2:ys[i]?=some ys[i]:=AQ9 hi;rw[h2,hf i _ h2];simp only[ARQ,AUN (show i<n by omega),ATb]
   .rw[AR9 (by omega),AR9 (by simp;omega)]
 rw[eys]at eD;clear hf hl eys;have ej:Txt.join (sx []) ((W.map fun x=>[x]).map sx)=sx W:=by
  unfold Txt.join;rw[StrLaws.glued_eq_join,Q5];rw[ADt]
 refine⟨_,D,_,rfl,rfl,SqL.of eD,AAx (fun w hw=>?_) (by rw[Io];omega),ACY ej ?_⟩
 .obtain⟨x,_,rfl⟩:=ARR.mp hw;show 1<=64;decide
 refine⟨_,rfl,_,_,rfl,rfl,(show(0:Int)<3 by decide),rfl,_,rfl,Cw (fun c1=>?_) (fun c1=>?_)⟩
 .have e9:(9:Int)-(W.length:Int)=((9-n:Nat):Int):=by omega
  have es:Txt.slice (Str.ofString "abcdefghi") none (some ((9:Int)-(W.length:Int)))=sx ([97,98,99,100,101,102,103,104,105].take (9-n)):=by
   rw[e9,show Str.ofString "abcdefghi"=sx [97,98,99,100,101,102,103,104,105] from rfl,Uk (by show 9-n<=9;omega)]
  have lt:([97,98,99,100,101,102,103,104,105].take (9-n)).length=9-n:=by
   rw[ARc];show min (9-n) 9=_;omega
  have k1:=k (W++[97,98,99,100,101,102,103,104,105].take (9-n)) H1 s1 (AJ3 (fun x hx=>by
   rcases ARP.mp hx with z|z
   .exact mW x z
   .exact(by decide +kernel:∀x∈[97,98,99,100,101,102,103,104,105],x∈Qf) x (AU5 z)) (by rw[ARG,lt];omega))
  rw[<-Cy]at k1;refine⟨_,rfl,_,rfl,sx W,rfl,by rw[BJ];omega,?_⟩;rw[BJ];refine⟨_,_,rfl,rfl,_,rfl,_,rfl,(by decide +kernel),?_⟩;rw[es];exact⟨_,_,rfl,rfl,by rw[BJ,BJ,lt];omega,k1⟩
 .refine⟨_,rfl,_,_,rfl,rfl,⟨by decide,Bt.between (by decide +kernel) (by decide +kernel)⟩,_,rfl,sx W,rfl,by rw[BJ];omega,?_⟩;rw[BJ];refine⟨_,_,rfl,rfl,(show(0:Int)<(W.length:Int) by omega),?_⟩;have d1:=AR5 (c/208) (show(W.length:Int)≠0 by omega);have d2:=ARz (c/208) (show(0:Int)<(W.length:Int) by omega);refine ACb (P:=fun y=>0<=y/\y<(W.length:Int)) (c/208%(W.length:Int)) ⟨d1,d2⟩ fun y ⟨y0,y1⟩=>?_;obtain⟨j,rfl⟩:∃j:Nat,y=j:=⟨y.toNat,by omega⟩;have f1:=AR5 (c/5) (show(14:Int)≠0 by decide);have f2:=ARz (c/5) (show(0:Int)<14 by decide);obtain⟨o,ho⟩:∃o:Nat,c/5%14=o:=⟨(c/5%14).toNat,by omega⟩;have ho2:o<AAn.length:=by show o<14;omega
  have hat:atI (Str.ofString "ABYZ0189_.-/()").cps.toList (c/5%((14:Nat):Int))=some AAn[o]:=by
   show atI AAn (c/5%14)=_;rw[ho];exact Df (AQ9 ho2)
  have k1:=k _ H1 s1 (ALb (a:=W.take j) (b:=W.drop (j+1)) (fun x hx=>mW x (AU5 hx)) (fun x hx=>mW x (ASE hx)) (by rw[ARc];omega) (by rw[ARd];omega) (ARS ho2));rw[<-Cy,<-Cy]at k1;refine⟨_,rfl,_,rfl,_,rfl,_,rfl,by rw[BJ];omega,_,rfl,_,rfl,_,_,rfl,rfl,⟨by decide,Bt.between (by decide +kernel) (by decide +kernel)⟩,_,rfl,_,rfl,(by decide +kernel),?_⟩;rw[show(Str.ofString "ABYZ0189_.-/()").length=14 by decide +kernel,Uk (by omega)];refine⟨_,_,rfl,rfl,(show(0:Int)<14 by decide),_,_,_,rfl,rfl,(by decide +kernel),hat,_,_,rfl,rfl,?_,_,rfl,_,rfl,_,_,rfl,rfl,_,rfl,_,rfl,by rw[BJ];omega,?_⟩
  .rw[BJ,ARc];show _+1<=_;omega
  have uN:((j:Int)+1)=((j+1:Nat):Int):=by omega
  rw[uN,ABb (by omega)];refine⟨_,_,rfl,rfl,?_,k1⟩;rw[V6,BJ,BJ,ARc,ARd];show _+1+_<=_;omega
def Unt(l:List Nat):Prop:=(∀c∈l,c<128)/\l.length<=900/\∀dl row init aH aK,¬Lj l dl row init aH aK
theorem AJY:32∈jn 32 (a::b::r):=by
 show 32∈a++32::jn 32 (b::r);simp
theorem ALZ(hf:∀w∈W,32∉w)(hn:W≠[])(h:RdT "two polys" (jn 32 W) x):∃U L,Ef U/\Ef L/\W=Ay U++[59]::Ay L:=by
 obtain⟨U,L,_,e,hU,hL⟩:=h.po;refine⟨U,L,hU,hL,?_⟩;have nU:Ay U≠[]:=fun z=>hU.1 (ASL.mp z);have nL:Ay L≠[]:=fun z=>hL.1 (ASL.mp z);have e2:ptx U L=jn 32 (Ay U++[59]::Ay L):=by
  rw[Wo (by simp) nU];cases hw:Ay L with
  | nil=>exact absurd hw nL
  | cons v r =>
   unfold ptx;rw[hw];rfl
 refine Fe hf (fun v hv=>?_) hn (by simp) (e.trans e2);rcases ARP.mp hv with z|z
 .exact JN U v z
 .rcases ARI.mp z with z|z
  .rw[z];decide
  .exact JN L v z
theorem AMu(hf:∀w∈W,32∉w)(hn:W≠[])(h:RdT "length and worths" (jn 32 W) x):∃qs,Ef qs/\W=Ay qs:=by
 obtain⟨qs,_,e,hq⟩:=h.ro;exact⟨qs,hq,Fe hf (JN qs) hn (fun z=>hq.1 (ASL.mp z)) e⟩
theorem ANF(hf:∀w∈W,32∉w)(hn:W≠[])(h:RdT "cord" (jn 32 W) x):∃gs ws,C30 gs ws/\W=Bu gs ws:=by
 obtain⟨gs,ws,_,e,hc⟩:=h.co;exact⟨gs,ws,hc,Fe hf (Kp hc) hn (by unfold Bu;simp) e⟩
def ZD(l:List Nat):Bool:=rdB l&&decide (l.head?≠some 45)&&decide (l≠[48])
theorem Um(h:F30 q)(hq:0<q):ZD (ftx q)=true:=by
 have hn:0<q.num:=by
  have:=(AVi 0 q).mp hq;simpa using this
 have h1:(ftx q).head?≠some 45:=fun z=>by
  have hd:(itx q.num)=dgs q.num.natAbs:=if_neg (by omega);have:∀r:List Nat,((itx q.num)++r).head?=some 45->False:=fun r z=>by
   rw[hd]at z;cases e:dgs q.num.natAbs with
   | nil=>exact Oj _ e
   | cons a t =>
    rw[e]at z;have:a=45:=ARK z;have hm:=Im q.num.natAbs a (by rw[e];simp);rw[this]at hm;exact absurd hm.1 (by decide)
  unfold ftx at z
  split at z
  .exact this [] (by rw[ARx];exact z)
  .exact this _ z
 have h2:ftx q≠[48]:=fun z=>by
  have:ftx q=ftx 0:=z.trans (by decide +kernel);rw[FJ this]at hq;exact absurd hq (by decide)
 unfold ZD;rw[JS h,decide_eq_true h1,decide_eq_true h2];rfl
def brB:List Nat->Bool
 | 40::r=>decide (r.getLast?=some 41)&&ZD r.dropLast
 | _=>false
theorem ACu(h:F30 q)(hq:0<q):brB (brx q)=true:=by
 show(decide ((ftx q++[41]).getLast?=some 41)&&ZD (ftx q++[41]).dropLast)=true;rw[AT1,AU4,Um h hq];simp
inductive Tk where
 | w (l:List Nat)
 | b
 | o
 | bb
def Tk.cz(B O:List Nat):Tk->List Nat
 | .w l=>l
 | .b=>B
 | .o=>O
 | .bb=>40::(B++[41])
def frB:Tk->Bool
 | .w l=>!rdB l
 | .b=>true
 | _=>false
def nmB(l:List Nat):Bool:=decide (1<=l.length)&&decide (l.length<=8)&&l.all fun c=>decide (c∈Qf)
def ALA:List (List Nat):=(List.range 61).map fun n=>dgs n
def AJp(k:Str):Tk->Bool
 | .b=>decide (k="fraction") || decide (k="whole") || decide (k="halvings")
 | .o=>decide (k="new") || decide (k="name")
 | .bb=>false
 | .w l=>if k="fraction" then !rdB l else if k="whole" then !rdB l || decide (47∈l) else if k="halvings" then decide (l∉ALA) else if k="end" then decide (l∉Ob) else if k="which" then decide (l∉whs) else if k="new"\/k="name" then !nmB l else false
def ANi:Tk->Bool
 | .w l=>!ZD l
 | .b=>true
 | _=>false
def wtB:Tk->Bool
 | .w l=>!brB l
 | .bb=>true
 | _=>false
def ABl:Bool->List Tk->Bool
 | _,[]=>false
 | g,t::r=>(if g then ANi t else wtB t) || ABl (!g) r
def semi:Tk->Bool
 | .w l=>decide (l=[59])
 | _=>false
def wbB:Tk->Bool
 | .w _=>true
 | .b=>true
 | _=>false
def AG5(ts:List Tk):Bool:=ts.all wbB&&(decide ((ts.filter semi).length≠1) || (ts.head?.any semi) || (ts.getLast?.any semi) || ts.any fun t=>!semi t&&frB t)
def ADC(k:Str)(ts:List Tk):Bool:=if k="cord" then decide (ts.length%2=0) || ABl true ts else if k="two polys" then AG5 ts else if k="length and worths" then ts.any frB else match ts with
 | [t]=>AJp k t
 | _=>true
section
variable {B O:List Nat}
theorem ABY(hB:Le B)(h:frB t=true)(q:Rat)(hq:F30 q):t.cz B O≠ftx q:=fun z=>by
 cases t with
 | w l =>
  have e:l=ftx q:=z;have h':(!rdB l)=true:=h;rw[e,JS hq]at h';cases h'
 | b=>exact hB.no q hq z
 | o=>cases h
 | bb=>cases h
def ABn:Bool->List (List Nat)->Prop
 | _,[]=>True
 | true,w::r=>(∃q,F30 q/\0<q/\w=ftx q)/\ABn false r
 | false,w::r=>(∃q,F30 q/\0<q/\w=brx q)/\ABn true r
theorem ABu:∀{ws gs:List Rat},(∀q∈ws,F30 q/\0<q)->(∀q∈gs,F30 q/\0<q)->ABn false (cw ws gs)
 | [],_,_,_=>by unfold cw;exact trivial
 | _::_,[],_,_=>by unfold cw;exact trivial
 | w::ws,g::gs,h1,h2=>⟨⟨w,(h1 w (by simp)).1,(h1 w (by simp)).2,rfl⟩,⟨g,(h2 g (by simp)).1,(h2 g (by simp)).2,rfl⟩,ABu (fun q hq=>h1 q (by simp[hq])) fun q hq=>h2 q (by simp[hq])⟩
theorem Z7(h:C30 gs ws):ABn true (Bu gs ws):=by
 have hl:=h.fine.len;have hg:∀q∈gs,F30 q/\0<q:=fun q hq=>⟨h.g30 q hq,h.fine.pos.1 q hq⟩;refine⟨⟨gs.getD 0 0,?_⟩,ABu (fun q hq=>⟨h.w30 q hq,h.fine.pos.2 q hq⟩) fun q hq=>hg q (ASE hq)⟩;rw[Po.getD_in (show 0<gs.length by omega)];have:=hg _ (ARS (show 0<gs.length by omega));exact⟨this.1,this.2,rfl⟩
theorem Wx(hB:Le B):∀{ts:List Tk} {g:Bool},ABl g ts=true->¬ABn g (ts.map (Tk.cz B O))
 | [],_,h=>by cases h
 | t::r,true,h=>fun⟨⟨q,h1,h2,e⟩,a⟩=>by
  have h':(ANi t || ABl false r)=true:=h;rcases ASA.mp h' with z|z
  .cases t with
   | w l =>
    have e':l=ftx q:=e;have z':(!ZD l)=true:=z;rw[e',Um h1 h2]at z';cases z'
   | b=>exact hB.no q h1 e
   | o=>cases z
   | bb=>cases z
  .exact Wx hB z a
 | t::r,false,h=>fun⟨⟨q,h1,h2,e⟩,a⟩=>by
  have h':(wtB t || ABl true r)=true:=h;rcases ASA.mp h' with z|z
  .cases t with
   | w l =>
    have e':l=brx q:=e;have z':(!brB l)=true:=z;rw[e',ACu h1 h2]at z';cases z'
   | b=>cases z
   | o=>cases z
   | bb =>
    have e':40::(B++[41])=40::(ftx q++[41]):=e;injection e' with _ e';exact hB.no q h1 (ATX e')
  .exact Wx hB z a
theorem ABK(hB:Le B)(h:wbB t=true):semi t=decide (t.cz B O=[59]):=by
 cases t with
 | w l=>rfl
 | b=>exact(decide_eq_false hB.semi).symm
 | o=>cases h
 | bb=>cases h
theorem AHQ(q:Rat):ftx q≠[59]:=fun z=>LR (c:=59) (by decide) (fun y=>absurd y.2 (by decide)) (by decide) q (by rw[z];simp)
theorem AFe(hB:Le B)(hU:Ef U)(hL:Ef L)(h:AG5 ts=true)(e:ts.map (Tk.cz B O)=Ay U++[59]::Ay L):False:=by
 unfold AG5 at h;obtain⟨hw,h⟩:=ARB.mp h;have sm:∀t∈ts,semi t=decide (t.cz B O=[59]):=fun t ht=>ABK hB (ARg.mp hw t ht);have n59:∀(X:List Rat),∀v∈Ay X,v≠[59]:=fun X v hv=>by
  obtain⟨q,_,rfl⟩:=ARR.mp hv;exact AHQ q
 have nU:Ay U≠[]:=fun z=>hU.1 (ASL.mp z);have nL:Ay L≠[]:=fun z=>hL.1 (ASL.mp z);rcases ASA.mp h with h|h
 .rcases ASA.mp h with h|h
  .rcases ASA.mp h with h|h
   .refine of_decide_eq_true h ?_;have e1:(ts.filter semi).length=((ts.map (Tk.cz B O)).filter fun v=>decide (v=[59])).length:=by
     rw[List.filter_map,Io]
     congr 1
     exact List.filter_congr fun t ht=>sm t ht
    rw[e1,e,List.filter_append,AUp,if_pos (by simp),AUx.mpr (fun v hv=>by simpa using n59 U v hv),AUx.mpr (fun v hv=>by simpa using n59 L v hv)];rfl
   .cases ts with
    | nil=>cases h
    | cons t r =>
     have ht:semi t=true:=h;rw[sm t (by simp)]at ht;have ht:=of_decide_eq_true ht;cases hw':Ay U with
     | nil=>exact nU hw'
     | cons v s =>
      rw[hw',ARm,ASo]at e;injection e with e _;exact n59 U v (by rw[hw'];simp) (e.symm.trans ht)
  .have hne:ts≠[]:=fun z=>by
    rw[z]at e;exact absurd (congrArg List.length e) (by simp)
   have hl:ts.getLast?=some (ts.getLast hne):=ATw hne;rw[hl]at h;have ht:semi (ts.getLast hne)=true:=h;rw[sm _ (List.getLast_mem hne)]at ht;have ht:=of_decide_eq_true ht;have e3:(ts.map (Tk.cz B O)).getLast?=some [59]:=by
    rw[List.getLast?_map,hl];exact congrArg some ht
   rw[e,<-List.singleton_append,<-ATM,List.getLast?_append,ATw nL,Option.some_or]at e3;exact n59 L _ (List.getLast_mem nL) (ARK e3)
 .obtain⟨t,ht,hs⟩:=AUt.mp h;obtain⟨h1,h2⟩:=ARB.mp hs;have hm:t.cz B O∈Ay U++[59]::Ay L:=by
   rw[<-e];exact AVE ht
  have nf:=ABY (O:=O) hB h2;rcases ARP.mp hm with z|z
  .obtain⟨q,hq,z⟩:=ARR.mp z;exact nf q (hU.2 q hq) z.symm
  .rcases ARI.mp z with z|z
   .rw[sm t ht,decide_eq_true z]at h1;cases h1
   .obtain⟨q,hq,z⟩:=ARR.mp z;exact nf q (hL.2 q hq) z.symm
end
section
variable {B O:List Nat}
theorem Xv(hB:Le B)(hO:Zo O)(hk:k∈kds)(hn:ts≠[])(hf:∀t∈ts,32∉t.cz B O)(h:ADC k ts=true)(x:Tg):¬RdT k (jn 32 (ts.map (Tk.cz B O))) x:=by
 intro hx;have hf':∀v∈ts.map (Tk.cz B O),32∉v:=fun v hv=>by
  obtain⟨t,ht,rfl⟩:=ARR.mp hv;exact hf t ht
 have hn':ts.map (Tk.cz B O)≠[]:=fun z=>hn (ASL.mp z);have hk':k="cord"\/k="two polys"\/k="length and worths"\/k="fraction"\/k="whole"\/k="halvings"\/k="end"\/k="which"\/(k="new"\/k="name"):=by
  walk_at "J"
  rcases this with e | e | e | e | e | e | e | e | e | e<;>simp[e]
 have two:(k≠"cord"/\k≠"two polys"/\k≠"length and worths")->∀{a b:Tk} {r:List Tk},ts=a::b::r->False:=fun⟨n1,n2,n3⟩ {a b r} e=>by
  subst e;have gC:32∈jn 32 ((a::b::r).map (Tk.cz B O)):=AJY;rcases hk' with e|e|e|e|e|e|e|e|e
  .exact n1 e
  .exact n2 e
  .exact n3 e
  all_goals first | subst e | skip
  .obtain⟨q,_,z,_⟩:=hx.fr;rw[z]at gC;exact Jv q gC
  .obtain⟨q,_,z,_⟩:=hx.wh;rw[z]at gC;exact Jv _ gC
  .obtain⟨q,_,z,_⟩:=hx.hv;rw[z]at gC;exact Jv _ gC
  .have:=hx.en.2;exact(by decide +kernel:∀l∈Ob,32∉l) _ this gC
  .have:=hx.wc.2;exact(by decide +kernel:∀l∈whs,32∉l) _ this gC
  .have:=(hx.nm e).2.2 32 gC;exact absurd this (by decide +kernel)
 unfold ADC at h;by_cases c1:k="cord"
 .rw[if_pos c1]at h;subst c1;obtain⟨gs,ws,hc,e⟩:=ANF hf' hn' hx;rcases ASA.mp h with z|z
  .have z:=of_decide_eq_true z;have l1:=hc.cnt;rw[<-e,Io]at l1;omega
  .exact Wx hB z (by rw[e];exact Z7 hc)
 rw[if_neg c1]at h;by_cases c2:k="two polys"
 .rw[if_pos c2]at h;subst c2;obtain⟨U,L,hU,hL,e⟩:=ALZ hf' hn' hx;exact AFe hB hU hL h e
 rw[if_neg c2]at h;by_cases c3:k="length and worths"
 .rw[if_pos c3]at h;subst c3;obtain⟨qs,hq,e⟩:=AMu hf' hn' hx;obtain⟨t,ht,hs⟩:=AUt.mp h;have hm:t.cz B O∈Ay qs:=by
   rw[<-e];exact AVE ht
  obtain⟨q,hq',z⟩:=ARR.mp hm;exact ABY (O:=O) hB hs q (hq.2 q hq') z.symm
 rw[if_neg c3]at h
 match ts,hn,h,hx,two with
 | [],hn,_,_,_=>exact hn rfl
 | a::b::r,_,_,_,two=>exact two ⟨c1,c2,c3⟩ rfl
 | [t],_,h,hx,_ =>
  have h:AJp k t=true:=h;have hx:RdT k (t.cz B O) x:=hx;rcases hk' with e|e|e|e|e|e|e|e|e
  .exact c1 e
  .exact c2 e
  .exact c3 e
  .subst e;obtain⟨q,_,z,hq⟩:=hx.fr;cases t with
   | w l =>
    have h':(!rdB l)=true:=h;rw[show l=ftx q from z,JS hq]at h';cases h'
   | b=>exact hB.no q hq z
   | o=>exact absurd h (by decide)
   | bb=>exact absurd h (by decide)
  .subst e;obtain⟨q,_,z,hq⟩:=hx.wh;cases t with
   | w l =>
    have h':(!rdB l || decide (47∈l))=true:=h;rw[show l=ftx (q:Rat) from z,JS hq]at h';have nA:47∈ftx (q:Rat):=by simpa using h'
    unfold ftx at nA;rw[if_pos (by rw[ATK]),ATe]at nA;exact Ii (c:=47) (by decide) (fun z=>absurd z.1 (by decide)) q nA
   | b=>exact hB.no _ hq z
   | o=>exact absurd h (by decide)
   | bb=>exact absurd h (by decide)
  .subst e;obtain⟨n,_,z,uO⟩:=hx.hv;cases t with
   | w l =>
    have h':decide (l∉ALA)=true:=h;refine of_decide_eq_true h' (ARR.mpr ⟨n,ASh.mpr (by omega),?_⟩);rw[show l=ftx ((n:Int):Rat) from z];unfold ftx;rw[if_pos (by rw[ATK]),ATe];unfold itx;rw[if_neg (by omega),ATg]
   | b=>exact hB.no _ (X6 uO) z
   | o=>exact absurd h (by decide)
   | bb=>exact absurd h (by decide)
  .subst e;cases t with
   | w l =>
    have h':decide (l∉Ob)=true:=h;exact of_decide_eq_true h' hx.en.2
   | b=>exact absurd h (by decide)
   | o=>exact absurd h (by decide)
   | bb=>exact absurd h (by decide)
  .subst e;cases t with
   | w l =>
    have h':decide (l∉whs)=true:=h;exact of_decide_eq_true h' hx.wc.2
   | b=>exact absurd h (by decide)
   | o=>exact absurd h (by decide)
   | bb=>exact absurd h (by decide)
  .obtain⟨_,nm⟩:=hx.nm e;cases t with
   | w l =>
    have h':(!nmB l)=true:=by
     rcases e with e | e<;>(subst e;exact h)
    have nm:Nm l:=nm;have:nmB l=true:=by
     have ha:(l.all fun c=>decide (c∈Qf))=true:=ARg.mpr fun c hc=>decide_eq_true (nm.2 c hc);unfold nmB;rw[decide_eq_true nm.1.1,decide_eq_true nm.1.2,ha];rfl
    rw[this]at h';cases h'
   | b=>rcases e with e | e<;>(subst e;exact absurd h (by decide))
   | o=>exact hO.no nm
   | bb=>rcases e with e | e<;>(subst e;exact absurd h (by decide))
def unB(dl:List Nat)(ts:List Tk):Bool:=match Du Dw (sx dl) with
 | none=>true
 | some row=>decide (ts.length<row.length) || (List.range row.length).any fun i=>match row[i]? with
  | none=>false
  | some k=>if i+1=row.length then ADC k (ts.drop i) else ADC k ((ts.drop i).take 1)
def tkB:Tk->Bool
 | .w l=>l.all (fun c=>decide (c<128)&&decide (c≠32))&&decide (l.length<=64)
 | _=>true
def AH8(W:List Nat×List Tk):Bool:=tkB (.w W.1)&&W.2.all tkB&&decide (W.2.length<=10)&&unB W.1 W.2
theorem Ul{c m:Nat}:∀{W:List (List Nat)},(∀w∈W,w.length<=m)->(jn c W).length<=W.length*(m+1)
 | [],_=>ARu _
 | [w],h=>by
  have:=h w (by simp);show w.length<=1*(m+1);omega
 | w::v::r,h=>by
  have h1:=h w (by simp);have h2:=Ul (c:=c) (W:=v::r) fun x hx=>h x (ARb _ hx);show(w++c::jn c (v::r)).length<=((v::r).length+1)*(m+1);rw[ARG,ARD,Nat.add_mul];omega
theorem AHX(hB:Le B)(hO:Zo O){dl:List Nat}(h:AH8 (dl,ts)=true):Unt (jn 32 (dl::ts.map (Tk.cz B O))):=by
 unfold AH8 at h;dsimp only at h;obtain⟨h,hu⟩:=ARB.mp h;obtain⟨h,h10⟩:=ARB.mp h;obtain⟨hd,hts⟩:=ARB.mp h;have h10:=of_decide_eq_true h10;have wk:∀{l:List Nat},tkB (.w l)=true->(∀c∈l,c<128/\c≠32)/\l.length<=64:=fun {l} z=>by
  have z':(l.all (fun c=>decide (c<128)&&decide (c≠32))&&decide (l.length<=64))=true:=z;obtain⟨z1,z2⟩:=ARB.mp z';refine⟨fun c hc=>?_,of_decide_eq_true z2⟩;obtain⟨y1,y2⟩:=ARB.mp (ARg.mp z1 c hc);exact⟨of_decide_eq_true y1,of_decide_eq_true y2⟩
 have one:∀t∈ts,(∀c∈t.cz B O,c<128)/\32∉t.cz B O/\(t.cz B O).length<=66:=fun t ht=>by
  have z:=ARg.mp hts t ht;cases t with
  | w l =>
   obtain⟨z1,z2⟩:=wk z;exact⟨fun c hc=>(z1 c hc).1,fun y=>(z1 _ y).2 rfl,by show l.length<=66;omega⟩
  | b=>exact⟨hB.pln,hB.fr,by have:=hB.len;show B.length<=66;omega⟩
  | o=>exact⟨hO.pln,hO.fr,by have:=hO.len;show O.length<=66;omega⟩
  | bb =>
   refine⟨fun c hc=>?_,fun y=>?_,?_⟩
   .have hc:c∈40::(B++[41]):=hc;rcases ARI.mp hc with y|y
    .rw[y];decide
    .rcases ARP.mp y with y|y
     .exact hB.pln c y
     .rw[ARp.mp y];decide
   .have y:32∈40::(B++[41]):=y;rcases ARI.mp y with y|y
    .cases y
    .rcases ARP.mp y with y|y
     .exact hB.fr y
     .cases ARp.mp y
   .have:=hB.len;show(40::(B++[41])).length<=66;rw[ARD,ARG,ARn];omega
 obtain⟨d1,d2⟩:=wk hd;have fr:∀v∈dl::ts.map (Tk.cz B O),32∉v:=fun v hv=>by
  rcases ARI.mp hv with z|z
  .rw[z];exact fun y=>(d1 _ y).2 rfl
  .obtain⟨t,ht,rfl⟩:=ARR.mp z;exact(one t ht).2.1
 refine⟨AAt (by decide) fun v hv=>?_,?_,fun fP cU init aH aK td=>?_⟩
 .rcases ARI.mp hv with z|z
  .rw[z];exact fun c hc=>(d1 c hc).1
  .obtain⟨t,ht,rfl⟩:=ARR.mp z;exact(one t ht).1
 .have:=Ul (c:=32) (m:=66) (W:=dl::ts.map (Tk.cz B O)) fun v hv=>by
   rcases ARI.mp hv with z|z
   .rw[z];omega
   .obtain⟨t,ht,rfl⟩:=ARR.mp z;exact(one t ht).2.2
  rw[ARD,Io]at this;omega
 .have e:=Fe td.free fr (by simp) (by simp) td.eq.symm;injection e with e1 e2;subst e1;unfold unB at hu;rw[td.form]at hu;dsimp only at hu;have aB:=td.len;have qW:=AS2.mpr td.last;have yu:init.length+aH.length=ts.length:=by
   have:=congrArg List.length e2;rw[ARG,Io]at this;exact this
  rcases ASA.mp hu with z|z
  .have:=of_decide_eq_true z;omega
  .obtain⟨i,hi,z⟩:=AUt.mp z;have hi:=ASh.mp hi;have hk:cU[i]?=some cU[i]:=AQ9 hi;rw[hk]at z;dsimp only at z;have kk:=(Ko td.form).2 _ (ARS hi);have hth:aK[i]?=some (aK[i]'(by rw[td.lth];exact hi)):=AQ9 _;by_cases hl:i+1=cU.length
   .rw[if_pos hl]at z;have ei:i=init.length:=by omega
    have el:(ts.drop i).map (Tk.cz B O)=aH:=by
     rw[AT5,<-e2,ei,List.drop_left'];rfl
    refine Xv hB hO kk (fun y=>?_) (fun t ht=>(one t (ASE ht)).2.1) z _ (td.rd i _ _ _ hk ?_ hth)
    .have:=congrArg List.length y;rw[ARd,ASJ]at this;omega
    .rw[el,ei,ARh (ARH _)];simp
   .rw[if_neg hl]at z;have hi2:i<init.length:=by omega
    have nB:i<ts.length:=by omega
    have et:(ts.drop i).take 1=[ts[i]]:=by
     rw[ASs nB];rfl
    have ew:init[i]?=some (ts[i].cz B O):=by
     have h1:(init++aH)[i]?=(ts.map (Tk.cz B O))[i]?:=by rw[e2]
     rw[AR0 hi2,ARQ,AQ9 nB]at h1;exact h1
    rw[et]at z;refine Xv hB hO kk (by simp) (fun t ht=>by rw[ARp.mp ht];exact(one _ (ARS nB)).2.1) z _ (td.rd i _ _ _ hk ?_ hth);rw[AR0 hi2,ew];rfl
end
def cs(s:String):List Nat:=s.toList.map Char.toNat
def AAc(n:List Nat):List (List Nat×List Tk):=[((cs "cord"),[.w [98],.b]),((cs "cord"),[.w [98],.w [49],.bb,.w [50]]),((cs "cord"),[.w [98],.w [49],.w [40,48,41],.w [49]]),((cs "cord"),[.w [98],.w [49],.w (cs "(-1)"),.w [50]]),((cs "cord"),[.w [98],.w [48]]),((cs "cord"),[.w [98],.w [49],.w [40,50,41]]),((cs "cord"),[.w [98],.w [40,49,41]]),((cs "cord"),[.w [98],.w [49],.w [50]]),((cs "cord"),[.o,.w [49]]),((cs "turn"),[.w [98],.o]),((cs "turn"),[.o,.w n]),((cs "join"),[.w [98],.w n,.o]),((cs "heavier"),[.w [98],.w n,.b,.w [49]]),((cs "heavier"),[.w [98],.w n,.w [49],.b]),((cs "longer"),[.w [98],.w n,.w [49,47,50],.w [49]]),((cs "longer"),[.w [98],.w n,.w [48]]),((cs "span"),[.w n,.w (cs "held"),.w [49],.w [54,49]]),((cs "span"),[.w n,.w (cs "held"),.w [49],.w [45,49]]),((cs "span"),[.w n,.w (cs "held"),.w [49,47,50],.w [51]]),((cs "span"),[.w n,.w (cs "ends"),.w [49],.w [51]]),((cs "count"),[.w n,.w (cs "Held"),.w [49]]),((cs "count"),[.w n,.w (cs "held"),.b]),((cs "mode"),[.w n,.w (cs "held")]),((cs "poly"),[.w n,.w (cs "far")]),((cs "poly"),[.w n]),((cs "alike"),[.w n,.w n]),((cs "alike"),[.w [97],.w n,.w (cs "both")]),((cs "find"),[.w [98],.w [59],.w [49]]),((cs "find"),[.w [98],.w [49],.w [59]]),((cs "find"),[.w [98],.w [49],.w [49]]),((cs "find"),[.w [98],.w [49],.w [59],.w [49],.w [59],.w [49]]),((cs "find"),[.w [98],.b,.w [59],.w [49]]),((cs "even"),[.w [98]]),((cs "even"),[.w [98],.w [49],.b]),((cs "show"),[]),((cs "show"),[.w n,.w n]),((cs "drop"),[.o]),((cs "knot"),[.w [98],.w [49]]),([],[]),([],[.w []]),((cs "Show"),[.w [97]]),((cs "cord"),[.w [],.w [98],.w [49]]),((cs "show"),[.w n,.w []]),([],[.w (cs "show"),.w n]),((cs "cord"),[.w [98],.w [49],.w [],.w [40,49,41],.w [49]]),((cs "turn"),[.w [98],.w [],.w n])]
theorem Yo:∀n∈([[97],[122,113]]:List (List Nat)),∀r∈AAc n,AH8 r=true:=by decide +kernel
def ADq(B O:List Nat)(r:List Nat×List Tk):List Nat:=jn 32 (r.1::r.2.map (Tk.cz B O))
abbrev rCt:V->V->Hp->VK->Prop:=fun x y H Q=>∃i j,x=V.str i/\y=V.str j/\i.length+j.length<=sizeLine/\Q (V.str (i++j)) H
section
variable {c:Int}{n B O:List Nat}{v:Option V}
def ZV(c:Int)(n B O:List Nat)(v:Option V):L2.St:=[some (.int c),some (.str (sx n)),some (.str (sx B)),some (.str (sx O)),v]
def TxE(c:Int)(n B O:List Nat)(te:TE)(l:List Nat)(m:Nat):Prop:=l.length<=m/\∀v H Q,Q (.str (sx l)) H->te (ZV c n B O v) H Q
theorem tc(a:String)(h:Str.ofString a=sx (cs a):=by rfl)(hl:(cs a).length<=30:=by decide):TxE c n B O (tC (.str (Str.ofString a))) (cs a) 30:=⟨hl,fun v H Q q=>by rw[h];exact q⟩
theorem tn(h:n.length<=2:=by assumption):TxE c n B O (Qd 1) n 2:=⟨h,fun v H Q q=>⟨_,rfl,q⟩⟩
theorem tb(h:B.length<=64:=by assumption):TxE c n B O (Qd 2) B 64:=⟨h,fun v H Q q=>⟨_,rfl,q⟩⟩
theorem to(h:O.length<=20:=by assumption):TxE c n B O (Qd 3) O 20:=⟨h,fun v H Q q=>⟨_,rfl,q⟩⟩
theorem tx{ta tb:TE}(h1:TxE c n B O ta a i)(h2:TxE c n B O tb b j)(h:i+j<=1000:=by decide):TxE c n B O (tOp rCt ta tb) (a++b) (i+j):=⟨by rw[ARG];exact Nat.add_le_add h1.1 h2.1,fun v H Q q=>h1.2 v H _ (h2.2 v H _ ⟨_,_,rfl,rfl,by
 have h3:=h1.1;have h4:=h2.1;walk_at "a"
 rw[BJ,BJ];omega,by rw[Cy];exact q⟩)⟩
def LsP(c:Int)(n B O:List Nat)(ta:TA)(k:Nat):Prop:=∀v H (Q:List V->Hp->Prop),(∀ls:List (List Nat),ls.length=k->(∀l∈ls,Unt l)->Q (ls.map fun l=>.str (sx l)) H)->ta (ZV c n B O v) H Q
theorem LsP.nil:LsP c n B O NB 0:=fun v H Q q=>q [] rfl fun l hl=>absurd hl (by simp)
theorem LsP.cons{te:TE}{ta:TA}{l:List Nat}{m k:Nat}(h1:TxE c n B O te l m)(h2:Unt l)(h3:LsP c n B O ta k):LsP c n B O (Ha te ta) (k+1):=fun v H Q q=>h1.2 v H _ (h3 v H _ fun ls hl hs=>q (l::ls) (by rw[ARD,hl]) fun x hx=>by
 rcases ARI.mp hx with z|z
 .rw[z];exact h2
 .exact hs x z)
structure G86(n B O:List Nat):Prop where
 b:Le B
 o:Zo O
 n:n∈([[97],[122,113]]:List (List Nat))
theorem LsP.cns(G:G86 n B O)(h1:TxE c n B O te l m)(i:Nat)(h3:LsP c n B O ta k)(h:(AAc n)[i]?=some r:=by rfl)(e:ADq B O r=l:=by first | rfl | simp[ADq,jn,Tk.cz,cs]):LsP c n B O (Ha te ta) (k+1):=.cons h1 (e ▸ AHX G.b G.o (Yo n G.n r (ARf h))) h3
theorem ALv(h:Ve t u D (Y.set i (some x)) H):DP i x Y H (Ve t u D):=h
theorem Ww(iE:LsP c n B O ta j)(kj:j<=1000)(q:∀(L':Addr) (ls':List (List Nat)) (H':Hp),Al H H'->H L'=none->H' L'=some (.lst (ls'.map fun l=>.str (sx l)))->ls'.length=j->(∀l∈ls',Unt l)->u D (ZV c n B O (some (.ref L'))) H'):Ve (Qe (WR ta) (DP 4)) u D (ZV c n B O v) H:=by
 walk_at "a"
 exact iE _ H _ fun l2 hl2 h2=>⟨by rw[Io];omega,fun L2 hL2=>q L2 l2 _ (Aj hL2 _) hL2 Ag hl2 h2⟩
theorem Dd{ta:TA}{H:Hp}{L:Addr}{ls:List (List Nat)}{k j:Nat}{u:TS}{D:L2.Ends}(iE:LsP c n B O ta j)(hL:H L=some (.lst (ls.map fun l=>.str (sx l))))(hk:ls.length=k)(hls:∀l∈ls,Unt l)(kj:k+j<=1000)(q:∀(L':Addr) (ls':List (List Nat)) (H':Hp),Al H H'->H L'=none->H' L'=some (.lst (ls'.map fun l=>.str (sx l)))->ls'.length=k+j->(∀l∈ls',Unt l)->u D (ZV c n B O (some (.ref L'))) H'):Ve (Qe (tOp ACn (Qd 4) (WR ta)) (DP 4)) u D (ZV c n B O (some (.ref L))) H:=by
 walk_at "a"
 refine⟨_,rfl,iE _ H _ fun l2 hl2 h2=>⟨by rw[Io];omega,fun L2 hL2=>?_⟩⟩;have u2:=Aj hL2 (.lst (l2.map fun l=>V.str (sx l)));refine⟨L,L2,_,_,rfl,rfl,u2 _ _ hL,Ag,by rw[Io,Io];omega,fun L3 kY=>?_⟩;have u3:=Aj kY (.lst ((ls.map fun l=>V.str (sx l))++l2.map fun l=>V.str (sx l)));refine q L3 (ls++l2) _ (u2.trans u3) (u2.free kY) (by rw[Ag,ARU]) (by rw[ARG];omega) fun l hl=>?_;rcases ARP.mp hl with z|z
 .exact hls l z
 .exact h2 l z
end
def U6:Sp:=fun vs H Q _=>∃(c:Int) (n:List Nat),vs=[.int c,.str (sx n)]/\n∈([[97],[122,113]]:List (List Nat))/\∀(r:Addr) (rows:List (List Nat)) H',Al H H'->H r=none->H' r=some (.lst (rows.map fun l=>.str (sx l)))->rows.length=46->(∀l∈rows,Unt l)->Q (.ref r) H'
theorem Bc:Ao ["_law_cell","_law_name","_law_bad","_law_odd","_law_rows"] ["_law_cell","_law_name"] (Ae Il):=fsc
theorem R9(F:Fun K "_law_texts" "_law_texts" Il f fd)(T:Txt mg)(aX:Cal P w K mg base "_law_bad_fraction" 1 ["_law_cell"] Xw)(bW:Cal P w K mg base "_law_bad_name" 1 ["_law_cell"] YK):BR P w K mg base CX0 2 f fd ["_law_cell","_law_name"] U6:=by
 refine F.okk Bc fun vs H Q E h=>?_;obtain⟨c,n,rfl,hn,k⟩:=h;refine⟨rfl,fun cdv A outer s hr=>?_⟩;refine Mi ?_;refine⟨_,(Bf (CW (i:=2) Bc.nd rfl (Or.inl rfl) (BZ (BW aX hr (Aa (pv 0) Ab))))
   (Bf (CW (i:=3) Bc.nd rfl (Or.inl rfl) (BZ (BW bW hr (Aa (pv 0) Ab))))
   (Bf (CW (i:=4) Bc.nd rfl (Or.inl rfl) (DX (Be (BZ (Ak Ah Ai (pv 2))) (Be (BZ (Ak Ah (Ak Ah Ai (pv 2)) Ai)) (Aw BK (Aw BK (Aw BK BX)))))))
   (Bf (CW (i:=4) Bc.nd rfl (Or.inl rfl) (Ei (BZ (pv 4)) (DX (Aw BK BX))))
   (Bf (CW (i:=4) Bc.nd rfl (Or.inl rfl) (Ei (BZ (pv 4)) (DX (Aw BK (Aw BK (Be (BZ (Ak Ah (Ak Ah Ai (pv 3)) Ai)) (Be (BZ (Ak Ah Ai (pv 3))) (Be (BZ (Ak Ah (Ak Ah (Ak Ah Ai (pv 3)) Ai) (pv 1))) BX))))))))
   (Bf (CW (i:=4) Bc.nd rfl (Or.inl rfl) (Ei (BZ (pv 4)) (DX (Be (BZ (Ak Ah (Ak Ah (Ak Ah Ai (pv 1)) Ai) (pv 3))) (Be (BZ (Ak Ah (Ak Ah (Ak Ah (Ak Ah Ai (pv 1)) Ai) (pv 2)) Ai)) BX)))))
   (Bf (CW (i:=4) Bc.nd rfl (Or.inl rfl) (Ei (BZ (pv 4)) (DX (Be (BZ (Ak Ah (Ak Ah (Ak Ah Ai (pv 1)) Ai) (pv 2))) (Be (BZ (Ak Ah (Ak Ah Ai (pv 1)) Ai)) BX)))))
   (Bf (CW (i:=4) Bc.nd rfl (Or.inl rfl) (Ei (BZ (pv 4)) (DX (Be (BZ (Ak Ah (Ak Ah Ai (pv 1)) Ai)) (Be (BZ (Ak Ah (Ak Ah Ai (pv 1)) Ai)) BX)))))
   (Bf (CW (i:=4) Bc.nd rfl (Or.inl rfl) (Ei (BZ (pv 4)) (DX (Be (BZ (Ak Ah (Ak Ah Ai (pv 1)) Ai)) (Be (BZ (Ak Ah (Ak Ah Ai (pv 1)) Ai)) (Be (BZ (Ak Ah (Ak Ah Ai (pv 1)) Ai)) BX))))))
   (Bf (CW (i:=4) Bc.nd rfl (Or.inl rfl) (Ei (BZ (pv 4)) (DX (Be (BZ (Ak Ah (Ak Ah Ai (pv 1)) Ai)) (Be (BZ (Ak Ah (Ak Ah (Ak Ah Ai (pv 1)) Ai) (pv 2))) (Be (BZ (Ak Ah (Ak Ah Ai (pv 1)) Ai)) BX))))))
   (Bf (CW (i:=4) Bc.nd rfl (Or.inl rfl) (Ei (BZ (pv 4)) (DX (Be (BZ (Ak Ah (Ak Ah Ai (pv 1)) Ai)) (Be (BZ (Ak Ah Ai (pv 1))) (Be (BZ (Ak Ah (Ak Ah (Ak Ah Ai (pv 1)) Ai) (pv 1))) (Be (BZ (Ak Ah (Ak Ah Ai (pv 1)) Ai)) BX)))))))
   (Bf (CW (i:=4) Bc.nd rfl (Or.inl rfl) (Ei (BZ (pv 4)) (DX (Aw BK (Aw BK (Aw BK (Aw BK (Be (BZ (Ak Ah (Ak Ah Ai (pv 2)) Ai)) (Aw BK BX)))))))))
   (Bf (CW (i:=4) Bc.nd rfl (Or.inl rfl) (Ei (BZ (pv 4)) (DX (Be (BZ (Ak Ah Ai (pv 2))) (Aw BK (Be (BZ (Ak Ah (Ak Ah (Ak Ah Ai (pv 1)) Ai) (pv 1))) (Be (BZ (Ak Ah Ai (pv 3))) (Aw BK (Aw BK (Aw BK (Aw BK BX)))))))))))
   (Bf (CW (i:=4) Bc.nd rfl (Or.inl rfl) (Ei (BZ (pv 4)) (DX (Aw BK (Be (BZ (Ak Ah (Ak Ah Ai (pv 1)) Ai)) (Be (BZ (Ak Ah Ai (pv 1))) (Aw BK (Be (BZ (Ak Ah Ai (pv 1))) BX))))))))
   (XM (AAR (BZ (pv 4)))))))))))))))))),?_⟩
 walk_at "a"
 refine⟨_,rfl,c,rfl,fun B H1 s1 hB=>?_⟩;refine⟨_,rfl,c,rfl,fun O H2 s2 hO=>?_⟩;have lB:=hB.len;have lO:=hO.len;have ln:n.length<=2:=(by decide +kernel:∀n∈([[97],[122,113]]:List (List Nat)),n.length<=2) n hn;have G:G86 n B O:=⟨hB,hO,hn⟩;have l0:LsP c n B O _ 5:=(.cns G (tx (tc "cord b ") tb) 0 (.cns G (tx (tx (tc "cord b 1 (") tb) (tc ") 2")) 1 (.cns G (tc "cord b 1 (0) 1") 2 (.cns G (tc "cord b 1 (-1) 2") 3 (.cns G (tc "cord b 0") 4 LsP.nil)))));have l1:LsP c n B O _ 1:=(.cns G (tc "cord b 1 (2)") 5 LsP.nil);have l2:LsP c n B O _ 5:=(.cns G (tc "cord b (1)") 6 (.cns G (tc "cord b 1 2") 7 (.cns G (tx (tx (tc "cord ") to) (tc " 1")) 8 (.cns G (tx (tc "turn b ") to) 9 (.cns G (tx (tx (tx (tc "turn ") to) (tc " ")) tn) 10 LsP.nil)))));have l3:LsP c n B O _ 2:=(.cns G (tx (tx (tx (tc "join b ") tn) (tc " ")) to) 11 (.cns G (tx (tx (tx (tx (tc "heavier b ") tn) (tc " ")) tb) (tc " 1")) 12 LsP.nil));have l4:LsP c n B O _ 2:=(.cns G (tx (tx (tx (tc "heavier b ") tn) (tc " 1 ")) tb) 13 (.cns G (tx (tx (tc "longer b ") tn) (tc " 1/2 1")) 14 LsP.nil));have l5:LsP c n B O _ 2:=(.cns G (tx (tx (tc "longer b ") tn) (tc " 0")) 15 (.cns G (tx (tx (tc "span ") tn) (tc " held 1 61")) 16 LsP.nil));have l6:LsP c n B O _ 3:=(.cns G (tx (tx (tc "span ") tn) (tc " held 1 -1")) 17 (.cns G (tx (tx (tc "span ") tn) (tc " held 1/2 3")) 18 (.cns G (tx (tx (tc "span ") tn) (tc " ends 1 3")) 19 LsP.nil)));have l7:LsP c n B O _ 3:=(.cns G (tx (tx (tc "count ") tn) (tc " Held 1")) 20 (.cns G (tx (tx (tx (tc "count ") tn) (tc " held ")) tb) 21 (.cns G (tx (tx (tc "mode ") tn) (tc " held")) 22 LsP.nil)));have l8:LsP c n B O _ 4:=(.cns G (tx (tx (tc "poly ") tn) (tc " far")) 23 (.cns G (tx (tc "poly ") tn) 24 (.cns G (tx (tx (tx (tc "alike ") tn) (tc " ")) tn) 25 (.cns G (tx (tx (tc "alike a ") tn) (tc " both")) 26 LsP.nil))));have l9:LsP c n B O _ 6:=(.cns G (tc "find b ; 1") 27 (.cns G (tc "find b 1 ;") 28 (.cns G (tc "find b 1 1") 29 (.cns G (tc "find b 1 ; 1 ; 1") 30 (.cns G (tx (tx (tc "find b ") tb) (tc " ; 1")) 31 (.cns G (tc "even b") 32 LsP.nil))))));have l10:LsP c n B O _ 8:=(.cns G (tx (tc "even b 1 ") tb) 33 (.cns G (tc "show") 34 (.cns G (tx (tx (tx (tc "show ") tn) (tc " ")) tn) 35 (.cns G (tx (tc "drop ") to) 36 (.cns G (tc "knot b 1") 37 (.cns G (tc "") 38 (.cns G (tc " ") 39 (.cns G (tc "Show a") 40 LsP.nil))))))));have uP:LsP c n B O _ 5:=(.cns G (tc "cord  b 1") 41 (.cns G (tx (tx (tc "show ") tn) (tc " ")) 42 (.cns G (tx (tc " show ") tn) 43 (.cns G (tc "cord b 1  (1) 1") 44 (.cns G (tx (tc "turn b  ") tn) 45 LsP.nil)))));dsimp only;refine ALv ?_;refine Ww l0 (by decide) fun L0 r0 G0 t0 n0 e0 k0 g0=>?_;have qX:=s1.trans (s2.trans t0);refine Dd l1 e0 k0 g0 (by decide) fun L1 r1 G1 t1 n1 e1 k1 g1=>?_;refine Dd l2 e1 k1 g1 (by decide) fun L2 r2 G2 t2 n2 e2 k2 g2=>?_;refine Dd l3 e2 k2 g2 (by decide) fun L3 r3 G3 t3 n3 e3 k3 g3=>?_;refine Dd l4 e3 k3 g3 (by decide) fun L4 r4 G4 t4 n4 e4 k4 g4=>?_;refine Dd l5 e4 k4 g4 (by decide) fun L5 r5 G5 t5 n5 e5 k5 g5=>?_;refine Dd l6 e5 k5 g5 (by decide) fun L6 r6 G6 t6 n6 e6 k6 g6=>?_;refine Dd l7 e6 k6 g6 (by decide) fun L7 r7 G7 t7 n7 e7 k7 g7=>?_;refine Dd l8 e7 k7 g7 (by decide) fun L8 r8 G8 t8 n8 e8 k8 g8=>?_;refine Dd l9 e8 k8 g8 (by decide) fun L9 r9 G9 t9 n9 e9 k9 g9=>?_;refine Dd l10 e9 k9 g9 (by decide) fun yw r10 yx kK n10 e10 k10 uQ=>?_;refine Dd uP e10 k10 uQ (by decide) fun uR r11 uS uT uU uV k11 uW=>?_;exact⟨_,rfl,k uR r11 uS (((((((((((qX.trans t1).trans t2).trans t3).trans t4).trans t5).trans t6).trans t7).trans t8).trans t9).trans kK).trans uT) (((((((((((qX.trans t1).trans t2).trans t3).trans t4).trans t5).trans t6).trans t7).trans t8).trans t9).trans kK).free uU) uV k11 uW⟩
def gA:List Rat:=[1,1/2,3]
def wA:List Rat:=[2,1/3]
structure MA(m:List Nat->Option (List Rat×List Rat)):Prop where
 a:m [97]=some (gA,wA)
 b:m [98]=none
 z:m [122,113]=none
def AEW:Out->Str->Prop
 | .bead,d=>d="!bead"
 | .nocord p,d=>d=AJG p/\∀m,p=some m->m<=100
 | .worth,d=>d="!worth"
 | _,_=>False
def Ot(l:List Nat)(d:Str):Prop:=(∀c∈l,c<128)/\l.length<=900/\∃dl row init aH aK,Lj l dl row init aH aK /\
 ((d="!name"/\∀m,MA m->∃(i:Nat) (k:Str) (x:Tg),row[i]?=some k/\aK[i]?=some x/\rsv m k x=none) \/
   ∃aQ o,sx dl≠"drop"/\AEW o d/\(∀m,MA m->Rsv m row aK aQ)/\((("new":Str)∈row/\MkR (sx dl) aQ o/\∃n0 Bj,aK=.txt n0::Bj)\/(("new":Str)∉row/\AnR (sx dl) aQ o)))
inductive RsL:List Str->List Tg->List Tg->Prop
 | nil:RsL [] [] []
 | a {r:List Str} {t u:List Tg}:RsL r t u->RsL ("name"::r) (.txt [97]::t) (.cord gA wA::u)
 | o {k:Str} {x:Tg} {r:List Str} {t u:List Tg} (h:RsL r t u) (hk:k≠"name":=by decide):RsL (k::r) (x::t) (x::u)
theorem ABL{k:Str}(h:k≠"name"):rsv m k x=some x:=by
 unfold rsv;cases x<;>simp[h]
theorem AAX:rsv m "name" (.txt l)=(m l).map fun g=>.cord g.1 g.2:=by
 unfold rsv;exact if_pos rfl
theorem RsL.rsv(h:RsL row aK aQ)(ma:MA m):Rsv m row aK aQ:=by
 induction h with
 | nil=>exact⟨rfl,fun i k x h=>by cases h⟩
 | a _ ih =>
  refine⟨by rw[ARD,ARD,ih.1],fun i k x h1 h2=>?_⟩;cases i with
  | zero =>
   cases h1;cases h2;rw[AAX,ma.a];rfl
  | succ j=>exact ih.2 j k x h1 h2
 | o _ hk ih =>
  refine⟨by rw[ARD,ARD,ih.1],fun i k x h1 h2=>?_⟩;cases i with
  | zero =>
   cases h1;cases h2;exact ABL hk
  | succ j=>exact ih.2 j k x h1 h2
def Y4(q:Rat):Bool:=decide (q.num.natAbs<10^30)&&decide (q.den<10^30)
theorem K9(h:Y4 q=true):F30 q:=by
 obtain⟨a,b⟩:=ARB.mp h;exact⟨of_decide_eq_true a,of_decide_eq_true b⟩
def smB(qs:List Rat):Bool:=!qs.isEmpty&&qs.all Y4
theorem W7(h:smB qs=true):Ef qs:=by
 obtain⟨a,b⟩:=ARB.mp h;refine⟨fun z=>?_,fun q hq=>K9 (ARg.mp b q hq)⟩;rw[z]at a;cases a
theorem cA:C30 gA wA:=⟨⟨rfl,by decide,by decide +kernel,by decide +kernel⟩,fun q hq=>K9 ((by decide +kernel:∀q∈gA,Y4 q=true) q hq),fun q hq=>K9 ((by decide +kernel:∀q∈wA,Y4 q=true) q hq)⟩
theorem AF3(h:nmB l=true):Nm l:=by
 walk_at "j";exact⟨⟨of_decide_eq_true a,of_decide_eq_true b⟩,fun c' hc=>of_decide_eq_true (ARg.mp c c' hc)⟩
def AEX(k:Str)(t:List Nat):Tg->Bool
 | .txt m=>(decide (k="new") || decide (k="name"))&&decide (t=m)&&nmB m
 | .cord gs ws=>decide (k="cord")&&decide (gs=gA)&&decide (ws=wA)&&decide (t=jn 32 (Bu gA wA))
 | .frac q=>decide (k="fraction")&&decide (t=ftx q)&&Y4 q
 | .whl i=>decide (k="whole")&&decide (t=ftx (i:Rat))&&Y4 (i:Rat)
 | .wrd m=>((decide (k="end")&&decide (m∈Ob)) || (decide (k="which")&&decide (m∈whs)))&&decide (t=m)
 | .hlv n=>decide (k="halvings")&&decide (t=ftx ((n:Int):Rat))&&decide (n<=60)
 | .pols U L=>decide (k="two polys")&&decide (t=ptx U L)&&(smB U&&smB L)
 | .row qs=>decide (k="length and worths")&&decide (t=jn 32 (Ay qs))&&smB qs
theorem AC6(h:AEX k t x=true):RdT k t x:=by
 cases x with
 | txt m =>
  walk_at "j";refine⟨?_,of_decide_eq_true b,AF3 c⟩;rcases ASA.mp a with z|z
  .exact .inl (of_decide_eq_true z)
  .exact .inr (of_decide_eq_true z)
 | cord gs ws =>
  obtain⟨h,d⟩:=ARB.mp h;walk_at "j";have b:=of_decide_eq_true b;have c:=of_decide_eq_true c;subst b;subst c;exact⟨of_decide_eq_true a,of_decide_eq_true d,cA⟩
 | wrd m =>
  obtain⟨a,b⟩:=ARB.mp h;refine⟨?_,of_decide_eq_true b⟩;rcases ASA.mp a with z|z
  .obtain⟨z1,z2⟩:=ARB.mp z;exact .inl ⟨of_decide_eq_true z1,of_decide_eq_true z2⟩
  .obtain⟨z1,z2⟩:=ARB.mp z;exact .inr ⟨of_decide_eq_true z1,of_decide_eq_true z2⟩
 | frac q =>
  walk_at "j";exact⟨of_decide_eq_true a,of_decide_eq_true b,K9 c⟩
 | whl q =>
  walk_at "j";exact⟨of_decide_eq_true a,of_decide_eq_true b,K9 c⟩
 | hlv q =>
  walk_at "j";exact⟨of_decide_eq_true a,of_decide_eq_true b,of_decide_eq_true c⟩
 | pols U L =>
  walk_at "j";obtain⟨c1,c2⟩:=ARB.mp c;exact⟨of_decide_eq_true a,of_decide_eq_true b,W7 c1,W7 c2⟩
 | row qs =>
  walk_at "j";exact⟨of_decide_eq_true a,of_decide_eq_true b,W7 c⟩
def ADh:List Str->List (List Nat)->List Tg->Bool
 | [],[],[]=>true
 | k::ks,t::ts,x::xs=>AEX k t x&&ADh ks ts xs
 | _,_,_=>false
theorem Xo:∀{ks:List Str} {ts:List (List Nat)} {xs:List Tg},ADh ks ts xs=true->xs.length=ks.length/\∀(i:Nat) k t x,ks[i]?=some k->ts[i]?=some t->xs[i]?=some x->RdT k t x
 | [],[],[],_=>⟨rfl,fun i k t x h=>by cases h⟩
 | k::ks,t::ts,x::xs,h=>by
  obtain⟨a,b⟩:=ARB.mp (show(AEX k t x&&ADh ks ts xs)=true from h);obtain⟨l,r⟩:=Xo b;refine⟨by rw[ARD,ARD,l],fun i k' t' x' h1 h2 h3=>?_⟩;cases i with
  | zero =>
   cases h1;cases h2;cases h3;exact AC6 a
  | succ j=>exact r j k' t' x' h1 h2 h3
 | [],[],_::_,h=>by cases h
 | [],_::_,_,h=>by cases h
 | _::_,[],_,h=>by cases h
 | _::_,_::_,[],h=>by cases h
def Xh(dl:List Nat)(row:List Str)(init aH:List (List Nat))(aK:List Tg):Bool:=decide (Du Dw (sx dl)=some row)&&(dl::(init++aH)).all (fun w=>decide (32∉w))&&decide (aH≠[])&&decide (row.length=init.length+1)&&ADh row (init++[jn 32 aH]) aK&&(jn 32 (dl::(init++aH))).all (fun c=>decide (c<128))&&decide ((jn 32 (dl::(init++aH))).length<=900)
section
variable {dl:List Nat}{row:List Str}{init aH:List (List Nat)}{aK aQ:List Tg}{o:Out}{d:Str}{l:List Nat}
theorem HY(h:Xh dl row init aH aK=true)(e:jn 32 (dl::(init++aH))=l):(∀c∈l,c<128)/\l.length<=900/\Lj l dl row init aH aK:=by
 subst e;obtain⟨h,h7⟩:=ARB.mp h;obtain⟨h,h6⟩:=ARB.mp h;obtain⟨h,h5⟩:=ARB.mp h;obtain⟨h,h4⟩:=ARB.mp h;obtain⟨h,h3⟩:=ARB.mp h;obtain⟨h1,h2⟩:=ARB.mp h;obtain⟨r1,r2⟩:=Xo h5;exact⟨fun c hc=>of_decide_eq_true (ARg.mp h6 c hc),of_decide_eq_true h7,rfl,of_decide_eq_true h1,fun w hw=>of_decide_eq_true (ARg.mp h2 w hw),of_decide_eq_true h3,of_decide_eq_true h4,r1,r2⟩
theorem Gg(dl:List Nat)(row:List Str)(init aH:List (List Nat))(aK:List Tg)(i:Nat)(hi:row[i]?=some ("name":Str))(hx:aK[i]?=some (.txt [122,113]))(h:Xh dl row init aH aK=true:=by decide +kernel)(e:jn 32 (dl::(init++aH))=l:=by rfl):Ot l "!name":=by
 obtain⟨a,b,c⟩:=HY h e;exact⟨a,b,dl,row,init,aH,aK,c,.inl ⟨rfl,fun m ma=>⟨i,_,_,hi,hx,by rw[AAX,ma.z];rfl⟩⟩⟩
theorem Gb(dl:List Nat)(row:List Str)(init aH:List (List Nat))(aK:List Tg){Bj:List Tg}(hr:RsL row aK aQ)(mk:MkR (sx dl) aQ o)(ht:aK=.txt n0::Bj)(due:AEW o d)(h:Xh dl row init aH aK=true:=by decide +kernel)(hd:sx dl≠"drop":=by decide +kernel)(hn:("new":Str)∈row:=by decide +kernel)(e:jn 32 (dl::(init++aH))=l:=by rfl):Ot l d:=by
 obtain⟨a,b,c⟩:=HY h e;exact⟨a,b,dl,row,init,aH,aK,c,.inr ⟨aQ,o,hd,due,fun m ma=>hr.rsv ma,.inl ⟨hn,mk,n0,Bj,ht⟩⟩⟩
theorem AAo(dl:List Nat)(row:List Str)(init aH:List (List Nat))(aK:List Tg)(hr:RsL row aK aQ)(an:AnR (sx dl) aQ o)(due:AEW o d)(h:Xh dl row init aH aK=true:=by decide +kernel)(hd:sx dl≠"drop":=by decide +kernel)(hn:("new":Str)∉row:=by decide +kernel)(e:jn 32 (dl::(init++aH))=l:=by rfl):Ot l d:=by
 obtain⟨a,b,c⟩:=HY h e;exact⟨a,b,dl,row,init,aH,aK,c,.inr ⟨aQ,o,hd,due,fun m ma=>hr.rsv ma,.inr ⟨hn,an⟩⟩⟩
end
theorem ovI(h:(A.all fun q=>decide (q.den=1)&&decide (q.num.natAbs<1000))=true):Po.OvN 10 A:=by
 refine⟨1,by decide,by show(1:Int).natAbs<2^10;decide,fun q hq=>?_⟩;obtain⟨a,b⟩:=ARB.mp (ARg.mp h q hq);have a:=of_decide_eq_true a;have b:=of_decide_eq_true b;refine⟨q.num,by show q.num.natAbs<2^10;omega,?_⟩;have:q=(q.num:Rat):=AVj (by rw[ATe]) (by rw[a,ATK]);rw[show((1:Int):Rat)=1 from rfl,Rat.mul_one];exact this
theorem Wu{U L:List Rat}{n:Nat}(lu:U.length=n+1)(ll:L.length=n+1)(hn:n<=12)(one:L[0]?=some 1)(bu:∀q∈U,Bq 1300 q)(bl:∀q∈L,Bq 1300 q)(h:∀p,p<2*n+1->(∀j,j<p->0<Po.qp U L j)->((Po.abp U L p).1.all fun q=>decide (q.den=1)&&decide (q.num.natAbs<1000))=true/\((Po.abp U L p).2.all fun q=>decide (q.den=1)&&decide (q.num.natAbs<1000))=true):Vs U L n:=⟨lu,ll,hn,one,bu,bl,fun p hp hg=>⟨10,10,ovI (h p hp hg).1,ovI (h p hp hg).2,by decide⟩⟩
theorem APB:Vs (Po.strip [(-1:Rat)]) (Po.strip [(1:Rat)]) 0:=Wu (by decide +kernel) (by decide +kernel) (by decide) (by decide +kernel) (by unfold Bq Bt;decide +kernel) (by unfold Bq Bt;decide +kernel) (by decide +kernel)
theorem APi:Vs (Po.strip [(1:Rat),(1:Rat)]) (Po.strip [(1:Rat),(1:Rat)]) 1:=Wu (by decide +kernel) (by decide +kernel) (by decide) (by decide +kernel) (by unfold Bq Bt;decide +kernel) (by unfold Bq Bt;decide +kernel) (by decide +kernel)
theorem APz:Vs (Po.strip [(1:Rat),(2:Rat)]) (Po.strip [(1:Rat),(1:Rat)]) 1:=Wu (by decide +kernel) (by decide +kernel) (by decide) (by decide +kernel) (by unfold Bq Bt;decide +kernel) (by unfold Bq Bt;decide +kernel) (by decide +kernel)
theorem md0:ADf gA wA 0:=by
 unfold ADf Bq Bt;decide +kernel
theorem o0:Ot (cs "turn b zq") "!name":=Gg (cs "turn") ["new","name"] [[98]] [[122,113]] [.txt [98],.txt [122,113]] 1 rfl rfl
theorem o1:Ot (cs "join b a zq") "!name":=Gg (cs "join") ["new","name","name"] [[98],[97]] [[122,113]] [.txt [98],.txt [97],.txt [122,113]] 2 rfl rfl
theorem o2:Ot (cs "heavier b zq 9 0") "!name":=Gg (cs "heavier") ["new","name","whole","fraction"] [[98],[122,113],[57]] [[48]] [.txt [98],.txt [122,113],.whl 9,.frac 0] 1 rfl rfl
theorem o3:Ot (cs "span zq held 99 3") "!name":=Gg (cs "span") ["name","end","whole","halvings"] [[122,113],(cs "held"),[57,57]] [[51]] [.txt [122,113],.wrd (cs "held"),.whl 99,.hlv 3] 0 rfl rfl
theorem o4:Ot (cs "show zq") "!name":=Gg (cs "show") ["name"] [] [[122,113]] [.txt [122,113]] 0 rfl rfl
theorem o5:Ot (cs "drop zq") "!name":=Gg (cs "drop") ["name"] [] [[122,113]] [.txt [122,113]] 0 rfl rfl
theorem o6:Ot (cs "alike a zq held") "!name":=Gg (cs "alike") ["name","name","end"] [[97],[122,113]] [(cs "held")] [.txt [97],.txt [122,113],.wrd (cs "held")] 1 rfl rfl
theorem o7:Ot (cs "mode zq loose 0") "!name":=Gg (cs "mode") ["name","end","fraction"] [[122,113],(cs "loose")] [[48]] [.txt [122,113],.wrd (cs "loose"),.frac 0] 0 rfl rfl
theorem AO2:Ot (cs "heavier b a 0 -1") "!bead":=Gb (cs "heavier") ["new","name","whole","fraction"] [[98],[97],[48]] [[45,49]] [.txt [98],.txt [97],.whl 0,.frac (-1)] (.o (.a (.o (.o .nil)))) (.heavB (by decide)) rfl rfl
theorem APo:Ot (cs "heavier b a 3 -1") "!bead":=Gb (cs "heavier") ["new","name","whole","fraction"] [[98],[97],[51]] [[45,49]] [.txt [98],.txt [97],.whl 3,.frac (-1)] (.o (.a (.o (.o .nil)))) (.heavB (by decide)) rfl rfl
theorem APZ:Ot (cs "heavier b a -1 -1") "!bead":=Gb (cs "heavier") ["new","name","whole","fraction"] [[98],[97],[45,49]] [[45,49]] [.txt [98],.txt [97],.whl (-1),.frac (-1)] (.o (.a (.o (.o .nil)))) (.heavB (by decide)) rfl rfl
theorem o9:Ot (cs "longer b a 3 0") "!bead":=Gb (cs "longer") ["new","name","whole","fraction"] [[98],[97],[51]] [[48]] [.txt [98],.txt [97],.whl 3,.frac 0] (.o (.a (.o (.o .nil)))) (.longB (by decide)) rfl rfl
theorem o10:Ot (cs "longer b a -1 1") "!bead":=Gb (cs "longer") ["new","name","whole","fraction"] [[98],[97],[45,49]] [[49]] [.txt [98],.txt [97],.whl (-1),.frac 1] (.o (.a (.o (.o .nil)))) (.longB (by decide)) rfl rfl
theorem o11:Ot (cs "heavier b a 1 0") "!cordNone":=Gb (cs "heavier") ["new","name","whole","fraction"] [[98],[97],[49]] [[48]] [.txt [98],.txt [97],.whl 1,.frac 0] (.o (.a (.o (.o .nil)))) (.heavC (by decide) (by decide +kernel)) rfl (⟨rfl,fun m z=>nomatch z⟩)
theorem o12:Ot (cs "longer b a 2 -1/2") "!cordNone":=Gb (cs "longer") ["new","name","whole","fraction"] [[98],[97],[50]] [(cs "-1/2")] [.txt [98],.txt [97],.whl 2,.frac (-1/2)] (.o (.a (.o (.o .nil)))) (.longC (by decide) (by decide +kernel)) rfl (⟨rfl,fun m z=>nomatch z⟩)
theorem o13:Ot (cs "find b 1 2 ; 1") "!cordNone":=Gb (cs "find") ["new","two polys"] [[98]] [[49],[50],[59],[49]] [.txt [98],.pols [1,2] [1]] (.o (.o .nil)) (.findB (by decide +kernel) (by decide +kernel) (by unfold Eh;decide +kernel)) rfl (⟨rfl,fun m z=>nomatch z⟩)
theorem o14:Ot (cs "find b 1 ; 2") "!cordNone":=Gb (cs "find") ["new","two polys"] [[98]] [[49],[59],[50]] [.txt [98],.pols [1] [2]] (.o (.o .nil)) (.findB (by decide +kernel) (by decide +kernel) (by unfold Eh;decide +kernel)) rfl (⟨rfl,fun m z=>nomatch z⟩)
theorem o15:Ot (cs "find b -1 ; 1") "!cord0":=Gb (cs "find") ["new","two polys"] [[98]] [[45,49],[59],[49]] [.txt [98],.pols [-1] [1]] (.o (.o .nil)) (.findM (n:=0) (m:=0) (by decide +kernel) (by decide +kernel) (by unfold Eh;decide +kernel) APB (by unfold Uy;decide +kernel)) rfl (⟨by decide +kernel,fun m z=>by cases z;decide⟩)
theorem o16:Ot (cs "find b 1 0 ; 1 -1") "!cordNone":=Gb (cs "find") ["new","two polys"] [[98]] [[49],[48],[59],[49],[45,49]] [.txt [98],.pols [1,0] [1,-1]] (.o (.o .nil)) (.findB (by decide +kernel) (by decide +kernel) (by unfold Eh;decide +kernel)) rfl (⟨rfl,fun m z=>nomatch z⟩)
theorem o17:Ot (cs "even b 0") "!worth":=Gb (cs "even") ["new","length and worths"] [[98]] [[48]] [.txt [98],.row [0]] (.o (.o .nil)) (.even (by decide) (fun y hy=>absurd hy (by simp)) (.inr (by decide +kernel))) rfl rfl
theorem o18:Ot (cs "even b 1 2 2") "!worth":=Gb (cs "even") ["new","length and worths"] [[98]] [[49],[50],[50]] [.txt [98],.row [1,2,2]] (.o (.o .nil)) (.even (by decide) (by unfold Bq Bt;decide +kernel) (.inl (by decide +kernel))) rfl rfl
theorem o19:Ot (cs "find b 1 1 ; 1 1") "!cord1":=Gb (cs "find") ["new","two polys"] [[98]] [[49],[49],[59],[49],[49]] [.txt [98],.pols [1,1] [1,1]] (.o (.o .nil)) (.findM (n:=1) (m:=1) (by decide +kernel) (by decide +kernel) (by unfold Eh;decide +kernel) APi (by unfold Uy;decide +kernel)) rfl (⟨by decide +kernel,fun m z=>by cases z;decide⟩)
theorem o20:Ot (cs "find b 1 2 ; 1 1") "!cord2":=Gb (cs "find") ["new","two polys"] [[98]] [[49],[50],[59],[49],[49]] [.txt [98],.pols [1,2] [1,1]] (.o (.o .nil)) (.findM (n:=1) (m:=2) (by decide +kernel) (by decide +kernel) (by unfold Eh;decide +kernel) APz (by unfold Uy;decide +kernel)) rfl (⟨by decide +kernel,fun m z=>by cases z;decide⟩)
theorem o21:Ot (cs "span a held 0 3") "!worth":=AAo (cs "span") ["name","end","whole","halvings"] [[97],(cs "held"),[48]] [[51]] [.txt [97],.wrd (cs "held"),.whl 0,.hlv 3] (.a (.o (.o (.o .nil)))) (.span (by decide)) rfl
theorem o22:Ot (cs "span a loose 3 3") "!worth":=AAo (cs "span") ["name","end","whole","halvings"] [[97],(cs "loose"),[51]] [[51]] [.txt [97],.wrd (cs "loose"),.whl 3,.hlv 3] (.a (.o (.o (.o .nil)))) (.span (by decide)) rfl
theorem o23:Ot (cs "mode a held 0") "!worth":=AAo (cs "mode") ["name","end","fraction"] [[97],(cs "held")] [[48]] [.txt [97],.wrd (cs "held"),.frac 0] (.a (.o (.o .nil))) (.mode md0 (by decide +kernel)) rfl
section
variable {c b:Int}{v:Option V}
def So(c b:Int)(v:Option V):L2.St:=[some (.int c),some (.str (sx [122,113])),some (.int b),v]
def TxF(c b:Int)(te:TE)(l:List Nat)(m:Nat):Prop:=l.length<=m/\∀v H Q,(∀H',Al H H'->Q (.str (sx l)) H')->te (So c b v) H Q
theorem fc(a:String)(h:Str.ofString a=sx (cs a):=by rfl)(hl:(cs a).length<=30:=by decide):TxF c b (tC (.str (Str.ofString a))) (cs a) 30:=⟨hl,fun v H Q q=>by rw[h];exact q H (Al.refl _)⟩
theorem fz:TxF c b (Qd 1) [122,113] 2:=⟨by decide,fun v H Q q=>⟨_,rfl,q H (Al.refl _)⟩⟩
theorem fx{ta tb:TE}(h1:TxF c b ta x i)(h2:TxF c b tb y j)(h:i+j<=1000:=by decide):TxF c b (tOp rCt ta tb) (x++y) (i+j):=⟨by rw[ARG];exact Nat.add_le_add h1.1 h2.1,fun v H Q q=>h1.2 v H _ fun H1 s1=>h2.2 v H1 _ fun H2 s2=>⟨_,_,rfl,rfl,by
 have h3:=h1.1;have h4:=h2.1;walk_at "a"
 rw[BJ,BJ];omega,by rw[Cy];exact q H2 (s1.trans s2)⟩⟩
def PrV(H:Hp)(v:V)(p:List Nat×Str):Prop:=∃a,v=.ref a/\H a=some (.tup [.str (sx p.1),.str p.2])
theorem PrV.keep{v:V}(h:PrV H v p)(s:Al H H'):PrV H' v p:=by
 obtain⟨a,e,k⟩:=h;exact⟨a,e,s _ _ k⟩
def LsO(c b:Int)(ta:TA)(k:Nat):Prop:=∀v H (Q:List V->Hp->Prop),(∀(vs:List V) (ps:List (List Nat×Str)) H',Al H H'->Paired (PrV H') vs ps->ps.length=k->(∀p∈ps,Ot p.1 p.2)->Q vs H')->ta (So c b v) H Q
theorem LsO.nil:LsO c b NB 0:=fun v H Q q=>q [] [] H (Al.refl _) .nil rfl fun l hl=>absurd hl (by simp)
theorem LsO.cons{te:TE}{ta:TA}{l:List Nat}{m k:Nat}(h1:TxF c b te l m)(d:String)(h2:Ot l (Str.ofString d))(h3:LsO c b ta k):LsO c b (Ha (AGV (Ha te (Ha (tC (.str (Str.ofString d))) NB))) ta) (k+1):=fun v H Q q=>h1.2 v H _ fun H1 s1=>⟨by show 2<=sizeLine;decide,fun p hp=>by
 have u:=Aj hp (.tup [.str (sx l),.str (Str.ofString d)]);refine h3 v _ _ fun vs ps H' s' pr hk hs=>q (.ref p::vs) ((l,Str.ofString d)::ps) H' (s1.trans (u.trans s')) (.cons ⟨p,rfl,s' _ _ Ag⟩ pr) (by rw[ARD,hk]) fun x hx=>?_;rcases ARI.mp hx with z|z
 .rw[z];exact h2
 .exact hs x z⟩
theorem ADV(iE:LsO c b ta j)(kj:j<=1000)(q:∀(L':Addr) (vs:List V) (ps:List (List Nat×Str)) (H':Hp),Al H H'->H' L'=some (.lst vs)->Paired (PrV H') vs ps->ps.length=j->(∀p∈ps,Ot p.1 p.2)->u D (So c b (some (.ref L'))) H'):Ve (Qe (WR ta) (DP 3)) u D (So c b v) H:=by
 walk_at "a"
 refine iE _ H _ fun vs ps H1 s1 pr hl h2=>⟨by have:=AR1 pr;omega,fun L2 hL2=>?_⟩;have u2:=Aj hL2 (.lst vs);exact q L2 vs ps _ (s1.trans u2) Ag (Paired.imp' (fun _ _ z=>PrV.keep z u2) pr) hl h2
theorem M6{ta:TA}{H:Hp}{L:Addr}{vs:List V}{ps:List (List Nat×Str)}{k j:Nat}{u:TS}{D:L2.Ends}(iE:LsO c b ta j)(hL:H L=some (.lst vs))(pr:Paired (PrV H) vs ps)(hk:ps.length=k)(hls:∀p∈ps,Ot p.1 p.2)(kj:k+j<=1000)(q:∀(L':Addr) (vs':List V) (ps':List (List Nat×Str)) (H':Hp),Al H H'->H' L'=some (.lst vs')->Paired (PrV H') vs' ps'->ps'.length=k+j->(∀p∈ps',Ot p.1 p.2)->u D (So c b (some (.ref L'))) H'):Ve (Qe (tOp ACn (Qd 3) (WR ta)) (DP 3)) u D (So c b (some (.ref L))) H:=by
 walk_at "a"
 have lv:=AR1 pr;refine⟨_,rfl,iE _ H _ fun vs2 ps2 H1 s1 nE hl2 h2=>⟨by have:=AR1 nE;omega,fun L2 hL2=>?_⟩⟩;have yy:=AR1 nE;have u2:=Aj hL2 (.lst vs2);refine⟨L,L2,_,_,rfl,rfl,u2 _ _ (s1 _ _ hL),Ag,by omega,fun L3 kY=>?_⟩;have u3:=Aj kY (.lst (vs++vs2));have s3:=s1.trans (u2.trans u3);refine q L3 (vs++vs2) (ps++ps2) _ s3 Ag (PL (Paired.imp' (fun _ _ z=>PrV.keep z s3) pr) (Paired.imp' (fun _ _ z=>PrV.keep z (u2.trans u3)) nE)) (by rw[ARG];omega) fun p hp=>?_;rcases ARP.mp hp with z|z
 .exact hls p z
 .exact h2 p z
end
def VH:Sp:=fun vs H Q _=>∃(c:Int),vs=[.int c,.str (sx [122,113])]/\∀(r:Addr) (us:List V) (ps:List (List Nat×Str)) (H':Hp),Al H H'->H' r=some (.lst us)->Paired (PrV H') us ps->ps.length=24->(∀p∈ps,Ot p.1 p.2)->Q (.ref r) H'
theorem Bo:Ao ["_law_cell","_law_name","_law_beads","_law_rows"] ["_law_cell","_law_name"] (Ae JC):=fsc
theorem SN(F:Fun K "_law_other" "_law_other" JC f fd)(T:Txt mg):BR P w K mg base CX0 1 f fd ["_law_cell","_law_name"] VH:=by
 refine F.okk Bo fun vs H Q E h=>?_;obtain⟨c,rfl,k⟩:=h;refine⟨rfl,fun cdv A outer s hr=>?_⟩;refine Mi ?_;refine⟨_,(Bf (CW (i:=2) Bo.nd rfl (Or.inl rfl) (BZ (Ak Dm (Ak Ca (pv 0) Ad) Ad)))
   (Bf (CW (i:=3) Bo.nd rfl (Or.inl rfl) (DX (Bw (Cz (Be (BZ (Ak Ah Ai (pv 1))) (Aw BK BX))) (Bw (Cz (Be (BZ (Ak Ah Ai (pv 1))) (Aw BK BX))) (Bw (Cz (Be (BZ (Ak Ah (Ak Ah Ai (pv 1)) Ai)) (Aw BK BX))) BX)))))
   (Bf (CW (i:=3) Bo.nd rfl (Or.inl rfl) (Ei (BZ (pv 3)) (DX (Bw (Cz (Be (BZ (Ak Ah (Ak Ah Ai (pv 1)) Ai)) (Aw BK BX))) (Bw (Cz (Be (BZ (Ak Ah Ai (pv 1))) (Aw BK BX))) (Bw (Cz (Be (BZ (Ak Ah Ai (pv 1))) (Aw BK BX))) BX))))))
   (Bf (CW (i:=3) Bo.nd rfl (Or.inl rfl) (Ei (BZ (pv 3)) (DX (Bw (Cz (Be (BZ (Ak Ah (Ak Ah Ai (pv 1)) Ai)) (Aw BK BX))) (Bw (Cz (Be (BZ (Ak Ah (Ak Ah Ai (pv 1)) Ai)) (Aw BK BX))) BX)))))
   (Bf (CW (i:=3) Bo.nd rfl (Or.inl rfl) (Ei (BZ (pv 3)) (DX (Bw (Cz (Be (BZ (Ak Ah (Ak Ah Ai (Cu Hg rfl T.z_str boot_str (Aa (ixL (Ff (Aa Ad (Aa Ad (Aa (Hv Fi Ad) Ab)))) (pv 2)) Ab))) Ai)) (Aw BK BX))) (Bw (Cz (Aw BK (Aw BK BX))) BX)))))
   (Bf (CW (i:=3) Bo.nd rfl (Or.inl rfl) (Ei (BZ (pv 3)) (DX (Bw (Cz (Aw BK (Aw BK BX))) (Bw (Cz (Aw BK (Aw BK BX))) (Bw (Cz (Aw BK (Aw BK BX))) BX))))))
   (Bf (CW (i:=3) Bo.nd rfl (Or.inl rfl) (Ei (BZ (pv 3)) (DX (Bw (Cz (Aw BK (Aw BK BX))) (Bw (Cz (Aw BK (Aw BK BX))) (Bw (Cz (Aw BK (Aw BK BX))) BX))))))
   (Bf (CW (i:=3) Bo.nd rfl (Or.inl rfl) (Ei (BZ (pv 3)) (DX (Bw (Cz (Aw BK (Aw BK BX))) (Bw (Cz (Aw BK (Aw BK BX))) (Bw (Cz (Aw BK (Aw BK BX))) BX))))))
   (Bf (CW (i:=3) Bo.nd rfl (Or.inl rfl) (Ei (BZ (pv 3)) (DX (Bw (Cz (Aw BK (Aw BK BX))) (Bw (Cz (Aw BK (Aw BK BX))) BX)))))
   (Bf (CW (i:=3) Bo.nd rfl (Or.inl rfl) (Ei (BZ (pv 3)) (DX (Bw (Cz (Aw BK (Aw BK BX))) (Bw (Cz (Aw BK (Aw BK BX))) (Bw (Cz (Aw BK (Aw BK BX))) BX))))))
   (XM (AAR (BZ (pv 3)))))))))))))),?_⟩
 walk_at "a"
 refine⟨_,rfl,_,_,rfl,rfl,⟨by decide,bt2 (by decide +kernel)⟩,_,_,rfl,rfl,(by show(0:Int)<3;decide),?_⟩;dsimp only;have h0:=AR5 (c/64) (show(3:Int)≠0 by decide);have h3:=ARz (c/64) (show(0:Int)<3 by decide);generalize c/64%3=b at *;obtain⟨z,zl,hz1,o8⟩:∃(z:Int) (zl:List Nat),atI [V.int 0,V.int 3,V.int (-1)] b=some (.int z)/\(z.natAbs.log2<1920/\Str.ofString (toString z)=sx zl/\zl.length<=30)/\Ot (cs "heavier b a "++zl++cs " -1") "!bead":=by
  have:b=0\/b=1\/b=2:=by omega
  rcases this with rfl|rfl|rfl
  .exact⟨0,[48],rfl,⟨by decide,by decide +kernel,by decide⟩,AO2⟩
  .exact⟨3,[51],rfl,⟨by decide,by decide +kernel,by decide⟩,APo⟩
  .exact⟨-1,[45,49],rfl,⟨by decide,by decide +kernel,by decide⟩,APZ⟩
 have fb:TxF c b (tCB (fun xs H Q=>∃i:Int,xs=[V.int i]/\i.natAbs.log2<1920/\Q (V.str (Str.ofString (toString i))) H) (Ha (tOp (ACa K) (WR (Ha (tC (V.int 0)) (Ha (tC (V.int 3)) (Ha (tUn (rU fun i=>V.int (-i)) (tC (V.int 1))) NB)))) (Qd 2)) NB)) zl 30:=⟨o8.1.2.2,fun v H Q q=>by
  refine⟨_,rfl,(by show 3<=sizeLine;decide),fun L hL=>⟨_,rfl,L,_,_,.int z,rfl,rfl,SqL.of Ag,hz1,z,rfl,o8.1.1,?_⟩⟩;rw[o8.1.2.1];exact q _ (Aj hL _)⟩
 have o8:=o8.2;have l0:LsO c b _ 3:=(.cons (fx (fc "turn b ") fz) "!name" o0 (.cons (fx (fc "join b a ") fz) "!name" o1 (.cons (fx (fx (fc "heavier b ") fz) (fc " 9 0")) "!name" o2 LsO.nil)));have l1:LsO c b _ 3:=(.cons (fx (fx (fc "span ") fz) (fc " held 99 3")) "!name" o3 (.cons (fx (fc "show ") fz) "!name" o4 (.cons (fx (fc "drop ") fz) "!name" o5 LsO.nil)));have l2:LsO c b _ 2:=(.cons (fx (fx (fc "alike a ") fz) (fc " held")) "!name" o6 (.cons (fx (fx (fc "mode ") fz) (fc " loose 0")) "!name" o7 LsO.nil));have l3:LsO c b _ 2:=(.cons (fx (fx (fc "heavier b a ") fb) (fc " -1")) "!bead" o8 (.cons (fc "longer b a 3 0") "!bead" o9 LsO.nil));have l4:LsO c b _ 3:=(.cons (fc "longer b a -1 1") "!bead" o10 (.cons (fc "heavier b a 1 0") "!cordNone" o11 (.cons (fc "longer b a 2 -1/2") "!cordNone" o12 LsO.nil)));have l5:LsO c b _ 3:=(.cons (fc "find b 1 2 ; 1") "!cordNone" o13 (.cons (fc "find b 1 ; 2") "!cordNone" o14 (.cons (fc "find b -1 ; 1") "!cord0" o15 LsO.nil)));have l6:LsO c b _ 3:=(.cons (fc "find b 1 0 ; 1 -1") "!cordNone" o16 (.cons (fc "even b 0") "!worth" o17 (.cons (fc "even b 1 2 2") "!worth" o18 LsO.nil)));have l7:LsO c b _ 2:=(.cons (fc "find b 1 1 ; 1 1") "!cord1" o19 (.cons (fc "find b 1 2 ; 1 1") "!cord2" o20 LsO.nil));have l8:LsO c b _ 3:=(.cons (fc "span a held 0 3") "!worth" o21 (.cons (fc "span a loose 3 3") "!worth" o22 (.cons (fc "mode a held 0") "!worth" o23 LsO.nil)));refine ALv ?_;refine ADV l0 (by decide) fun L0 v0 p0 G0 t0 e0 q0 k0 g0=>?_;refine M6 l1 e0 q0 k0 g0 (by decide) fun L1 v1 p1 G1 t1 e1 q1 k1 g1=>?_;refine M6 l2 e1 q1 k1 g1 (by decide) fun L2 v2 p2 G2 t2 e2 q2 k2 g2=>?_;refine M6 l3 e2 q2 k2 g2 (by decide) fun L3 v3 p3 G3 t3 e3 q3 k3 g3=>?_;refine M6 l4 e3 q3 k3 g3 (by decide) fun L4 v4 p4 G4 t4 e4 q4 k4 g4=>?_;refine M6 l5 e4 q4 k4 g4 (by decide) fun L5 v5 p5 G5 t5 e5 q5 k5 g5=>?_;refine M6 l6 e5 q5 k5 g5 (by decide) fun L6 v6 p6 G6 t6 e6 q6 k6 g6=>?_;refine M6 l7 e6 q6 k6 g6 (by decide) fun L7 v7 p7 G7 t7 e7 q7 k7 g7=>?_;refine M6 l8 e7 q7 k7 g7 (by decide) fun L8 v8 p8 G8 t8 e8 q8 k8 g8=>?_;exact⟨_,rfl,k L8 v8 p8 G8 ((((((((t0.trans t1).trans t2).trans t3).trans t4).trans t5).trans t6).trans t7).trans t8) e8 q8 k8 g8⟩
section
variable {K:W.Frag}{CD C cT cM cN cB cW d ka:Addr}{N:Nat}{H:Hp}{m:List Nat->Option (List Rat×List Rat)}{Q:VK}{E:XK}
theorem ACW(dk:Kw CD C N H d ka m)(hN:N<1000)(hu:Unt l)(q:∀H',Al H H'->Q (.str "!text") H'):Ez K CD C cT cM cN cB cW [.ref d,.str (sx l)] H Q E :=
 ⟨N,d,ka,m,_,rfl,dk,hN,.inr ⟨l,rfl,hu.1,hu.2.1,.inl ⟨hu.2.2,fun _ s'=>.inl ⟨rfl,rfl,fun H2 s2=>q H2 (s'.trans s2)⟩⟩⟩⟩
theorem AIh{v:V}(dk:Kw CD C N H d ka m)(hN:N<1000)(nt:Uj K H v)(q:∀H',Al H H'->Q (.str "!text") H'):Ez K CD C cT cM cN cB cW [.ref d,v] H Q E :=
 ⟨N,d,ka,m,v,rfl,dk,hN,.inl ⟨nt,.inl ⟨rfl,rfl,q⟩⟩⟩
theorem AAz(dk:Kw CD C N H d ka m)(hN:N<1000)(ma:MA m)(ho:Ot l t)(q:∀H',Al H H'->Q (.str t) H'):Ez K CD C cT cM cN cB cW [.ref d,.str (sx l)] H Q E:=by
 obtain⟨h1,h2,dl,row,init,aH,aK,td,ho⟩:=ho;refine⟨N,d,ka,m,_,rfl,dk,hN,.inr ⟨l,rfl,h1,h2,.inr ⟨dl,row,init,aH,aK,td,?_⟩⟩⟩;rcases ho with⟨rfl,hx⟩|⟨aQ,o,hd,due,hr,ho⟩
 .exact .inl ⟨hx m ma,fun _ s'=>.inr (.inl ⟨rfl,rfl,fun H2 s2=>q H2 (s'.trans s2)⟩)⟩
 have en:Ends C cN cB cW H Q (Rfs cT cM cN cB cW Q) o:=by
  cases o with
  | cord gs ws=>exact due.elim
  | text x=>exact due.elim
  | bead =>
   have e:t="!bead":=due;subst e;exact fun _ s'=>.inr (.inr (.inl ⟨rfl,rfl,fun H2 s2=>q H2 (s'.trans s2)⟩))
  | nocord p =>
   obtain⟨e,hp⟩:=due;subst e;exact fun dd _ s' ed=>.inr (.inr (.inr (.inr ⟨dd,p,rfl,rfl,ed,hp,fun H2 s2=>q H2 (s'.trans s2)⟩)))
  | worth =>
   have e:t="!worth":=due;subst e;exact fun _ s'=>.inr (.inr (.inr (.inl ⟨rfl,rfl,fun H2 s2=>q H2 (s'.trans s2)⟩)))
 refine .inr ⟨aQ,o,hr m ma,hd,?_⟩;rcases ho with⟨hn,mk,n0,Bj,ht⟩|⟨hn,an⟩
 .refine .inl ⟨hn,mk,n0,Bj,ht,fun gs ws z=>?_,fun _=>en⟩;rw[z]at due;exact due.elim
 .exact .inr ⟨hn,an,en⟩
theorem shA:Str.ofString "1 (2) 1/2 (1/3) 3"=sx (jn 32 (Bu gA wA)):=by decide +kernel
theorem AEt(dk:Kw CD C N H d ka m)(hN:N<1000)(ma:MA m)(q:∀H',Al H H'->Q (.str (Str.ofString "1 (2) 1/2 (1/3) 3")) H'):Ez K CD C cT cM cN cB cW [.ref d,.str (Str.ofString "show a")] H Q E:=by
 obtain⟨h1,h2,td⟩:=HY (dl:=[115,104,111,119]) (row:=["name"]) (init:=[]) (aH:=[[97]]) (aK:=[.txt [97]]) (l:=[115,104,111,119,32,97]) (by decide +kernel) rfl;refine⟨N,d,ka,m,_,rfl,dk,hN,.inr ⟨_,by rw[show Str.ofString "show a"=sx [115,104,111,119,32,97] by decide +kernel],h1,h2,.inr ⟨_,_,_,_,_,td,.inr ⟨[.cord gA wA],.text (jn 32 (Bu gA wA)),RsL.rsv (.a .nil) ma,by decide +kernel,.inr ⟨by decide +kernel,?_,fun H' s'=>?_⟩⟩⟩⟩⟩
 .rw[show sx [115,104,111,119]=Str.ofString "show" by decide +kernel];exact .shown cA
 .rw[<-shA];exact q H' s'
theorem otb:Ot [115,104,111,119,32,98] "!name":=by
 obtain⟨h1,h2,td⟩:=HY (dl:=[115,104,111,119]) (row:=["name"]) (init:=[]) (aH:=[[98]]) (aK:=[.txt [98]]) (l:=[115,104,111,119,32,98]) (by decide +kernel) rfl;exact⟨h1,h2,_,_,_,_,_,td,.inl ⟨rfl,fun m ma=>⟨0,_,_,rfl,rfl,by rw[AAX,ma.b];rfl⟩⟩⟩
theorem Zc(dk:Kw CD C N H d ka (fun _=>none))(hN:N<1000)(q:∀H' m,Sk ka H H'->Kw CD C (N+1) H' d ka m->MA m->Q (.str "ok") H'):Ez K CD C cT cM cN cB cW [.ref d,.str (Str.ofString "cord a 1 (2) 1/2 (1/3) 3")] H Q E:=by
 obtain⟨h1,h2,td⟩:=HY (dl:=[99,111,114,100]) (row:=["new","cord"]) (init:=[[97]]) (aH:=Bu gA wA) (aK:=[.txt [97],.cord gA wA]) (by decide +kernel) rfl;refine⟨N,d,ka,_,_,rfl,dk,hN,.inr ⟨_,by rw[show Str.ofString "cord a 1 (2) 1/2 (1/3) 3"=sx (jn 32 ([99,111,114,100]::([[97]]++Bu gA wA))) by decide +kernel],h1,h2,.inr ⟨_,_,_,_,_,td,.inr ⟨[.txt [97],.cord gA wA],.cord gA wA,?_,by decide +kernel,.inl ⟨by decide +kernel,?_,[97],_,rfl,fun gs ws z H' sk dk'=>?_,fun h=>absurd rfl (h _ _)⟩⟩⟩⟩⟩
 .refine⟨rfl,fun i k x h1 h2=>?_⟩
  match i with
  | 0 =>
   cases h1;cases h2;exact ABL (by decide)
  | 1 =>
   cases h1;cases h2;exact ABL (by decide)
  | j+2=>cases h1
 .rw[show sx [99,111,114,100]=Str.ofString "cord" by decide +kernel];exact .cord
 .cases z;exact q H' _ sk dk' ⟨by unfold YT;rw[if_pos rfl],by unfold YT;rw[if_neg (by decide)],by unfold YT;rw[if_neg (by decide)]⟩
end
def PN(CD C:Addr):Sp:=fun vs H Q _=>∃(N:Nat) (d ka:Addr) (m:List Nat->Option (List Rat×List Rat)),vs=[.ref d]/\Kw CD C N H d ka m/\N<1000/\MA m/\∀H',Al H H'->Q (.bl true) H'
theorem R1:Ao ["_law_desk"] ["_law_desk"] (Ae Ij):=fsc
theorem Tr{ah aq af ak ai:Addr}(F:Fun K "_law_still" "_law_still" Ij f fd)(T:Txt mg)(aW:Cal P w K mg base "_law_say" 10 ["_law_desk","_law_row"] (Ez K av au ah aq af ak ai)):BR P w K mg base CX0 11 f fd ["_law_desk"] (PN av au):=by
 refine F.okk R1 fun vs H Q E h=>?_;obtain⟨N,d,ka,m,rfl,dk,hN,ma,k⟩:=h;walk_at "b";refine⟨_,(Af (Aq (SQ (Gn Bs (BW aW hr (Aa (pv 0) (Aa Ai Ab))) Ai (Av _)) (S9 (Gn Bs (BW aW hr (Aa (pv 0) (Aa Ai Ab))) Ai (Av _)))))),?_⟩;refine⟨_,rfl,AEt (E:=E0) dk hN ma fun H1 s1=>?_⟩;refine⟨rfl,_,rfl,HR rfl ?_⟩;refine⟨_,rfl,AAz (E:=E0) (dk.keep s1) hN ma otb fun H2 s2=>⟨rfl,?_⟩⟩;rw[decide_eq_true rfl];exact k H2 (s1.trans s2)
theorem ALY(cs:List Int):∃xs:List Int,GK (cs.map V.int) none (some 11)=xs.map V.int:=⟨cs.take 11,AGw V.int cs 11⟩
theorem JP:Ao ["_law_script","_law_desk","_law_cell","_law_rest","_law_rows","_law_row","_law_due"] ["_law_script"] (Ae O9):=fsc
theorem AGj{ah aq af ak ai:Addr}(F:Fun K "law" "law" O9 f fd)(T:Txt mg)(aW:Cal P w K mg base "_law_say" 10 ["_law_desk","_law_row"] (Ez K av au ah aq af ak ai))(cK:Cal P w K mg base "_law_other" 1 ["_law_cell","_law_name"] VH)(bJ:Cal P w K mg base "_law_still" 11 ["_law_desk"] (PN av au))(cP:Cal P w K mg base "_law_texts" 2 ["_law_cell","_law_name"] U6)(cQ:ADU P w K mg base "Desk" av 1 ["self"] (Vq av)):BR P w K mg base CX0 12 f fd ["_law_script"] (S5 K):=by
 refine F.okk JP fun vs H Q E h=>?_;obtain⟨a,cs,rfl,ha,aB,q⟩:=h;refine⟨rfl,fun cdv A outer s hr=>?_⟩;refine⟨_,(Ac (pS 1 JP.nd (AEs cQ hr))
   (Ac (BP (Am GC (BW aW hr (Aa (pv 1) (Aa Ai Ab))) Ai (Av _))
    (Af (Aq JK))
    Ar)
   (Ac (J7 ASm rfl (Dg (Cr JW (pv 0) Dr (DG Ad))) (gN 2 JP.nd)
    (Ac (pS 3 JP.nd (Ak Ca (pv 2) Ad))
    (Ac (BP (Am Bs (Ak Dm (pv 2) Ad) Ad (Av _))
     (Ac (pS 4 JP.nd (BW cK hr (Aa (pv 3) (Aa Ai Ab))))
     (Ac (AHj (ixL (pv 4) (Ak Dm (pv 3) (Ax BV rfl T.z_len ARW (Aa (pv 4) Ab)))) (Ru rfl (FQ (gN 5 JP.nd) (FQ (gN 6 JP.nd) Ng))))
     (Ac (BP (PW.pt (Dk (Am GC (BW aW hr (Aa (pv 1) (Aa (pv 5) Ab))) (pv 6) (Av _)) (CV (By (Bv (BW bJ hr (Aa (pv 1) Ab)))))))
      (Af (Aq JK))
      Ar)
     (Af Vx))))
     Ar)
    (Ac (pS 4 JP.nd (Ak T8 (BW cP hr (Aa (Ak Ca (pv 3) Ad) (Aa (ixL (Ff (Aa Ai (Aa Ai (Aa Ai Ab)))) (Ak Dm (pv 2) Ad)) Ab))) (Ff (Aa Gr (Aa Ad (Aa (Ff (Aa Ai Ab)) Ab))))))
    (Af (BP (PW.pt (Dk (Am GC (BW aW hr (Aa (pv 1) (Aa (ixL (pv 4) (Ak Dm (pv 3) (Ax BV rfl T.z_len ARW (Aa (pv 4) Ab)))) Ab))) Ai (Av _)) (CV (By (Bv (BW bJ hr (Aa (pv 1) Ab)))))))
     (Af (Aq JK))
     Ar))))))
   (Af (Aq (BW bJ hr (Aa (pv 1) Ab))))))),?_⟩
 walk_at "O"
 intro x dx hx hdx hxd;refine⟨x,dx,rfl,Ag,fun ka hka=>⟨rfl,?_⟩⟩;have qY:ka≠x:=fun z=>by rw[z,Ag]at hka;cases hka
 have nF:H ka=none:=by
  rw[An qY]at hka;by_cases z:ka=dx
  .rw[z,Ag]at hka;cases hka
  .rw[An z]at hka;exact hka
 have s2:Al H (upd (upd (upd (upd H dx (.own x)) x (.ins av dx [])) ka (.dK [])) x (.ins av dx [("kept",.ref ka)])):=fun y o ey=>by
  rw[An (Az ey hx),An (Az ey nF),An (Az ey hx),An (Az ey hdx)];exact ey
 have uX:Kw av au 0 (upd (upd (upd (upd H dx (.own x)) x (.ins av dx [])) ka (.dK [])) x (.ins av dx [("kept",.ref ka)])) x ka (fun _=>none):=⟨dx,[],Ag,by rw[An qY,Ag],ARH _,fun l=>⟨fun _=>rfl,fun g hg=>(nomatch hg)⟩⟩;generalize upd (upd (upd (upd H dx (.own x)) x (.ins av dx [])) ka (.dK [])) x (.ins av dx [("kept",.ref ka)])=H2 at *;refine⟨_,rfl,Zc (E:=E0) uX (by decide) fun H3 m sk uY ma=>?_⟩;refine⟨rfl,_,rfl,?_⟩;refine Ji rfl ?_;have ha3:SqL K H3 a (cs.map V.int):=by
  rcases ha with(h|⟨o,h⟩)|h
  .exact .inl (.inl (sk _ _ (Az h nF) (s2 _ _ h)))
  .exact .inl (.inr ⟨o,sk _ _ (Az h nF) (s2 _ _ h)⟩)
  .exact .inr h
 obtain⟨xs,ex⟩:=ALY cs;refine⟨_,rfl,11,rfl,a,_,rfl,ha3,fun tp htp=>?_⟩;rw[ex];have s4:=Aj htp (.lst (xs.map V.int));have et:upd H3 tp (.lst (xs.map V.int)) tp=some (.lst (xs.map V.int)):=Ag;have qZ:=uY.keep s4;generalize upd H3 tp (.lst (xs.map V.int))=H4 at *;refine⟨tp,rfl,⟨_,SqL.of et⟩,?_⟩;refine Kz (xs:=xs.map V.int) (fun i Y H'=>(∃v2 v3 v4 v5 v6,Y=[some (.ref a),some (.ref x),v2,v3,v4,v5,v6])/\Al H4 H') ⟨⟨_,_,_,_,_,rfl⟩,Al.refl _⟩ ?_ ?_ ?_
 .rintro i Y H' _ ⟨_,sm⟩;exact SqL.of (sm _ _ et)
 .rintro i y Y H5 hy ⟨⟨v2,v3,v4,v5,v6,rfl⟩,s5⟩;obtain⟨c,rfl⟩:∃c:Int,y=.int c:=by
   rw[ARQ]at hy;obtain⟨c,_,e⟩:=ASY.mp hy;exact⟨c,e.symm⟩
  have kZ:=qZ.keep s5;refine⟨_,rfl,_,_,rfl,rfl,⟨by decide,bt2 (by decide +kernel)⟩,?_⟩;refine⟨_,rfl,_,_,rfl,rfl,(show(0:Int)<4 by decide),rfl,_,rfl,Cw (fun c1=>?_) (fun c1=>?_)⟩
  .refine⟨_,rfl,c/4,rfl,fun r us ps H6 s6 er pr hl ho=>?_⟩;have lu:=AR1 pr;have d1:=AR5 (c/4) (show(24:Int)≠0 by decide);have d2:=ARz (c/4) (show(0:Int)<24 by decide);obtain⟨j,hj⟩:∃j:Nat,c/4%24=j:=⟨(c/4%24).toNat,by omega⟩;have hj2:j<ps.length:=by omega
   obtain⟨u,hu,p,rfl,ep⟩:=Hj pr (AQ9 hj2);refine⟨_,rfl,_,rfl,_,rfl,r,_,rfl,.inl (SqL.of er),?_⟩;rw[show us.length=24 by omega];refine⟨_,_,rfl,rfl,(show(0:Int)<24 by decide),r,_,_,.ref p,rfl,rfl,SqL.of er,?_,?_⟩
   .show atI us (c/4%24)=_;rw[hj];exact Df hu
   refine⟨p,_,rfl,SqT.of ep,rfl,_,_,rfl,_,_,rfl,rfl,?_⟩;have hp:=ho _ (ARS hj2);refine⟨_,rfl,_,rfl,AAz (E:=E0) (kZ.keep s6) (by decide) ma hp fun H7 s7=>?_⟩;refine⟨_,rfl,rfl,_,rfl,Ji rfl ?_⟩;refine⟨_,rfl,0+1,x,ka,m,rfl,kZ.keep (s6.trans s7),by decide,ma,fun H8 s8=>⟨_,rfl,FZ ?_⟩⟩;exact⟨⟨_,_,_,_,_,rfl⟩,s5.trans (s6.trans (s7.trans s8))⟩
  .have d1:=AR5 c (show(4:Int)≠0 by decide);have d2:=ARz c (show(0:Int)<4 by decide);have c1':c%4≠3:=fun z=>c1 (decide_eq_true (congrArg V.int z));obtain⟨n,hn,hat⟩:∃n∈([[97],[122,113]]:List (List Nat)),atI [V.str (Str.ofString "a"),V.str (Str.ofString "zq"),V.str (Str.ofString "a")] (c%4)=some (.str (sx n)):=by
    have:c%4=0\/c%4=1\/c%4=2:=by omega
    rcases this with e | e | e<;>rw[e]
    .exact⟨[97],by simp,rfl⟩
    .exact⟨[122,113],by simp,rfl⟩
    .exact⟨[97],by simp,rfl⟩
   refine⟨_,rfl,_,_,rfl,rfl,⟨by decide,bt2 (by decide +kernel)⟩,(by show 3<=sizeLine;decide),fun L1 h1=>?_⟩;have u1:=Aj h1 (.lst [.str (Str.ofString "a"),.str (Str.ofString "zq"),.str (Str.ofString "a")]);refine⟨_,rfl,_,_,rfl,rfl,(show(0:Int)<4 by decide),L1,_,_,_,rfl,rfl,SqL.of Ag,hat,?_⟩;refine⟨_,n,rfl,hn,fun r rows H6 s6 nr er lr hu=>?_⟩;have uZ:=u1.trans s6;refine⟨(by show 1<=sizeLine;decide),fun L2 h2=>⟨(by show 3<=sizeLine;decide),fun L3 h3=>?_⟩⟩;have u2:=Aj h2 (.lst [.str (Str.ofString "show a")]);have u3:=Aj h3 (.lst [V.non,V.int 7,V.ref L2]);refine⟨r,L3,_,_,rfl,rfl,(u2.trans u3) _ _ er,Ag,(by rw[Io];show _+3<=_;omega),fun L4 h4=>?_⟩;obtain⟨X,eX⟩:∃X,X=(rows.map fun l=>V.str (sx l))++[V.non,V.int 7,V.ref L2]:=⟨_,rfl⟩;rw[<-eX];have u4:=Aj h4 (.lst X);obtain⟨H7,e7⟩:∃H7,H7=upd (upd (upd H6 L2 (.lst [.str (Str.ofString "show a")])) L3 (.lst [V.non,V.int 7,V.ref L2])) L4 (.lst X):=⟨_,rfl⟩;rw[<-e7]at u4 ⊢;have e4:H7 L4=some (.lst X):=by rw[e7,Ag]
   have ni:H7 L2=some (.lst [.str (Str.ofString "show a")]):=u4 _ _ (u3 _ _ Ag);have nH:=uZ.trans (u2.trans (u3.trans u4));have u6:X.length=49:=by
    rw[eX,ARG,Io,lr];rfl
   have f1:=AR5 (c/4) (show(49:Int)≠0 by decide);have f2:=ARz (c/4) (show(0:Int)<49 by decide);obtain⟨j,hj⟩:∃j:Nat,c/4%49=j:=⟨(c/4%49).toNat,by omega⟩;have hj2:j<X.length:=by omega
   have rf:=kZ.keep nH;have key:∀Q',(∀H',Al H7 H'->Q' (.str "!text") H')->Ez K av au ah aq af ak ai [.ref x,X[j]] H7 Q' E0:=fun Q' q'=>by
    by_cases hr':j<rows.length
    .have e:X[j]=.str (sx rows[j]):=by
      subst eX;rw[List.getElem_append_left (by rw[Io];exact hr'),List.getElem_map]
     rw[e];exact ACW rf (by decide) (hu _ (ARS hr')) q'
    .refine AIh rf (by decide) (AAf.no ?_) q';have e:j=46\/j=47\/j=48:=by omega
     have hm:∀(k:Nat) (h:k<3),j=46+k->X[j]=([V.non,V.int 7,V.ref L2]:List V)[k]:=fun k h e=>by
      subst eX;rw[List.getElem_append_right (by rw[Io];omega)]
      congr 1
      rw[Io];omega
     rcases e with e|e|e
     .rw[hm 0 (by decide) e];exact .inl rfl
     .rw[hm 1 (by decide) e];exact .inr (.inr (.inl ⟨7,rfl⟩))
     .rw[hm 2 (by decide) e];exact .inr (.inr (.inr ⟨L2,_,rfl,.inr ni⟩))
   have nI:atI X (c/4%49)=some X[j]:=by
    rw[hj];exact Df (AQ9 hj2)
   generalize X[j]=w' at *;refine⟨_,rfl,_,rfl,_,rfl,_,rfl,L4,_,rfl,.inl (SqL.of e4),?_⟩;rw[u6];refine⟨_,_,rfl,rfl,(show(0:Int)<49 by decide),L4,_,_,w',rfl,rfl,SqL.of e4,nI,key _ fun H8 s8=>?_⟩;refine⟨rfl,_,rfl,Ji rfl ?_⟩;refine⟨_,rfl,0+1,x,ka,m,rfl,kZ.keep (nH.trans s8),by decide,ma,fun H9 s9=>⟨_,rfl,FZ ?_⟩⟩;exact⟨⟨_,_,_,_,_,rfl⟩,s5.trans (nH.trans (s8.trans s9))⟩
 .rintro Y H' ⟨⟨v2,v3,v4,v5,v6,rfl⟩,s5⟩;exact⟨_,rfl,0+1,x,ka,m,rfl,qZ.keep s5,by decide,ma,fun H6 s6=>q H6⟩
end
theorem all_mk{l:W.OpenLaw}{w:World}{K:W.Frag}{h:Heap}{mg:Str->Option Value}{fa au av ah aq ak af ai ao ap:Addr}(X:K.In h)(G:h.Ns mainGlobals mg)(hfa:mg "law"=some (.ref fa))
  {f4 lh:Addr} {u7 rh nJ:Option Addr} {pG nK:Array (Option Value)} {u8 ri rj rm nM rn nN:Value} {nO:Nat} {iF:Tok}
  {nP gD:Addr} {nQ jH jI:Option Addr} {nR jJ:Array (Option Value)} {nS jK jL jM iG jN jO:Value} {jP:Nat}
  {bY nV nX nY nZ oa og oj om oq ot iH iI iJ iK:Addr} {fR u9 vb vc vd vf vg vi vj vm vn ou ow oy oz:Nat} {vo vp vq vt vv vw vx vy vz vA oE oF oG oH jQ jR jS jT jU jV jW jX jY jZ j3 j4 j5 j6 j7 j8 j9 kf ku ky kA kB kD iL iM iN iO iP iQ iR iS iT iU iV iW iX:Tok} {vB vC vD vE vF vG vH vI vJ vK oJ oK oM oN:Option Addr} {vL vM vN vO vP vQ vR vS vT vU oO oP oQ oR:Array (Option Value)}
  {dO eY dw eZ dD di:Tok}
  (gE:W.nsIn K mainGlobals "Cord"=some (some (.ref au)))
  (gF:W.plainGet K au Str.empty=true)
  (gH:W.hasDictIn K au=true)
  (gI:W.plainOver K au=true)
  (gJ:W.findIn K (.ref au) "__setattr__"=some (some (.builtin "object.__setattr__")))
  (gK:W.makesIn K au=true)
  (gL:W.keepIn K (.ref au)=true)
  (gM:W.findIn K (.ref au) "__class__"=some (some (.builtin "object.__class__")))
  (gO:W.mroIn K au (.type "object")=some true)
  (c8:W.findIn K (.ref au) "kept_gaps"=some none)
  (cR:W.findIn K (.ref au) "kept_weights"=some none)
  (gP:W.kitOne K (.ref au) (.ref au)=some true)
  (gQ:W.nsIn K mainGlobals "Desk"=some (some (.ref av)))
  (gR:W.plainGet K av Str.empty=true)
  (gS:W.hasDictIn K av=true)
  (gT:W.plainOver K av=true)
  (gU:W.findIn K (.ref av) "__setattr__"=some (some (.builtin "object.__setattr__")))
  (gX:W.makesIn K av=true)
  (gY:W.keepIn K (.ref av)=true)
  (gZ:W.findIn K (.ref av) "__class__"=some (some (.builtin "object.__class__")))
  (hJ:W.mroIn K av (.type "object")=some true)
  (dR:W.findIn K (.ref av) "kept"=some none)
  (hV:W.kitOne K (.ref av) (.ref av)=some true)
  (dA:W.specialIn K (.builtin "object.__class__") "__get__"=some (some (.builtin "getset_descriptor.__get__")))
  (dB:W.takesIn K (.builtin "object.__class__")=some true)
  (fS:W.nsIn K mainGlobals "NoText"=some (some (.ref ah)))
  (fT:W.nsIn K mainGlobals "NoName"=some (some (.ref aq)))
  (fU:W.nsIn K mainGlobals "NoBead"=some (some (.ref ak)))
  (ek:W.nsIn K mainGlobals "NoCord"=some (some (.ref af)))
  (fv:W.nsIn K mainGlobals "NoWorth"=some (some (.ref ai)))
  (dU:W.nsIn K mainGlobals "NoFraction"=some (some (.ref ao)))
  (eF:W.nsIn K mainGlobals "CordError"=some (some (.ref ap)))
  (o_NoText:W.excIn K ah Ky "ValueError.__new__"=true)
  (i_NoText:W.isIn K (.ref ah) ah=true)
  (e_NoText:CP K ah)
  (o_NoName:W.excIn K aq Ky "ValueError.__new__"=true)
  (i_NoName:W.isIn K (.ref aq) aq=true)
  (e_NoName:CP K aq)
  (o_NoBead:W.excIn K ak Ky "ValueError.__new__"=true)
  (i_NoBead:W.isIn K (.ref ak) ak=true)
  (e_NoBead:CP K ak)
  (o_NoWorth:W.excIn K ai Ky "ValueError.__new__"=true)
  (i_NoWorth:W.isIn K (.ref ai) ai=true)
  (e_NoWorth:CP K ai)
  (fw:W.keepIn K (.ref af)=true)
  (xs_NoCord:W.exmOne K (.ref af) (.ref af)=some true)
  (e_NoCord:CP K af)
  (fA:((W.clsIn K af).any fun cd=>RZ cd.mro)=true)
  (fB:W.hasDictIn K af=true)
  (fD:W.findIn K (.ref af) "__setattr__"=some (some (.builtin "object.__setattr__")))
  (fF:W.findIn K (.ref af) "place"=some none)
  (x_NoText:W.kitOne K (.ref ah) (.ref ap)=some true)
  (fV:(Value.ref ah==.ref ap)=false)
  (x_NoName:W.kitOne K (.ref aq) (.ref ap)=some true)
  (fX:(Value.ref aq==.ref ap)=false)
  (x_NoBead:W.kitOne K (.ref ak) (.ref ap)=some true)
  (fY:(Value.ref ak==.ref ap)=false)
  (x_NoWorth:W.kitOne K (.ref ai) (.ref ap)=some true)
  (fG:(Value.ref ai==.ref ap)=false)
  (x_NoCord:W.kitOne K (.ref af) (.ref ap)=some true)
  (fZ:(Value.ref af==.ref ap)=false)
  (bC:Kq K ah [(.ref ah,true),(.ref aq,false),(.ref ak,false),(.ref af,false),(.ref ai,false),(.ref ao,false),(.type "ValueError",true)])
  (bD:Kq K aq [(.ref ah,false),(.ref aq,true),(.ref ak,false),(.ref af,false),(.ref ai,false),(.ref ao,false),(.type "ValueError",true)])
  (bF:Kq K ak [(.ref ah,false),(.ref aq,false),(.ref ak,true),(.ref af,false),(.ref ai,false),(.ref ao,false),(.type "ValueError",true)])
  (aY:Kq K ai [(.ref ah,false),(.ref aq,false),(.ref ak,false),(.ref af,false),(.ref ai,true),(.ref ao,false),(.type "ValueError",true)])
  (bG:Kq K af [(.ref ah,false),(.ref aq,false),(.ref ak,false),(.ref af,true),(.ref ai,false),(.ref ao,false),(.type "ValueError",true)])
  (bK:W.subIn K (.ref ap) (.type "BaseException")=some true)
  (vV:Gi K af "NoCord.__init__" Gs)
  (vW:Gm K au "__init__" "Cord.__init__" JB)
  (vX:Gm K au "gaps" "Cord.gaps" JG)
  (vY:Gm K au "weights" "Cord.weights" GF)
  (vZ:Gm K au "beads" "Cord.beads" Hi)
  (v9:Gm K av "__init__" "Desk.__init__" Iu)
  (wd:Gm K av "cord_by" "Desk.cord_by" GJ)
  (wg:Gm K av "with_cords" "Desk.with_cords" DN)
  (wj:Gm K av "say" "Desk.say" Jm)
  (d1:Gd K "divisor" Mv)
  (d2:Gd K "is_whole" Js)
  (d3:Gd K "is_fraction" Gw)
  (d5:Gd K "plus" XF)
  (d6:Gd K "minus" Nj)
  (d7:Gd K "times" Nx)
  (d8:Gd K "is_under" J4)
  (d9:Gd K "side" Xa)
  (wm:Gd K "is_rising" JM)
  (wo:Gd K "is_row_above" Eg)
  (wq:Gd K "check_bead" Ho)
  (wu:Gd K "with_more" IK)
  (wv:Gd K "heavier" Mh)
  (wz:Gd K "longer" Pj)
  (wB:Gd K "poly" W3)
  (wC:Gd K "shared_bottom" Fj)
  (wD:Gd K "whole_figures" Do)
  (wE:Gd K "over_one_bottom" Eb)
  (wF:Gd K "in_lowest_terms" DQ)
  (wH:Gd K "quotient_at" Gq)
  (wI:Gd K "rest_of" Jc)
  (wJ:Gd K "ladder" O5)
  (wK:Gd K "cord_with" IW)
  (wL:Gd K "even" WD)
  (wM:Gd K "heights_of" Fv)
  (wN:Gd K "mode" XJ)
  (wO:Gd K "span" W4)
  (wP:Gd K "show_fraction" Fg)
  (wQ:Gd K "show_row" Hs)
  (wR:Gd K "show_cord" Ie)
  (wS:Gd K "check_text" Hl)
  (wT:Gd K "are_figures" FN)
  (wU:Gd K "without_minus" Fb)
  (wV:Gd K "within_brackets" El)
  (wX:Gd K "read_fraction" Fl)
  (wY:Gd K "read_row" Hh)
  (wZ:Gd K "read_cord" FT)
  (w4:Gd K "read_name" Gf)
  (w6:Gd K "read_whole" Hr)
  (w8:Gd K "read_halvings" Fd)
  (xc:Gd K "read_choice" Gy)
  (xf:Gd K "read_some" JF)
  (xg:Gd K "read_two_polys" Di)
  (xh:Gd K "read_thing" Hf)
  (xj:Gd K "kinds_of" J0)
  (xk:Gd K "read_told" Gj)
  (xo:Gd K "made" WP)
  (xq:Gd K "answer" Og)
  (xr:Gd K "_law_say" Lf)
  (xw:Gd K "_law_bad_fraction" Ds)
  (xx:Gd K "_law_bad_name" Ej)
  (xA:Gd K "_law_texts" Il)
  (xB:Gd K "_law_other" JC)
  (xC:Gd K "_law_still" Ij)
  (xD:Gd K "law" O9)
  (a4:W.nsIn K mainGlobals "fraction"=some (some (.ref f4)))
  (l4:K.lookup f4=some ⟨u8,u7,.func (W.fnOf "fraction" "fraction" (Bm DY) (Bd DY) (Ae DY) (.ref lh) ri rj rm rh nM rn),pG⟩)
  (c4:W.codeIn K nM "fraction"=true)
  (k4:W.keepIn K (.ref f4)=true)
  (e4:K.lookup lh=some ⟨nN,nJ,.seq #[.int 1 iF] nO,nK⟩)
  (a31:W.nsIn K mainGlobals "walked"=some (some (.ref nP)))
  (xE:K.lookup nP=some ⟨nS,nQ,.func (W.fnOf "walked" "walked" (Bm FW) (Bd FW) (Ae FW) (.ref gD) jK jL jM jH iG jN),nR⟩)
  (xF:W.codeIn K iG "walked"=true)
  (xG:W.keepIn K (.ref nP)=true)
  (xH:K.lookup gD=some ⟨jO,jI,.seq #[.none,.none] jP,jJ⟩)
  (hZ:W.nsIn K mainGlobals "FORMS"=some (some (.ref bY)))
  (f7:(bY==sysModules)=false)
  (gb:K.lookup bY=some ⟨.type "dict",none,.dict #[⟨PyData.keyHash w.params "cord",.str "cord" vo,.ref nV⟩,⟨PyData.keyHash w.params "turn",.str "turn" vp,.ref nX⟩,⟨PyData.keyHash w.params "join",.str "join" vq,.ref nY⟩,⟨PyData.keyHash w.params "heavier",.str "heavier" vt,.ref nZ⟩,⟨PyData.keyHash w.params "longer",.str "longer" vv,.ref oa⟩,⟨PyData.keyHash w.params "find",.str "find" vw,.ref og⟩,⟨PyData.keyHash w.params "even",.str "even" vx,.ref oj⟩,⟨PyData.keyHash w.params "drop",.str "drop" vy,.ref om⟩,⟨PyData.keyHash w.params "show",.str "show" vz,.ref oq⟩,⟨PyData.keyHash w.params "poly",.str "poly" vA,.ref ot⟩,⟨PyData.keyHash w.params "count",.str "count" oE,.ref iH⟩,⟨PyData.keyHash w.params "span",.str "span" oF,.ref iI⟩,⟨PyData.keyHash w.params "mode",.str "mode" oG,.ref iJ⟩,⟨PyData.keyHash w.params "alike",.str "alike" oH,.ref iK⟩] fR,#[]⟩)
  (xI:K.lookup nV=some ⟨.type "tuple",vB,.seq #[.str "new" jQ,.str "cord" jR] u9,vL⟩)
  (ge1:K.lookup nX=some ⟨.type "tuple",vC,.seq #[.str "new" jS,.str "name" jT] vb,vM⟩)
  (xJ:K.lookup nY=some ⟨.type "tuple",vD,.seq #[.str "new" jU,.str "name" jV,.str "name" jW] vc,vN⟩)
  (xK:K.lookup nZ=some ⟨.type "tuple",vE,.seq #[.str "new" jX,.str "name" jY,.str "whole" jZ,.str "fraction" j3] vd,vO⟩)
  (xL:K.lookup oa=some ⟨.type "tuple",vF,.seq #[.str "new" j4,.str "name" j5,.str "whole" j6,.str "fraction" j7] vf,vP⟩)
  (xM:K.lookup og=some ⟨.type "tuple",vG,.seq #[.str "new" j8,.str "two polys" j9] vg,vQ⟩)
  (xN:K.lookup oj=some ⟨.type "tuple",vH,.seq #[.str "new" kf,.str "length and worths" ku] vi,vR⟩)
  (xO:K.lookup om=some ⟨.type "tuple",vI,.seq #[.str "name" ky] vj,vS⟩)
  (xP:K.lookup oq=some ⟨.type "tuple",vJ,.seq #[.str "name" kA] vm,vT⟩)
  (xQ:K.lookup ot=some ⟨.type "tuple",vK,.seq #[.str "name" kB,.str "which" kD] vn,vU⟩)
  (ge10:K.lookup iH=some ⟨.type "tuple",oJ,.seq #[.str "name" iL,.str "end" iM,.str "fraction" iN] ou,oO⟩)
  (oS:K.lookup iI=some ⟨.type "tuple",oK,.seq #[.str "name" iO,.str "end" iP,.str "whole" iQ,.str "halvings" iR] ow,oP⟩)
  (oU:K.lookup iJ=some ⟨.type "tuple",oM,.seq #[.str "name" iS,.str "end" iT,.str "fraction" iU] oy,oQ⟩)
  (oV:K.lookup iK=some ⟨.type "tuple",oN,.seq #[.str "name" iV,.str "name" iW,.str "end" iX] oz,oR⟩)
  (z_abs:W.nsIn K mainGlobals "abs"=some none)
  (z_len:W.nsIn K mainGlobals "len"=some none)
  (z_isinstance:W.nsIn K mainGlobals "isinstance"=some none)
  (z_int:W.nsIn K mainGlobals "int"=some none)
  (z_bool:W.nsIn K mainGlobals "bool"=some none)
  (z_tuple:W.nsIn K mainGlobals "tuple"=some none)
  (z_range:W.nsIn K mainGlobals "range"=some none)
  (z_list:W.nsIn K mainGlobals "list"=some none)
  (z_zip:W.nsIn K mainGlobals "zip"=some none)
  (z_all:W.nsIn K mainGlobals "all"=some none)
  (z_str:W.nsIn K mainGlobals "str"=some none)
  (z_reversed:W.nsIn K mainGlobals "reversed"=some none)
  (z_max:W.nsIn K mainGlobals "max"=some none)
  (z_enumerate:W.nsIn K mainGlobals "enumerate"=some none)
  (z_ValueError:W.nsIn K mainGlobals "ValueError"=some none)
  (dW:W.nsIn K mainGlobals "MOST_BEADS"=some (some (.int 12 dO)))
  (fH:W.nsIn K mainGlobals "FIGURES"=some (some (.str "0123456789" eY)))
  (dM:W.nsIn K mainGlobals "MOST_FIGURES"=some (some (.int 30 dw)))
  (fJ:W.nsIn K mainGlobals "LETTERS"=some (some (.str "abcdefghijklmnopqrstuvwxyz" eZ)))
  (dN:W.nsIn K mainGlobals "LONGEST_NAME"=some (some (.int 8 dD)))
  (dF:W.nsIn K mainGlobals "MOST_HALVINGS"=some (some (.int 60 di))) :
  ∃fd:FuncData,(∀(s:Shared) (v:Value),BindsTo s fd ⟨[v],[]⟩ [("_law_script",v)])/\∀base:Heap,K.In base->base.Ns mainGlobals mg->BR l.prog w K mg base CX0 12 fa fd ["_law_script"] (S5 K):=by
 have T:Txt mg:=⟨ARl X G z_abs,ARl X G z_len,ARl X G z_isinstance,ARl X G z_int,ARl X G z_bool,ARl X G z_tuple,ARl X G z_range,ARl X G z_list,ARl X G z_zip,ARl X G z_all,ARl X G z_str,ARl X G z_reversed,ARl X G z_max,ARl X G z_enumerate,ARl X G z_ValueError,⟨_,ARq X G dW⟩,⟨_,ARq X G fH⟩,⟨_,ARq X G dM⟩,⟨_,ARq X G fJ⟩,⟨_,ARq X G dN⟩,⟨_,ARq X G dF⟩⟩;have R:Fw K mg ah aq ak af ai ao ap:=⟨ARq X G fS,ARq X G fT,ARq X G fU,ARq X G ek,ARq X G fv,ARq X G dU,ARq X G eF,o_NoText,i_NoText,O7 bK x_NoText fV,e_NoText,o_NoName,i_NoName,O7 bK x_NoName fX,e_NoName,o_NoBead,i_NoBead,O7 bK x_NoBead fY,e_NoBead,o_NoWorth,i_NoWorth,O7 bK x_NoWorth fG,e_NoWorth,O7 bK x_NoCord fZ,e_NoCord,⟨fA,fB,fD,e_NoCord.ga,e_NoCord.no,e_NoCord.is⟩,fF,xs_NoCord,bC.1,bC.2.1,bC.2.2.1,bC.2.2.2.1,bC.2.2.2.2.1,bC.2.2.2.2.2.1,bC.2.2.2.2.2.2.1,bD.1,bD.2.1,bD.2.2.1,bD.2.2.2.1,bD.2.2.2.2.1,bD.2.2.2.2.2.1,bD.2.2.2.2.2.2.1,bF.1,bF.2.1,bF.2.2.1,bF.2.2.2.1,bF.2.2.2.2.1,bF.2.2.2.2.2.1,bF.2.2.2.2.2.2.1,aY.1,aY.2.1,aY.2.2.1,aY.2.2.2.1,aY.2.2.2.2.1,aY.2.2.2.2.2.1,aY.2.2.2.2.2.2.1,bG.1,bG.2.1,bG.2.2.1,bG.2.2.2.1,bG.2.2.2.2.1,bG.2.2.2.2.2.1,bG.2.2.2.2.2.2.1⟩;have eG:Ln l.prog w K mg bY:=⟨ARq X G hZ,_,AJC (ks:=[("cord",nV),("turn",nX),("join",nY),("heavier",nZ),("longer",oa),("find",og),("even",oj),("drop",om),("show",oq),("poly",ot),("count",iH),("span",iI),("mode",iJ),("alike",iK)]) f7 gb (.cons (.cons (.cons (.cons (.cons (.cons (.cons (.cons (.cons (.cons (.cons (.cons (.cons (.cons .nil)))))))))))))) (show(["cord","turn","join","heavier","longer","find","even","drop","show","poly","count","span","mode","alike"]:List Str).Nodup by decide +kernel),(.cons ⟨rfl,_,rfl,fun _=>.inr ⟨_,_,_,xI,rfl,rfl,(by show 2<=sizeLine;decide),(.cons ⟨_,rfl⟩ (.cons ⟨_,rfl⟩ .nil))⟩⟩ (.cons ⟨rfl,_,rfl,fun _=>.inr ⟨_,_,_,ge1,rfl,rfl,(by show 2<=sizeLine;decide),(.cons ⟨_,rfl⟩ (.cons ⟨_,rfl⟩ .nil))⟩⟩ (.cons ⟨rfl,_,rfl,fun _=>.inr ⟨_,_,_,xJ,rfl,rfl,(by show 3<=sizeLine;decide),(.cons ⟨_,rfl⟩ (.cons ⟨_,rfl⟩ (.cons ⟨_,rfl⟩ .nil)))⟩⟩ (.cons ⟨rfl,_,rfl,fun _=>.inr ⟨_,_,_,xK,rfl,rfl,(by show 4<=sizeLine;decide),(.cons ⟨_,rfl⟩ (.cons ⟨_,rfl⟩ (.cons ⟨_,rfl⟩ (.cons ⟨_,rfl⟩ .nil))))⟩⟩ (.cons ⟨rfl,_,rfl,fun _=>.inr ⟨_,_,_,xL,rfl,rfl,(by show 4<=sizeLine;decide),(.cons ⟨_,rfl⟩ (.cons ⟨_,rfl⟩ (.cons ⟨_,rfl⟩ (.cons ⟨_,rfl⟩ .nil))))⟩⟩ (.cons ⟨rfl,_,rfl,fun _=>.inr ⟨_,_,_,xM,rfl,rfl,(by show 2<=sizeLine;decide),(.cons ⟨_,rfl⟩ (.cons ⟨_,rfl⟩ .nil))⟩⟩ (.cons ⟨rfl,_,rfl,fun _=>.inr ⟨_,_,_,xN,rfl,rfl,(by show 2<=sizeLine;decide),(.cons ⟨_,rfl⟩ (.cons ⟨_,rfl⟩ .nil))⟩⟩ (.cons ⟨rfl,_,rfl,fun _=>.inr ⟨_,_,_,xO,rfl,rfl,(by show 1<=sizeLine;decide),(.cons ⟨_,rfl⟩ .nil)⟩⟩ (.cons ⟨rfl,_,rfl,fun _=>.inr ⟨_,_,_,xP,rfl,rfl,(by show 1<=sizeLine;decide),(.cons ⟨_,rfl⟩ .nil)⟩⟩ (.cons ⟨rfl,_,rfl,fun _=>.inr ⟨_,_,_,xQ,rfl,rfl,(by show 2<=sizeLine;decide),(.cons ⟨_,rfl⟩ (.cons ⟨_,rfl⟩ .nil))⟩⟩ (.cons ⟨rfl,_,rfl,fun _=>.inr ⟨_,_,_,ge10,rfl,rfl,(by show 3<=sizeLine;decide),(.cons ⟨_,rfl⟩ (.cons ⟨_,rfl⟩ (.cons ⟨_,rfl⟩ .nil)))⟩⟩ (.cons ⟨rfl,_,rfl,fun _=>.inr ⟨_,_,_,oS,rfl,rfl,(by show 4<=sizeLine;decide),(.cons ⟨_,rfl⟩ (.cons ⟨_,rfl⟩ (.cons ⟨_,rfl⟩ (.cons ⟨_,rfl⟩ .nil))))⟩⟩ (.cons ⟨rfl,_,rfl,fun _=>.inr ⟨_,_,_,oU,rfl,rfl,(by show 3<=sizeLine;decide),(.cons ⟨_,rfl⟩ (.cons ⟨_,rfl⟩ (.cons ⟨_,rfl⟩ .nil)))⟩⟩ (.cons ⟨rfl,_,rfl,fun _=>.inr ⟨_,_,_,oV,rfl,rfl,(by show 3<=sizeLine;decide),(.cons ⟨_,rfl⟩ (.cons ⟨_,rfl⟩ (.cons ⟨_,rfl⟩ .nil)))⟩⟩ .nil))))))))))))))⟩;have bZ:K4 K mg au:=⟨ARq X G gE,⟨gF,gH,gI,gJ⟩,gM,dA,dB,gO,gP,c8,cR⟩;have b6:Kg K mg av:=⟨ARq X G gQ,⟨gR,gS,gT,gU⟩,gZ,dA,dB,hJ,hV,dR⟩;obtain⟨fL,eL,oc,od,kV,dc,pm,an,cd,ct,sl,lL,cL,kL⟩:=xD;have e:=hfa.symm.trans (ARq X G eL);cases e;refine⟨W.fnOf "law" "law" (Bm O9) (Bd O9) (Ae O9) .none kV dc pm an cd ct,fun s v=>.of_eq rfl,fun base _ _=>?_⟩;have Z:Zz l.prog w K mg base:=⟨h,X,G⟩;have ay:=d1.cal Z (fun F=>W8 F T) hbT;have aU:=d2.cal Z (fun F=>Ua F T) hbT;have aP:=d3.cal Z (fun F=>N8 F T aU ay) hbT;have fh:=U8 (P:=l.prog) (w:=w) (base:=base) (dV:=.ref lh) ⟨_,_,_,_,_,_,_,_,_,rfl,l4,c4⟩ T aU ay;have kE:DK K (W.fnOf "fraction" "fraction" (Bm DY) (Bd DY) (Ae DY) (.ref lh) ri rj rm rh nM rn) ["top","bottom"] []:=fun s us KI hl=>by
  walk_at "aL"
  .simp only[ARD,ASJ]at hl;omega
  .simp only[ARD,ASJ]at hl;omega
  .exact W.binds_K KI rfl e4 rfl rfl rfl
  .simp only[ARD]at hl;omega
 have cc:ABM l.prog w K mg base "fraction" 2 ["top","bottom"] [] [] (PJ):=⟨⟨_,_,fh,kE,k4,ARq X G a4⟩,.nil⟩;have cu:=d5.cal Z (fun F=>ADE F T ay) hbT;have cS:=d6.cal Z (fun F=>Yv F T cu) hbT;have c7:=d7.cal Z (fun F=>Y0 F T ay) hbT;have cY:=d8.cal Z (fun F=>Uw F T) hbT;have aS:=d9.cal Z (fun F=>ACh F T) hbT;have cC:=wm.cal Z (fun F=>TJ F T cY) hbT;have bn:=wo.cal Z (fun F=>NT F T aP aS) hbT;have ax:Us _ _ _ _ _ "NoCord" _ _ _ _:=vV.calI Z fw (ARq X G ek) (fun F=>OJ F T R) hbT;have aN:CalCN _ _ _ _ _ "Cord" _ _ _ (Iv au af):=vW.calCN Z gK gL bZ.m (fun F=>QZ F T R bZ bn ax) hbT;have aO:=vX.cal Z bZ.cl (fun F=>R4 F T bZ) hbT;have aI:=vY.cal Z bZ.cl (fun F=>Nb F T bZ) hbT;have aR:=vZ.cal Z bZ.cl (fun F=>QX F T bZ) hbT;have cj:=wq.calY (sp:=Ry au ak) Z (fun F=>Qh F T R aR) hbT;have bj:=wu.calY (sp:=Nt af) Z (fun F=>Sq F T R aP aS ax) hbT;have dh:=wv.calY (sp:=Hu 1 au af ak) Z (fun F=>Wq F T cj bj aO aI aN) hbT;have dJ:=wz.calY (sp:=Hu 0 au af ak) Z (fun F=>YZ F T R bj aO aI aR aN) hbT;have eO:=wB.cal Z (fun F=>ACj F T aS) hbT;have bQ:=wC.cal Z (fun F=>Lp F T ay) hbT;have bR:=wD.cal Z (fun F=>Lk F T) hbT;have aT:=wE.cal Z (fun F=>KD F T bQ bR) hbT;have br:=wF.cal Z (fun F=>J5 F T ay) hbT;have ce:=wH.cal Z (fun F=>Ou F T cc cS) hbT;have c9:=wI.cal Z (fun F=>WT F T br) hbT;have dI:=wJ.calY (sp:=Sw af) Z (fun F=>ZS F T R aT ce aS c9 ax) hbT;have cF:=wK.calY (sp:=Rn af) Z (fun F=>R5 F T R dI ax) hbT;have eP:=wL.calY (sp:=Tv ai) Z (fun F=>ACr F T R cC aS) hbT;have gc:=Za (P:=l.prog) (w:=w) (base:=base) (dV:=.ref gD) ⟨_,_,_,_,_,_,_,_,_,rfl,xE,xF⟩ T (cu.imp ABR) cS c7 aO aI;have iY:DK K (W.fnOf "walked" "walked" (Bm FW) (Bd FW) (Ae FW) (.ref gD) jK jL jM jH iG jN) ["cord","t","height","lean"] [.none,.none]:=fun s us KI hl=>by
  walk_at "aL"
  .simp only[ARD,ASJ]at hl;omega
  .simp only[ARD,ASJ]at hl;omega
  .exact W.binds_K KI rfl xH rfl rfl rfl
  .simp only[ARD]at hl;omega
 have cD:ABM l.prog w K mg base "walked" 4 ["cord","t","height","lean"] [.none,.none] [(.non:V),(.non:V)] (KN au):=⟨⟨_,_,gc,iY,xG,ARq X G a31⟩,(.cons rfl (.cons rfl .nil))⟩;have ck:=wM.cal Z (fun F=>QM F T) hbT;have eR:=wN.calY (sp:=O1 au ai) Z (fun F=>ADa F T R cD aS ck) hbT;have eQ:=wO.calY (sp:=Lh au ai) Z (fun F=>ADA F T R aR) hbT;have aE:=wP.cal Z (fun F=>Mj F T) hbT;have cm:=wQ.cal Z (fun F=>Vk F T aE) hbT;have cH:=wR.cal (sp:=Ol au) Z (fun F=>T5 F T aE aO aI) hbT;have aJ:=wS.calY (sp:=Jb K ah) Z (fun F=>Qj F T R) hbT;have bH:=wT.cal Z (fun F=>QC F T) hbT;have bO:=wU.cal Z (fun F=>Ms F T) hbT;have bp:=wV.calY (sp:=Rh ah) Z (fun F=>KJ F T R) hbT;have aw:=wX.calY (sp:=JQ K ah) Z (fun F=>MK F T R aJ bH bO aP aE) hbT;have cX:=wY.calY (sp:=Th K ah) Z (fun F=>Vn F T aJ aw) hbT;have cv:=wZ.calY (sp:=Rr K au ah) Z (fun F=>TQ F T R aJ aw bp aN) hbT;have cx:=w4.calY (sp:=MP ah) Z (fun F=>Rk F T R) hbT;have aV:=w6.calY (sp:=Hq ah) Z (fun F=>Qg F T R aw) hbT;have bP:=w8.calY (sp:=Ma ah) Z (fun F=>Ls F T R aV) hbT;have bI:=xc.calY (sp:=Hz ah) Z (fun F=>Oa F T R) hbT;have aZ:=xf.calY (sp:=Jf ah) Z (fun F=>Sd F T R cX) hbT;have bA:=xg.calY (sp:=Mf ah) Z (fun F=>K1 F T R aZ eO) hbT;have cg:=xh.calY (sp:=Jy au ah) Z (fun F=>QW F T cv aw aV bP bI bA aZ cx) hbT;have cr:=xj.cal Z (fun F=>Vc F T eG) hbT;have cJ:=xk.calY (sp:=PQ K au ah) Z (fun F=>SM F T R eG aJ cg) hbT;have cQ:ADU _ _ _ _ _ "Desk" _ _ _ _:=v9.calC Z gX gY b6.m (fun F=>Ro F T b6) hbT;have bV:=wd.calMX (sp:=Ml av aq) Z b6.cl (fun F=>Nf F T R b6) hbT;have bx:=wg.calMX (sp:=O3 K av au aq) Z b6.cl (fun F=>Jq F T b6 bV) hbT;have eV:=xo.calY (sp:=MF au af ak ai) Z (fun F=>ADJ F T dh dJ cF eP) hbT;have dL:=xq.calY (sp:=IV au af ak ai) Z (fun F=>Yx F T cH cm eQ eR) hbT;have cZ:=wj.calMX (sp:=HW K av au ah aq af ak ai) Z b6.cl (fun F=>Vz F T b6 cJ cr bx eV dL) hbT;have aW:=xr.cal (sp:=Ez K av au ah aq af ak ai) Z (fun F=>Wk F T R cZ) hbT;have aX:=xw.cal Z (fun F=>Jg F T) hbT;have bW:=xx.cal Z (fun F=>NQ F T) hbT;have cP:=xA.cal Z (fun F=>R9 F T aX bW) hbT;have cK:=xB.cal Z (fun F=>SN F T) hbT;have bJ:=xC.cal (sp:=PN av au) Z (fun F=>Tr F T aW) hbT;exact AGj (AAw (st:=O9) lL cL kL) T aW cK bJ cP cQ
theorem walk{l:W.OpenLaw}{q:Program}{loose:List Str}{XP:(Str->Option Value)->Heap->Prop}{YP:World->Heap->Prop}{d:DefRec}{K:Params->W.Frag}(hn:l.most=some 63)(hdf:d.params.defaults=[])
  (hY:∀(w:World) (h:Heap),YP w h->(K w.params).In h)
  (F:∀(w:World) (mg:Str->Option Value) (fa:Addr) (h:Heap),(K w.params).In h->h.Ns mainGlobals mg->mg d.name=some (.ref fa) ->
   ∃fd:FuncData,(∀(s:Shared) (u:Value),BindsTo s fd ⟨[u],[]⟩ [("_law_script",u)])/\∀base:Heap,(K w.params).In base->base.Ns mainGlobals mg->BR l.prog w (K w.params) mg base CX0 12 fa fd ["_law_script"] (S5 (K w.params))) :
  W.WalkO q loose XP YP l.row.toRowW d [] (fun f vs=>PySem.call f vs) :=
 L2.walk_of (n:=63) (k:=12) (x:="_law_script") (CX:=fun _=>CX0) (sp:=fun w=>S5 (K w.params)) hn (by decide) hdf ⟨rfl,by decide,by decide⟩ hY F (fun _ _ a ns hl _ hS=>⟨a,ns,rfl,hS,hl,fun _=>rfl⟩) fun _ _ _ _ _ z=>z
open PySem.W
abbrev tp:Program:=PySem.Challenge.pw_tautcord_k86_rows_refused
abbrev ke(P:Params)(x:Str)(n:Nat)(v:Value):DictEntry:={ hash:=PyData.keyHash P x,key:=.str x n,val:=v }
abbrev mS0:Value:=.str "tautcord.errors" 187
abbrev mS1:Value:=.str "tautcord.wholes" 312
abbrev mS2:Value:=.str "tautcord.ratios" 332
abbrev mS3:Value:=.str "tautcord.cords" 412
abbrev mS4:Value:=.str "tautcord.changes" 490
abbrev mS5:Value:=.str "tautcord.counts" 538
abbrev mS6:Value:=.str "tautcord.polys" 587
abbrev mS7:Value:=.str "tautcord.ladders" 651
abbrev mS8:Value:=.str "tautcord.tones" 699
abbrev mS9:Value:=.str "tautcord.found" 750
abbrev ALg:Value:=.str "tautcord.modes" 817
abbrev Qa:Value:=.str "tautcord.texts" 836
abbrev TV:Value:=.str "tautcord.rows" 918
abbrev AOz:Value:=.str "tautcord.sisters" 1056
abbrev AMT:Value:=.str "tautcord.spans" 1067
abbrev VG:Value:=.str "tautcord.desk" 1089
abbrev WQ:Value:=.str "law_tautcord_k86_rows_refused" 1181
abbrev fo(x y:Str)(s:Stmt)(m:Value)(c:Nat):Obj:={ cls:=.type "function",data:=.func { name:=x,qualname:=y,params:=Bm s,body:=.stmts (Bd s),scope:=Ae s,globals:=3,closure:=[],defaults:=.none,kwdefaults:=.none,pyModule:=m,code:=.ref c } }
abbrev f1(x:Str)(s:Stmt)(m:Value)(c:Nat):Obj:=fo x x s m c
def alt:Bool->List Obj->List Obj
 | _,[]=>[]
 | true,x::r=>x::alt false r
 | false,_::r=>alt true r
def bld:Nat->List Obj->BT
 | 0,_=>.nil
 | _+1,[]=>.nil
 | n+1,x::r=>.node x (bld n (alt true r)) (bld n (alt false r))
abbrev tE:Obj:={ cls:=.type "tuple",data:=.seq #[] }
abbrev fE:Obj:={ cls:=.none,data:=.fields #[] }
def tL:Nat->List Str->List Value
 | _,[]=>[]
 | n,x::xs=>.str x n::tL (n+1) xs
abbrev tS(n:Nat)(xs:List Str):Obj:={ cls:=.type "tuple",data:=.seq (Array.mk (tL n xs)) }
abbrev pF(x y:Str)(s:Stmt):Obj:={ cls:=.none,dict:=none,data:=.func { name:=x,qualname:=y,params:=Bm s,body:=.stmts (Bd s),scope:=Ae s,globals:=0,closure:=[],defaults:=.none,kwdefaults:=.none,doc:=.none,pyModule:=.none,annotations:=none,code:=.none,closureTuple:=.none,builtins:=0 },slots:=#[] }
abbrev cO(x y:Str)(k l a b r m z:Nat):Obj:={ cls:=.type "code",data:=.fields #[.str x k,.str y (k+1),.str "/claim/cut.py" (k+2),.int l 0,.int a 0,.int 0 0,.int 0 0,.int b 0,.ref r,.bool Bool.true,.int 181 0,.ref (r+1),.none,.ref (r+2),.ref (r+3),.ref (r+4),.int m 0,.int l 0,.str "/claim/cut.py" z] }
abbrev c1(x:Str)(k l a b r m z:Nat):Obj:=cO x x k l a b r m z
abbrev cG(x y:Str)(k l a b r:Nat)(f:Bool)(p q s:Value)(m z:Nat):Obj:={ cls:=.type "code",data:=.fields #[.str x k,.str y (k+1),.str "/claim/cut.py" (k+2),.int l 0,.int a 0,.int 0 0,.int 0 0,.int b 0,.ref r,.bool f,.int 181 0,.ref (r+1),.none,p,q,s,.int m 0,.int l 0,.str "/claim/cut.py" z] }
def q:Program:=view tp [1,2,3,4,5,6,7,9,10,12,14,15,16,17,18,19,20,22,23,24,26,27,28,29,30,32,33,34,35,36,38,39,40,41,42,43,44,45,47,48,49,50,51,53,54,55,56,57,58,60,61,62,63,64,68,69,71,72,73,74,75,76,77,78,79,80,81,82,84,85,86,87,88,89,90,91,92,93,94,95,96,98,100,101,103,104,105,106,107,109,110,111,112,113,114,115]
def bE:List Stmt:=behindTheImports tp
def eE:Env:={ scope:=tp.main.scope,locals:=mainNs,globals:=mainNs,cells:=[],code:=.ref 13,frame:=some 14 }
abbrev cE:Code:=.body bE eE
def L_i(P:Params):List Obj:=[boot_o_0 P,boot_o_1 P,boot_o_2 P,boot_o_3 P,boot_o_4 P,boot_o_5 P,boot_o_6 P,boot_o_7 P,boot_o_8 P,boot_o_9 P,boot_o_10 P]
def u13:Obj:=cG "<module>" "<module>" 182 1 0 0 11 false .none .none .none 185 186
def u14:Obj:={ cls:=.type "frame",slots:=#[some (.ref 13),some (.ref 3),some (.ref 3),none,some (.str "__main__" 164),none,some (.ref 0)] }
def L_a(P:Params):List Obj:=(L_i P).append [tE,fE,u13,u14]
def L_b(P:Params):List Obj:=L_a P
def AK9(P:Params):List DictEntry:=[ke P "__name__" 165 (.str "tautcord.errors" 187),ke P "__doc__" 166 .none,ke P "__package__" 167 .none,ke P "__loader__" 168 (.builtin "__main__.__loader__#opaque"),ke P "__spec__" 169 .none,ke P "__annotations__" 170 (.ref 6),ke P "__builtins__" 171 (.ref 4),ke P "__file__" 173 (.str "/claim/cut.py" 172),ke P "__cached__" 174 .none,ke P "CordError" 206 (.ref 24),ke P "NoFraction" 222 (.ref 37)]
def ADs(P:Params):List Value:=[.int 2 0,.int 0 0,.ref 20,.int 4 0,.int 0 0,.ref 33]
def u15:Obj:={ cls:=.type "tuple",data:=.seq #[.type "ValueError"] }
def u16:Obj:={ cls:=.type "builtin_function_or_method",data:=.fields #[.builtin "type.__prepare__",.type "type"] }
def u17(P:Params):Obj:={ cls:=.type "dict",data:=.dict #[ke P "__module__" 196 (.str "tautcord.errors" 187),ke P "__qualname__" 198 (.str "CordError" 197),ke P "__firstlineno__" 200 (.int 2 199),ke P "__static_attributes__" 201 (.ref 22)] 4 }
def u20:Obj:=cG "CordError" "CordError" 191 2 0 0 18 false .none .none .none 194 195
def u21:Obj:={ cls:=.type "frame",slots:=#[some (.ref 20),some (.ref 3),some (.ref 17),none,some (.str "tautcord.errors" 187),none,some (.ref 0)] }
def u22:Obj:=tE
def u23(P:Params):Obj:={ cls:=.type "dict",data:=.dict #[ke P "__module__" 196 (.str "tautcord.errors" 187),ke P "__firstlineno__" 200 (.int 2 199),ke P "__static_attributes__" 201 (.ref 22),ke P "__weakref__" 203 (.ref 25),ke P "__doc__" 204 .none] 3 }
def u25:Obj:={ cls:=.type "getset_descriptor",data:=.fields #[.str "__weakref__" 202,.ref 24,.builtin "ExceptionGroup.__weakref__",.none] }
def u26:Obj:={ cls:=.type "super",data:=.fields #[.ref 24,.ref 24,.ref 24] }
def u27:Obj:={ cls:=.type "builtin_function_or_method",data:=.fields #[.builtin "object.__init_subclass__",.ref 24] }
def u28:Obj:={ cls:=.type "tuple",data:=.seq #[.ref 24] }
def u29:Obj:={ cls:=.type "builtin_function_or_method",data:=.fields #[.builtin "type.__prepare__",.type "type"] }
def u30(P:Params):Obj:={ cls:=.type "dict",data:=.dict #[ke P "__module__" 214 (.str "tautcord.errors" 187),ke P "__qualname__" 216 (.str "NoFraction" 215),ke P "__firstlineno__" 218 (.int 4 217),ke P "__static_attributes__" 219 (.ref 35)] 4 }
def u33:Obj:=cG "NoFraction" "NoFraction" 209 4 0 0 31 false .none .none .none 212 213
def u34:Obj:={ cls:=.type "frame",slots:=#[some (.ref 33),some (.ref 3),some (.ref 30),none,some (.str "tautcord.errors" 187),none,some (.ref 0)] }
def u35:Obj:=tE
def u36(P:Params):Obj:={ cls:=.type "dict",data:=.dict #[ke P "__module__" 214 (.str "tautcord.errors" 187),ke P "__firstlineno__" 218 (.int 4 217),ke P "__static_attributes__" 219 (.ref 35),ke P "__doc__" 220 .none] 2 }
def u37:Obj:={ cls:=.type "type",data:=.cls { name:="NoFraction",bases:=[.ref 24],mro:=[.ref 37,.ref 24,.type "ValueError",.type "Exception",.type "BaseException",.type "object"],ns:=36,qualname:="NoFraction" },slots:=#[some (.ref 28),none,some (.str "NoFraction" 207),some (.str "NoFraction" 215),some (.builtin "ValueError.__new__"),some (.bool Bool.true)] }
def u38:Obj:={ cls:=.type "super",data:=.fields #[.ref 37,.ref 37,.ref 37] }
def u39:Obj:={ cls:=.type "builtin_function_or_method",data:=.fields #[.builtin "object.__init_subclass__",.ref 37] }
def L_1(P:Params):List Obj:=(((L_b P).set 3 ({ cls:=.type "dict",data:=.dict (Array.mk (AK9 P)) 11 })).set 12 ({ cls:=.none,data:=.fields (Array.mk (ADs P)) })).append [u15,u16,u17 P,tE,fE,u20,u21,u22,u23 P,{ cls:=.type "type",data:=.cls { name:="CordError",bases:=[.type "ValueError"],mro:=[.ref 24,.type "ValueError",.type "Exception",.type "BaseException",.type "object"],ns:=23,qualname:="CordError",subclasses:=[.ref 37] },slots:=#[some (.ref 15),none,some (.str "CordError" 189),some (.str "CordError" 197),some (.builtin "ValueError.__new__"),some (.bool Bool.true)] },u25,u26,u27,u28,u29,u30 P,tE,fE,u33,u34,u35,u36 P,u37,u38,u39]
def AMQ(P:Params):List DictEntry:=(AK9 P).append [ke P "NoCord" 247 (.ref 56),ke P "NoWorth" 263 (.ref 68)]
def AD1(P:Params):List Value:=(ADs P).append [.int 6 0,.int 0 0,.ref 45,.int 10 0,.int 0 0,.ref 64]
def u40:Obj:={ cls:=.type "tuple",data:=.seq #[.ref 24] }
def u41:Obj:={ cls:=.type "builtin_function_or_method",data:=.fields #[.builtin "type.__prepare__",.type "type"] }
def u42(P:Params):Obj:={ cls:=.type "dict",data:=.dict #[ke P "__module__" 230 (.str "tautcord.errors" 187),ke P "__qualname__" 232 (.str "NoCord" 231),ke P "__firstlineno__" 234 (.int 6 233),ke P "__init__" 242 (.ref 53),ke P "__static_attributes__" 244 (.ref 54)] 5 }
def u44:Obj:={ cls:=.none,data:=.fields #[.int 8 0,.int 4 0,.ref 52] }
def u45:Obj:=cG "NoCord" "NoCord" 225 6 0 0 43 false .none .none .none 228 229
def u46:Obj:={ cls:=.type "frame",slots:=#[some (.ref 45),some (.ref 3),some (.ref 42),none,some (.str "tautcord.errors" 187),none,some (.ref 0)] }
def u49:Obj:=tS 238 ["self","place"]
def u51:Obj:=pF "__init__" "NoCord.__init__" (Bb (top 3) 0)
def u52:Obj:=cO "__init__" "NoCord.__init__" 235 8 2 3 47 240 241
def u53:Obj:=fo "__init__" "NoCord.__init__" (Bb (top 3) 0) mS0 52
def u54:Obj:=tS 243 ["place"]
def u55(P:Params):Obj:={ cls:=.type "dict",data:=.dict #[ke P "__module__" 230 (.str "tautcord.errors" 187),ke P "__firstlineno__" 234 (.int 6 233),ke P "__init__" 242 (.ref 53),ke P "__static_attributes__" 244 (.ref 54),ke P "__doc__" 245 .none] 2 }
def u56:Obj:={ cls:=.type "type",data:=.cls { name:="NoCord",bases:=[.ref 24],mro:=[.ref 56,.ref 24,.type "ValueError",.type "Exception",.type "BaseException",.type "object"],ns:=55,qualname:="NoCord" },slots:=#[some (.ref 40),none,some (.str "NoCord" 223),some (.str "NoCord" 231),some (.builtin "ValueError.__new__"),some (.bool Bool.true)] }
def u57:Obj:={ cls:=.type "super",data:=.fields #[.ref 56,.ref 56,.ref 56] }
def u58:Obj:={ cls:=.type "builtin_function_or_method",data:=.fields #[.builtin "object.__init_subclass__",.ref 56] }
def u59:Obj:={ cls:=.type "tuple",data:=.seq #[.ref 24] }
def u60:Obj:={ cls:=.type "builtin_function_or_method",data:=.fields #[.builtin "type.__prepare__",.type "type"] }
def u61(P:Params):Obj:={ cls:=.type "dict",data:=.dict #[ke P "__module__" 255 (.str "tautcord.errors" 187),ke P "__qualname__" 257 (.str "NoWorth" 256),ke P "__firstlineno__" 259 (.int 10 258),ke P "__static_attributes__" 260 (.ref 66)] 4 }
def u64:Obj:=cG "NoWorth" "NoWorth" 250 10 0 0 62 false .none .none .none 253 254
def u65:Obj:={ cls:=.type "frame",slots:=#[some (.ref 64),some (.ref 3),some (.ref 61),none,some (.str "tautcord.errors" 187),none,some (.ref 0)] }
def u66:Obj:=tE
def u67(P:Params):Obj:={ cls:=.type "dict",data:=.dict #[ke P "__module__" 255 (.str "tautcord.errors" 187),ke P "__firstlineno__" 259 (.int 10 258),ke P "__static_attributes__" 260 (.ref 66),ke P "__doc__" 261 .none] 2 }
def u68:Obj:={ cls:=.type "type",data:=.cls { name:="NoWorth",bases:=[.ref 24],mro:=[.ref 68,.ref 24,.type "ValueError",.type "Exception",.type "BaseException",.type "object"],ns:=67,qualname:="NoWorth" },slots:=#[some (.ref 59),none,some (.str "NoWorth" 248),some (.str "NoWorth" 256),some (.builtin "ValueError.__new__"),some (.bool Bool.true)] }
def u69:Obj:={ cls:=.type "super",data:=.fields #[.ref 68,.ref 68,.ref 68] }
def u70:Obj:={ cls:=.type "builtin_function_or_method",data:=.fields #[.builtin "object.__init_subclass__",.ref 68] }
def L_2(P:Params):List Obj:=((((L_1 P).set 3 ({ cls:=.type "dict",data:=.dict (Array.mk (AMQ P)) 13 })).set 12 ({ cls:=.none,data:=.fields (Array.mk (AD1 P)) })).set 24 ({ cls:=.type "type",data:=.cls { name:="CordError",bases:=[.type "ValueError"],mro:=[.ref 24,.type "ValueError",.type "Exception",.type "BaseException",.type "object"],ns:=23,qualname:="CordError",subclasses:=[.ref 37,.ref 56,.ref 68] },slots:=#[some (.ref 15),none,some (.str "CordError" 189),some (.str "CordError" 197),some (.builtin "ValueError.__new__"),some (.bool Bool.true)] })).append [u40,u41,u42 P,tE,u44,u45,u46,tE,fE,u49,tE,u51,u52,u53,u54,u55 P,u56,u57,u58,u59,u60,u61 P,tE,fE,u64,u65,u66,u67 P,u68,u69,u70]
def AMa(P:Params):List DictEntry:=(AMQ P).append [ke P "NoBead" 279 (.ref 80),ke P "NoText" 295 (.ref 92)]
def AD3(P:Params):List Value:=(AD1 P).append [.int 12 0,.int 0 0,.ref 76,.int 14 0,.int 0 0,.ref 88]
def u71:Obj:={ cls:=.type "tuple",data:=.seq #[.ref 24] }
def u72:Obj:={ cls:=.type "builtin_function_or_method",data:=.fields #[.builtin "type.__prepare__",.type "type"] }
def u73(P:Params):Obj:={ cls:=.type "dict",data:=.dict #[ke P "__module__" 271 (.str "tautcord.errors" 187),ke P "__qualname__" 273 (.str "NoBead" 272),ke P "__firstlineno__" 275 (.int 12 274),ke P "__static_attributes__" 276 (.ref 78)] 4 }
def u76:Obj:=cG "NoBead" "NoBead" 266 12 0 0 74 false .none .none .none 269 270
def u77:Obj:={ cls:=.type "frame",slots:=#[some (.ref 76),some (.ref 3),some (.ref 73),none,some (.str "tautcord.errors" 187),none,some (.ref 0)] }
def u78:Obj:=tE
def u79(P:Params):Obj:={ cls:=.type "dict",data:=.dict #[ke P "__module__" 271 (.str "tautcord.errors" 187),ke P "__firstlineno__" 275 (.int 12 274),ke P "__static_attributes__" 276 (.ref 78),ke P "__doc__" 277 .none] 2 }
def u80:Obj:={ cls:=.type "type",data:=.cls { name:="NoBead",bases:=[.ref 24],mro:=[.ref 80,.ref 24,.type "ValueError",.type "Exception",.type "BaseException",.type "object"],ns:=79,qualname:="NoBead" },slots:=#[some (.ref 71),none,some (.str "NoBead" 264),some (.str "NoBead" 272),some (.builtin "ValueError.__new__"),some (.bool Bool.true)] }
def u81:Obj:={ cls:=.type "super",data:=.fields #[.ref 80,.ref 80,.ref 80] }
def u82:Obj:={ cls:=.type "builtin_function_or_method",data:=.fields #[.builtin "object.__init_subclass__",.ref 80] }
def u83:Obj:={ cls:=.type "tuple",data:=.seq #[.ref 24] }
def u84:Obj:={ cls:=.type "builtin_function_or_method",data:=.fields #[.builtin "type.__prepare__",.type "type"] }
def u85(P:Params):Obj:={ cls:=.type "dict",data:=.dict #[ke P "__module__" 287 (.str "tautcord.errors" 187),ke P "__qualname__" 289 (.str "NoText" 288),ke P "__firstlineno__" 291 (.int 14 290),ke P "__static_attributes__" 292 (.ref 90)] 4 }
def u88:Obj:=cG "NoText" "NoText" 282 14 0 0 86 false .none .none .none 285 286
def u89:Obj:={ cls:=.type "frame",slots:=#[some (.ref 88),some (.ref 3),some (.ref 85),none,some (.str "tautcord.errors" 187),none,some (.ref 0)] }
def u90:Obj:=tE
def u91(P:Params):Obj:={ cls:=.type "dict",data:=.dict #[ke P "__module__" 287 (.str "tautcord.errors" 187),ke P "__firstlineno__" 291 (.int 14 290),ke P "__static_attributes__" 292 (.ref 90),ke P "__doc__" 293 .none] 2 }
def u92:Obj:={ cls:=.type "type",data:=.cls { name:="NoText",bases:=[.ref 24],mro:=[.ref 92,.ref 24,.type "ValueError",.type "Exception",.type "BaseException",.type "object"],ns:=91,qualname:="NoText" },slots:=#[some (.ref 83),none,some (.str "NoText" 280),some (.str "NoText" 288),some (.builtin "ValueError.__new__"),some (.bool Bool.true)] }
def u93:Obj:={ cls:=.type "super",data:=.fields #[.ref 92,.ref 92,.ref 92] }
def u94:Obj:={ cls:=.type "builtin_function_or_method",data:=.fields #[.builtin "object.__init_subclass__",.ref 92] }
def L_3(P:Params):List Obj:=((((L_2 P).set 3 ({ cls:=.type "dict",data:=.dict (Array.mk (AMa P)) 15 })).set 12 ({ cls:=.none,data:=.fields (Array.mk (AD3 P)) })).set 24 ({ cls:=.type "type",data:=.cls { name:="CordError",bases:=[.type "ValueError"],mro:=[.ref 24,.type "ValueError",.type "Exception",.type "BaseException",.type "object"],ns:=23,qualname:="CordError",subclasses:=[.ref 37,.ref 56,.ref 68,.ref 80,.ref 92] },slots:=#[some (.ref 15),none,some (.str "CordError" 189),some (.str "CordError" 197),some (.builtin "ValueError.__new__"),some (.bool Bool.true)] })).append [u71,u72,u73 P,tE,fE,u76,u77,u78,u79 P,u80,u81,u82,u83,u84,u85 P,tE,fE,u88,u89,u90,u91 P,u92,u93,u94]
def AMU(P:Params):List DictEntry:=((AMa P).set 0 (ke P "__name__" 165 (.str "tautcord.ratios" 332))).append [ke P "NoName" 311 (.ref 104),ke P "is_whole" 320 (.ref 113),ke P "divisor" 331 (.ref 120),ke P "is_fraction" 340 (.ref 127),ke P "fraction" 350 (.ref 135),ke P "plus" 361 (.ref 142),ke P "minus" 369 (.ref 149),ke P "times" 379 (.ref 156),ke P "over" 387 (.ref 163)]
def ADi(P:Params):List Value:=(AD3 P).append [.int 16 0,.int 0 0,.ref 100,.int 19 0,.int 0 0,.ref 112,.int 21 0,.int 0 0,.ref 119,.int 30 0,.int 0 0,.ref 126,.int 36 0,.int 0 0,.ref 134,.int 45 0,.int 0 0,.ref 141,.int 50 0,.int 0 0,.ref 148,.int 52 0,.int 0 0,.ref 155,.int 56 0,.int 0 0,.ref 162]
def u24:Obj:={ cls:=.type "type",data:=.cls { name:="CordError",bases:=[.type "ValueError"],mro:=[.ref 24,.type "ValueError",.type "Exception",.type "BaseException",.type "object"],ns:=23,qualname:="CordError",subclasses:=[.ref 37,.ref 56,.ref 68,.ref 80,.ref 92,.ref 104] },slots:=#[some (.ref 15),none,some (.str "CordError" 189),some (.str "CordError" 197),some (.builtin "ValueError.__new__"),some (.bool Bool.true)] }
def u95:Obj:={ cls:=.type "tuple",data:=.seq #[.ref 24] }
def u96:Obj:={ cls:=.type "builtin_function_or_method",data:=.fields #[.builtin "type.__prepare__",.type "type"] }
def u97(P:Params):Obj:={ cls:=.type "dict",data:=.dict #[ke P "__module__" 303 (.str "tautcord.errors" 187),ke P "__qualname__" 305 (.str "NoName" 304),ke P "__firstlineno__" 307 (.int 16 306),ke P "__static_attributes__" 308 (.ref 102)] 4 }
def AOA:Obj:=cG "NoName" "NoName" 298 16 0 0 98 false .none .none .none 301 302
def AM0:Obj:={ cls:=.type "frame",slots:=#[some (.ref 100),some (.ref 3),some (.ref 97),none,some (.str "tautcord.errors" 187),none,some (.ref 0)] }
def AIv:Obj:=tE
def AGo(P:Params):Obj:={ cls:=.type "dict",data:=.dict #[ke P "__module__" 303 (.str "tautcord.errors" 187),ke P "__firstlineno__" 307 (.int 16 306),ke P "__static_attributes__" 308 (.ref 102),ke P "__doc__" 309 .none] 2 }
def AJD:Obj:={ cls:=.type "type",data:=.cls { name:="NoName",bases:=[.ref 24],mro:=[.ref 104,.ref 24,.type "ValueError",.type "Exception",.type "BaseException",.type "object"],ns:=103,qualname:="NoName" },slots:=#[some (.ref 95),none,some (.str "NoName" 296),some (.str "NoName" 304),some (.builtin "ValueError.__new__"),some (.bool Bool.true)] }
def AMC:Obj:={ cls:=.type "super",data:=.fields #[.ref 104,.ref 104,.ref 104] }
def AM3:Obj:={ cls:=.type "builtin_function_or_method",data:=.fields #[.builtin "object.__init_subclass__",.ref 104] }
def ANS:Obj:=tS 317 ["thing"]
def ALn:Obj:=pF "is_whole" "is_whole" (top 9)
def AIX:Obj:=c1 "is_whole" 314 19 1 3 107 318 319
def AJI:Obj:=f1 "is_whole" (top 9) mS1 112
def AKA:Obj:=tS 324 ["one","other","first","second","rest"]
def AN1:Obj:=pF "divisor" "divisor" (top 10)
def AFt:Obj:=c1 "divisor" 321 21 2 3 114 329 330
def AIC:Obj:=f1 "divisor" (top 10) mS1 119
def AKF:Obj:=tS 337 ["thing"]
def AON:Obj:=pF "is_fraction" "is_fraction" (top 12)
def AGg:Obj:=c1 "is_fraction" 334 30 1 3 121 338 339
def AI5:Obj:=f1 "is_fraction" (top 12) mS2 126
def AH3:Obj:={ cls:=.type "tuple",data:=.seq #[.int 1 341] }
def AL8:Obj:=tS 345 ["top","bottom","shared"]
def AK4:Obj:=pF "fraction" "fraction" (top 13)
def AIQ:Obj:=c1 "fraction" 342 36 2 3 129 348 349
def AIs:Obj:={ cls:=.type "function",dict:=none,data:=.func { name:="fraction",qualname:="fraction",params:=Bm (top 13),body:=.stmts (Bd (top 13)),scope:=Ae (top 13),globals:=3,closure:=[],defaults:=.ref 128,kwdefaults:=.none,doc:=.none,pyModule:=.str "tautcord.ratios" 332,annotations:=none,code:=.ref 134,closureTuple:=.none,builtins:=0 },slots:=#[] }
def AMm:Obj:=tS 354 ["one","other","shared","top","left"]
def AKq:Obj:=pF "plus" "plus" (top 14)
def AFj:Obj:=c1 "plus" 351 45 2 3 136 359 360
def AFi:Obj:=f1 "plus" (top 14) mS2 141
def AMJ:Obj:=tS 365 ["one","other"]
def ALQ:Obj:=pF "minus" "minus" (top 15)
def AIW:Obj:=c1 "minus" 362 50 2 3 143 367 368
def AGM:Obj:=f1 "minus" (top 15) mS2 148
def AKn:Obj:=tS 373 ["one","other","first","second"]
def ALG:Obj:=pF "times" "times" (top 16)
def AJO:Obj:=c1 "times" 370 52 2 3 150 377 378
def AHz:Obj:=f1 "times" (top 16) mS2 155
def AMb:Obj:=tS 383 ["one","other"]
def AN6:Obj:=pF "over" "over" (top 17)
def AEz:Obj:=c1 "over" 380 56 2 3 157 385 386
def AEr:Obj:=f1 "over" (top 17) mS2 162
def L_4(P:Params):List Obj:=((((L_3 P).set 3 ({ cls:=.type "dict",data:=.dict (Array.mk (AMU P)) 24 })).set 12 ({ cls:=.none,data:=.fields (Array.mk (ADi P)) })).set 24 (u24)).append [u95,u96,u97 P,tE,fE,AOA,AM0,AIv,AGo P,AJD,AMC,AM3,tE,fE,ANS,tE,ALn,AIX,AJI,tE,fE,AKA,tE,AN1,AFt,AIC,tE,fE,AKF,tE,AON,AGg,AI5,AH3,tE,fE,AL8,tE,AK4,AIQ,AIs,tE,fE,AMm,tE,AKq,AFj,AFi,tE,fE,AMJ,tE,ALQ,AIW,AGM,tE,fE,AKn,tE,ALG,AJO,AHz,tE,fE,AMb,tE,AN6,AEz,AEr]
def AOS(P:Params):List DictEntry:=((AMU P).set 0 (ke P "__name__" 165 (.str "tautcord.cords" 412))).append [ke P "is_under" 395 (.ref 170),ke P "side" 402 (.ref 177),ke P "is_rising" 411 (.ref 184),ke P "MOST_BEADS" 415 (.int 12 414),ke P "is_row_above" 421 (.ref 189)]
def ADn(P:Params):List Value:=(ADi P).append [.int 60 0,.int 0 0,.ref 169,.int 62 0,.int 0 0,.ref 176,.int 68 0,.int 0 0,.ref 183,.int 77 0,.int 0 0,.ref 188]
def AL1:Obj:=tS 391 ["one","other"]
def AJn:Obj:=pF "is_under" "is_under" (top 18)
def AIy:Obj:=c1 "is_under" 388 60 2 3 164 393 394
def AHE:Obj:=f1 "is_under" (top 18) mS2 169
def AOJ:Obj:=tS 399 ["one"]
def AM5:Obj:=pF "side" "side" (top 19)
def AGQ:Obj:=c1 "side" 396 62 1 3 171 400 401
def AIi:Obj:=f1 "side" (top 19) mS2 176
def AJ4:Obj:=tS 406 ["row","last","one"]
def ALu:Obj:=pF "is_rising" "is_rising" (top 20)
def AG2:Obj:=c1 "is_rising" 403 68 1 3 178 409 410
def AEq:Obj:=f1 "is_rising" (top 20) mS2 183
def AJ2:Obj:=pF "is_row_above" "is_row_above" (top 23)
def AJJ:Obj:=cG "is_row_above" "is_row_above" 416 77 1 3 185 true .none .none (.ref 187) 419 420
def AFc:Obj:=f1 "is_row_above" (top 23) mS3 188
def L_5(P:Params):List Obj:=(((L_4 P).set 3 ({ cls:=.type "dict",data:=.dict (Array.mk (AOS P)) 29 })).set 12 ({ cls:=.none,data:=.fields (Array.mk (ADn P)) })).append [tE,fE,AL1,tE,AJn,AIy,AHE,tE,fE,AOJ,tE,AM5,AGQ,AIi,tE,fE,AJ4,tE,ALu,AG2,AEq,tE,fE,AJ2,AJJ,AFc]
def AMn(P:Params):List DictEntry:=((AOS P).set 0 (ke P "__name__" 165 (.str "tautcord.changes" 490))).append [ke P "Cord" 489 (.ref 241),ke P "heavier" 500 (.ref 252),ke P "longer" 509 (.ref 259),ke P "joined" 520 (.ref 266)]
def AEI(P:Params):List Value:=(ADn P).append [.int 81 0,.int 0 0,.ref 195,.int 109 0,.int 0 0,.ref 251,.int 112 0,.int 0 0,.ref 258,.int 116 0,.int 0 0,.ref 265]
def AKc:Obj:={ cls:=.type "builtin_function_or_method",data:=.fields #[.builtin "type.__prepare__",.type "type"] }
def ALN(P:Params):Obj:={ cls:=.type "dict",data:=.dict #[ke P "__module__" 429 (.str "tautcord.cords" 412),ke P "__qualname__" 431 (.str "Cord" 430),ke P "__firstlineno__" 433 (.int 81 432),ke P "__init__" 442 (.ref 203),ke P "gaps" 449 (.ref 210),ke P "weights" 456 (.ref 217),ke P "beads" 463 (.ref 224),ke P "length" 472 (.ref 231),ke P "turned" 479 (.ref 238),ke P "__static_attributes__" 482 (.ref 239)] 10 }
def AMh:Obj:={ cls:=.none,data:=.fields #[.int 83 0,.int 4 0,.ref 202,.int 91 0,.int 4 0,.ref 209,.int 94 0,.int 4 0,.ref 216,.int 97 0,.int 4 0,.ref 223,.int 100 0,.int 4 0,.ref 230,.int 106 0,.int 4 0,.ref 237] }
def AMX:Obj:=cG "Cord" "Cord" 424 81 0 0 193 false .none .none .none 427 428
def AMW:Obj:={ cls:=.type "frame",slots:=#[some (.ref 195),some (.ref 3),some (.ref 192),none,some (.str "tautcord.cords" 412),none,some (.ref 0)] }
def ALc:Obj:=tS 437 ["self","gaps","weights"]
def ANM:Obj:=pF "__init__" "Cord.__init__" (Bb (top 24) 0)
def AFJ:Obj:=cO "__init__" "Cord.__init__" 434 83 3 3 197 440 441
def AFg:Obj:=fo "__init__" "Cord.__init__" (Bb (top 24) 0) mS3 202
def AKK:Obj:=tS 446 ["self"]
def ALh:Obj:=pF "gaps" "Cord.gaps" (Bb (top 24) 1)
def AHx:Obj:=cO "gaps" "Cord.gaps" 443 91 1 3 204 447 448
def AGr:Obj:=fo "gaps" "Cord.gaps" (Bb (top 24) 1) mS3 209
def ALJ:Obj:=tS 453 ["self"]
def AN0:Obj:=pF "weights" "Cord.weights" (Bb (top 24) 2)
def AGu:Obj:=cO "weights" "Cord.weights" 450 94 1 3 211 454 455
def AHM:Obj:=fo "weights" "Cord.weights" (Bb (top 24) 2) mS3 216
def AKp:Obj:=tS 460 ["self"]
def AM1:Obj:=pF "beads" "Cord.beads" (Bb (top 24) 3)
def AFx:Obj:=cO "beads" "Cord.beads" 457 97 1 3 218 461 462
def AG9:Obj:=fo "beads" "Cord.beads" (Bb (top 24) 3) mS3 223
def ALE:Obj:=tS 467 ["self","whole","gap"]
def AJm:Obj:=pF "length" "Cord.length" (Bb (top 24) 4)
def AFb:Obj:=cO "length" "Cord.length" 464 100 1 3 225 470 471
def AGm:Obj:=fo "length" "Cord.length" (Bb (top 24) 4) mS3 230
def AMA:Obj:=tS 476 ["self"]
def AKB:Obj:=pF "turned" "Cord.turned" (Bb (top 24) 5)
def AHv:Obj:=cO "turned" "Cord.turned" 473 106 1 3 232 477 478
def AEo:Obj:=fo "turned" "Cord.turned" (Bb (top 24) 5) mS3 237
def AEU:Obj:=tS 480 ["kept_gaps","kept_weights"]
def AEm(P:Params):Obj:={ cls:=.type "dict",data:=.dict #[ke P "__module__" 429 (.str "tautcord.cords" 412),ke P "__firstlineno__" 433 (.int 81 432),ke P "__init__" 442 (.ref 203),ke P "gaps" 449 (.ref 210),ke P "weights" 456 (.ref 217),ke P "beads" 463 (.ref 224),ke P "length" 472 (.ref 231),ke P "turned" 479 (.ref 238),ke P "__static_attributes__" 482 (.ref 239),ke P "__dict__" 484 (.ref 242),ke P "__weakref__" 486 (.ref 243),ke P "__doc__" 487 .none] 4 }
def AGH:Obj:={ cls:=.type "type",data:=.cls { name:="Cord",bases:=[.type "object"],mro:=[.ref 241,.type "object"],ns:=240,qualname:="Cord" },slots:=#[none,none,some (.str "Cord" 422),some (.str "Cord" 430),some (.builtin "object.__new__"),some (.bool Bool.true)] }
def AHJ:Obj:={ cls:=.type "getset_descriptor",data:=.fields #[.str "__dict__" 483,.ref 241,.builtin "function.__dict__",.builtin "function.__dict__#set"] }
def AGF:Obj:={ cls:=.type "getset_descriptor",data:=.fields #[.str "__weakref__" 485,.ref 241,.builtin "ExceptionGroup.__weakref__",.none] }
def AL0:Obj:={ cls:=.type "super",data:=.fields #[.ref 241,.ref 241,.ref 241] }
def AJ1:Obj:={ cls:=.type "builtin_function_or_method",data:=.fields #[.builtin "object.__init_subclass__",.ref 241] }
def AJ9:Obj:=tS 495 ["cord","bead","more"]
def AKU:Obj:=pF "heavier" "heavier" (top 26)
def AGf:Obj:=c1 "heavier" 492 109 3 3 246 498 499
def AGC:Obj:=f1 "heavier" (top 26) mS4 251
def AL3:Obj:=tS 504 ["cord","gap","more"]
def AKi:Obj:=pF "longer" "longer" (top 27)
def AIj:Obj:=c1 "longer" 501 112 3 3 253 507 508
def AGk:Obj:=f1 "longer" (top 27) mS4 258
def AKP:Obj:=tS 513 ["one","other","gaps","further","middle"]
def ANv:Obj:=pF "joined" "joined" (top 28)
def AFW:Obj:=c1 "joined" 510 116 2 3 260 518 519
def AEP:Obj:=f1 "joined" (top 28) mS4 265
def L_6(P:Params):List Obj:=(((L_5 P).set 3 ({ cls:=.type "dict",data:=.dict (Array.mk (AMn P)) 33 })).set 12 ({ cls:=.none,data:=.fields (Array.mk (AEI P)) })).append [tE,AKc,ALN P,tE,AMh,AMX,AMW,tE,fE,ALc,tE,ANM,AFJ,AFg,tE,fE,AKK,tE,ALh,AHx,AGr,tE,fE,ALJ,tE,AN0,AGu,AHM,tE,fE,AKp,tE,AM1,AFx,AG9,tE,fE,ALE,tE,AJm,AFb,AGm,tE,fE,AMA,tE,AKB,AHv,AEo,AEU,AEm P,AGH,AHJ,AGF,AL0,AJ1,tE,fE,AJ9,tE,AKU,AGf,AGC,tE,fE,AL3,tE,AKi,AIj,AGk,tE,fE,AKP,tE,ANv,AFW,AEP]
def AN3(P:Params):List DictEntry:=((AMn P).set 0 (ke P "__name__" 165 (.str "tautcord.ladders" 651))).append [ke P "check_bead" 528 (.ref 273),ke P "with_more" 537 (.ref 280),ke P "signs" 545 (.ref 285),ke P "turns" 551 (.ref 290),ke P "worths_below" 560 (.ref 297),ke P "up_to" 570 (.ref 304),ke P "row_at" 586 (.ref 311),ke P "poly" 596 (.ref 318),ke P "figure_at" 604 (.ref 325),ke P "poly_plus" 610 (.ref 330),ke P "poly_minus" 616 (.ref 335),ke P "scaled" 622 (.ref 340),ke P "shared_bottom" 631 (.ref 347),ke P "whole_figures" 637 (.ref 352),ke P "whole_times" 650 (.ref 359)]
def AD6(P:Params):List Value:=(AEI P).append [.int 121 0,.int 0 0,.ref 272,.int 124 0,.int 0 0,.ref 279,.int 129 0,.int 0 0,.ref 284,.int 131 0,.int 0 0,.ref 289,.int 134 0,.int 0 0,.ref 296,.int 136 0,.int 0 0,.ref 303,.int 141 0,.int 0 0,.ref 310,.int 155 0,.int 0 0,.ref 317,.int 160 0,.int 0 0,.ref 324,.int 164 0,.int 0 0,.ref 329,.int 167 0,.int 0 0,.ref 334,.int 170 0,.int 0 0,.ref 339,.int 172 0,.int 0 0,.ref 346,.int 177 0,.int 0 0,.ref 351,.int 179 0,.int 0 0,.ref 358]
def AL5:Obj:=tS 524 ["cord","bead"]
def AOD:Obj:=pF "check_bead" "check_bead" (top 29)
def AJP:Obj:=c1 "check_bead" 521 121 2 3 267 526 527
def AHA:Obj:=f1 "check_bead" (top 29) mS4 272
def AMM:Obj:=tS 532 ["row","place","more"]
def AOI:Obj:=pF "with_more" "with_more" (top 30)
def AGn:Obj:=c1 "with_more" 529 124 3 3 274 535 536
def AEM:Obj:=f1 "with_more" (top 30) mS4 279
def AJk:Obj:=pF "signs" "signs" (top 32)
def AHf:Obj:=cG "signs" "signs" 540 129 1 3 281 true .none .none (.ref 283) 543 544
def AH5:Obj:=f1 "signs" (top 32) mS5 284
def AJ6:Obj:=pF "turns" "turns" (top 33)
def AEl:Obj:=cG "turns" "turns" 546 131 1 3 286 true .none .none (.ref 288) 549 550
def AEn:Obj:=f1 "turns" (top 33) mS5 289
def AJx:Obj:=tS 555 ["cord","end","t"]
def ANx:Obj:=pF "worths_below" "worths_below" (top 34)
def AHT:Obj:=c1 "worths_below" 552 134 3 3 291 558 559
def AEb:Obj:=f1 "worths_below" (top 34) mS5 296
def AKW:Obj:=tS 564 ["cord","end","t","row"]
def AM6:Obj:=pF "up_to" "up_to" (top 35)
def AH0:Obj:=c1 "up_to" 561 136 3 3 298 568 569
def AJF:Obj:=f1 "up_to" (top 35) mS5 303
def AJs:Obj:=tS 574 ["cord","end","t","gaps","height","lean","row","weight","gap","pull"]
def AKL:Obj:=pF "row_at" "row_at" (top 36)
def AHY:Obj:=c1 "row_at" 571 141 3 3 305 584 585
def AJM:Obj:=f1 "row_at" (top 36) mS5 310
def ANh:Obj:=tS 592 ["figures","most"]
def AMY:Obj:=pF "poly" "poly" (top 38)
def AEw:Obj:=c1 "poly" 589 155 1 3 312 594 595
def AF4:Obj:=f1 "poly" (top 38) mS6 317
def AK5:Obj:=tS 600 ["one","power"]
def ANL:Obj:=pF "figure_at" "figure_at" (top 39)
def AIS:Obj:=c1 "figure_at" 597 160 2 3 319 602 603
def AIx:Obj:=f1 "figure_at" (top 39) mS6 324
def AMv:Obj:=pF "poly_plus" "poly_plus" (top 40)
def AGz:Obj:=cG "poly_plus" "poly_plus" 605 164 2 3 326 true .none .none (.ref 328) 608 609
def AEf:Obj:=f1 "poly_plus" (top 40) mS6 329
def AJ7:Obj:=pF "poly_minus" "poly_minus" (top 41)
def AIZ:Obj:=cG "poly_minus" "poly_minus" 611 167 2 3 331 true .none .none (.ref 333) 614 615
def AIq:Obj:=f1 "poly_minus" (top 41) mS6 334
def ALV:Obj:=pF "scaled" "scaled" (top 42)
def AJT:Obj:=cG "scaled" "scaled" 617 170 2 3 336 true .none .none (.ref 338) 620 621
def AHd:Obj:=f1 "scaled" (top 42) mS6 339
def AMR:Obj:=tS 626 ["figures","bottom","figure"]
def AKz:Obj:=pF "shared_bottom" "shared_bottom" (top 43)
def AF8:Obj:=c1 "shared_bottom" 623 172 1 3 341 629 630
def AEe:Obj:=f1 "shared_bottom" (top 43) mS6 346
def ANt:Obj:=pF "whole_figures" "whole_figures" (top 44)
def AGe:Obj:=cG "whole_figures" "whole_figures" 632 177 2 3 348 true .none .none (.ref 350) 635 636
def AJR:Obj:=f1 "whole_figures" (top 44) mS6 351
def AOG:Obj:=tS 641 ["one","other","product","power","figure","further","factor"]
def ALl:Obj:=pF "whole_times" "whole_times" (top 45)
def AGZ:Obj:=c1 "whole_times" 638 179 2 3 353 648 649
def AG3:Obj:=f1 "whole_times" (top 45) mS6 358
def L_7(P:Params):List Obj:=(((L_6 P).set 3 ({ cls:=.type "dict",data:=.dict (Array.mk (AN3 P)) 48 })).set 12 ({ cls:=.none,data:=.fields (Array.mk (AD6 P)) })).append [tE,fE,AL5,tE,AOD,AJP,AHA,tE,fE,AMM,tE,AOI,AGn,AEM,tE,fE,AJk,AHf,AH5,tE,fE,AJ6,AEl,AEn,tE,fE,AJx,tE,ANx,AHT,AEb,tE,fE,AKW,tE,AM6,AH0,AJF,tE,fE,AJs,tE,AKL,AHY,AJM,tE,fE,ANh,tE,AMY,AEw,AF4,tE,fE,AK5,tE,ANL,AIS,AIx,tE,fE,AMv,AGz,AEf,tE,fE,AJ7,AIZ,AIq,tE,fE,ALV,AJT,AHd,tE,fE,AMR,tE,AKz,AF8,AEe,tE,fE,ANt,AGe,AJR,tE,fE,AOG,tE,ALl,AGZ,AG3]
def AK8(P:Params):List DictEntry:=((AN3 P).set 0 (ke P "__name__" 165 (.str "tautcord.found" 750))).append [ke P "ladder" 666 (.ref 366),ke P "over_one_bottom" 674 (.ref 373),ke P "quotient_at" 686 (.ref 380),ke P "rest_of" 692 (.ref 385),ke P "in_lowest_terms" 698 (.ref 390),ke P "held" 707 (.ref 397),ke P "loose" 714 (.ref 404),ke P "near" 721 (.ref 411),ke P "free" 728 (.ref 418),ke P "ends" 742 (.ref 425),ke P "times_number" 749 (.ref 432),ke P "cord_with" 761 (.ref 439),ke P "even" 772 (.ref 446),ke P "even_about_gap" 782 (.ref 453),ke P "even_about_bead" 792 (.ref 460)]
def ADu(P:Params):List Value:=(AD6 P).append [.int 188 0,.int 0 0,.ref 365,.int 205 0,.int 0 0,.ref 372,.int 208 0,.int 0 0,.ref 379,.int 217 0,.int 0 0,.ref 384,.int 224 0,.int 0 0,.ref 389,.int 230 0,.int 0 0,.ref 396,.int 232 0,.int 0 0,.ref 403,.int 234 0,.int 0 0,.ref 410,.int 236 0,.int 0 0,.ref 417,.int 238 0,.int 0 0,.ref 424,.int 246 0,.int 0 0,.ref 431,.int 249 0,.int 0 0,.ref 438,.int 255 0,.int 0 0,.ref 445,.int 267 0,.int 0 0,.ref 452,.int 272 0,.int 0 0,.ref 459]
def AMp:Obj:=tS 656 ["upper","lower","one","other","quotients","place","quotient","rest"]
def ANk:Obj:=pF "ladder" "ladder" (top 47)
def AIV:Obj:=c1 "ladder" 653 188 2 3 360 664 665
def AJQ:Obj:=f1 "ladder" (top 47) mS7 365
def AKC:Obj:=tS 670 ["one","bottom"]
def AJr:Obj:=pF "over_one_bottom" "over_one_bottom" (top 48)
def AEc:Obj:=c1 "over_one_bottom" 667 205 1 3 367 672 673
def AG0:Obj:=f1 "over_one_bottom" (top 48) mS7 372
def AOQ:Obj:=tS 678 ["place","one","other","last","divided_by","quotient"]
def AKD:Obj:=pF "quotient_at" "quotient_at" (top 49)
def AGD:Obj:=c1 "quotient_at" 675 208 3 3 374 684 685
def AEj:Obj:=f1 "quotient_at" (top 49) mS7 379
def AMw:Obj:=pF "rest_of" "rest_of" (top 50)
def AI7:Obj:=cG "rest_of" "rest_of" 687 217 2 3 381 true .none .none (.ref 383) 690 691
def AF6:Obj:=f1 "rest_of" (top 50) mS7 384
def AMK:Obj:=pF "in_lowest_terms" "in_lowest_terms" (top 51)
def AJS:Obj:=cG "in_lowest_terms" "in_lowest_terms" 693 224 2 3 386 true .none .none (.ref 388) 696 697
def AEi:Obj:=f1 "in_lowest_terms" (top 51) mS7 389
def AKu:Obj:=tS 704 ["cord"]
def AJ8:Obj:=pF "held" "held" (top 53)
def AGO:Obj:=c1 "held" 701 230 1 3 391 705 706
def AGq:Obj:=f1 "held" (top 53) mS8 396
def AMf:Obj:=tS 711 ["cord"]
def AMV:Obj:=pF "loose" "loose" (top 54)
def AFM:Obj:=c1 "loose" 708 232 1 3 398 712 713
def AHa:Obj:=f1 "loose" (top 54) mS8 403
def ALS:Obj:=tS 718 ["cord"]
def AKm:Obj:=pF "near" "near" (top 55)
def AEv:Obj:=c1 "near" 715 234 1 3 405 719 720
def AFq:Obj:=f1 "near" (top 55) mS8 410
def AMl:Obj:=tS 725 ["cord"]
def AK3:Obj:=pF "free" "free" (top 56)
def AGb:Obj:=c1 "free" 722 236 1 3 412 726 727
def AEx:Obj:=f1 "free" (top 56) mS8 417
def ALO:Obj:=tS 732 ["cord","height","lean","gaps","here","leaning","weight","gap"]
def AJv:Obj:=pF "ends" "ends" (top 57)
def AJK:Obj:=c1 "ends" 729 238 3 3 419 740 741
def AIl:Obj:=f1 "ends" (top 57) mS8 424
def ALj:Obj:=tS 746 ["one"]
def AKI:Obj:=pF "times_number" "times_number" (top 58)
def AJN:Obj:=c1 "times_number" 743 246 1 3 426 747 748
def AEh:Obj:=f1 "times_number" (top 58) mS8 431
def AKt:Obj:=tS 755 ["upper","lower","told","steps"]
def ALo:Obj:=pF "cord_with" "cord_with" (top 60)
def AGR:Obj:=c1 "cord_with" 752 249 2 3 433 759 760
def AGl:Obj:=f1 "cord_with" (top 60) mS9 438
def AKw:Obj:=tS 765 ["helds","length","upper","lower","weight"]
def AMe:Obj:=pF "even" "even" (top 61)
def AFm:Obj:=c1 "even" 762 255 2 3 440 770 771
def AFV:Obj:=f1 "even" (top 61) mS9 445
def ANV:Obj:=tS 776 ["half","gaps","weights","middle"]
def ALd:Obj:=pF "even_about_gap" "even_about_gap" (top 62)
def AGP:Obj:=c1 "even_about_gap" 773 267 1 3 447 780 781
def AI0:Obj:=f1 "even_about_gap" (top 62) mS9 452
def ANy:Obj:=tS 786 ["half","middle","gaps","weights"]
def AOC:Obj:=pF "even_about_bead" "even_about_bead" (top 63)
def AIU:Obj:=c1 "even_about_bead" 783 272 2 3 454 790 791
def AHC:Obj:=f1 "even_about_bead" (top 63) mS9 459
def L_8(P:Params):List Obj:=(((L_7 P).set 3 ({ cls:=.type "dict",data:=.dict (Array.mk (AK8 P)) 63 })).set 12 ({ cls:=.none,data:=.fields (Array.mk (ADu P)) })).append [tE,fE,AMp,tE,ANk,AIV,AJQ,tE,fE,AKC,tE,AJr,AEc,AG0,tE,fE,AOQ,tE,AKD,AGD,AEj,tE,fE,AMw,AI7,AF6,tE,fE,AMK,AJS,AEi,tE,fE,AKu,tE,AJ8,AGO,AGq,tE,fE,AMf,tE,AMV,AFM,AHa,tE,fE,ALS,tE,AKm,AEv,AFq,tE,fE,AMl,tE,AK3,AGb,AEx,tE,fE,ALO,tE,AJv,AJK,AIl,tE,fE,ALj,tE,AKI,AJN,AEh,tE,fE,AKt,tE,ALo,AGR,AGl,tE,fE,AKw,tE,AMe,AFm,AFV,tE,fE,ANV,tE,ALd,AGP,AI0,tE,fE,ANy,tE,AOC,AIU,AHC]
def ANZ(P:Params):List DictEntry:=((AK8 P).set 0 (ke P "__name__" 165 (.str "tautcord.rows" 918))).append [ke P "with_worths" 798 (.ref 465),ke P "walked" 816 (.ref 473),ke P "heights_of" 824 (.ref 478),ke P "mode" 835 (.ref 485),ke P "FIGURES" 839 (.str "0123456789" 838),ke P "MOST_FIGURES" 841 (.int 30 840),ke P "show_fraction" 850 (.ref 492),ke P "show_row" 856 (.ref 497),ke P "show_cord" 867 (.ref 504),ke P "read_fraction" 878 (.ref 511),ke P "read_row" 884 (.ref 516),ke P "read_cord" 890 (.ref 521),ke P "check_text" 897 (.ref 528),ke P "are_figures" 903 (.ref 533),ke P "without_minus" 910 (.ref 540),ke P "within_brackets" 917 (.ref 547),ke P "LETTERS" 921 (.str "abcdefghijklmnopqrstuvwxyz" 920),ke P "LONGEST_NAME" 923 (.int 8 922),ke P "MOST_HALVINGS" 925 (.int 60 924)]
def ADj(P:Params):List Value:=(ADu P).append [.int 276 0,.int 0 0,.ref 464,.int 284 0,.int 0 0,.ref 472,.int 296 0,.int 0 0,.ref 477,.int 298 0,.int 0 0,.ref 484,.int 307 0,.int 0 0,.ref 491,.int 313 0,.int 0 0,.ref 496,.int 315 0,.int 0 0,.ref 503,.int 322 0,.int 0 0,.ref 510,.int 333 0,.int 0 0,.ref 515,.int 338 0,.int 0 0,.ref 520,.int 347 0,.int 0 0,.ref 527,.int 350 0,.int 0 0,.ref 532,.int 354 0,.int 0 0,.ref 539,.int 358 0,.int 0 0,.ref 546]
def ANz:Obj:=pF "with_worths" "with_worths" (top 64)
def AHc:Obj:=cG "with_worths" "with_worths" 793 276 2 3 461 true .none .none (.ref 463) 796 797
def AFQ:Obj:=f1 "with_worths" (top 64) mS9 464
def AFR:Obj:={ cls:=.type "tuple",data:=.seq #[.none,.none] }
def ANA:Obj:=tS 804 ["cord","t","height","lean","here","leaning","weights","steps","place","gap"]
def AKg:Obj:=pF "walked" "walked" (top 66)
def AIT:Obj:=c1 "walked" 801 284 4 3 467 814 815
def AGa:Obj:={ cls:=.type "function",dict:=none,data:=.func { name:="walked",qualname:="walked",params:=Bm (top 66),body:=.stmts (Bd (top 66)),scope:=Ae (top 66),globals:=3,closure:=[],defaults:=.ref 466,kwdefaults:=.none,doc:=.none,pyModule:=.str "tautcord.walks" 799,annotations:=none,code:=.ref 472,closureTuple:=.none,builtins:=0 },slots:=#[] }
def ANb:Obj:=pF "heights_of" "heights_of" (top 68)
def AJB:Obj:=cG "heights_of" "heights_of" 819 296 1 3 474 true .none .none (.ref 476) 822 823
def AH9:Obj:=f1 "heights_of" (top 68) ALg 477
def ALp:Obj:=tS 828 ["cord","end","t","steps","last"]
def ALw:Obj:=pF "mode" "mode" (top 69)
def AHG:Obj:=c1 "mode" 825 298 3 3 479 833 834
def AHR:Obj:=f1 "mode" (top 69) ALg 484
def AMi:Obj:=tS 845 ["one","top","bottom"]
def AKa:Obj:=pF "show_fraction" "show_fraction" (top 73)
def AGx:Obj:=c1 "show_fraction" 842 307 1 3 486 848 849
def AGX:Obj:=f1 "show_fraction" (top 73) Qa 491
def AOK:Obj:=pF "show_row" "show_row" (top 74)
def AJU:Obj:=cG "show_row" "show_row" 851 313 1 3 493 true .none .none (.ref 495) 854 855
def AGi:Obj:=f1 "show_row" (top 74) Qa 496
def AN2:Obj:=tS 860 ["cord","gaps","words","weight","gap"]
def AMS:Obj:=pF "show_cord" "show_cord" (top 75)
def AI4:Obj:=c1 "show_cord" 857 315 1 3 498 865 866
def AHK:Obj:=f1 "show_cord" (top 75) Qa 503
def ANJ:Obj:=tS 871 ["text","parts","top","bottom","one"]
def ANB:Obj:=pF "read_fraction" "read_fraction" (top 76)
def AFh:Obj:=c1 "read_fraction" 868 322 1 3 505 876 877
def AFy:Obj:=f1 "read_fraction" (top 76) Qa 510
def ANo:Obj:=pF "read_row" "read_row" (top 77)
def AGt:Obj:=cG "read_row" "read_row" 879 333 1 3 512 true .none .none (.ref 514) 882 883
def AJH:Obj:=f1 "read_row" (top 77) Qa 515
def ALU:Obj:=pF "read_cord" "read_cord" (top 78)
def AGK:Obj:=cG "read_cord" "read_cord" 885 338 1 3 517 true .none .none (.ref 519) 888 889
def AJL:Obj:=f1 "read_cord" (top 78) Qa 520
def AKN:Obj:=tS 894 ["thing"]
def AJ0:Obj:=pF "check_text" "check_text" (top 79)
def AI6:Obj:=c1 "check_text" 891 347 1 3 522 895 896
def AHP:Obj:=f1 "check_text" (top 79) Qa 527
def ANs:Obj:=pF "are_figures" "are_figures" (top 80)
def AHe:Obj:=cG "are_figures" "are_figures" 898 350 1 3 529 true .none .none (.ref 531) 901 902
def AI1:Obj:=f1 "are_figures" (top 80) Qa 532
def AK2:Obj:=tS 907 ["text"]
def AKM:Obj:=pF "without_minus" "without_minus" (top 81)
def AIB:Obj:=c1 "without_minus" 904 354 1 3 534 908 909
def AGW:Obj:=f1 "without_minus" (top 81) Qa 539
def ANc:Obj:=tS 914 ["word"]
def AJu:Obj:=pF "within_brackets" "within_brackets" (top 82)
def AHN:Obj:=c1 "within_brackets" 911 358 1 3 541 915 916
def AIE:Obj:=f1 "within_brackets" (top 82) Qa 546
def L_9(P:Params):List Obj:=(((L_8 P).set 3 ({ cls:=.type "dict",data:=.dict (Array.mk (ANZ P)) 82 })).set 12 ({ cls:=.none,data:=.fields (Array.mk (ADj P)) })).append [tE,fE,ANz,AHc,AFQ,AFR,tE,fE,ANA,tE,AKg,AIT,AGa,tE,fE,ANb,AJB,AH9,tE,fE,ALp,tE,ALw,AHG,AHR,tE,fE,AMi,tE,AKa,AGx,AGX,tE,fE,AOK,AJU,AGi,tE,fE,AN2,tE,AMS,AI4,AHK,tE,fE,ANJ,tE,ANB,AFh,AFy,tE,fE,ANo,AGt,AJH,tE,fE,ALU,AGK,AJL,tE,fE,AKN,tE,AJ0,AI6,AHP,tE,fE,ANs,AHe,AI1,tE,fE,AK2,tE,AKM,AIB,AGW,tE,fE,ANc,tE,AJu,AHN,AIE]
def ADx(P:Params):List DictEntry:=(ANZ P).append [ke P "FORMS" 990 (.ref 548)]
def AIz(P:Params):Obj:={ cls:=.type "dict",data:=.dict #[ke P "cord" 926 (.ref 549),ke P "turn" 929 (.ref 550),ke P "join" 932 (.ref 551),ke P "heavier" 936 (.ref 552),ke P "longer" 941 (.ref 553),ke P "find" 946 (.ref 554),ke P "even" 949 (.ref 555),ke P "drop" 952 (.ref 556),ke P "show" 954 (.ref 557),ke P "poly" 956 (.ref 558),ke P "count" 959 (.ref 559),ke P "span" 963 (.ref 560),ke P "mode" 968 (.ref 561),ke P "alike" 972 (.ref 562)] 14 }
def AHB:Obj:=tS 927 ["new","cord"]
def AIb:Obj:=tS 930 ["new","name"]
def AFS:Obj:=tS 933 ["new","name","name"]
def AIn:Obj:=tS 937 ["new","name","whole","fraction"]
def AE4:Obj:=tS 942 ["new","name","whole","fraction"]
def AEQ:Obj:=tS 947 ["new","two polys"]
def AJa:Obj:=tS 950 ["new","length and worths"]
def AJA:Obj:=tS 953 ["name"]
def AEg:Obj:=tS 955 ["name"]
def AHg:Obj:=tS 957 ["name","which"]
def AIY:Obj:=tS 960 ["name","end","fraction"]
def AIF:Obj:=tS 964 ["name","end","whole","halvings"]
def AIK:Obj:=tS 969 ["name","end","fraction"]
def AI9:Obj:=tS 973 ["name","name","end"]
def AMH(P:Params):List Obj:=((L_9 P).set 3 ({ cls:=.type "dict",data:=.dict (Array.mk (ADx P)) 83 })).append [AIz P,AHB,AIb,AFS,AIn,AE4,AEQ,AJa,AJA,AEg,AHg,AIY,AIF,AIK,AI9]
def ADk(P:Params):List DictEntry:=((ADx P).set 0 (ke P "__name__" 165 (.str "tautcord.desk" 1089))).append [ke P "read_told" 996 (.ref 567),ke P "kinds_of" 1003 (.ref 574),ke P "read_thing" 1011 (.ref 581),ke P "read_name" 1017 (.ref 586),ke P "read_whole" 1025 (.ref 593),ke P "read_halvings" 1033 (.ref 600),ke P "read_choice" 1041 (.ref 607),ke P "read_some" 1049 (.ref 614),ke P "read_two_polys" 1055 (.ref 619),ke P "alike" 1066 (.ref 626),ke P "span" 1082 (.ref 633),ke P "above_all" 1088 (.ref 638)]
def AAy(P:Params):List Value:=(ADj P).append [.int 367 0,.int 0 0,.ref 566,.int 377 0,.int 0 0,.ref 573,.int 379 0,.int 0 0,.ref 580,.int 397 0,.int 0 0,.ref 585,.int 401 0,.int 0 0,.ref 592,.int 406 0,.int 0 0,.ref 599,.int 411 0,.int 0 0,.ref 606,.int 415 0,.int 0 0,.ref 613,.int 420 0,.int 0 0,.ref 618,.int 426 0,.int 0 0,.ref 625,.int 431 0,.int 0 0,.ref 632,.int 443 0,.int 0 0,.ref 637]
def AJt:Obj:=pF "read_told" "read_told" (top 88)
def AHS:Obj:=cG "read_told" "read_told" 991 367 1 3 563 true .none .none (.ref 565) 994 995
def AGY:Obj:=f1 "read_told" (top 88) TV 566
def ALC:Obj:=tS 1000 ["deed"]
def ANp:Obj:=pF "kinds_of" "kinds_of" (top 89)
def AG8:Obj:=c1 "kinds_of" 997 377 1 3 568 1001 1002
def AHL:Obj:=f1 "kinds_of" (top 89) TV 573
def AJw:Obj:=tS 1007 ["kind","text"]
def ALt:Obj:=pF "read_thing" "read_thing" (top 90)
def AGJ:Obj:=c1 "read_thing" 1004 379 2 3 575 1009 1010
def AF2:Obj:=f1 "read_thing" (top 90) TV 580
def ALR:Obj:=pF "read_name" "read_name" (top 91)
def AGy:Obj:=cG "read_name" "read_name" 1012 397 1 3 582 true .none .none (.ref 584) 1015 1016
def AIL:Obj:=f1 "read_name" (top 91) TV 585
def ALP:Obj:=tS 1021 ["text","one"]
def AN4:Obj:=pF "read_whole" "read_whole" (top 92)
def AGs:Obj:=c1 "read_whole" 1018 401 1 3 587 1023 1024
def AFP:Obj:=f1 "read_whole" (top 92) TV 592
def ANa:Obj:=tS 1029 ["text","halvings"]
def ALs:Obj:=pF "read_halvings" "read_halvings" (top 93)
def AHo:Obj:=c1 "read_halvings" 1026 406 1 3 594 1031 1032
def AFr:Obj:=f1 "read_halvings" (top 93) TV 599
def AMt:Obj:=tS 1037 ["text","choices"]
def AK6:Obj:=pF "read_choice" "read_choice" (top 94)
def AHO:Obj:=c1 "read_choice" 1034 411 2 3 601 1039 1040
def AFN:Obj:=f1 "read_choice" (top 94) TV 606
def AME:Obj:=tS 1045 ["text","row"]
def ANK:Obj:=pF "read_some" "read_some" (top 95)
def AIJ:Obj:=c1 "read_some" 1042 415 1 3 608 1047 1048
def AHZ:Obj:=f1 "read_some" (top 95) TV 613
def AKZ:Obj:=pF "read_two_polys" "read_two_polys" (top 96)
def AFp:Obj:=cG "read_two_polys" "read_two_polys" 1050 420 1 3 615 true .none .none (.ref 617) 1053 1054
def AG6:Obj:=f1 "read_two_polys" (top 96) TV 618
def AOV:Obj:=tS 1061 ["one","other","end"]
def AN5:Obj:=pF "alike" "alike" (top 98)
def AIP:Obj:=c1 "alike" 1058 426 3 3 620 1064 1065
def AIp:Obj:=f1 "alike" (top 98) AOz 625
def AL9:Obj:=tS 1072 ["cord","end","k","halvings","low","high","halving","middle"]
def AOH:Obj:=pF "span" "span" (top 100)
def AHq:Obj:=c1 "span" 1069 431 4 3 627 1080 1081
def AI8:Obj:=f1 "span" (top 100) AMT 632
def ANE:Obj:=pF "above_all" "above_all" (top 101)
def AIm:Obj:=cG "above_all" "above_all" 1083 443 1 3 634 true .none .none (.ref 636) 1086 1087
def AFU:Obj:=f1 "above_all" (top 101) AMT 637
def ANm(P:Params):List Obj:=(((AMH P).set 3 ({ cls:=.type "dict",data:=.dict (Array.mk (ADk P)) 95 })).set 12 ({ cls:=.none,data:=.fields (Array.mk (AAy P)) })).append [tE,fE,AJt,AHS,AGY,tE,fE,ALC,tE,ANp,AG8,AHL,tE,fE,AJw,tE,ALt,AGJ,AF2,tE,fE,ALR,AGy,AIL,tE,fE,ALP,tE,AN4,AGs,AFP,tE,fE,ANa,tE,ALs,AHo,AFr,tE,fE,AMt,tE,AK6,AHO,AFN,tE,fE,AME,tE,ANK,AIJ,AHZ,tE,fE,AKZ,AFp,AG6,tE,fE,AOV,tE,AN5,AIP,AIp,tE,fE,AL9,tE,AOH,AHq,AI8,tE,fE,ANE,AIm,AFU]
def AM8(P:Params):List DictEntry:=((ADk P).set 0 (ke P "__name__" 165 (.str "law_tautcord_k86_rows_refused" 1181))).append [ke P "Desk" 1145 (.ref 674),ke P "made" 1153 (.ref 685),ke P "answer" 1161 (.ref 692),ke P "tone" 1169 (.ref 699),ke P "counted" 1180 (.ref 706),ke P "_law_say" 1193 (.ref 713)]
def ABT(P:Params):List Value:=(AAy P).append [.int 450 0,.int 0 0,.ref 644,.int 476 0,.int 0 0,.ref 684,.int 490 0,.int 0 0,.ref 691,.int 502 0,.int 0 0,.ref 698,.int 510 0,.int 0 0,.ref 705,.int 515 0,.int 0 0,.ref 712]
def AKo:Obj:={ cls:=.type "builtin_function_or_method",data:=.fields #[.builtin "type.__prepare__",.type "type"] }
def AKb(P:Params):Obj:={ cls:=.type "dict",data:=.dict #[ke P "__module__" 1098 (.str "tautcord.desk" 1089),ke P "__qualname__" 1100 (.str "Desk" 1099),ke P "__firstlineno__" 1102 (.int 450 1101),ke P "__init__" 1109 (.ref 652),ke P "say" 1122 (.ref 659),ke P "with_cords" 1128 (.ref 664),ke P "cord_by" 1136 (.ref 671),ke P "__static_attributes__" 1138 (.ref 672)] 8 }
def AOF:Obj:={ cls:=.none,data:=.fields #[.int 452 0,.int 4 0,.ref 651,.int 455 0,.int 4 0,.ref 658,.int 469 0,.int 4 0,.ref 663,.int 472 0,.int 4 0,.ref 670] }
def ANP:Obj:=cG "Desk" "Desk" 1093 450 0 0 642 false .none .none .none 1096 1097
def AOW:Obj:={ cls:=.type "frame",slots:=#[some (.ref 644),some (.ref 3),some (.ref 641),none,some (.str "tautcord.desk" 1089),none,some (.ref 0)] }
def AMk:Obj:=tS 1106 ["self"]
def ANn:Obj:=pF "__init__" "Desk.__init__" (Bb (top 103) 0)
def AJW:Obj:=cO "__init__" "Desk.__init__" 1103 452 1 3 646 1107 1108
def AG4:Obj:=fo "__init__" "Desk.__init__" (Bb (top 103) 0) VG 651
def AL2:Obj:=tS 1113 ["self","row","order","deed","told","things","cord"]
def AOB:Obj:=pF "say" "Desk.say" (Bb (top 103) 1)
def AIo:Obj:=cO "say" "Desk.say" 1110 455 2 3 653 1120 1121
def AFa:Obj:=fo "say" "Desk.say" (Bb (top 103) 1) VG 658
def ALm:Obj:=pF "with_cords" "Desk.with_cords" (Bb (top 103) 2)
def AFI:Obj:=cG "with_cords" "Desk.with_cords" 1123 469 3 3 660 true .none .none (.ref 662) 1126 1127
def AHi:Obj:=fo "with_cords" "Desk.with_cords" (Bb (top 103) 2) VG 663
def ANI:Obj:=tS 1132 ["self","name"]
def AOO:Obj:=pF "cord_by" "Desk.cord_by" (Bb (top 103) 3)
def AII:Obj:=cO "cord_by" "Desk.cord_by" 1129 472 2 3 665 1134 1135
def AF5:Obj:=fo "cord_by" "Desk.cord_by" (Bb (top 103) 3) VG 670
def AH7:Obj:=tS 1137 ["kept"]
def AHU(P:Params):Obj:={ cls:=.type "dict",data:=.dict #[ke P "__module__" 1098 (.str "tautcord.desk" 1089),ke P "__firstlineno__" 1102 (.int 450 1101),ke P "__init__" 1109 (.ref 652),ke P "say" 1122 (.ref 659),ke P "with_cords" 1128 (.ref 664),ke P "cord_by" 1136 (.ref 671),ke P "__static_attributes__" 1138 (.ref 672),ke P "__dict__" 1140 (.ref 675),ke P "__weakref__" 1142 (.ref 676),ke P "__doc__" 1143 .none] 4 }
def AGL:Obj:={ cls:=.type "type",data:=.cls { name:="Desk",bases:=[.type "object"],mro:=[.ref 674,.type "object"],ns:=673,qualname:="Desk" },slots:=#[none,none,some (.str "Desk" 1091),some (.str "Desk" 1099),some (.builtin "object.__new__"),some (.bool Bool.true)] }
def AIt:Obj:={ cls:=.type "getset_descriptor",data:=.fields #[.str "__dict__" 1139,.ref 674,.builtin "function.__dict__",.builtin "function.__dict__#set"] }
def AIk:Obj:={ cls:=.type "getset_descriptor",data:=.fields #[.str "__weakref__" 1141,.ref 674,.builtin "ExceptionGroup.__weakref__",.none] }
def AKk:Obj:={ cls:=.type "super",data:=.fields #[.ref 674,.ref 674,.ref 674] }
def ALH:Obj:={ cls:=.type "builtin_function_or_method",data:=.fields #[.builtin "object.__init_subclass__",.ref 674] }
def AOY:Obj:=tS 1149 ["deed","things"]
def ANd:Obj:=pF "made" "made" (top 104)
def AFH:Obj:=c1 "made" 1146 476 2 3 679 1151 1152
def AF7:Obj:=f1 "made" (top 104) VG 684
def ANR:Obj:=tS 1157 ["deed","things"]
def AN8:Obj:=pF "answer" "answer" (top 105)
def AIu:Obj:=c1 "answer" 1154 490 2 3 686 1159 1160
def AHW:Obj:=f1 "answer" (top 105) VG 691
def AOP:Obj:=tS 1165 ["cord","which"]
def AJj:Obj:=pF "tone" "tone" (top 106)
def AHy:Obj:=c1 "tone" 1162 502 2 3 693 1167 1168
def AFG:Obj:=f1 "tone" (top 106) VG 698
def AKS:Obj:=tS 1173 ["cord","end","t","below","most"]
def ALK:Obj:=pF "counted" "counted" (top 107)
def AGT:Obj:=c1 "counted" 1170 510 3 3 700 1178 1179
def AHt:Obj:=f1 "counted" (top 107) VG 705
def AMG:Obj:=tS 1186 ["_law_desk","_law_row","_law_answer","e","_law_kinds"]
def ALB:Obj:=pF "_law_say" "_law_say" (top 109)
def AEk:Obj:=c1 "_law_say" 1183 515 2 3 707 1191 1192
def AFZ:Obj:=f1 "_law_say" (top 109) WQ 712
def AMx(P:Params):List Obj:=(((ANm P).set 3 ({ cls:=.type "dict",data:=.dict (Array.mk (AM8 P)) 101 })).set 12 ({ cls:=.none,data:=.fields (Array.mk (ABT P)) })).append [tE,AKo,AKb P,tE,AOF,ANP,AOW,tE,fE,AMk,tE,ANn,AJW,AG4,tE,fE,AL2,tE,AOB,AIo,AFa,tE,fE,ALm,AFI,AHi,tE,fE,ANI,tE,AOO,AII,AF5,AH7,AHU P,AGL,AIt,AIk,AKk,ALH,tE,fE,AOY,tE,ANd,AFH,AF7,tE,fE,ANR,tE,AN8,AIu,AHW,tE,fE,AOP,tE,AJj,AHy,AFG,tE,fE,AKS,tE,ALK,AGT,AHt,tE,fE,AMG,tE,ALB,AEk,AFZ]
def u3(P:Params):Obj:={ cls:=.type "dict",data:=.dict #[ke P "__name__" 165 (.str "law_tautcord_k86_rows_refused" 1181),ke P "__doc__" 166 .none,ke P "__package__" 167 .none,ke P "__loader__" 168 (.builtin "__main__.__loader__#opaque"),ke P "__spec__" 169 .none,ke P "__annotations__" 170 (.ref 6),ke P "__builtins__" 171 (.ref 4),ke P "__file__" 173 (.str "/claim/cut.py" 172),ke P "__cached__" 174 .none,ke P "CordError" 206 (.ref 24),ke P "NoFraction" 222 (.ref 37),ke P "NoCord" 247 (.ref 56),ke P "NoWorth" 263 (.ref 68),ke P "NoBead" 279 (.ref 80),ke P "NoText" 295 (.ref 92),ke P "NoName" 311 (.ref 104),ke P "is_whole" 320 (.ref 113),ke P "divisor" 331 (.ref 120),ke P "is_fraction" 340 (.ref 127),ke P "fraction" 350 (.ref 135),ke P "plus" 361 (.ref 142),ke P "minus" 369 (.ref 149),ke P "times" 379 (.ref 156),ke P "over" 387 (.ref 163),ke P "is_under" 395 (.ref 170),ke P "side" 402 (.ref 177),ke P "is_rising" 411 (.ref 184),ke P "MOST_BEADS" 415 (.int 12 414),ke P "is_row_above" 421 (.ref 189),ke P "Cord" 489 (.ref 241),ke P "heavier" 500 (.ref 252),ke P "longer" 509 (.ref 259),ke P "joined" 520 (.ref 266),ke P "check_bead" 528 (.ref 273),ke P "with_more" 537 (.ref 280),ke P "signs" 545 (.ref 285),ke P "turns" 551 (.ref 290),ke P "worths_below" 560 (.ref 297),ke P "up_to" 570 (.ref 304),ke P "row_at" 586 (.ref 311),ke P "poly" 596 (.ref 318),ke P "figure_at" 604 (.ref 325),ke P "poly_plus" 610 (.ref 330),ke P "poly_minus" 616 (.ref 335),ke P "scaled" 622 (.ref 340),ke P "shared_bottom" 631 (.ref 347),ke P "whole_figures" 637 (.ref 352),ke P "whole_times" 650 (.ref 359),ke P "ladder" 666 (.ref 366),ke P "over_one_bottom" 674 (.ref 373),ke P "quotient_at" 686 (.ref 380),ke P "rest_of" 692 (.ref 385),ke P "in_lowest_terms" 698 (.ref 390),ke P "held" 707 (.ref 397),ke P "loose" 714 (.ref 404),ke P "near" 721 (.ref 411),ke P "free" 728 (.ref 418),ke P "ends" 742 (.ref 425),ke P "times_number" 749 (.ref 432),ke P "cord_with" 761 (.ref 439),ke P "even" 772 (.ref 446),ke P "even_about_gap" 782 (.ref 453),ke P "even_about_bead" 792 (.ref 460),ke P "with_worths" 798 (.ref 465),ke P "walked" 816 (.ref 473),ke P "heights_of" 824 (.ref 478),ke P "mode" 835 (.ref 485),ke P "FIGURES" 839 (.str "0123456789" 838),ke P "MOST_FIGURES" 841 (.int 30 840),ke P "show_fraction" 850 (.ref 492),ke P "show_row" 856 (.ref 497),ke P "show_cord" 867 (.ref 504),ke P "read_fraction" 878 (.ref 511),ke P "read_row" 884 (.ref 516),ke P "read_cord" 890 (.ref 521),ke P "check_text" 897 (.ref 528),ke P "are_figures" 903 (.ref 533),ke P "without_minus" 910 (.ref 540),ke P "within_brackets" 917 (.ref 547),ke P "LETTERS" 921 (.str "abcdefghijklmnopqrstuvwxyz" 920),ke P "LONGEST_NAME" 923 (.int 8 922),ke P "MOST_HALVINGS" 925 (.int 60 924),ke P "FORMS" 990 (.ref 548),ke P "read_told" 996 (.ref 567),ke P "kinds_of" 1003 (.ref 574),ke P "read_thing" 1011 (.ref 581),ke P "read_name" 1017 (.ref 586),ke P "read_whole" 1025 (.ref 593),ke P "read_halvings" 1033 (.ref 600),ke P "read_choice" 1041 (.ref 607),ke P "read_some" 1049 (.ref 614),ke P "read_two_polys" 1055 (.ref 619),ke P "alike" 1066 (.ref 626),ke P "span" 1082 (.ref 633),ke P "above_all" 1088 (.ref 638),ke P "Desk" 1145 (.ref 674),ke P "made" 1153 (.ref 685),ke P "answer" 1161 (.ref 692),ke P "tone" 1169 (.ref 699),ke P "counted" 1180 (.ref 706),ke P "_law_say" 1193 (.ref 713),ke P "_law_bad_fraction" 1203 (.ref 720),ke P "_law_bad_name" 1209 (.ref 725),ke P "_law_texts" 1220 (.ref 732),ke P "_law_other" 1230 (.ref 739),ke P "_law_still" 1237 (.ref 746),ke P "law" 1250 (.ref 753)] 107 }
def AJV(P:Params):List Value:=(ABT P).append [.int 530 0,.int 0 0,.ref 719,.int 539 0,.int 0 0,.ref 724,.int 547 0,.int 0 0,.ref 731,.int 563 0,.int 0 0,.ref 738,.int 575 0,.int 0 0,.ref 745,.int 577 0,.int 0 0,.ref 752]
def u12(P:Params):Obj:={ cls:=.none,data:=.fields (Array.mk (AJV P)) }
def AKf:Obj:=tS 1197 ["_law_cell","_law_odd","_law_some","_law_way"]
def AM2:Obj:=pF "_law_bad_fraction" "_law_bad_fraction" (top 110)
def AFd:Obj:=c1 "_law_bad_fraction" 1194 530 1 3 714 1201 1202
def AEZ:Obj:=f1 "_law_bad_fraction" (top 110) WQ 719
def AN9:Obj:=pF "_law_bad_name" "_law_bad_name" (top 111)
def AIH:Obj:=cG "_law_bad_name" "_law_bad_name" 1204 539 1 3 721 true .none .none (.ref 723) 1207 1208
def AIa:Obj:=f1 "_law_bad_name" (top 111) WQ 724
def AK0:Obj:=tS 1213 ["_law_cell","_law_name","_law_bad","_law_odd","_law_rows"]
def AML:Obj:=pF "_law_texts" "_law_texts" (top 112)
def AId:Obj:=c1 "_law_texts" 1210 547 2 3 726 1218 1219
def AGS:Obj:=f1 "_law_texts" (top 112) WQ 731
def AOL:Obj:=tS 1224 ["_law_cell","_law_name","_law_beads","_law_rows"]
def AKT:Obj:=pF "_law_other" "_law_other" (top 113)
def AEd:Obj:=c1 "_law_other" 1221 563 2 3 733 1228 1229
def AHD:Obj:=f1 "_law_other" (top 113) WQ 738
def ANU:Obj:=tS 1234 ["_law_desk"]
def AL4:Obj:=pF "_law_still" "_law_still" (top 114)
def AEy:Obj:=c1 "_law_still" 1231 575 1 3 740 1235 1236
def AGB:Obj:=f1 "_law_still" (top 114) WQ 745
def ANX:Obj:=tS 1241 ["_law_script","_law_desk","_law_cell","_law_rest","_law_rows","_law_row","_law_due"]
def AOa:Obj:=pF "law" "law" (top 115)
def AFT:Obj:=c1 "law" 1238 577 1 3 747 1248 1249
def AE5:Obj:=f1 "law" (top 115) WQ 752
def AMs(P:Params):List Obj:=(((AMx P).set 3 (u3 P)).set 12 (u12 P)).append [tE,fE,AKf,tE,AM2,AFd,AEZ,tE,fE,AN9,AIH,AIa,tE,fE,AK0,tE,AML,AId,AGS,tE,fE,AOL,tE,AKT,AEd,AHD,tE,fE,ANU,tE,AL4,AEy,AGB,tE,fE,ANX,tE,AOa,AFT,AE5]
def L_f(P:Params):List Obj:=AMs P
def AQB(P:Params):BT:=bld 12 (L_b P)
def APb(P:Params):BT:=bld 12 (L_1 P)
def AP5(P:Params):BT:=bld 12 (L_2 P)
def AP2(P:Params):BT:=bld 12 (L_3 P)
def AO1(P:Params):BT:=bld 12 (L_4 P)
def APe(P:Params):BT:=bld 12 (L_5 P)
def APF(P:Params):BT:=bld 12 (L_6 P)
def APc(P:Params):BT:=bld 12 (L_7 P)
def APT(P:Params):BT:=bld 12 (L_8 P)
def APh(P:Params):BT:=bld 12 (L_9 P)
def ANr(P:Params):BT:=bld 12 (AMH P)
def AKR(P:Params):BT:=bld 12 (ANm P)
def ANj(P:Params):BT:=bld 12 (AMx P)
def AOE(P:Params):BT:=bld 12 (AMs P)
def ha(P:Params):Heap:=⟨Array.mk (L_a P),{}⟩
abbrev AEp(w:World)(os:OsState):SharedT:=⟨AQB w.params,15,{},Array.mk [],{},187,os⟩
abbrev AMj(w:World)(os:OsState):SharedT:=⟨APb w.params,40,{},Array.mk [],{},223,os⟩
def l_1:List Stmt:=(bE.drop 0).take 3
abbrev AKe(w:World)(os:OsState):SharedT:=⟨AP5 w.params,71,{},Array.mk [],{},264,os⟩
def l_2:List Stmt:=(bE.drop 3).take 2
abbrev ANl(w:World)(os:OsState):SharedT:=⟨AP2 w.params,95,{},Array.mk [],{},296,os⟩
def l_3:List Stmt:=(bE.drop 5).take 2
abbrev AKY(w:World)(os:OsState):SharedT:=⟨AO1 w.params,164,{},Array.mk [],{},388,os⟩
def l_4:List Stmt:=(bE.drop 7).take 11
abbrev AMZ(w:World)(os:OsState):SharedT:=⟨APe w.params,190,{},Array.mk [],{},422,os⟩
def l_5:List Stmt:=(bE.drop 18).take 6
abbrev AKx(w:World)(os:OsState):SharedT:=⟨APF w.params,267,{},Array.mk [],{},521,os⟩
def l_6:List Stmt:=(bE.drop 24).take 5
abbrev AK1(w:World)(os:OsState):SharedT:=⟨APc w.params,360,{},Array.mk [],{},653,os⟩
def l_7:List Stmt:=(bE.drop 29).take 18
abbrev AMD(w:World)(os:OsState):SharedT:=⟨APT w.params,461,{},Array.mk [],{},793,os⟩
def l_8:List Stmt:=(bE.drop 47).take 17
abbrev ABV(w:World)(os:OsState):SharedT:=⟨APh w.params,548,{},Array.mk [],{},926,os⟩
def l_9:List Stmt:=(bE.drop 64).take 23
abbrev UL(w:World)(os:OsState):SharedT:=⟨ANr w.params,563,{},Array.mk [],{},991,os⟩
def Zu:List Stmt:=(bE.drop 87).take 1
abbrev ADy(w:World)(os:OsState):SharedT:=⟨AKR w.params,639,{},Array.mk [],{},1091,os⟩
def AJX:List Stmt:=(bE.drop 88).take 15
abbrev AEH(w:World)(os:OsState):SharedT:=⟨ANj w.params,714,{},Array.mk [],{},1194,os⟩
def AEJ:List Stmt:=(bE.drop 103).take 7
abbrev ADv(w:World)(os:OsState):SharedT:=⟨AOE w.params,754,{},Array.mk [],{},1251,os⟩
def AHn:List Stmt:=(bE.drop 110).take 6
def hf(P:Params):Heap:=⟨Array.mk [boot_o_0 P,boot_o_1 P,boot_o_2 P,u3 P,boot_o_4 P,boot_o_5 P,boot_o_6 P,boot_o_7 P,boot_o_8 P,boot_o_9 P,boot_o_10 P,tE,u12 P,u13,u14,u15,u16,u17 P,tE,fE,u20,u21,u22,u23 P,u24,u25,u26,u27,u28,u29,u30 P,tE,fE,u33,u34,u35,u36 P,u37,u38,u39,u40,u41,u42 P,tE,u44,u45,u46,tE,fE,u49,tE,u51,u52,u53,u54,u55 P,u56,u57,u58,u59,u60,u61 P,tE,fE,u64,u65,u66,u67 P,u68,u69,u70,u71,u72,u73 P,tE,fE,u76,u77,u78,u79 P,u80,u81,u82,u83,u84,u85 P,tE,fE,u88,u89,u90,u91 P,u92,u93,u94,u95,u96,u97 P,tE,fE,AOA,AM0,AIv,AGo P,AJD,AMC,AM3,tE,fE,ANS,tE,ALn,AIX,AJI,tE,fE,AKA,tE,AN1,AFt,AIC,tE,fE,AKF,tE,AON,AGg,AI5,AH3,tE,fE,AL8,tE,AK4,AIQ,AIs,tE,fE,AMm,tE,AKq,AFj,AFi,tE,fE,AMJ,tE,ALQ,AIW,AGM,tE,fE,AKn,tE,ALG,AJO,AHz,tE,fE,AMb,tE,AN6,AEz,AEr,tE,fE,AL1,tE,AJn,AIy,AHE,tE,fE,AOJ,tE,AM5,AGQ,AIi,tE,fE,AJ4,tE,ALu,AG2,AEq,tE,fE,AJ2,AJJ,AFc,tE,AKc,ALN P,tE,AMh,AMX,AMW,tE,fE,ALc,tE,ANM,AFJ,AFg,tE,fE,AKK,tE,ALh,AHx,AGr,tE,fE,ALJ,tE,AN0,AGu,AHM,tE,fE,AKp,tE,AM1,AFx,AG9,tE,fE,ALE,tE,AJm,AFb,AGm,tE,fE,AMA,tE,AKB,AHv,AEo,AEU,AEm P,AGH,AHJ,AGF,AL0,AJ1,tE,fE,AJ9,tE,AKU,AGf,AGC,tE,fE,AL3,tE,AKi,AIj,AGk,tE,fE,AKP,tE,ANv,AFW,AEP,tE,fE,AL5,tE,AOD,AJP,AHA,tE,fE,AMM,tE,AOI,AGn,AEM,tE,fE,AJk,AHf,AH5,tE,fE,AJ6,AEl,AEn,tE,fE,AJx,tE,ANx,AHT,AEb,tE,fE,AKW,tE,AM6,AH0,AJF,tE,fE,AJs,tE,AKL,AHY,AJM,tE,fE,ANh,tE,AMY,AEw,AF4,tE,fE,AK5,tE,ANL,AIS,AIx,tE,fE,AMv,AGz,AEf,tE,fE,AJ7,AIZ,AIq,tE,fE,ALV,AJT,AHd,tE,fE,AMR,tE,AKz,AF8,AEe,tE,fE,ANt,AGe,AJR,tE,fE,AOG,tE,ALl,AGZ,AG3,tE,fE,AMp,tE,ANk,AIV,AJQ,tE,fE,AKC,tE,AJr,AEc,AG0,tE,fE,AOQ,tE,AKD,AGD,AEj,tE,fE,AMw,AI7,AF6,tE,fE,AMK,AJS,AEi,tE,fE,AKu,tE,AJ8,AGO,AGq,tE,fE,AMf,tE,AMV,AFM,AHa,tE,fE,ALS,tE,AKm,AEv,AFq,tE,fE,AMl,tE,AK3,AGb,AEx,tE,fE,ALO,tE,AJv,AJK,AIl,tE,fE,ALj,tE,AKI,AJN,AEh,tE,fE,AKt,tE,ALo,AGR,AGl,tE,fE,AKw,tE,AMe,AFm,AFV,tE,fE,ANV,tE,ALd,AGP,AI0,tE,fE,ANy,tE,AOC,AIU,AHC,tE,fE,ANz,AHc,AFQ,AFR,tE,fE,ANA,tE,AKg,AIT,AGa,tE,fE,ANb,AJB,AH9,tE,fE,ALp,tE,ALw,AHG,AHR,tE,fE,AMi,tE,AKa,AGx,AGX,tE,fE,AOK,AJU,AGi,tE,fE,AN2,tE,AMS,AI4,AHK,tE,fE,ANJ,tE,ANB,AFh,AFy,tE,fE,ANo,AGt,AJH,tE,fE,ALU,AGK,AJL,tE,fE,AKN,tE,AJ0,AI6,AHP,tE,fE,ANs,AHe,AI1,tE,fE,AK2,tE,AKM,AIB,AGW,tE,fE,ANc,tE,AJu,AHN,AIE,AIz P,AHB,AIb,AFS,AIn,AE4,AEQ,AJa,AJA,AEg,AHg,AIY,AIF,AIK,AI9,tE,fE,AJt,AHS,AGY,tE,fE,ALC,tE,ANp,AG8,AHL,tE,fE,AJw,tE,ALt,AGJ,AF2,tE,fE,ALR,AGy,AIL,tE,fE,ALP,tE,AN4,AGs,AFP,tE,fE,ANa,tE,ALs,AHo,AFr,tE,fE,AMt,tE,AK6,AHO,AFN,tE,fE,AME,tE,ANK,AIJ,AHZ,tE,fE,AKZ,AFp,AG6,tE,fE,AOV,tE,AN5,AIP,AIp,tE,fE,AL9,tE,AOH,AHq,AI8,tE,fE,ANE,AIm,AFU,tE,AKo,AKb P,tE,AOF,ANP,AOW,tE,fE,AMk,tE,ANn,AJW,AG4,tE,fE,AL2,tE,AOB,AIo,AFa,tE,fE,ALm,AFI,AHi,tE,fE,ANI,tE,AOO,AII,AF5,AH7,AHU P,AGL,AIt,AIk,AKk,ALH,tE,fE,AOY,tE,ANd,AFH,AF7,tE,fE,ANR,tE,AN8,AIu,AHW,tE,fE,AOP,tE,AJj,AHy,AFG,tE,fE,AKS,tE,ALK,AGT,AHt,tE,fE,AMG,tE,ALB,AEk,AFZ,tE,fE,AKf,tE,AM2,AFd,AEZ,tE,fE,AN9,AIH,AIa,tE,fE,AK0,tE,AML,AId,AGS,tE,fE,AOL,tE,AKT,AEd,AHD,tE,fE,ANU,tE,AL4,AEy,AGB,tE,fE,ANX,tE,AOa,AFT,AE5],{}⟩
theorem AN7(w:World)(os:OsState):topGo treeTable tp w 11 (some (.ref 6)) 12 ⟨boot_heap w.params,Array.mk [],boot_drawn,boot_toks,os⟩ (topStub tp)=some (⟨ha w.params,Array.mk [],{},187,os⟩,Thread.mk (denote treeTable cE) cE ⟨0,0,0,0⟩ [topFrame ⟨0,0,0,0⟩]):=by kernel_rfl
theorem ALi(w:World)(os:OsState):segRun treeTable tp w 11 (some (.ref 6)) 1 1 ⟨ha w.params,Array.mk [],{},187,os⟩ (blockOf bE eE cE ⟨0,0,0,0⟩ [topFrame ⟨0,0,0,0⟩])=some (.next,(AEp w os).abs,cE,⟨0,0,0,0⟩):=by kernel_rfl
theorem t_1(w:World)(os:OsState):segRunT treeTable tp w 11 (some (.ref 6)) 1 409 (AEp w os) (piecesOf l_1 eE cE ⟨0,0,0,0⟩ [topFrame ⟨0,0,0,0⟩])=some (.next,AMj w os,cE,⟨4,0,5,8⟩):=by kernel_rfl
theorem t_2(w:World)(os:OsState):segRunT treeTable tp w 11 (some (.ref 6)) 1 459 (AMj w os) (piecesOf l_2 eE cE ⟨4,0,5,8⟩ [topFrame ⟨0,0,0,0⟩])=some (.next,AKe w os,cE,⟨10,0,11,8⟩):=by kernel_rfl
theorem t_3(w:World)(os:OsState):segRunT treeTable tp w 11 (some (.ref 6)) 1 427 (AKe w os) (piecesOf l_3 eE cE ⟨10,0,11,8⟩ [topFrame ⟨0,0,0,0⟩])=some (.next,ANl w os,cE,⟨14,0,15,8⟩):=by kernel_rfl
theorem t_4(w:World)(os:OsState):segRunT treeTable tp w 11 (some (.ref 6)) 1 481 (ANl w os) (piecesOf l_4 eE cE ⟨14,0,15,8⟩ [topFrame ⟨0,0,0,0⟩])=some (.next,AKY w os,cE,⟨56,0,59,51⟩):=by kernel_rfl
theorem t_5(w:World)(os:OsState):segRunT treeTable tp w 11 (some (.ref 6)) 1 135 (AKY w os) (piecesOf l_5 eE cE ⟨56,0,59,51⟩ [topFrame ⟨0,0,0,0⟩])=some (.next,AMZ w os,cE,⟨77,0,80,73⟩):=by kernel_rfl
theorem t_6(w:World)(os:OsState):segRunT treeTable tp w 11 (some (.ref 6)) 1 486 (AMZ w os) (piecesOf l_6 eE cE ⟨77,0,80,73⟩ [topFrame ⟨0,0,0,0⟩])=some (.next,AKx w os,cE,⟨116,0,120,84⟩):=by kernel_rfl
theorem t_7(w:World)(os:OsState):segRunT treeTable tp w 11 (some (.ref 6)) 1 472 (AKx w os) (piecesOf l_7 eE cE ⟨116,0,120,84⟩ [topFrame ⟨0,0,0,0⟩])=some (.next,AK1 w os,cE,⟨187,0,187,8⟩):=by kernel_rfl
theorem t_8(w:World)(os:OsState):segRunT treeTable tp w 11 (some (.ref 6)) 1 481 (AK1 w os) (piecesOf l_8 eE cE ⟨187,0,187,8⟩ [topFrame ⟨0,0,0,0⟩])=some (.next,AMD w os,cE,⟨272,0,275,90⟩):=by kernel_rfl
theorem t_9(w:World)(os:OsState):segRunT treeTable tp w 11 (some (.ref 6)) 1 494 (AMD w os) (piecesOf l_9 eE cE ⟨272,0,275,90⟩ [topFrame ⟨0,0,0,0⟩])=some (.next,ABV w os,cE,⟨365,0,365,13⟩):=by kernel_rfl
theorem Wd(w:World)(os:OsState):segRunT treeTable tp (w.withFollow "special-get-raises" false) 11 (some (.ref 6)) 1 331 (ABV (w.withFollow "special-get-raises" false) os) (piecesOf Zu eE cE ⟨365,0,365,13⟩ [topFrame ⟨0,0,0,0⟩])=some (.next,UL (w.withFollow "special-get-raises" false) os,cE,⟨366,0,366,5⟩):=by kernel_rfl
theorem ZW(w:World)(os:OsState):segRunT treeTable tp (w.withFollow "special-get-raises" true) 11 (some (.ref 6)) 1 331 (ABV (w.withFollow "special-get-raises" true) os) (piecesOf Zu eE cE ⟨365,0,365,13⟩ [topFrame ⟨0,0,0,0⟩])=some (.next,UL (w.withFollow "special-get-raises" true) os,cE,⟨366,0,366,5⟩):=by kernel_rfl
theorem APj(w:World)(os:OsState):segRunT treeTable tp w 11 (some (.ref 6)) 1 331 (ABV w os) (piecesOf Zu eE cE ⟨365,0,365,13⟩ [topFrame ⟨0,0,0,0⟩])=some (.next,UL w os,cE,⟨366,0,366,5⟩):=byRow2 "special-get-raises" (P:=fun w=>segRunT treeTable tp w 11 (some (.ref 6)) 1 331 (ABV w os) (piecesOf Zu eE cE ⟨365,0,365,13⟩ [topFrame ⟨0,0,0,0⟩])=some (.next,UL w os,cE,⟨366,0,366,5⟩)) (fun w=>Wd w os) (fun w=>ZW w os) w
theorem APD(w:World)(os:OsState):segRunT treeTable tp w 11 (some (.ref 6)) 1 378 (UL w os) (piecesOf AJX eE cE ⟨366,0,366,5⟩ [topFrame ⟨0,0,0,0⟩])=some (.next,ADy w os,cE,⟨449,0,449,8⟩):=by kernel_rfl
theorem APf(w:World)(os:OsState):segRunT treeTable tp w 11 (some (.ref 6)) 1 484 (ADy w os) (piecesOf AEJ eE cE ⟨449,0,449,8⟩ [topFrame ⟨0,0,0,0⟩])=some (.next,AEH w os,cE,⟨515,0,529,22⟩):=by kernel_rfl
theorem APO(w:World)(os:OsState):segRunT treeTable tp w 11 (some (.ref 6)) 1 188 (AEH w os) (piecesOf AHn eE cE ⟨515,0,529,22⟩ [topFrame ⟨0,0,0,0⟩])=some (.next,ADv w os,cE,⟨577,0,592,32⟩):=by kernel_rfl
theorem AJ5(w:World)(os:OsState):topRun treeTable tp w 11 (some (.ref 6)) 2 (ADv w os).abs ⟨doneF .next,cE,⟨577,0,592,32⟩,[topFrame ⟨0,0,0,0⟩]⟩=some ⟨hf w.params,Array.mk [],{},1251,os⟩:=by kernel_rfl
theorem ALq:l_1++(l_2++(l_3++(l_4++(l_5++(l_6++(l_7++(l_8++(l_9++(Zu++(AJX++(AEJ++(AHn++([])))))))))))))=bE:=by kernel_rfl
theorem APw(w:World)(os:OsState):topRun treeTable tp w 11 (some (.ref 6)) (409+(459+(427+(481+(135+(486+(472+(481+(494+(331+(378+(484+(188+(2)))))))))))))) (AEp w os).abs (restOf (l_1++(l_2++(l_3++(l_4++(l_5++(l_6++(l_7++(l_8++(l_9++(Zu++(AJX++(AEJ++(AHn++([])))))))))))))) eE cE ⟨0,0,0,0⟩ [topFrame ⟨0,0,0,0⟩])=some ⟨hf w.params,Array.mk [],{},1251,os⟩:=piece_app (segRun_of (t_1 w os)) (piece_app (segRun_of (t_2 w os)) (piece_app (segRun_of (t_3 w os)) (piece_app (segRun_of (t_4 w os)) (piece_app (segRun_of (t_5 w os)) (piece_app (segRun_of (t_6 w os)) (piece_app (segRun_of (t_7 w os)) (piece_app (segRun_of (t_8 w os)) (piece_app (segRun_of (t_9 w os)) (piece_app (segRun_of (APj w os)) (piece_app (segRun_of (APD w os)) (piece_app (segRun_of (APf w os)) (piece_app (segRun_of (APO w os)) (piece_nil (AJ5 w os))))))))))))))
theorem run(w:World)(os:OsState):topRun treeTable tp w 11 (some (.ref 6)) (12+(1+(409+(459+(427+(481+(135+(486+(472+(481+(494+(331+(378+(484+(188+(2)))))))))))))))) ⟨boot_heap w.params,Array.mk [],boot_drawn,boot_toks,os⟩ (topStub tp)=some ⟨hf w.params,Array.mk [],{},1251,os⟩:=by
 have k:=APw w os;rw[ALq]at k;exact go_top (AN7 w os) (piece_block (ALi w os) k)
def KK(P:Params):Frag :=
 (nat_lit 2,boot_o_2 P)::(nat_lit 3,u3 P)::(nat_lit 22,u22)::(nat_lit 23,u23 P)::(nat_lit 24,u24)::(nat_lit 25,u25)::(nat_lit 35,u35)::(nat_lit 36,u36 P)::(nat_lit 37,u37)::(nat_lit 52,u52)::(nat_lit 53,u53)::(nat_lit 54,u54)::(nat_lit 55,u55 P)::(nat_lit 56,u56)::(nat_lit 66,u66)::(nat_lit 67,u67 P)::(nat_lit 68,u68)::(nat_lit 78,u78)::(nat_lit 79,u79 P)::(nat_lit 80,u80)::(nat_lit 90,u90)::(nat_lit 91,u91 P)::(nat_lit 92,u92)::(nat_lit 102,AIv)::(nat_lit 103,AGo P)::(nat_lit 104,AJD)::(nat_lit 112,AIX)::(nat_lit 113,AJI)::(nat_lit 119,AFt)::(nat_lit 120,AIC)::(nat_lit 126,AGg)::(nat_lit 127,AI5)::(nat_lit 128,AH3)::(nat_lit 134,AIQ)::(nat_lit 135,AIs)::(nat_lit 141,AFj)::(nat_lit 142,AFi)::(nat_lit 148,AIW)::(nat_lit 149,AGM)::(nat_lit 155,AJO)::(nat_lit 156,AHz)::(nat_lit 162,AEz)::(nat_lit 163,AEr)::(nat_lit 169,AIy)::(nat_lit 170,AHE)::(nat_lit 176,AGQ)::(nat_lit 177,AIi)::(nat_lit 183,AG2)::(nat_lit 184,AEq)::(nat_lit 188,AJJ)::(nat_lit 189,AFc)::(nat_lit 202,AFJ)::(nat_lit 203,AFg)::(nat_lit 209,AHx)::(nat_lit 210,AGr)::(nat_lit 216,AGu)::(nat_lit 217,AHM)::(nat_lit 223,AFx)::(nat_lit 224,AG9)::(nat_lit 230,AFb)::(nat_lit 231,AGm)::(nat_lit 237,AHv)::(nat_lit 238,AEo)::(nat_lit 239,AEU)::(nat_lit 240,AEm P)::(nat_lit 241,AGH)::(nat_lit 242,AHJ)::(nat_lit 243,AGF)::(nat_lit 251,AGf)::(nat_lit 252,AGC)::(nat_lit 258,AIj)::(nat_lit 259,AGk)::(nat_lit 265,AFW)::(nat_lit 266,AEP)::(nat_lit 272,AJP)::(nat_lit 273,AHA)::(nat_lit 279,AGn)::(nat_lit 280,AEM)::(nat_lit 284,AHf)::(nat_lit 285,AH5)::(nat_lit 289,AEl)::(nat_lit 290,AEn)::(nat_lit 296,AHT)::(nat_lit 297,AEb)::(nat_lit 303,AH0)::(nat_lit 304,AJF)::(nat_lit 310,AHY)::(nat_lit 311,AJM)::(nat_lit 317,AEw)::(nat_lit 318,AF4)::(nat_lit 324,AIS)::(nat_lit 325,AIx)::(nat_lit 329,AGz)::(nat_lit 330,AEf)::(nat_lit 334,AIZ)::(nat_lit 335,AIq)::(nat_lit 339,AJT)::(nat_lit 340,AHd)::(nat_lit 346,AF8)::(nat_lit 347,AEe)::(nat_lit 351,AGe)::(nat_lit 352,AJR)::(nat_lit 358,AGZ)::(nat_lit 359,AG3)::(nat_lit 365,AIV)::(nat_lit 366,AJQ)::(nat_lit 372,AEc)::(nat_lit 373,AG0)::(nat_lit 379,AGD)::(nat_lit 380,AEj)::(nat_lit 384,AI7)::(nat_lit 385,AF6)::(nat_lit 389,AJS)::(nat_lit 390,AEi)::(nat_lit 396,AGO)::(nat_lit 397,AGq)::(nat_lit 403,AFM)::(nat_lit 404,AHa)::(nat_lit 410,AEv)::(nat_lit 411,AFq)::(nat_lit 417,AGb)::(nat_lit 418,AEx)::(nat_lit 424,AJK)::(nat_lit 425,AIl)::(nat_lit 431,AJN)::(nat_lit 432,AEh)::(nat_lit 438,AGR)::(nat_lit 439,AGl)::(nat_lit 445,AFm)::(nat_lit 446,AFV)::(nat_lit 452,AGP)::(nat_lit 453,AI0)::(nat_lit 459,AIU)::(nat_lit 460,AHC)::(nat_lit 464,AHc)::(nat_lit 465,AFQ)::(nat_lit 466,AFR)::(nat_lit 472,AIT)::(nat_lit 473,AGa)::(nat_lit 477,AJB)::(nat_lit 478,AH9)::(nat_lit 484,AHG)::(nat_lit 485,AHR)::(nat_lit 491,AGx)::(nat_lit 492,AGX)::(nat_lit 496,AJU)::(nat_lit 497,AGi)::(nat_lit 503,AI4)::(nat_lit 504,AHK)::(nat_lit 510,AFh)::(nat_lit 511,AFy)::(nat_lit 515,AGt)::(nat_lit 516,AJH)::(nat_lit 520,AGK)::(nat_lit 521,AJL)::(nat_lit 527,AI6)::(nat_lit 528,AHP)::(nat_lit 532,AHe)::(nat_lit 533,AI1)::(nat_lit 539,AIB)::(nat_lit 540,AGW)::(nat_lit 546,AHN)::(nat_lit 547,AIE)::(nat_lit 548,AIz P)::(nat_lit 549,AHB)::(nat_lit 550,AIb)::(nat_lit 551,AFS)::(nat_lit 552,AIn)::(nat_lit 553,AE4)::(nat_lit 554,AEQ)::(nat_lit 555,AJa)::(nat_lit 556,AJA)::(nat_lit 557,AEg)::(nat_lit 558,AHg)::(nat_lit 559,AIY)::(nat_lit 560,AIF)::(nat_lit 561,AIK)::(nat_lit 562,AI9)::(nat_lit 566,AHS)::(nat_lit 567,AGY)::(nat_lit 573,AG8)::(nat_lit 574,AHL)::(nat_lit 580,AGJ)::(nat_lit 581,AF2)::(nat_lit 585,AGy)::(nat_lit 586,AIL)::(nat_lit 592,AGs)::(nat_lit 593,AFP)::(nat_lit 599,AHo)::(nat_lit 600,AFr)::(nat_lit 606,AHO)::(nat_lit 607,AFN)::(nat_lit 613,AIJ)::(nat_lit 614,AHZ)::(nat_lit 618,AFp)::(nat_lit 619,AG6)::(nat_lit 625,AIP)::(nat_lit 626,AIp)::(nat_lit 632,AHq)::(nat_lit 633,AI8)::(nat_lit 637,AIm)::(nat_lit 638,AFU)::(nat_lit 651,AJW)::(nat_lit 652,AG4)::(nat_lit 658,AIo)::(nat_lit 659,AFa)::(nat_lit 663,AFI)::(nat_lit 664,AHi)::(nat_lit 670,AII)::(nat_lit 671,AF5)::(nat_lit 672,AH7)::(nat_lit 673,AHU P)::(nat_lit 674,AGL)::(nat_lit 675,AIt)::(nat_lit 676,AIk)::(nat_lit 684,AFH)::(nat_lit 685,AF7)::(nat_lit 691,AIu)::(nat_lit 692,AHW)::(nat_lit 698,AHy)::(nat_lit 699,AFG)::(nat_lit 705,AGT)::(nat_lit 706,AHt)::(nat_lit 712,AEk)::(nat_lit 713,AFZ)::(nat_lit 719,AFd)::(nat_lit 720,AEZ)::(nat_lit 724,AIH)::(nat_lit 725,AIa)::(nat_lit 731,AId)::(nat_lit 732,AGS)::(nat_lit 738,AEd)::(nat_lit 739,AHD)::(nat_lit 745,AEy)::(nat_lit 746,AGB)::(nat_lit 752,AFT)::(nat_lit 753,AE5)::[]
theorem ALa(P:Params):[2,3,22,23,24,25,35,36,37,52,53,54,55,56,66,67,68,78,79,80,90,91,92,102,103,104,112,113,119,120,126,127,128,134,135,141,142,148,149,155,156,162,163,169,170,176,177,183,184,188,189,202,203,209,210,216,217,223,224,230,231,237,238,239,240,241,242,243,251,252,258,259,265,266,272,273,279,280,284,285,289,290,296,297,303,304,310,311,317,318,324,325,329,330,334,335,339,340,346,347,351,352,358,359,365,366,372,373,379,380,384,385,389,390,396,397,403,404,410,411,417,418,424,425,431,432,438,439,445,446,452,453,459,460,464,465,466,472,473,477,478,484,485,491,492,496,497,503,504,510,511,515,516,520,521,527,528,532,533,539,540,546,547,548,549,550,551,552,553,554,555,556,557,558,559,560,561,562,566,567,573,574,580,581,585,586,592,593,599,600,606,607,613,614,618,619,625,626,632,633,637,638,651,652,658,659,663,664,670,671,672,673,674,675,676,684,685,691,692,698,699,705,706,712,713,719,720,724,725,731,732,738,739,745,746,752,753]=(KK P).map (·.1):=by kernel_rfl
abbrev hook:Hook:=kHook KK [2,3,22,23,24,25,35,36,37,52,53,54,55,56,66,67,68,78,79,80,90,91,92,102,103,104,112,113,119,120,126,127,128,134,135,141,142,148,149,155,156,162,163,169,170,176,177,183,184,188,189,202,203,209,210,216,217,223,224,230,231,237,238,239,240,241,242,243,251,252,258,259,265,266,272,273,279,280,284,285,289,290,296,297,303,304,310,311,317,318,324,325,329,330,334,335,339,340,346,347,351,352,358,359,365,366,372,373,379,380,384,385,389,390,396,397,403,404,410,411,417,418,424,425,431,432,438,439,445,446,452,453,459,460,464,465,466,472,473,477,478,484,485,491,492,496,497,503,504,510,511,515,516,520,521,527,528,532,533,539,540,546,547,548,549,550,551,552,553,554,555,556,557,558,559,560,561,562,566,567,573,574,580,581,585,586,592,593,599,600,606,607,613,614,618,619,625,626,632,633,637,638,651,652,658,659,663,664,670,671,672,673,674,675,676,684,685,691,692,698,699,705,706,712,713,719,720,724,725,731,732,738,739,745,746,752,753] ALa
theorem la(w:World)(os:OsState):(staticsOk (importedModules tp.main.body) (boot_heap w.params) (hf w.params)&&namesBound tp (hf w.params)&&gensDone ⟨hf w.params,Array.mk [],{},1251,os⟩&&laidKept (boot_heap w.params) (hf w.params))=true:=by kernel_rfl
abbrev LO:List Str:=[("fraction":Str),("walked":Str),("FORMS":Str)]
open PySem.Calls
theorem lb0(w:World)(os:OsState):seen ((recsOf q).map (·.name)) (ownsOf q) [] { (⟨hf w.params,Array.mk [],{},1251,os⟩:Shared) with gens:=#[] }=expectedOf q:=by kernel_rfl
theorem lb1(w:World)(os:OsState):(hf w.params).bltView=bltViewBooted:=by kernel_rfl
theorem lb2(w:World)(os:OsState):((hf w.params).keysOk (looseW q LO) ((recsOf q).map (·.name)) ((litsOf q).map (·.1)) ((clssOf q (looseW q LO)).map (·.name))&&(hf w.params).accountedOkI (importedModules tp.main.body)&&(hf w.params).isNs mainGlobals&&(hf w.params).isNs builtinsNs&&tablesOk q (hf w.params)&&(fun s=>xlAt q [] s&&recOk [] s) (⟨hf w.params,Array.mk [],{},1251,os⟩:Shared)&&(if true then((⟨hf w.params,Array.mk [],{},1251,os⟩:Shared)).gens.size==0 else !leftWithCleanup ((⟨hf w.params,Array.mk [],{},1251,os⟩:Shared)).gens))=true:=by kernel_rfl
theorem lb3(w:World)(os:OsState):tabsOk q (⟨hf w.params,Array.mk [],{},1251,os⟩:Shared)=true:=by kernel_rfl
theorem lb4(w:World)(os:OsState):pinSeenD q (drecsOf q) (⟨hf w.params,Array.mk [],{},1251,os⟩:Shared)=pinGoodD (drecsOf q):=by kernel_rfl
theorem lb5(w:World)(os:OsState):plainSeenE q (looseW q LO) (⟨hf w.params,Array.mk [],{},1251,os⟩:Shared)=plainGoodE q (looseW q LO):=by kernel_rfl
theorem lb6(w:World)(os:OsState):plainSeenD q LO (⟨hf w.params,Array.mk [],{},1251,os⟩:Shared)=plainGoodD q LO:=by kernel_rfl
theorem lb7(w:World)(os:OsState):wideSeen q (⟨hf w.params,Array.mk [],{},1251,os⟩:Shared)=wideGood q:=by kernel_rfl
theorem lb8(w:World)(os:OsState):clsSeenW q LO (⟨hf w.params,Array.mk [],{},1251,os⟩:Shared)=clsGoodW q LO:=by kernel_rfl
theorem lb(w:World)(os:OsState):openSeen q LO (importedModules tp.main.body) (fun s=>xlAt q [] s&&recOk [] s) true (⟨hf w.params,Array.mk [],{},1251,os⟩:Shared)=openGood q LO:=congr (congrArg Prod.mk (lb0 w os)) (congr (congrArg Prod.mk (lb1 w os)) (congr (congrArg Prod.mk (lb2 w os)) (congr (congrArg Prod.mk (lb3 w os)) (congr (congrArg Prod.mk (lb4 w os)) (congr (congrArg Prod.mk (lb5 w os)) (congr (congrArg Prod.mk (lb6 w os)) (congr (congrArg Prod.mk (lb7 w os)) (lb8 w os))))))))
theorem lc(w:World)(os:OsState):hook.obs ⟨hf w.params,Array.mk [],{},1251,os⟩=hook.val w:=by kernel_rfl
theorem ld(w:World):((boot_heap w.params).isNs mainGlobals&&(Array.mk ([]:List GenState)).size==0,(boot_heap w.params).objs.size,(boot_heap w.params).nsMap mainGlobals "__annotations__")=(true,11,some (.ref 6)):=by kernel_rfl
theorem left:LeftO tp q [("fraction":Str),("walked":Str),("FORMS":Str)] (fun s=>xlAt q [] s&&recOk [] s) hook.obs hook.val 11450 :=
 LeftO.of_pieces (boot_open (by kernel_rfl) (by decide) (fun s=>by kernel_rfl)) ld run (by decide) (fun w=>funext fun os=>congr (congrArg Prod.mk (la w os)) (congr (congrArg Prod.mk (lb w os)) (lc w os)))
end My
open PySem PySem.W PyProof.Rows
set_option maxRecDepth 100000 in
theorem PySem.Challenge.cw_tautcord_k86_rows_refused_holds : PySem.Challenge.rw_tautcord_k86_rows_refused.Holds := by
 refine holds_law My.said fun said=>?_;refine holds_open (q:=My.q) (loose:=[("fraction":Str),("walked":Str),("FORMS":Str)]) (Xt:=fun s=>xlAt My.q [] s&&recOk [] s) (XP:=XL My.q []) (Yf:=Hook.obs My.hook) (Ya:=Hook.val My.hook) (YP:=Hook.says My.hook) (N:=11450) My.left (Hook.of My.hook) (Hook.keeps My.hook) (fun s e=>xl_of s (Bool.and_eq_true_iff.mp e).1) XL.keeps (by rfl) (by rfl) (by rfl) (fun s e=>recFacts_of (Bool.and_eq_true_iff.mp e).2) (by rfl) said (by decide +kernel) ⟨rfl,rfl,rfl,rfl,rfl,by decide +kernel⟩ ?hw ?hc
 case hw=>w_witness2
 delta My.hook
 k_fill
 refine My.walk (l:=PySem.Challenge.rw_tautcord_k86_rows_refused) rfl rfl (fun w h YY=>PySem.W.kIn_of YY) ?F
 case F =>
  intro w mg fa h KX G hmg
  open L3 in exact My.all_mk KX G hmg (by k_is) (by k_is) (by k_is) (by k_is) (by k_is) (by k_is) (by k_is) (by k_is) (by k_is) (by k_is) (by k_is) (by kit_is) (by k_is) (by k_is) (by k_is) (by k_is) (by k_is) (by k_is) (by k_is) (by k_is) (by k_is) (by k_is) (by kit_is) (by k_is) (by k_is) (by k_is) (by k_is) (by k_is) (by k_is) (by k_is) (by k_is) (by k_is) (by k_exc) (by k_is) exM (by k_exc) (by k_is) exM (by k_exc) (by k_is) exM (by k_exc) (by k_is) exM (by k_is) (by kernel_rfl) exM (by rfl) (by k_is) (by k_is) (by k_is) (by kit_is) (by rfl) (by kit_is) (by rfl) (by kit_is) (by rfl) (by kit_is) (by rfl) (by kit_is) (by rfl) ⟨by kit_is,by kit_is,by kit_is,by kit_is,by kit_is,by kit_is,by kit_is,trivial⟩ ⟨by kit_is,by kit_is,by kit_is,by kit_is,by kit_is,by kit_is,by kit_is,trivial⟩ ⟨by kit_is,by kit_is,by kit_is,by kit_is,by kit_is,by kit_is,by kit_is,trivial⟩ ⟨by kit_is,by kit_is,by kit_is,by kit_is,by kit_is,by kit_is,by kit_is,trivial⟩ ⟨by kit_is,by kit_is,by kit_is,by kit_is,by kit_is,by kit_is,by kit_is,trivial⟩ (by k_is) gi gm gm gm gm gm gm gm gm gd gd gd gd gd gd gd gd gd gd gd gd gd gd gd gd gd gd gd gd gd gd gd gd gd gd gd gd gd gd gd gd gd gd gd gd gd gd gd gd gd gd gd gd gd gd gd gd gd gd gd gd gd gd gd (by k_is) (by k_is) (by k_is) (by k_is) (by k_is) (by k_is) (by k_is) (by k_is) (by k_is) (by k_is) (by k_is) (by rfl) (by k_is) (by k_is) (by k_is) (by k_is) (by k_is) (by k_is) (by k_is) (by k_is) (by k_is) (by k_is) (by k_is) (by k_is) (by k_is) (by k_is) (by k_is) (by k_is) (by k_is) (by k_is) (by k_is) (by k_is) (by k_is) (by k_is) (by k_is) (by k_is) (by k_is) (by k_is) (by k_is) (by k_is) (by k_is) (by k_is) (by k_is) (by k_is) (by k_is) (by k_is) (by k_is) (by k_is)
