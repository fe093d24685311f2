import PyProof.Rows.All
import Wide.All
import OpenK.AllK
import Wide.FinOn
import Lean
import PyProof.EqAt
import PyProof.EqKinds
import PyProof.TupleCall
import PyProof.StrLawsIn
import KE.KTryMore
import KE.KDictOf
import PyProof.Draws
import PyProof.EnumMake
import PyProof.Rows.EnumRows
import PyProof.ZipIter
import KE.KRevIter
import KE.KDictList
import PyProof.ListRange
import PyProof.RulesTry
import PyProof.SetKind
import PyProof.SetRoads
import PyProof.CollectWalk
import PyProof.Rows.SetFrom
import PyProof.Rows.SortStr
import PySem.Challenge.RW_shrinkhouse_k25_no_more_than_told
set_option autoImplicit false
set_option Elab.async false
set_option linter.all false
set_option maxRecDepth 100000
set_option maxHeartbeats 4000000
set_option compiler.extract_closed false
open List renaming length_map->a_, getElem?_eq_getElem->b_, getElem?_map->g_, getElem?_eq_some_iff->i_, mem_map->n_, map_cons->r_, length_cons->x_, mem_of_getElem?->y_, length_append->A_, getD_eq_getElem?_getD->B_, mem_cons->C_, mem_singleton->D_, map_append->F_, map_map->G_, size_toArray->H_, mem_cons_of_mem->J_, length_range->K_, mem_append_right->T_, mem_append->U_, mem_cons_self->W_, length_singleton->X_, mem_iff_getElem?->Y_, length_take->Zm, all_eq_true->Zn, range->Zo, map_congr_left->Zs, lookup_cons->Zt, mem_range->Zv, filterMap_cons->Zw, getElem?_append_right->Zx, filter_cons->Zz, mem_of_mem_take->ZE, getElem?_append_left->ZO, take_of_length_le->ZR, getElem?_eq_none->ZT, append_nil->ZU, not_mem_nil->ZW, all_cons->ZX, mem_filter->Z5, length_drop->Z9, map_nil->Z_, filter_eq_nil_iff->aac, getElem?_range->aad, getElem?_drop->aak, any_eq_true->aan, take_zero->aat, drop_eq_getElem_cons->aay, getElem?_zip_eq_some->aaz, getElem_mem->aaC, mem_iff_getElem->aaF, take_add_one->aaL, find?_cons->aaN, length_set->aaO, mem_zipIdx_iff_getElem?->aaP, getElem?_set_self->aaU, all_map->aaY, cons_append->aa0, take_length->aa1, zip_cons_cons->aa5, length_zipIdx->aa6, take_append_drop->aa8, lookup->abj, append_assoc->abk, filter_eq_self->abv, filter_cons_of_pos->abz, filter_cons_of_neg->abA, zipIdx_cons->abB, length_pos_of_mem->abL, nodup_cons->abM, length_nil->abO, foldl_cons->abP, any_cons->abR, map_take->abS, length_filter_le->abU, contains_iff_mem->abV, map_inj_left->abX, mem_append_left->abY, getElem?_set_ne->abZ, any_map->ab8, range_succ->acp, pairwise_cons->acs, getElem?_take->acu, getElem?_cons_succ->acC, flatten_cons->acI, drop_eq_nil_of_le->acJ, length_replicate->acN, isEmpty_iff->acT, map_drop->acX, length_reverse->ac9, length_take_le->ac_, forIn_nil->adq, filter_append->adt, take_sublist->adD, nodup_append->adF, ext_getElem?->adH, getElem?_replicate->adT, length_eq_zero_iff->ad0, pairwise_lt_range->aec, all_nil->aee, of_mem_zip->aej, forIn_cons->aek, length_zip->aeo, getElem?_reverse->aeu, length->aeD, getElem?_zipIdx->aeL, mem_of_mem_drop->aeN, pairwise_append->aeO, takeWhile_cons->aeY, filter_sublist->aeZ, contains->ae6, mem_filterMap->ae_, getElem_range->afj, count_pos_iff->afm, flatMap_cons->afF, getElem_take->afM, countP_cons->afT, drop_length->afW, mem_flatten->afX, mem_flatMap->afY, map_id->af3, nil_append->af8, zipIdx_nil->af9, countP_map->agb, mem_zipIdx->agd, replicate->agm, map->agw, drop_zero->agx
open PySem renaming wpAny_bind->c_, Shared->j_, wpAny_pure->q_, Program->N_, PyData->P_, starEach->S_, compareOp->ZF, Around->ZN, wpAny_truthy_bool->ZQ, wpAny_field->ZY, cellsFrom->ZZ, FuncData->Z4, behindInMarks->aaf, bootBuiltins->aag, wpAny_mono->aaj, wpAny_callSpecial?_slot->aam, strKind->aao, wpAny_newObj_type->aaq, wpAny_seqItems->aas, wpAny_Call_Name_kw->aaA, wpAny_call_entry->aaB, rawInt->aaD, strIterType->aaE, mem_of_lookup->aaH, swapsWith->aaI, foldedSetIterable->aaJ, NameKind->aaR, backTo->aaV, wpAny_setField_rec->aa4, wpAny_passesOwn->abb, codeAny_builtin->abg, wpAny_pyIter_list->abi, wpAny_of_eq->abm, sysModules->abo, attributeBase->abp, wpAny_holding->abq, IsPair->abt, wpAny_getItem_str_slice->aby, wpAny_pyIter_tuple->abI, keywordEach->ab1, codeAny->ab5, codeAny_mono->ab6, binaryOp->acg, ReadsAll->aci, wpAny_specialOf->acn, Builtin->aco, sliceBounds->acz, wpAny_pyIter_rangeiter->acD, eqIsQuiet_byValue->acL, Keyword->acW, wpAny_updateSeq_pair->ac0, wpAny_execs_nil->ac1, letOwnedTupleGo->ac2, post_val_or_str->ac3, pyHashByItsType->ac6, wpAny_typeOf->adb, Operator->adi, backToKw->adp, holding->adx, IsRangeIter->ady, getItem->adE, wpAny_comprehension_free->adN, wpAny_onRaise->adO, wpAny_pyHash_int->adQ, wpAny_pyHash_str->adR, SetTable->adW, Paired->ad1, builtinsNs->ad2, assignEach->ad3, wpAny_pyNext_list_item->ad4, wpAny_pyNext_range_end->ad5, IsPart->ad8, wpAny_Call_method_late->ad_, callerA->aeb, wpAny_loadPart'->aem, codeAny_of_tree->aen, wpAny_isTrue_Compare1->aeq, wpAny_pyNext_list_end->aer, isTrue->aex, wpAny_loadName_local->aey, pyNext->aez, recursionLimit->aeB, subscripted->aeE, compEnvC->aeG, newFunctionEnv->aeH, standAt->aeQ, PassesOwn->aeR, scanBound->aeS, wpAny_loadName_cell->aeU, rangeSize_one->ae1, plainId_quiet->ae5, wpAny_call->afa, call_meets->afe, Within->afn, BindsTo->afu, bindArgs->afv, valueAt->afA, tupleKind->afN, assign->afO, getMethod->afQ, Arguments->afR, sizeLine_eq->af0, wpAny_letGo->af4, IsRange->agh, call->agq
open PySem.W renaming Frag->e_, findIn->ZC, keepIn->ZH, kia_one->Z7, emptyDict->aae, instObj->aaM, fnOf->aaW, callWith_K->abG, nsIn->abK, codeIn->ab0, plainGet->ab4, hasDictIn->acE, isFn->acF, kitOne->acG, methodCall_KW->acO, mg_of->acY, plainGet_of->ac8, lookIn->adk, methodObj->adw, plainOver->adA, specialIn->adB, cellsFrom_some->ad7, takerIn->aeh, makesIn->aei, findCls->ael, CFound->aeM, kitx_list->afq, kitx_dict->afr, handedIn->afP, OpenLaw->af6, readsIn->af7, WalkO->agB
open PySem.Heap renaming get?_push_of_some->k_, get?_push_size->w_, lt_size->E_, size_push->Z0, SameBut->aaT, get?_update_self->aes, IsTuple->afB
open Option renaming map_eq_some_iff->o_, map_some->acm, isSome_iff_exists->adM, getD_none->adU, isSome_some->afg, getD_some->afS
open Int renaming toNat_natCast->p_, zero_add->Zu, eq_ofNat_of_zero_le->Zy, natCast_add->ZA, natCast_mul->ZV, emod_nonneg->abf, emod_lt_of_pos->abH, fdiv_eq_ediv_of_nonneg->adj, mul_one->adz, toNat->adX, natCast_emod->adY, mul_nonneg->aeI, toNat_of_nonneg->ae0, mul_zero->afL, le_refl->af1
open Nat renaming le_refl->t_, lt_of_lt_of_le->I_, ne_of_lt->Q_, le_trans->R_, lt_irrefl->ZK, le_of_lt->Z8, lt_or_ge->aai, zero_le->aal, min_eq_left->aax, div_add_mod->aaQ, mul_le_mul->aa7, lt_succ_self->abw, ne_of_gt->ab3, div_eq_of_lt->ab9, mod_eq_of_lt->ab_, add_zero->aca, mul_le_mul_left->ace, lt_of_le_of_lt->acw, eq_zero_or_pos->acx, le_add_right->acS, min_eq_right->acU, mul_add_mod'->acV, le_succ->acZ, mul_add_div->ac7, mod_lt->adu, lt_succ_of_lt->adG, add_mul->adI, one_mul->adJ, add_sub_cancel_left->adZ, le_total->aef, mul_comm->aeg, mul_le_mul_right->aeP, le_of_eq->afp, lt_trans->afy, sub_zero->afJ, add_comm->afK
open Bool renaming false_ne_true->u_, and_eq_true->v_, and_true->ZS, eq_iff_iff->Z6, false_or->ae4, false_eq_true->aff, eq_false_iff->afI, false_and->agl, false_xor->agz
open PySem.SeqAt renaming shaped->L_, canLay_of_shaped->aau, room_of_shaped->aeJ, notIn_listAt->afd, eqAt_reads->afV, in_listAt->af5
open Option.some renaming inj->M_
open PySem.Builtin.Range renaming rangeSize->O_, rangeFitsLong->abW, small->aeW
open PySem.PyData renaming eqv->V_, canLayAll0->Zl, depthAll->Zr, canLay0->Z1, depth->aar, tuple->aav, eqvAll->abT, int->acr, str->acy, list->adK, strOk->afz
open PySem.Value renaming ref->Zq, type->aa2, none->abF, int->acQ, str->adf, bool->adg, isStrOf_shape->aeT, float->afZ, isStrOf->agA, builtin->agD
open PyProof.Rows renaming callWith_type1->ZD, slot_tuple_getitem->ZJ, boot_list->aaX, boot_range->abu, boot_tuple->acA, callWith_builtin1->acR, AllBare->ada, subscriptTail_builtinR->ad9, boot_dict->aed, boot_int->aet, envOfC->aeC, entry_tuple_getitem->aeV, subscriptTail->ae2, rangeSize_pos->ae3, IntsAre->agg
open False renaming elim->ZG
open PySem.PyData.eqvAll renaming eq_2->ZI, eq_1->acv
open Array renaming length_toList->ZL, forIn_toList->afl
open Ne renaming symm->ZM
open PySem.Builtin.SmallTypes renaming nextOf->ZP, ownedTupleIsFree->ack, ownedTupleHandOut->aeX
open PySem.NameKind renaming free->Z2, cell->aaZ
open True renaming intro->Z3
open PySem.Str renaming ofString->aah, empty->abd, length_append->abn, length->afc
open PySem.Around renaming under_plainId->aaG, under->afs
open PySem.Builtin.Str renaming occurrences->aaK
open PyProof.Rows.F renaming plain_set_update_loop->aaS, entry_set_update_loop->acf
open PySem.F renaming slot_tuple_iterator_next->aa3, called_set->abJ, slot_list_getattribute->acj, plainAttrs_list->acB, slot_tuple_hash->acK, slot_list_append->acM, slot_range_reversed->acP, args_tuple_iterator_next_1->ac4, slot_zip_next->ac5, entry_tuple_iterator_next->ade, type_list_append->adP, slot_tuple_count->aev, slot_list_extend->aew, plain_reversed_new->aeK, args_zip_next_1->afE
open PySem.Builtin.Slice renaming slicePlaces->aa9, sliceAdjust->acb, sliceApplied->adn
open PySem.Builtin.Tuple renaming tupleHashOf->aa_, tupleExact->abr, tupleItemsOf->ado
open PySem.Txt renaming slice->abe
open Sum renaming inr->abh, inl->abE
open PySem.SetTable renaming grown->abC
open Classical renaming propDecidable->abD, byContradiction->adv
open ForInStep renaming yield->abN
open PySem.PyData.eqv renaming eq_8->abQ, eq_7->aep, eq_6->age, eq_5->agf
open PySem.Heap.SameBut renaming update->acd
open PySem.Builtin.List renaming listTooLong->ach
open List.Pairwise renaming nil->acH
open PySem.Calls renaming Name_function_global->adh, spliced_cons->adl, spliced_nil->adC, callWith_builtin->aea, evalArgs_plain->aeF
open PySem.Code renaming quiet_builtin->ads, isFrame->aft
open PySem.Paired renaming length->adL
open PySem.Data renaming cell->adS, fields->aeA, seq->agr
open PySem.Builtin.Dict renaming updateFrom->adV
open PyProof renaming noPylong_small->ad6
open PySem.SeqAt.EqAt renaming int_str->ae7, str_int->ae8
open PySem.Obj renaming data_mapFields->afi, putSet->agt
open PySem.SeqAt.Reads renaming unique->afk
open PySem.WalksT renaming enumerateD->afC
open PySem.Shared renaming heap->af2
open PySem.Builtin.Frozenset renaming updateFrom->aga, newClass->agu
open PySem.PassesOwn renaming never->agc
open PySem.Walks renaming list->ags
open PyProof.Rows.IsTup renaming new->agH
open Iff renaming rfl->agN
open Sum.inl renaming inj->agP
open PySem.IsRange renaming new->agT
noncomputable abbrev d_:=@decide_eq_true
noncomputable abbrev f_:=@decide_eq_false
noncomputable abbrev l_:=@of_decide_eq_true
noncomputable abbrev m_:=@Option
noncomputable abbrev s_:=@if_neg
noncomputable abbrev z_:=@if_pos
noncomputable abbrev Zp:=@decide_eq_true_iff
noncomputable abbrev aap:=@beq_iff_eq
noncomputable abbrev aaw:=@beq_eq_false_iff_ne
noncomputable abbrev abl:=@decide_eq_true_eq
noncomputable abbrev abx:=@beq_self_eq_true
noncomputable abbrev ab2:=@or_false
noncomputable abbrev ab7:=@if_true
noncomputable abbrev acq:=@String
local macro_rules | `(∅) => `(by lia)
set_option hygiene false
local macro_rules
|`((1))=>`(by decide +kernel)
|`((2))=>`(by decide)
|`((3))=>`(by simp)
|`('0')=>`(model X.prog X.w)
|`('1')=>`(zs.map .str)
|`('2')=>`(x==("__debug__" : Str))
|`((4))=>`(fun x hx K hK=>?_)
|`('3')=>`(model prog w)
|`('4')=>`(tp X.K cl Z ca)
|`('5')=>`(X.comp scope own b0 C s H fp (X.pn++pins))
|`('6')=>`(X.comp scope own b0 C s₀ H₀ ex pn)
|`('7')=>`(s.heap.objs.size+1)
|`('8')=>`(.ListComp elt [⟨tg,iter,ifs,0⟩] scope pos)
|`((5))=>`(fun _ _ _ z=>z)
|`('9')=>`(hr.vE g _)
|`((6))=>`(fun z=>nomatch z)
|`((7))=>`(by rw[f_ e];decide)
local macro_rules
|`(tactic|ext a)=>`(tactic|obtain⟨B,ρ,M,G,R,h1,h2,h3⟩:=h)
|`(tactic|ext b)=>`(tactic|refine⟨B,ρ,M,G,_,h1,h2,fun x vx M1 G1 H1 f1 i1 hx=>?_⟩)
|`(tactic|ext c)=>`(tactic|obtain⟨B,ρ,M,G,E,h1,h2,h3⟩:=h)
|`(tactic|ext d)=>`(tactic|intro pins s σ H Q I h)
|`(tactic|ext e)=>`(tactic|intro X hP hw hK hc i pins s σ H E I hf st hg)
|`(tactic|ext f)=>`(tactic|intro pins s σ H x y v u Q I rx ry h)
|`(tactic|ext g)=>`(tactic|refine⟨B,ρ,M,G,_,h1,h2,fun x vx M1 G1 H1 f1 i1 hx=>⟨B,ρ,M1,G1,_,h1.on f1,hx,fun y vy M2 G2 H2 f2 i2 hy=>?_⟩⟩)
|`(tactic|ext h)=>`(tactic|obtain⟨t',rfl⟩:=ry)
|`(tactic|ext i)=>`(tactic|obtain⟨t,rfl⟩:=rx)
|`(tactic|ext j)=>`(tactic|intro pins s σ H xs us Q I r h)
set_option hygiene true
namespace L2
open PySem PySem.Spec PyProof.Rows
noncomputable abbrev Key:=Sum Int Str
noncomputable def oF:Key->Value->Bool
 | .inl k,v=>Value.isInt k v
 | .inr x,v=>agA x v
noncomputable def Rl (w:World):Key->Int
 | .inl k=>hashInt k
 | .inr x=>hashStr w x
theorem aZ:∀ {k:Key}{v:Value},oF k v=true->(∃ i t,k=abE i/\v=acQ i t)∨(∃ x t,k=abh x/\v=adf x t)
 | .inl i,v,h=>by
  obtain⟨t,e⟩:=Value.isInt_shape (k:=i) (v:=v) h;exact .inl ⟨i,t,rfl,e⟩
 | .inr x,v,h=>by
  obtain⟨t,e⟩:=aeT (x:=x) (v:=v) h;exact .inr ⟨x,t,rfl,e⟩
def Ao (i:Int) (t:Tok):oF (.inl i) (.int i t)=true:=by simp [oF,Value.isInt]
def Ap (x:Str) (t:Tok):oF (.inr x) (.str x t)=true:=by simp [oF,agA]
def Il (a b:Int):decide ((abE a:Key)=abE b)=(a==b):=by
 by_cases e:a=b
 ·subst e;simp
 ·have h:¬ (abE a:Key)=abE b:=fun q=>e (agP q)
  rw[f_ h];exact (aaw.mpr e).symm
def Im (a b:Str):decide ((abh a:Key)=abh b)=decide (a=b):=by
 by_cases e:a=b
 ·subst e;simp
 ·have h:¬ (abh a:Key)=abh b:=fun q=>e (Sum.inr.inj q)
  rw[f_ h,f_ e]
def Io (a:Int) (b:Str):decide ((abE a:Key)=abh b)=false:=f_ (fun q=>nomatch q)
def Iq (a:Str) (b:Int):decide ((abh a:Key)=abE b)=false:=f_ (fun q=>nomatch q)
noncomputable def aL (prog:N_) (w:World):PySem.KeyKind prog w Key where
 is:=oF
 hash:=Rl w
 inj:=fun v a b ha hb=>by
  rcases aZ ha with ⟨i,t,rfl,rfl⟩ | ⟨x,t,rfl,rfl⟩
  ·rcases aZ hb with ⟨j,u,rfl,e⟩ | ⟨y,u,rfl,e⟩
   ·injection e with e1 _;rw[e1]
   ·exact nomatch e
  ·rcases aZ hb with ⟨j,u,rfl,e⟩ | ⟨y,u,rfl,e⟩
   ·exact nomatch e
   ·injection e with e1 _;rw[e1]
 byValue:=fun k v h=>by
  rcases aZ h with ⟨i,t,rfl,rfl⟩ | ⟨x,t,rfl,rfl⟩<;>rfl
 pyHash:=fun hv h=>by
  rcases aZ hv with ⟨i,t,rfl,rfl⟩ | ⟨x,t,rfl,rfl⟩
  ·exact adQ h
  ·exact adR h
 eqBool:=fun hu hv h=>by
  rcases aZ hu with ⟨i,t,rfl,rfl⟩ | ⟨x,t,rfl,rfl⟩
  ·rcases aZ hv with ⟨j,u,rfl,rfl⟩ | ⟨y,u,rfl,rfl⟩
   ·rw[Il] at h;exact wpAny_eqBool_int h
   ·rw[Io] at h;exact ae7 i t y u _ _ _ _ h
  ·rcases aZ hv with ⟨j,u,rfl,rfl⟩ | ⟨y,u,rfl,rfl⟩
   ·rw[Iq] at h;exact ae8 x t j u _ _ _ _ h
   ·rw[Im] at h;exact wpAny_eqBool_str h
 «strs»:=fun k x t v h=>by
  rcases aZ h with ⟨i,u,rfl,e⟩ | ⟨y,u,rfl,e⟩
  ·exact nomatch e
  ·injection e with e1 _
   subst e1
   cases v<;>rfl
def vd (prog:N_) (w:World) (i:Int) (t:Tok):(aL prog w).is (.inl i) (.int i t)=true:=Ao i t
def ve (prog:N_) (w:World) (x:Str) (t:Tok):(aL prog w).is (.inr x) (.str x t)=true:=Ap x t
inductive V where
 | az | bl (b:Bool) | int (i:Int) | str (x:Str) | zh (b:Array UInt8) | Ir (b:UInt64) | ref (a:Addr) | ty (n:acq)
 deriving DecidableEq
def RelV:V->Value->Prop
 | .az,u=>u=abF
 | .bl b,u=>u=adg b
 | .int i,u=>∃ t,u=acQ i t
 | .str x,u=>∃ t,u=adf x t
 | .zh b,u=>∃ t,u=Value.bytes b t
 | .Ir b,u=>∃ t,u=afZ b t
 | .ref a,u=>u=Zq a
 | .ty n,u=>u=aa2 n
abbrev Vals:List V->List Value->Prop:=ad1 RelV
theorem Vals.length {xs:List V}{us:List Value} (r:Vals xs us):xs.length=us.length:=adL r
theorem Vals.get:∀ {xs:List V}{us:List Value}{i:Nat}{x:V},Vals xs us->xs[i]? = some x->∃ u,us[i]? = some u/\RelV x u
 | _,_,_,_,.nil,e=>by simp at e
 | _,_,0,_,.cons r _,e=>by simp at e;subst e;exact⟨_,rfl,r⟩
 | _,_,i+1,x,.cons _ t,e=>by
  obtain⟨u,h1,h2⟩:=Vals.get (i:=i) (x:=x) t (by simpa using e);exact⟨u,by simpa using h1,h2⟩
theorem Vals.append:∀ {xs ys:List V}{us ws:List Value},Vals xs us->Vals ys ws->Vals (xs++ys) (us++ws)
 | _,_,_,_,.nil,s=>s
 | _,_,_,_,.cons r t,s=>.cons r (Vals.append t s)
theorem Vals.take:∀ {xs:List V}{us:List Value} (n:Nat),Vals xs us->Vals (xs.take n) (us.take n)
 | _,_,0,_=>.nil
 | _,_,_+1,.nil=>.nil
 | _,_,n+1,.cons r t=>.cons r (Vals.take n t)
theorem Vals.drop:∀ {xs:List V}{us:List Value} (n:Nat),Vals xs us->Vals (xs.drop n) (us.drop n)
 | _,_,0,r=>r
 | _,_,_+1,.nil=>.nil
 | _,_,n+1,.cons _ t=>Vals.drop n t
def kM:m_ V->m_ Value->Prop
 | some v,some u=>RelV v u
 | none,none=>True
 | _,_=>False
def KV {κ:Type}:List (κ×V)->List (κ×Value)->Prop:=ad1 fun (p:κ×V) (q:κ×Value)=>p.1=q.1/\RelV p.2 q.2
noncomputable def kV:Key->V
 | .inl i=>.int i
 | .inr x=>.str x
inductive HO where
 | lst (xs:List V)
 | tup (xs:List V)
 | dK (kvs:List (Key×V)) | dT (kvs:List (List Key×V))
 | set (S:Int->Bool) (n:Nat)
 | ins (C dx:Addr) (fs:List (Str×V))
 | own (x:Addr)
 | xd (fs:List (Str×V))
 | met (f x:Addr)
 | Aq (lo hi:Int)
 | eT (o:Obj) (u:HO)
 | Iu (ps:Array Value)
 | ext (φ:Heap->Prop)
noncomputable abbrev Hp:=Addr->m_ HO
noncomputable def upd (H:Hp) (a:Addr) (o:HO):Hp:=fun b=>if b=a then some o else H b
def au {H:Hp}{a:Addr}{o:HO}:upd H a o a=some o:=by unfold upd;rw[z_ rfl]
def av {H:Hp}{a b:Addr}{o:HO} (h:b≠a):upd H a o b=H b:=by unfold upd;rw[s_ h]
def aB {H:Hp}{a b:Addr}{o:HO} (h:H a=some o) (h':H b=none):a≠b:=by
 intro e;subst e;rw[h] at h';cases h'
section
variable (P:N_) (w:World)
def aQ (H:Hp) (h:Heap) (a:Addr):HO->Prop
 | .lst xs=>xs.length<=sizeLine/\∃ (ai:List Value) (n:Nat),Vals xs ai/\h.get? a=some { cls:=.type "list",data:=.seq ai.toArray n }
 | .tup xs=>xs.length<=sizeLine/\∃ ai:List Value,Vals xs ai/\IsTup h a ai.toArray
 | .dK kvs=>kvs.length<=sizeLine/\(a==abo)=false/\∃ vs,KV kvs vs/\h.DictOf (aL P w) a vs
 | .dT kvs=>kvs.length<=sizeLine/\(a==abo)=false/\∃ xs:List (List Key×Addr×Value),
   ad1 (fun (p:List Key×V) (q:List Key×Addr×Value)=>p.1=q.1/\H q.2.1=some (.tup (p.1.map kV))/\RelV p.2 q.2.2) kvs xs /\
   ∃ o es ep,h.get? a=some o/\o.ExactDict/\o.data=.dict es ep/\es.toList=xs.map (entryOfKey (afN (aL P w)))/\(xs.map (·.1)).Nodup
 | .set S n=>h.SetOf (intKind P w) a S n
 | .ins C dx fs=>H dx=some (.own a)/\fs.length<=1000/\dx≠a/\h.get? a=some (aaM C dx) /\
   ∃ mA,h.Ns1 dx mA/\(∀ f,kM (fs.lookup f) (mA f))/\afn mA (fs.map (·.1))
 | .own _=>∃ o,h.get? a=some o
 | .xd fs=>∃ mA,h.Ns1 a mA/\∀ f,kM (fs.lookup f) (mA f)
 | .Aq lo hi=>∃ t u v,h.get? a=some { cls:=.type "range",data:=.fields #[.int lo t,.int hi u,.int 1 v] }
 | .eT o u=>h.get? a=some o/\aQ H h a u
 | .Iu ps=>h.get? a=some { cls:=.none,data:=.fields ps }
 | .met f x=>h.get? a=some (adw (.ref f) (.ref x))
 | .ext φ=>φ h/\(∃ o,h.get? a=some o)/\∀ h1 h2:Heap,φ h1->(∀ o,h1.get? a=some o->h2.get? a=some o)->φ h2
def jz (H:Hp) (h:Heap):Prop:=∀ a o,H a=some o->aQ P w H h a o
end
section
variable {P:N_}{w:World}{H H':Hp}{h h':Heap}{a:Addr}{o:HO}
theorem aQ.lt (x:aQ P w H h a o):a<h.objs.size:=by
 cases o with
 | lst xs=>obtain⟨_,_,_,_,e⟩:=x;exact E_ e
 | tup xs=>obtain⟨_,_,_,p⟩:=x;exact p.lt
 | dK kvs=>obtain⟨_,_,_,_,o,_,_,e,_⟩:=x;exact E_ e
 | dT kvs=>obtain⟨_,_,_,_,o,_,_,e,_⟩:=x;exact E_ e
 | set S n=>obtain⟨o,_,_,_,e,_⟩:=x;exact E_ e
 | ins C dx fs=>obtain⟨_,_,_,e,_⟩:=x;exact E_ e
 | own y=>obtain⟨_,e⟩:=x;exact E_ e
 | xd fs=>obtain⟨_,⟨_,_,_,e,_⟩,_⟩:=x;exact E_ e
 | Aq lo hi=>obtain⟨_,_,_,e⟩:=x;exact E_ e
 | eT ob u=>obtain⟨e,_⟩:=x;exact E_ e
 | Iu ps=>exact E_ (show h.get? a=some _ from x)
 | met f y=>exact E_ (show h.get? a=some _ from x)
 | ext φ=>obtain⟨_,⟨_,e⟩,_⟩:=x;exact E_ e
theorem ad1.Ma {α β:Type}{F G:α->β->Prop}:∀ {l₁:List α}{l₂:List β},ad1 F l₁ l₂->(∀ a b,F a b->G a b)->ad1 G l₁ l₂
 | _,_,.nil,_=>.nil
 | _,_,.cons r t,f=>.cons (f _ _ r) (ad1.Ma t f)
theorem aQ.eU (x:aQ P w H h a o) (k:∀ b u,(b=a∨H b=some (.own a))->h.get? b=some u->h'.get? b=some u)
  (ho:∀ b,H b=some (.own a)->H' b=some (.own a)) (ht:∀ b xs,H b=some (.tup xs)->H' b=some (.tup xs)):aQ P w H' h' a o:=by
 induction o with
 | lst xs=>obtain⟨z,ai,n,r,e⟩:=x;exact⟨z,ai,n,r,k _ _ (.inl rfl) e⟩
 | tup xs=>obtain⟨z,ai,r,ob,e,c⟩:=x;exact⟨z,ai,r,ob,k _ _ (.inl rfl) e,c⟩
 | dK kvs=>obtain⟨z,y,vs,r,ob,es,ep,e,c⟩:=x;exact⟨z,y,vs,r,ob,es,ep,k _ _ (.inl rfl) e,c⟩
 | dT kvs =>
  obtain⟨z,y,xs,r,ob,es,ep,e,c⟩:=x;exact⟨z,y,xs,ad1.Ma r fun p q z=>⟨z.1,ht _ _ z.2.1,z.2.2⟩,ob,es,ep,k _ _ (.inl rfl) e,c⟩
 | set S n=>obtain⟨ob,es,ep,t,e,c⟩:=x;exact⟨ob,es,ep,t,k _ _ (.inl rfl) e,c⟩
 | ins C dx fs =>
  obtain⟨d,z,ne,e,mA,⟨od,es,ep,e2,c⟩,r⟩:=x;exact⟨ho _ d,z,ne,k _ _ (.inl rfl) e,mA,⟨od,es,ep,k _ _ (.inr d) e2,c⟩,r⟩
 | own y=>obtain⟨ob,e⟩:=x;exact⟨ob,k _ _ (.inl rfl) e⟩
 | xd fs=>obtain⟨mA,⟨od,es,ep,e,c⟩,r⟩:=x;exact⟨mA,⟨od,es,ep,k _ _ (.inl rfl) e,c⟩,r⟩
 | Aq lo hi=>obtain⟨t,u,v,e⟩:=x;exact⟨t,u,v,k _ _ (.inl rfl) e⟩
 | eT ob u ih=>obtain⟨e,q⟩:=x;exact⟨k _ _ (.inl rfl) e,ih q⟩
 | Iu ps =>
  have e:h.get? a=some { cls:=.none,data:=.fields ps }:=x;show h'.get? a=some { cls:=.none,data:=.fields ps };exact k a _ (.inl rfl) e
 | met f y =>
  have e:h.get? a=some (adw (.ref f) (.ref y)):=x;show h'.get? a=some (adw (.ref f) (.ref y));exact k a _ (.inl rfl) e
 | ext φ=>obtain⟨p,⟨o,e⟩,st⟩:=x;exact⟨st _ _ p fun o q=>k _ _ (.inl rfl) q,⟨o,k _ _ (.inl rfl) e⟩,st⟩
theorem jz.lt (x:jz P w H h) (e:H a=some o):a<h.objs.size:=(x a o e).lt
def jz.fresh (x:jz P w H h) (e:h.objs.size<=a):H a=none:=by
 cases q:H a with
 | none=>rfl
 | some u=>exact absurd (I_ (x.lt q) e) (ZK _)
def jz.kept (x:jz P w H h) (k:∀ b u,h.get? b=some u->h'.get? b=some u):jz P w H h':=fun a o e =>
 (x a o e).eU (fun b u _ q=>k b u q) (fun _ q=>q) fun _ _ q=>q
def jz.laid (x:jz P w H h) (k:∀ b u,h.get? b=some u->h'.get? b=some u) (hp:h.objs.size<=a) (new:aQ P w (upd H a o) h' a o):jz P w (upd H a o) h':=fun b u e=>by
 have hn:=x.fresh hp;by_cases hb:b=a
 ·subst hb;rw[au] at e;cases e;exact new
 ·rw[av hb] at e;exact (x b u e).eU (fun c v _ q=>k c v q) (fun c q=>by rw[av (aB q hn)];exact q) fun c xs q=>by rw[av (aB q hn)];exact q
end
def Rd (H:Hp) (a:Addr) (u:HO):Prop:=H a=some u∨∃ o,H a=some (.eT o u)
def Rd.ok {P:N_}{w:World}{H:Hp}{h:Heap}{a:Addr}{u:HO} (r:Rd H a u) (x:jz P w H h):aQ P w H h a u:=by
 rcases r with r | ⟨o,r⟩
 ·exact x a u r
 ·obtain⟨_,q⟩:=x a _ r;exact q
def Mb:m_ HO->Prop
 | some (.lst _)=>True
 | some (.dK _)=>True
 | some (.dT _)=>True
 | some (.set _ _)=>True
 | some (.ins _ _ _)=>True
 | some (.ext _)=>True
 | _=>False
section
variable {P:N_}{w:World}{H:Hp}{h h':Heap}{x e:Addr}{o':HO}
def jz.write (ok:jz P w H h) (mu:Mb (H x)) (he:e=x∨H e=some (.own x)) (k:∀ b u,b≠e->h.get? b=some u->h'.get? b=some u) (LH:∃ u,h'.get? e=some u)
  (new:aQ P w (upd H x o') h' x o'):jz P w (upd H x o') h':=fun b u q=>by
 have Me:∀ c y,H c=some (.own y)->c≠x:=fun c y r z=>by subst z;rw[r] at mu;exact mu
 have Rm:∀ c xs,H c=some (.tup xs)->c≠x:=fun c xs r z=>by subst z;rw[r] at mu;exact mu
 by_cases hb:b=x
 ·subst hb;rw[au] at q;cases q;exact new
 ·rw[av hb] at q;by_cases Iw:b=e
  ·have q':H b=some (.own x):=by
    rcases he with z | z
    ·exact absurd (Iw.trans z) hb
    ·rw[Iw];exact z
   rw[q] at q';cases q';obtain⟨v,hv⟩:=LH;exact⟨v,by rw[Iw];exact hv⟩
  ·refine (ok b u q).eU (fun c v hc r=>k c v ?_ r) (fun c r=>by rw[av (Me c b r)];exact r) fun c xs r=>by rw[av (Rm c xs r)];exact r
   rcases hc with rfl | hc
   ·exact Iw
   ·rintro rfl;rcases he with z | z
    ·exact Me c b hc z
    ·rw[hc] at z;cases z;exact hb rfl
end
structure Un (fs ex:List Addr) (H H':Hp) (h h':Heap):Prop where
 keep:∀ b o,h.get? b=some o->H b=none->b∉fs->b∉ex->h'.get? b=some o
 slot:∀ b o,h.get? b=some o->H b=none->b∈fs->b∉ex->∃ sl,h'.get? b=some { o with slots:=sl }
 free:∀ b o,h.get? b=some o->H b=none->b∉ex->H' b=none
 there:∀ b o,h.get? b=some o->b∉ex->∃ o',h'.get? b=some o'
 qJ:∀ b xs,H b=some (.tup xs)->H' b=some (.tup xs)
 oG:∀ b o u,H b=some (.eT o u)->H' b=some (.eT o u)
 tI:∀ b ps,H b=some (.Iu ps)->∃ more,H' b=some (.Iu (ps++more))
section
variable {fs fR ex YV:List Addr}{H H1 H2:Hp}{h h1 h2 h':Heap}{a x e:Addr}{o:HO}
def Un.any (u:Un fs ex H H1 h h1) {b:Addr}{ob:Obj} (q:h.get? b=some ob) (n:H b=none) (hx:b∉ex):∃ sl,h1.get? b=some { ob with slots:=sl }:=by
 by_cases hb:b∈fs
 ·exact u.slot b ob q n hb hx
 ·exact⟨ob.slots,u.keep b ob q n hb hx⟩
def Un.kept (k:∀ b u,h.get? b=some u->h'.get? b=some u):Un fs ex H H h h' :=
 ⟨fun b ob q _ _ _=>k b ob q,fun b ob q _ _ _=>⟨ob.slots,k b ob q⟩,fun _ _ _ n _=>n,fun b ob q _=>⟨ob,k b ob q⟩,fun _ _ q=>q,fun _ _ _ q=>q,fun _ ps q=>⟨#[],by rw[q];simp⟩⟩
def Un.refl:Un fs ex H H h h:=Un.kept fun _ _ q=>q
def Un.laid (k:∀ b u,h.get? b=some u->h'.get? b=some u) (hp:h.objs.size<=a) (hn:H a=none):Un fs ex H (upd H a o) h h' where
 keep:=fun b u q _ _ _=>k b u q
 slot:=fun b u q _ _ _=>⟨u.slots,k b u q⟩
 free:=fun b u q n _=>by rw[av (Q_ (I_ (E_ q) hp))];exact n
 there:=fun b u q _=>⟨u,k b u q⟩
 qJ:=fun b xs q=>by rw[av (aB q hn)];exact q
 oG:=fun b u xs q=>by rw[av (aB q hn)];exact q
 tI:=fun b ps q=>⟨#[],by rw[av (aB q hn),q];simp⟩
def Un.write (mu:Mb (H x)) (he:e=x∨H e=some (.own x)) (k:∀ b u,b≠e->h.get? b=some u->h'.get? b=some u) (LH:∃ u,h'.get? e=some u):Un fs ex H (upd H x o) h h':=by
 have hx:∀ b,H b=none->b≠x:=fun b n z=>by subst z;rw[n] at mu;exact mu
 have hb:∀ b,H b=none->b≠e:=fun b n z=>by
  subst z;rcases he with r | r
  ·exact hx b n r
  ·rw[n] at r;cases r
 have hm:∀ b u,H b=some u->¬ Mb (some u)->b≠x:=fun b u q nm z=>by subst z;rw[q] at mu;exact nm mu
 refine⟨fun b u q n _ _=>k b u (hb b n) q,fun b u q n _ _=>⟨u.slots,k b u (hb b n) q⟩,fun b u q n _=>by rw[av (hx b n)];exact n,fun b u q _=>?_,
  fun b xs q=>by rw[av (hm b _ q fun z=>z)];exact q,fun b u xs q=>by rw[av (hm b _ q fun z=>z)];exact q,fun b ps q=>⟨#[],by rw[av (hm b _ q fun z=>z),q];simp⟩⟩
 by_cases Iw:b=e
 ·subst Iw;exact LH
 ·exact⟨u,k b u Iw q⟩
end
noncomputable def Qu (h:Heap) (H:Hp):List Addr:=(Zo h.objs.size).filter fun a=>(H a).isSome
noncomputable def tJ (h:Heap) (H:Hp):Heap:=PySem.W.hideAll h (Qu h H)
def Ar (h:Heap) (H:Hp):(tJ h H).objs.size=h.objs.size:=PySem.W.hideAll_size _ _
def BO {h:Heap}{H:Hp}{b:Addr}{o:Obj} (e:h.get? b=some o) (n:H b=none):(tJ h H).get? b=some o :=
 PySem.W.hideAll_get _ e fun hm=>by
  have q:(H b).isSome=true:=(Z5.mp hm).2;rw[n] at q;simp at q
def EL {h:Heap}{H:Hp}{b:Addr}{o:Obj} (e:(tJ h H).get? b=some o):h.get? b=some o/\H b=none:=by
 have e':h.get? b=some o:=PySem.W.of_hideAll (Qu h H) e;refine⟨e',?_⟩
 cases q:H b with
 | none=>rfl
 | some x =>
  have hm:b∈Qu h H:=Z5.mpr ⟨Zv.mpr (E_ e'),by simp [q]⟩;have z:(tJ h H).get? b=none:=PySem.W.hideAll_none (Qu h H) hm;rw[z] at e;cases e
noncomputable def EM (g h:Heap) (L:Addr):List (Addr×Obj):=(Zo h.objs.size).filterMap fun a=>if a=L∨(g.get? a).isSome=true then none else (h.get? a).map fun o=>(a,o)
noncomputable def rest (g h:Heap) (L d:Addr):List (Addr×Obj):=(EM g h L).filter fun p=>decide (p.1≠d)
structure Mod (K:e_) (mg:Str->m_ Value) (base:Heap):Prop where
 Iy:K.In base
 glob:base.Ns mainGlobals mg
 blt:∃ mb,base.Ns ad2 mb/\∀ x:Str,x ≠ "__name__" ->mb x=aag x
 nolimit:base.NoLimit
structure Cx where
 prog:N_
 w:World
 K:e_
 mg:Str->m_ Value
 base:Heap
 A:ZN
 N:List Str
 s₀:j_
 H₀:Hp
 env:Env
 outer:List Env
 stack:List Env
 ex:List Addr
 fn:Str->Bool
 calm:Bool
 pn:List (Addr×Obj)
 xe:Value->j_->Prop
noncomputable def u7 (l:List Env):List Addr:=l.filterMap (·.frame)
noncomputable abbrev Cx.fs (X:Cx):List Addr:=u7 X.outer
def BM (sc:Scope) (x:Str):Prop:=sc.names.lookup x=some .local∨sc.names.lookup x=some .cell∨sc.names.lookup x=some .free
def Loc (sc:Scope) (x:Str):Prop:=sc.names.lookup x=some .local∨sc.names.lookup x=some .cell
def Look (env:Env) (h:Heap) (m:Str->m_ Value) (x:Str) (u:Value):Prop :=
 (env.kindOf x=some .local/\m x=some u)∨((env.kindOf x=some .cell∨env.kindOf x=some .free)/\∃ c,env.cells.lookup x=some c/\h.IsCell c (some u))
structure Cx.Ok (X:Cx):Prop where
 mod:Mod X.K X.mg X.base
 kind:X.env.scope.kind=.function
 glob:X.env.globals=mainGlobals
 blt:X.env.builtins=ad2
 above:X.s₀.heap.objs.size<=X.env.locals
 inj:∀ x y c,X.env.cells.lookup x=some c->X.env.cells.lookup y=some c->x=y
 has:∀ x,(X.env.kindOf x=some .cell∨X.env.kindOf x=some .free)->∃ c,X.env.cells.lookup x=some c
 cab:∀ x c,X.fn x=true->X.env.cells.lookup x=some c->X.s₀.heap.objs.size<=c
 hd:X.calm=true->X.A.handled=none
 frames:X.A.frames=some X.stack
 LI:X.stack=X.outer∨(X.stack=X.env::X.outer/\X.env.frame=some X.env.locals)
 Qv:∀ b∈X.ex,b≠X.env.locals/\∀ x c,X.env.cells.lookup x=some c->c≠b
 bs:∀ b o,X.base.get? b=some o->X.s₀.heap.get? b=some o/\X.H₀ b=none
 BP:X.base.objs.size<=X.s₀.heap.objs.size
 xK:∀ b o,X.base.get? b=some o->b∉X.ex
 As:∀ b∈X.ex,b∉X.fs
 jI:X.s₀.heap.FunFrames X.base X.outer
 EN:∀ b∈X.fs,X.H₀ b=none
structure Inv (X:Cx) (pins:List (Addr×Obj)) (σ:List (m_ V)) (H:Hp) (s:j_):Prop where
 ok:X.Ok
 os:s.os=X.s₀.os
 bare:ada s.gens
 base:Un X.fs X.ex X.H₀ H X.s₀.heap s.heap
 loc:∃ m,s.heap.Ns X.env.locals m/\∀ (i:Nat) (x:Str) (v:V),X.N[i]? = some x->σ[i]? = some (some v)->BM X.env.scope x->∃ u,RelV v u/\Look X.env s.heap m x u
 cell:∀ x c,X.env.cells.lookup x=some c->∃ v,s.heap.IsCell c v
 free:H X.env.locals=none
 iu:∀ x c,X.env.cells.lookup x=some c->H c=none
 pin:∀ p∈X.pn++pins,s.heap.get? p.1=some p.2/\H p.1=none/\p.1≠X.env.locals/\p.1∉X.fs/\∀ v,p.2.data≠.cell v
 aW:jz X.prog X.w H s.heap
 len:σ.length=X.N.length
section
variable {X:Cx}{pins:List (Addr×Obj)}{σ:List (m_ V)}{H H':Hp}{s:j_}{h':Heap}
def Cx.Ok.Rn (ok:X.Ok) {b:Addr}{o:Obj} (e:X.base.get? b=some o):b∉X.fs:=fun hb=>by
 have:=(ok.jI.mem hb).1;rw[e] at this;cases this
theorem Inv.bs (I:Inv X pins σ H s):∀ b o,X.base.get? b=some o->s.heap.get? b=some o/\H b=none:=fun b o e =>
 ⟨I.base.keep b o (I.ok.bs b o e).1 (I.ok.bs b o e).2 (I.ok.Rn e) (I.ok.xK b o e),I.base.free b o (I.ok.bs b o e).1 (I.ok.bs b o e).2 (I.ok.xK b o e)⟩
def Inv.bk (I:Inv X pins σ H s):∀ b o,X.base.get? b=some o->s.heap.get? b=some o:=fun b o e=>(I.bs b o e).1
theorem Inv.mod (I:Inv X pins σ H s):Mod X.K X.mg X.base:=I.ok.mod
def Inv.kK (I:Inv X pins σ H s):X.K.In s.heap:=I.ok.mod.Iy.keeps I.bk
theorem Inv.lt (I:Inv X pins σ H s):X.env.locals<s.heap.objs.size:=let ⟨_,hn,_⟩:=I.loc;hn.lt
def Inv.sz (I:Inv X pins σ H s):X.s₀.heap.objs.size<=s.heap.objs.size:=R_ I.ok.above (Z8 I.lt)
def Inv.Ro (I:Inv X pins σ H s) {a:Addr} (h:s.heap.objs.size<=a):a∉X.fs:=fun hb=>by
 obtain⟨_,o,ho,_⟩:=I.ok.jI.mem hb;exact absurd (I_ (E_ ho) (R_ I.sz h)) (ZK _)
def Inv.Iz (I:Inv X pins σ H s):∀ x c,X.env.cells.lookup x=some c->c≠X.env.locals:=fun x c e z=>by
 obtain⟨v,o,ho,hd⟩:=I.cell x c e;obtain⟨m,⟨o',es,ep,l5,qK,_⟩,_⟩:=I.loc;rw[z,l5] at ho;cases ho;rw[qK] at hd;cases hd
theorem Inv.jI (I:Inv X pins σ H s):s.heap.FunFrames X.base X.outer:=by
 have all:∀ (l:List Env),(∀ b∈u7 l,b∈X.fs)->X.s₀.heap.FunFrames X.base l->s.heap.FunFrames X.base l:=by
  intro l
  induction l with
  | nil=>intro _ _;trivial
  | cons env r ih =>
   intro hs hl;obtain⟨hk,⟨L,o,hf,hn,ho,hd⟩,hr⟩:=hl;have hL:L∈X.fs:=hs L (by unfold u7;rw[Zw,hf];exact W_);obtain⟨sl,e⟩:=I.base.slot L o ho (I.ok.EN L hL) hL fun z=>I.ok.As L z hL
   exact⟨hk,⟨L,_,hf,hn,e,hd⟩,ih (fun b hb=>hs b (by unfold u7;rw[Zw,hf];exact J_ _ hb)) hr⟩
 exact all X.outer (fun _ hb=>hb) I.ok.jI
theorem Inv.stack (I:Inv X pins σ H s):s.heap.FunFrames X.base X.stack:=by
 rcases I.ok.LI with e | ⟨e,hf⟩
 ·rw[e];exact I.jI
 ·rw[e];obtain⟨m,hn,_⟩:=I.loc;refine .cons (by rw[I.ok.kind];decide) hf hn ?_ I.jI;exact Heap.get?_none_of_le (R_ I.ok.BP I.ok.above)
def Inv.oH (I:Inv X pins σ H s):∀ b∈u7 X.stack,b∈X.env.locals::X.fs:=fun b hb=>by
 rcases I.ok.LI with e | ⟨e,hf⟩
 ·rw[e] at hb;exact J_ _ hb
 ·rw[e] at hb;unfold u7 at hb;rw[Zw,hf] at hb;exact hb
def Inv.zi (I:Inv X pins σ H s):∀ b∈u7 X.stack,H b=none:=fun b hb=>by
 rcases C_.mp (I.oH b hb) with e | hb
 ·rw[e];exact I.free
 ·obtain⟨_,o,ho,_⟩:=I.ok.jI.mem hb;exact I.base.free b o ho (I.ok.EN b hb) fun z=>I.ok.As b z hb
def Inv.step {g':Array GenState}{t':Nat}{d':Drawn}{ch:List Addr} (I:Inv X pins σ H s)
  (u9:∀ b∈ch,(b∈X.ex∨X.s₀.heap.objs.size<=b)/\b≠X.env.locals/\(∀ x c,X.env.cells.lookup x=some c->c≠b)/\∀ p∈X.pn++pins,p.1≠b)
  (keep:∀ b o,b≠X.env.locals->b∉X.fs->b∉ch->s.heap.get? b=some o->H b=none->h'.get? b=some o)
  (slot:∀ b o,b≠X.env.locals->b∈X.fs->b∉ch->s.heap.get? b=some o->H b=none->∃ sl,h'.get? b=some { o with slots:=sl }) (free:∀ b o,b∉ch->s.heap.get? b=some o->H b=none->H' b=none)
  (there:∀ b o,b∉ch->s.heap.get? b=some o->∃ o',h'.get? b=some o')
  (qJ:∀ b xs,H b=some (.tup xs)->H' b=some (.tup xs)) (oG:∀ b o u,H b=some (.eT o u)->H' b=some (.eT o u)) (tI:∀ b ps,H b=some (.Iu ps)->∃ more,H' b=some (.Iu (ps++more)))
  (ns:∀ m,s.heap.Ns X.env.locals m->h'.Ns X.env.locals m) (aW:jz X.prog X.w H' h') (hg:ada g') :
  Inv X pins σ H' { s with heap:=h',gens:=g',drawn:=d',toks:=t' }:=by
 have UN:∀ b o,X.s₀.heap.get? b=some o->b≠X.env.locals:=fun b o e=>Q_ (I_ (E_ e) I.ok.above)
 have Qw:∀ b o,X.s₀.heap.get? b=some o->b∉X.ex->b∉ch:=fun b o e hx hb=>by
  rcases (u9 b hb).1 with z | z
  ·exact hx z
  ·exact absurd (I_ (E_ e) z) (ZK _)
 have cellK:∀ x c,X.env.cells.lookup x=some c->∀ v,s.heap.IsCell c v->h'.IsCell c v:=fun x c e v ⟨o,ho,hd⟩=>by
  have Mf:c∉ch:=fun z=>(u9 c z).2.2.1 x c e rfl
  by_cases hc:c∈X.fs
  ·obtain⟨sl,q⟩:=slot c o (I.Iz x c e) hc Mf ho (I.iu x c e);exact⟨_,q,hd⟩
  ·exact⟨o,keep c o (I.Iz x c e) hc Mf ho (I.iu x c e),hd⟩
 refine⟨I.ok,I.os,hg,⟨fun b o e n hb hx=>?_,fun b o e n hb hx=>?_,fun b o e n hx=>?_,fun b o e hx=>?_,fun b xs e=>qJ b xs (I.base.qJ b xs e),fun b o xs e=>oG b o xs (I.base.oG b o xs e),fun b ps e=>?_⟩,?_,fun x c e=>?_,?_,fun x c e=>?_,fun p hp=>?_,aW,I.len⟩
 ·exact keep b o (UN b o e) hb (Qw b o e hx) (I.base.keep b o e n hb hx) (I.base.free b o e n hx)
 ·obtain⟨sl,e1⟩:=I.base.slot b o e n hb hx;obtain⟨Wd,e2⟩:=slot b _ (UN b o e) hb (Qw b o e hx) e1 (I.base.free b o e n hx);exact⟨Wd,e2⟩
 ·obtain⟨o',e1⟩:=I.base.there b o e hx;exact free b o' (Qw b o e hx) e1 (I.base.free b o e n hx)
 ·obtain⟨o',e1⟩:=I.base.there b o e hx;exact there b o' (Qw b o e hx) e1
 ·obtain⟨m1,e1⟩:=I.base.tI b ps e;obtain⟨m2,e2⟩:=tI b _ e1;exact⟨m1++m2,by rw[e2,Array.append_assoc]⟩
 ·obtain⟨m,hn,hl⟩:=I.loc;refine⟨m,ns m hn,fun i x v e1 e2 e3=>?_⟩;obtain⟨u,r,l⟩:=hl i x v e1 e2 e3;refine⟨u,r,?_⟩;rcases l with l | ⟨k,c,e,z⟩
  ·exact .inl l
  ·exact .inr ⟨k,c,e,cellK x c e _ z⟩
 ·obtain⟨v,z⟩:=I.cell x c e;exact⟨v,cellK x c e v z⟩
 ·obtain⟨m,⟨o,_,_,ho,_⟩,_⟩:=I.loc;exact free _ o (fun z=>(u9 _ z).2.1 rfl) ho I.free
 ·obtain⟨v,o,ho,hd⟩:=I.cell x c e;exact free c o (fun z=>(u9 c z).2.2.1 x c e rfl) ho (I.iu x c e)
 ·obtain⟨e,n,ne,nf,d⟩:=I.pin p hp;have Mf:p.1∉ch:=fun z=>(u9 p.1 z).2.2.2 p hp rfl
  exact⟨keep p.1 p.2 ne nf Mf e n,free p.1 p.2 Mf e n,ne,nf,d⟩
def Inv.un {t':Nat} (I:Inv X pins σ H s) (u:Un X.fs [] H H' s.heap h') (aW:jz X.prog X.w H' h'):Inv X pins σ H' { s with heap:=h',toks:=t' }:=by
 obtain⟨m,⟨o,es,ep,ho,r⟩,_⟩:=id I.loc;obtain⟨sl,hL⟩:=u.any ho I.free (3)
 exact I.step (g':=s.gens) (d':=s.drawn) (ch:=[]) (fun _ z=>nomatch z) (fun b o _ hb _ e n=>u.keep b o e n hb (3)) (fun b o _ hb _ e n=>u.slot b o e n hb (3)) (fun b o _ e n=>u.free b o e n (3)) (fun b o _ e=>u.there b o e (3)) u.qJ u.oG u.tI (fun m' hm=>by
  obtain⟨o',Rp,Rq,l5,r'⟩:=hm;rw[ho] at l5;cases l5;exact⟨_,Rp,Rq,hL,r'⟩) aW I.bare
def Inv.call {g':Array GenState}{t':Nat}{d':Drawn}{ch:List Addr} (I:Inv X pins σ H s) (u:Un (u7 X.stack) ch H H' s.heap h') (aW:jz X.prog X.w H' h') (hg:ada g')
  (u9:∀ b∈ch,(b∈X.ex∨X.s₀.heap.objs.size<=b)/\b≠X.env.locals/\(∀ x c,X.env.cells.lookup x=some c->c≠b)/\∀ p∈X.pn++pins,p.1≠b) :
  Inv X pins σ H' { s with heap:=h',gens:=g',drawn:=d',toks:=t' }:=by
 obtain⟨m,⟨o,es,ep,ho,r⟩,_⟩:=id I.loc;obtain⟨sl,hL⟩:=u.any ho I.free fun z=>(u9 _ z).2.1 rfl
 exact I.step (ch:=ch) u9 (fun b o hL hb hc e n=>u.keep b o e n (fun z=>(C_.mp (I.oH b z)).elim hL hb) hc) (fun b o _ _ hc e n=>u.any e n hc) (fun b o hc e n=>u.free b o e n hc) (fun b o hc e=>u.there b o e hc) u.qJ u.oG u.tI (fun m' hm=>by
  obtain⟨o',Rp,Rq,l5,r'⟩:=hm;rw[ho] at l5;cases l5;exact⟨_,Rp,Rq,hL,r'⟩) aW hg
def Inv.turned {t':Nat}{it:Addr} (I:Inv X pins σ H s) (k:∀ b o,b≠it->s.heap.get? b=some o->h'.get? b=some o) (hn:H it=none) (hL:it≠X.env.locals)
  (h1:it∈X.ex∨X.s₀.heap.objs.size<=it) (h2:∀ x c,X.env.cells.lookup x=some c->c≠it) (h3:∀ p∈X.pn++pins,p.1≠it):Inv X pins σ H { s with heap:=h',toks:=t' }:=by
 have GX:∀ b u,H b=some u->b≠it:=fun b u e z=>by rw[z,hn] at e;cases e
 refine I.step (g':=s.gens) (d':=s.drawn) (ch:=[it]) (fun b hb=>?_) (fun b o _ _ hc e _=>k b o (fun z=>hc (by simp [z])) e) (fun b o _ _ hc e _=>⟨o.slots,k b o (fun z=>hc (by simp [z])) e⟩) (fun _ _ _ _ n=>n)
  (fun b o hc e=>⟨o,k b o (fun z=>hc (by simp [z])) e⟩) (fun _ _ e=>e) (fun _ _ _ e=>e) (fun b ps e=>⟨#[],by rw[e];simp⟩) (fun m hm=>?_) (fun b u e=>?_) I.bare
 ·have e:b=it:=by simpa using hb
  subst e;exact⟨h1,hL,h2,h3⟩
 ·obtain⟨o,es,ep,ho,r⟩:=hm;exact⟨o,es,ep,k _ o (ZM hL) ho,r⟩
 ·refine (I.aW b u e).eU (fun c v hc q=>k c v ?_ q) (fun _ q=>q) fun _ _ q=>q
  rcases hc with z | z
  ·rw[z];exact GX b u e
  ·exact GX c _ z
def Inv.tok (I:Inv X pins σ H s) (t:Nat):Inv X pins σ H { s with toks:=t }:=I.un (h':=s.heap) (t':=t) Un.refl I.aW
theorem Inv.kept {t':Nat} (I:Inv X pins σ H s) (k:∀ b u,s.heap.get? b=some u->h'.get? b=some u):Inv X pins σ H { s with heap:=h',toks:=t' }:=I.un (Un.kept k) (I.aW.kept k)
theorem Inv.laid {a:Addr}{o:HO}{t':Nat} (I:Inv X pins σ H s) (k:∀ b u,s.heap.get? b=some u->h'.get? b=some u) (hp:s.heap.objs.size<=a) (new:aQ X.prog X.w (upd H a o) h' a o) :
  Inv X pins σ (upd H a o) { s with heap:=h',toks:=t' }:=I.un (Un.laid k hp (I.aW.fresh hp)) (I.aW.laid k hp new)
theorem Inv.write {x e:Addr}{o:HO}{t':Nat} (I:Inv X pins σ H s) (mu:Mb (H x)) (he:e=x∨H e=some (.own x)) (k:∀ b u,b≠e->s.heap.get? b=some u->h'.get? b=some u) (LH:∃ u,h'.get? e=some u)
  (new:aQ X.prog X.w (upd H x o) h' x o):Inv X pins σ (upd H x o) { s with heap:=h',toks:=t' }:=I.un (Un.write mu he k LH) (I.aW.write mu he k LH new)
def Inv.jA {pins':List (Addr×Obj)} (I:Inv X pins σ H s) (h:∀ p∈pins',s.heap.get? p.1=some p.2/\H p.1=none/\p.1≠X.env.locals/\p.1∉X.fs/\∀ v,p.2.data≠.cell v):Inv X pins' σ H s :=
 ⟨I.ok,I.os,I.bare,I.base,I.loc,I.cell,I.free,I.iu,fun p hp=>(U_.mp hp).elim (fun z=>I.pin p (abY _ z)) (h p),I.aW,I.len⟩
def vf {N:List Str} (hN:N.Nodup) {i j:Nat}{x:Str} (a:N[i]? = some x) (b:N[j]? = some x):i=j:=by
 obtain⟨h1,e1⟩:=i_.mp a;obtain⟨h2,e2⟩:=i_.mp b;exact (List.getElem_inj hN).mp (e1.trans e2.symm)
def Au {M:Model}{A:ZN}{E:Value->j_->Prop}{i:Nat}{x:Str}{v:V}{u:Value}{Q:Unit->j_->Prop} (I:Inv X pins σ H s) (hN:X.N.Nodup) (hi:X.N[i]? = some x) (hx:Loc X.env.scope x) (r:RelV v u)
  (h : ∀ s', Inv X pins (σ.set i (some v)) H s' ->(∃ a, aaT a s.heap s'.heap /\ (a = X.env.locals ∨ X.env.cells.lookup x = some a)) ->Q () s') (hf : X.fn x = true ∨ X.env.scope.names.lookup x = some .local := by first | exact .inl rfl | exact .inr rfl | assumption) : wpAny M A (storeName X.env x u) Q E s := by
 obtain⟨m,hn,hl⟩:=id I.loc;have Rr:(X.env.scope.kind==.class||(X.env.scope.kind==.module&&X.env.locals != X.env.globals))=false:=by rw[I.ok.kind];rfl
 have UO:i<σ.length:=by rw[I.len];exact (i_.mp hi).1
 have Iz:=I.Iz
 have tracked:∀ {a:Addr}{h':Heap},(∃ o,s.heap.get? a=some o/\H a=none)->aaT a s.heap h'->jz X.prog X.w H h':=fun {a h'} ha hs b ob e=>by
  obtain⟨_,_,GY⟩:=ha;refine (I.aW b ob e).eU (fun c w' hc q=>(hs.2 c ?_).trans q) (fun _ q=>q) fun _ _ q=>q
  rintro rfl;rcases hc with rfl | hc
  ·rw[GY] at e;cases e
  ·rw[GY] at hc;cases hc
 rcases hx with hk | hk
 ·refine wpAny_storeName_local hk hn (fun h' Ey hs=>?_) Rr;obtain⟨oL,_,_,Wf,_⟩:=id hn;refine h _ ⟨I.ok,I.os,I.bare,⟨fun b o e n hb hx=>?_,fun b o e n hb hx=>?_,I.base.free,fun b o e hx=>?_,I.base.qJ,I.base.oG,I.base.tI⟩,⟨_,Ey,fun j y v' e1 e2 e3=>?_⟩,fun y c e=>?_,I.free,I.iu,fun p hp=>?_,tracked ⟨oL,Wf,I.free⟩ hs,by simpa using I.len⟩ ⟨_,hs,.inl rfl⟩
  ·exact (hs.2 b (Q_ (I_ (E_ e) I.ok.above))).trans (I.base.keep b o e n hb hx)
  ·obtain⟨sl,e1⟩:=I.base.slot b o e n hb hx;exact⟨sl,(hs.2 b (Q_ (I_ (E_ e) I.ok.above))).trans e1⟩
  ·obtain⟨o',e1⟩:=I.base.there b o e hx;exact⟨o',(hs.2 b (Q_ (I_ (E_ e) I.ok.above))).trans e1⟩
  ·by_cases hj:j=i
   ·subst hj;rw[hi] at e1;cases e1;rw[aaU UO] at e2
    cases e2
    exact⟨u,r,.inl ⟨hk,(3)⟩⟩
   ·rw[abZ (ZM hj)] at e2;obtain⟨u',r',q⟩:=hl j y v' e1 e2 e3;refine⟨u',r',?_⟩;rcases q with ⟨k,e⟩ | ⟨k,c,e,z⟩
    ·refine .inl ⟨k,?_⟩;have:y≠x:=fun e=>hj (vf hN e1 (e▸hi))
     simp [this,e]
    ·exact .inr ⟨k,c,e,z.sameBut hs (Iz y c e)⟩
  ·obtain⟨w',z⟩:=I.cell y c e;exact⟨w',z.sameBut hs (Iz y c e)⟩
  ·obtain⟨e,n,ne,nf,d⟩:=I.pin p hp;exact⟨(hs.2 p.1 ne).trans e,n,ne,nf,d⟩
 ·have Ru:X.fn x=true:=by
   rcases hf with z | z
   ·exact z
   ·rw[z] at hk;cases hk
  obtain⟨c,hc⟩:=I.ok.has x (.inl hk);obtain⟨w',z⟩:=I.cell x c hc;refine wpAny_storeName_cell I.ok.kind hk hc z (fun h' IA hs=>?_);obtain⟨oc,LJ,Rv⟩:=id z;refine h { s with heap:=h' } ⟨I.ok,I.os,I.bare,⟨fun b o e n hb hx=>?_,fun b o e n hb hx=>?_,I.base.free,fun b o e hx=>?_,I.base.qJ,I.base.oG,I.base.tI⟩,⟨m,hn.sameBut hs (ZM (Iz x c hc)),fun j y v' e1 e2 e3=>?_⟩,fun y c' e=>?_,I.free,I.iu,fun p hp=>?_,tracked ⟨oc,LJ,I.iu x c hc⟩ hs,by simpa using I.len⟩ ⟨c,hs,.inr hc⟩
  ·exact (hs.2 b (Q_ (I_ (E_ e) (I.ok.cab x c Ru hc)))).trans (I.base.keep b o e n hb hx)
  ·obtain⟨sl,e1⟩:=I.base.slot b o e n hb hx;exact⟨sl,(hs.2 b (Q_ (I_ (E_ e) (I.ok.cab x c Ru hc)))).trans e1⟩
  ·obtain⟨o',e1⟩:=I.base.there b o e hx;exact⟨o',(hs.2 b (Q_ (I_ (E_ e) (I.ok.cab x c Ru hc)))).trans e1⟩
  ·by_cases hj:j=i
   ·subst hj;rw[hi] at e1;cases e1;rw[aaU UO] at e2
    cases e2
    exact⟨u,r,.inr ⟨.inl hk,c,hc,IA⟩⟩
   ·rw[abZ (ZM hj)] at e2;obtain⟨u',r',q⟩:=hl j y v' e1 e2 e3;refine⟨u',r',?_⟩;rcases q with q | ⟨k,c',e,z'⟩
    ·exact .inl q
    ·refine .inr ⟨k,c',e,z'.sameBut hs ?_⟩;rintro rfl;exact hj (vf hN e1 (I.ok.inj _ _ _ e hc▸hi))
  ·by_cases UP:c'=c
   ·subst UP;exact⟨_,IA⟩
   ·obtain⟨w2,z2⟩:=I.cell y c' e;exact⟨w2,z2.sameBut hs UP⟩
  ·obtain⟨e,n,ne,nf,d⟩:=I.pin p hp;refine⟨(hs.2 p.1 ?_).trans e,n,ne,nf,d⟩;intro q;rw[q,LJ] at e;have q':oc=p.2:=M_ e;exact d w' (by rw[<-q'];exact Rv)
def kN {M:Model}{A:ZN}{E:Value->j_->Prop}{i:Nat}{x:Str}{v:V}{u:Value}{Q:Unit->j_->Prop} (I:Inv X pins σ H s) (hN:X.N.Nodup) (hi:X.N[i]? = some x) (hx:Loc X.env.scope x) (r:RelV v u)
  (h : ∀ s', Inv X pins (σ.set i (some v)) H s' ->Q () s') (hf : X.fn x = true ∨ X.env.scope.names.lookup x = some .local := by first | exact .inl rfl | exact .inr rfl | assumption) : wpAny M A (storeName X.env x u) Q E s :=
 Au I hN hi hx r (fun s' I' _=>h s' I') hf
def Inv.Mg {s':j_}{ch:List Addr} (I:Inv X pins σ H s) (ho:s'.os=s.os) (u:Un (u7 X.stack) ch H H' s.heap s'.heap) (aW:jz X.prog X.w H' s'.heap) (hg:ada s'.gens)
  (u9:∀ b∈ch,(b∈X.ex∨X.s₀.heap.objs.size<=b)/\b≠X.env.locals/\(∀ x c,X.env.cells.lookup x=some c->c≠b)/\∀ p∈X.pn++pins,p.1≠b):Inv X pins σ H' s':=by
 obtain⟨h',g',d',t',o'⟩:=s';have e:o'=s.os:=ho;subst e;exact I.call (g':=g') (t':=t') (d':=d') u aW hg u9
end
noncomputable abbrev XK:=Value->m_ Addr->Hp->Prop
noncomputable abbrev St:=List (m_ V)
noncomputable abbrev VK:=V->Hp->Prop
noncomputable abbrev TE:=St->Hp->VK->Prop
noncomputable abbrev TT:=St->Hp->(Bool->Hp->Prop)->Prop
noncomputable abbrev TA:=St->Hp->(List V->Hp->Prop)->Prop
structure Ends where
 nx:St->Hp->Prop
 rt:VK
 bk:St->Hp->Prop:=fun _ _=>False
 ct:St->Hp->Prop:=fun _ _=>False
noncomputable abbrev TS:=Ends->St->Hp->Prop
def EP (X:Cx) (pins:List (Addr×Obj)) (σ:St) (Q:VK) (u:Value) (s':j_):Prop:=∃ v H',Inv X pins σ H' s'/\RelV v u/\Q v H'
def TP (X:Cx) (pins:List (Addr×Obj)) (σ:St) (Q:Bool->Hp->Prop) (b:Bool) (s':j_):Prop:=∃ H',Inv X pins σ H' s'/\Q b H'
def AP (X:Cx) (pins:List (Addr×Obj)) (σ:St) (Q:List V->Hp->Prop) (us:List Value) (s':j_):Prop:=∃ vs H',Inv X pins σ H' s'/\Vals vs us/\Q vs H'
def SP (X:Cx) (pins:List (Addr×Obj)) (D:Ends) (f:Flow) (s':j_):Prop :=
 match f with
 | .next=>∃ σ' H',Inv X pins σ' H' s'/\D.nx σ' H'
 | .brk=>∃ σ' H',Inv X pins σ' H' s'/\D.bk σ' H'
 | .cont=>∃ σ' H',Inv X pins σ' H' s'/\D.ct σ' H'
 | .ret u=>∃ v σ' H',Inv X pins σ' H' s'/\RelV v u/\D.rt v H'
def PE (X:Cx) (e:Expr) (t:TE):Prop :=
 ∀ (pins:List (Addr×Obj)) (s:j_) (σ:St) (H:Hp) (Q:VK),Inv X pins σ H s->t σ H Q->wpAny '0' X.A (eval e X.env) (EP X pins σ Q) X.xe s
def PT (X:Cx) (e:Expr) (t:TT):Prop :=
 ∀ (pins:List (Addr×Obj)) (s:j_) (σ:St) (H:Hp) (Q:Bool->Hp->Prop),Inv X pins σ H s->t σ H Q->wpAny '0' X.A (aex e X.env (eval e X.env)) (TP X pins σ Q) X.xe s
def PW (X:Cx) (e:Expr) (t:TT):Prop :=
 ∀ (whole:Sem Value) (pins:List (Addr×Obj)) (s:j_) (σ:St) (H:Hp) (Q:Bool->Hp->Prop),Inv X pins σ H s->t σ H Q->wpAny '0' X.A (aex e X.env whole) (TP X pins σ Q) X.xe s
def PW.pt {X:Cx}{e:Expr}{t:TT} (h:PW X e t):PT X e t:=h _
def PA (X:Cx) (es:List Expr) (t:TA):Prop :=
 ∀ (pos:Pos) (pins:List (Addr×Obj)) (s:j_) (σ:St) (H:Hp) (Q:List V->Hp->Prop),Inv X pins σ H s->t σ H Q->wpAny '0' X.A (spliced (aaV pos (S_ es X.env))) (AP X pins σ Q) X.xe s
def PS (X:Cx) (st:Stmt) (t:TS):Prop :=
 ∀ (pins:List (Addr×Obj)) (s:j_) (σ:St) (H:Hp) (D:Ends),Inv X pins σ H s->t D σ H->wpAny '0' X.A (exec st X.env) (SP X pins D) X.xe s
def kL (X:Cx) (st:List Stmt) (t:TS):Prop :=
 ∀ (pins:List (Addr×Obj)) (s:j_) (σ:St) (H:Hp) (D:Ends),Inv X pins σ H s->t D σ H->wpAny '0' X.A (execs st X.env) (SP X pins D) X.xe s
def aX {α:Type}{t:Sem α}{Q Q':α->j_->Prop}{M:Model}{A:ZN}{E:Value->j_->Prop}{s:j_} (h:wpAny M A t Q E s) (hQ:∀ a s,Q a s->Q' a s):wpAny M A t Q' E s:=aaj h hQ fun _ _ x=>x
section
variable {X:Cx}
def bin {a b:Expr}{ta tb:TE} (ha:PE X a ta) (hb:PE X b tb) {pins:List (Addr×Obj)}{s:j_}{σ:St}{H:Hp}{R:V->V->Hp->Prop} (I:Inv X pins σ H s) (h:ta σ H fun x H1=>tb σ H1 fun y H2=>R x y H2)
  {α:Type}{Q:α->j_->Prop}{f:Value->Value->Sem α}
  (hf:∀ v u s2 x y H2,Inv X pins σ H2 s2->RelV x v->RelV y u->R x y H2->wpAny '0' X.A (f v u) Q X.xe s2) :
  wpAny '0' X.A (eval a X.env) (fun v s₁=>wpAny '0' X.A (eval b X.env) (fun u s₂=>wpAny '0' X.A (f v u) Q X.xe s₂) X.xe s₁) X.xe s:=by
 refine aX (ha pins s σ H _ I h) fun v s1 ⟨x,H1,I1,r1,q1⟩=>?_
 refine aX (hb pins s1 σ H1 _ I1 q1) fun u s2 ⟨y,H2,I2,r2,q2⟩=>?_
 exact hf v u s2 x y H2 I2 r1 r2 q2
def Rx (i:Nat):TE:=fun σ H Q=>∃ v,σ[i]? = some (some v)/\Q v H
def tC (v:V):TE:=fun _ H Q=>Q v H
def l6 {i:Nat}{x:Str}{pos:Pos} (hN:X.N[i]? = some x) (hv:BM X.env.scope x) (hd:'2'=false:=by decide) (l7:(x==("__classdict__" : Str))=false:=by decide):PE X (.Name x pos) (Rx i):=by
 ext d;obtain⟨v,e,h⟩:=h;obtain⟨m,hn,hl⟩:=I.loc;obtain⟨u,r,l⟩:=hl i x v hN e hv;have fin:EP X pins σ Q u s:=⟨v,H,I,r,h⟩;rcases l with ⟨hk,hm⟩ | ⟨hk,c,hc,rR⟩
 ·exact wpAny_Name (aey I.ok.kind hk hn hm fin) hd
 ·rcases hk with hk | hk
  ·exact wpAny_Name (aeU I.ok.kind hk hc rR fin) hd
  ·exact wpAny_Name (wpAny_loadName_free I.ok.kind hk hc rR fin l7) hd
def IB {i j pos}:PE X (.Constant (.int i) j pos) (tC (.int i)):=fun _ _ _ H _ I h=>wpAny_Constant_int ⟨.int i,H,I.tok _,⟨_,rfl⟩,h⟩
def Mh {b j pos}:PE X (.Constant (.bool b) j pos) (tC (.bl b)):=fun _ _ _ H _ I h=>Constant_bool ⟨.bl b,H,I,rfl,h⟩
def IC {j pos}:PE X (.Constant .none j pos) (tC .az):=fun _ _ _ H _ I h=>Constant_none ⟨.az,H,I,rfl,h⟩
def IE {x j pos}:PE X (.Constant (.str x) j pos) (tC (.str x)):=fun _ _ _ H _ I h=>Calls.Constant_str ⟨.str x,H,I.tok _,⟨_,rfl⟩,h⟩
def Gl (X:Cx) (x:Str):Prop:=X.env.kindOf x=some .globalImplicit
def kP {E:Value->j_->Prop}{pins:List (Addr×Obj)}{s:j_}{σ:St}{H:Hp}{x:Str}{u:Value}{pos:Pos}{Q:Value->j_->Prop} (I:Inv X pins σ H s) (hg:Gl X x) (hm:X.mg x=some u) (h:Q u s)
  (hd:'2'=false:=by decide):wpAny '0' X.A (eval (.Name x pos) X.env) Q E s :=
 adh I.ok.kind hg (Calls.loadGlobal_global (by rw[I.ok.glob];exact I.mod.glob.keeps I.bk) hm h) hd
def eo {E:Value->j_->Prop}{pins:List (Addr×Obj)}{s:j_}{σ:St}{H:Hp}{x:Str}{u:Value}{pos:Pos}{Q:Value->j_->Prop} (I:Inv X pins σ H s) (hg:Gl X x) (hm:X.mg x=none) (hv:aag x=some u) (h:Q u s)
  (hn:x ≠ "__name__" := by decide) (hd:'2'=false:=by decide):wpAny '0' X.A (eval (.Name x pos) X.env) Q E s:=by
 obtain⟨mb,h1,h2⟩:=I.mod.blt;exact adh I.ok.kind hg (Calls.loadGlobal_builtin (by rw[I.ok.glob];exact I.mod.glob.keeps I.bk) hm (by rw[I.ok.blt];exact h1.keeps I.bk) ((h2 x hn).trans hv) h) hd
def EO {x:Str}{v:V}{u:Value}{pos:Pos} (hg:Gl X x) (hm:X.mg x=some u) (r:RelV v u) (hd:'2'=false:=by decide):PE X (.Name x pos) (tC v) :=
 fun _ _ _ H _ I h=>kP I hg hm ⟨v,H,I,r,h⟩ hd
def ER {x:Str}{v:V}{u:Value}{pos:Pos} (hg:Gl X x) (hm:X.mg x=none) (hv:aag x=some u) (r:RelV v u) (hn:x ≠ "__name__" := by decide) (hd:'2'=false:=by decide):PE X (.Name x pos) (tC v) :=
 fun _ _ _ H _ I h=>eo I hg hm hv ⟨v,H,I,r,h⟩ hn hd
variable {a b:Expr}{ta tb:TE}{pos:Pos}
def PC (X:Cx) (op:CmpOp) (a b:Expr) (t:TE):Prop :=
 ∀ (pins:List (Addr×Obj)) (s:j_) (σ:St) (H:Hp) (Q:VK),Inv X pins σ H s->t σ H Q ->
  wpAny '0' X.A (eval a X.env) (fun v s₁=>wpAny '0' X.A (eval b X.env) (fun u s₂=>wpAny '0' X.A (ZF op v u) (EP X pins σ Q) X.xe s₂) X.xe s₁) X.xe s
def vg (b:Expr) {op:CmpOp} (h:op≠.In) (h2:op≠.NotIn):aaf op b=false:=by
 have e1:(op==CmpOp.In)=false:=by cases op<;>first | rfl | exact absurd rfl h
 have e2:(op==CmpOp.NotIn)=false:=by cases op<;>first | rfl | exact absurd rfl h2
 cases b<;>simp [aaf,e1,e2]
def tB (t:TE):TT:=fun σ H Q=>t σ H fun x H1=>∃ c,x=.bl c/\Q c H1
def BQ {op:CmpOp}{t:TE} (h:PC X op a b t) (h1:aaf op b=false:=by first | exact vg _ (by decide) (by decide) | rfl):PE X (.Compare a [op] [b] pos) t:=fun pins s σ H Q I hw=>wpAny_Compare1 (h pins s σ H Q I hw) h1
def BR {op:CmpOp}{t:TE} (h:PC X op a b t) (h1:aaf op b=false:=by first | exact vg _ (by decide) (by decide) | rfl):PT X (.Compare a [op] [b] pos) (tB t):=by
 intro pins s σ H Q I hw;refine aeq (aX (h pins s σ H _ I hw) fun v s1 h1=>aX h1 fun u s2 h2=>aX h2 fun c s3 ⟨x,H1,I1,r1,q1⟩=>?_) h1;obtain⟨d,rfl,q⟩:=q1
 cases r1
 exact ZQ ⟨H1,I1,q⟩
def IF {e:Expr}{t:TE} (h:PE X e t) (he:∀ whole,aex e X.env whole=(do let v <-whole;aeQ e.pos;adx [v] (truthy v)):=by intro _;rfl):PT X e (tB t):=by
 intro pins s σ H Q I hw;refine isTrue_plain (aX (h pins s σ H _ I hw) fun v s1 ⟨x,H1,I1,r1,q1⟩=>?_) (he _);obtain⟨d,rfl,q⟩:=q1
 cases r1
 exact ZQ ⟨H1,I1,q⟩
variable {tA Qx:TT}{rest:List Expr}
def Ry (t u:TT):TT:=fun σ H Q=>t σ H fun c H1=>if c=true then u σ H1 Q else Q false H1
def Wg (t u:TT):TT:=fun σ H Q=>t σ H fun c H1=>if c=true then Q true H1 else u σ H1 Q
def Rz (t:TT):TT:=fun σ H Q=>t σ H fun c H1=>Q (!c) H1
def ES (ha:PT X a tA):PW X (.BoolOp .And [a] pos) tA:=by
 intro wh pins s σ H Q I h;refine isTrue_and (aX (ha pins s σ H Q I h) fun c s1 e=>?_)
 cases c with
 | true=>exact isTrue_and_nil e
 | false=>exact e
def IG (ha:PT X a tA):PW X (.BoolOp .Or [a] pos) tA:=by
 intro wh pins s σ H Q I h;refine isTrue_or (aX (ha pins s σ H Q I h) fun c s1 e=>?_)
 cases c with
 | false=>exact isTrue_or_nil e
 | true=>exact e
def IH (ha:PT X a tA) (hb:PW X (.BoolOp .And (b::rest) pos) Qx):PW X (.BoolOp .And (a::b::rest) pos) (Ry tA Qx):=by
 intro wh pins s σ H Q I h;refine isTrue_and (aX (ha pins s σ H _ I h) fun c s1 ⟨H1,I1,q1⟩=>?_)
 cases c with
 | true=>exact hb wh pins s1 σ H1 Q I1 q1
 | false=>exact⟨H1,I1,q1⟩
def Mi (ha:PT X a tA) (hb:PW X (.BoolOp .Or (b::rest) pos) Qx):PW X (.BoolOp .Or (a::b::rest) pos) (Wg tA Qx):=by
 intro wh pins s σ H Q I h;refine isTrue_or (aX (ha pins s σ H _ I h) fun c s1 ⟨H1,I1,q1⟩=>?_)
 cases c with
 | true=>exact⟨H1,I1,q1⟩
 | false=>exact hb wh pins s1 σ H1 Q I1 q1
def II (ha:PT X a tA):PT X (.UnaryOp .Not a pos) (Rz tA):=by
 ext d;exact isTrue_not (ha pins s σ H (fun c H1=>Q (!c) H1) I h)
def Mj (ta tb:TE):TE:=fun σ H Q=>ta σ H fun x H1=>∃ c,x=.bl c/\if c=true then tb σ H1 Q else Q (.bl false) H1
def RA (ta tb:TE):TE:=fun σ H Q=>ta σ H fun x H1=>∃ c,x=.bl c/\if c=true then Q (.bl true) H1 else tb σ H1 Q
def Ml (ta:TE):TE:=fun σ H Q=>ta σ H fun x H1=>∃ c,x=.bl c/\Q (.bl (!c)) H1
def IJ {op}{t:TE} (h:PE X a t):PE X (.BoolOp op [a] pos) t:=fun pins s σ H Q I hw=>BoolOp_one (h pins s σ H Q I hw)
def IK (ha:PE X a ta) (hb:PE X (.BoolOp .And (b::rest) pos) tb):PE X (.BoolOp .And (a::b::rest) pos) (Mj ta tb):=by
 ext d;refine BoolOp_and (aX (ha pins s σ H _ I h) fun v s1 ⟨x,H1,I1,r1,q1⟩=>?_);obtain⟨c,rfl,q1⟩:=q1
 cases r1
 refine ZQ ?_
 cases c with
 | true=>exact hb pins s1 σ H1 Q I1 q1
 | false=>exact⟨.bl false,H1,I1,rfl,q1⟩
def Mm (ha:PE X a ta) (hb:PE X (.BoolOp .Or (b::rest) pos) tb):PE X (.BoolOp .Or (a::b::rest) pos) (RA ta tb):=by
 ext d;refine BoolOp_or (aX (ha pins s σ H _ I h) fun v s1 ⟨x,H1,I1,r1,q1⟩=>?_);obtain⟨c,rfl,q1⟩:=q1
 cases r1
 refine ZQ ?_
 cases c with
 | false=>exact hb pins s1 σ H1 Q I1 q1
 | true=>exact⟨.bl true,H1,I1,rfl,q1⟩
def IL (ha:PE X a ta):PE X (.UnaryOp .Not a pos) (Ml ta):=by
 ext d;refine UnaryOp_ (aX (ha pins s σ H _ I h) fun v s1 ⟨x,H1,I1,r1,q1⟩=>?_);obtain⟨c,rfl,q1⟩:=q1
 cases r1
 exact not_of (ZQ ⟨.bl (!c),H1,I1,rfl,q1⟩)
def Wh (t:TT) (ta tb:TE):TE:=fun σ H Q=>t σ H fun c H1=>if c=true then ta σ H1 Q else tb σ H1 Q
def BS {c:Expr} (hc:PT X c tA) (ha:PE X a ta) (hb:PE X b tb):PE X (.IfExp c a b pos) (Wh tA ta tb):=by
 ext d;refine wpAny_IfExp (aX (hc pins s σ H _ I h) fun d s1 ⟨H1,I1,q1⟩=>?_)
 cases d with
 | true=>exact ha pins s1 σ H1 Q I1 q1
 | false=>exact hb pins s1 σ H1 Q I1 q1
end
def cE (K:e_) (H:Hp) (a:Addr) (xs:List V):Prop :=
 Rd H a (.lst xs) ∨
  ∃ (o:Obj) (ai:Array Value) (n:Nat),K.lookup a=some o/\o.cls=.type "list" /\ o.dict=none/\o.data=.seq ai n/\ai.size<=sizeLine/\Vals xs ai.toList
def eV (K:e_) (H:Hp) (a:Addr) (xs:List V):Prop :=
 Rd H a (.tup xs) ∨
  ∃ (o:Obj) (ai:Array Value) (n:Nat),K.lookup a=some o/\o.cls=.type "tuple" /\ o.data=.seq ai n/\ai.size<=sizeLine/\Vals xs ai.toList
noncomputable def RB:Value->m_ V
 | .none=>some .az
 | .bool b=>some (.bl b)
 | .int i _=>some (.int i)
 | .str x _=>some (.str x)
 | .bytes b _=>some (.zh b)
 | .float b _=>some (.Ir b)
 | .ref a=>some (.ref a)
 | .type n=>some (.ty n)
 | _=>none
def RelV.abs {x:V}{u:Value} (r:RelV x u):RB u=some x:=by
 cases x with
 | az=>cases r;rfl
 | bl _=>cases r;rfl
 | int _=>obtain⟨t,rfl⟩:=r;rfl
 | str _=>obtain⟨t,rfl⟩:=r;rfl
 | zh _=>obtain⟨t,rfl⟩:=r;rfl
 | Ir _=>obtain⟨t,rfl⟩:=r;rfl
 | ref _=>cases r;rfl
 | ty _=>cases r;rfl
def RelV.inj {x y:V}{u:Value} (r:RelV x u) (q:RelV y u):x=y:=M_ (r.abs.symm.trans q.abs)
theorem Vals.inj:∀ {xs ys:List V}{us:List Value},Vals xs us->Vals ys us->xs=ys
 | _,_,_,.nil,.nil=>rfl
 | _,_,_,.cons r t,.cons r' t'=>by rw[r.inj r',Vals.inj t t']
section
variable {X:Cx}{pins:List (Addr×Obj)}{σ:St}{H:Hp}{s:j_}{a:Addr}{xs ys:List V}
def cE.of {K:e_} (h:H a=some (.lst xs)):cE K H a xs:=.inl (.inl h)
def eV.of {K:e_} (h:H a=some (.tup xs)):eV K H a xs:=.inl (.inl h)
def Inv.list (I:Inv X pins σ H s) (h:cE X.K H a xs):∃ ai:List Value,Vals xs ai/\PlainL s.heap a ai.toArray/\xs.length<=sizeLine:=by
 rcases h with h | ⟨o,ai,n,hk,hc,hd,hs,hz,r⟩
 ·obtain⟨z,ai,n,r,e⟩:=h.ok I.aW;exact⟨ai,r,⟨_,n,e,rfl,rfl,rfl⟩,z⟩
 ·refine⟨ai.toList,r,⟨o,n,I.kK a o hk,hc,hd,by simpa using hs⟩,?_⟩;have e:=r.length;simp only[ZL] at e
  lia
def Inv.tuple (I:Inv X pins σ H s) (h:eV X.K H a xs):∃ ai:List Value,Vals xs ai/\IsTup s.heap a ai.toArray/\xs.length<=sizeLine:=by
 rcases h with h | ⟨o,ai,n,hk,hc,hs,hz,r⟩
 ·obtain⟨z,ai,r,p⟩:=h.ok I.aW;exact⟨ai,r,p,z⟩
 ·refine⟨ai.toList,r,⟨o,I.kK a o hk,hc,n,by simpa using hs⟩,?_⟩;have e:=r.length;simp only[ZL] at e
  lia
def Inv.BU (I:Inv X pins σ H s) (h:cE X.K H a xs) (h':cE X.K H a ys):xs=ys:=by
 obtain⟨ai,r,⟨o,n,e,_,_,d⟩,_⟩:=I.list h;obtain⟨its',r',⟨o',n',e',_,_,d'⟩,_⟩:=I.list h';rw[e] at e';cases e';rw[d] at d';injection d' with d1 _
 have:ai=its':=by simpa using congrArg Array.toList d1
 subst this;exact r.inj r'
def Inv.rS (I:Inv X pins σ H s) (h:eV X.K H a xs) (h':eV X.K H a ys):xs=ys:=by
 obtain⟨ai,r,⟨o,e,_,n,d⟩,_⟩:=I.tuple h;obtain⟨its',r',⟨o',e',_,n',d'⟩,_⟩:=I.tuple h';rw[e] at e';cases e';rw[d] at d';injection d' with d1 _
 have:ai=its':=by simpa using congrArg Array.toList d1
 subst this;exact r.inj r'
end
noncomputable abbrev Cx.qL (X:Cx) (E:Value->j_->Prop):Cx:={ X with xe:=E }
noncomputable abbrev Cx.Mn (X:Cx):Cx:=X.qL fun _ _=>False
theorem Cx.Ok.qL {X:Cx} (ok:X.Ok) (E:Value->j_->Prop):(X.qL E).Ok :=
 ⟨ok.mod,ok.kind,ok.glob,ok.blt,ok.above,ok.inj,ok.has,ok.cab,ok.hd,ok.frames,ok.LI,ok.Qv,ok.bs,ok.BP,ok.xK,ok.As,ok.jI,ok.EN⟩
def Cx.Ok.iK {X:Cx}{E:Value->j_->Prop} (ok:(X.qL E).Ok):X.Ok :=
 ⟨ok.mod,ok.kind,ok.glob,ok.blt,ok.above,ok.inj,ok.has,ok.cab,ok.hd,ok.frames,ok.LI,ok.Qv,ok.bs,ok.BP,ok.xK,ok.As,ok.jI,ok.EN⟩
section
variable {X:Cx}{pins:List (Addr×Obj)}{σ:St}{H:Hp}{s:j_}{E:Value->j_->Prop}
theorem Inv.qL (I:Inv X pins σ H s) (E:Value->j_->Prop):Inv (X.qL E) pins σ H s:=⟨I.ok.qL E,I.os,I.bare,I.base,I.loc,I.cell,I.free,I.iu,I.pin,I.aW,I.len⟩
theorem Inv.iK (I:Inv (X.qL E) pins σ H s):Inv X pins σ H s:=⟨I.ok.iK,I.os,I.bare,I.base,I.loc,I.cell,I.free,I.iu,I.pin,I.aW,I.len⟩
theorem SP.iK {D:Ends}{f:Flow}{s':j_} (h:SP (X.qL E) pins D f s'):SP X pins D f s':=by
 cases f with
 | next=>obtain⟨σ',H',I,q⟩:=h;exact⟨σ',H',I.iK,q⟩
 | brk=>obtain⟨σ',H',I,q⟩:=h;exact⟨σ',H',I.iK,q⟩
 | cont=>obtain⟨σ',H',I,q⟩:=h;exact⟨σ',H',I.iK,q⟩
 | ret u=>obtain⟨v,σ',H',I,r,q⟩:=h;exact⟨v,σ',H',I.iK,r,q⟩
theorem kL.Mn {st:List Stmt}{t:TS} (h:kL X.Mn st t):kL X st t:=fun pins s σ H D I hw =>
 aaj (h pins s σ H D (I.qL _) hw) (fun _ _ q=>q.iK) fun _ _ z=>ZG z
end
section
variable {X:Cx}{st:Stmt}{rest:List Stmt}{t u:TS}{e:Expr}{te:TE}{pos:Pos}
def GZ:TS:=fun D σ H=>D.nx σ H
def RC (t u:TS):TS:=fun D σ H=>t { D with nx:=u D } σ H
def ET:kL X [] GZ:=fun _ _ σ H _ I h=>ac1 ⟨σ,H,I,h⟩
def BV (h1:PS X st t) (h2:kL X rest u):kL X (st::rest) (RC t u):=by
 intro pins s σ H D I h;refine wpAny_execs_cons (aX (h1 pins s σ H { D with nx:=u D } I h) fun f s1 q=>?_)
 cases f with
 | next =>
  obtain⟨σ',H',I',q⟩:=q;exact h2 pins s1 σ' H' D I' q
 | ret v=>exact q
 | brk=>exact q
 | cont=>exact q
def IM:TS:=fun D σ H=>D.bk σ H
def EU:PS X (.Pass pos) GZ:=fun _ _ σ H _ I h=>wpAny_Pass ⟨σ,H,I,h⟩
def BW:PS X (.Break pos) IM:=fun _ _ σ H _ I h=>wpAny_Break ⟨σ,H,I,h⟩
def Inv.quiet {pins:List (Addr×Obj)}{σ:St}{H:Hp}{s:j_} (I:Inv X pins σ H s):interactive X.env=false:=by simp [interactive,I.ok.kind]
def Mp (te:TE):TS:=fun D σ H=>te σ H fun _ H1=>D.nx σ H1
def kQ (he:PE X e te) (hs:aaI e none pos.line X.env=pure false:=by rfl):PS X (.Expr e pos) (Mp te):=by
 intro pins s σ H D I h;exact wpAny_Expr_any (aX (he pins s σ H _ I h) fun v s1 ⟨x,H1,I1,r1,q1⟩=>⟨σ,H1,I1,q1⟩) I.quiet hs
def RD (te:TE):TS:=fun D σ H=>te σ H D.rt
def IP (he:PE X e te):PS X (.Return (some e) pos) (RD te):=by
 intro pins s σ H D I h;exact wpAny_Return_some (aX (he pins s σ H _ I h) fun v s1 ⟨x,H1,I1,r1,q1⟩=>⟨x,σ,H1,I1,r1,q1⟩)
def Mq:TS:=fun D _ H=>D.rt .az H
def EV:PS X (.Return none pos) Mq:=fun _ _ σ H _ I h=>wpAny_Return_none ⟨.az,σ,H,I,rfl,h⟩
def RE (c:TT) (t u:TS):TS:=fun D σ H=>c σ H fun b H1=>if b=true then t D σ H1 else u D σ H1
def Mr {c:Expr}{a b:List Stmt}{tc:TT} (hc:PT X c tc) (ha:kL X a t) (hb:kL X b u):PS X (.If c a b pos) (RE tc t u):=by
 intro pins s σ H D I h;refine wpAny_If (aX (hc pins s σ H _ I h) fun d s1 ⟨H1,I1,q1⟩=>?_)
 cases d with
 | true=>exact ha pins s1 σ H1 D I1 q1
 | false=>exact hb pins s1 σ H1 D I1 q1
def IQ:TS:=fun _ _ _=>False
def BX:PS X st IQ:=fun _ _ _ _ _ _ h=>h.elim
end
noncomputable abbrev TG:=V->St->Hp->(St->Hp->Prop)->Prop
noncomputable abbrev IS:=List V->St->Hp->(St->Hp->Prop)->Prop
def PG (X:Cx) (target:Expr) (t:TG):Prop :=
 ∀ (pins:List (Addr×Obj)) (s:j_) (σ:St) (H:Hp) (v:V) (u:Value) (Q:St->Hp->Prop),Inv X pins σ H s->RelV v u->t v σ H Q ->
  wpAny '0' X.A (afO target X.env u) (fun _ s'=>∃ σ' H',Inv X pins σ' H' s'/\Q σ' H') X.xe s
def Qy (X:Cx) (ts:List Expr) (t:IS):Prop :=
 ∀ (pins:List (Addr×Obj)) (s:j_) (σ:St) (H:Hp) (vs:List V) (us:List Value) (Q:St->Hp->Prop),Inv X pins σ H s->Vals vs us->t vs σ H Q ->
  wpAny '0' X.A (assignInOrder ((ad3 ts X.env).map (·.2)) us) (fun _ s'=>∃ σ' H',Inv X pins σ' H' s'/\Q σ' H') X.xe s
noncomputable abbrev qM:=V->V->V->Hp->(Hp->Prop)->Prop
noncomputable abbrev Qz:=V->V->Hp->VK->Prop
def QA (X:Cx) (op:adi) (t:Qz):Prop :=
 ∀ (pins:List (Addr×Obj)) (s:j_) (σ:St) (H:Hp) (x y:V) (v u:Value) (Q:VK),Inv X pins σ H s->RelV x v->RelV y u->t x y H Q ->
  wpAny '0' X.A (inplaceOp op v u) (EP X pins σ Q) X.xe s
section
variable {X:Cx}{pos:Pos}
def er (i:Nat):TG:=fun v σ H Q=>Q (σ.set i (some v)) H
def nX {i : Nat} {x : Str} (hN : X.N.Nodup) (hi : X.N[i]? = some x) (hx : Loc X.env.scope x) (hf : X.fn x = true ∨ X.env.scope.names.lookup x = some .local := by first | exact .inl rfl | exact .inr rfl | assumption) : PG X (.Name x pos) (er i) := by
 intro pins s σ H v u Q I r h;exact wpAny_assign_Name (kN I hN hi hx r (fun s' I'=>⟨_,H,I',h⟩) hf)
def BY:IS:=fun vs σ H Q=>vs=[]/\Q σ H
def kR (t:TG) (u:IS):IS:=fun vs σ H Q=>∃ v r,vs=v::r/\t v σ H fun σ' H'=>u r σ' H' Q
def EW:Qy X [] BY:=by
 intro pins s σ H vs us Q I r h;obtain⟨e,h⟩:=h;subst e
 cases r
 exact assignInOrder_nil ⟨σ,H,I,h⟩
theorem vh {e:Expr}{es:List Expr}{t:TG}{u:IS} (h1:PG X e t) (h2:Qy X es u)
  (hs:(ad3 (e::es) X.env).map (·.2)=afO e X.env::(ad3 es X.env).map (·.2):=by rfl):Qy X (e::es) (kR t u):=by
 intro pins s σ H vs us Q I r h;obtain⟨v,vr,e1,h⟩:=h;subst e1
 cases r with
 | cons r rr =>
  rw[hs];refine assignInOrder_cons (aX (h1 pins s σ H _ _ _ I r h) fun _ s1 ⟨σ1,H1,I1,q1⟩=>?_);exact h2 pins s1 σ1 H1 _ _ Q I1 rr q1
def BZ (K:e_) (n:Nat) (t:IS):TG:=fun v σ H Q=>∃ a xs,v=.ref a/\eV K H a xs/\xs.length=n/\t xs σ H Q
def IT {es:List Expr}{k:Nat}{t:IS}{n:Nat} (hc:X.calm=true) (h:Qy X es t)
  (hn:(ad3 es X.env).length=n:=by rfl) (RF:(ad3 es X.env).findIdx? (·.1)=none:=by rfl):PG X (.Tuple es k pos) (BZ X.K n t):=by
 intro pins s σ H v u Q I r hw;obtain⟨a,xs,e1,hq,hl,hw⟩:=hw;subst e1
 cases r
 obtain⟨ai,rv,ht,hz⟩:=I.tuple hq;refine assign_Tuple_tuple (I.ok.hd hc) ht (by simp [hn,<-hl,rv.length]) RF fun h' hx=>?_
 have I1:Inv X pins σ H { s with heap:=h' }:=I.kept (t':=s.toks) fun b o e=>hx b o (Q_ (E_ e)) e
 exact h pins _ σ H xs _ Q I1 (by simpa using rv) hw
def Ms (te:TE) (g:TG):TS:=fun D σ H=>te σ H fun x H1=>g x σ H1 D.nx
def xM {i : Nat} {x : Str} {e : Expr} {te : TE} {pos' : Pos} (hN : X.N.Nodup) (hi : X.N[i]? = some x) (hx : Loc X.env.scope x) (he : PE X e te) (hs : aaI e (some (.Name x pos')) pos.line X.env = pure false := by rfl) (hf : X.fn x = true ∨ X.env.scope.names.lookup x = some .local := by first | exact .inl rfl | exact .inr rfl | assumption) :
  PS X (.Assign [.Name x pos'] e pos) (Ms te (er i)):=by
 intro pins s σ H D I h;refine wpAny_Assign_Name (aX (he pins s σ H _ I h) fun v s1 ⟨y,H1,I1,r1,q1⟩=>?_) hs;exact kN I1 hN hi hx r1 (fun s2 I2=>⟨_,H1,I2,q1⟩) hf
def RG (i:Nat) (te:TE) (ti:Qz):TS:=fun D σ H=>∃ x,σ[i]? = some (some x)/\te σ H fun y H1=>ti x y H1 fun z H2=>D.nx (σ.set i (some z)) H2
def IU {i : Nat} {x : Str} {e : Expr} {te : TE} {op : adi} {ti : Qz} {pos' : Pos} (hN : X.N.Nodup) (hi : X.N[i]? = some x) (hx : Loc X.env.scope x) (he : PE X e te) (ho : QA X op ti) (hf : X.fn x = true ∨ X.env.scope.names.lookup x = some .local := by first | exact .inl rfl | exact .inr rfl | assumption) :
  PS X (.AugAssign (.Name x pos') op e pos) (RG i te ti):=by
 intro pins s σ H D I h;obtain⟨v,e1,h⟩:=h;obtain⟨m,hn,hl⟩:=I.loc;have LK:BM X.env.scope x:=by rcases hx with k | k;exact .inl k;exact .inr (.inl k)
 obtain⟨u,r,l⟩:=hl i x v hi e1 LK;refine wpAny_AugAssign_Name ?_
 have go:wpAny '0' X.A (eval e X.env) (fun w s₂=>wpAny '0' X.A (inplaceOp op u w) (fun r s₃=>wpAny '0' X.A (storeName X.env x r) (fun _=>SP X pins D .next) X.xe s₃) X.xe s₂) X.xe s:=by
  refine aX (he pins s σ H _ I h) fun w s1 ⟨y,H1,I1,r1,q1⟩=>?_
  refine aX (ho pins s1 σ H1 v y u w _ I1 r r1 q1) fun z s2 ⟨zv,H2,I2,r2,q2⟩=>?_
  exact kN I2 hN hi hx r2 (fun s3 I3=>⟨_,H2,I3,q2⟩) hf
 rcases l with ⟨hk,hm⟩ | ⟨hk,c,hc,rR⟩
 ·exact aey I.ok.kind hk hn hm go
 ·rcases hk with hk | hk
  ·exact aeU I.ok.kind hk hc rR go
  ·rcases hx with k | k
   ·have:X.env.scope.names.lookup x=some .free:=hk;rw[k] at this;cases this
   ·have:X.env.scope.names.lookup x=some .free:=hk;rw[k] at this;cases this
def RH (f:Int->Int->Int):Qz:=fun x y H Q=>∃ i j,x=.int i/\y=.int j/\Q (.int (f i j)) H
def IV:QA X .Add (RH fun i j=>i+j):=by
 intro pins s σ H x y v u Q I r1 r2 h;obtain⟨i,j,e1,e2,q⟩:=h;subst e1;subst e2;obtain⟨t,rfl⟩:=r1;obtain⟨t',rfl⟩:=r2;exact iadd_int ⟨.int _,H,I.tok _,⟨_,rfl⟩,q⟩
def IW:QA X .Sub (RH fun i j=>i-j):=by
 intro pins s σ H x y v u Q I r1 r2 h;obtain⟨i,j,e1,e2,q⟩:=h;subst e1;subst e2;obtain⟨t,rfl⟩:=r1;obtain⟨t',rfl⟩:=r2;exact isub_int ⟨.int _,H,I.tok _,⟨_,rfl⟩,q⟩
def IY (c:TT) (tb:TS):TS:=fun D σ H=>∃ W:Nat->St->Hp->Prop,(∃ m,W m σ H)/\∀ m σ H,W m σ H ->
 c σ H fun b H1=>if b=true then ∃ N:St->Hp->Prop,(∀ σ' H',N σ' H'->∃ m',m'<m/\W m' σ' H')/\tb { D with nx:=N,ct:=N,bk:=D.nx } σ H1 else D.nx σ H1
def B0 {c:Expr}{body:List Stmt}{tc:TT}{tb:TS} (hp:aeR '0' X.A X.env X.xe) (hc:PT X c tc) (hb:kL X body tb):PS X (.While c body [] pos) (IY tc tb):=by
 intro pins s σ H D I h;obtain⟨W,⟨m0,w0⟩,turn⟩:=h;refine wpAny_While (codeAny_whileLoop (fun n s'=>∃ σ' H',Inv X pins σ' H' s'/\W n σ' H') ?_ m0 ⟨σ,H,I,w0⟩);rintro n s1 ⟨σ1,H1,I1,w1⟩;refine abb hp (aX (hc pins s1 σ1 H1 _ I1 (turn n σ1 H1 w1)) fun b s2 ⟨H2,I2,q2⟩=>?_)
 cases b with
 | true =>
  obtain⟨N,hN,q2⟩:=q2;rw[z_ rfl];refine abb hp (aX (hb pins s2 σ1 H2 _ I2 q2) fun f s3 q3=>?_)
  cases f with
  | next =>
   obtain⟨σ3,H3,I3,n3⟩:=q3;obtain⟨m',hm,w3⟩:=hN σ3 H3 n3;exact⟨m',hm,σ3,H3,I3,w3⟩
  | cont =>
   obtain⟨σ3,H3,I3,n3⟩:=q3;obtain⟨m',hm,w3⟩:=hN σ3 H3 n3;exact⟨m',hm,σ3,H3,I3,w3⟩
  | brk=>exact q3
  | ret v=>exact q3
 | false =>
  rw[s_ u_];exact ac1 ⟨σ1,H2,I2,q2⟩
end
structure It where
 go:Nat->Hp->Prop
 G0:Nat->Hp->V->Hp->Prop
 stop:Nat->Hp->Prop
def nD (X:Cx) (pins:List (Addr×Obj)) (H:Hp) (b:Addr):Prop :=
 H b=none/\b≠X.env.locals/\b∉X.fs/\(b∈X.ex∨X.s₀.heap.objs.size<=b)/\(∀ x c,X.env.cells.lookup x=some c->c≠b)/\∀ p∈X.pn++pins,p.1≠b
def Inv.vi {X:Cx}{pins:List (Addr×Obj)}{σ:St}{H H':Hp}{s:j_}{b:Addr} (I:Inv X pins σ H s) (hb:s.heap.objs.size<=b) (hn:H' b=none):nD X pins H' b:=by
 refine⟨hn,ab3 (I_ I.lt hb),I.Ro hb,.inr (R_ I.sz hb),fun x c e z=>?_,fun p hp z=>?_⟩
 ·obtain⟨v,q⟩:=I.cell x c e;exact absurd (I_ q.lt (by rw[z];exact hb)) (ZK _)
 ·exact absurd (I_ (E_ (I.pin p hp).1) (by rw[z];exact hb)) (ZK _)
structure Turn (P:N_) (w:World) (K:e_) (tg:Expr) (J:It) (fp:List Addr) (it:Addr) (tn:Nat->Heap->Prop):Prop where
 mem:it∈fp
 obj:∀ i h,tn i h->∀ b∈fp,∃ o,h.get? b=some o/\∀ v,o.data≠.cell v
 keep:∀ i h h',tn i h->(∀ b∈fp,∀ o,h.get? b=some o->h'.get? b=some o)->tn i h'
 item:∀ (X:Cx),X.prog=P->X.w=w->X.K=K->X.calm=true->∀ (i:Nat) (pins:List (Addr×Obj)) (s:j_) (σ:St) (H:Hp) (E:Value->j_->Prop),Inv X pins σ H s->(∀ b∈fp,nD X pins H b)->tn i s.heap->J.go i H ->
  wpAny (model P w) X.A (aez (.ref it)) (fun r s1=>∃ u,r=some u /\
   wpAny (model P w) X.A (ac2 tg (.ref it) u) (fun _ s2=>∃ x H',Inv X pins σ H' s2/\RelV x u/\J.G0 i H x H'/\tn (i+1) s2.heap/\∀ b∈fp,H' b=none) E s1) E s
 done:∀ (X:Cx),X.prog=P->X.w=w->X.K=K->X.calm=true->∀ (i:Nat) (pins:List (Addr×Obj)) (s:j_) (σ:St) (H:Hp) (E:Value->j_->Prop),Inv X pins σ H s->(∀ b∈fp,nD X pins H b)->tn i s.heap->J.stop i H ->
  wpAny (model P w) X.A (aez (.ref it)) (fun r s1=>r=none/\Inv X pins σ H s1) E s
 self:∀ (A:ZN) (i:Nat) (s:j_) (Q:Value->j_->Prop) (E:Value->j_->Prop),tn i s.heap->Q (.ref it) s->wpAny (model P w) A (pyIter (.ref it)) Q E s
noncomputable abbrev TI:=St->Hp->(It->Hp->Prop)->Prop
def UQ (X:Cx) (pins:List (Addr×Obj)) (σ:St) (tg:Expr) (R:It->Hp->Prop) (QB:Value) (s2:j_):Prop :=
 ∃ (it:Addr) (fp:List Addr) (tn:Nat->Heap->Prop) (J:It) (H':Hp),QB=.ref it/\Inv X pins σ H' s2/\Turn X.prog X.w X.K tg J fp it tn/\tn 0 s2.heap/\(∀ b∈fp,nD X pins H' b)/\R J H'
def PI (X:Cx) (tg iter:Expr) (wi:TI):Prop :=
 ∀ (pins:List (Addr×Obj)) (s:j_) (σ:St) (H:Hp) (R:It->Hp->Prop),Inv X pins σ H s->wi σ H R ->
  wpAny '0' X.A (eval iter X.env) (fun v s1=>wpAny '0' X.A (pyIter v) (UQ X pins σ tg R) X.xe s1) X.xe s
def vj {M:Model}{A:ZN}{E:Value->j_->Prop}{s:j_}{tg:Expr}{it:Addr}{u:Value}{o:Obj}{n:acq}{vs:Array Value}{Q:Unit->j_->Prop} (ho:s.heap.get? it=some o) (hc:o.cls=.type n) (hd:o.data=.fields vs)
  (hn:["enumerate","zip","dict_itemiterator","dict_reverseitemiterator","odict_iterator","itertools.zip_longest","itertools.pairwise"].contains n=false) (hQ:Q () s):wpAny M A (ac2 tg (.ref it) u) Q E s:=by
 unfold ac2
 cases tg<;>first
  | exact q_ hQ
  | (cases u<;>first
    | exact q_ hQ
    | (refine c_ (wpAny_load ho ?_)
       rw[hc,hd];show wpAny M A (if (["enumerate","zip","dict_itemiterator","dict_reverseitemiterator","odict_iterator","itertools.zip_longest","itertools.pairwise"].contains n&&vs[0]? == some (aaD _))=true then _ else _) Q E s;rw[s_ (by intro h;rw[hn,agl] at h;cases h)];exact q_ hQ))
noncomputable def LL (K:e_) (a:Addr):It :=
 ⟨fun i H=>∃ xs x,cE K H a xs/\xs[i]? = some x,fun i H x H'=>H'=H/\∀ xs,cE K H a xs->xs[i]? = some x,fun i H=>∃ xs,cE K H a xs/\xs.length<=i⟩
noncomputable def QC (K:e_) (a:Addr):It :=
 ⟨fun i H=>∃ xs x,eV K H a xs/\xs[i]? = some x,fun i H x H'=>H'=H/\∀ xs,eV K H a xs->xs[i]? = some x,fun i H=>∃ xs,eV K H a xs/\xs.length<=i⟩
noncomputable def Mt (lo:Int) (n:Nat):It:=⟨fun i _=>i<n,fun i H x H'=>H'=H/\x=.int (lo+i),fun i _=>n<=i⟩
def rT {P:N_}{w:World}{K:e_}{tg:Expr} (a it:Addr):Turn P w K tg (LL K a) [it] it (fun i h=>h.IsListIter it a i) where
 mem:=by simp
 obj:=fun i h st b hb=>by
  have e:b=it:=by simpa using hb
  subst e;obtain⟨o,e,c,d⟩:=st;exact⟨o,e,fun v z=>by rw[d] at z;cases z⟩
 keep:=fun i h h' st k=>st.at fun o e=>k it (3) o e
 item:=by
  ext e;subst hP hw hK;obtain⟨xs,x,hq,hx⟩:=hg;obtain⟨ai,rv,p,hz⟩:=I.list hq;obtain⟨u,hu,ru⟩:=rv.get hx;obtain⟨f0,f1,f2,f3,f4,f5⟩:=hf it (3);refine ad4 st p.isList (x:=u) (by simpa using hu) fun h' nE sb=>?_
  have I1:Inv X pins σ H { s with heap:=h' }:=I.turned (t':=s.toks) (fun b o hb e=>(sb.2 b hb).trans e) f0 f1 f3 f4 f5;obtain⟨o,e,c,d⟩:=id nE;exact⟨u,rfl,vj (s:={ s with heap:=h' }) e c d (2) ⟨x,H,I1,ru,⟨rfl,fun ys hy=>by rw[I.BU hy hq];exact hx⟩,nE,fun b hb=>(hf b hb).1⟩⟩
 done:=by
  ext e;subst hP hw hK;obtain⟨xs,hq,hx⟩:=hg;obtain⟨ai,rv,p,hz⟩:=I.list hq;obtain⟨f0,f1,f2,f3,f4,f5⟩:=hf it (3);have hl:=rv.length;exact aer (I.ok.hd hc) st p.isList (by simp;lia) fun h' eb=>⟨rfl,I.turned (t':=s.toks) (fun b o hb e=>eb b o hb e) f0 f1 f3 f4 f5⟩
 self:=fun _ _ _ _ _ st h=>wpAny_pyIter_listiter st h
def xN {P:N_}{w:World}{K:e_}{tg:Expr} (a it:Addr):Turn P w K tg (QC K a) [it] it (fun i h=>h.IsTupleIter it a i) where
 mem:=by simp
 obj:=fun i h st b hb=>by
  have e:b=it:=by simpa using hb
  subst e;obtain⟨o,e,c,d⟩:=st;exact⟨o,e,fun v z=>by rw[d] at z;cases z⟩
 keep:=fun i h h' st k=>st.at fun o e=>k it (3) o e
 item:=by
  ext e;subst hP hw hK;obtain⟨xs,x,hq,hx⟩:=hg;obtain⟨ai,rv,p,hz⟩:=I.tuple hq;obtain⟨u,hu,ru⟩:=rv.get hx;obtain⟨f0,f1,f2,f3,f4,f5⟩:=hf it (3);refine wpAny_pyNext_tuple_item st (show s.heap.IsTuple a ai.toArray from p) (x:=u) (by simpa using hu) fun h' nE sb=>?_
  have I1:Inv X pins σ H { s with heap:=h' }:=I.turned (t':=s.toks) (fun b o hb e=>(sb.2 b hb).trans e) f0 f1 f3 f4 f5;obtain⟨o,e,c,d⟩:=id nE;exact⟨u,rfl,vj (s:={ s with heap:=h' }) e c d (2) ⟨x,H,I1,ru,⟨rfl,fun ys hy=>by rw[I.rS hy hq];exact hx⟩,nE,fun b hb=>(hf b hb).1⟩⟩
 done:=by
  ext e;subst hP hw hK;obtain⟨xs,hq,hx⟩:=hg;obtain⟨ai,rv,p,hz⟩:=I.tuple hq;obtain⟨f0,f1,f2,f3,f4,f5⟩:=hf it (3);have hl:=rv.length;exact wpAny_pyNext_tuple_end (I.ok.hd hc) st (show s.heap.IsTuple a ai.toArray from p) (by simp;lia) fun h' eb=>⟨rfl,I.turned (t':=s.toks) (fun b o hb e=>eb b o hb e) f0 f1 f3 f4 f5⟩
 self:=fun _ _ _ _ _ st h=>wpAny_pyIter_tupleiter st h
def xO {P:N_}{w:World}{K:e_}{tg:Expr} (it:Addr) (lo:Int) (n:Nat):Turn P w K tg (Mt lo n) [it] it (fun i h=>ady h it (lo+(i:Nat)*1) ((n:Int)-(i:Nat)) 1) where
 mem:=by simp
 obj:=fun i h st b hb=>by
  have e:b=it:=by simpa using hb
  subst e
  exact⟨_,st,fun v z=>by
   have z':aeA _=adS v:=z
   cases z'⟩
 keep:=fun i h h' st k=>k it (3) _ st
 item:=by
  ext e;subst hP hw hK;obtain⟨f0,f1,f2,f3,f4,f5⟩:=hf it (3);have W:=Walks.range (prog:=X.prog) (w:=X.w) (I.ok.hd hc) it lo 1 n;refine W.item i s _ _ hg st fun v h' tk hv nE kk=>?_
  obtain⟨t,rfl⟩:=hv;have I1:Inv X pins σ H { s with heap:=h',toks:=tk }:=I.turned (fun b o hb e=>kk b o (by simpa using hb) e) f0 f1 f3 f4 f5;refine⟨_,rfl,vj (s:={ s with heap:=h',toks:=tk }) (n := "range_iterator") nE rfl rfl (2) ⟨.int (lo+i),H,I1,⟨t,?_⟩,⟨rfl,rfl⟩,nE,fun b hb=>(hf b hb).1⟩⟩;rw[adz]
 done:=by
  ext e;subst hP hw hK;obtain⟨f0,f1,f2,f3,f4,f5⟩:=hf it (3);exact ad5 (I.ok.hd hc) st (by have:n<=i:=hg;lia) fun h' eb=>⟨rfl,I.turned (t':=s.toks) (fun b o hb e=>eb b o hb e) f0 f1 f3 f4 f5⟩
 self:=fun _ _ _ _ _ st h=>acD st h
section
variable {X:Cx}{tg:Expr}
def G4 (K:e_) (tl:TE):TI:=fun σ H R=>tl σ H fun x H1=>∃ a,x=.ref a/\(∃ xs,cE K H1 a xs)/\R (LL K a) H1
def EX {l:Expr}{tl:TE} (hl:PE X l tl):PI X tg l (G4 X.K tl):=by
 intro pins s σ H R I h;refine aX (hl pins s σ H _ I h) fun v s1 ⟨x,H1,I1,r1,q1⟩=>?_
 obtain⟨a,e,⟨xs,hq⟩,q⟩:=q1;subst e
 cases r1
 obtain⟨ai,rv,p,hz⟩:=I1.list hq;refine abi p.isList ?_;refine⟨s1.heap.objs.size,[s1.heap.objs.size],_,_,H1,rfl,I1.kept (t':=s1.toks) fun b o e=>k_ _ e,rT a _,⟨_,w_ _ rfl,rfl,rfl⟩,fun b hb=>?_,q⟩;have e:b=s1.heap.objs.size:=by simpa using hb
 subst e;exact I1.vi (t_ _) (I1.aW.fresh (t_ _))
def vk {pins:List (Addr×Obj)}{σ:St}{H:Hp}{s:j_}{R:It->Hp->Prop}{E:Value->j_->Prop}{lo hi:Int}{t u v:Tok}{tk:Nat} (I:Inv X pins σ H s) (h1 : -(2 ^ 62)<=lo) (h2:lo<2 ^ 62) (h3 : -(2 ^ 62)<=hi) (h4:hi<2 ^ 62)
  (q:R (Mt lo (hi-lo).toNat) H):wpAny '0' X.A (pyIter (.ref s.heap.objs.size)) (UQ X pins σ tg R) E { s with heap:=s.heap.push { cls:=.type "range",data:=.fields #[.int lo t,.int hi u,.int 1 v] },toks:=tk }:=by
 refine wpAny_pyIter_range (agT ..) (small_one h1 h2 h3 h4) ?_;have I1:Inv X pins σ H { s with heap:=s.heap.push { cls:=.type "range",data:=.fields #[.int lo t,.int hi u,.int 1 v] },toks:=tk }:=I.kept fun b o e=>k_ _ e
 refine⟨(s.heap.push { cls:=.type "range",data:=.fields #[.int lo t,.int hi u,.int 1 v] }).objs.size,[(s.heap.push { cls:=.type "range",data:=.fields #[.int lo t,.int hi u,.int 1 v] }).objs.size],_,_,H,rfl,
  I1.kept (t':=tk) fun b o e=>k_ _ e,xO _ lo (hi-lo).toNat,?_,fun b hb=>?_,q⟩
 ·have e1:lo+((0:Nat):Int)*1=lo:=by simp
  have e2:(((hi-lo).toNat:Nat):Int)-((0:Nat):Int)=O_ lo hi 1:=by rw[ae1];split<;>lia
  show ady _ _ (lo+((0:Nat):Int)*1) ((((hi-lo).toNat:Nat):Int)-((0:Nat):Int)) 1;rw[e1,e2];exact w_ _ rfl
 ·have e:b=(s.heap.push { cls:=.type "range",data:=.fields #[.int lo t,.int hi u,.int 1 v] }).objs.size:=by simpa using hb
  subst e;exact I1.vi (t_ _) (I1.aW.fresh (t_ _))
def Mu (ta:TA):TI:=fun σ H R=>ta σ H fun vs H1=>∃ j:Int,vs=[.int j] /\ -(2 ^ 62)<=j/\j<2 ^ 62/\R (Mt 0 j.toNat) H1
def Mv (ta:TA):TI:=fun σ H R=>ta σ H fun vs H1=>∃ i j:Int,vs=[.int i,.int j]/\(-(2 ^ 62)<=i/\i<2 ^ 62 /\ -(2 ^ 62)<=j/\j<2 ^ 62)/\R (Mt i (j-i).toNat) H1
def Av {a:Expr}{ta:TA}{p pos:Pos} (hg:Gl X "range") (hm:X.mg "range" = none) (ha:PA X [a] ta) (hs:S_ [a] X.env=[(false,eval a X.env)]:=by rfl):PI X tg (.Call (.Name "range" p) [a] [] pos) (Mu ta):=by
 intro pins s σ H R I h;refine Call_ (eo I hg hm abu (ZD (aX (ha pos pins s σ H _ I h) fun us s1 ⟨vs,H1,I1,r1,q1⟩=>?_) hs rfl));obtain⟨j,e,q1,q2,q⟩:=q1;subst e
 cases r1 with
 | cons r rr =>
  cases rr
  obtain⟨t,rfl⟩:=r;exact call_range_1 (vk I1 ∅ ∅ q1 q2 (by simpa using q))
def Aw {a b:Expr}{ta:TA}{p pos:Pos} (hg:Gl X "range") (hm:X.mg "range" = none) (ha:PA X [a,b] ta) (hs:S_ [a,b] X.env=[(false,eval a X.env),(false,eval b X.env)]:=by rfl) (jX:S_ [b] X.env=[(false,eval b X.env)]:=by rfl) :
  PI X tg (.Call (.Name "range" p) [a,b] [] pos) (Mv ta):=by
 intro pins s σ H R I h;refine Call_ (eo I hg hm abu (ZD (aX (ha pos pins s σ H _ I h) fun us s1 ⟨vs,H1,I1,r1,q1⟩=>?_) (by rw[hs,jX]) (by rw[jX];rfl)));obtain⟨i,j,e,⟨q1,q2,q3,q4⟩,q⟩:=q1;subst e
 cases r1 with
 | cons r rr =>
  cases rr with
  | cons r' rr =>
   cases rr
   obtain⟨t,rfl⟩:=r;obtain⟨t',rfl⟩:=r';exact call_range_2 (vk I1 q1 q2 q3 q4 q)
def RI (wi:TI) (g:TG) (tb:TS):TS:=fun D σ H=>wi σ H fun J H1=>∃ W:Nat->Nat->St->Hp->Prop,(∃ m,W 0 m σ H1)/\∀ i m σ H,W i m σ H ->
 (J.stop i H/\D.nx σ H)∨(J.go i H/\∃ N:St->Hp->Prop,(∀ σ' H',N σ' H'->∃ m',m'<m/\W (i+1) m' σ' H')/\∀ x H',J.G0 i H x H'->g x σ H' fun σ2 H2=>tb { D with nx:=N,ct:=N,bk:=D.nx } σ2 H2)
noncomputable def l8 (fp:List Addr) (h:Heap):List (Addr×Obj):=fp.filterMap fun b=>(h.get? b).map fun o=>(b,o)
def gj {fp:List Addr}{h:Heap}{b:Addr}{o:Obj} (hb:b∈fp) (e:h.get? b=some o):(b,o)∈l8 fp h:=ae_.mpr ⟨b,hb,by rw[e];rfl⟩
def Ay {fp:List Addr}{h:Heap}{p:Addr×Obj} (hp:p∈l8 fp h):p.1∈fp/\h.get? p.1=some p.2:=by
 obtain⟨b,hb,e⟩:=ae_.mp hp
 cases q:h.get? b with
 | none=>rw[q] at e;cases e
 | some o =>
  rw[q] at e;have e':(b,o)=p:=M_ e;subst e';exact⟨hb,q⟩
def Inv.pinned {pins:List (Addr×Obj)}{σ:St}{H:Hp}{s:j_}{fp:List Addr} (I:Inv X pins σ H s) (hf:∀ b∈fp,nD X pins H b) (ho:∀ b∈fp,∃ o,s.heap.get? b=some o/\∀ v,o.data≠.cell v):Inv X (pins++l8 fp s.heap) σ H s :=
 I.jA fun p hp=>(U_.mp hp).elim (fun z=>I.pin p (T_ _ z)) fun z=>by
  obtain⟨hb,e⟩:=Ay z;obtain⟨f0,f1,f2,_⟩:=hf p.1 hb;obtain⟨o,e',d⟩:=ho p.1 hb;rw[e] at e';cases e';exact⟨e,f0,f1,f2,d⟩
def Inv.kS {pins pl:List (Addr×Obj)}{σ:St}{H:Hp}{s:j_} (I:Inv X (pins++pl) σ H s):Inv X pins σ H s:=I.jA fun p hp=>I.pin p (T_ _ (abY _ hp))
def IZ {iter:Expr}{body:List Stmt}{wi:TI}{g:TG}{tb:TS}{pos:Pos} (hp:aeR '0' X.A X.env X.xe) (hc:X.calm=true) (hi:PI X tg iter wi) (hg:PG X tg g) (hb:kL X body tb)
  (hs:∀ x,aaJ iter X.env x=pure x:=by intro _;rfl):PS X (.For tg iter body [] pos) (RI wi g tb):=by
 intro pins s σ H D I h;refine wpAny_For (aX (hi pins s σ H _ I h) fun v s1 h1=>aX h1 fun QB s2 h2=>?_) hs;obtain⟨it,fp,tn,J,H2,e,I2,T,xI,f2,W,⟨m0,w0⟩,turn⟩:=h2;subst e;have Ja:∀ {H':Hp},(∀ b∈fp,H' b=none)->∀ b∈fp,nD X pins H' b:=fun hn b hb=>⟨hn b hb,(f2 b hb).2⟩
 refine codeAny_forLoop_any (fun n s'=>∃ i σ' H',Inv X pins σ' H' s'/\tn i s'.heap/\(∀ b∈fp,H' b=none)/\W i n σ' H') ?_ m0 ⟨0,σ,H2,I2,xI,fun b hb=>(f2 b hb).1,w0⟩;rintro n s3 ⟨i,σ3,H3,I3,UR,US,w3⟩;rcases turn i n σ3 H3 w3 with ⟨stop,qn⟩ | ⟨go,N,hN,step⟩
 ·refine abb hp (aX (T.done X rfl rfl rfl hc i pins s3 σ3 H3 X.xe I3 (Ja US) UR stop) fun r s4 ⟨hr,I4⟩=>?_);subst hr;exact ac1 ⟨σ3,H3,I4,qn⟩
 ·refine abb hp (aX (T.item X rfl rfl rfl hc i pins s3 σ3 H3 X.xe I3 (Ja US) UR go) fun r s4 ⟨u,hr,h4⟩=>?_);subst hr;refine abb hp (aX h4 fun _ s5 ⟨x,H5,I5,r5,y5,Jb,RJ⟩=>?_);have RK:=I5.pinned (Ja RJ) (T.obj _ _ Jb);refine abb hp (aX (hg _ s5 σ3 H5 x u _ RK r5 (step x H5 y5)) fun _ s6 ⟨σ6,H6,I6,q6⟩=>?_);refine abb hp (aX (hb _ s6 σ6 H6 _ I6 q6) fun f s7 q7=>?_)
  have again:∀ {σ7:St}{H7:Hp},Inv X (pins++l8 fp s5.heap) σ7 H7 s7->N σ7 H7->∃ m,m<n/\∃ i σ' H',Inv X pins σ' H' s7/\tn i s7.heap/\(∀ b∈fp,H' b=none)/\W i m σ' H':=fun {σ7 H7} I7 n7=>by
   obtain⟨m',hm,w7⟩:=hN σ7 H7 n7;refine⟨m',hm,i+1,σ7,H7,I7.kS,T.keep _ _ _ Jb fun b hb o e=>(I7.pin (b,o) (T_ _ (T_ _ (gj hb e)))).1,fun b hb=>?_,w7⟩;obtain⟨o,e,d⟩:=T.obj _ _ Jb b hb;exact (I7.pin (b,o) (T_ _ (T_ _ (gj hb e)))).2.1
  cases f with
  | next=>obtain⟨σ7,H7,I7,n7⟩:=q7;exact again I7 n7
  | cont=>obtain⟨σ7,H7,I7,n7⟩:=q7;exact again I7 n7
  | brk=>obtain⟨σ7,H7,I7,q7⟩:=q7;exact⟨σ7,H7,I7.kS,q7⟩
  | ret v=>obtain⟨x7,σ7,H7,I7,r7,q7⟩:=q7;exact⟨x7,σ7,H7,I7.kS,r7,q7⟩
end
noncomputable abbrev R2:=V->V->Hp->VK->Prop
def fk (X:Cx) (f:Value->Value->Sem Value) (r:R2):Prop :=
 ∀ (pins:List (Addr×Obj)) (s:j_) (σ:St) (H:Hp) (x y:V) (v u:Value) (Q:VK),Inv X pins σ H s->RelV x v->RelV y u->r x y H Q ->
  wpAny '0' X.A (f v u) (EP X pins σ Q) X.xe s
def RL (X:Cx) (f:Value->Sem Value) (r:V->Hp->VK->Prop):Prop :=
 ∀ (pins:List (Addr×Obj)) (s:j_) (σ:St) (H:Hp) (x:V) (v:Value) (Q:VK),Inv X pins σ H s->RelV x v->r x H Q ->
  wpAny '0' X.A (f v) (EP X pins σ Q) X.xe s
def bj (X:Cx) (f:Value) (r:List V->Hp->VK->Prop):Prop :=
 ∀ (pins:List (Addr×Obj)) (s:j_) (σ:St) (H:Hp) (xs:List V) (us:List Value) (Q:VK),Inv X pins σ H s->Vals xs us->r xs H Q ->
  wpAny '0' X.A (call f us) (EP X pins σ Q) X.xe s
def RM (X:Cx) (r:V->Hp->(Bool->Hp->Prop)->Prop):Prop :=
 ∀ (pins:List (Addr×Obj)) (s:j_) (σ:St) (H:Hp) (x:V) (v:Value) (Q:Bool->Hp->Prop),Inv X pins σ H s->RelV x v->r x H Q ->
  wpAny '0' X.A (truthy v) (TP X pins σ Q) X.xe s
def B2 (r:R2) (ta tb:TE):TE:=fun σ H Q=>ta σ H fun x H1=>tb σ H1 fun y H2=>r x y H2 Q
def Wi (r:V->Hp->VK->Prop) (ta:TE):TE:=fun σ H Q=>ta σ H fun x H1=>r x H1 Q
def rI (C:Int->Int->Prop) (g:Int->Int->V):R2:=fun x y H Q=>∃ i j,x=.int i/\y=.int j/\C i j/\Q (g i j) H
def zj (g:Int->Int->V):R2:=fun x y H Q=>∃ i j,x=.int i/\y=.int j/\Q (g i j) H
def rU (g:Int->V):V->Hp->VK->Prop:=fun x H Q=>∃ i,x=.int i/\Q (g i) H
section
variable {X:Cx}{a b c:Expr}{ta tb tc:TE}{pos:Pos}
def Jc (ha:PE X a ta) (hb:PE X b tb) {pins:List (Addr×Obj)}{s:j_}{σ:St}{H:Hp}{R:V->V->Hp->Prop} (I:Inv X pins σ H s)
  (h:ta σ H fun x H1=>tb σ H1 fun y H2=>R x y H2) {Q:Value->j_->Prop}{f:Value->Value->Sem Value}
  (hf:∀ v u s2 x y H2,Inv X pins σ H2 s2->RelV x v->RelV y u->R x y H2->wpAny '0' X.A (f v u) Q X.xe s2) :
  wpAny '0' X.A (eval a X.env) (fun v s₁=>wpAny '0' X.A (eval b X.env) (fun u s₂=>wpAny '0' X.A (f v u) Q X.xe s₂) X.xe s₁) X.xe s:=by
 refine aX (ha pins s σ H _ I h) fun v s1 ⟨x,H1,I1,r1,q1⟩=>?_
 refine aX (hb pins s1 σ H1 _ I1 q1) fun u s2 ⟨y,H2,I2,r2,q2⟩=>?_
 exact hf v u s2 x y H2 I2 r1 r2 q2
def G5 {op:adi}{r:R2} (ho:fk X (acg op) r) (ha:PE X a ta) (hb:PE X b tb):PE X (.BinOp a op b pos) (B2 r ta tb):=by
 ext d;exact wpAny_BinOp (Jc ha hb I h fun v u s2 x y H2 I2 rx ry q=>ho pins s2 σ H2 x y v u Q I2 rx ry q)
def Mw {op:UnaryOp}{r:V->Hp->VK->Prop} (ho:RL X (unaryOp op) r) (ha:PE X a ta):PE X (.UnaryOp op a pos) (Wi r ta):=by
 ext d;exact UnaryOp_ (aX (ha pins s σ H _ I h) fun v s1 ⟨x,H1,I1,r1,q1⟩=>ho pins s1 σ H1 x v Q I1 r1 q1)
def Ez {f:Value->Value->Sem Value}{C:Int->Int->Prop}{g:Int->Int->Int}
  (rule:∀ (i j:Int) (t u:Tok) (s:j_) (Q:Value->j_->Prop) (E:Value->j_->Prop),C i j->Q (.int (g i j) s.toks) { s with toks:=s.toks+1 }->wpAny '0' X.A (f (.int i t) (.int j u)) Q E s) :
  fk X f (rI C fun i j=>.int (g i j)):=by
 ext f;obtain⟨i,j,rfl,rfl,hc,q⟩:=h;ext i;ext h;exact rule i j t t' s _ _ hc ⟨.int (g i j),H,I.tok _,⟨_,rfl⟩,q⟩
def Mx {f:Value->Value->Sem Value}{g:Int->Int->Int}
  (rule:∀ (i j:Int) (t u:Tok) (s:j_) (Q:Value->j_->Prop) (E:Value->j_->Prop),Q (.int (g i j) s.toks) { s with toks:=s.toks+1 }->wpAny '0' X.A (f (.int i t) (.int j u)) Q E s) :
  fk X f (zj fun i j=>.int (g i j)):=by
 ext f;obtain⟨i,j,rfl,rfl,q⟩:=h;ext i;ext h;exact rule i j t t' s _ _ ⟨.int (g i j),H,I.tok _,⟨_,rfl⟩,q⟩
def EY {f:Value->Value->Sem Value}{g:Int->Int->Bool}
  (rule:∀ (i j:Int) (t u:Tok) (s:j_) (Q:Value->j_->Prop) (E:Value->j_->Prop),Q (.bool (g i j)) s->wpAny '0' X.A (f (.int i t) (.int j u)) Q E s) :
  fk X f (zj fun i j=>.bl (g i j)):=by
 ext f;obtain⟨i,j,rfl,rfl,q⟩:=h;ext i;ext h;exact rule i j t t' s _ _ ⟨.bl (g i j),H,I,rfl,q⟩
def B3 (i j:Int):Prop:=0<j/\j<1073741824
def EZ (i j:Int):Prop:=0<=j/\j<=1000000/\i.natAbs<2 ^ 64
def tK (i j:Int):Prop:=(-(2 ^ 64)<i/\i<2 ^ 64)∨(-(2 ^ 64)<j/\j<2 ^ 64)
def tK.ok {i j:Int} (h:tK i j):IntMulOk i j:=by
 rcases h with ⟨h1,h2⟩ | ⟨h1,h2⟩
 ·exact .of_left (intBits_le_64 h1 h2)
 ·exact .of_right (intBits_le_64 h1 h2)
def xP (k:Nat):(0:Int)<=2 ^ k:=by
 rw[two_pow_cast];exact Int.natCast_nonneg _
def Jd:fk X (acg .Add) (zj fun i j=>.int (i+j)):=Mx fun _ _ _ _ _ _ _ q=>add_int q
def Je:fk X (acg .Sub) (zj fun i j=>.int (i-j)):=Mx fun _ _ _ _ _ _ _ q=>sub_int q
def Jf:fk X (acg .Mult) (rI tK fun i j=>.int (i*j)):=Ez fun _ _ _ _ _ _ _ hc q=>mul_int q hc.ok
def E1:fk X (acg .FloorDiv) (rI B3 fun i j=>.int (i / j)):=Ez fun i j _ _ _ _ _ hc q=>by
 have h1:(0:Int)<j:=hc.1;have h2:j<1073741824:=hc.2;exact floordiv_int ∅ (by rw[adj i ∅];exact q) (.inl (ad6 ∅))
def Jg:fk X (acg .Mod) (rI (fun _ j=>0<j) fun i j=>.int (i % j)):=Ez fun i j _ _ _ _ _ hc q=>by
 have h1:(0:Int)<j:=hc;exact mod_int' ∅ (by rw[Int.fmod_eq_emod_of_nonneg i ∅];exact q)
def Jh:fk X (acg .Pow) (rI EZ fun i j=>.int (i ^ j.toNat)):=Ez fun _ _ _ _ _ _ _ hc q=>pow_int_small hc.1 hc.2.1 hc.2.2 q
def Ji:fk X (acg .RShift) (rI (fun _ j=>0<=j) fun i j=>.int (i / 2 ^ j.toNat)):=Ez fun i j _ _ _ _ _ hc q =>
 rshift_int hc (by rw[adj i (xP _)];exact q)
def Wj {f:Value->Sem Value}{g:Int->Int}
  (rule:∀ (i:Int) (t:Tok) (s:j_) (Q:Value->j_->Prop) (E:Value->j_->Prop),Q (.int (g i) s.toks) { s with toks:=s.toks+1 }->wpAny '0' X.A (f (.int i t)) Q E s) :
  RL X f (rU fun i=>.int (g i)):=by
 intro pins s σ H x v Q I rx h;obtain⟨i,rfl,q⟩:=h;ext i;exact rule i t s _ _ ⟨.int (g i),H,I.tok _,⟨_,rfl⟩,q⟩
def Jj:RL X (unaryOp .USub) (rU fun i=>.int (-i)):=Wj fun _ _ _ _ _ q=>neg_int q
end
noncomputable def Jk:V->V->Bool
 | .az,.az=>true | .az,.int _=>true | .int _,.az=>true | .az,.bl _=>true | .bl _,.az=>true | .az,.str _=>true | .str _,.az=>true
 | .int _,.int _=>true | .bl _,.bl _=>true | .str _,.str _=>true | .zh _,.zh _=>true
 | .int _,.str _=>true | .str _,.int _=>true | .bl _,.str _=>true | .str _,.bl _=>true
 | _,_=>false
def UT:R2:=fun x y H Q=>Jk x y=true/\Q (.bl (decide (x=y))) H
def UU:R2:=fun x y H Q=>Jk x y=true/\Q (.bl (!decide (x=y))) H
def zk {i j:Int}:decide (V.int i=V.int j)=(i==j):=by
 rw[Z6];simp
def B4 {i j:Bool}:decide (V.bl i=V.bl j)=(i==j):=by
 rw[Z6];simp
def zl {i j:Str}:decide (V.str i=V.str j)=(i==j):=by
 rw[Z6];simp
def zo {i j:Array UInt8}:decide (V.zh i=V.zh j)=(i.toList==j.toList):=by
 rw[Z6]
 cases i
 cases j
 simp
section
variable {X:Cx}{a b c:Expr}{ta tb tc:TE}{pos:Pos}
def aG {pins:List (Addr×Obj)}{σ:St}{H:Hp}{s:j_}{Q:VK}{k k':Bool} (I:Inv X pins σ H s) (q:Q (.bl k) H) (e:k=k'):EP X pins σ Q (.bool k') s:=by
 subst e;exact⟨.bl k,H,I,rfl,q⟩
def My:fk X (ZF .Eq) UT:=by
 ext f;obtain⟨hs,q⟩:=h
 cases x with
 | az =>
  cases rx
  cases y with
  | az=>cases ry;exact PySem.EqNone.eq_none_none (aG I q (3))
  | bl j=>cases ry;exact PySem.EqNone.eq_none_bool (aG I q (3))
  | int j=>ext h;exact PySem.EqNone.eq_none_int (aG I q (3))
  | str j=>ext h;exact PySem.EqNone.eq_none_str (aG I q (3))
  | _=>exact absurd (show false=true from hs) u_
 | bl i =>
  cases rx
  cases y with
  | az=>cases ry;exact PySem.EqNone.eq_bool_none (aG I q (3))
  | bl j=>cases ry;exact eq_bool (aG I q B4)
  | str j=>ext h;exact PySem.EqMixed.eq_bool_str (aG I q (3))
  | _=>exact absurd (show false=true from hs) u_
 | int i =>
  ext i
  cases y with
  | az=>cases ry;exact PySem.EqNone.eq_int_none (aG I q (3))
  | int j=>ext h;exact eq_int (aG I q zk)
  | str j=>ext h;exact PySem.EqMixed.eq_int_str (aG I q (3))
  | _=>exact absurd (show false=true from hs) u_
 | str i =>
  ext i
  cases y with
  | az=>cases ry;exact PySem.EqNone.eq_str_none (aG I q (3))
  | bl j=>cases ry;exact PySem.EqMixed.eq_str_bool (aG I q (3))
  | int j=>ext h;exact PySem.EqMixed.eq_str_int (aG I q (3))
  | str j=>ext h;exact eq_str (aG I q zl)
  | _=>exact absurd (show false=true from hs) u_
 | zh i =>
  ext i
  cases y with
  | zh j=>ext h;exact PySem.W.eq_bytes (aG I q zo)
  | _=>exact absurd (show false=true from hs) u_
 | _=>cases y<;>exact absurd (show false=true from hs) u_
def Mz:fk X (ZF .NotEq) UU:=by
 ext f;obtain⟨hs,q⟩:=h
 cases x with
 | az =>
  cases rx
  cases y with
  | az=>cases ry;exact PySem.EqNone.ne_none_none (aG I q (3))
  | bl j=>cases ry;exact PySem.EqNone.ne_none_bool (aG I q (3))
  | int j=>ext h;exact PySem.EqNone.ne_none_int (aG I q (3))
  | str j=>ext h;exact PySem.EqNone.ne_none_str (aG I q (3))
  | _=>exact absurd (show false=true from hs) u_
 | bl i =>
  cases rx
  cases y with
  | az=>cases ry;exact PySem.EqNone.ne_bool_none (aG I q (3))
  | bl j=>cases ry;exact ne_bool (aG I q (congrArg not B4))
  | str j=>ext h;exact PySem.EqMixed.ne_bool_str (aG I q (3))
  | _=>exact absurd (show false=true from hs) u_
 | int i =>
  ext i
  cases y with
  | az=>cases ry;exact PySem.EqNone.ne_int_none (aG I q (3))
  | int j=>ext h;exact ne_int (aG I q (congrArg not zk))
  | str j=>ext h;exact PySem.EqMixed.ne_int_str (aG I q (3))
  | _=>exact absurd (show false=true from hs) u_
 | str i =>
  ext i
  cases y with
  | az=>cases ry;exact PySem.EqNone.ne_str_none (aG I q (3))
  | bl j=>cases ry;exact PySem.EqMixed.ne_str_bool (aG I q (3))
  | int j=>ext h;exact PySem.EqMixed.ne_str_int (aG I q (3))
  | str j=>ext h;exact ne_str (aG I q (congrArg not zl))
  | _=>exact absurd (show false=true from hs) u_
 | zh i =>
  ext i
  cases y with
  | zh j=>ext h;exact PySem.W.ne_bytes (aG I q (congrArg not zo))
  | _=>exact absurd (show false=true from hs) u_
 | _=>cases y<;>exact absurd (show false=true from hs) u_
def MA:fk X (ZF .Lt) (zj fun i j=>.bl (decide (i<j))):=EY fun _ _ _ _ _ _ _ q=>lt_int q
def MB:fk X (ZF .LtE) (zj fun i j=>.bl (decide (i<=j))):=EY fun _ _ _ _ _ _ _ q=>le_int q
def MC:fk X (ZF .Gt) (zj fun i j=>.bl (decide (j<i))):=EY fun _ _ _ _ _ _ _ q=>gt_int q
def MD:fk X (ZF .GtE) (zj fun i j=>.bl (decide (j<=i))):=EY fun _ _ _ _ _ _ _ q=>ge_int q
def rV:fk X (ZF .In) (fun x y H Q=>∃ i j,x=.str i/\y=.str j/\Q (.bl (!(aaK j i 0 j.length 1).isEmpty)) H):=by
 ext f;obtain⟨i,j,rfl,rfl,q⟩:=h;ext i;ext h;exact in_str (aG I q rfl)
def Jl:fk X (ZF .Is) (fun x y H Q=>y=.az/\Q (.bl (decide (x=.az))) H):=by
 ext f;obtain⟨rfl,q⟩:=h
 cases ry
 refine is_none_gen (aG I q ?_)
 cases x<;>first
  | (cases rx;rfl)
  | (obtain⟨t,rfl⟩:=rx;rfl)
def E2:fk X (ZF .IsNot) (fun x y H Q=>y=.az/\Q (.bl (!decide (x=.az))) H):=by
 ext f;obtain⟨rfl,q⟩:=h
 cases ry
 refine isnot_none_gen (aG I q ?_)
 cases x<;>first
  | (cases rx;rfl)
  | (obtain⟨t,rfl⟩:=rx;rfl)
def fk.or {f:Value->Value->Sem Value}{r r':R2} (h:fk X f r) (h':fk X f r'):fk X f (fun x y H Q=>r x y H Q∨r' x y H Q):=by
 intro pins s σ H x y v u Q I rx ry q;rcases q with q | q
 ·exact h pins s σ H x y v u Q I rx ry q
 ·exact h' pins s σ H x y v u Q I rx ry q
def B5 (b:Expr) {op:CmpOp} (h:op≠.In:=by decide) (h2:op≠.NotIn:=by decide):aaf op b=false:=by
 have e1:(op==CmpOp.In)=false:=by cases op<;>first | rfl | exact absurd rfl h
 have e2:(op==CmpOp.NotIn)=false:=by cases op<;>first | rfl | exact absurd rfl h2
 cases b<;>simp [aaf,e1,e2]
def nY {op:CmpOp}{r:R2} (ho:fk X (ZF op) r) (ha:PE X a ta) (hb:PE X b tb) (hm:aaf op b=false):PE X (.Compare a [op] [b] pos) (B2 r ta tb):=by
 ext d;exact wpAny_Compare1 (Jc ha hb I h fun v u s2 x y H2 I2 rx ry q=>ho pins s2 σ H2 x y v u Q I2 rx ry q) hm
def G6 (t:TE):TT:=fun σ H Q=>t σ H fun x H'=>∃ k,x=.bl k/\Q k H'
def E3 {op:CmpOp}{r:R2} (ho:fk X (ZF op) r) (ha:PE X a ta) (hb:PE X b tb) (hm:aaf op b=false):PT X (.Compare a [op] [b] pos) (G6 (B2 r ta tb)):=by
 ext d
 refine aeq (aX (ha pins s σ H _ I h) fun v s1 ⟨x,H1,I1,r1,q1⟩=>aX (hb pins s1 σ H1 _ I1 q1) fun u s2 ⟨y,H2,I2,r2,q2⟩ =>
  aX (ho pins s2 σ H2 x y v u _ I2 r1 r2 q2) fun c s3 ⟨z,H3,I3,r3,k,e,q3⟩=>?_) hm
 subst e
 cases r3
 exact ZQ ⟨H3,I3,q3⟩
def xQ (r r':R2) (ta tb tc:TE):TE:=fun σ H Q=>ta σ H fun x H1=>tb σ H1 fun y H2=>r x y H2 fun z H3=>∃ k,z=.bl k /\
 (if k=true then tc σ H3 fun w' H4=>r' y w' H4 Q else Q (.bl false) H3)
theorem B6 {op Jm:CmpOp}{r r':R2} (ho:fk X (ZF op) r) (l5:fk X (ZF Jm) r') (ha:PE X a ta) (hb:PE X b tb) (hc:PE X c tc)
  (hm:lastMarks [op,Jm] [b,c]=false:=by with_unfolding_all rfl):PE X (.Compare a [op,Jm] [b,c] pos) (xQ r r' ta tb tc):=by
 ext d
 refine Compare_chain (aX (ha pins s σ H _ I h) fun v s1 ⟨x,H1,I1,r1,q1⟩=>chain_link (aX (hb pins s1 σ H1 _ I1 q1) fun u s2 ⟨y,H2,I2,r2,q2⟩ =>
  aX (ho pins s2 σ H2 x y v u _ I2 r1 r2 q2) fun d s3 ⟨z,H3,I3,r3,k,e,q3⟩=>?_)) hm
 subst e
 cases r3
 refine ZQ ?_
 cases k with
 | false=>exact ite_ff ⟨.bl false,H3,I3,rfl,q3⟩
 | true=>exact ite_tt (chain_last (aX (hc pins s3 σ H3 _ I3 q3) fun w' s4 ⟨z',H4,I4,r4,q4⟩=>l5 pins s4 σ H4 y z' u w' Q I4 r2 r4 q4))
theorem B7 {op Jm:CmpOp}{r r':R2} (ho:fk X (ZF op) r) (l5:fk X (ZF Jm) r') (ha:PE X a ta) (hb:PE X b tb) (hc:PE X c tc)
  (hm:lastMarks [op,Jm] [b,c]=false:=by with_unfolding_all rfl):PT X (.Compare a [op,Jm] [b,c] pos) (G6 (xQ r r' ta tb tc)):=by
 ext d
 refine isTrue_chain (aX (ha pins s σ H _ I h) fun v s1 ⟨x,H1,I1,r1,q1⟩=>test_link (aX (hb pins s1 σ H1 _ I1 q1) fun u s2 ⟨y,H2,I2,r2,q2⟩ =>
  aX (ho pins s2 σ H2 x y v u _ I2 r1 r2 q2) fun d s3 ⟨z,H3,I3,r3,k,e,q3⟩=>?_)) hm
 subst e
 cases r3
 refine ZQ ?_
 cases k with
 | false =>
  obtain⟨k',e',q'⟩:=q3
  cases e'
  exact ite_ff ⟨H3,I3,q'⟩
 | true =>
  refine ite_tt (test_last (aX (hc pins s3 σ H3 _ I3 q3) fun w' s4 ⟨z',H4,I4,r4,q4⟩=>aX (l5 pins s4 σ H4 y z' u w' _ I4 r2 r4 q4) fun d' s5 ⟨z2,H5,I5,r5,k2,e2,q5⟩=>?_));subst e2
  cases r5
  exact ZQ ⟨H5,I5,q5⟩
def ME (K:e_) (x:V) (H:Hp) (k:Bool):Prop :=
 match x with
 | .az=>k=false
 | .bl b=>k=b
 | .int i=>k=(i != 0)
 | .str y=>y.length<=sizeLine/\k=((y.length:Int) != 0)
 | .zh y=>y.size<=sizeLine/\k=((y.size:Int) != 0)
 | .ref p=>(∃ xs,cE K H p xs/\k = !xs.isEmpty)∨(∃ xs,eV K H p xs/\k = !xs.isEmpty)∨∃ kvs,H p=some (.dK kvs)/\k = !kvs.isEmpty
 | _=>False
def xR {κ:Type}{kvs:List (κ×V)}{vs:List (κ×Value)} (r:KV kvs vs):(!vs.isEmpty) = !kvs.isEmpty:=by
 cases r<;>rfl
def oI {xs:List V}{ai:List Value} (r:Vals xs ai):(!ai.toArray.isEmpty) = !xs.isEmpty:=by
 cases r<;>simp
def l9:(sizeLine:Nat)<2 ^ 63:=by rw[af0];decide
def Jn:RM X (fun x H Q=>∃ k,ME X.K x H k/\Q k H):=by
 intro pins s σ H x v Q I rx h;obtain⟨k,e,q⟩:=h;have hl:=l9;have hs:sizeLine=16777216:=af0
 cases x with
 | az =>
  cases rx
  have e':k=false:=e;subst e';exact truthy_none ⟨H,I,q⟩
 | bl b =>
  cases rx
  have e':k=b:=e;subst e';exact ZQ ⟨H,I,q⟩
 | int i =>
  ext i;have e':k=(i != 0):=e;subst e';exact PySem.P.truthy_int ⟨H,I,q⟩
 | str y =>
  ext i;obtain⟨hy,e'⟩:y.length<=sizeLine/\k=((y.length:Int) != 0):=e;subst e';exact PySem.P.truthy_str ∅ ⟨H,I.tok _,q⟩
 | zh y =>
  ext i;obtain⟨hy,e'⟩:y.size<=sizeLine/\k=((y.size:Int) != 0):=e;subst e';exact PySem.W.truthy_bytes ∅ ⟨H,I.tok _,q⟩
 | ref p =>
  cases rx
  have e':(∃ xs,cE X.K H p xs/\k = !xs.isEmpty)∨(∃ xs,eV X.K H p xs/\k = !xs.isEmpty)∨∃ kvs,H p=some (.dK kvs)/\k = !kvs.isEmpty:=e;rcases e' with ⟨xs,hx,e'⟩ | ⟨xs,hx,e'⟩ | ⟨kvs,hx,e'⟩
  ·subst e';obtain⟨ai,r,pl,hz⟩:=I.list hx;have hlen:=r.length;exact wpAny_truthy_list pl.isList (by simp only[H_];lia) ⟨H,I.tok _,by rw[oI r];exact q⟩
  ·subst e';obtain⟨ai,r,pl,hz⟩:=I.tuple hx;have hlen:=r.length;exact truthy_tuple pl (by simp only[H_];lia) ⟨H,I.tok _,by rw[oI r];exact q⟩
  ·subst e';obtain⟨hz,hS,vs,r,m⟩:kvs.length<=sizeLine/\(p==abo)=false/\∃ vs,KV kvs vs/\s.heap.DictOf (aL X.prog X.w) p vs:=I.aW p _ hx;have hlen:kvs.length=vs.length:=adL r;exact wpAny_truthy_dict hS m ∅ ⟨H,I.tok _,by rw[xR r];exact q⟩
 | _=>exact (show False from e).elim
def B8 (ha:PE X a ta) (he:∀ whole,aex a X.env whole=(do let v <-whole;aeQ a.pos;adx [v] (truthy v))) :
  PT X a (fun σ H Q=>ta σ H fun x H'=>∃ k,ME X.K x H' k/\Q k H'):=by
 ext d;exact isTrue_plain (aX (ha pins s σ H _ I h) fun v s1 ⟨x,H1,I1,r1,q1⟩=>Jn pins s1 σ H1 x v Q I1 r1 q1) (he _)
def xS:fk X (acg .Add) (fun x y H Q=>∃ i j,x=.str i/\y=.str j/\i.length+j.length<=sizeLine/\Q (.str (i++j)) H):=by
 ext f;obtain⟨i,j,rfl,rfl,hz,q⟩:=h;ext i;ext h;exact add_str (fun t' tk=>⟨.str (i++j),H,I.tok _,⟨_,rfl⟩,q⟩) hz
def vals1 {x:V}{us:List Value} (r:Vals [x] us):∃ u,us=[u]/\RelV x u:=by
 cases r with
 | cons r1 r2=>cases r2;exact⟨_,rfl,r1⟩
def vals2 {x y:V}{us:List Value} (r:Vals [x,y] us):∃ u w',us=[u,w']/\RelV x u/\RelV y w':=by
 cases r with
 | cons r1 r2 =>
  cases r2 with
  | cons r3 r4=>cases r4;exact⟨_,_,rfl,r1,r3⟩
def Az (hc:X.calm=true):bj X (.builtin "min") (fun xs H Q=>∃ i j,xs=[.int i,.int j]/\Q (.int (if j<i then j else i)) H):=by
 ext j;obtain⟨i,j,rfl,q⟩:=h;obtain⟨u,w',rfl,⟨t,rfl⟩,⟨t',rfl⟩⟩:=vals2 r;refine min_two_ints (I.ok.hd hc) fun h' tk k=>⟨_,H,I.kept k,?_,q⟩
 by_cases hj:j<i
 ·rw[z_ hj,z_ hj];exact⟨_,rfl⟩
 ·rw[s_ hj,s_ hj];exact⟨_,rfl⟩
def AA:bj X (.type "int") (fun xs H Q=>(∃ i,xs=[.int i]/\Q (.int i) H)∨∃ k,xs=[.bl k]/\Q (.int (if k then 1 else 0)) H):=by
 ext j;rcases h with ⟨i,rfl,q⟩ | ⟨k,rfl,q⟩
 ·obtain⟨u,rfl,t,rfl⟩:=vals1 r;exact call_int_int ⟨.int i,H,I,⟨_,rfl⟩,q⟩
 ·obtain⟨u,rfl,r1⟩:=vals1 r
  cases r1
  exact call_int_bool ⟨.int (if k then 1 else 0),H,I.tok _,⟨_,rfl⟩,q⟩
end
structure xT (h:Heap) (x dx C:Addr) (mA:Str->m_ Value):Prop where
 obj:h.get? x=some (aaM C dx)
 ns:h.Ns1 dx mA
 ne:dx≠x
def AB {h:Heap}{dx:Addr}{mA:Str->m_ Value} (n:h.Ns1 dx mA):∃ od,h.get? dx=some od/\∀ name,adk name od=some (mA name):=by
 obtain⟨o,es,ep,ho,hd,hk,_,hm⟩:=n;refine⟨o,ho,fun name=>?_⟩;have e:=hm name;unfold nsFind findBy at e;rw[<-Array.find?_toList] at e;unfold adk;rw[hd];dsimp only;split
 ·rename_i y q;rw[q] at e;exact congrArg some e
 ·rename_i q;rw[q] at e
  have a:es.toList.any (·.refKey)=false:=by
   rw[List.any_eq_false];intro y hy;obtain⟨z,t,Jo⟩:=hk y (Array.mem_toList_iff.mp hy);simp [DictEntry.refKey,Jo]
  have a':¬ es.toList.any (·.refKey)=true:=by rw[a];exact u_
  rw[s_ a'];exact congrArg some e
def xT.look {h:Heap}{x dx C:Addr}{mA:Str->m_ Value} (I:xT h x dx C mA):∃ od,PySem.W.InstAt h x (aaM C dx) C (some od)/\∀ name,adk name od=some (mA name) :=
 let ⟨od,ho,hl⟩:=AB I.ns
 ⟨od,⟨I.obj,rfl,rfl,ho⟩,hl⟩
section
variable {prog:N_}{w:World}{A:ZN}{E:Value->j_->Prop}{s:j_}{K:e_}{x dx C f:Addr}{mA:Str->m_ Value}{name:Str}{v:Value}
def get_map {expr:Bool}{Q:Value->j_->Prop} (X:K.In s.heap) (I:xT s.heap x dx C mA) (hg:ab4 K C name=true) (hh:acE K C=true)
  (ha:ZC K (.ref C) name=some none) (hv:mA name=some v) (B9:afP v=true) (h:Q v { s with toks:=s.toks+1 }) :
  wpAny '3' A (getAttr (.ref x) name expr) Q E s:=by
 obtain⟨od,J,hl⟩:=I.look;exact PySem.W.get_value X J (ac8 hg).1 (PySem.W.findObj_own hh ha rfl (by rw[hl,hv])) B9 h
def Ca {pl:Sem Bool}{Q:Value×List Value->j_->Prop} (X:K.In s.heap) (I:xT s.heap x dx C mA) (hg:ab4 K C name=true)
  (hf:ZC K (.ref C) name=some (some (.ref f))) (ht:acF K (.ref f)=true) (hv:mA name=none) (h:Q (.ref f,[.ref x]) s) :
  wpAny '3' A (afQ (.ref x) name pl) Q E s:=by
 obtain⟨od,J,hl⟩:=I.look;exact PySem.W.method_fn X J (ac8 hg).1 (ac8 hg).2 hf (aap.mp ht) (by show (adk name od).map (·.isSome)=some false;rw[hl,hv];rfl) h
def E4 {ns:List Str}{Q:Unit->j_->Prop} (X:K.In s.heap) (I:xT s.heap x dx C mA)
  (hs:ZC K (.ref C) "__setattr__" = some (some (.builtin "object.__setattr__"))) (hp:adA K C=true) (ht:aeh K C name=some none) (hh:acE K C=true)
  (hw:afn mA ns) (hsz:ns.length<=sizeLine)
  (h:∀ h',xT h' x dx C (fun y=>if y=name then some v else mA y)->aaT dx s.heap h'->Q () { s with heap:=h',toks:=s.toks+2 }) :
  wpAny '3' A (setAttr (.ref x) name v) Q E s:=by
 obtain⟨od,J,hl⟩:=I.look;refine PySem.W.set_plain X J hs (PySem.W.osa_open (s:={ s with toks:=s.toks+1 }) (r:=none) X J hp ht fun b=>?_);obtain⟨cd,hc,qK⟩:=PySem.W.any_some hh;have hx:s.heap.get? x=some ⟨.ref C,some dx,.plain,#[]⟩:=I.obj;refine c_ (q_ (c_ (c_ (wpAny_loadPart hx (c_ (PySem.W.Looks.here (s:={ s with toks:=s.toks+1 }) (PySem.W.looks_clsIn X hc) ?_))))));rw[qK];refine q_ (a:=some dx) (c_ (q_ (c_ ?_)));refine wpAny_nsSet1 (s:={ s with toks:=s.toks+1 }) I.ns fun h' Jp jX=>?_
 obtain⟨oD,YW,YX,Wk,Wl,Wm⟩:=Jp.count (PySem.Within.cons name v hw);refine c_ (wpAny_lookBehind Wk (by rw[Wl];exact pastItsLine_dict (R_ Wm (by rw[x_];lia))) ?_);exact q_ (h _ ⟨(jX.2 _ (ZM I.ne)).trans I.obj,Jp,I.ne⟩ jX)
def Cb {R:Result->j_->Prop}{vs:List Value}{kw:List (Str×Value)} (X:K.In s.heap) (hm:aei K C=true)
  (hi:ZC K (.ref C) "__init__" = some (some (.ref f))) (hf:PySem.W.typeIn K (.ref f)=some (.type "function"))
  (h:ab5 '3' (A.under (.builtin "type.__call__" ⟨.ref C::vs,kw⟩)) (.call (.ref f) ⟨.ref '7'::vs,kw⟩) (PySem.W.InitBack '7' R)
   { s with heap:=(s.heap.push aae).push (aaM C s.heap.objs.size) }) :
  ab5 '3' A (.call (.ref C) ⟨vs,kw⟩) R s:=by
 obtain⟨hh,g,d,t,os⟩:=s;exact PySem.W.make_core (PySem.W.makes_of X hm) (PySem.W.looks_findIn X hi) (fun self=>PySem.W.bind_fn X self hf) (.inl rfl) h
end
noncomputable def gm (f:Str) (v:V):List (Str×V)->List (Str×V)
 | []=>[(f,v)]
 | (g,x)::r=>if g=f then (g,v)::r else (g,x)::gm f v r
theorem mY (f g:Str) (v:V):∀ fs:List (Str×V),(gm f v fs).lookup g=if g=f then some v else fs.lookup g
 | []=>by
  show abj g [(f,v)]=_;by_cases h:g=f
  ·have hb:(g==f)=true:=aap.mpr h;simp only[abj,hb,z_ h]
  ·have hb:(g==f)=false:=aaw.mpr h;simp only[abj,hb,s_ h]
 | (k,x)::r=>by
  have ih:=mY f g v r;rw[show gm f v ((k,x)::r)=(if k=f then (k,v)::r else (k,x)::gm f v r) from rfl];by_cases hk:k=f
  ·rw[z_ hk];by_cases h:g=k
   ·have hb:(g==k)=true:=aap.mpr h;simp only[abj,hb,z_ (h.trans hk)]
   ·have hb:(g==k)=false:=aaw.mpr h;simp only[abj,hb,s_ (fun e:g=f=>h (e.trans hk.symm))]
  ·rw[s_ hk];by_cases h:g=k
   ·have hb:(g==k)=true:=aap.mpr h;simp only[abj,hb,s_ (fun e:g=f=>hk (h.symm.trans e))]
   ·have hb:(g==k)=false:=aaw.mpr h;simp only[abj,hb];exact ih
theorem mh (f:Str) (v:V):∀ fs:List (Str×V),f∈(gm f v fs).map (·.1)/\∀ g,g∈fs.map (·.1)->g∈(gm f v fs).map (·.1)
 | []=>⟨by simp [gm],fun g h=>by simp at h⟩
 | (k,x)::r=>by
  obtain⟨i1,i2⟩:=mh f v r;rw[show gm f v ((k,x)::r)=(if k=f then (k,v)::r else (k,x)::gm f v r) from rfl];by_cases hk:k=f
  ·rw[z_ hk];subst hk;exact⟨(3),fun g h=>by simpa using h⟩
  ·rw[s_ hk];refine⟨?_,fun g h=>?_⟩
   ·rw[r_];exact J_ _ i1
   ·rw[r_] at h ⊢;rcases C_.mp h with e | e
    ·exact C_.mpr (.inl e)
    ·exact J_ _ (i2 g e)
theorem mZ (f:Str) (v:V):∀ fs:List (Str×V),(gm f v fs).length<=fs.length+1
 | []=>by simp [gm]
 | (k,x)::r=>by
  have ih:=mZ f v r;rw[show gm f v ((k,x)::r)=(if k=f then (k,v)::r else (k,x)::gm f v r) from rfl];by_cases hk:k=f
  ·rw[z_ hk,x_,x_];lia
  ·rw[s_ hk,x_,x_];lia
def kM.some_of {v:V}{o:m_ Value} (r:kM (some v) o):∃ u,o=some u/\RelV v u:=by
 cases o with
 | none=>exact (show False from r).elim
 | some u=>exact⟨u,rfl,r⟩
def kM.none_of {o:m_ Value} (r:kM none o):o=none:=by
 cases o with
 | none=>rfl
 | some u=>exact (show False from r).elim
def AE {v:V}{u:Value} (r:RelV v u):afP u=true:=by
 cases v with
 | az=>cases (show u=abF from r);rfl
 | bl b=>cases (show u=adg b from r);rfl
 | int i=>obtain⟨t,e⟩:=(show ∃ t,u=acQ i t from r);cases e;rfl
 | str x=>obtain⟨t,e⟩:=(show ∃ t,u=adf x t from r);cases e;rfl
 | zh b=>obtain⟨t,e⟩:=(show ∃ t,u=Value.bytes b t from r);cases e;rfl
 | Ir b=>obtain⟨t,e⟩:=(show ∃ t,u=afZ b t from r);cases e;rfl
 | ref a=>cases (show u=Zq a from r);rfl
 | ty n=>cases (show u=aa2 n from r);rfl
section
variable {P:N_}{w:World}{H H':Hp}{h h':Heap}{a C dx:Addr}{fs fR:List (Str×V)}
def nZ (aW:jz P w H h) (e:H a=some (.ins C dx fs)):∃ mA,xT h a dx C mA/\(∀ f,kM (fs.lookup f) (mA f))/\afn mA (fs.map (·.1))/\fs.length<=1000/\H dx=some (.own a):=by
 obtain⟨d,z,ne,ob,mA,n,r,q⟩:=(show aQ P w H h a (.ins C dx fs) from aW a _ e);exact⟨mA,⟨ob,n,ne⟩,r,q,z,d⟩
end
structure vm (K:e_) (C:Addr):Prop where
 pg:ab4 K C abd=true
 hd:acE K C=true
 po:adA K C=true
 sa:ZC K (.ref C) "__setattr__" = some (some (.builtin "object.__setattr__"))
def vm.get {K:e_}{C:Addr} (c:vm K C) (f:Str):ab4 K C f=true:=c.pg
def ez (K:e_) (C:Addr) (f:Str):Prop:=ZC K (.ref C) f=some none
def ez.MF {K:e_}{C:Addr}{f:Str} (n:ez K C f):aeh K C f=some none:=by
 unfold aeh;rw[show ZC K (.ref C) f=some none from n];rfl
structure Meth (K:e_) (C:Addr) (m:Str) (f:Addr):Prop where
 at_:ZC K (.ref C) m=some (some (.ref f))
 fn:acF K (.ref f)=true
 kp:ZH K (.ref f)=true
section
variable {X:Cx}{pins:List (Addr×Obj)}{σ:St}{H:Hp}{s:j_}{a C dx:Addr}{fs:List (Str×V)}{f:Str}{v:V}{A:ZN}{E:Value->j_->Prop}
def xU {b:Bool}{Q:Value->j_->Prop} (I:Inv X pins σ H s) (e:H a=some (.ins C dx fs)) (c:vm X.K C) (n:ez X.K C f) (l:fs.lookup f=some v)
  (h:∀ u s',Inv X pins σ H s'->RelV v u->Q u s'):wpAny '0' A (getAttr (.ref a) f b) Q E s:=by
 obtain⟨mA,O,r,_,_,_⟩:=nZ I.aW e;obtain⟨u,hu,ru⟩:=kM.some_of (v:=v) (o:=mA f) (by rw[<-l];exact r f);exact get_map I.kK O (c.get f) c.hd n hu (AE ru) (h u _ (I.tok _) ru)
def oJ {m:Str}{g:Addr}{pl:Sem Bool}{Q:Value×List Value->j_->Prop} (I:Inv X pins σ H s) (e:H a=some (.ins C dx fs)) (c:vm X.K C) (k:Meth X.K C m g) (l:fs.lookup m=none)
  (h:Q (.ref g,[.ref a]) s):wpAny '0' A (afQ (.ref a) m pl) Q E s:=by
 obtain⟨mA,O,r,_,_,_⟩:=nZ I.aW e;have hn:mA m=none:=kM.none_of (by rw[<-l];exact r m);exact Ca I.kK O (c.get m) k.at_ k.fn hn h
def xV {y:V}{u:Value}{Q:Unit->j_->Prop} (I:Inv X pins σ H s) (e:H a=some (.ins C dx fs)) (c:vm X.K C) (n:ez X.K C f) (hl:fs.length<1000) (ry:RelV y u)
  (h:∀ s',Inv X pins σ (upd H a (.ins C dx (gm f y fs))) s'->Q () s'):wpAny '0' A (setAttr (.ref a) f u) Q E s:=by
 obtain⟨mA,O,r,wi,_,ho⟩:=nZ I.aW e;have hz:(fs.map (·.1)).length<=sizeLine:=by rw[a_,af0];lia
 refine E4 I.kK O c.sa c.po n.MF c.hd wi hz fun h' O' sb=>h _ ?_
 have hd:∃ o,h'.get? dx=some o:=let ⟨o,_,_,e',_⟩:=O'.ns;⟨o,e'⟩;refine I.write (x:=a) (e:=dx) (by rw[e];exact Z3) (.inr ho) (fun b q hb z=>(sb.2 b hb).trans z) hd ?_;refine⟨by rw[av O.ne];exact ho,?_,O.ne,O'.obj,_,O'.ns,fun g=>?_,fun g hg=>?_⟩
 ·have:=mZ f y fs;lia
 ·show kM ((gm f y fs).lookup g) (if g=f then some u else mA g);rw[mY];by_cases q:g=f
  ·rw[z_ q,z_ q];exact ry
  ·rw[s_ q,s_ q];exact r g
 ·by_cases q:g=f
  ·rw[q];exact (mh f y fs).1
  ·refine (mh f y fs).2 g (wi g fun z=>hg ?_);show (if g=f then some u else mA g)=none;rw[s_ q];exact z
def Inv.made (I:Inv X pins σ H s):Inv X pins σ (upd (upd H s.heap.objs.size (.own '7')) '7' (.ins C s.heap.objs.size []))
  { s with heap:=(s.heap.push aae).push (aaM C s.heap.objs.size) }:=by
 have e1:(s.heap.push aae).get? s.heap.objs.size=some aae:=w_ s.heap rfl
 have e2:((s.heap.push aae).push (aaM C s.heap.objs.size)).get? '7'=some (aaM C s.heap.objs.size):=by
  have:=w_ (s.heap.push aae) (o:=aaM C s.heap.objs.size) rfl;rwa [Z0] at this
 have e3:(s.heap.push aae).Ns s.heap.objs.size (fun _=>none):=⟨aae,#[],_,e1,rfl,(fun e he=>absurd he (3)),fun _=>rfl⟩;have I1:=I.laid (a:=s.heap.objs.size) (o:=.own '7') (h':=s.heap.push aae) (t':=s.toks) (fun b u q=>k_ _ q) (t_ _) ⟨_,e1⟩;refine I1.laid (a:=s.heap.objs.size+1) (o:=.ins C s.heap.objs.size []) (t':=s.toks) (fun b u q=>k_ _ q) (afp (Z0 _ _)) ?_;have ne:s.heap.objs.size≠s.heap.objs.size+1:=Q_ (abw _);refine⟨by rw[av ne,au],aal _,ne,e2,fun _=>none,(Heap.Ns1.of_empty e3).at fun o q=>k_ _ q,fun _=>Z3,fun y hy=>absurd rfl hy⟩
def E5 {prog:N_}{w:World}{env:Env}{e:Expr}{f:Str}{pos:Pos}{s:j_}{Q:Value->j_->Prop} (hb:abp e f env (eval e env)=eval e env)
  (h:wpAny '3' A (eval e env) (fun o s₁=>wpAny '3' A (getAttr o f true) Q E s₁) E s):wpAny '3' A (eval (.Attribute e f pos) env) Q E s :=
 Attribute_any_ h (by rw[arm_eval_Attribute,hb])
end
def RN (K:e_) (ta:TE) (f:Str):TE:=fun σ H Q=>ta σ H fun x H1=>∃ a C dx fs v,x=.ref a/\H1 a=some (.ins C dx fs)/\vm K C/\ez K C f/\fs.lookup f=some v/\Q v H1
def RO (K:e_) (ta tv:TE) (f:Str):TS:=fun D σ H=>tv σ H fun y H1=>ta σ H1 fun x H2=>∃ a C dx fs,x=.ref a/\H2 a=some (.ins C dx fs)/\vm K C/\ez K C f/\fs.length<1000 /\
 D.nx σ (upd H2 a (.ins C dx (gm f y fs)))
section
variable {X:Cx}{o e value:Expr}{f:Str}{pos pos' MG:Pos}{ta tv:TE}
def Jq (he:PE X e ta) (hb:abp e f X.env (eval e X.env)=eval e X.env):PE X (.Attribute e f pos) (RN X.K ta f):=by
 ext d;refine E5 hb (aX (he pins s σ H _ I h) fun u s1 ⟨x,H1,I1,rx,a,C,dx,fs,v,ex,ea,c,n,l,q⟩=>?_);subst ex;obtain rfl:u=Zq a:=rx;exact xU I1 ea c n l fun u' s2 I2 ru=>⟨v,H1,I2,ru,q⟩
def Jr (ha:PE X o ta) (hv:PE X value tv) (hs:aaI value (some (.Attribute o f pos')) pos.line X.env=pure false):PS X (.Assign [.Attribute o f pos'] value pos) (RO X.K ta tv f):=by
 intro pins s σ H D I h;refine plainObj_wpAny_Assign_Attribute (aX (hv pins s σ H _ I h) fun u s1 ⟨y,H1,I1,ry,q⟩=>aX (ha pins s1 σ H1 _ I1 q) fun ov s2 ⟨x,H2,I2,rx,a,C,dx,fs,ex,ea,c,n,l,q2⟩=>?_) hs;subst ex;obtain rfl:ov=Zq a:=rx;exact xV I2 ea c n l ry fun s3 I3=>⟨σ,_,I3,q2⟩
end
section
variable {X:Cx}{pins:List (Addr×Obj)}{σ:St}{H:Hp}{s:j_}{A:ZN}{E:Value->j_->Prop}{Q:Value->j_->Prop}{c:Value}{b:Bool}
inductive jY (K:e_) (H:Hp):V->Value->Prop where
 | az:jY K H .az (.type "NoneType")
 | bl (x:Bool):jY K H (.bl x) (.type "bool")
 | int (i:Int):jY K H (.int i) (.type "int")
 | str (x:Str):jY K H (.str x) (.type "str")
 | Ir (x:UInt64):jY K H (.Ir x) (.type "float")
 | lst {a:Addr}{xs:List V} (e:H a=some (.lst xs)):jY K H (.ref a) (.type "list")
 | eT {a:Addr}{o:Obj}{xs:List V} (e:H a=some (.eT o (.lst xs))):jY K H (.ref a) (.type "list")
 | tup {a:Addr}{xs:List V} (e:H a=some (.tup xs)):jY K H (.ref a) (.type "tuple")
 | dK {a:Addr}{kvs:List (Key×V)} (e:H a=some (.dK kvs)):jY K H (.ref a) (.type "dict")
 | dT {a:Addr}{kvs:List (List Key×V)} (e:H a=some (.dT kvs)):jY K H (.ref a) (.type "dict")
 | ins {a C dx:Addr}{fs:List (Str×V)} (e:H a=some (.ins C dx fs)) (cl:vm K C) (ha:ZC K (.ref C) "__class__" = some (some (.builtin "object.__class__")))
   (hn:adB K (.builtin "object.__class__") "__get__" = some (some (.builtin "getset_descriptor.__get__"))) (UW:PySem.W.takesIn K (.builtin "object.__class__")=some true)
   (hm:PySem.W.mroIn K C (.type "object")=some true):jY K H (.ref a) (.ref C)
def AF {x:V}{u t:Value} (I:Inv X pins σ H s) (rx:RelV x u) (ty:jY X.K H x t) (e:acG X.K t c=some b) (h:∀ tk,Q (.bool b) { s with toks:=tk }) :
  wpAny '0' A (call (.builtin "isinstance") [u,c]) Q E s:=by
 cases ty with
 | az=>cases (show u=abF from rx);exact Z7 PySem.W.kitx_none I.kK Z3 e (6) h
 | bl y=>cases (show u=adg y from rx);exact Z7 PySem.W.kitx_bool I.kK Z3 e (6) h
 | int i=>obtain⟨t,q⟩:=(show ∃ t,u=acQ i t from rx);cases q;exact Z7 PySem.W.kitx_int I.kK Z3 e (6) h
 | str y=>obtain⟨t,q⟩:=(show ∃ t,u=adf y t from rx);cases q;exact Z7 PySem.W.kitx_str I.kK Z3 e (6) h
 | Ir y=>obtain⟨t,q⟩:=(show ∃ t,u=afZ y t from rx);cases q;exact Z7 PySem.W.kitx_float I.kK Z3 e (6) h
 | @lst a xs ea =>
  cases (show u=Zq a from rx)
  obtain⟨_,_,n,_,h1⟩:=(show aQ X.prog X.w H s.heap a (.lst xs) from I.aW a _ ea);exact Z7 afq I.kK ⟨_,h1,rfl⟩ e (6) h
 | @eT a ob xs ea =>
  cases (show u=Zq a from rx)
  obtain⟨_,_,_,n,_,h1⟩:=(show aQ X.prog X.w H s.heap a (.eT ob (.lst xs)) from I.aW a _ ea);exact Z7 afq I.kK ⟨_,h1,rfl⟩ e (6) h
 | @tup a xs ea =>
  cases (show u=Zq a from rx)
  obtain⟨_,_,_,p⟩:=(show aQ X.prog X.w H s.heap a (.tup xs) from I.aW a _ ea);obtain⟨o,h1,h2,_⟩:=p;exact Z7 PySem.W.kitx_tuple I.kK ⟨o,h1,h2⟩ e (6) h
 | @dK a kvs ea =>
  cases (show u=Zq a from rx)
  obtain⟨_,_,vs,_,p⟩:=(show aQ X.prog X.w H s.heap a (.dK kvs) from I.aW a _ ea);obtain⟨o,es,ep,h1,h2,_⟩:=p;exact Z7 afr I.kK ⟨o,h1,h2.1⟩ e (6) h
 | @dT a kvs ea =>
  cases (show u=Zq a from rx)
  obtain⟨_,_,xs,_,o,es,ep,h1,h2,_⟩:=(show aQ X.prog X.w H s.heap a (.dT kvs) from I.aW a _ ea);exact Z7 afr I.kK ⟨o,h1,h2.1⟩ e (6) h
 | @ins a C dx fs ea cl ha hn UW hm =>
  cases (show u=Zq a from rx)
  obtain⟨mA,O,_⟩:=nZ I.aW ea;obtain⟨od,J,_⟩:=O.look;exact Z7 (PySem.W.kitx_own (cl.get _) cl.hd ha hn UW hm) I.kK J e (6) h
end
structure cg (k:Nat) (A:ZN):Prop where
 hd:A.handled=none
 dp:A.depth+3*k+5<aeB
 un:A.units+16*k+200<cLine
def cg.mono {j k:Nat}{A:ZN} (r:cg k A) (h:j<=k):cg j A:=⟨r.hd,by have:=r.dp;lia,by have:=r.un;lia⟩
theorem cg.deeper {k:Nat}{A:ZN} (r:cg (k+1) A) (env:Env):cg k (A.deeper env) :=
 ⟨r.hd,by have:=r.dp;show A.depth+1+3*k+5<_;lia,by have:=r.un;show A.units+3+16*k+200<_;lia⟩
def xW {A:ZN}{C:Addr}{us:List Value}{kw:List (Str×Value)}:(A.under (.builtin "type.__call__" ⟨.ref C::us,kw⟩)).depth=A.depth+1:=by
 first | rfl | simp [afs,Code.weight,Code.isCreation,Code.isGuard,Code.isCaller,Code.frames,aft,guardIds]
def xX {A:ZN}{C:Addr}{us:List Value}{kw:List (Str×Value)}:(A.under (.builtin "type.__call__" ⟨.ref C::us,kw⟩)).units=A.units+1:=by
 first | rfl | simp [afs,Code.cUnits,Code.frames,aft]
def cg.make {k:Nat}{A:ZN} (r:cg (k+1) A) (C:Addr) (us:List Value) (kw:List (Str×Value)):cg k (A.under (.builtin "type.__call__" ⟨.ref C::us,kw⟩)) :=
 ⟨r.hd,by have:=r.dp;rw[xW];lia,by have:=r.un;rw[xX];lia⟩
theorem cg.depth {k:Nat}{A:ZN} (r:cg k A):A.depth<aeB:=by have:=r.dp;lia
theorem cg.units {k:Nat}{A:ZN} (r:cg k A):A.units+64<cLine:=by have:=r.un;lia
def MH:TA:=fun _ H Q=>Q [] H
def MI (ta:TE) (tr:TA):TA:=fun σ H Q=>ta σ H fun x H1=>tr σ H1 fun xs H2=>Q (x::xs) H2
section
variable {X:Cx}{e:Expr}{es:List Expr}{te:TE}{t:TA}{pos:Pos}
def bg:PA X [] MH:=fun _ _ _ _ H Q I h=>adC ⟨[],H,I,.nil,h⟩
def aA (ha:PE X e te) (hr:PA X es t) (hs:S_ (e::es) X.env=(false,eval e X.env)::S_ es X.env:=by rfl):PA X (e::es) (MI te t):=by
 intro pos pins s σ H Q I h;rw[hs];show wpAny _ _ (spliced ((false,eval e X.env)::aaV pos (S_ es X.env))) _ _ s;refine adl (aX (ha pins s σ H _ I h) fun u s1 ⟨x,H1,I1,r1,q1⟩=>?_);exact aX (hr pos pins s1 σ H1 _ I1 q1) fun us s2 ⟨xs,H2,I2,r2,q2⟩=>⟨x::xs,H2,I2,.cons r1 r2,q2⟩
def RP (t:TA):TE:=fun σ H Q=>t σ H fun xs H1=>xs.length<=sizeLine/\∀ p,H1 p=none->Q (.ref p) (upd H1 p (.tup xs))
def RQ (t:TA):TE:=fun σ H Q=>t σ H fun xs H1=>xs.length<=sizeLine/\∀ p,H1 p=none->Q (.ref p) (upd H1 p (.lst xs))
def Js {x1} (h:PA X es t):PE X (.Tuple es x1 pos) (RP t):=by
 intro pins s σ H Q I hq;refine wpAny_Tuple_spliced (aX (h pos pins s σ H _ I hq) fun us s1 ⟨xs,H1,I1,r,z,q⟩=>⟨by rw[<-r.length];exact z,?_⟩);have hf:H1 s1.heap.objs.size=none:=I1.aW.fresh (t_ _);refine⟨.ref s1.heap.objs.size,upd H1 s1.heap.objs.size (.tup xs),I1.laid (t':=s1.toks) (fun b u e=>k_ _ e) (t_ _) ?_,rfl,q _ hf⟩;exact⟨z,us,r,⟨_,w_ _ rfl,rfl,_,rfl⟩⟩
def Jt (h:PA X es t):PE X (.List es pos) (RQ t):=by
 intro pins s σ H Q I hq;refine wpAny_List_spliced (aX (h pos pins s σ H _ I hq) fun us s1 ⟨xs,H1,I1,r,z,q⟩=>⟨by rw[<-r.length];exact z,?_⟩);have hf:H1 s1.heap.objs.size=none:=I1.aW.fresh (t_ _);refine⟨.ref s1.heap.objs.size,upd H1 s1.heap.objs.size (.lst xs),I1.laid (t':=s1.toks) (fun b u e=>k_ _ e) (t_ _) ?_,rfl,q _ hf⟩;exact⟨z,us,0,r,w_ _ rfl⟩
end
noncomputable abbrev Sp:=List V->Hp->VK->XK->Prop
noncomputable abbrev xY:=List Env->Hp->j_->XK->Value->j_->Prop
structure vn (P:N_) (w:World) (K:e_) (mg:Str->m_ Value) (base:Heap) (A:ZN) (outer:List Env) (s:j_) (H:Hp):Prop where
 frames:A.frames=some outer
 mod:Mod K mg base
 bs:∀ b o,base.get? b=some o->s.heap.get? b=some o/\H b=none
 BP:base.objs.size<=s.heap.objs.size
 jI:s.heap.FunFrames base outer
 EN:∀ b∈u7 outer,H b=none
 aW:jz P w H s.heap
 bare:ada s.gens
def CE (outer:List Env) (P:N_) (w:World) (H:Hp) (s:j_) (Q:VK) (u:Value) (s':j_):Prop :=
 ∃ v H',s'.os=s.os/\ada s'.gens/\Un (u7 outer) [] H H' s.heap s'.heap/\jz P w H' s'.heap/\RelV v u/\Q v H'
def CR (CX:xY) (outer:List Env) (P:N_) (w:World) (H:Hp) (s:j_) (Q:VK) (E:XK) (r:Result) (s':j_):Prop :=
 match r with
 | .ok (.ret u)=>CE outer P w H s Q u s'
 | .ok _=>False
 | .error e=>CX outer H s E e s'
structure bN (P:N_) (w:World) (K:e_) (mg:Str->m_ Value) (base:Heap) (CX:xY) (k:Nat) (f:Addr) (fd:Z4) (ps:List Str) (sp:Sp):Prop where
 len:∀ vs H Q E,sp vs H Q E->vs.length=ps.length
 run:∀ (A:ZN) (outer:List Env) (s:j_) (H:Hp) (args:Args) (us:List Value) (vs:List V) (Q:VK) (E:XK),cg k A->vn P w K mg base A outer s H->afu s fd args (ps.zip us)->Vals vs us->sp vs H Q E ->
  ab5 (model P w) A (.call (.ref f) args) (CR CX outer P w H s Q E) s
theorem bN.mono {P:N_}{w:World}{K:e_}{mg:Str->m_ Value}{base:Heap}{CX:xY}{j k:Nat}{f:Addr}{fd:Z4}{ps:List Str}{sp:Sp} (F:bN P w K mg base CX j f fd ps sp) (h:j<=k) :
  bN P w K mg base CX k f fd ps sp:=⟨F.len,fun A outer s H args us vs Q E hr=>F.run A outer s H args us vs Q E (hr.mono h)⟩
def bN.imp {P:N_}{w:World}{K:e_}{mg:Str->m_ Value}{base:Heap}{CX:xY}{k:Nat}{f:Addr}{fd:Z4}{ps:List Str}{sp UX:Sp} (F:bN P w K mg base CX k f fd ps sp)
  (h:∀ vs H Q E,UX vs H Q E->sp vs H Q E):bN P w K mg base CX k f fd ps UX :=
 ⟨fun vs H Q E q=>F.len vs H Q E (h _ _ _ _ q),fun A outer s H args us vs Q E hr he hb hv hs=>F.run A outer s H args us vs Q E hr he hb hv (h _ _ _ _ hs)⟩
def vn.make {P:N_}{w:World}{K:e_}{mg:Str->m_ Value}{base:Heap}{A:ZN}{outer:List Env}{s:j_}{H:Hp} (e:vn P w K mg base A outer s H) (C:Addr) (us:List Value) (kw:List (Str×Value)) :
  vn P w K mg base (A.under (.builtin "type.__call__" ⟨.ref C::us,kw⟩)) outer s H:=⟨by first | exact e.frames | (simpa [afs,Code.envs,aft,pushEnvs] using e.frames),e.mod,e.bs,e.BP,e.jI,e.EN,e.aW,e.bare⟩
section
variable {X:Cx}{pins:List (Addr×Obj)}{σ:St}{H:Hp}{s s':j_}
def Inv.Ju (I:Inv X pins σ H s):vn X.prog X.w X.K X.mg X.base X.A X.stack s H :=
 ⟨I.ok.frames,I.ok.mod,I.bs,R_ I.ok.BP I.sz,I.stack,I.zi,I.aW,I.bare⟩
def Inv.after {Q:VK}{u:Value} (I:Inv X pins σ H s) (h:CE X.stack X.prog X.w H s Q u s'):EP X pins σ Q u s':=by
 obtain⟨v,H',os,bare,un,aW,r,q⟩:=h;obtain⟨hh,g,d,t,RS⟩:=s';obtain rfl:RS=s.os:=os;exact⟨v,H',I.call (h':=hh) (g':=g) (d':=d) (t':=t) (ch:=[]) un aW bare (fun b z=>absurd z (3)),r,q⟩
end
def Cc (sp:Sp) (dvs:List V) (E:XK) (t:TA):TE:=fun σ H Q=>t σ H fun vs H1=>sp (vs++dvs) H1 Q E
def Binds (K:e_) (fd:Z4) (ps:List Str) (ds:List Value):Prop :=
 ∀ (s:j_) (us:List Value),K.In s.heap->(us++ds).length=ps.length->afu s fd ⟨us,[]⟩ (ps.zip (us++ds))
def Binds.all {K:e_}{fd:Z4}{ps:List Str} (h:∀ us:List Value,us.length=ps.length->afv fd ⟨us,[]⟩=pure (ps.zip us)):Binds K fd ps []:=fun s us _ hl=>by
 rw[ZU] at hl ⊢;exact .of_eq (h us hl)
def Passes (CX:xY) (X:Cx) (E:XK):Prop:=∀ (pins:List (Addr×Obj)) (σ:St) (H:Hp) (s:j_) (e:Value) (s':j_),Inv X pins σ H s->CX X.stack H s E e s'->X.xe e s'
section
variable {X:Cx}{CX:xY}{k:Nat}{f C:Addr}{fd:Z4}{ps:List Str}{sp:Sp}{dvs:List V}{ds:List Value}{E:XK}{x m:Str}{p pos apos:Pos}{e o:Expr}{es:List Expr}{ta:TE}{t:TA}
theorem tL {pins:List (Addr×Obj)}{σ:St}{H:Hp}{s:j_}{Q:VK}{us:List Value}{vs:List V} (F:bN X.prog X.w X.K X.mg X.base CX k f fd ps sp) (hr:cg k X.A) (hb:Binds X.K fd ps ds) (hd:Vals dvs ds) (hx:Passes CX X E)
  (I:Inv X pins σ H s) (r:Vals vs us) (h:sp (vs++dvs) H Q E):wpAny '0' X.A (call (.ref f) us) (EP X pins σ Q) X.xe s:=by
 have r2:Vals (vs++dvs) (us++ds):=r.append hd;have hl:(us++ds).length=ps.length:=by rw[<-r2.length];exact F.len _ _ _ _ h
 refine afa (ab6 (F.run X.A X.stack s H ⟨us,[]⟩ (us++ds) (vs++dvs) Q E hr I.Ju (hb s us I.kK hl) r2 h) fun r s' hq=>?_)
 cases r with
 | error e=>exact hx pins σ H s e s' I hq
 | ok fl =>
  cases fl with
  | ret u=>exact I.after hq
  | next=>exact ZG hq
  | brk=>exact ZG hq
  | cont=>exact ZG hq
def E6 (F:bN X.prog X.w X.K X.mg X.base CX k f fd ps sp) (hr:cg k X.A) (hg:Gl X x) (hm:X.mg x=some (.ref f)) (hk:ZH X.K (.ref f)=true) (hb:Binds X.K fd ps ds) (hd:Vals dvs ds) (hx:Passes CX X E)
  (ha:PA X (e::es) t) (m4:'2'=false:=by decide) (he:S_ (e::es) X.env=(false,eval e X.env)::S_ es X.env:=by rfl) (EA:(aaV pos (S_ es X.env)).any (·.1)=false:=by rfl) :
  PE X (.Call (.Name x p) (e::es) [] pos) (Cc sp dvs E t):=by
 ext d;refine aaA (kP I hg hm ?_ m4);refine abG (h₀:=X.base) I.ok.mod.Iy hk (aX (ha pos pins s σ H _ I h) fun us s1 ⟨vs,H1,I1,r,q⟩=>⟨I1.kK,?_⟩) he EA;exact tL F hr hb hd hx I1 r q
structure Mk (K:e_) (C f:Addr):Prop where
 makes:aei K C=true
 init:ZC K (.ref C) "__init__" = some (some (.ref f))
 fn:acF K (.ref f)=true
 kp:ZH K (.ref C)=true
theorem Cd {pins:List (Addr×Obj)}{σ:St}{H:Hp}{s:j_}{Q:VK}{us:List Value}{vs:List V} (M:Mk X.K C f) (F:bN X.prog X.w X.K X.mg X.base CX k f fd ps sp) (hr:cg (k+1) X.A) (hb:Binds X.K fd ps ds) (hd:Vals dvs ds)
  (hx:Passes CX X E) (I:Inv X pins σ H s) (r:Vals vs us)
  (h:∀ x dx,H x=none->H dx=none->dx≠x->sp (.ref x::(vs++dvs)) (upd (upd H dx (.own x)) x (.ins C dx [])) (fun v H2=>v=.az/\Q (.ref x) H2) E) :
  wpAny '0' X.A (call (.ref C) us) (EP X pins σ Q) X.xe s:=by
 have hq:=h '7' s.heap.objs.size (I.aW.fresh (acZ _)) (I.aW.fresh (t_ _)) (Q_ (abw _));have I2:=Inv.made (C:=C) I;have r2:Vals (V.ref '7'::(vs++dvs)) (Zq '7'::(us++ds)):=.cons rfl (r.append hd)
 have hl:(Zq '7'::us++ds).length=ps.length:=by
  have e:=r2.length;rw[F.len _ _ _ _ hq] at e;exact e.symm
 refine afa (Cb (f:=f) I.kK M.makes M.init (aap.mp M.fn) (ab6 (F.run _ X.stack _ _ ⟨Zq '7'::us,[]⟩ (Zq '7'::(us++ds)) _ _ E (hr.make C us [])
  (I2.Ju.make C us []) (hb _ (Zq '7'::us) I2.kK hl) r2 hq) fun r s' AG=>?_))
 cases r with
 | error e=>exact hx pins σ _ _ e s' I2 AG
 | ok fl =>
  cases fl with
  | ret u =>
   obtain⟨v,H',I3,rv,ev,q3⟩:=I2.after AG;subst ev;exact⟨rv,⟨V.ref '7',H',I3,rfl,q3⟩⟩
  | next=>exact ZG AG
  | brk=>exact ZG AG
  | cont=>exact ZG AG
end
structure n5 (N P:List Str) (sc:Scope):Prop where
 kind:sc.kind=.function
 co:sc.isCoroutine=false
 gen:sc.isGenerator=false
 nd:N.Nodup
 pre:N.take P.length=P
 par:∀ x∈P,sc.names.lookup x=some .local∨sc.names.lookup x=some .cell
 Jv:∀ y∈sc.names,y.2≠.free
theorem rW {kindOf:Str->m_ aaR}{x:Str}:∀ {binds:List (Str×Value)}{m:Str->m_ Value},(∀ v,(x,v)∉binds)->bindL kindOf binds m x=m x
 | [],_,_=>rfl
 | (n,v)::r,m,h=>by
  unfold bindL;rw[rW fun w hw=>h w (J_ _ hw)];split
  ·have:x≠n:=by rintro rfl;exact h v W_
   simp [this]
  ·rfl
theorem rX {kindOf:Str->m_ aaR}{x:Str}:∀ {binds:List (Str×Value)}{m:Str->m_ Value},(∀ v,(x,v)∉binds)->bindC kindOf binds m x=m x
 | [],_,_=>rfl
 | (n,v)::r,m,h=>by
  unfold bindC;rw[rX fun w hw=>h w (J_ _ hw)];split
  ·rfl
  ·have:x≠n:=by rintro rfl;exact h v W_
   simp [this]
theorem rY {kindOf:Str->m_ aaR}{x:Str}{v:Value}:∀ {P:List Str}{vs:List Value}{i:Nat}{m:Str->m_ Value},P.Nodup->P[i]? = some x->vs[i]? = some v->kindOf x=some .local ->
  bindL kindOf (P.zip vs) m x=some v
 | [],_,_,_,_,h,_,_=>by simp at h
 | _::_,[],_,_,_,_,h,_=>by simp at h
 | p::P,w::vs,0,m,nd,h1,h2,hk=>by
  simp at h1 h2;subst h1;subst h2;show bindL kindOf ((p,w)::P.zip vs) m p=_;unfold bindL;rw[rW fun v hv=>(abM.mp nd).1 (aej hv).1,z_ hk];simp
 | p::P,w::vs,i+1,m,nd,h1,h2,hk=>by
  show bindL kindOf ((p,w)::P.zip vs) m x=_;unfold bindL;exact rY (i:=i) (abM.mp nd).2 (by simpa using h1) (by simpa using h2) hk
theorem rZ {kindOf:Str->m_ aaR}{x:Str}{v:Value}:∀ {P:List Str}{vs:List Value}{i:Nat}{m:Str->m_ Value},P.Nodup->P[i]? = some x->vs[i]? = some v->kindOf x≠some .local ->
  bindC kindOf (P.zip vs) m x=some v
 | [],_,_,_,_,h,_,_=>by simp at h
 | _::_,[],_,_,_,_,h,_=>by simp at h
 | p::P,w::vs,0,m,nd,h1,h2,hk=>by
  simp at h1 h2;subst h1;subst h2;show bindC kindOf ((p,w)::P.zip vs) m p=_;unfold bindC;rw[rX fun v hv=>(abM.mp nd).1 (aej hv).1,s_ hk];simp
 | p::P,w::vs,i+1,m,nd,h1,h2,hk=>by
  show bindC kindOf ((p,w)::P.zip vs) m x=_;unfold bindC;exact rZ (i:=i) (abM.mp nd).2 (by simpa using h1) (by simpa using h2) hk
noncomputable def start (N:List Str) (vs:List V):St:=vs.map some++agm (N.length-vs.length) none
noncomputable def xZ (CX:xY) (P:N_) (w:World) (K:e_) (mg:Str->m_ Value) (base:Heap) (N:List Str) (qual:Str) (scope:Scope) (f:Addr) (cd:Value) (A:ZN) (outer:List Env) (s:j_) (H:Hp) (E:XK):Cx where
 prog:=P
 w:=w
 K:=K
 mg:=mg
 base:=base
 A:=A.deeper (aeC qual scope s.heap.objs.size f cd)
 N:=N
 s₀:=s
 H₀:=H
 env:=aeC qual scope s.heap.objs.size f cd
 outer:=outer
 stack:=aeC qual scope s.heap.objs.size f cd::outer
 ex:=[]
 calm:=true
 fn:=fun _=>true
 pn:=[]
 xe:=fun e s'=>wpAny (model P w) (A.deeper (aeC qual scope s.heap.objs.size f cd)) (leaving (aeC qual scope s.heap.objs.size f cd) e) (fun _ Ce=>CX outer H s E e Ce) (fun e' Ce=>CX outer H s E e' Ce) s'
def vo {sc:Scope}{n:Nat}{x:Str} (h:sc.names.lookup x=some .cell):∃ c,(ZZ n sc.names []).lookup x=some c:=by
 have q:=ad7 sc.names n [] (.inl h);exact adM.mp q
def AH {CX:xY}{P:N_}{w:World}{K:e_}{mg:Str->m_ Value}{base:Heap}{N ps:List Str}{qual:Str}{scope:Scope}{f:Addr}{cd:Value}{A:ZN}{outer:List Env}{s s1:j_}{H:Hp}{E:XK}{us:List Value}{vs:List V}
  (S:n5 N ps scope) (hd:A.handled=none) (e0:vn P w K mg base A outer s H) (hl:vs.length=ps.length) (r:Vals vs us)
  (x:InCallC s s.heap.objs.size (bindL (aeC qual scope s.heap.objs.size f cd).kindOf (ps.zip us) fun _=>none) (ZZ '7' scope.names []) (bindC (aeC qual scope s.heap.objs.size f cd).kindOf (ps.zip us) fun _=>none) s1) :
  Inv (xZ CX P w K mg base N qual scope f cd A outer s H E) [] (start N vs) H s1:=by
 have EA:ps.length<=N.length:=by have:=congrArg aeD S.pre;rw[Zm] at this;lia
 obtain⟨h1,tk,rfl,hk⟩:=x.done;have MJ:∀ b:Addr,b∉(xZ CX P w K mg base N qual scope f cd A outer s H E).ex:=fun b z=>absurd (show b∈([]:List Addr) from z) (3)
 refine⟨⟨e0.mod,S.kind,rfl,rfl,t_ _,fun y z c h1 h2=>?_,fun y hy=>?_,fun y c _ h=>?_,fun _=>hd,Around.frames_deeper e0.frames,.inr ⟨rfl,rfl⟩,fun b z=>absurd z (MJ b),e0.bs,e0.BP,fun b _ _=>MJ b,fun b z=>absurd z (MJ b),e0.jI,e0.EN⟩,
  rfl,e0.bare,Un.kept hk,⟨_,x.toInCall.ns,fun i y v h1 h2 h3=>?_⟩,fun y c h=>⟨_,x.cell y c h⟩,e0.aW.fresh (t_ _),fun y c h=>?_,fun p hp=>absurd (show p∈([]:List (Addr×Obj)) from hp) (3),e0.aW.kept hk,?_⟩
 ·exact name_of_addr x.apart (aaH h1) (aaH h2)
 ·have hy:scope.names.lookup y=some .cell∨scope.names.lookup y=some .free:=hy;rcases hy with hy | hy
  ·exact vo hy
  ·exact absurd rfl (S.Jv _ (aaH hy))
 ·exact Z8 (x.above y c (aaH h))
 ·have hi:i<vs.length:=by
   unfold start at h2;by_cases hi:i<vs.length
   ·exact hi
   ·rw[Zx (by simpa using hi)] at h2;rw[adT] at h2;split at h2<;>cases h2
  have ha:vs[i]? = some v:=by
   unfold start at h2;rw[ZO (by simpa using hi),g_] at h2
   cases e:vs[i]? with
   | none=>rw[e] at h2;cases h2
   | some a=>rw[e] at h2;cases h2;rfl
  obtain⟨u,hu,rv⟩:=r.get ha
  have hp:ps[i]? = some y:=by
   rw[<-S.pre,List.getElem?_take_of_lt ∅];exact h1
  have UY:ps.Nodup:=by rw[<-S.pre];exact S.nd.sublist (adD _ _)
  refine⟨u,rv,?_⟩;rcases S.par y (y_ hp) with k | k
  ·exact .inl ⟨k,rY UY hp hu k⟩
  ·obtain⟨c,e⟩:=vo (n:=s.heap.objs.size+1) k;refine .inr ⟨.inl k,c,e,?_⟩;have q:=x.cell y c e;rw[rZ UY hp hu (by show scope.names.lookup y≠_;rw[k];decide)] at q;exact q
 ·exact e0.aW.fresh (Z8 (x.above y c (aaH h)))
 ·unfold start;show _=N.length;rw[A_,a_,acN]
  lia
theorem MK {CX:xY}{P:N_}{w:World}{K:e_}{mg:Str->m_ Value}{base:Heap}{k:Nat}{f:Addr}{name qual:Str}{params:afR}{body:List Stmt}{scope:Scope}{dV kV doc pm jZ ct oc:Value}{an od:m_ Addr}
  {AI:Array (m_ Value)}{N ps:List Str}{sp:Sp} (lk:K.lookup f=some ⟨oc,od,.func (aaW name qual params body scope dV kV doc pm an jZ ct),AI⟩) (l7:ab0 K jZ qual=true) (S:n5 N ps scope)
  (len:∀ vs H Q E,sp vs H Q E->vs.length=ps.length)
  (Cf:∀ (A:ZN) (outer:List Env) (s:j_) (H:Hp) (vs:List V) (Q:VK) (E:XK),cg k (A.deeper (aeC qual scope s.heap.objs.size f jZ))->sp vs H Q E ->
   ∃ t,kL (xZ CX P w K mg base N qual scope f jZ A outer s H E) body t/\t { nx:=fun _ H'=>Q .az H',rt:=Q } (start N vs) H) :
  bN P w K mg base CX (k+1) f (aaW name qual params body scope dV kV doc pm an jZ ct) ps sp:=by
 refine⟨len,fun A outer s H args us vs Q E hr e0 hb r EB=>?_⟩;have hl:=len _ _ _ _ EB;have KX:K.In s.heap:=e0.mod.Iy.keeps fun b o e=>(e0.bs b o e).1
 have lim:s.heap.NoLimit:=e0.mod.nolimit.keeps fun b o e=>(e0.bs b o e).1
 have ML:∀ y∈ps.zip us,scope.names.lookup y.1=some .local∨(scope.names.lookup y.1=some .cell/\((ZZ '7' scope.names []).lookup y.1).isSome=true):=fun⟨n,v⟩ hy=>by
  rcases S.par n (aej hy).1 with q | q
  ·exact .inl q
  ·exact .inr ⟨q,ad7 _ _ _ (.inl q)⟩
 refine codeAny_call_function hr.depth (KX _ _ lk) rfl S.co S.gen rfl (PySem.W.codeRec_of KX l7) (hb _ _ _ _ ?_);refine wpAny_newFunctionEnv_cells S.kind ML fun env he s1 x=>?_
 subst he;refine⟨lim.keeps x.toInCall.keep,codeAny_func ?_⟩;obtain⟨t,ht,hq⟩:=Cf A outer s H vs Q E (hr.deeper _) EB;have I:Inv (xZ CX P w K mg base N qual scope f jZ A outer s H E) [] (start N vs) H s1:=AH S hr.hd e0 hl r x;refine aaj (ht [] s1 (start N vs) H _ I hq) (fun fl s' hs=>?_) fun e s' hs=>hs
 have fin:∀ {σ':St}{H':Hp}{v:V}{u:Value},Inv (xZ CX P w K mg base N qual scope f jZ A outer s H E) [] σ' H' s'->RelV v u->Q v H'->CE outer P w H s Q u s' :=
  fun {σ' H' v u} J rv q=>⟨v,H',J.os,J.bare,J.base,J.aW,rv,q⟩
 cases fl with
 | ret u =>
  obtain⟨v,σ',H',J,rv,q⟩:=hs;exact fin J rv q
 | next =>
  obtain⟨σ',H',J,q⟩:=hs;exact fin (v:=V.az) (u:=abF) J rfl q
 | brk =>
  obtain⟨_,_,_,q⟩:=hs;exact ZG q
 | cont =>
  obtain⟨_,_,_,q⟩:=hs;exact ZG q
section
variable {X:Cx}{x:Str}{p pos:Pos}{e:Expr}{es:List Expr}{t:TA}{id T:acq}{r:List V->Hp->VK->Prop}
def UZ (r:List V->Hp->VK->Prop) (t:TA):TE:=fun σ H Q=>t σ H fun vs H1=>r vs H1 Q
def oK (hc:bj X (.builtin id) r) (hg:Gl X x) (hm:X.mg x=none) (hv:aag x=some (.builtin id)) (ha:PA X (e::es) t) (hn:x ≠ "__name__" := by decide) (m4:'2'=false:=by decide)
  (he:S_ (e::es) X.env=(false,eval e X.env)::S_ es X.env:=by rfl) (EA:(aaV pos (S_ es X.env)).any (·.1)=false:=by rfl):PE X (.Call (.Name x p) (e::es) [] pos) (UZ r t):=by
 ext d;refine aaA (eo I hg hm hv ?_ hn m4);exact acR (aX (ha pos pins s σ H _ I h) fun us s1 ⟨vs,H1,I1,r1,q1⟩=>hc pins s1 σ H1 vs us Q I1 r1 q1) he EA
def bZ (hc:bj X (.type T) r) (hg:Gl X x) (hm:X.mg x=none) (hv:aag x=some (.type T)) (ha:PA X (e::es) t) (hn:x ≠ "__name__" := by decide) (m4:'2'=false:=by decide)
  (he:S_ (e::es) X.env=(false,eval e X.env)::S_ es X.env:=by rfl) (EA:(aaV pos (S_ es X.env)).any (·.1)=false:=by rfl):PE X (.Call (.Name x p) (e::es) [] pos) (UZ r t):=by
 ext d;refine aaA (eo I hg hm hv ?_ hn m4);exact ZD (aX (ha pos pins s σ H _ I h) fun us s1 ⟨vs,H1,I1,r1,q1⟩=>hc pins s1 σ H1 vs us Q I1 r1 q1) he EA
end
end L2
namespace HT
open PySem PyProof.Rows
section
variable {prog:N_}{w:World}{A:ZN}{E:Value->j_->Prop}{s:j_}
noncomputable def bJ (n d:Nat):m_ Int->Nat
 | none=>d
 | some v=>if v<0 then (v+(n:Int)).toNat else min v.toNat n
def vp (n d:Nat):bJ n d none=d:=rfl
def jB (n d k:Nat):bJ n d (some (k:Int))=min k n:=by
 show (if (k:Int)<0 then ((k:Int)+(n:Int)).toNat else min (k:Int).toNat n)=min k n;rw[s_ ∅,p_]
def Jw (n d:Nat) (hd:d<=n) (o:m_ Int):bJ n d o<=n:=by
 cases o with
 | none=>exact hd
 | some v =>
  show (if v<0 then (v+(n:Int)).toNat else min v.toNat n)<=n;by_cases hv:v<0
  ·rw[z_ hv];lia
  ·rw[s_ hv];exact Nat.min_le_right _ _
def zp (v:Int) (n d:Nat):(if v<0 then max (v+(n:Int)) 0 else min v (n:Int))=((bJ n d (some v):Nat):Int):=by
 show (if v<0 then max (v+(n:Int)) 0 else min v (n:Int))=(((if v<0 then (v+(n:Int)).toNat else min v.toNat n):Nat):Int);by_cases hv:v<0
 ·simp only[z_ hv];lia
 ·simp only[s_ hv];lia
def x3 (lo hi:m_ Int) (n:Nat):acb lo hi 1 (n:Int)=(((bJ n 0 lo:Nat):Int),((bJ n n hi:Nat):Int)):=by
 have h1:¬ ((1:Int)<0):=by lia
 unfold acb;simp only[h1,if_false];refine Prod.ext ?_ ?_
 ·cases lo with
  | none=>rfl
  | some v=>exact zp v n 0
 ·cases hi with
  | none=>rfl
  | some v=>exact zp v n n
def x5 (i j:Nat):aa9 (i:Int) (j:Int) 1=j-i:=by
 unfold aa9;have h1:(1:Int)>0:=by lia
 simp only[h1,ab7,Int.ediv_one];split<;>lia
def oM {v:Value}{o:m_ Int}{Q:m_ Int->j_->Prop} (p:ad8 v o) (h:Q o s):wpAny '3' A (Builtin.Slice.slicePartIndex v) Q E s:=by
 cases p with
 | none=>exact slicePart_none h
 | int i t=>exact slicePart_int h
def fT {sl:Addr}{vl vu:Value}{lo hi:m_ Int}{n:Nat}{Q:Int×Int×Nat->j_->Prop} (hs:s.heap.IsSliceOf sl vl vu .none) (pl:ad8 vl lo) (pu:ad8 vu hi)
  (h:Q (((bJ n 0 lo:Nat):Int),1,bJ n n hi-bJ n 0 lo) s):wpAny '3' A (adn (.ref sl) (pure (n:Int))) Q E s:=by
 obtain⟨os,Jx,QD,AJ⟩:=id hs;unfold adn Builtin.Slice.sliceFields;refine c_ (c_ (ZY Jx AJ (x:=vl) rfl (c_ (ZY Jx AJ (x:=vu) rfl (c_ (ZY Jx AJ (x:=.none) rfl (q_ ?_)))))));refine c_ (slicePart_none ?_);show wpAny _ _ (if ((1:Int)==0)=true then _ else _) _ _ s;rw[s_ (2)];refine c_ (oM pl (c_ (oM pu (c_ (q_ ?_)))));show wpAny _ _ (match acb lo hi 1 (n:Int) with | (lo,hi)=>pure (lo,(1:Int),aa9 lo hi 1)) _ _ s;rw[x3 lo hi n];show wpAny _ _ (pure (((bJ n 0 lo:Nat):Int),(1:Int),aa9 ((bJ n 0 lo:Nat):Int) ((bJ n n hi:Nat):Int) 1)) _ _ s;rw[x5];exact q_ h
def Cg (xs:Array Value) (i k:Nat):((Zo k).filterMap fun (m:Nat)=>xs[((i:Int)+(m:Int)*1).toNat]?).toArray=((xs.toList.drop i).take k).toArray:=by
 have e:(fun (m:Nat)=>xs[((i:Int)+(m:Int)*1).toNat]?)=fun m=>xs[i+m]? := by
  funext m
  have:((i:Int)+(m:Int)*1).toNat=i+m:=by lia
  rw[this]
 rw[e];have:=pick_run xs i k;rw[List.filterMap_map] at this;have e2:((fun x=>xs[x]?) ∘ fun x=>i+x)=fun m=>xs[i+m]? := rfl
 rw[e2] at this;rw[this]
def kT {t sl:Addr}{items:Array Value}{vl vu:Value}{lo hi:m_ Int}{Q:Value->j_->Prop} (ht:IsTup s.heap t items) (hs:s.heap.IsSliceOf sl vl vu .none) (pl:ad8 vl lo) (pu:ad8 vu hi)
  (hw:¬ (bJ items.size 0 lo=0/\bJ items.size items.size hi=items.size))
  (h:Q (.ref s.heap.objs.size) { s with heap:=s.heap.push { cls:=.type "tuple",data:=.seq ((items.toList.drop (bJ items.size 0 lo)).take (bJ items.size items.size hi-bJ items.size 0 lo)).toArray } })
  (hsz:items.size<=sizeLine):wpAny '3' A (adE (.ref t) (.ref sl)) Q E s:=by
 have zq:sizeOk (.seq ((items.toList.drop (bJ items.size 0 lo)).take (bJ items.size items.size hi-bJ items.size 0 lo)).toArray):=by
  show ((items.toList.drop (bJ items.size 0 lo)).take (bJ items.size items.size hi-bJ items.size 0 lo)).toArray.size<=sizeLine;rw[H_,Zm,Z9,ZL]
  lia
 have hj:bJ items.size items.size hi<=items.size:=Jw _ _ (t_ _) hi;obtain⟨os,Jx,QD,AJ⟩:=id hs;have RT:s.TypeIs (.ref sl) "slice" := ⟨os,Jx,QD⟩;unfold adE
 try with_reducible refine abq ?_
 first | refine c_ (q_ ?_) | skip
 refine c_ (wpAny_sequenceKey ht.typeIs (2) ?_)
 refine c_ (aam (name:=aah "__getitem__") ht.typeIs ZJ
  (aaB ZJ ht.typeIs aeV ?_ (args_tuple_getitem _ _)))
 show wpAny _ _ (ado (.ref t) >>= _) _ _ s;refine c_ (tupleItemsOf_ ht ?_);refine c_ (adb RT ?_);rw[z_ (2)];refine c_ (fT hs pl pu ?_)
 have iw:¬ ((((bJ items.size 0 lo:Nat):Int)==0&&(1:Int)==1&&(bJ items.size items.size hi-bJ items.size 0 lo)==items.size)=true):=by
  intro q;rw[v_,v_] at q;have q1:((bJ items.size 0 lo:Nat):Int)=0:=eq_of_beq q.1.1;have q2:bJ items.size items.size hi-bJ items.size 0 lo=items.size:=eq_of_beq q.2;exact hw ⟨∅,∅⟩
 show wpAny _ _ (if (((bJ items.size 0 lo:Nat):Int)==0&&(1:Int)==1&&(bJ items.size items.size hi-bJ items.size 0 lo)==items.size)=true then _ else _) _ _ s;rw[s_ iw,Cg]
 first
  | exact c_ (m:=abr _) (aaq (q_ ⟨_,rfl,q_ h⟩) zq)
  | exact c_ (m:=abr _) (aaq (c_ (q_ (q_ ⟨_,rfl,q_ h⟩))) zq)
  | exact c_ (c_ (m:=abr _) (aaq (q_ (q_ ⟨_,rfl,q_ h⟩)) zq))
  | exact c_ (c_ (m:=abr _) (aaq (q_ ⟨_,rfl,q_ h⟩) zq))
end
end HT
namespace L2
open PySem PySem.Spec PyProof.Rows
noncomputable abbrev TO:=St->Hp->(m_ Int->Hp->Prop)->Prop
def PO (X:Cx) (e:m_ Expr) (t:TO):Prop :=
 ∀ (pins:List (Addr×Obj)) (s:j_) (σ:St) (H:Hp) (Q:m_ Int->Hp->Prop),Inv X pins σ H s->t σ H Q ->
  wpAny '0' X.A (evalPart e X.env) (fun u s'=>∃ o H',Inv X pins σ H' s'/\ad8 u o/\Q o H') X.xe s
def E7:TO:=fun _ H Q=>Q none H
def MM (t:TE):TO:=fun σ H Q=>t σ H fun x H1=>∃ i,x=.int i/\Q (some i) H1
section
variable {X:Cx}{e:Expr}{te:TE}{lo hi:m_ Expr}{tl th:TO}{pos p2:Pos}
def E8:PO X none E7:=by
 ext d;rw[evalPart_none];exact q_ ⟨none,H,I,.none,h⟩
def E9 (h:PE X e te):PO X (some e) (MM te):=by
 intro pins s σ H Q I hw;rw[evalPart_some];refine aX (h pins s σ H _ I hw) fun u s1 ⟨x,H1,I1,r1,q1⟩=>?_
 obtain⟨i,rfl,q⟩:=q1;obtain⟨t,rfl⟩:=r1;exact⟨some i,H1,I1,.int i t,q⟩
def MN (X:Cx) (r:V->m_ Int->m_ Int->Hp->VK->Prop):Prop :=
 ∀ (pins:List (Addr×Obj)) (s:j_) (σ:St) (H:Hp) (x:V) (v vl vu:Value) (lo hi:m_ Int) (sl:Addr) (Q:VK),Inv X pins σ H s->RelV x v->s.heap.IsSliceOf sl vl vu .none->ad8 vl lo->ad8 vu hi->r x lo hi H Q ->
  ∃ T id,typeLookup (.type T) "__getitem__" = pure (some (.builtin id))/\s.TypeIs v T/\wpAny '0' X.A (adE v (.ref sl)) (EP X pins σ Q) X.xe s
def U0 (r:V->m_ Int->m_ Int->Hp->VK->Prop) (te:TE) (tl th:TO):TE:=fun σ H Q=>te σ H fun x H1=>tl σ H1 fun l H2=>th σ H2 fun u H3=>r x l u H3 Q
def oN {r:V->m_ Int->m_ Int->Hp->VK->Prop} (hr:MN X r) (he:PE X e te) (hl:PO X lo tl) (hu:PO X hi th):PE X (.Subscript e (.Slice lo hi none p2) pos) (U0 r te tl th):=by
 ext d;refine Subscript_ (aX (he pins s σ H _ I h) fun v s1 ⟨x,H1,I1,r1,q1⟩=>?_);refine wpAny_Slice (aX (hl pins s1 σ H1 _ I1 q1) fun vl s2 ⟨l,H2,I2,pl,q2⟩=>aX (hu pins s2 σ H2 _ I2 q2) fun vu s3 ⟨u,H3,I3,pu,q3⟩=>?_);rw[evalPart_none];refine q_ ?_;have I4:Inv X pins σ H3 { s3 with heap:=s3.heap.push { cls:=.type "slice",data:=.fields #[vl,vu,.none] } }:=I3.kept (t':=s3.toks) fun b ob q=>k_ _ q
 obtain⟨T,id,hT,ht,hg⟩:=hr pins { s3 with heap:=s3.heap.push { cls:=.type "slice",data:=.fields #[vl,vu,.none] } } σ H3 x v vl vu l u s3.heap.objs.size Q I4 r1 (Heap.IsSliceOf.new ..) pl pu q3;show wpAny '0' X.A (ae2 e (.Slice lo hi none p2) v (.ref s3.heap.objs.size)) (EP X pins σ Q) X.xe { s3 with heap:=s3.heap.push { cls:=.type "slice",data:=.fields #[vl,vu,.none] } };exact tail_any (ops:=[.ref s3.heap.objs.size,v]) ht hT hg (by with_unfolding_all rfl)
noncomputable def kU (xs:List V) (lo hi:m_ Int):List V:=(xs.drop (HT.bJ xs.length 0 lo)).take (HT.bJ xs.length xs.length hi-HT.bJ xs.length 0 lo)
def m5 (xs:List V) (lo hi:m_ Int):(kU xs lo hi).length<=xs.length:=by
 unfold kU;rw[Zm,Z9]
 lia
def RU (K:e_):V->m_ Int->m_ Int->Hp->VK->Prop:=fun x lo hi H Q=>∃ a xs,x=.ref a/\eV K H a xs /\
 ¬ (HT.bJ xs.length 0 lo=0/\HT.bJ xs.length xs.length hi=xs.length)/\∀ p,H p=none->Q (.ref p) (upd H p (.tup (kU xs lo hi)))
def Jy:MN X (RU X.K):=by
 intro pins s σ H x v vl vu lo hi sl Q I rx hs pl pu h;obtain⟨a,xs,rfl,hx,hw,q⟩:=h
 cases rx
 obtain⟨ai,r,ht,hz⟩:=I.tuple hx;have hlen:ai.toArray.size=xs.length:=by rw[H_];exact r.length.symm
 refine⟨"tuple",_,ZJ.lookup,ht.typeIs,?_⟩;refine HT.kT ht hs pl pu (by rw[hlen];exact hw) ?_ (by rw[hlen];exact hz);rw[hlen];refine⟨.ref s.heap.objs.size,_,I.laid (t':=s.toks) (o:=.tup (kU xs lo hi)) (fun b ob q=>k_ _ q) (t_ _) ?_,rfl,q _ (I.aW.fresh (t_ _))⟩;exact⟨R_ (m5 xs lo hi) hz,_,(r.drop (HT.bJ xs.length 0 lo)).take (HT.bJ xs.length xs.length hi-HT.bJ xs.length 0 lo),agH _ _⟩
end
noncomputable def EC (n:Nat) (i:Int):m_ Nat:=if 0<=i then (if i<n then some i.toNat else none) else if -(n:Int)<=i then some (i+n).toNat else none
noncomputable def n6 {α:Type} (xs:List α) (i:Int):m_ α:=(EC xs.length i).bind fun j=>xs[j]?
def Fb {n:Nat}{i:Int}{j:Nat} (h:EC n i=some j):seqIndex? i n=some j/\j<n /\ -(n:Int)<=i/\i<n:=by
 unfold EC at h;by_cases h0:0<=i
 ·rw[z_ h0] at h;by_cases h1:i<n
  ·rw[z_ h1] at h;have e:i.toNat=j:=M_ h;exact⟨by rw[seqIndex_of h0 h1,e],∅,∅,h1⟩
  ·rw[s_ h1] at h;cases h
 ·rw[s_ h0] at h;by_cases h1 : -(n:Int)<=i
  ·rw[z_ h1] at h;have e:(i+n).toNat=j:=M_ h;exact⟨by rw[seqIndex_neg ∅ h1,e],∅,h1,∅⟩
  ·rw[s_ h1] at h;cases h
def tM {α:Type}{xs:List α}{i:Int}{v:α} (h:n6 xs i=some v):∃ j,seqIndex? i xs.length=some j/\xs[j]? = some v/\j<xs.length /\ -(xs.length:Int)<=i/\i<xs.length:=by
 unfold n6 at h
 cases e:EC xs.length i with
 | none=>rw[e] at h;cases h
 | some j =>
  rw[e] at h;obtain⟨h1,h2,h3,h4⟩:=Fb e;exact⟨j,h1,h,h2,h3,h4⟩
def aI {α:Type}{xs:List α}{j:Nat}{v:α} (h:xs[j]? = some v):n6 xs (j:Int)=some v:=by
 have hj:j<xs.length:=(i_.mp h).1
 have e:EC xs.length (j:Int)=some j:=by
  unfold EC;rw[z_ ∅,z_ ∅];simp
 unfold n6;rw[e];exact h
def kW {α:Type} (xs:List α) (v:α):n6 (xs++[v]) (-1)=some v:=by
 have hl:(xs++[v]).length=xs.length+1:=by simp
 have e:EC (xs++[v]).length (-1)=some xs.length:=by
  unfold EC;rw[hl,s_ (2),z_ ∅];congr 1
  lia
 unfold n6;rw[e];show (xs++[v])[xs.length]? = some v;simp
def zr (b:Expr):Prop:=∀ o i,aeE b false o i=operate [o,i] (adE o i)
def Fc (X:Cx) (r:R2):Prop :=
 ∀ (value slice:Expr) (pins:List (Addr×Obj)) (s:j_) (σ:St) (H:Hp) (x y:V) (v u:Value) (Q:VK),Inv X pins σ H s->RelV x v->RelV y u->r x y H Q ->
  aeE slice false v u=operate [v,u] (adE v u)->wpAny '0' X.A (ae2 value slice v u) (EP X pins σ Q) X.xe s
def Wn (X:Cx) (id:acq) (r:V->List V->Hp->VK->Prop):Prop :=
 ∀ (pins:List (Addr×Obj)) (s:j_) (σ:St) (H:Hp) (x:V) (xs:List V) (v:Value) (us:List Value) (Q:VK),Inv X pins σ H s->RelV x v->Vals xs us->r x xs H Q ->
  wpAny '0' X.A (call (.builtin id) (v::us)) (EP X pins σ Q) X.xe s
section
variable {X:Cx}{a b:Expr}{ta tb:TE}{pos:Pos}
def Fc.or {r r':R2} (h:Fc X r) (h':Fc X r'):Fc X (fun x y H Q=>r x y H Q∨r' x y H Q):=by
 intro value slice pins s σ H x y v u Q I rx ry q hs;rcases q with q | q
 ·exact h value slice pins s σ H x y v u Q I rx ry q hs
 ·exact h' value slice pins s σ H x y v u Q I rx ry q hs
def MP {r:R2} (hr:Fc X r) (ha:PE X a ta) (hb:PE X b tb) (hs:zr b):PE X (.Subscript a b pos) (B2 r ta tb):=by
 ext d;exact Subscript_ (Jc ha hb I h fun v u s2 x y H2 I2 rx ry q=>hr a b pins s2 σ H2 x y v u Q I2 rx ry q (hs _ _))
def MQ (K:e_):R2:=fun x y H Q=>∃ p xs i v,x=.ref p/\y=.int i/\cE K H p xs/\n6 xs i=some v/\Q v H
def MR (K:e_):R2:=fun x y H Q=>∃ p xs i v,x=.ref p/\y=.int i/\eV K H p xs/\n6 xs i=some v/\Q v H
def MS:R2:=fun x y H Q=>∃ z i c,x=.str z/\y=.int i/\z.length<=sizeLine/\n6 z.cps.toList i=some c/\Q (.str ⟨#[c]⟩) H
def Fd:Fc X (MQ X.K):=by
 intro value slice pins s σ H x y v u Q I rx ry h hs;obtain⟨p,xs,i,z,rfl,rfl,hq,he,q⟩:=h
 cases rx
 obtain⟨t,rfl⟩:=ry;obtain⟨ai,r,pl,hz⟩:=I.list hq;obtain⟨j,h1,h2,h3,h4,h5⟩:=tM he;obtain⟨w,ew,RV⟩:=r.get h2;have hl:=r.length;have hn:=l9;have fin:EP X pins σ Q w s:=⟨z,H,I,RV,q⟩;by_cases h0:0<=i
 ·have hj:i.toNat=j:=by
   rw[seqIndex_of h0 h5] at h1;exact M_ h1
  exact item_listR pl.isList h0 ∅ (by rw[hj];simpa using ew) fin hs
 ·have hj:(i+(ai.toArray.size:Int)).toNat=j:=by
   rw[seqIndex_neg ∅ h4] at h1;rw[H_,<-hl];exact M_ h1
  exact ad9 (x:=w) pl.isList.typeIs slot_list_getitem.lookup
   (wpAny_getItem_list_neg (Q:=fun r s'=>r=w/\EP X pins σ Q r s') pl.isList ∅ (by rw[H_]<;>lia) ∅ (by rw[hj];simpa using ew) ⟨rfl,fin⟩) hs
def Ci:Fc X (MR X.K):=by
 intro value slice pins s σ H x y v u Q I rx ry h hs;obtain⟨p,xs,i,z,rfl,rfl,hq,he,q⟩:=h
 cases rx
 obtain⟨t,rfl⟩:=ry;obtain⟨ai,r,pl,hz⟩:=I.tuple hq;obtain⟨j,h1,h2,h3,h4,h5⟩:=tM he;obtain⟨w,ew,RV⟩:=r.get h2;have hl:=r.length;have hn:=l9;have fin:EP X pins σ Q w s:=⟨z,H,I,RV,q⟩
 exact ad9 (x:=w) pl.typeIs ZJ.lookup
  (getItem_tuple (j:=j) (Q:=fun r s'=>r=w/\EP X pins σ Q r s') pl ∅ ∅ (by rw[H_,<-hl];exact h1) (by simpa using ew) ⟨rfl,fin⟩) hs
def Jz:Fc X MS:=by
 intro value slice pins s σ H x y v u Q I rx ry h hs;obtain⟨z,i,c,rfl,rfl,hz,he,q⟩:=h;ext i;ext h;obtain⟨j,h1,h2,h3,h4,h5⟩:=tM he;have hl:z.cps.toList.length=z.length:=by simp [afc]
 rw[hl] at h1 h4 h5;have hn:=l9
 exact tail_any (typeIs_str s z t) slot_str_getitem.lookup (getItem_str (c:=c) (by
  have e1:decide (i < -(2 ^ 63:Int))=false:=f_ ∅;have e2:decide (i>=2 ^ 63)=false:=f_ ∅;rw[e1,e2,Bool.or_false]) (by rw[h1];simpa using h2) ⟨.str ⟨#[c]⟩,H,I.tok _,⟨_,rfl⟩,q⟩) hs
def RW (K:e_):R2:=fun x y H Q=>MQ K x y H Q∨MR K x y H Q∨MS x y H Q
def JA:Fc X (RW X.K):=Fd.or (Ci.or Jz)
def tN (lo hi:m_ Int) (n:Nat):(acz lo hi none n).1=((HT.bJ n 0 lo:Nat):Int)/\(acz lo hi none n).2.1=((HT.bJ n n hi:Nat):Int)/\(acz lo hi none n).2.2=1:=by
 refine⟨?_,?_,rfl⟩
 ·cases lo with
  | none=>simp [acz,HT.bJ]
  | some i =>
   simp only[acz,HT.bJ,adU,show (1:Int)>0 by decide,ab7];by_cases h:i<0
   ·simp only[h,ab7]<;>lia
   ·simp only[h,if_false]<;>lia
 ·cases hi with
  | none=>simp [acz,HT.bJ]
  | some i =>
   simp only[acz,HT.bJ,adU,show (1:Int)>0 by decide,ab7];by_cases h:i<0
   ·simp only[h,ab7]<;>lia
   ·simp only[h,if_false]<;>lia
def qN (ai:List Value) (lo hi:m_ Int):slicePick ai.toArray lo hi none=((ai.drop (HT.bJ ai.length 0 lo)).take (HT.bJ ai.length ai.length hi-HT.bJ ai.length 0 lo)).toArray:=by
 obtain⟨h1,h2,h3⟩:=tN lo hi ai.toArray.size;unfold slicePick;rw[h1,h2,h3];simp only[sliceRange_one,pick_run,H_]<;>rfl
def RX (K:e_):V->m_ Int->m_ Int->Hp->VK->Prop:=fun x lo hi H Q=>∃ a xs,x=.ref a/\cE K H a xs/\∀ p,H p=none->Q (.ref p) (upd H p (.lst (kU xs lo hi)))
def Fe:MN X (RX X.K):=by
 intro pins s σ H x v vl vu lo hi sl Q I rx hs pl pu h;obtain⟨a,xs,rfl,hx,q⟩:=h
 cases rx
 obtain⟨ai,r,ht,hz⟩:=I.list hx;have hlen:=r.length;refine⟨"list",_,slot_list_getitem.lookup,ht.isList.typeIs,?_⟩;refine wpAny_getItem_list_slice ht.isList hs pl pu .none (3) ?_ (by rw[H_]<;>lia);rw[qN,<-hlen];refine⟨.ref s.heap.objs.size,_,I.laid (t':=s.toks) (o:=.lst (kU xs lo hi)) (fun b ob q=>k_ _ q) (t_ _) ?_,rfl,q _ (I.aW.fresh (t_ _))⟩;exact⟨R_ (m5 xs lo hi) hz,_,0,(r.drop (HT.bJ xs.length 0 lo)).take (HT.bJ xs.length xs.length hi-HT.bJ xs.length 0 lo),w_ _ rfl⟩
noncomputable def eW:V->Bool
 | .az=>true
 | .bl _=>true
 | .int _=>true
 | .str _=>true
 | _=>false
noncomputable def AK:V->V->Bool
 | .az,.az=>true
 | .bl a,.bl b=>a==b
 | .bl a,.int b=>(if a then 1 else 0)==b
 | .int a,.bl b=>a==(if b then 1 else 0)
 | .int a,.int b=>a==b
 | .str a,.str b=>a==b
 | _,_=>false
def JB {A:ZN}{s:j_}{y x:V}{u v:Value} (ry:RelV y u) (rx:RelV x v) (fy:eW y=true) (fx:eW x=true):SeqAt.EqAt A s u v (AK y x):=by
 cases y with
 | az =>
  cases ry
  cases x with
  | az=>cases rx;exact SeqAt.EqAt.same _
  | bl b=>cases rx;exact SeqAt.EqAt.none_bool b
  | int b=>ext i;exact SeqAt.EqAt.none_int b t
  | str b=>ext i;exact SeqAt.EqAt.none_str b t
  | _=>exact absurd (show false=true from fx) u_
 | bl a =>
  cases ry
  cases x with
  | az=>cases rx;exact SeqAt.EqAt.bool_none a
  | bl b=>cases rx;exact SeqAt.EqAt.bool_bool a b
  | int b=>ext i;exact SeqAt.EqAt.bool_int a b t
  | str b=>ext i;exact SeqAt.EqAt.bool_str a b t
  | _=>exact absurd (show false=true from fx) u_
 | int a =>
  ext h
  cases x with
  | az=>cases rx;exact SeqAt.EqAt.int_none a t'
  | bl b=>cases rx;exact SeqAt.EqAt.int_bool a t' b
  | int b=>ext i;exact SeqAt.EqAt.int_int a t' b t
  | str b=>ext i;exact ae7 a t' b t
  | _=>exact absurd (show false=true from fx) u_
 | str a =>
  ext h
  cases x with
  | az=>cases rx;exact SeqAt.EqAt.str_none a t'
  | bl b=>cases rx;exact SeqAt.EqAt.str_bool a t' b
  | int b=>ext i;exact ae8 a t' b t
  | str b=>ext i;exact SeqAt.EqAt.str_str a t' b t
  | _=>exact absurd (show false=true from fx) u_
 | _=>exact absurd (show false=true from fy) u_
noncomputable def vq (x:V) (u:Value):Bool:=match u with
 | .none=>AK .az x
 | .bool b=>AK (.bl b) x
 | .int i _=>AK (.int i) x
 | .str z _=>AK (.str z) x
 | _=>false
def x6 {x y:V}{u:Value} (r:RelV y u) (f:eW y=true):vq x u=AK y x:=by
 cases y with
 | az=>cases r;rfl
 | bl b=>cases r;rfl
 | int i=>obtain⟨t,rfl⟩:=r;rfl
 | str z=>obtain⟨t,rfl⟩:=r;rfl
 | _=>exact absurd (show false=true from f) u_
theorem kX {x:V}:∀ {xs:List V}{us:List Value},Vals xs us->xs.all eW=true->us.any (vq x)=xs.any fun y=>AK y x
 | _,_,.nil,_=>rfl
 | y::xs,u::us,.cons r t,f=>by
  rw[ZX,v_] at f;rw[abR,abR,x6 r f.1,kX t f.2]
theorem fU {A:ZN}{s:j_}{x:V}{v:Value} (rx:RelV x v) (fx:eW x=true):∀ {xs:List V}{us:List Value},Vals xs us->xs.all eW=true->∀ u∈us,SeqAt.EqAt A s u v (vq x u)
 | _,_,.nil,_=>fun u hu=>by cases hu
 | y::xs,u::us,.cons r t,f=>fun u' hu=>by
  rw[ZX,v_] at f;rcases C_.mp hu with rfl | hu
  ·rw[x6 r f.1];exact JB r rx f.1 fx
  ·exact fU rx fx t f.2 u' hu
noncomputable def QE (x:V) (xs:List V):Bool:=xs.any fun y=>AK y x
def QF (K:e_) (neg:Bool):R2:=fun x y H Q=>∃ p xs,y=.ref p/\(cE K H p xs∨eV K H p xs)/\eW x=true/\xs.all eW=true/\Q (.bl (if neg then !QE x xs else QE x xs)) H
def AL:fk X (ZF .In) (QF X.K false):=by
 ext f;obtain⟨p,xs,rfl,hq,fx,fs,q⟩:=h
 cases ry
 rcases hq with hq | hq
 ·obtain⟨ai,r,pl,hz⟩:=I.list hq;refine af5 (vq x) pl.isList (fun w hw=>fU rx fx r fs w (by simpa using hw)) ⟨.bl _,H,I,rfl,?_⟩;rw[show ai.toArray.any (vq x)=ai.any (vq x) by simp,kX r fs];exact q
 ·obtain⟨ai,r,pl,hz⟩:=I.tuple hq;refine SeqAt.in_tupleAt (vq x) pl (fun w hw=>fU rx fx r fs w (by simpa using hw)) ⟨.bl _,H,I,rfl,?_⟩;rw[show ai.toArray.any (vq x)=ai.any (vq x) by simp,kX r fs];exact q
def tO:fk X (ZF .NotIn) (QF X.K true):=by
 ext f;obtain⟨p,xs,rfl,hq,fx,fs,q⟩:=h
 cases ry
 rcases hq with hq | hq
 ·obtain⟨ai,r,pl,hz⟩:=I.list hq;refine afd (vq x) pl.isList (fun w hw=>fU rx fx r fs w (by simpa using hw)) ⟨.bl _,H,I,rfl,?_⟩;rw[show ai.toArray.any (vq x)=ai.any (vq x) by simp,kX r fs];exact q
 ·obtain⟨ai,r,pl,hz⟩:=I.tuple hq;refine SeqAt.notIn_tupleAt (vq x) pl (fun w hw=>fU rx fx r fs w (by simpa using hw)) ⟨.bl _,H,I,rfl,?_⟩;rw[show ai.toArray.any (vq x)=ai.any (vq x) by simp,kX r fs];exact q
def tP:bj X (.builtin "len") (fun xs H Q=>∃ p ys,xs=[.ref p]/\(cE X.K H p ys∨eV X.K H p ys)/\Q (.int ys.length) H):=by
 ext j;obtain⟨p,ys,rfl,hq,q⟩:=h;obtain⟨u,rfl,rx⟩:=vals1 r
 cases rx
 have hn:=l9;rcases hq with hq | hq
 ·obtain⟨ai,r',pl,hz⟩:=I.list hq;have hlen:=r'.length;exact Calls.call_len_list pl.isList (by simp only[H_]<;>lia) ⟨.int ys.length,H,I.tok _,⟨s.toks+1,by rw[H_,hlen]⟩,q⟩
 ·obtain⟨ai,r',pl,hz⟩:=I.tuple hq;have hlen:=r'.length;exact len_tuple pl (by simp only[H_]<;>lia) ⟨.int ys.length,H,I.tok _,⟨s.toks+1,by rw[H_,hlen]⟩,q⟩
def tQ:bj X (.builtin "len") (fun xs H Q=>∃ z,xs=[.str z]/\z.length<=sizeLine/\Q (.int z.length) H):=by
 ext j;obtain⟨z,rfl,hz,q⟩:=h;obtain⟨u,rfl,t,rfl⟩:=vals1 r;have hn:=l9;exact len_str ∅ ⟨.int z.length,H,I.tok _,⟨_,rfl⟩,q⟩
def bj.or {f:Value}{r r':List V->Hp->VK->Prop} (h:bj X f r) (h':bj X f r'):bj X f (fun xs H Q=>r xs H Q∨r' xs H Q):=by
 intro pins s σ H xs us Q I rs q;rcases q with q | q
 ·exact h pins s σ H xs us Q I rs q
 ·exact h' pins s σ H xs us Q I rs q
def tR:bj X (.type "list") (fun xs H Q=>∃ p ys,xs=[.ref p]/\(cE X.K H p ys∨eV X.K H p ys)/\∀ l,H l=none->Q (.ref l) (upd H l (.lst ys))):=by
 ext j;obtain⟨p,ys,rfl,hq,q⟩:=h;obtain⟨u,rfl,rx⟩:=vals1 r
 cases rx
 have fin:∀ (ai:List Value),Vals ys ai->ys.length<=sizeLine->∀ (h':Heap) (c':Nat),(∀ b o',s.heap.get? b=some o'->h'.get? b=some o') ->
   h'.get? s.heap.objs.size=some { cls:=.type "list",dict:=none,data:=.seq ai.toArray c',slots:=#[] }->EP X pins σ Q (.ref s.heap.objs.size) { s with heap:=h' }:=fun ai r' hz h' c' kp e =>
  ⟨.ref s.heap.objs.size,_,I.laid (t':=s.toks) kp (t_ _) (show aQ X.prog X.w _ h' _ (.lst ys) from ⟨hz,ai,c',r',e⟩),rfl,q _ (I.aW.fresh (t_ _))⟩
 rcases hq with hq | hq
 ·obtain⟨ai,r',pl,hz⟩:=I.list hq;have hlen:=r'.length;obtain⟨o,ho,hc,n,hd⟩:=pl.isList;exact call_list_seq p (.inl rfl) ho hc hd (fun h' c' kp e=>fin ai r' hz h' c' kp e) (by simp only[H_]<;>lia)
 ·obtain⟨ai,r',pl,hz⟩:=I.tuple hq;have hlen:=r'.length;obtain⟨o,ho,hc,n,hd⟩:=pl;exact call_list_seq p (.inr rfl) ho hc hd (fun h' c' kp e=>fin ai r' hz h' c' kp e) (by simp only[H_]<;>lia)
def qO:bj X (.type "tuple") (fun xs H Q=>∃ p ys,xs=[.ref p]/\((cE X.K H p ys/\∀ l,H l=none->Q (.ref l) (upd H l (.tup ys)))∨(eV X.K H p ys/\Q (.ref p) H))):=by
 ext j;obtain⟨p,ys,rfl,h⟩:=h;obtain⟨u,rfl,rx⟩:=vals1 r
 cases rx
 rcases h with ⟨hq,q⟩ | ⟨hq,q⟩
 ·obtain⟨ai,r',pl,hz⟩:=I.list hq;have hlen:=r'.length;refine call_tuple_list pl.isList (fun h' kp=>?_) (by simp only[H_]<;>lia);have I1:Inv X pins σ H { s with heap:=h' }:=I.kept (t':=s.toks) kp
  have I2:Inv X pins σ (upd H h'.objs.size (.tup ys)) { s with heap:=h'.push { cls:=.type "tuple",data:=.seq ai.toArray } } :=
   I1.laid (t':=s.toks) (fun b o e=>k_ _ e) (t_ _) (show aQ X.prog X.w _ _ _ (.tup ys) from ⟨hz,ai,r',agH _ _⟩)
  exact⟨.ref h'.objs.size,_,I2,rfl,q _ (I1.aW.fresh (t_ _))⟩
 ·obtain⟨ai,r',pl,hz⟩:=I.tuple hq;exact call_tuple_same pl ⟨.ref p,H,I,rfl,q⟩
def RY (K:e_) (T:acq) (x:V) (H:Hp):Prop:=match x with
 | .str _=>T = "str"
 | .int _=>T = "int"
 | .ref p=>(T = "list" /\ ∃ xs,cE K H p xs)∨(T = "tuple" /\ ∃ o,K.lookup p=some o/\o.cls=.type "tuple" /\ o.dict=none) ∨
   (T = "dict" /\ ((∃ kvs,H p=some (.dK kvs))∨∃ kvs,H p=some (.dT kvs)))∨(T = "set" /\ ∃ S n,H p=some (.set S n))
 | _=>False
theorem JC {pins:List (Addr×Obj)}{σ:St}{H:Hp}{s:j_}{T:acq}{x:V}{v:Value} (I:Inv X pins σ H s) (r:RelV x v) (ty:RY X.K T x H) :
  s.TypeIs v T/\∀ a,v=.ref a->∃ ob,s.heap.get? a=some ob/\ob.dict=none:=by
 cases x with
 | str z =>
  obtain⟨t,rfl⟩:=r
  cases (show T = "str" from ty)
  exact⟨typeIs_str s z t,fun _ e=>nomatch e⟩
 | int i =>
  obtain⟨t,rfl⟩:=r
  cases (show T = "int" from ty)
  exact⟨typeIs_int s i t,fun _ e=>nomatch e⟩
 | ref p =>
  cases r
  rcases ty with ⟨rfl,xs,hq⟩ | ⟨rfl,o,hk,hc,hd⟩ | ⟨rfl,hk⟩ | ⟨rfl,S,n,hk⟩
  ·obtain⟨ai,_,pl,_⟩:=I.list hq;refine⟨pl.isList.typeIs,fun a e=>?_⟩
   cases e
   obtain⟨o,n,e,c,hd,_⟩:=pl;exact⟨o,e,hd⟩
  ·refine⟨⟨o,I.kK p o hk,hc⟩,fun a e=>?_⟩
   cases e
   exact⟨o,I.kK _ o hk,hd⟩
  ·have z:∃ o,s.heap.get? p=some o/\o.ExactDict:=by
    rcases hk with ⟨kvs,hk⟩ | ⟨kvs,hk⟩
    ·obtain⟨_,_,_,_,o,_,_,e,ex,_⟩:=I.aW p _ hk;exact⟨o,e,ex⟩
    ·obtain⟨_,_,_,_,o,_,_,e,ex,_⟩:=I.aW p _ hk;exact⟨o,e,ex⟩
   obtain⟨o,e,ex⟩:=z;refine⟨⟨o,e,ex.1⟩,fun a e2=>?_⟩
   cases e2
   exact⟨o,e,ex.2.1⟩
  ·obtain⟨o,_,_,_,e,ex,_⟩:=I.aW p _ hk;refine⟨⟨o,e,ex.1⟩,fun a e2=>?_⟩
   cases e2
   exact⟨o,e,ex.2.1⟩
 | _=>exact ZG ty
def Wo (K:e_) (T:acq) (r:V->List V->Hp->VK->Prop) (to:TE) (t:TA):TE:=fun σ H Q=>to σ H fun x H1=>RY K T x H1/\t σ H1 fun xs H2=>r x xs H2 Q
variable {o e:Expr}{es:List Expr}{to:TE}{t:TA}{name:Str}{apos bK:Pos}{T id:acq}{r:V->List V->Hp->VK->Prop}
def Cj (pa:PlainAttrs T) (slot:Slot T name id) (Wq:typeOf (.builtin id)=pure (.type "method_descriptor")) (hm:Wn X id r) (ho:PE X o to) (ha:PA X (e::es) t)
  (oO:abp o name X.env (eval o X.env)=eval o X.env:=by rfl)
  (JD:((aaV bK (S_ (e::es) X.env)).all (fun x => !x.1)&&(adp bK (ab1 [] X.env)).all (fun x=>x.1.isSome)
   && decide ((e::es).length+([]:List acW).length+(if ([]:List acW).isEmpty then 0 else 1)<30))=true:=by rfl)
  (bQ:(apos.endLine==bK.line)=true:=by rfl) (hs:S_ (e::es) X.env=(false,eval e X.env)::S_ es X.env:=by rfl) (x8:(aaV bK (S_ es X.env)).any (·.1)=false:=by rfl) :
  PE X (.Call (.Attribute o name apos) (e::es) [] bK) (Wo X.K T r to t):=by
 ext d;refine ad_ oO JD bQ rfl (aX (ho pins s σ H _ I h) fun v s1 ⟨x,H1,I1,r1,ty,q1⟩=>?_);obtain⟨h1,h2⟩:=JC I1 r1 ty;refine⟨T,id,pa,slot,Wq,h1,h2,?_⟩;have hA:=ha bK pins s1 σ H1 _ I1 q1;rw[hs] at hA ⊢;refine aea (by show (false||(aaV bK (S_ es X.env)).any (·.1))=false;rw[x8]<;>rfl) (aeF ?_);exact aX hA fun us s2 ⟨vs,H2,I2,r2,q2⟩=>hm pins s2 σ H2 x vs v us Q I2 r1 r2 q2
end
def RZ (X:Cx) (id:acq) (r:V->List V->Hp->VK->Prop):Prop :=
 ∀ (pins:List (Addr×Obj)) (s:j_) (σ:St) (H:Hp) (x:V) (xs:List V) (v:Value) (us:List Value) (Q:VK),Inv X pins σ H s->RelV x v->Vals xs us->r x xs H Q ->
  wpAny '0' X.A (call (.builtin id) (v::us)) (EP X pins σ Q) X.xe s
theorem Vals.one:∀ {x:V}{us:List Value},Vals [x] us->∃ u,us=[u]/\RelV x u
 | _,_,.cons r .nil=>⟨_,rfl,r⟩
section
variable {X:Cx}{pins:List (Addr×Obj)}{σ:St}{H:Hp}{s:j_}{l b:Addr}{xs ys zs:List V}
def Inv.MT {ai its':List Value}{n:Nat}{f:Array Value->Array Value}{t':Nat} (I:Inv X pins σ H s) (hH:H l=some (.lst xs))
  (e:s.heap.get? l=some { cls:=.type "list",data:=.seq ai.toArray n }) (hf:f ai.toArray=its'.toArray) (hv:Vals ys its') (hz:ys.length<=sizeLine) :
  Inv X pins σ (upd H l (.lst ys)) { s with heap:=s.heap.update l (Obj.mapSeq f),toks:=t' }:=by
 have q:=PySem.IsL.update e f;rw[hf] at q;refine I.write (x:=l) (e:=l) (by rw[hH];exact trivial) (.inl rfl) (fun b' u hb hu=>(Heap.get?_update_other s.heap (Obj.mapSeq f) (ZM hb)).trans hu) ⟨_,q⟩ ?_;exact⟨hz,its',_,hv,q⟩
def Inv.R0 {ai:List Value}{t':Nat} (I:Inv X pins σ H s) (hv:Vals ys ai) (hz:ys.length<=sizeLine) :
  Inv X pins σ (upd H s.heap.objs.size (.lst ys)) { s with heap:=s.heap.push { cls:=.type "list",data:=.seq ai.toArray },toks:=t' } :=
 I.laid (fun _ _ q=>k_ _ q) (t_ _) ⟨hz,ai,0,hv,w_ _ rfl⟩
theorem Inv.fresh (I:Inv X pins σ H s):H s.heap.objs.size=none:=I.aW.fresh (t_ _)
def Inv.Ck (I:Inv X pins σ H s) (hH:H l=some (.lst xs)):xs.length<=sizeLine/\∃ (ai:List Value) (n:Nat),Vals xs ai/\xs.length=ai.length/\s.heap.get? l=some { cls:=.type "list",data:=.seq ai.toArray n }:=by
 obtain⟨z,ai,n,r,e⟩:=I.aW l _ hH;exact⟨z,ai,n,r,r.length,e⟩
def Cm {n:Nat} (h:n<=sizeLine):ach n=false:=by
 unfold ach;exact f_ ∅
end
section
variable {X:Cx}
def Ff:V->List V->Hp->VK->Prop:=fun x vs H Q=>∃ l xs y,x=.ref l/\vs=[y]/\H l=some (.lst xs)/\xs.length<sizeLine/\Q .az (upd H l (.lst (xs++[y])))
def r6:RZ X "list.append" Ff:=by
 intro pins s σ H x vs v us Q I rx rv h;obtain⟨l,xs,y,rfl,rfl,hH,hz,q⟩:=h
 cases rx
 obtain⟨u,rfl,ru⟩:=rv.one;obtain⟨z,ai,n,r,hl,e⟩:=I.Ck hH;refine afe acM ⟨_,e,rfl⟩ F.entry_list_append (F.args_list_append_2 _ _) (PySem.list_append l ai.toArray n u (by rw[H_];lia)) ⟨e,?_⟩;refine⟨.az,_,I.MT (its':=ai++[u]) hH e (3) (r.append (.cons ru .nil)) ?_,rfl,q⟩;rw[A_,X_]
 lia
def Fg:V->List V->Hp->VK->Prop:=fun x vs H Q=>∃ l b xs zs,x=.ref l/\vs=[.ref b]/\H l=some (.lst xs)/\H b=some (.lst zs)/\xs.length+zs.length<=sizeLine/\Q .az (upd H l (.lst (xs++zs)))
def AN:RZ X "list.extend" Fg:=by
 intro pins s σ H x vs v us Q I rx rv h;obtain⟨l,b,xs,zs,rfl,rfl,hH,hB,hz,q⟩:=h
 cases rx
 obtain⟨u,rfl,ru⟩:=rv.one
 cases ru
 obtain⟨z,ai,n,r,hl,e⟩:=I.Ck hH;obtain⟨z2,kY,n2,r2,Fh,e2⟩:=I.Ck hB;have hsz:ai.toArray.size+kY.toArray.size<=sizeLine:=by rw[H_,H_];lia
 have MU:¬ (!ai.toArray.isEmpty&&ach (ai.toArray.size+kY.toArray.size))=true:=by
  rw[Cm hsz,Bool.and_false];exact u_
 refine afe aew ⟨_,e,rfl⟩ F.entry_list_extend (F.args_list_extend_2 _ _)
  (AutoSeq1.list_extend_list_list_0 l ai.toArray n b kY.toArray n2 MU (by rw[H_];lia) ∅) ⟨e,e2,?_⟩
 refine⟨.az,_,I.MT (its':=ai++kY) hH e (3) (r.append r2) ?_,rfl,q⟩;rw[A_]
 lia
def R1:R2:=fun x y H Q=>∃ l b xs zs,x=.ref l/\y=.ref b/\H l=some (.lst xs)/\H b=some (.lst zs)/\xs.length+zs.length<=sizeLine/\∀ p,H p=none->Q (.ref p) (upd H p (.lst (xs++zs)))
def JE:fk X (acg .Add) R1:=by
 ext f;obtain⟨l,b,xs,zs,rfl,rfl,hH,hB,hz,q⟩:=h
 cases rx
 cases ry
 obtain⟨z,ai,n,r,hl,e⟩:=I.Ck hH;obtain⟨z2,kY,n2,r2,Fh,e2⟩:=I.Ck hB;refine PySem.P.add_list e e2 ?_ (by rw[H_,H_];lia);have ea:ai.toArray++kY.toArray=(ai++kY).toArray:=by simp
 rw[ea];exact⟨.ref _,_,I.R0 (t':=s.toks) (r.append r2) (by rw[A_];lia),rfl,q _ I.fresh⟩
end
end L2
namespace Att
open PySem PySem.W PySem.Calls PyProof.Rows
def nF {P:Params}{h:Heap}:∀ (ns:List Int) (vs:List Value),WellAll P h vs (ns.map WData.int)->agg vs ns:=by
 intro ns
 induction ns with
 | nil =>
  intro vs w;rw[Z_] at w
  cases w
  exact .nil
 | cons n ns ih =>
  intro vs w;rw[r_] at w
  cases w with
  | cons a b =>
   cases a
   exact .cons _ _ (ih _ b)
theorem AO {l:OpenLaw}{n:Nat} (hn:l.most=some n) {P:Params}{h:Heap}{args:List WData}{vals:List Value}
  (qP:l.row.toRowW.claim.pre args=true) (R3:WellAll P h vals args) :
  ∃ a vs ns,vals=[Zq a]/\args=[WData.list (ns.map WData.int)]/\h.get? a=some { cls:=.type "list",data:=.seq vs.toArray }/\agg vs ns/\ns.length<=n:=by
 have Wr:WShape.hasAll [] args [.list .int]=true:=(pre_splitW qP).1;have hc:l.pre.holds [] { args:=args }=true:=(pre_splitW qP).2;obtain⟨d,r,rfl,h1,h2⟩:=hasAllW_cons Wr;obtain rfl:=hasAllW_nil h2;obtain⟨xs,rfl,h3⟩:=hasW_list h1;obtain⟨ns,rfl⟩:=items_int h3
 have hlen:ns.length<=n:=by
  unfold OpenLaw.pre at hc
  have h4:(WTm.not (.lt (.lit (.int (n:Int))) (.len (.arg 0)))).holds [] { args:=[.list (ns.map .int)] }=true:=by
   have h4:=(holds_andW hc).1;rw[hn] at h4;exact h4
  have h5:=condW_of h4 (w_not (w_lt w_lit (w_len_list (w_arg rfl))));rw[a_] at h5;refine Nat.le_of_not_lt fun q=>?_
  have q':(n:Int)<((ns.length:Nat):Int):=by lia
  first
   | (rw[d_ q'] at h5;exact absurd h5 (2))
   | (simp at h5;lia)
 cases R3 with
 | cons w1 w2 =>
  cases w2
  cases w1 with
  | list ho R4=>exact⟨_,_,ns,rfl,rfl,ho,nF ns _ R4,hlen⟩
def AQ (l:OpenLaw) (args:List WData):l.row.toRowW.claim.post args (.bool true) args=true :=
 postW_of (r:=l.row.toRowW) (X:=(true==true))
  (show WShape.has [] (.bool true) .bool=true by first | rfl | decide | simp [WShape.has,WShape.arms,WShape.armsAll])
  (show (WTm.eq .res (.lit (.bool true))).value [] { args:=args,res:=some (.bool true),after:=args }=some (.bool (true==true)) from w_eq_bool (w_res rfl) w_lit) rfl
def vt {l:OpenLaw}{n:Nat}{q:N_}{loose:List Str}{XP:(Str->m_ Value)->Heap->Prop}{YP:World->Heap->Prop}{d:DefRec}
  (hn:l.most=some n) (MV:d.params.defaults=[])
  (call:∀ (w:World) (s₀ s₁:j_) (mg mb:Str->m_ Value) (fa:Addr) (o:Obj) (pm cd doc:Value) (a:Addr) (vs:List Value) (ns:List Int),
   Ground q loose [] XP w s₀ mg mb s₁.heap->YP w s₁.heap ->
   s₁.heap.get? fa=some o->o.data=.func (docDef d.name d.params d.body d.scope pm cd doc)->s₁.heap.CodeRec cd d.name->mg d.name=some (.ref fa) ->
   s₁.heap.get? a=some { cls:=.type "list",data:=.seq vs.toArray }->agg vs ns->ns.length<=n->s₁.gens=#[] ->
   ab5 (model l.prog w) aeb (.call (.ref fa) ⟨[.ref a],[]⟩) (fun r s'=>r=.ok (.ret (.bool true))/\OldK s₁.heap s'.heap/\s'.os=s₁.os/\ada s'.gens) s₁) :
  WalkO q loose XP YP l.row.toRowW d [] (fun f vs=>agq f vs):=by
 intro w s₀ s₁ mg mb G Y fa o pm cd doc dV kV ho hd l7 hD JF hg args vals as qP Ws YY R3 YZ;obtain rfl:dV=.none:=Dflts.none hD MV;obtain rfl:kV=.none:=Dflts.noKw hD;obtain⟨a,vs,ns,rfl,rfl,JG,hints,hlen⟩:=AO hn qP R3;refine enter_call (ab6 (call w s₀ s₁ mg mb fa o pm cd doc a vs ns G Y ho (fd_plain hd) l7 JF JG hints hlen hg) fun r s' hq=>?_);obtain⟨rfl,h2,h3,h4⟩:=hq;exact⟨.inl ⟨.bool true,.bool true,[],rfl,fun _=>rfl,.bool true,AQ l _,fun _=>⟨acH,fun _ hm=>(nomatch hm)⟩⟩,h2,h3,h4⟩
end Att
namespace L2
open PySem PySem.Spec PyProof.Rows
theorem r9:∀ {vs:List Value}{ns:List Int},agg vs ns->Vals (ns.map V.int) vs
 | _,_,.nil=>.nil
 | _,_,.cons n t h=>.cons ⟨t,rfl⟩ (r9 h)
def JH (H:Hp):Prop:=∀ b,H b=none∨∃ o xs,H b=some (.eT o (.lst xs))
theorem Cn {P:N_}{w:World}{K:e_}{mg mb:Str->m_ Value}{CX:xY}{k:Nat}{fa a:Addr}{fd:Z4}{x:Str}{sp:Sp}{s₁:j_}{vs:List Value}{ns:List Int}
  (KX:K.In s₁.heap) (QG:s₁.heap.Ns mainGlobals mg) (hb:s₁.heap.Ns ad2 mb) (Wt:∀ x:Str,x ≠ "__name__" ->mb x=aag x) (R5:s₁.heap.NoLimit) (hg:s₁.gens=#[])
  (ha:s₁.heap.get? a=some { cls:=.type "list",data:=.seq vs.toArray }) (hi:agg vs ns) (hl:ns.length<=sizeLine) (hr:cg k aeb)
  (F:∀ base:Heap,K.In base->base.Ns mainGlobals mg->bN P w K mg base CX k fa fd [x] sp) (MW:∀ (s:j_) (u:Value),afu s fd ⟨[u],[]⟩ [(x,u)])
  (EB:∀ H:Hp,JH H->cE K H a (ns.map V.int)->sp [.ref a] H (fun v _=>v=.bl true) fun _ _ _=>False)
  (R6:∀ H e s',CX [] H s₁ (fun _ _ _=>False) e s'->False) :
  ab5 (model P w) aeb (.call (.ref fa) ⟨[.ref a],[]⟩) (fun r s'=>r=.ok (.ret (.bool true))/\OldK s₁.heap s'.heap/\s'.os=s₁.os/\ada s'.gens) s₁:=by
 have rv:=r9 hi;have R7:=hi.length
 have core:∀ H:Hp,JH H->cE K H a (ns.map V.int)->jz P w H s₁.heap->(∀ b,H b≠none->b=a)->(H a≠none->K.lookup a=none) ->
   ab5 (model P w) aeb (.call (.ref fa) ⟨[.ref a],[]⟩) (fun r s'=>r=.ok (.ret (.bool true))/\OldK s₁.heap s'.heap/\s'.os=s₁.os/\ada s'.gens) s₁:=by
  intro H hO hS aW hA hK;have gu:∀ {b:Addr}{o:Obj},s₁.heap.get? b=some o->H b=none->(tJ s₁.heap H).get? b=some o:=fun e n=>BO e n
  have MJ:∀ {b:Addr}{o:Obj}{es:Array DictEntry}{ep:Nat},s₁.heap.get? b=some o->o.data=.dict es ep->H b=none:=fun {b o es ep} e d=>by
   cases q:H b with
   | none=>rfl
   | some u =>
    have e':b=a:=hA b (by rw[q];simp);subst e';rw[ha] at e;cases e;have d':agr vs.toArray _=Data.dict es ep:=d
    cases d'
  have QH:∀ {b:Addr}{m:Str->m_ Value},s₁.heap.Ns b m->(tJ s₁.heap H).Ns b m:=fun {b m} ⟨o,es,ep,e,d,r⟩=>⟨o,es,ep,gu e (MJ e d),d,r⟩
  have U1:K.In (tJ s₁.heap H):=fun b o e=>gu (KX b o e) (by
   cases q:H b with
   | none=>rfl
   | some u =>
    have e':b=a:=hA b (by rw[q];simp);subst e';rw[hK (by rw[q];simp)] at e;cases e)
  have hM:Mod K mg (tJ s₁.heap H):=⟨U1,QH QG,⟨mb,QH hb,Wt⟩,let ⟨mc,h1,h2⟩:=R5;⟨mc,QH h1,h2⟩⟩;have e0:vn P w K mg (tJ s₁.heap H) aeb [] s₁ H:=⟨rfl,hM,fun b o e=>EL e,afp (Ar _ _),trivial,fun b hb=>absurd (show b∈([]:List Addr) from hb) (3),aW,.of_eq hg⟩;refine ab6 ((F _ U1 (QH QG)).run aeb [] s₁ H ⟨[.ref a],[]⟩ [.ref a] [.ref a] _ _ hr e0 (MW s₁ (.ref a)) (.cons rfl .nil) (EB H hO hS)) fun r s' h=>?_
  cases r with
  | error e=>exact (R6 H e s' h).elim
  | ok fl =>
   cases fl with
   | next=>exact ZG h
   | brk=>exact ZG h
   | cont=>exact ZG h
   | ret u =>
    obtain⟨v,H',os,bare,un,R8,r',q⟩:=h;have q':v=.bl true:=q;subst q';obtain rfl:u=adg true:=r';refine⟨rfl,OldK.of_keep fun b o e=>?_,os,bare⟩
    cases q:H b with
    | none=>exact un.keep b o e q (by intro z;exact absurd (show b∈([]:List Addr) from z) (3)) (3)
    | some u =>
     rcases hO b with z | ⟨ob,xs,z⟩
     ·rw[q] at z;cases z
     ·have z2:=un.oG b ob _ z;obtain⟨e1,_⟩:=aW b _ z;obtain⟨e2,_⟩:=R8 b _ z2;rw[e] at e1;cases e1;exact e2
 cases hk:K.lookup a with
 | some o =>
  have e:=KX a o hk;rw[ha] at e
  cases e
  refine core (fun _=>none) (fun _=>.inl rfl) (.inr ⟨_,vs.toArray,_,hk,rfl,rfl,rfl,by rw[H_,R7];exact hl,by simpa using rv⟩) (fun b u z=>by have z':(none:m_ HO)=some u:=z;cases z') (fun b z=>absurd rfl z) fun z=>absurd rfl z
 | none =>
  refine core (fun b=>if b=a then some (.eT { cls:=.type "list",data:=.seq vs.toArray } (.lst (ns.map V.int))) else none) (fun b=>?_) (.inl (.inr ⟨{ cls:=.type "list",data:=.seq vs.toArray },z_ rfl⟩)) (fun b u z=>?_) (fun b z=>?_) fun _=>hk
  ·by_cases hb:b=a
   ·exact .inr ⟨_,_,z_ hb⟩
   ·exact .inl (s_ hb)
  ·by_cases hb:b=a
   ·have z':=(z_ hb).symm.trans z
    cases z'
    subst hb;exact⟨ha,by rw[a_];exact hl,vs,_,rv,ha⟩
   ·have z':=(s_ hb).symm.trans z
    cases z'
  ·by_cases hb:b=a
   ·exact hb
   ·exact absurd (s_ hb) z
def Fi {l:af6}{n k:Nat}{q:N_}{loose:List Str}{XP:(Str->m_ Value)->Heap->Prop}{YP:World->Heap->Prop}{d:DefRec}{K:Params->e_}{CX:World->xY}{sp:World->Sp}{x:Str}
  (hn:l.most=some n) (Jp:n<=sizeLine) (MV:d.params.defaults=[]) (hr:cg k aeb)
  (hY:∀ (w:World) (h:Heap),YP w h->(K w.params).In h)
  (F:∀ (w:World) (mg:Str->m_ Value) (fa:Addr) (h:Heap),(K w.params).In h->h.Ns mainGlobals mg->mg d.name=some (.ref fa) ->
   ∃ fd:Z4,(∀ (s:j_) (u:Value),afu s fd ⟨[u],[]⟩ [(x,u)]) /\
    ∀ base:Heap,(K w.params).In base->base.Ns mainGlobals mg->bN l.prog w (K w.params) mg base (CX w) k fa fd [x] (sp w))
  (EB:∀ (w:World) (H:Hp) (a:Addr) (ns:List Int),ns.length<=n->JH H->cE (K w.params) H a (ns.map V.int)->sp w [.ref a] H (fun v _=>v=.bl true) fun _ _ _=>False)
  (R6:∀ (w:World) (H:Hp) (s:j_) (e:Value) (s':j_),CX w [] H s (fun _ _ _=>False) e s'->False) :
  agB q loose XP YP l.row.toRowW d [] (fun f vs=>agq f vs):=by
 refine Att.vt hn MV fun w s₀ s₁ mg mb fa o pm cd doc a vs ns G Y ho hd l7 JF JG hints hlen hg=>?_
 have KX:=hY w _ Y;obtain⟨fd,hb,hF⟩:=F w mg fa _ KX G.T.g JF;exact Cn KX G.T.g G.T.b G.T.builtins G.T.nolimit hg JG hints (R_ hlen Jp) hr hF hb (fun H hO hS=>EB w H a ns hlen hO hS) fun H e s'=>R6 w H s₁ e s'
noncomputable def n8 (s:Stmt):afR:=match s with
 | .FunctionDef _ a _ _ _ _ _ _ _ _=>a
 | _=>{ posonlyargs:=[],args:=[],vararg:=none,kwonlyargs:=[],kw_defaults:=[],kwarg:=none,defaults:=[] }
noncomputable def jC (s:Stmt):List Stmt:=match s with
 | .FunctionDef _ _ b _ _ _ _ _ _ _=>b
 | _=>[]
noncomputable def bF (s:Stmt):Scope:=match s with
 | .FunctionDef _ _ _ _ _ _ sc _ _ _=>sc
 | _=>{ kind:=.function,names:=[],isGenerator:=false,isCoroutine:=false }
abbrev mj:xY:=fun _ _ _ _ _ _=>False
abbrev E0:XK:=fun _ _ _=>False
def vv {X:Cx}:Passes mj X E0:=fun _ _ _ _ _ _ _ h=>h.elim
structure Co (K:e_) (x qual:Str) (st:Stmt) (f:Addr) (fd:Z4):Prop where
 ex:∃ (oc:Value) (od:m_ Addr) (kV doc pm:Value) (an:m_ Addr) (jZ ct:Value) (AI:Array (m_ Value)),
  fd=aaW x qual (n8 st) (jC st) (bF st) .none kV doc pm an jZ ct/\K.lookup f=some ⟨oc,od,.func fd,AI⟩/\ab0 K jZ qual=true
 kp:ZH K (.ref f)=true
section
variable {P:N_}{w:World}{K:e_}{mg:Str->m_ Value}{base:Heap}
def Co.ok {x qual:Str}{st:Stmt}{f:Addr}{fd:Z4}{N ps:List Str}{k:Nat}{sp:Sp} (F:Co K x qual st f fd) (S:n5 N ps (bF st)) (len:∀ vs H Q E,sp vs H Q E->vs.length=ps.length)
  (Cf:∀ (jZ:Value) (A:ZN) (outer:List Env) (s:j_) (H:Hp) (vs:List V) (Q:VK) (E:XK),cg k (A.deeper (aeC qual (bF st) s.heap.objs.size f jZ))->sp vs H Q E ->
   ∃ t,kL (xZ mj P w K mg base N qual (bF st) f jZ A outer s H E).Mn (jC st) t/\t { nx:=fun _ H'=>Q .az H',rt:=Q } (start N vs) H):bN P w K mg base mj (k+1) f fd ps sp:=by
 obtain⟨oc,od,kV,doc,pm,an,jZ,ct,AI,rfl,lk,l7⟩:=F.ex;refine MK lk l7 S len fun A outer s H vs Q E hr EB=>?_
 obtain⟨t,h,q⟩:=Cf jZ A outer s H vs Q E hr EB;exact⟨t,h.Mn,q⟩
def Co.binds {x qual:Str}{st:Stmt}{f:Addr}{fd:Z4}{ps:List Str} (F:Co K x qual st f fd)
  (h:∀ (kV doc pm:Value) (an:m_ Addr) (jZ ct:Value) (us:List Value),us.length=ps.length->afv (aaW x qual (n8 st) (jC st) (bF st) .none kV doc pm an jZ ct) ⟨us,[]⟩=pure (ps.zip us)):Binds K fd ps []:=by
 obtain⟨oc,od,kV,doc,pm,an,jZ,ct,AI,rfl,lk,l7⟩:=F.ex;exact .all (h kV doc pm an jZ ct)
def JI {x qual:Str}{st:Stmt}{f:Addr}{oc:Value}{od an:m_ Addr}{AI:Array (m_ Value)}{kV doc pm jZ ct:Value} (l:K.lookup f=some ⟨oc,od,.func (aaW x qual (n8 st) (jC st) (bF st) .none kV doc pm an jZ ct),AI⟩)
  (c:ab0 K jZ qual=true) (k:ZH K (.ref f)=true):Co K x qual st f (aaW x qual (n8 st) (jC st) (bF st) .none kV doc pm an jZ ct):=⟨⟨oc,od,kV,doc,pm,an,jZ,ct,AI,rfl,l,c⟩,k⟩
end
def ag (H H':Hp):Prop:=∀ b o,H b=some o->H' b=some o
def ag.refl (H:Hp):ag H H:=fun _ _ h=>h
def ag.trans {H H1 H2:Hp} (a:ag H H1) (b:ag H1 H2):ag H H2:=fun c o h=>b c o (a c o h)
def ag.free {H H':Hp} (e:ag H H') {l:Addr} (h:H' l=Option.none):H l=Option.none:=by
 cases q:H l with
 | none=>rfl
 | some o =>
  rw[e l o q] at h
  cases h
def ag.seq {K:e_}{H H':Hp}{a:Addr}{xs:List V} (e:ag H H') (h:cE K H a xs):cE K H' a xs:=by
 rcases h with (h | ⟨o,h⟩) | h
 ·exact .inl (.inl (e _ _ h))
 ·exact .inl (.inr ⟨o,e _ _ h⟩)
 ·exact .inr h
section
variable {P:N_}{w:World}{H:Hp}{h:Heap}{a:Addr}{o:HO}
def jz.MX (x:jz P w H h) (hn:H a=none) (new:aQ P w (upd H a o) h a o):jz P w (upd H a o) h:=fun b u e=>by
 by_cases hb:b=a
 ·subst hb;rw[au] at e;cases e;exact new
 ·rw[av hb] at e;exact (x b u e).eU (fun c v _ q=>q) (fun c q=>by rw[av (aB q hn)];exact q) fun c xs q=>by rw[av (aB q hn)];exact q
end
noncomputable def R9 (x:Str):It:=⟨fun i _=>i<x.cps.size,fun i H v H'=>H'=H/\∃ c,x.cps[i]? = some c/\v=.str ⟨#[c]⟩,fun i _=>i=x.cps.size⟩
def sd {prog:N_}{w:World}{A:ZN} (hh:A.handled=none) (I:Addr) (x:Str) (t:Tok):Walks prog w A I [I] [I] x.cps.size (SignAt x) (fun i h=>h.IsStrIter I (aaE x) x t i):=by
 cases ha:x.cps.all (·<128)
 ·have e:aaE x = "str_iterator" := by simp [aaE,ha]
  rw[e];exact Walks.strWide hh I x t
 ·have e:aaE x = "str_ascii_iterator" := by simp [aaE,ha]
  rw[e];exact Walks.strAscii hh I x t
def Cp {P:N_}{w:World}{K:e_}{tg:Expr} (it:Addr) (x:Str) (t:Tok):Turn P w K tg (R9 x) [it] it (fun i h=>h.IsStrIter it (aaE x) x t i) where
 mem:=by simp
 obj:=fun i h st b hb=>by
  have e:b=it:=by simpa using hb
  subst e;obtain⟨o,ho,_,hd⟩:=st;exact⟨o,ho,fun v q=>by rw[hd] at q;cases q⟩
 keep:=fun i h h' st k=>by
  obtain⟨o,ho,r⟩:=st;exact⟨o,k it (3) o ho,r⟩
 item:=by
  ext e;subst hP hw hK;obtain⟨f0,f1,f2,f3,f4,f5⟩:=hf it (3);refine (sd (I.ok.hd hc) it x t).item i s _ _ hg st fun v h' tk hv nE kk=>?_
  obtain⟨c,u,hx,rfl⟩:=hv;have I1:Inv X pins σ H { s with heap:=h',toks:=tk }:=I.turned (fun b o hb e=>kk b o (by simpa using hb) e) f0 f1 f3 f4 f5;obtain⟨o,ho,LM,hd⟩:=id nE;refine⟨_,rfl,vj (s:={ s with heap:=h',toks:=tk }) (n:=aaE x) ho LM hd ?_ ⟨.str ⟨#[c]⟩,H,I1,⟨u,rfl⟩,⟨rfl,c,hx,rfl⟩,nE,fun b hb=>(hf b hb).1⟩⟩;unfold aaE;split<;>decide
 done:=by
  ext e;subst hP hw hK;obtain⟨f0,f1,f2,f3,f4,f5⟩:=hf it (3);have LN:i=x.cps.size:=hg;subst LN;exact (sd (I.ok.hd hc) it x t).done s _ _ st fun h' tk kk=>⟨rfl,I.turned (fun b o hb e=>kk b o (by simpa using hb) e) f0 f1 f3 f4 f5⟩
 self:=fun A i s Q E st h=>by
  cases ha:x.cps.all (·<128)
  ·have e:aaE x = "str_iterator" := by simp [aaE,ha]
   rw[e] at st;exact wpAny_pyIter_striter_wide st h
  ·have e:aaE x = "str_ascii_iterator" := by simp [aaE,ha]
   rw[e] at st;exact wpAny_pyIter_striter_ascii st h
section
variable {prog:N_}{w:World}{A:ZN}{R:Result->j_->Prop}{s:j_}
theorem vw {elt target iter:Expr}{ifs:List Expr}{scope:Scope}{pos:Pos}{it acc:Value}{env:Env} (I:Nat->j_->Prop)
  (turn:∀ n s,I n s->wpAny '3' A (aez it) (fun r s₁=>match r with
   | none=>R (.ok .next) s₁
   | some v=>wpAny '3' A (ac2 target it v) (fun _ U2=>wpAny '3' A (afO target env v) (fun _ s₂ =>
     wpAny '3' A (forIn ifs true fun c r=>if r=true then do let ok <-aex c env (eval c env);pure (abN ok) else pure (abN r)) (fun ok s₃ =>
      if ok=true then wpAny '3' A (eval elt env) (fun x s₄ =>
       wpAny '3' A (call (.builtin "list.append") [acc,x]) (fun _ s₅=>∃ m,m<n/\I m s₅) (fun _ _=>False) s₄) (fun _ _=>False) s₃
      else ∃ m,m<n/\I m s₃) (fun _ _=>False) s₂) (fun _ _=>False) U2) (fun _ _=>False) s₁) (fun _ _=>False) s)
  (n:Nat) (h:I n s) :
  ab5 '3' A (.compLoop (.ListComp elt [⟨target,iter,ifs,0⟩] scope pos) 0 it acc env) R s:=by
 refine codeAny_loop rfl I (fun n s hI=>?_) n h;show wpAny _ A ((compTurn (.ListComp elt [⟨target,iter,ifs,0⟩] scope pos) 0 it acc env).onRaise (fun x=>do noteFrame x env;theTreesLotGoes x)) _ _ s;refine wpAny_noted ?_;rw[compTurn_list];refine c_ (wpAny_standAt (c_ (aaj (turn n s hI) (fun r s₁ h₁=>?_) fun _ _ h'=>h'.elim)))
 cases r with
 | none=>exact q_ h₁
 | some v =>
  refine c_ (aaj h₁ (fun _ U2 Wu=>c_ (aaj Wu (fun _ s₂ h₂=>c_ (aaj h₂ (fun ok s₃ h₃=>?_) fun _ _ h'=>h'.elim)) fun _ _ h'=>h'.elim)) fun _ _ h'=>h'.elim)
  cases ok with
  | false=>exact q_ ⟨rfl,h₃⟩
  | true =>
   exact c_ (c_ (aaj h₃ (fun x s₄ h₄=>c_ (aaj h₄ (fun _ s₅ h₅=>q_ (q_ ⟨rfl,h₅⟩)) fun _ _ h'=>h'.elim)) fun _ _ h'=>h'.elim))
end
noncomputable def iL (env:Env):List (Str×aaR)->List (Str×Addr)->List (Str×Addr)
 | [],acc=>acc
 | (n,k)::r,acc=>iL env r (if k==.free then (n,(env.cells.lookup n).getD 0)::acc else acc)
def iy {scope:Scope}{env:Env} (h:∀ y∈scope.names,y.2=.free->∃ c,env.cells.lookup y.1=some c):closureFor scope env=pure (iL env scope.names []):=by
 simp only[closureFor]
 suffices hh:∀ (l:List (Str×aaR)) (acc:List (Str×Addr)),(∀ y∈l,y.2=.free->∃ c,env.cells.lookup y.1=some c) ->
   (forIn l acc fun x r=>if (x.2==Z2)=true then do let a <-cellOf env x.1;pure (abN ((x.1,a)::r)) else pure (abN r):Sem (List (Str×Addr)))=pure (iL env l acc) by
  have:=hh scope.names [] h;simp only[bind_pure];exact this
 intro l
 induction l with
 | nil=>intro acc _;rfl
 | cons y r ih =>
  intro acc hy;obtain⟨n,k⟩:=y;rw[aek]
  cases hk:(k==Z2) with
  | true =>
   obtain⟨c,hc⟩:=hy (n,k) W_ (by simpa using hk);have e1:cellOf env n=pure c:=by unfold cellOf;rw[hc]
   simp only[hk,ab7,e1,pure_bind];rw[ih _ fun z hz=>hy z (J_ _ hz)];simp only[iL,hk,ab7,hc,afS]
  | false =>
   simp only[hk,aff,if_false,pure_bind];rw[ih _ fun z hz=>hy z (J_ _ hz)];simp only[iL,hk,aff,if_false]
theorem vB {env:Env}{x:Str}{c:Addr}:∀ {l:List (Str×aaR)}{acc:List (Str×Addr)},(∀ y∈l,y.2=.free->∃ c,env.cells.lookup y.1=some c)->(acc.lookup x=some c->env.cells.lookup x=some c)->(iL env l acc).lookup x=some c->env.cells.lookup x=some c
 | [],_,_,ha,e=>ha e
 | (n,k)::r,acc,hl,ha,e=>by
  refine vB (l:=r) (fun z hz=>hl z (J_ _ hz)) (fun q=>?_) e
  cases hk:(k==Z2) with
  | false=>rw[hk] at q;exact ha q
  | true =>
   rw[hk] at q;obtain⟨c',hc⟩:=hl (n,k) W_ (by simpa using hk);simp only[ab7,hc,afS,Zt] at q
   cases hx:(x==n) with
   | true=>rw[hx] at q;cases q;rw[show x=n from by simpa using hx];exact hc
   | false=>rw[hx] at q;exact ha q
theorem vD {env:Env}{x:Str}{c:Addr}:∀ {l:List (Str×aaR)}{acc:List (Str×Addr)},(iL env l acc).lookup x=some c->acc.lookup x=some c∨(x,Z2)∈l
 | [],_,e=>.inl e
 | (n,k)::r,acc,e=>by
  rcases vD (l:=r) e with q | q
  ·cases hk:(k==Z2) with
   | false=>rw[hk] at q;exact .inl q
   | true =>
    rw[hk] at q;simp only[ab7,Zt] at q
    cases hx:(x==n) with
    | true =>
     have e1:x=n:=by simpa using hx
     have e2:k=Z2:=by simpa using hk
     subst e1 e2;exact .inr W_
    | false=>rw[hx] at q;exact .inl q
  ·exact .inr (J_ _ q)
theorem oP {env:Env}{x:Str}:∀ {l:List (Str×aaR)}{acc:List (Str×Addr)},(∃ c,acc.lookup x=some c)∨(x,Z2)∈l->∃ c,(iL env l acc).lookup x=some c
 | [],_,h=>h.elim (fun z=>z) fun z=>nomatch z
 | (n,k)::r,acc,h=>by
  refine oP (l:=r) ?_;rcases h with ⟨c,h⟩ | h
  ·refine .inl ?_
   cases hk:(k==Z2) with
   | false=>exact⟨c,h⟩
   | true =>
    simp only[ab7,Zt]
    cases hx:(x==n) with
    | true=>exact⟨_,rfl⟩
    | false=>exact⟨c,h⟩
  ·rcases C_.mp h with h | h
   ·cases h
    refine .inl ?_;rw[z_ (by rfl),Zt];exact⟨_,by rw[show (x==x)=true from by simp]⟩
   ·exact .inr h
theorem lookup_mem {α:Type}{x:Str}{k:α}:∀ {l:List (Str×α)},l.lookup x=some k->(x,k)∈l
 | (n,z)::r,e=>by
  rw[Zt] at e
  cases hx:(x==n) with
  | true=>rw[hx] at e;cases e;rw[show x=n from by simpa using hx];exact W_
  | false=>rw[hx] at e;exact J_ _ (lookup_mem e)
def se (env:Env) (n:Str) (z:aaR):∃ z',(if (z==Z2&&env.scope.kind==.function&&env.kindOf n==some .cell)=true then (n,aaZ) else (n,z))=(n,z')/\(z'=z∨(z=.free/\z'=.cell)):=by
 by_cases hc:(z==Z2&&env.scope.kind==.function&&env.kindOf n==some .cell)=true
 ·rw[z_ hc];simp only[v_] at hc;exact⟨_,rfl,.inr ⟨by simpa using hc.1.1,rfl⟩⟩
 ·rw[s_ hc];exact⟨_,rfl,.inl rfl⟩
theorem bo {env:Env}{x:Str}:∀ {l:List (Str×aaR)}{k:aaR},l.lookup x=some k ->
  ((l.map fun (n,k)=>if (k==Z2&&env.scope.kind==.function&&env.kindOf n==some .cell) then (n,aaZ) else (n,k)).lookup x=some k) ∨
  (k=.free/\(l.map fun (n,k)=>if (k==Z2&&env.scope.kind==.function&&env.kindOf n==some .cell) then (n,aaZ) else (n,k)).lookup x=some .cell)
 | (n,z)::r,k,e=>by
  obtain⟨z',e1,e2⟩:=se env n z;have ih:=fun h=>bo (env:=env) (x:=x) (l:=r) (k:=k) h
  rw[Zt] at e;rw[r_];dsimp only;rw[e1,Zt]
  cases hx:(x==n) with
  | true =>
   rw[hx] at e
   cases e
   rcases e2 with e2 | ⟨e2,e3⟩
   ·rw[e2];exact .inl rfl
   ·rw[e3];exact .inr ⟨e2,rfl⟩
  | false=>rw[hx] at e;exact ih e
theorem kZ {env:Env}{x:Str}:∀ {l:List (Str×aaR)},l.lookup x=none ->
  (l.map fun (n,k)=>if (k==Z2&&env.scope.kind==.function&&env.kindOf n==some .cell) then (n,aaZ) else (n,k)).lookup x=none
 | [],_=>rfl
 | (n,z)::r,e=>by
  obtain⟨z',e1,e2⟩:=se env n z;have ih:=fun h=>kZ (env:=env) (x:=x) (l:=r) h
  rw[Zt] at e;rw[r_];dsimp only;rw[e1,Zt]
  cases hx:(x==n) with
  | true=>rw[hx] at e;cases e
  | false=>rw[hx] at e;exact ih e
structure bx (N:List Str) (U3 scope:Scope) (own b0:List Str) (ix:List Nat):Prop where
 kind:scope.kind=.function
 cell:∀ y∈scope.names,y.2=.cell->scope.names.lookup y.1=some .cell
 names:∀ y∈scope.names,y.2=.local->scope.names.lookup y.1=some .local
 free:∀ y∈scope.names,y.2=.free->y.1∈b0
 JJ:∀ x∈own,Loc scope x
 JK:∀ x∈b0,scope.names.lookup x=some .free
 out:∀ x∈b0,U3.names.lookup x=some .cell∨U3.names.lookup x=some .free
 U4:ix.map (fun i=>N[i]?)=b0.map some
 nd:(own++b0).Nodup
noncomputable def Cx.comp (X:Cx) (scope:Scope) (own b0:List Str) (C:Addr) (s₀:j_) (H₀:Hp) (ex:List Addr) (pn:List (Addr×Obj)):Cx :=
 { X with N:=own++b0,s₀:=s₀,H₀:=H₀,env:=aeG scope (ZZ (C+1) scope.names (iL X.env scope.names [])) C X.env,outer:=X.stack,ex:=ex,fn:=fun x=>own.contains x,pn:=pn,xe:=fun _ _=>False }
noncomputable def qQ (σ:St) (own:List Str) (ix:List Nat):St:=own.map (fun _=>none)++ix.map (fun i=>(σ[i]?).join)
theorem b8:∀ (l:List (Str×aaR)) (n:Nat) (acc:List (Str×Addr)),ZZ n l acc=ZZ n l []++acc
 | [],_,_=>rfl
 | (x,k)::r,n,acc=>by
  unfold ZZ;split
  ·rw[b8 r (n+1) (_::acc),b8 r (n+1) [_],abk];rfl
  ·exact b8 r n acc
theorem eA {x:Str}{c:Addr}:∀ {l:List (Str×aaR)}{n:Nat},(x,c)∈ZZ n l []->(x,aaZ)∈l
 | (y,k)::r,n,h=>by
  unfold ZZ at h;split at h
  ·rename_i hk;rw[b8] at h;rcases U_.mp h with q | q
   ·exact J_ _ (eA q)
   ·cases D_.mp q
    rw[show k=.cell by simpa using hk];exact W_
  ·exact J_ _ (eA h)
theorem dm {x:Str}:∀ {l:List (Str×aaR)}{n:Nat}{acc:List (Str×Addr)},(∃ c,acc.lookup x=some c)∨(x,aaZ)∈l->∃ c,(ZZ n l acc).lookup x=some c
 | [],_,_,h=>h.elim (fun z=>z) fun z=>nomatch z
 | (y,k)::r,n,acc,h=>by
  unfold ZZ;split
  ·refine dm ?_
   cases hx:(x==y) with
   | true=>exact .inl ⟨n,by rw[Zt,hx]⟩
   | false =>
    rw[Zt,hx];refine h.imp id fun q=>?_
    rcases C_.mp q with z | z
    ·cases z;rw[abx] at hx;cases hx
    ·exact z
  ·rename_i hk;refine dm (h.imp id fun q=>?_);rcases C_.mp q with z | z
   ·cases z;exact absurd rfl hk
   ·exact z
def iI {M:Model}{A:ZN}{E:Value->j_->Prop}{s:j_}{scope:Scope}{globals:Addr}{closure:List (Str×Addr)}{qual:Str}{func:m_ Addr}{code:Value}{outer:Env}{builtins:Addr}{Q:Env->j_->Prop}
  (hQ:∀ h',(∀ b o,s.heap.get? b=some o->h'.get? b=some o)->h'.Ns s.heap.objs.size (fun _=>none)->CellsOk h' '7' (ZZ '7' scope.names []) ->
   Q (newEnv scope s.heap.objs.size globals (ZZ '7' scope.names closure) qual func code (some outer) builtins) { s with heap:=h' }) :
  wpAny M A (aeH scope globals closure [] qual func code (some outer) builtins) Q E s:=by
 simp only[aeH,afg,ab7];refine c_ (wpAny_alloc (c_ (wpAny_layCells _ (fun name kind cells=>by cases Wv:kind==aaZ<;>simp [Wv]) _ _ _ _ ?_)));have ok:=cellsFrom_ok scope.names (s.heap.push { cls:=.type "dict",data:=.dict #[] }) '7' [] ⟨fun _ _ hm=>(nomatch hm),acH⟩ (by rw[Z0];exact t_ _);rw[Z0] at ok;rw[show ({ s with heap:=s.heap.push { cls:=.type "dict",data:=.dict #[] } }:j_).heap.objs.size=s.heap.objs.size+1 from Z0 ..,adq];exact c_ (q_ (q_ (hQ _ (fun b o e=>pushCells_keeps _ _ b o (k_ _ e)) ((Heap.Ns.new s.heap (.type "dict")).keeps (pushCells_keeps _ _)) ok)))
section
variable {X:Cx}{pins:List (Addr×Obj)}{σ:St}{H:Hp}{s:j_}{scope:Scope}{own b0:List Str}{ix:List Nat}
theorem bx.has (S:bx X.N X.env.scope scope own b0 ix) (ok:X.Ok):∀ y∈scope.names,y.2=.free->∃ c,X.env.cells.lookup y.1=some c:=fun y hy hf=>ok.has y.1 (S.out y.1 (S.free y hy hf))
def bx.cv {C:Addr}{h₁:Heap} (S:bx X.N X.env.scope scope own b0 ix) (ok:X.Ok) (oc:CellsOk h₁ (C+1) (ZZ (C+1) scope.names [])) {x:Str}{c:Addr} (e:(ZZ (C+1) scope.names (iL X.env scope.names [])).lookup x=some c) :
  ((x,c)∈ZZ (C+1) scope.names []/\C<c/\h₁.IsCell c none)∨(X.env.cells.lookup x=some c/\x∈b0):=by
 rw[b8,List.lookup_append,Option.or_eq_some_iff] at e;rcases e with e | ⟨_,e⟩
 ·have:=oc.empty x c (aaH e);exact .inl ⟨aaH e,this.2,this.1⟩
 ·refine .inr ⟨vB (S.has ok) (fun q=>by simp at q) e,?_⟩;rcases vD e with q | q
  ·cases q
  ·exact S.free _ q rfl
theorem Inv.comp (I:Inv X pins σ H s) (S:bx X.N X.env.scope scope own b0 ix) {fp:List Addr} (hf:∀ b∈fp,nD X pins H b) (ho:∀ b∈fp,∃ o,s.heap.get? b=some o)
  {h₁:Heap}{tk:Nat}{C:Addr}{m:Str->m_ Value} (hC:s.heap.objs.size<=C) (old:∀ b o,s.heap.get? b=some o->h₁.get? b=some o) (QG:h₁.Ns C m) (oc:CellsOk h₁ (C+1) (ZZ (C+1) scope.names [])) :
  Inv '5' [] (qQ σ own ix) H { s with heap:=h₁,toks:=tk }:=by
 have cv:=fun x c e=>S.cv I.ok oc (x:=x) (c:=c) e
 have Ww:∀ {x c},X.env.cells.lookup x=some c->c<s.heap.objs.size:=fun {x c} e=>by obtain⟨v,q⟩:=I.cell x c e;exact q.lt
 have ap:∀ {x c y},C<c->X.env.cells.lookup y=some c->x=y:=fun h e=>absurd (I_ (Ww e) hC) (Nat.not_lt.mpr (Z8 h))
 have kc:∀ {x},x∈b0->(x,aaZ)∉scope.names:=fun {x} hx z=>nomatch (S.JK x hx).symm.trans (S.cell _ z rfl)
 have lc:∀ {x c},x∈b0->(ZZ (C+1) scope.names (iL X.env scope.names [])).lookup x=some c->X.env.cells.lookup x=some c:=fun {x c} hx e=>by
  rcases cv x c e with ⟨z,_⟩ | ⟨z,_⟩
  ·exact absurd (eA z) (kc hx)
  ·exact z
 have kk:∀ x,((aeG scope (ZZ (C+1) scope.names (iL X.env scope.names [])) C X.env).kindOf x=some .cell∨(aeG scope (ZZ (C+1) scope.names (iL X.env scope.names [])) C X.env).kindOf x=some .free)->(x,aaZ)∈scope.names∨(x,Z2)∈scope.names:=fun x hx=>by
  cases e:scope.names.lookup x with
  | none =>
   have q:=kZ (env:=X.env) e;rcases hx with hx | hx<;>exact nomatch q.symm.trans (show _=some _ from hx)
  | some k =>
   rcases bo (env:=X.env) e with q | ⟨q,_⟩
   ·rcases hx with hx | hx<;>cases M_ (q.symm.trans (show _=some _ from hx))
    ·exact .inl (lookup_mem e)
    ·exact .inr (lookup_mem e)
   ·exact .inr (by rw[<-q];exact lookup_mem e)
 have Sb:∀ x∈b0,(aeG scope (ZZ (C+1) scope.names (iL X.env scope.names [])) C X.env).kindOf x=some .cell∨(aeG scope (ZZ (C+1) scope.names (iL X.env scope.names [])) C X.env).kindOf x=some .free:=fun x hx=>by
  rcases bo (env:=X.env) (S.JK x hx) with q | ⟨_,q⟩
  ·exact .inr q
  ·exact .inl q
 have lt:∀ {b:Addr}{o:Obj},s.heap.get? b=some o->b<C:=fun e=>I_ (E_ e) hC
 have U5:∀ b,b∈u7 X.stack->b∈X.env.locals::X.fs:=I.oH
 refine⟨⟨I.ok.mod,S.kind,I.ok.glob,I.ok.blt,hC,fun x y c e1 e2=>?_,fun x hx=>dm ((kk x hx).symm.imp (fun z=>oP (.inr z)) id),fun x c hx e=>?_,I.ok.hd,I.ok.frames,.inl rfl,fun b hb=>?_,
  I.bs,R_ I.ok.BP I.sz,fun b o e hb=>?_,fun b hb LO=>?_,I.stack,I.zi⟩,rfl,I.bare,Un.kept old,?_,fun x c e=>?_,I.aW.fresh hC,fun x c e=>?_,fun p hp=>?_,I.aW.kept old,?_⟩
 ·rcases cv x c e1 with ⟨a1,b1,_⟩ | ⟨a1,_⟩<;>rcases cv y c e2 with ⟨a2,b2,_⟩ | ⟨a2,_⟩
  ·exact name_of_addr oc.apart a1 a2
  ·exact ap b1 a2
  ·exact (ap b2 a1).symm
  ·exact I.ok.inj x y c a1 a2
 ·rcases cv x c e with ⟨_,z,_⟩ | ⟨_,z⟩
  ·exact R_ hC (Z8 z)
  ·have h1:x∈own:=by simpa [Cx.comp] using hx
   exact absurd rfl ((adF.mp S.nd).2.2 x h1 x z)
 ·obtain⟨o,e⟩:=ho b hb;refine⟨Q_ (lt e),fun x c q=>?_⟩;rcases cv x c q with ⟨_,z,_⟩ | ⟨z,_⟩
  ·exact ab3 (afy (lt e) z)
  ·exact (hf b hb).2.2.2.2.1 x c z
 ·rcases (hf b hb).2.2.2.1 with z | z
  ·exact I.ok.xK b o e z
  ·exact absurd (I_ (E_ e) (R_ I.ok.BP z)) (ZK _)
 ·rcases C_.mp (U5 b LO) with z | z
  ·exact (hf b hb).2.1 z
  ·exact (hf b hb).2.2.1 z
 ·refine⟨m,QG,fun i x v e1 e2 _=>?_⟩;by_cases hi:i<own.length
  ·have e3:(qQ σ own ix)[i]? = some none:=by
    unfold qQ;rw[ZO (by simpa using hi),g_];rw[b_ hi];rfl
   rw[e3] at e2;cases e2
  ·have hj:own.length<=i:=Nat.not_lt.mp hi
   have QI:b0[i-own.length]? = some x:=by
    have:(own++b0)[i]? = some x:=e1;rwa [Zx hj] at this
   have e4:(ix.map (fun i=>X.N[i]?))[i-own.length]? = some (some x):=by rw[S.U4,g_,QI];rfl
   rw[g_] at e4
   cases q:ix[i-own.length]? with
   | none=>rw[q] at e4;cases e4
   | some j =>
    rw[q] at e4;have Wx:X.N[j]? = some x:=M_ e4
    have e5:(σ[j]?).join=some v:=by
     unfold qQ at e2;rw[Zx (by simpa using hj),g_,a_,q] at e2;exact M_ e2
    have e6:σ[j]? = some (some v):=by
     cases r:σ[j]? with
     | none=>rw[r] at e5;cases e5
     | some z=>rw[r] at e5;exact congrArg some e5
    have hx:x∈b0:=y_ QI;obtain⟨mo,hn,hl⟩:=I.loc;obtain⟨u,ru,lu⟩:=hl j x v Wx e6 (.inr (S.out x hx));refine⟨u,ru,.inr ⟨Sb x hx,?_⟩⟩;rcases lu with ⟨kx,_⟩ | ⟨_,c,hc,rR⟩
    ·have Wy : X.env.scope.names.lookup x = some .local := kx;rcases S.out x hx with z | z<;>exact nomatch Wy.symm.trans z
    ·obtain⟨c',IA⟩:=dm (n:=C+1) (.inl (oP (env:=X.env) (acc:=[]) (.inr (lookup_mem (S.JK x hx)))));have:c'=c:=M_ ((lc hx IA).symm.trans hc);subst this;obtain⟨oc,LJ,MY⟩:=rR;exact⟨c',IA,oc,old _ _ LJ,MY⟩
 ·rcases cv x c e with ⟨_,_,z⟩ | ⟨z,_⟩
  ·exact⟨_,z⟩
  ·obtain⟨v,oc,LJ,MY⟩:=I.cell x c z;exact⟨v,oc,old _ _ LJ,MY⟩
 ·rcases cv x c e with ⟨_,z,_⟩ | ⟨z,_⟩
  ·exact I.aW.fresh (R_ hC (Z8 z))
  ·exact I.iu x c z
 ·have iM:p∈X.pn++pins:=by simpa [Cx.comp] using hp
  obtain⟨q1,q2,q3,q4,q5⟩:=I.pin p iM;refine⟨old _ _ q1,q2,Q_ (lt q1),fun z=>?_,q5⟩;rcases C_.mp (U5 p.1 z) with y | y
  ·exact q3 y
  ·exact q4 y
 ·show (qQ σ own ix).length=(own++b0).length;have:=congrArg aeD S.U4;rw[a_,a_] at this;unfold qQ;rw[A_,A_,a_,a_,this]
end
def x9 (X:Cx) (ifs:List Expr) (t:TT):Prop :=
 ∀ (pins:List (Addr×Obj)) (s:j_) (σ:St) (H:Hp) (Q:Bool->Hp->Prop),Inv X pins σ H s->t σ H Q ->
  wpAny '0' X.A (forIn ifs true fun c r=>if r=true then do let ok <-aex c X.env (eval c X.env);pure (abN ok) else pure (abN r)) (TP X pins σ Q) X.xe s
def MZ:TT:=fun _ H Q=>Q true H
def Cq {X:Cx}:x9 X [] MZ:=fun _ _ _ H _ I h=>wpAny_tests_nil ⟨H,I,h⟩
def Cr {X:Cx}{c:Expr}{t:TT} (h:PT X c t):x9 X [c] t:=fun pins s σ H Q I q=>wpAny_tests_one (h pins s σ H Q I q)
def zu (own:List Str) (ix:List Nat) (wi:TI) (g:TG) (ti:TT) (te:TE):TE:=fun σ H Q=>wi σ H fun J H1 =>
 ∃ W:Nat->Nat->List V->St->Hp->Prop,(∃ m,W 0 m [] (qQ σ own ix) H1)/\∀ i m ys σ' H,W i m ys σ' H ->
  (J.stop i H/\ys.length<=sizeLine/\∀ D,H D=none->Q (.ref D) (upd H D (.lst ys))) ∨
  (J.go i H/\∀ x H',J.G0 i H x H'->g x σ' H' fun σ2 H2=>ti σ2 H2 fun b H3=>if b=true then te σ2 H3 fun y H4=>ys.length<sizeLine/\∃ m',m'<m/\W (i+1) m' (ys++[y]) σ2 H4 else ∃ m',m'<m/\W (i+1) m' ys σ2 H3)
section
variable {X:Cx}{pins:List (Addr×Obj)}{σ:St}{scope:Scope}{own b0:List Str}{ix:List Nat}{tg iter elt:Expr}{ifs:List Expr}{pos:Pos}
set_option maxHeartbeats 4000000 in
def oQ {s:j_}{H:Hp}{it:Addr}{fp:List Addr}{tn:Nat->Heap->Prop}{J:It}{g:TG}{ti:TT}{te:TE}{Q:VK}{W:Nat->Nat->List V->St->Hp->Prop}{E:Value->j_->Prop}{RR:Value->Addr->Result->j_->Prop} (hc:X.calm=true)
  (I:Inv X pins σ H s) (S:bx X.N X.env.scope scope own b0 ix) (T:Turn X.prog X.w X.K tg J fp it tn) (st:tn 0 s.heap) (hf:∀ b∈fp,nD X pins H b)
  (hb:∀ (C:Addr) (s₀:j_) (H₀:Hp) (ex:List Addr) (pn:List (Addr×Obj)),PG '6' tg g/\x9 '6' ifs ti/\PE '6' elt te)
  (h0:∃ m,W 0 m [] (qQ σ own ix) H)
  (turn:∀ i m ys σ' H,W i m ys σ' H->(J.stop i H/\ys.length<=sizeLine/\∀ D,H D=none->Q (.ref D) (upd H D (.lst ys))) ∨
   (J.go i H/\∀ x H',J.G0 i H x H'->g x σ' H' fun σ2 H2=>ti σ2 H2 fun b H3=>if b=true then te σ2 H3 fun y H4=>ys.length<sizeLine/\∃ m',m'<m/\W (i+1) m' (ys++[y]) σ2 H4 else ∃ m',m'<m/\W (i+1) m' ys σ2 H3))
  (Wz:∀ (D C:Addr) (oC:Obj) (m:Str->m_ Value) (H':Hp) (s':j_),s'.heap.get? C=some oC->s'.heap.Ns C m->C≠X.env.locals->(X.s₀.heap.objs.size<=C)->(∀ x c,X.env.cells.lookup x=some c->c≠C)->(∀ p∈X.pn++pins,p.1≠C)->C∉X.fs->H' C=none ->
   Inv X pins σ H' s'->Q (.ref D) H'->RR (.ref D) C (.ok .next) s') :
  wpAny '0' X.A (newList []) (fun acc s₃=>wpAny '0' X.A (aeH scope X.env.globals (iL X.env scope.names []) [] X.env.qual none .none (some X.env)) (fun M0 s₄ =>
   ab5 '0' X.A (.compStart '8' 0 (.ref it) acc { M0 with scope:=relabel scope X.env }) (RR acc M0.locals) s₄) E s₃) E s:=by
 refine aaq (iI fun h₁ QJ Fj M5=>?_);dsimp only at QJ Fj M5 ⊢;generalize Sd:s.heap.push { cls:=.type "list",dict:=none,data:=.seq ([]:List Value).toArray }=HH at QJ Fj M5 ⊢;generalize WA:HH.objs.size=C at Fj M5 ⊢;generalize M6:s.heap.objs.size=D;have hC:C=D+1:=by rw[<-WA,<-Sd,Z0,M6]
 have Se:D≠C:=by rw[hC];exact Q_ (abw _)
 have below:∀ b,b<s.heap.objs.size->b≠C/\b≠D:=fun b hb=>by rw[M6] at hb;exact⟨by rw[hC];exact Q_ (adG hb),Q_ hb⟩
 have old:∀ b o,s.heap.get? b=some o->h₁.get? b=some o:=fun b o e=>QJ b o (Sd▸k_ _ e)
 have Sf:h₁.get? D=some { cls:=.type "list",data:=.seq ([]:List Value).toArray 0 }:=QJ _ _ (by rw[<-Sd,<-M6];exact w_ _ rfl);have JL:s.heap.objs.size<=C:=by rw[M6,hC];exact acZ _
 have M7:s.heap.objs.size<=D:=afp M6
 have U6:D∉fp:=fun hm=>by
  obtain⟨o,e,_⟩:=T.obj _ _ st D hm;exact (below D (E_ e)).2 rfl
 have WB:H D=none:=I.aW.fresh M7;obtain⟨gG,gI,gE⟩:=hb C s H fp (X.pn++pins);have I0:∀ tk,Inv '5' [] (qQ σ own ix) H { s with heap:=h₁,toks:=tk }:=fun tk=>I.comp S hf (fun b hb=>(T.obj _ _ st b hb).imp fun o e=>e.1) JL old Fj M5
 have U7:∀ x c,'5'.env.cells.lookup x=some c->X.env.cells.lookup x=some c∨C<c:=fun x c e=>(S.cv I.ok M5 e).symm.imp (·.1) (·.2.1)
 have Cs:∀ x c,X.env.cells.lookup x=some c->c<s.heap.objs.size:=fun x c e=>by obtain⟨v,q⟩:=I.cell x c e;exact q.lt
 have M8:∀ b∈u7 X.stack,b<s.heap.objs.size:=fun b hb=>by
  rcases C_.mp (I.oH b hb) with z | z
  ·rw[z];exact I.lt
  ·obtain⟨_,o,ho,_⟩:=I.jI.mem z;exact E_ ho
 have Sg:∀ (H':Hp) (ps:List (Addr×Obj)),(∀ p∈ps,p.1=D)->(∀ b∈fp,H' b=none)->∀ b∈fp,nD '5' ps H' b:=fun H' ps WC hn b hb=>by
  obtain⟨o,e,_⟩:=T.obj _ _ st b hb;obtain⟨f0,f1,f2,f3,f4,f5⟩:=hf b hb;refine⟨hn b hb,(below b (E_ e)).1,fun z=>?_,.inl hb,fun x c q=>(U7 x c q).elim (f4 x c) fun z=>ab3 (I_ (E_ e) (R_ JL (Z8 z))),fun p hp=>?_⟩
  ·rcases C_.mp (I.oH b z) with y | y
   ·exact f1 y
   ·exact f2 y
  ·rcases U_.mp hp with z | z
   ·exact f5 p z
   ·intro y;exact U6 (by rw[<-WC p z,y];exact hb)
 have Sh:∀ {H':Hp}{σ':St}{s':j_}{o:Obj},Inv '5' [] σ' H' s'->s'.heap.get? D=some o->(∀ v,o.data≠.cell v)->H' D=none->Inv '5' [(D,o)] σ' H' s':=fun {H' σ' s' o} I' e hd hn =>
  I'.jA fun p hp=>by
   have e1:p=(D,o):=by simpa using hp
   subst e1;exact⟨e,hn,Se,fun z=>ZK _ (I_ (M8 D z) M7),hd⟩
 have loop:∀ s₃:j_,s₃={ s with heap:=h₁ } ->
   ab5 '0' X.A (.compLoop '8' 0 (.ref it) (.ref D) (aeG scope (ZZ (C+1) scope.names (iL X.env scope.names [])) C X.env)) (RR (.ref D) C) s₃:=by
  rintro s₃ rfl;obtain⟨m0,w0⟩:=h0
  refine vw (fun n s'=>∃ i ys σ' H',Inv '5' [] σ' H' s'/\tn i s'.heap/\(∀ b∈fp,H' b=none)/\H' D=none /\
   (∃ (ai:List Value) (k:Nat),Vals ys ai/\s'.heap.get? D=some { cls:=.type "list",data:=.seq ai.toArray k })/\ys.length<=sizeLine/\W i n ys σ' H') ?_ m0
   ⟨0,[],_,H,I0 s.toks,T.keep _ _ _ st fun b _ o e=>old b o e,fun b hb=>(hf b hb).1,WB,⟨[],0,.nil,Sf⟩,aal _,w0⟩
  rintro n s' ⟨i,ys,σ',H',I',nE,U8,LP,⟨ai,k,hv,WD⟩,U9,w'⟩;have ID:=Sh I' WD (fun v q=>nomatch q) LP;rcases turn i n ys σ' H' w' with ⟨stop,hz,q⟩ | ⟨go,step⟩
  ·refine aX (T.done '5' rfl rfl rfl hc i [(D,_)] s' σ' H' _ ID (Sg H' _ (fun p hp=>by rw[D_.mp hp]) U8) nE stop) fun r Ce ⟨hr,I2⟩=>?_
   subst hr;show RR (.ref D) C (.ok .next) Ce;have Si:Ce.heap.get? D=some { cls:=.type "list",data:=.seq ai.toArray k }:=(I2.pin (D,_) (T_ _ (D_.mpr rfl))).1;obtain⟨m2,Jp,_⟩:=I2.loc;obtain⟨oC,es,ep,LQ,_⟩:=id Jp;have Sj:jz X.prog X.w (upd H' D (.lst ys)) Ce.heap:=I2.aW.MX LP ⟨U9,ai,k,hv,Si⟩
   have un:Un (u7 X.stack) fp H (upd H' D (.lst ys)) s.heap Ce.heap:=by
    have u0:Un (u7 X.stack) fp H H' s.heap Ce.heap:=I2.base;refine⟨u0.keep,u0.slot,fun b o e hn hx=>?_,u0.there,fun b xs e=>?_,fun b o u e=>?_,fun b ps e=>?_⟩
    ·rw[av (below b (E_ e)).2];exact u0.free b o e hn hx
    ·rw[av (aB (u0.qJ b xs e) LP)];exact u0.qJ b xs e
    ·rw[av (aB (u0.oG b o u e) LP)];exact u0.oG b o u e
    ·obtain⟨more,e'⟩:=u0.tI b ps e;exact⟨more,by rw[av (aB e' LP)];exact e'⟩
   have IX:Inv X pins σ (upd H' D (.lst ys)) Ce:=I.Mg (ch:=fp) I2.os un Sj I2.bare fun b hb=>⟨(hf b hb).2.2.2.1,(hf b hb).2.1,(hf b hb).2.2.2.2.1,(hf b hb).2.2.2.2.2⟩
   refine Wz D C oC m2 _ Ce LQ Jp ?_ ?_ (fun x c e z=>?_) (fun p hp z=>?_) (fun z=>?_) ?_ IX (q D LP)
   ·exact fun z=>ZK _ (I_ I.lt (by rw[<-z];exact JL))
   ·exact R_ I.sz JL
   ·exact ZK _ (I_ (Cs x c e) (by rw[z];exact JL))
   ·exact ZK _ (I_ (E_ (I.pin p hp).1) (by rw[z];exact JL))
   ·obtain⟨_,o,ho,_⟩:=I.jI.mem z;exact ZK _ (I_ (E_ ho) JL)
   ·rw[av Se.symm];exact I2.free
  ·refine aX (T.item '5' rfl rfl rfl hc i [(D,_)] s' σ' H' _ ID (Sg H' _ (fun p hp=>by rw[D_.mp hp]) U8) nE go) fun r s4 ⟨u,hr,h4⟩=>?_
   subst hr;refine aX h4 fun _ s5 ⟨x,H5,I5,r5,y5,Jb,RJ⟩=>?_
   have WE:=I5.pin (D,_) (T_ _ (D_.mpr rfl));have RK:=I5.pinned (Sg H5 _ (fun p hp=>by rw[D_.mp hp]) RJ) (T.obj _ _ Jb);refine aX (gG _ s5 σ' H5 x u _ RK r5 (step x H5 y5)) fun _ s6 ⟨σ6,H6,I6,q6⟩=>?_
   refine aX (gI _ s6 σ6 H6 _ I6 q6) fun ok s7 ⟨H7,I7,q7⟩=>?_
   have Va:∀ {σ8:St}{H8:Hp}{s8:j_},Inv '5' ([(D,({ cls:=.type "list",data:=.seq ai.toArray k }:Obj))]++l8 fp s5.heap) σ8 H8 s8->tn (i+1) s8.heap/\(∀ b∈fp,H8 b=none):=fun {σ8 H8 s8} I8=>by
    refine⟨T.keep _ _ _ Jb fun b hb o e=>(I8.pin (b,o) (T_ _ (T_ _ (gj hb e)))).1,fun b hb=>?_⟩;obtain⟨o,e,d⟩:=T.obj _ _ Jb b hb;exact (I8.pin (b,o) (T_ _ (T_ _ (gj hb e)))).2.1
   have dK:∀ {σ8:St}{H8:Hp}{s8:j_},Inv '5' ([(D,({ cls:=.type "list",data:=.seq ai.toArray k }:Obj))]++l8 fp s5.heap) σ8 H8 s8->s8.heap.get? D=some { cls:=.type "list",data:=.seq ai.toArray k }/\H8 D=none:=fun {σ8 H8 s8} I8=>by
    have z:=I8.pin (D,_) (T_ _ (abY _ (D_.mpr rfl)));exact⟨z.1,z.2.1⟩
   cases ok with
   | false =>
    obtain⟨m',hm,w7⟩:=q7;obtain⟨WG,WH⟩:=Va I7;obtain⟨WI,WJ⟩:=dK I7;exact⟨m',hm,i+1,ys,σ6,H7,I7.jA (fun p hp=>nomatch hp),WG,WH,WJ,⟨ai,k,hv,WI⟩,U9,w7⟩
   | true =>
    refine aX (gE _ s7 σ6 H7 _ I7 q7) fun xv s8 ⟨y,H8,I8,r8,Vb,m',hm,w8⟩=>?_
    obtain⟨WK,WL⟩:=Va I8;obtain⟨WM,Vc⟩:=dK I8;refine append_at (hsz:=by rw[H_,<-hv.length];exact Z8 Vb) WM fun h9 Vd WN=>?_
    have I9:Inv '5' [] σ6 H8 { s8 with heap:=h9 }:=by
     refine (I8.jA (pins':=[]) fun p hp=>nomatch hp).turned (t':=s8.toks) (it:=D) (fun b o hb e=>Vd.extBut b o hb e) Vc Se (.inr M7) (fun x c e z=>?_) (fun p hp z=>?_)
     ·rcases U7 x c e with q | q
      ·exact ZK _ (I_ (Cs x c q) (by rw[z];exact M7))
      ·rw[z,hC] at q;exact ZK _ (afy q (abw _))
     ·have iM:p∈X.pn++pins:=by simpa [Cx.comp] using hp
      exact ZK _ (I_ (E_ (I.pin p iM).1) (by rw[z];exact M7))
    refine⟨m',hm,i+1,ys++[y],σ6,H8,I9,T.keep _ _ _ WK fun b hb o e=>Vd.extBut b o (fun z=>U6 (by rw[<-z];exact hb)) e,WL,Vc,⟨ai++[xv],k+1,hv.append (.cons r8 .nil),?_⟩,by rw[A_,X_];exact Vb,w8⟩;rw[WN,List.push_toArray]
 exact codeAny_compStart_list (loop _ rfl) (T.self _ 0 _ _ _ (T.keep _ _ _ st fun b _ o e=>old b o e) (loop _ rfl))
def zw {wi:TI}{g:TG}{ti:TT}{te:TE} (hc:X.calm=true) (S:bx X.N X.env.scope scope own b0 ix) (hi:PI X tg iter wi)
  (hb:∀ (C:Addr) (s₀:j_) (H₀:Hp) (ex:List Addr) (pn:List (Addr×Obj)),PG '6' tg g/\x9 '6' ifs ti/\PE '6' elt te)
  (hs:∀ x,aaJ iter X.env x=pure x:=by intro _;rfl):PE X '8' (zu own ix wi g ti te):=by
 ext d;rw[eval_ListComp];refine adN (use:=none) rfl hs (iy (S.has I.ok)) S.kind S.names (aX (hi pins s σ H _ I h) fun xv s₁ h₁=>aX h₁ fun QB s₂ h₂=>?_);obtain⟨it,fp,tn,J,H2,e,I2,T,xI,f2,W,h0,turn⟩:=h₂;subst e;refine oQ (Q:=Q) (RR:=fun acc C=>compPost '0' X.A X.xe none (EP X pins σ Q) acc C) hc I2 S T xI f2 hb h0 turn ?_;intro D C oC m H' s' LQ hn h1 h2 h3 h4 h5 h6 I' q;refine⟨m,hn,fun h' AR=>⟨.ref D,H',I'.turned (t':=s'.toks) (it:=C) (fun b o hb e=>AR.extBut b o hb e) h6 (ZM h1.symm) (.inr h2) h3 h4,rfl,q⟩⟩
def Fl {wi:TI}{g:TG}{ti:TT}{te:TE}{i:Nat}{y:Str}{py AS:Pos} (hc:X.calm=true) (hN:X.N.Nodup) (hy:X.N[i]? = some y) (hx:Loc X.env.scope y) (S:bx X.N X.env.scope scope own b0 ix) (hi:PI X tg iter wi)
  (hb:∀ (C:Addr) (s₀:j_) (H₀:Hp) (ex:List Addr) (pn:List (Addr×Obj)),PG '6' tg g/\x9 '6' ifs ti/\PE '6' elt te)
  (Sk:aaI '8' (some (.Name y py)) AS.line X.env=pure true:=by rfl)
  (hs : ∀ x, aaJ iter X.env x = pure x := by intro _; rfl) (hf : X.fn y = true ∨ X.env.scope.names.lookup y = some .local := by first | exact .inl rfl | exact .inr rfl | assumption) :
  PS X (.Assign [.Name y py] '8' AS) (Ms (zu own ix wi g ti te) (er i)):=by
 intro pins s σ H D I h;rw[exec_Assign_Name_used _ _ _ _ Sk];refine c_ (wpAny_standAt (c_ ?_));show wpAny _ X.A (do let _ <-comprehension '8' scope X.env _ (newList []) false (eval iter X.env) (some (afO (.Name y py) X.env))) _ _ s
 refine c_ (aaj (adN (use:=some (afO (.Name y py) X.env)) (Q:=fun _ s'=>SP X pins D .next s') rfl hs (iy (S.has I.ok)) S.kind S.names
  (aX (hi pins s σ H _ I h) fun xv s₁ h₁=>aX h₁ fun QB s₂ h₂=>?_)) (fun _ s' hq=>q_ (q_ hq)) fun _ _ e=>e)
 obtain⟨it,fp,tn,J,H2,e,I2,T,xI,f2,W,h0,turn⟩:=h₂;subst e;refine oQ (Q:=fun x H1=>er i x σ H1 D.nx) (RR:=fun acc C=>compPost '0' X.A X.xe (some (afO (.Name y py) X.env)) (fun _ s'=>SP X pins D .next s') acc C) hc I2 S T xI f2 hb h0 turn ?_;intro Da C oC m H' s' LQ hn h1 h2 h3 h4 h5 h6 I' q
 have MY:∀ v,oC.data≠.cell v:=fun v z=>by
  obtain⟨o',es,ep,l5,qK,_⟩:=hn;rw[LQ] at l5;cases l5;rw[qK] at z;cases z
 have Ip:Inv X (pins++[(C,oC)]) σ H' s':=I'.jA fun p hp=>by
  rcases U_.mp hp with z | z
  ·exact I'.pin p (T_ _ z)
  ·have e1:p=(C,oC):=by simpa using z
   subst e1;exact⟨LQ,h6,h1,h5,MY⟩
 show wpAny _ X.A (afO (.Name y py) X.env (.ref Da)) _ _ _;refine wpAny_assign_Name (kN (v:=.ref Da) Ip hN hy hx rfl (fun s2 I3=>?_) hf);have pc:=I3.pin (C,oC) (T_ _ (T_ _ (3)));obtain⟨o',es,ep,l5,r'⟩:=hn;rw[LQ] at l5;cases l5;refine⟨m,⟨oC,es,ep,pc.1,r'⟩,fun h' AR=>⟨_,H',(Inv.kS I3).turned (t':=s2.toks) (it:=C) (fun b o hb e=>AR.extBut b o hb e) h6 h1 (.inr h2) h3 h4,q⟩⟩
end
section
variable {X:Cx}
def AU:bj X (.builtin "isinstance") (fun xs H Q=>∃ x n t b,xs=[x,.ty n]/\jY X.K H x t/\acG X.K t (.type n)=some b/\Q (.bl b) H):=by
 ext j;obtain⟨x,n,t,b,rfl,ty,e,q⟩:=h;obtain⟨u,w',rfl,rx,rc⟩:=vals2 r
 cases (show w'=aa2 n from rc)
 exact AF I rx ty e fun tk=>⟨.bl b,H,I.tok tk,rfl,q⟩
def M9 {x:Str}{n:acq}{pos:Pos} (hg:Gl X x) (hm:X.mg x=none) (hv:aag x=some (.type n)) (hn:x ≠ "__name__" := by decide) (hd:'2'=false:=by decide):PE X (.Name x pos) (tC (.ty n)) :=
 ER (v:=.ty n) hg hm hv rfl hn hd
def m6 {prog:N_}{w:World}{A:ZN}{bs:List Bool}{ai:List Value} (r:Vals (bs.map V.bl) ai):TruthOf prog w A (fun i v=>ai.toArray[i]? = some v) (fun i=>bs.getD i false):=by
 intro i v s Q E hv q;have B9:ai[i]? = some v:=by simpa using hv
 have hl:=r.length;rw[a_] at hl;have hi:i<ai.length:=(i_.mp B9).1
 have hb:(bs.map V.bl)[i]? = some (.bl (bs.getD i false)):=by
  rw[g_,B_,b_ (show i<bs.length by lia)];rfl
 obtain⟨u,hu,ru⟩:=Vals.get r hb;rw[B9] at hu
 cases hu
 cases (show v=adg _ from ru)
 exact ZQ q
def range_all (bs:List Bool):(Zo bs.length).all (fun i=>bs.getD i false)=bs.all id:=by
 rw[Z6,Zn,Zn];constructor
 ·intro h b hb;obtain⟨i,hi,e⟩:=aaF.mp hb;have:=h i (Zv.mpr hi);rw[B_,b_ hi,e] at this;exact this
 ·intro h i hi;have AV:=Zv.mp hi;rw[B_,b_ AV];exact h _ (aaC AV)
def range_any (bs:List Bool):(Zo bs.length).any (fun i=>bs.getD i false)=bs.any id:=by
 rw[Z6,aan,aan];constructor
 ·rintro⟨i,hi,e⟩;have AV:=Zv.mp hi;rw[B_,b_ AV] at e;exact⟨_,aaC AV,e⟩
 ·rintro⟨b,hb,e⟩;obtain⟨i,hi,e'⟩:=aaF.mp hb;refine⟨i,Zv.mpr hi,?_⟩;rw[B_,b_ hi,e'];exact e
def Ct (hc:X.calm=true):bj X (.builtin "all") (fun xs H Q=>∃ (p:Addr) (bs:List Bool),xs=[.ref p]/\cE X.K H p (bs.map V.bl)/\Q (.bl (bs.all id)) H):=by
 ext j;obtain⟨p,bs,rfl,hq,q⟩:=h;obtain⟨u,rfl,rx⟩:=vals1 r
 cases (show u=Zq p from rx)
 obtain⟨ai,rv,pl,hz⟩:=I.list hq;have jN:p<s.heap.objs.size:=by obtain⟨_,e,_⟩:=pl.isList;exact E_ e
 have hl:=rv.length;rw[a_] at hl;refine call_all_walk (abi pl.isList ⟨s.heap.objs.size,_,_,_,_,_,_,rfl,ags (A:=X.A.in1) (show X.A.in1.handled=none from I.ok.hd hc) s.heap.objs.size p (Q_ jN) ai.toArray,⟨⟨_,w_ _ rfl,rfl,rfl⟩,pl.isList.push _⟩,m6 rv,fun h' tk hk=>?_⟩);rw[H_,<-hl,range_all];exact⟨.bl _,H,I.kept fun b o e=>hk b o (by simpa using Q_ (E_ e)) (k_ _ e),rfl,q⟩
def Cu (hc:X.calm=true):bj X (.builtin "any") (fun xs H Q=>∃ (p:Addr) (bs:List Bool),xs=[.ref p]/\cE X.K H p (bs.map V.bl)/\Q (.bl (bs.any id)) H):=by
 ext j;obtain⟨p,bs,rfl,hq,q⟩:=h;obtain⟨u,rfl,rx⟩:=vals1 r
 cases (show u=Zq p from rx)
 obtain⟨ai,rv,pl,hz⟩:=I.list hq;have jN:p<s.heap.objs.size:=by obtain⟨_,e,_⟩:=pl.isList;exact E_ e
 have hl:=rv.length;rw[a_] at hl;refine call_any_walk (abi pl.isList ⟨s.heap.objs.size,_,_,_,_,_,_,rfl,ags (A:=X.A.in1) (show X.A.in1.handled=none from I.ok.hd hc) s.heap.objs.size p (Q_ jN) ai.toArray,⟨⟨_,w_ _ rfl,rfl,rfl⟩,pl.isList.push _⟩,m6 rv,fun h' tk hk=>?_⟩);rw[H_,<-hl,range_any];exact⟨.bl _,H,I.kept fun b o e=>hk b o (by simpa using Q_ (E_ e)) (k_ _ e),rfl,q⟩
def Sm:V->m_ Int->m_ Int->Hp->VK->Prop:=fun x lo hi H Q=>∃ z,x=.str z/\z.length<=sizeLine/\Q (.str (abe z lo hi)) H
def JM:MN X Sm:=by
 intro pins s σ H x v vl vu lo hi sl Q I rx hs pl pu h;obtain⟨z,rfl,hz,q⟩:=h;ext i;refine⟨"str",_,F.slot_str_getitem.lookup,typeIs_str _ _ _,?_⟩;have fin:(abe z lo hi).length<=sizeLine/\∀ t' k,EP X pins σ Q (.str (abe z lo hi) t') { s with toks:=k }:=⟨R_ (Txt.slice_le z _ _) hz,fun t' k=>⟨.str _,H,I.tok k,⟨t',rfl⟩,q⟩⟩;obtain⟨o,ho,hc,hd⟩:=hs
 cases pl with
 | none =>
  cases pu with
  | none=>exact aby (l:=none) (u:=none) (st:=none) ⟨o,ho,hc,hd⟩ rfl (ac3 fin)
  | int j uj=>exact aby (l:=none) (u:=some (j,uj)) (st:=none) ⟨o,ho,hc,hd⟩ rfl (ac3 fin)
 | int i ui =>
  cases pu with
  | none=>exact aby (l:=some (i,ui)) (u:=none) (st:=none) ⟨o,ho,hc,hd⟩ rfl (ac3 fin)
  | int j uj=>exact aby (l:=some (i,ui)) (u:=some (j,uj)) (st:=none) ⟨o,ho,hc,hd⟩ rfl (ac3 fin)
end
def Fm {α:Type}{xs:List α}{i:Int} (h0:0<=i) (h1:i<xs.length):∃ v,v∈xs/\xs[i.toNat]? = some v/\n6 xs i=some v:=by
 obtain⟨n,rfl⟩:=Zy h0;have hn:n<xs.length:=by lia
 exact⟨xs[n],aaC hn,by simp [hn],aI (b_ hn)⟩
def n9 {α:Type}{xs:List α}{i m:Int} (h0:0<m) (h1:m<=xs.length):∃ v,v∈xs/\xs[(i % m).toNat]? = some v/\n6 xs (i % m)=some v :=
 Fm (abf _ ∅) (by have:=abH i h0;lia)
mutual
inductive cF (K:e_) (H:Hp):V->P_->Prop
 | az:cF K H .az .none
 | bl (b:Bool):cF K H (.bl b) (.bool b)
 | int (i:Int):cF K H (.int i) (.int i)
 | str (x:Str):cF K H (.str x) (.str x)
 | lst {a:Addr}{xs:List V}{ds:List P_}:cE K H a xs->eB K H xs ds->cF K H (.ref a) (.list ds)
 | tup {a:Addr}{xs:List V}{ds:List P_}:eV K H a xs->eB K H xs ds->cF K H (.ref a) (.tuple ds)
inductive eB (K:e_) (H:Hp):List V->List P_->Prop
 | nil:eB K H [] []
 | cons {x:V}{d:P_}{xs:List V}{ds:List P_}:cF K H x d->eB K H xs ds->eB K H (x::xs) (d::ds)
end
def cF.reads {X:Cx}{pins:List (Addr×Obj)}{σ:St}{H:Hp}{s:j_} (I:Inv X pins σ H s) {v:V}{d:P_} (h:cF X.K H v d):∀ u,RelV v u->∃ as,Reads s.heap u d as :=
 cF.rec (motive_1:=fun v d _=>∀ u,RelV v u->∃ as,Reads s.heap u d as) (motive_2:=fun xs ds _=>∀ us,Vals xs us->∃ as,aci s.heap us ds as)
  (fun u r=>by cases (show u=abF from r);exact⟨_,.none⟩)
  (fun b u r=>by cases (show u=adg b from r);exact⟨_,.bool b⟩)
  (fun i u r=>by obtain⟨t,rfl⟩:=(show ∃ t,u=acQ i t from r);exact⟨_,.int i t⟩)
  (fun x u r=>by obtain⟨t,rfl⟩:=(show ∃ t,u=adf x t from r);exact⟨_,.str x t⟩)
  (fun {a xs ds} hq _ ih u r=>by
   cases (show u=Zq a from r)
   obtain⟨ai,rv,pl,_⟩:=I.list hq;obtain⟨o,ho,hc,n,hd⟩:=pl.isList;obtain⟨as,ra⟩:=ih ai rv;exact⟨_,.list ho hc hd (by simpa using ra)⟩)
  (fun {a xs ds} hq _ ih u r=>by
   cases (show u=Zq a from r)
   obtain⟨ai,rv,pl,_⟩:=I.tuple hq;obtain⟨o,ho,hc,n,hd⟩:=pl;obtain⟨as,ra⟩:=ih ai rv;exact⟨_,.tuple ho hc hd (by simpa using ra)⟩)
  (fun us r=>by cases r;exact⟨_,.nil⟩)
  (fun {x d xs ds} _ _ Na QK us r=>by
   cases r with
   | cons r1 r2 =>
    obtain⟨as,ra⟩:=Na _ r1;obtain⟨bs,rb⟩:=QK _ r2;exact⟨_,.cons ra rb⟩) h
def cE.same {K:e_}{H H':Hp}{a:Addr}{xs:List V} (e:ag H H') (h:cE K H a xs):cE K H' a xs:=e.seq h
def eV.same {K:e_}{H H':Hp}{a:Addr}{xs:List V} (e:ag H H') (h:eV K H a xs):eV K H' a xs:=by
 rcases h with (h | ⟨o,h⟩) | h
 ·exact .inl (.inl (e _ _ h))
 ·exact .inl (.inr ⟨o,e _ _ h⟩)
 ·exact .inr h
theorem cF.same {K:e_}{H H':Hp} (e:ag H H') {v:V}{d:P_} (h:cF K H v d):cF K H' v d :=
 cF.rec (motive_1:=fun v d _=>cF K H' v d) (motive_2:=fun xs ds _=>eB K H' xs ds) .az .bl .int .str (fun q _ ih=>.lst (q.same e) ih) (fun q _ ih=>.tup (q.same e) ih) .nil (fun _ _ a b=>.cons a b) h
section
variable {X:Cx}
def Fo (K:e_) (neg:Bool):R2:=fun x y H Q=>∃ d e,cF K H x d/\cF K H y e/\L_ d=true/\L_ e=true/\Q (.bl (if neg then !PyData.eqv d e else V_ d e)) H
def JN (hu:X.A.units+64<cLine):fk X (ZF .Eq) (Fo X.K false):=by
 ext f;obtain⟨d,e,hd,he,s1,s2,q⟩:=h;obtain⟨as,ra⟩:=hd.reads I v rx;obtain⟨bs,rb⟩:=he.reads I u ry;exact eq_dataH ra rb s1 s2 hu ⟨.bl _,H,I,rfl,q⟩
def JO (hu:X.A.units+64<cLine):fk X (ZF .NotEq) (Fo X.K true):=by
 ext f;obtain⟨d,e,hd,he,s1,s2,q⟩:=h;obtain⟨as,ra⟩:=hd.reads I v rx;obtain⟨bs,rb⟩:=he.reads I u ry;exact ne_dataH ra rb s1 s2 hu ⟨.bl _,H,I,rfl,q⟩
end
def Sn (φ:m_ Value->Prop) (e:Addr) (h:Heap):Prop:=∃ o fs,h.get? e=some o/\o.data=.fields fs/\φ fs[2]?
noncomputable abbrev JP:=Hp->m_ Value->Prop
structure WO (φ:JP) (P:N_) (w:World) (outer:List Env) (H H':Hp) (s:j_) (ea:Addr) (cls:Value) (s':j_):Prop where
 os:s'.os=s.os
 bare:ada s'.gens
 cx:Sn (φ H') ea s'.heap
 un:Un (u7 outer) [] H H' s.heap s'.heap
 Y0:∃ B a0,Heap.FlyingW B outer ea cls a0 s'.heap/\jz P w H' B/\(∀ b o,s.heap.get? b=some o->H b=none->b∉u7 outer->B.get? b=some o)/\(∀ b o,s.heap.get? b=some o->b∉u7 outer->∃ o',B.get? b=some o')
def WQ (φ:JP) (P:N_) (w:World):xY:=fun outer H s E e s'=>∃ ea cls H',e=.ref ea/\WO φ P w outer H H' s ea cls s'/\E cls none H'
def XP (φ:JP) (X:Cx) (pins:List (Addr×Obj)) (σ:St) (E:XK) (ev:Value) (s':j_):Prop:=∃ H s0,Inv X pins σ H s0/\WQ φ X.prog X.w X.stack H s0 E ev s'
noncomputable abbrev TX:=St->Hp->VK->XK->Prop
structure G7 (k:Nat) (A:ZN):Prop where
 dp:A.depth+3*k+5<aeB
 un:A.units+16*k+200<cLine
structure Nb (P:N_) (w:World) (K:e_) (mg:Str->m_ Value) (base:Heap) (k:Nat) (f:Addr) (fd:Z4) (ps:List Str) (sp:Sp):Prop where
 len:∀ vs H Q E,sp vs H Q E->vs.length=ps.length
 run:∀ (A:ZN) (outer:List Env) (s:j_) (H:Hp) (args:Args) (us:List Value) (vs:List V) (Q:VK) (E:XK),G7 k A->vn P w K mg base A outer s H->afu s fd args (ps.zip us)->Vals vs us->sp vs H Q E ->
  ab5 (model P w) A (.call (.ref f) args) (CR mj outer P w H s Q E) s
section
variable {X:Cx}{k:Nat}{f:Addr}{fd:Z4}{ps:List Str}{sp:Sp}{dvs:List V}{ds:List Value}{x:Str}{p pos:Pos}{e:Expr}{es:List Expr}{t:TA}{E:XK}
theorem Nc (F:Nb X.prog X.w X.K X.mg X.base k f fd ps sp) (hr:G7 k X.A) (hg:Gl X x) (hm:X.mg x=some (.ref f)) (hk:ZH X.K (.ref f)=true) (hb:Binds X.K fd ps ds) (hd:Vals dvs ds)
  (ha:PA X (e::es) t) (m4:'2'=false:=by decide) (he:S_ (e::es) X.env=(false,eval e X.env)::S_ es X.env:=by rfl) (EA:(aaV pos (S_ es X.env)).any (·.1)=false:=by rfl) :
  PE X (.Call (.Name x p) (e::es) [] pos) (Cc sp dvs E t):=by
 ext d;refine aaA (kP I hg hm ?_ m4);refine abG (h₀:=X.base) I.ok.mod.Iy hk (aX (ha pos pins s σ H _ I h) fun us s1 ⟨vs,H1,I1,r,q⟩=>⟨I1.kK,?_⟩) he EA;have r2:Vals (vs++dvs) (us++ds):=r.append hd;have hl:(us++ds).length=ps.length:=by rw[<-r2.length];exact F.len _ _ _ _ q
 refine afa (ab6 (F.run X.A X.stack s1 H1 ⟨us,[]⟩ (us++ds) (vs++dvs) Q E hr I1.Ju (hb s1 us I1.kK hl) r2 q) fun r s' hq=>?_)
 cases r with
 | error e=>exact ZG hq
 | ok fl =>
  cases fl with
  | ret u=>exact I1.after hq
  | next=>exact ZG hq
  | brk=>exact ZG hq
  | cont=>exact ZG hq
end
structure JQ (K:e_) (B:Addr) (m:Str) (f:Addr):Prop where
 sp:adB K (.ref B) "__getattribute__" = some (some (.builtin "type.__getattribute__"))
 rd:af7 K B (.type "type")=true
 fd:ael K (.ref B) (.type "type") m=some (.val (.ref f))
 kp:ZH K (.ref f)=true
section
variable {X:Cx}{CX:xY}{k:Nat}{f B:Addr}{fd:Z4}{ps:List Str}{sp:Sp}{dvs:List V}{ds:List Value}{E:XK}{x m:Str}{p pos apos:Pos}{e:Expr}{es:List Expr}{t:TA}
def Fp {pl:Sem Bool} (hg:Gl X x) (JF:X.mg x=some (.ref B)) (c:JQ X.K B m f) (F:bN X.prog X.w X.K X.mg X.base CX k f fd ps sp) (hr:cg k X.A) (hb:Binds X.K fd ps ds) (hd:Vals dvs ds) (hx:Passes CX X E) (ha:PA X (e::es) t)
  (m4:'2'=false:=by decide) (RF:S_ (e::es) X.env=(false,eval e X.env)::S_ es X.env:=by rfl) (EA:(aaV pos (S_ es X.env)).any (·.1)=false:=by rfl)
  (ht:eval (.Call (.Attribute (.Name x p) m apos) (e::es) [] pos) X.env=(do
   let ov <-eval (.Name x p) X.env
   aeQ apos.atName
   let (f,first) <-adx [ov] (afQ ov m pl)
   callWith pos f first (aaV pos (S_ (e::es) X.env)) (adp pos (ab1 [] X.env))):=by rfl) :
  PE X (.Call (.Attribute (.Name x p) m apos) (e::es) [] pos) (Cc sp dvs E t):=by
 ext d;refine acO (pl:=pl) (kP I hg JF ?_ m4) ht;refine PySem.W.method_cls I.kK c.sp (PySem.W.cls_value I.kK c.rd c.fd rfl ?_);have I':=I.tok (s.toks+1);refine abG (first:=[]) (h₀:=X.base) I.ok.mod.Iy c.kp (aX (ha pos pins { s with toks:=s.toks+1 } σ H _ I' h) fun us s2 ⟨vs,H2,I2,r,q2⟩=>⟨I2.kK,?_⟩) RF EA;exact tL F hr hb hd hx I2 r q2
end
section
variable {X:Cx}
def bj.imp {f:Value}{r r':List V->Hp->VK->Prop} (h:bj X f r) (hi:∀ xs H Q,r' xs H Q->r xs H Q):bj X f r':=fun pins s σ H xs us Q I rs q=>h pins s σ H xs us Q I rs (hi _ _ _ q)
def Nf (K:e_):List V->Hp->VK->Prop:=fun xs H Q=>∃ p ys,xs=[.ref p]/\cE K H p ys/\∀ l,H l=none->Q (.ref l) (upd H l (.tup ys))
def AW:bj X (.type "tuple") (Nf X.K):=qO.imp fun _ _ _ ⟨p,ys,e,h,q⟩=>⟨p,ys,e,.inl ⟨h,q⟩⟩
end
theorem ag.upd {H H':Hp}{l:Addr}{o:HO} (s:ag H H') (h:H' l=none):ag H (upd H' l o):=fun b u e=>by
 have e':=s b u e;rw[av (aB e' h)];exact e'
def ag.put {H:Hp}{l:Addr}{o:HO} (h:H l=none):ag H (L2.upd H l o):=(ag.refl H).upd h
end L2
namespace SH
open PySem L2
noncomputable abbrev Cv:Str := "abcdefghijklmnopqrstuvwxyz"
noncomputable def ya (c:Nat):Bool := !(aaK Cv ⟨#[c]⟩ 0 Cv.length 1).isEmpty
noncomputable def ax (x:Str):Bool:=decide (1<=x.length)&&decide (x.length<=8)&&x.cps.toList.all ya
def dC {z:Str}{i m:Int} (h0:0<m) (h1:m<=z.length):∃ c,c∈z.cps.toList/\n6 z.cps.toList (i % m)=some c:=by
 obtain⟨v,hm,_,e⟩:=n9 (xs:=z.cps.toList) (i:=i) h0 (by simpa [afc] using h1);exact⟨v,hm,e⟩
def jD (c:Nat):(⟨#[c]⟩:Str).length=1:=rfl
def app_list (a y:Str):(a++y).cps.toList=a.cps.toList++y.cps.toList:=by
 rw[PySem.Str.cps_append,Array.toList_append]
def vG {c:Nat}:ya c=true↔c∈Cv.cps.toList:=by
 unfold ya;rw[PySem.StrLaws.found_one,abl]
def Fq {c:Nat} (h:ya c=true):c<0x110000:=by
 have h1:∀ d∈Cv.cps.toList,d<0x110000:=by decide +kernel
 exact h1 c (vG.mp h)
def vH {z:Str} (h:ax z=true):1<=z.length/\z.length<=8/\∀ c∈z.cps.toList,ya c=true:=by
 unfold ax at h;simp only[v_,abl,Zn] at h;exact⟨h.1.1,h.1.2,h.2⟩
def gA {z:Str} (h:ax z=true):afz z=true:=by
 unfold afz;rw[<-Array.all_toList,Zn];intro c hc;exact d_ (Fq ((vH h).2.2 c hc))
def Fs {z:Str} (h1:1<=z.length) (h2:z.length<=8) (h3:∀ c∈z.cps.toList,ya c=true):ax z=true:=by
 unfold ax;simp only[v_,abl,Zn];exact⟨⟨h1,h2⟩,h3⟩
noncomputable abbrev Nd:=Str×Int
noncomputable def zx (n:Nd):Int:=min (n.2+1) 12
def aN:Int->List Nd->Prop
 | _,[]=>True
 | d,n::r=>ax n.1=true/\0<=n.2/\n.2<=d/\aN (zx n) r
noncomputable def aK:Int->List Nd->Int
 | d,[]=>d
 | _,n::r=>aK (zx n) r
theorem aS:∀ {d:Int}{a b:List Nd},aN d (a++b)↔aN d a/\aN (aK d a) b
 | d,[],b=>by simp [aN,aK]
 | d,n::r,b=>by
  have ih:=aS (d:=zx n) (a:=r) (b:=b);simp only[aa0,aN,aK,ih];constructor
  ·rintro⟨h1,h2,h3,h4,h5⟩;exact⟨⟨h1,h2,h3,h4⟩,h5⟩
  ·rintro⟨⟨h1,h2,h3,h4⟩,h5⟩;exact⟨h1,h2,h3,h4,h5⟩
theorem a9:∀ {d:Int}{a b:List Nd},aK d (a++b)=aK (aK d a) b
 | _,[],_=>rfl
 | _,n::r,b=>a9 (d:=zx n) (a:=r) (b:=b)
def iN {d:Int}{ns:List Nd}:aN d ns->∀ n∈ns,ax n.1=true/\0<=n.2:=by
 induction ns generalizing d with
 | nil=>intro _ n h;exact nomatch h
 | cons m r ih =>
  rintro⟨h1,h2,_,h4⟩ n hn;rcases C_.mp hn with e | e
  ·rw[e];exact⟨h1,h2⟩
  ·exact ih h4 n e
noncomputable def jJ (ns:List Nd):List P_:=ns.map fun n=>.tuple [.str n.1,.int n.2]
theorem dZ:∀ {ns:List Nd},(∀ n∈ns,afz n.1=true)->Zl (jJ ns)=true
 | [],_=>rfl
 | n::r,h=>by
  have h1:=h n W_;have h2:=dZ (ns:=r) fun y hy=>h y (J_ _ hy)
  unfold jJ at h2 ⊢;simp only[r_,Zl,Z1,h1,h2,Bool.and_self]
theorem eX:∀ ns:List Nd,Zr (jJ ns)<=1
 | []=>aal _
 | n::r=>by
  have h2:=eX r;unfold jJ at h2 ⊢;simp only[r_,Zr,aar]
  lia
end SH
namespace L2
open PySem PySem.Spec PyProof.Rows
noncomputable def Cw (lo st:Int) (n:Nat):It:=⟨fun i _=>i<n,fun i H x H'=>H'=H/\x=.int (lo+i*st),fun i _=>n<=i⟩
def m7 {P:N_}{w:World}{K:e_}{tg:Expr} (it:Addr) (lo c:Int) (n:Nat):Turn P w K tg (Cw lo c n) [it] it (fun i h=>ady h it (lo+(i:Nat)*c) ((n:Int)-(i:Nat)) c) where
 mem:=by simp
 obj:=fun i h st b hb=>by
  have e:b=it:=by simpa using hb
  subst e
  exact⟨_,st,fun v z=>by
   have z':aeA _=adS v:=z
   cases z'⟩
 keep:=fun i h h' st k=>k it (3) _ st
 item:=by
  ext e;subst hP hw hK;obtain⟨f0,f1,f2,f3,f4,f5⟩:=hf it (3);have W:=Walks.range (prog:=X.prog) (w:=X.w) (I.ok.hd hc) it lo c n;refine W.item i s _ _ hg st fun v h' tk hv nE kk=>?_
  obtain⟨t,rfl⟩:=hv;have I1:Inv X pins σ H { s with heap:=h',toks:=tk }:=I.turned (fun b o hb e=>kk b o (by simpa using hb) e) f0 f1 f3 f4 f5;exact⟨_,rfl,vj (s:={ s with heap:=h',toks:=tk }) (n := "range_iterator") nE rfl rfl (2) ⟨.int (lo+i*c),H,I1,⟨t,rfl⟩,⟨rfl,rfl⟩,nE,fun b hb=>(hf b hb).1⟩⟩
 done:=by
  ext e;subst hP hw hK;obtain⟨f0,f1,f2,f3,f4,f5⟩:=hf it (3);exact ad5 (I.ok.hd hc) st (by have:n<=i:=hg;lia) fun h' eb=>⟨rfl,I.turned (t':=s.toks) (fun b o hb e=>eb b o hb e) f0 f1 f3 f4 f5⟩
 self:=fun _ _ _ _ _ st h=>acD st h
def Cy {j c:Int} (hc:1<=c):0<=O_ 0 j c/\(O_ 0 j c<=j∨O_ 0 j c=0)/\∀ i:Nat,(i:Int)<O_ 0 j c->(i:Int)*c<j:=by
 by_cases hj:0<j
 ·refine⟨?_,.inl ?_,fun i hi=>(start_inside hc ∅ ∅ hi).2⟩
  ·rw[ae3 hc ∅];exact Int.ediv_nonneg ∅ ∅
  ·rw[ae3 hc ∅];refine Int.ediv_le_of_le_mul ∅ ?_;have h:0<=(j-1)*(c-1):=aeI ∅ ∅
   have e:(j-1)*(c-1)=j*c-j-c+1:=by
    rw[Int.sub_mul,Int.mul_sub,Int.mul_sub];lia
   lia
 ·have e:O_ 0 j c=0:=by
   unfold O_;rw[z_ ∅,s_ ∅]
  rw[e];exact⟨af1 _,.inr rfl,fun i hi=>absurd hi ∅⟩
def JR {j c:Int} (h1 : -1000<=j) (h2:j<=1000) (hc:1<=c) (WR:c<=1000):aeW 0 j c=true:=by
 obtain⟨h3,h4,_⟩:=Cy (j:=j) hc;have h5:O_ 0 j c<=1000:=by lia
 unfold aeW;generalize O_ 0 j c=n at h3 h5;have h6:n*c<=1000*1000:=Int.mul_le_mul h5 WR ∅ ∅;have h7:0<=n*c:=aeI h3 ∅;simp only[abW,v_,Bool.or_eq_true,abl,aap,show c>0 from by lia,ab7]
 lia
end L2
namespace SH
open PySem L2
noncomputable def gB:V->P_
 | .str z=>.str z
 | _=>.none
def fV {ls:List (List V)} (h:∀ l∈ls,l.length<=12):ls.flatten.length<=12*ls.length:=by
 induction ls with
 | nil=>exact t_ _
 | cons l r ih =>
  have h1:=h l W_;have h2:=ih fun y hy=>h y (J_ _ hy)
  rw[acI,A_,x_]
  lia
def NotIn (l:Addr) (xs:List V):Prop:=∀ b,V.ref b∈xs->b≠l
def vJ {ns:List Int}{lo hi:m_ Int}:∃ ms:List Int,kU (ns.map V.int) lo hi=ms.map V.int/\ms.length<=ns.length:=by
 refine⟨(ns.drop (HT.bJ (ns.map V.int).length 0 lo)).take (HT.bJ (ns.map V.int).length (ns.map V.int).length hi-HT.bJ (ns.map V.int).length 0 lo),?_,?_⟩
 ·unfold kU;rw[abS,acX]
 ·rw[Zm,Z9]
  lia
def placesOk:Int->Int->List Int->Prop
 | _,_,[]=>True
 | lo,m,p::r=>lo<=p/\p<m/\placesOk (p+1) m r
noncomputable def b9:Int->List Int->Int
 | lo,[]=>lo
 | _,p::r=>b9 (p+1) r
theorem iz:∀ {lo m:Int}{a b:List Int},placesOk lo m (a++b)↔placesOk lo m a/\placesOk (b9 lo a) m b
 | lo,m,[],b=>by simp [placesOk,b9]
 | lo,m,p::r,b=>by
  have ih:=iz (lo:=p+1) (m:=m) (a:=r) (b:=b);simp only[aa0,placesOk,b9,ih];constructor
  ·rintro⟨h1,h2,h3,h4⟩;exact⟨⟨h1,h2,h3⟩,h4⟩
  ·rintro⟨⟨h1,h2,h3⟩,h4⟩;exact⟨h1,h2,h3,h4⟩
theorem iA:∀ {lo:Int}{a b:List Int},b9 lo (a++b)=b9 (b9 lo a) b
 | _,[],_=>rfl
 | _,p::r,b=>iA (lo:=p+1) (a:=r) (b:=b)
theorem ao:∀ {lo m:Int}{ps:List Int},placesOk lo m ps->∀ p∈ps,lo<=p/\p<m
 | _,_,[],_,_,hp=>nomatch hp
 | lo,m,q::r,h,p,hp=>by
  rcases C_.mp hp with e | e
  ·rw[e];exact⟨h.1,h.2.1⟩
  ·have:=ao h.2.2 p e;have:=h.1
   lia
theorem places_len:∀ {lo m:Int}{ps:List Int},placesOk lo m ps->lo<=m->(ps.length:Int)<=m-lo
 | _,_,[],_,h=>by simp;lia
 | lo,m,p::r,k,h=>by
  have ih:=places_len k.2.2 (by have:=k.2.1;lia);have:=k.1;rw[x_]
  lia
noncomputable def bh (n:Nat) (ps:List Int):List Int:=(ps.filter fun i=>decide ((n:Int)<=i)).map fun i=>i-n
noncomputable def linesOf (n:Nat) (ps:List Int):List Int:=ps.filter fun i=>decide (i<(n:Int))
theorem dr {n:Nat}:∀ {lo m:Int}{ps:List Int},placesOk lo m ps->((linesOf n ps).length:Int)<=max ((n:Int)-lo) 0
 | lo,m,[],_=>by simp [linesOf];lia
 | lo,m,p::r,k=>by
  have ih:=dr (n:=n) k.2.2;have h1:=k.1;unfold linesOf at ih ⊢;by_cases h:p<(n:Int)
  ·rw[abz (by simpa using h),x_];lia
  ·rw[abA (by simpa using h)];lia
theorem eC {n:Nat}:∀ {lo m:Int}{ps:List Int},placesOk lo m ps->((bh n ps).length:Int)<=max (m-max (n:Int) lo) 0
 | lo,m,[],_=>by simp [bh];lia
 | lo,m,p::r,k=>by
  have ih:=eC (n:=n) k.2.2;have h1:=k.1;have h2:=k.2.1;unfold bh at ih ⊢;rw[a_] at ih ⊢;by_cases h:(n:Int)<=p
  ·rw[abz (by simpa using h),x_];lia
  ·rw[abA (by simpa using h)];lia
def iO {n:Nat}{m:Int}{ps:List Int} (k:placesOk 0 m ps):∀ i∈linesOf n ps,0<=i/\i<(n:Int):=fun i hi=>by
 obtain⟨h1,h2⟩:=Z5.mp hi;exact⟨(ao k i h1).1,by simpa using h2⟩
def j2 {n w:Nat}{ps:List Int} (k:placesOk 0 ((n:Int)+(w:Int)) ps):∀ i∈bh n ps,0<=i/\i<(w:Int):=fun i hi=>by
 obtain⟨j,hj,rfl⟩:=n_.mp hi;obtain⟨h1,h2⟩:=Z5.mp hj;have h3:(n:Int)<=j:=by simpa using h2
 have:=(ao k j h1).2
 lia
theorem yb {K:e_}{H:Hp}:∀ (ps:List Int),eB K H (ps.map V.int) (ps.map acr)
 | []=>.nil
 | p::r=>.cons (.int _) (yb r)
theorem iP:∀ (ps:List Int),Zl (ps.map acr)=true
 | []=>rfl
 | p::r=>by
  have ih:=iP r;simp only[r_,Zl,Z1,ih,Bool.and_self]
theorem oR:∀ (ps:List Int),Zr (ps.map acr)<=0
 | []=>t_ _
 | p::r=>by
  have ih:=oR r;simp only[r_,Zr,aar]
  lia
def Cz (ps:List Int):V_ (.list (ps.map acr)) (.list (ps.map acr))=true:=SeqAt.eqv_refl _ (by simp only[Z1,iP])
def shaped_ints (ps:List Int):L_ (.list (ps.map acr))=true:=by
 have h2:=oR ps;unfold L_;rw[v_];refine⟨by simp only[Z1,iP],d_ ?_⟩;simp only[aar]
 lia
theorem vK {n:Nat}:∀ (ps:List Int),(linesOf n ps).length+(bh n ps).length=ps.length
 | []=>rfl
 | p::r=>by
  have ih:=vK (n:=n) r;unfold linesOf bh at ih ⊢;rw[a_] at ih ⊢;by_cases h:p<(n:Int)
  ·rw[abz (by simpa using h),abA (by simp;lia),x_,x_];lia
  ·rw[abA (by simpa using h),abz (by simp;lia),x_,x_];lia
end SH
namespace L2
open PySem PySem.Spec PyProof.Rows
section
variable {κ:Type} [DecidableEq κ]
noncomputable def d5 (kvs:List (κ×V)) (k:κ):m_ V:=(kvs.find? fun kv=>decide (kv.1=k)).map (·.2)
noncomputable def putK (kvs:List (κ×V)) (k:κ) (v:V):List (κ×V) :=
 if (kvs.any fun kv=>decide (kv.1=k))=true then kvs.map (fun kv=>if kv.1=k then (kv.1,v) else kv) else kvs++[(k,v)]
def bR {p:κ×V}{r:List (κ×V)}{k:κ} (e:p.1=k):d5 (p::r) k=some p.2:=by simp [d5,aaN,e]
def bT {p:κ×V}{r:List (κ×V)}{k:κ} (e:¬ p.1=k):d5 (p::r) k=d5 r k:=by simp [d5,aaN,e]
theorem oS (k:κ):∀ kvs:List (κ×V),(kvs.any fun kv=>decide (kv.1=k))=(d5 kvs k).isSome
 | []=>rfl
 | p::r=>by
  rw[abR];by_cases e:p.1=k
  ·simp only[bR e,d_ e,Bool.true_or,afg]
  ·rw[bT e,f_ e,ae4];exact oS k r
theorem vL (k j:κ) (y:V):∀ kvs:List (κ×V),d5 (kvs.map fun kv=>if kv.1=k then (kv.1,y) else kv) j=(d5 kvs j).map fun x=>if j=k then y else x
 | []=>rfl
 | p::r=>by
  have ih:=vL k j y r;rw[r_];by_cases h:p.1=k
  ·rw[z_ h];by_cases e:p.1=j
   ·rw[bR (p:=(p.1,y)) e,bR e,acm,z_ (e.symm.trans h)]
   ·rw[bT (p:=(p.1,y)) e,bT e,ih]
  ·rw[s_ h];by_cases e:p.1=j
   ·rw[bR (p:=p) e,bR e,acm,s_ (fun z=>h (e.trans z))]
   ·rw[bT (p:=p) e,bT e,ih]
theorem si (k j:κ) (y:V):∀ kvs:List (κ×V),d5 kvs k=none->d5 (kvs++[(k,y)]) j=if j=k then some y else d5 kvs j
 | [],_=>by
  by_cases e:k=j
  ·rw[z_ e.symm];exact bR (p:=(k,y)) e
  ·rw[s_ (fun z=>e z.symm)];exact bT (p:=(k,y)) e
 | p::r,hn=>by
  rw[aa0];have hk:¬ p.1=k:=fun z=>by rw[bR z] at hn;cases hn
  rw[bT hk] at hn;have ih:=si k j y r hn;by_cases e:p.1=j
  ·rw[bR e,bR e,s_ (fun z=>hk (e.trans z))]
  ·rw[bT e,bT e,ih]
def CA (kvs:List (κ×V)) (k j:κ) (y:V):d5 (putK kvs k y) j=if j=k then some y else d5 kvs j:=by
 unfold putK;by_cases a:(kvs.any fun kv=>decide (kv.1=k))=true
 ·rw[z_ a,vL];rw[oS] at a;by_cases e:j=k
  ·obtain⟨x,hx⟩:=adM.mp a;rw[z_ e,e,hx,acm,z_ rfl]
  ·rw[s_ e]
   cases d5 kvs j with
   | none=>rfl
   | some x=>rw[acm,s_ e]
 ·rw[s_ a];refine si k j y kvs ?_;rw[oS] at a
  cases q:d5 kvs k with
  | none=>rfl
  | some x=>rw[q] at a;exact (a rfl).elim
def vM (kvs:List (κ×V)) (k:κ) (v:V):(putK kvs k v).length<=kvs.length+1:=by
 unfold putK;split
 ·rw[a_];lia
 ·rw[A_,x_,abO];lia
def kM.sj {o:m_ V}{u:m_ Value} (r:kM o u):o.isSome=u.isSome:=by
 cases o with
 | none=>cases u with
  | none=>rfl
  | some _=>exact (show False from r).elim
 | some _=>cases u with
  | none=>exact (show False from r).elim
  | some _=>rfl
def KV.val {kvs:List (κ×V)}{vs:List (κ×Value)} (r:KV kvs vs) (k:κ):kM (d5 kvs k) (afA vs k):=by
 unfold KV at r
 induction r with
 | nil=>exact Z3
 | @cons p q ps qs h t ih =>
  obtain⟨h1,h2⟩:=h;by_cases e:p.1=k
  ·have e':q.1=k:=h1.symm.trans e;have b:afA (q::qs) k=some q.2:=by simp [afA,aaN,e']
   rw[bR e,b];exact h2
  ·have e':¬ q.1=k:=fun z=>e (h1.trans z)
   have b:afA (q::qs) k=afA qs k:=by simp [afA,aaN,e']
   rw[bT e,b];exact ih
theorem KV.any {kvs:List (κ×V)}{vs:List (κ×Value)} (r:KV kvs vs) (k:κ):(kvs.any fun kv=>decide (kv.1=k))=vs.any fun kv=>decide (kv.1=k):=by
 unfold KV at r
 induction r with
 | nil=>rfl
 | cons h t ih=>rw[abR,abR,ih,h.1]
theorem KV.So {kvs:List (κ×V)}{vs:List (κ×Value)} (r:KV kvs vs) (k:κ) {y:V}{u:Value} (ry:RelV y u) :
  KV (kvs.map fun kv=>if kv.1=k then (kv.1,y) else kv) (vs.map fun kv=>if kv.1=k then (kv.1,u) else kv):=by
 unfold KV at r ⊢
 induction r with
 | nil=>exact .nil
 | @cons p q ps qs h t ih =>
  rw[r_,r_];refine .cons ?_ ih;obtain⟨h1,h2⟩:=h;by_cases e:p.1=k
  ·rw[z_ e,z_ (h1.symm.trans e)];exact⟨h1,ry⟩
  ·rw[s_ e,s_ (fun z=>e (h1.trans z))];exact⟨h1,h2⟩
def KV.put {kvs:List (κ×V)}{vs:List (κ×Value)} (r:KV kvs vs) (k:κ) {y:V}{u:Value} (ry:RelV y u):KV (putK kvs k y) (stored vs k u):=by
 unfold putK stored;rw[r.any k];by_cases e:(vs.any fun kv=>decide (kv.1=k))=true
 ·rw[z_ e,z_ e];exact r.So k ry
 ·rw[s_ e,s_ e];exact Paired.snoc r ⟨rfl,ry⟩
def KV.keys {kvs:List (κ×V)}{vs:List (κ×Value)} (r:KV kvs vs):kvs.map (·.1)=vs.map (·.1):=by
 unfold KV at r
 induction r with
 | nil=>rfl
 | cons h t ih=>rw[r_,r_,ih,h.1]
theorem KV.length {kvs:List (κ×V)}{vs:List (κ×Value)} (r:KV kvs vs):kvs.length=vs.length:=adL r
end
def CB {P:N_}{w:World}{k:Key}{u:Value} (r:RelV (kV k) u):(aL P w).is k u=true:=by
 cases k with
 | inl i=>obtain⟨t,e⟩:=(show ∃ t,u=acQ i t from r);subst e;exact vd P w i t
 | inr x=>obtain⟨t,e⟩:=(show ∃ t,u=adf x t from r);subst e;exact ve P w x t
theorem so {P:N_}{w:World}:∀ {ks:List Key}{us:List Value},Vals (ks.map kV) us->ItemsAre (aL P w) ks us
 | [],_,r=>by rw[Z_] at r;cases r;exact .nil
 | k::ks,_,r=>by
  rw[r_] at r
  cases r with
  | cons h t=>exact .cons (CB h) (so t)
abbrev KT (H:Hp):List (List Key×V)->List (List Key×Addr×Value)->Prop:=ad1 fun p q=>p.1=q.1/\H q.2.1=some (.tup (p.1.map kV))/\RelV p.2 q.2.2
def KT.val {H:Hp}{kvs:List (List Key×V)}{xs:List (List Key×Addr×Value)} (r:KT H kvs xs) (k:List Key):kM (d5 kvs k) ((atKey xs k).map (·.2)):=by
 induction r with
 | nil=>exact Z3
 | @cons p q ps qs h t ih =>
  obtain⟨h1,_,h2⟩:=h;by_cases e:p.1=k
  ·have e':q.1=k:=h1.symm.trans e;have b:atKey (q::qs) k=some q.2:=by simp [atKey,aaN,e']
   rw[bR e,b];exact h2
  ·have e':¬ q.1=k:=fun z=>e (h1.trans z)
   have b:atKey (q::qs) k=atKey qs k:=by simp [atKey,aaN,e']
   rw[bT e,b];exact ih
section
variable {P:N_}{w:World}{H:Hp}{h:Heap}{a:Addr}
def G8 {u:HO} (ok:jz P w H h) (e:Rd H a u):aQ P w H h a u:=e.ok ok
def G9 {kvs:List (Key×V)} (ok:jz P w H h) (e:Rd H a (.dK kvs)):kvs.length<=sizeLine/\(a==abo)=false/\∃ vs,KV kvs vs/\h.DictOf (aL P w) a vs :=
 show aQ P w H h a (.dK kvs) from G8 ok e
def Ng {kvs:List (Key×V)} (ok:jz P w H h) (e:H a=some (.dK kvs)):kvs.length<=sizeLine/\(a==abo)=false/\∃ vs,KV kvs vs/\h.DictOf (aL P w) a vs:=G9 ok (.inl e)
def CC {ks:List Key} (ok:jz P w H h) (e:H a=some (.tup (ks.map kV))):(afN (aL P w)).is h ks a:=by
 obtain⟨_,ai,r,o,h1,h2,n,h3⟩:=(show aQ P w H h a (.tup (ks.map kV)) from ok a _ e);exact⟨o,ai.toArray,n,h1,h2,h3,by simpa using so r⟩
def Nh {kvs:List (List Key×V)} (ok:jz P w H h) (e:Rd H a (.dT kvs)):kvs.length<=sizeLine/\(a==abo)=false /\
  ∃ xs,KT H kvs xs/\h.DictOfH (afN (aL P w)) a xs:=by
 obtain⟨z,y,xs,r,o,es,ep,h1,h2,h3,h4,h5⟩:=(show aQ P w H h a (.dT kvs) from G8 ok e);refine⟨z,y,xs,r,o,es,ep,h1,h2,h3,h4,fun x hx=>?_,h5⟩
 have all:∀ {l:List (List Key×V)}{m:List (List Key×Addr×Value)},KT H l m->∀ x∈m,(afN (aL P w)).is h x.1 x.2.1:=by
  intro l m q
  induction q with
  | nil=>intro x hx;exact nomatch hx
  | @cons p q ps qs hq t ih =>
   intro x hx;rcases C_.mp hx with e | hx
   ·subst e;exact CC ok (by rw[<-hq.1];exact hq.2.1)
   ·exact ih x hx
 exact all r x hx
end
def CD (H:Hp) (a:Addr) (y:V) (r:m_ V):Prop :=
 (∃ kvs k,Rd H a (.dK kvs)/\y=kV k/\r=d5 kvs k)∨∃ kvs k b,Rd H a (.dT kvs)/\y=.ref b/\H b=some (.tup (k.map kV))/\r=d5 kvs k
theorem CD.k {H:Hp}{a:Addr}{kvs:List (Key×V)}{k:Key} (e:H a=some (.dK kvs)):CD H a (kV k) (d5 kvs k):=.inl ⟨kvs,k,.inl e,rfl,rfl⟩
section
variable {X:Cx}{pins:List (Addr×Obj)}{σ:St}{H:Hp}{s:j_}{a:Addr}{y v:V}{u r:Value}{o:m_ V}{A:ZN}{E:Value->j_->Prop}
def Inv.big (I:Inv X pins σ H s):abo<s.heap.objs.size:=by
 have h:mainGlobals<s.heap.objs.size:=(I.mod.glob.keeps I.bk).lt;exact afy (2) h
def Sq {Q:Value->j_->Prop} (hu:A.units+1<cLine) (I:Inv X pins σ H s) (g:CD H a y o) (ry:RelV y u) (h:∀ s',Inv X pins σ H s'->Q (.bool o.isSome) s') :
  wpAny '0' A (ZF .In u (.ref a)) Q E s:=by
 rcases g with ⟨kvs,k,e,ey,l⟩ | ⟨kvs,k,b,e,ey,eb,l⟩
 ·subst ey;obtain⟨z,hd,vs,rel,dd⟩:=G9 I.aW e;refine wpAny_in_of (CB ry) hd dd.mapOf ?_;rw[<-(rel.val k).sj,<-l];exact h _ (I.tok _)
 ·subst ey
  cases (show u=Zq b from ry)
  obtain⟨z,hd,xs,rel,dd⟩:=Nh I.aW e;refine wpAny_in_heap (tupleKind_room_in1 hu) (CC I.aW eb) hd dd ?_;have q:=(rel.val k).sj;rw[Option.isSome_map] at q;rw[<-q,<-l];exact h _ (I.tok _)
def Ft {h':Heap}{t':Nat}{ob:HO} (I:Inv X pins σ H s) (mu:Mb (H a)) (hs:aaT a s.heap h') (he:∃ q,h'.get? a=some q) (new:aQ X.prog X.w (upd H a ob) h' a ob) :
  Inv X pins σ (upd H a ob) { s with heap:=h',toks:=t' } :=
 I.write (x:=a) (e:=a) mu (.inl rfl) (fun b q hb z=>(hs.2 b hb).trans z) he new
def JS {P:N_}{w:World}{H':Hp}{h':Heap}{kvs:List (Key×V)}{vs:List (Key×Value)} (z:kvs.length<=sizeLine) (hd:(a==abo)=false) (rel:KV kvs vs) (dd:h'.DictOf (aL P w) a vs) :
  aQ P w H' h' a (.dK kvs):=⟨z,hd,vs,rel,dd⟩
end
def JT (i:Expr):Prop:=∀ ov iv,aeE i false ov iv=operate [ov,iv] (adE ov iv)
def Fu {prog:N_}{w:World}{A:ZN}{E:Value->j_->Prop}{s:j_}{env:Env}{value slice:Expr}{pos:Pos}{T id:acq}{Q:Value->j_->Prop}
  (hl:typeLookup (.type T) "__getitem__" = pure (some (.builtin id))) (hs:JT slice)
  (h:wpAny '3' A (eval value env) (fun o s₁=>wpAny '3' A (eval slice env) (fun i s₂=>s₂.TypeIs o T/\wpAny '3' A (adE o i) Q E s₂) E s₁) E s) :
  wpAny '3' A (eval (.Subscript value slice pos) env) Q E s:=by
 refine Subscript_ (aaj h (fun o s₁ h₁=>aaj h₁ (fun i s₂ h₂=>?_) fun _ _ x=>x) fun _ _ x=>x);obtain⟨hT,h₂⟩:=h₂;unfold ae2;refine c_ ?_;rw[getitemInPython_of_ne hT.not_modules];refine c_ (acn hT hl ?_)
 have fin:wpAny '3' A (aeE slice false o i) (fun r s₃=>wpAny '3' A (letTemporaryGo value o r >>= fun _=>pure r) Q E s₃) E s₂:=by
  rw[hs o i];exact wpAny_operating (aaj h₂ (fun r s₃ h₃=>c_ (wpAny_letTemporaryGo (q_ h₃))) fun _ _ x=>x)
 first
  | exact q_ (c_ fin)
  | exact c_ (q_ (c_ fin))
  | exact c_ fin
def Ni (ty td:TE):TE:=fun σ H Q=>ty σ H fun y H1=>td σ H1 fun x H2=>∃ a o,x=.ref a/\CD H2 a y o/\Q (.bl o.isSome) H2
section
variable {X:Cx}{o i e value:Expr}{pos pos' MG:Pos}{td ty tv:TE}
def CF (hu:X.A.units+1<cLine) (hi:PE X i ty) (ho:PE X o td):PC X .In i o (Ni ty td):=by
 ext d;refine aX (hi pins s σ H _ I h) fun iv s1 ⟨y,H1,I1,ry,q1⟩=>aX (ho pins s1 σ H1 _ I1 q1) fun u s2 ⟨x,H2,I2,rx,a,ov,ex,g,q2⟩=>?_
 subst ex;obtain rfl:u=Zq a:=rx;exact Sq hu I2 g ry fun s3 I3=>⟨.bl ov.isSome,H2,I3,rfl,q2⟩
end
structure M1 (X:Cx) (o:Expr) (m:Str) (apos:Pos) (e:Expr) (bK:Pos):Prop where
 base:abp o m X.env (eval o X.env)=eval o X.env
 WS:((aaV bK (S_ [e] X.env)).all (fun x => !x.1)&&(adp bK (ab1 [] X.env)).all (fun x=>x.1.isSome)
  && decide (([e]:List Expr).length+([]:List acW).length+(if ([]:List acW).isEmpty then 0 else 1)<30))=true
 line:(apos.endLine==bK.line)=true
 trees:aaV bK (S_ [e] X.env)=[(false,eval e X.env)]
structure M2 (X:Cx) (o:Expr) (m:Str) (apos:Pos) (e f:Expr) (bK:Pos):Prop where
 base:abp o m X.env (eval o X.env)=eval o X.env
 WS:((aaV bK (S_ [e,f] X.env)).all (fun x => !x.1)&&(adp bK (ab1 [] X.env)).all (fun x=>x.1.isSome)
  && decide (([e,f]:List Expr).length+([]:List acW).length+(if ([]:List acW).isEmpty then 0 else 1)<30))=true
 line:(apos.endLine==bK.line)=true
 trees:aaV bK (S_ [e,f] X.env)=[(false,eval e X.env),(false,eval f X.env)]
end L2
namespace PySem
open Sem (wp)
def Fv:typeLookup (.type "list") "keys" = pure none:=by rw[typeLookup_type,builtinLookup_eq_fast];kernel_rfl
def oT {prog:N_}{w:World}{A:ZN}{E:Value->j_->Prop}{s:j_}{a:Addr}{o:Obj}{xs:Array Value}{k:Nat}{Q:m_ Value->j_->Prop}
  (hx:s.heap.get? a=some o) (hc:o.cls=.type "list") (vN:o.data=.seq xs k) (hd:o.dict=none) (hA:A.handled=none)
  (h:∀ h' tk,(∀ b ob,s.heap.get? b=some ob->h'.get? b=some ob)->Q none { s with heap:=h',toks:=tk }) :
  wpAny '3' A (getAttr? (.ref a) "keys") Q E s:=by
 obtain⟨c,dct,dat,sl⟩:=o;simp only at hc vN hd;subst hc vN hd;obtain⟨hp,g,d,tk,os⟩:=s;have hT:∀ Nj,(⟨hp,g,d,Nj,os⟩:j_).TypeIs (.ref a) "list" := fun _=>⟨_,hx,rfl⟩
 have f1:=sub_AttributeError;have f3:=acj.lookup;have f4:=acj.bind (.ref a);have f5:=am_list_getattr_none;unfold getAttr? getAttrBy? getAttrBy
 repeat (any_goals (first | assumption | exact hT _ | ((with_reducible show wpAny _ _ (call (agD "list.__getattribute__") _ _) _ _ _);refine afe acj (hT _) am_entry_list_getattribute (F.args_list_getattribute_2 _ _) (meets_getattribute_miss_list a xs k sl "keys" _ Fv (1)) ⟨hx,hA,fun h' Nj e vR=>?_⟩) | wp_step))
 obtain⟨t',u',he⟩:=vR.there;show wpAny _ _ (getattributeRaised _ _ _ _ _ _ _) _ _ _;unfold getattributeRaised
 repeat (any_goals (first | assumption | wp_step))
 exact h h' Nj vR.keeps
end PySem
namespace L2
open PySem PySem.Spec PyProof.Rows
def m8:entryFor table "dict.update.loop" = some aco.«dict.update.loop»:=entryFor_of_tree (by kernel_rfl)
def nc:plainId "dict.update.loop" = true:=by decide +kernel
section
variable {prog:N_}{w:World}{A:ZN}{E:Value->j_->Prop}
theorem AX {d it l:Addr}{Q:Value->j_->Prop} (hA:A.handled=none) (AY:d≠it) (j3:d≠l) (Nk:it≠l) (items:List Value) (mq:List (Key×Value)) (hsz:mq.length<=900) :
  ∀ (m i:Nat) (s:j_) (kvs:List (Key×Value)),items.length=i+m->kvs.length<=i->s.heap.IsListIter it l i->s.heap.IsList l items.toArray ->
   (∀ (j:Nat) (x:Value) (p:Key×Value),items[j]? = some x->mq[j]? = some p->∃ (t:Addr) (ku:Value),x=Zq t/\t≠d/\t≠it/\s.heap.IsTuple t #[ku,p.2]/\(aL prog w).is p.1 ku=true) ->
   items.length=mq.length->s.heap.DictOf (aL prog w) d kvs ->
   (∀ h' tk,(∀ b o,b≠d->b≠it->s.heap.get? b=some o->h'.get? b=some o)->h'.DictOf (aL prog w) d ((mq.drop i).foldl (fun a p=>stored a p.1 p.2) kvs)->Q .none { s with heap:=h',toks:=tk }) ->
   ab5 '3' A (.builtin "dict.update.loop" ⟨[.ref d,.ref it,aaD i,.none],[]⟩) (wants Q E) s:=by
 intro m
 induction m with
 | zero =>
  intro i s kvs hn hk hit hl hp hlen hd hQ;refine abg m8 ?_;rw[aaG nc];unfold aco.«dict.update.loop»;refine c_ (aer (by exact hA) hit hl (by simp;lia) fun h' hx=>?_);refine c_ (q_ ?_);refine q_ ?_;have qK:mq.drop i=[]:=acJ ∅;rw[qK] at hQ;exact hQ h' s.toks (fun b o _ hb e=>hx b o hb e) (hd.extBut hx AY)
 | succ m ih =>
  intro i s kvs hn hk hit hl hp hlen hd hQ;have hi:i<items.length:=by lia
  have Ve:i<mq.length:=by lia
  have ex:=b_ hi;have ep:=b_ Ve;obtain⟨t,ku,et,Y1,WT,Sr,Jo⟩:=hp i _ _ ex ep;refine abg m8 ?_;rw[aaG nc];unfold aco.«dict.update.loop»;refine c_ (ad4 hit hl (x:=items[i]) (by simpa using ex) fun h1 Ss Sv=>?_);rw[et]
  have Nl:h1.IsTuple t #[ku,mq[i].2]:=by
   obtain⟨o,ho,r⟩:=Sr;exact⟨o,(Sv.2 t WT).trans ho,r⟩
  have WU:h1.DictOf (aL prog w) d kvs:=hd.sameBut Sv AY
  have hT:(⟨h1,s.gens,s.drawn,s.toks,s.os⟩:j_).TypeIs (.ref t) "tuple" := by
   obtain⟨o,ho,hc,r⟩:=Nl;exact⟨_,ho,hc⟩
  refine c_ (abq (c_ (wpAny_tryCatch ?_)));unfold Builtin.Dict.pairItems;refine c_ (adb hT ?_);rw[z_ (1)];obtain⟨o,ho,hc,n,vN⟩:=id Nl;refine c_ (aas (s:=⟨h1,s.gens,s.drawn,s.toks,s.os⟩) ho vN ?_);refine q_ ?_
  have hz:kvs.length<=sizeLine:=by
   have h9:(1000:Nat)<=sizeLine:=by decide
   lia
  show wpAny _ _ (adx [ku,mq[i].2] (dictSet d ku mq[i].2)) _ _ _;refine abq (wpAny_dictSet_pairs (s:=⟨h1,s.gens,s.drawn,s.toks,s.os⟩) Jo WU (fun h2 hd2 Vf=>?_) hz);refine q_ ?_;refine⟨ads _ (1),?_⟩;have e1:aaD ((i:Int)+1)=aaD ((i+1:Nat):Int):=rfl;have kp:∀ b o,b≠d->b≠it->s.heap.get? b=some o->h2.get? b=some o:=fun b o LR QL e=>(Vf.2 b LR).trans ((Sv.2 b QL).trans e)
  rw[e1];refine ih (i+1) ⟨h2,s.gens,s.drawn,s.toks+1,s.os⟩ (stored kvs mq[i].1 mq[i].2) ∅ ?_ ?_ ?_ ?_ hlen hd2 ?_
  ·unfold stored;split
   ·rw[a_];lia
   ·rw[A_,X_];lia
  ·exact Ss.at fun o e=>(Vf.2 it (ZM AY)).trans e
  ·exact hl.at fun o e=>kp l o (ZM j3) (ZM Nk) e
  ·intro j x p hx iM;obtain⟨t',WV,e',a1,a2,⟨o',l5,r'⟩,a4⟩:=hp j x p hx iM;exact⟨t',WV,e',a1,a2,⟨o',kp t' o' a1 a2 l5,r'⟩,a4⟩
  ·intro h' tk k2 qK;refine hQ h' tk (fun b o LR QL e=>k2 b o LR QL (kp b o LR QL e)) ?_;rw[aay Ve];exact qK
end
def KV.fold {ks:List (Key×V)}{us:List (Key×Value)} (r:KV ks us):∀ {a:List (Key×V)}{b:List (Key×Value)},KV a b->KV (ks.foldl (fun a p=>putK a p.1 p.2) a) (us.foldl (fun a p=>stored a p.1 p.2) b):=by
 induction r with
 | nil=>intro a b h;exact h
 | @cons p q ps qs h t ih =>
  intro a b ED;refine ih ?_;obtain⟨e,rv⟩:=h;show KV (putK a p.1 p.2) (stored b q.1 q.2);rw[<-e];exact KV.put ED p.1 rv
def CG (ks:List (Key×V)):∀ a:List (Key×V),(ks.foldl (fun a p=>putK a p.1 p.2) a).length<=a.length+ks.length:=by
 induction ks with
 | nil=>intro a;exact t_ _
 | cons p ps ih =>
  intro a;have h1:=ih (putK a p.1 p.2);have h2:=vM a p.1 p.2;rw[abP,x_]
  lia
section
variable {X:Cx}
def JU (K:e_):List V->Hp->VK->Prop:=fun xs H Q=>∃ (l:Addr) (ys:List V) (mq:List (Key×V)),xs=[.ref l]/\cE K H l ys/\ys.length=mq.length/\mq.length<=900 /\
 (∀ (j:Nat) (y:V) (p:Key×V),ys[j]? = some y->mq[j]? = some p->∃ t,y=.ref t/\H t=some (.tup [kV p.1,p.2]))/\∀ d,H d=none->Q (.ref d) (upd H d (.dK (mq.foldl (fun a p=>putK a p.1 p.2) [])))
def oU (hc:X.calm=true):bj X (.type "dict") (JU X.K):=by
 ext j;obtain⟨l,ys,mq,rfl,hq,hlen,hsz,hp,q⟩:=h;obtain⟨u,rfl,rx⟩:=vals1 r
 cases rx
 obtain⟨ai,rv,pl,hz⟩:=I.list hq;have Y2:=rv.length;have hA:X.A.handled=none:=I.ok.hd hc
 have JV:∃ us:List (Key×Value),KV mq us/\∀ (j:Nat) (x:Value) (p:Key×Value),ai[j]? = some x->us[j]? = some p->∃ (t:Addr) (ku:Value),x=Zq t/\s.heap.IsTuple t #[ku,p.2]/\(aL X.prog X.w).is p.1 ku=true:=by
  clear hq pl hz q r
  have gen:∀ (mq:List (Key×V)) (ys:List V) (ai:List Value),Vals ys ai->ys.length=mq.length->(∀ (j:Nat) (y:V) (p:Key×V),ys[j]? = some y->mq[j]? = some p->∃ t,y=.ref t/\H t=some (.tup [kV p.1,p.2])) ->
    ∃ us:List (Key×Value),KV mq us/\∀ (j:Nat) (x:Value) (p:Key×Value),ai[j]? = some x->us[j]? = some p->∃ (t:Addr) (ku:Value),x=Zq t/\s.heap.IsTuple t #[ku,p.2]/\(aL X.prog X.w).is p.1 ku=true:=by
   intro mq
   induction mq with
   | nil=>intro ys ai rv hl _;exact⟨[],.nil,fun j x p _ e=>by simp at e⟩
   | cons p ps ih =>
    intro ys ai rv hl hp
    cases rv with
    | nil=>simp at hl
    | @cons y u ys Fw ru WW =>
     obtain⟨us,k1,k2⟩:=ih ys Fw WW (by simpa using hl) fun j y' p' h1 h2=>hp (j+1) y' p' h1 h2
     obtain⟨t,e,ht⟩:=hp 0 y p rfl rfl;subst e
     cases ru
     obtain⟨Y3,tv,tp,_⟩:=I.tuple (eV.of ht)
     cases tv with
     | cons rk WX =>
      cases WX with
      | cons Sw WY =>
       cases WY
       rename_i ku vu;refine⟨(p.1,vu)::us,.cons ⟨rfl,Sw⟩ k1,fun j x p' h1 h2=>?_⟩
       cases j with
       | zero =>
        simp at h1 h2;subst h1 h2;exact⟨t,ku,rfl,tp,CB rk⟩
       | succ j=>exact k2 j x p' h1 h2
  exact gen mq ys ai rv hlen hp
 obtain⟨us,kv,WZ⟩:=JV;have Y4:=kv.length;obtain⟨o,n,ho,LM,W0,vN⟩:=pl;refine callType_codes (Q₁:=fun obj s₁=>obj=.ref s.heap.objs.size/\s₁={ s with heap:=s.heap.push { cls:=.type "dict",data:=.dict #[] } }) PySem.F.kt_called_dict (PySem.F.kt_typeCall_dict_1 _) PySem.F.entry_dict_init (kt_code_dict_new _ ⟨rfl,rfl⟩) ?_;rintro obj s₁ ⟨rfl,rfl⟩;have JW:(s.heap.push { cls:=.type "dict",data:=.dict #[] }).DictOf (aL X.prog X.w) s.heap.objs.size []:=Heap.DictOf.new s.heap;have Sx:∀ b o,s.heap.get? b=some o->(s.heap.push { cls:=.type "dict",data:=.dict #[] }).get? b=some o:=fun b o e=>k_ _ e
 refine⟨JW.typeIs,PySem.F.args_dict_init_2 _ _,?_⟩;unfold aco.«dict.__init__»;refine c_ ?_;unfold Builtin.Dict.selfAndRest;refine c_ (wpAny_notOrdered_dict JW.typeIs ?_);show wpAny _ _ (pure (s.heap.objs.size,[Zq l])) _ _ _;refine q_ ?_;show wpAny _ _ (adV "dict.__init__" s.heap.objs.size (.ref l) [] .none) _ _ _;unfold adV;generalize hP:s.heap.push { cls:=.type "dict",data:=.dict #[] }=Vg at *;have W2:(⟨Vg,s.gens,s.drawn,s.toks,s.os⟩:j_).TypeIs (.ref l) "list" := ⟨_,Sx _ _ ho,LM⟩;refine c_ (adb W2 ?_);rw[z_ (1)];refine c_ (oT (s:=⟨Vg,s.gens,s.drawn,s.toks,s.os⟩) (Sx _ _ ho) LM vN W0 hA fun h2 Ha Vh=>?_)
 rw[z_ (show (none:m_ Value).isNone=true from rfl)];refine c_ (wpAny_rule ?_);have CH:∀ b o,s.heap.get? b=some o->h2.get? b=some o:=fun b o e=>Vh b o (Sx b o e)
 have Fh:h2.IsList l ai.toArray:=⟨o,CH _ _ ho,LM,n,vN⟩;refine c_ (abi (s:=⟨h2,s.gens,s.drawn,Ha,s.os⟩) Fh ?_);refine q_ ?_;refine⟨ads _ (1),?_⟩
 have hd2:h2.DictOf (aL X.prog X.w) s.heap.objs.size []:=by
  obtain⟨o',es,ep,l5,r'⟩:=JW;exact⟨o',es,ep,Vh _ _ l5,r'⟩
 have W3:s.heap.objs.size<h2.objs.size:=by
  obtain⟨o',es,ep,l5,r'⟩:=hd2;exact E_ l5
 have W4:l<h2.objs.size:=E_ (CH _ _ ho);have JX:∀ b o,s.heap.get? b=some o->b≠s.heap.objs.size:=fun b o e=>Q_ (E_ e)
 have Sy:∀ b o,s.heap.get? b=some o->∀ x,(h2.push x).get? b=some o:=fun b o e x=>k_ _ (CH b o e)
 refine AX (d:=s.heap.objs.size) (it:=h2.objs.size) (l:=l) (by exact hA) (Q_ W3) (ZM (JX _ _ ho)) (ZM (Q_ W4)) ai us ∅ ai.length 0 _ [] ∅ (aal _) ⟨_,w_ _ rfl,rfl,rfl⟩ ⟨o,Sy _ _ ho _,LM,n,vN⟩ ?_ ∅ ?_ ?_
 ·intro j x p h1 W5;obtain⟨t,ku,e,⟨ot,JY,rt⟩,hk⟩:=WZ j x p h1 W5;exact⟨t,ku,e,JX _ _ JY,Q_ (E_ (CH _ _ JY)),⟨ot,Sy _ _ JY _,rt⟩,hk⟩
 ·obtain⟨o',es,ep,l5,r'⟩:=hd2;exact⟨o',es,ep,k_ _ l5,r'⟩
 ·intro h' tk k3 qK;refine⟨rfl,.ref s.heap.objs.size,_,I.laid (a:=s.heap.objs.size) (o:=.dK (mq.foldl (fun a p=>putK a p.1 p.2) [])) (t':=tk) (fun b q AG=>?_) (t_ _) (JS ?_ (aaw.mpr (ZM (Q_ I.big))) (kv.fold .nil) qK),rfl,q _ (I.aW.fresh (t_ _))⟩
  ·exact k3 b q (JX _ _ AG) (Q_ (E_ (CH _ _ AG))) (Sy _ _ AG _)
  ·have h9:(1000:Nat)<=sizeLine:=by decide
   have h8:=CG mq [];rw[abO] at h8
   lia
end
end L2
namespace PySem
open Sem (wp)
section
variable {prog:N_}{w:World}{A:ZN}{E:Value->j_->Prop}{s:j_}
def yc {it t:Addr}{i:Nat}{items:Array Value}{x:Value}{Q:Value->j_->Prop} (hI:s.heap.IsTupleIter it t i) (hT:s.heap.IsTuple t items) (hx:items[i]? = some x)
  (q:∀ h',h'.IsTupleIter it t (i+1)->aaT it s.heap h'->Q x { s with heap:=h' }):wpAny '3' A (ZP (.ref it)) Q E s:=by
 obtain⟨oi,Hb,Vi,AY⟩:=id hI;obtain⟨ot,JY,_,nt,Sz⟩:=hT;unfold ZP;refine c_ (aam (name:=aah "__next__") hI.typeIs aa3 (aaB aa3 hI.typeIs ade ?_ (ac4 _)));refine c_ (m:=field (.ref it) 0) (ZY Hb AY (x:=.ref t) rfl ?_);dsimp only;rw[s_ (show ¬ ((Zq t==abF)=true) by exact u_)];refine c_ (m:=field (.ref it) 1) (ZY Hb AY (x:=.int i 0) rfl ?_);refine c_ (m:=seqItems? (.ref t)) (aas JY Sz ?_);simp only[p_,hx];refine c_ (wpAny_setField Hb AY (3) (q_ ⟨x,rfl,q_ (q _ ⟨_,aes _ Hb (Obj.isFreed_of_fields (afi AY _)),(Obj.cls_mapFields ..).trans Vi,?_⟩ (acd ..))⟩));rw[afi AY];simp [aaD]
def AZ {it t:Addr}{i:Nat}{items:Array Value}{Q:Value->j_->Prop} (hh:A.handled=none) (hI:s.heap.IsTupleIter it t i) (hT:s.heap.IsTuple t items) (hx:items[i]? = none)
  (q:∀ h' e,Heap.ExtBut it s.heap h'->(∃ o,h'.get? e=some o/\o.cls=.type "StopIteration")->E (.ref e) { s with heap:=h' }):wpAny '3' A (ZP (.ref it)) Q E s:=by
 obtain⟨oi,Hb,Vi,AY⟩:=id hI;obtain⟨ot,JY,_,nt,Sz⟩:=hT;unfold ZP;refine c_ (aam (name:=aah "__next__") hI.typeIs aa3 (aaB aa3 hI.typeIs ade ?_ (ac4 _)));refine c_ (m:=field (.ref it) 0) (ZY Hb AY (x:=.ref t) rfl ?_);dsimp only;rw[s_ (show ¬ ((Zq t==abF)=true) by exact u_)];refine c_ (m:=field (.ref it) 1) (ZY Hb AY (x:=.int i 0) rfl ?_);refine c_ (m:=seqItems? (.ref t)) (aas JY Sz ?_);simp only[p_,hx];refine c_ (wpAny_rule (c_ (wpAny_setField Hb AY (3) (c_ (m:=newExc (.type "StopIteration") []) ?_))));simp only[newExc,newTuple];refine c_ (aaq (c_ (m:=firstArgMember _ _) (abm (a:=abF) (by first | rfl | (simp only[firstArgMember];rfl)) (aaq ?_ (by size_fits)))) (by size_fits))
 simp only[raiseNew];refine c_ (wpAny_handled ?_)
 first | rw[show A.in1.handled=none by exact hh] | rw[hh]
 exact c_ (q_ (wpAny_throw (q _ _ (((acd ..).extBut.push _).push _) ⟨_,w_ _ rfl,rfl⟩)))
def Draws.tup (hh:A.handled=none) (it t:Addr) (EE:t≠it) (items:Array Value):Draws prog w A it [it,t] items.size (fun i v=>items[i]? = some v) (fun i h=>h.IsTupleIter it t i/\h.IsTuple t items) where
 live:=fun _ _ st=>let ⟨o,ho,_⟩:=st.1;⟨o,ho⟩
 frame:=fun _ _ _ st hk=>⟨st.1.at fun o e=>hk it (3) o e,let ⟨o,ho,r⟩:=st.2;⟨o,hk t (3) o ho,r⟩⟩
 item:=fun i s Q E hi st hQ=>by
  refine yc st.1 st.2 (x:=items[i]) (by simp [hi]) fun h' SA AR=>hQ _ h' s.toks (by simp [hi]) ⟨SA,?_⟩ AR
  obtain⟨o,ho,r⟩:=st.2;exact⟨o,(AR.2 t EE).trans ho,r⟩
 done:=fun s Q E st hE=>AZ hh st.1 st.2 (3) hE
def vS (l:Addr) (items:Array Value) (n:Nat) (dct:m_ Addr) (sl:Array (m_ Value)) :
  Meets (aco.«enumerate.__new__» ⟨[.type "enumerate",.ref l],[]⟩) (fun _ R s=>s.heap.get? l=some { cls:=.type "tuple",dict:=dct,data:=.seq items n,slots:=sl } /\
   R (.ok (.ret (.ref (s.heap.push { cls:=.type "tuple_iterator",data:=.fields #[.ref l,.int 0 0] }).objs.size)))
    { s with heap:=(s.heap.push { cls:=.type "tuple_iterator",data:=.fields #[.ref l,.int 0 0] }).push { cls:=.type "enumerate",data:=.fields #[.none,.bool false,.ref s.heap.objs.size,aaD 0,.none,.none] } }) :=
 .of_wp fun prog w A R s h=>by
  obtain⟨hp,g,d,tk,os⟩:=s;obtain⟨hl,h⟩:=h;have SD:=sub_enumerate;have hL:afB (af2 ⟨hp,g,d,tk,os⟩) l items:=⟨_,hl,rfl,n,rfl⟩
  wp_walk using aem hl
  refine wpAny_stack_any fun st=>q_ ?_
  split
  ·rename_i c _ _ _ _ _
   cases (c==aa2 "enumerate")<;>(wp_walk using aem hl,abI hL;exact⟨_,rfl,h⟩)
  ·wp_walk using aem hl,abI hL
   exact⟨_,rfl,h⟩
def yd {l:Addr}{items:Array Value}{Q:Value->j_->Prop} (hL:s.heap.IsTuple l items)
  (h:∀ h',IsEnum h' '7' s.heap.objs.size 0 .none->h'.IsTupleIter s.heap.objs.size l 0->h'.objs.size=s.heap.objs.size+2->(∀ b o,s.heap.get? b=some o->h'.get? b=some o)->Q (.ref '7') { s with heap:=h' }) :
  wpAny '3' A (call (.type "enumerate") [.ref l]) Q E s:=by
 obtain⟨⟨c,dct,dt,sl⟩,hl,hc,n,hd⟩:=hL
 replace hc:c=.type "tuple" := hc
 replace hd:dt=.seq items n:=hd
 subst hc hd;refine callType_new F.called_enumerate (2) (F.typeCall_enumerate_1 _) (F.newCall_enumerate_1 _) (fun obj=>F.args_object_init_2 obj _) F.entry_enumerate_new (vS l items n dct sl) ⟨hl,?_⟩;generalize hI:({ cls:=.type "tuple_iterator",data:=.fields #[.ref l,.int 0 0] }:Obj)=oi;have hz:(s.heap.push oi).objs.size=s.heap.objs.size+1:=Z0 ..;show _/\_;rw[hz]
 have he:IsEnum ((s.heap.push oi).push { cls:=.type "enumerate",data:=.fields #[.none,.bool false,.ref s.heap.objs.size,aaD 0,.none,.none] }) '7' s.heap.objs.size 0 .none:=by
  have g:=w_ (s.heap.push oi) (o:={ cls:=.type "enumerate",data:=.fields #[.none,.bool false,.ref s.heap.objs.size,aaD 0,.none,.none] }) rfl;rw[hz] at g;exact g
 subst hI;exact⟨⟨_,he,rfl⟩,h _ he ⟨_,k_ _ (w_ _ rfl),rfl,rfl⟩ (by rw[Z0,hz]) fun b o x=>k_ _ (k_ _ x)⟩
end
end PySem
namespace L2
open PySem PySem.Spec PyProof.Rows
def Inv.zy {X:Cx}{pins:List (Addr×Obj)}{σ:St}{H:Hp}{s:j_}{h':Heap}{t':Nat}{ch:List Addr} (I:Inv X pins σ H s) (u9:∀ b∈ch,nD X pins H b) (k:∀ b o,b∉ch->s.heap.get? b=some o->h'.get? b=some o):Inv X pins σ H { s with heap:=h',toks:=t' }:=by
 have GX:∀ b u,H b=some u->b∉ch:=fun b u e z=>by rw[(u9 b z).1] at e;cases e
 refine I.step (g':=s.gens) (d':=s.drawn) (ch:=ch) (fun b hb=>?_) (fun b o _ _ hc e _=>k b o hc e) (fun b o _ _ hc e _=>⟨o.slots,k b o hc e⟩) (fun _ _ _ _ n=>n) (fun b o hc e=>⟨o,k b o hc e⟩) (fun _ _ e=>e) (fun _ _ _ e=>e) (fun b ps e=>⟨#[],by rw[e];simp⟩) (fun m hm=>?_) (fun b u e=>?_) I.bare
 ·obtain⟨f0,f1,f2,f3,f4,f5⟩:=u9 b hb;exact⟨f3,f1,f4,f5⟩
 ·obtain⟨o,es,ep,ho,r⟩:=hm;exact⟨o,es,ep,k _ o (fun z=>(u9 _ z).2.1 rfl) ho,r⟩
 ·refine (I.aW b u e).eU (fun c v hc q=>k c v ?_ q) (fun _ q=>q) fun _ _ q=>q
  rcases hc with z | z
  ·rw[z];exact GX b u e
  ·exact GX c _ z
def Inv.oV {X:Cx}{pins:List (Addr×Obj)}{σ:St}{H:Hp}{s:j_}{h':Heap}{t':Nat}{ch:List Addr}{T:Addr}{ob:HO} (I:Inv X pins σ H s) (u9:∀ b∈ch,nD X pins H b) (k:∀ b o,b∉ch->s.heap.get? b=some o->h'.get? b=some o)
  (hT:s.heap.objs.size<=T) (new:aQ X.prog X.w (upd H T ob) h' T ob):Inv X pins σ (upd H T ob) { s with heap:=h',toks:=t' }:=by
 have hn:H T=none:=I.aW.fresh hT;have GX:∀ b u,H b=some u->b∉ch:=fun b u e z=>by rw[(u9 b z).1] at e;cases e
 have up:∀ b u,H b=some u->(upd H T ob) b=some u:=fun b u e=>by rw[av (aB e hn)];exact e
 refine I.step (g':=s.gens) (d':=s.drawn) (ch:=ch) (fun b hb=>?_) (fun b o _ _ hc e _=>k b o hc e) (fun b o _ _ hc e _=>⟨o.slots,k b o hc e⟩) (fun b o _ e n=>?_) (fun b o hc e=>⟨o,k b o hc e⟩) (fun b _ e=>up b _ e) (fun b _ _ e=>up b _ e) (fun b ps e=>⟨#[],by rw[up b _ e];simp⟩) (fun m hm=>?_) (fun b u e=>?_) I.bare
 ·obtain⟨f0,f1,f2,f3,f4,f5⟩:=u9 b hb;exact⟨f3,f1,f4,f5⟩
 ·rw[av (Q_ (I_ (E_ e) hT))];exact n
 ·obtain⟨o,es,ep,ho,r⟩:=hm;exact⟨o,es,ep,k _ o (fun z=>(u9 _ z).2.1 rfl) ho,r⟩
 ·by_cases hb:b=T
  ·subst hb;rw[au] at e;cases e;exact new
  ·rw[av hb] at e;refine (I.aW b u e).eU (fun c v hc q=>k c v ?_ q) (fun c q=>up c _ q) fun c _ q=>up c _ q
   rcases hc with z | z
   ·rw[z];exact GX b u e
   ·exact GX c _ z
noncomputable def JZ (K:e_) (a:Addr):It :=
 ⟨fun i H=>∃ xs x,eV K H a xs/\xs[i]? = some x,fun i H v H'=>∃ T x,H T=none/\v=.ref T/\(∀ xs,eV K H a xs->xs[i]? = some x)/\H'=upd H T (.tup [.int i,x]),fun i H=>∃ xs,eV K H a xs/\xs.length=i⟩
def ye {P:N_}{w:World}{K:e_}{elts:List Expr}{kk:Nat}{tp:Pos} (e it a:Addr) (QM:e≠it):Turn P w K (.Tuple elts kk tp) (JZ K a) [e,it] e (fun i h=>(∃ old,IsEnum h e it i old)/\h.IsTupleIter it a i) where
 mem:=by simp
 obj:=fun i h st b hb=>by
  obtain⟨⟨old,he⟩,o,ho,hc,hd⟩:=st;rcases C_.mp hb with q | q
  ·subst q;exact⟨_,he,fun v z=>by have z':aeA _=adS v:=z;cases z'⟩
  ·rw[D_.mp q];exact⟨o,ho,fun v z=>by rw[hd] at z;cases z⟩
 keep:=fun i h h' st k=>⟨st.1.imp fun old x=>k e (3) _ x,st.2.at fun o x=>k it (3) o x⟩
 item:=by
  ext e;subst hP hw hK;obtain⟨xs,x,hq,hx⟩:=hg;obtain⟨ai,rv,p,hz⟩:=I.tuple hq;obtain⟨u,hu,ru⟩:=rv.get hx;have hA:X.A.handled=none:=I.ok.hd hc;obtain⟨⟨old,he⟩,hI⟩:=id st
  have SE:a≠it:=fun z=>by
   obtain⟨o1,g1,c1,_⟩:=p;obtain⟨o2,g2,c2,_⟩:=hI;rw[z,g2] at g1
   cases g1
   rw[c2] at c1;exact absurd c1 (2)
  have SF:e≠a:=fun z=>by
   obtain⟨o1,g1,c1,_⟩:=p;have g2:s.heap.get? e=_:=he;rw[<-z,g2] at g1
   cases g1
   exact absurd (show aa2 "enumerate" = aa2 "tuple" from c1) (2)
  have W:=afC (prog:=X.prog) (w:=X.w) (A:=X.A) (Draws.tup (by exact hA) it a SE ai.toArray) e QM (by simp [QM,SF]) (3)
  have hi:i<ai.toArray.size:=by
   have:=(i_.mp hu).1;simpa using this
  refine W.item i s _ _ hi ⟨⟨old,he⟩,hI,p⟩ fun T vals h' tk hv hT W6 Nm k1=>?_
  obtain⟨t',x',vR,rfl⟩:=hv
  have ex:x'=u:=by
   have h2:ai.toArray[i]? = some u:=by simpa using hu
   rw[h2] at vR;exact (M_ vR).symm
  subst ex;refine⟨_,rfl,W.go elts kk tp i T _ _ _ Nm fun h2 Nn k2=>?_⟩;have Vj:=W.apart i T _ Nm
  have new:aQ X.prog X.w (upd H T (.tup [.int i,x])) h2 T (.tup [.int i,x]):=by
   obtain⟨ot,g1,r1⟩:=W6;exact⟨by show 2<=sizeLine;decide,[.int i t',x'],.cons ⟨t',rfl⟩ (.cons ru .nil),ot,k2 T ot Vj g1,r1⟩
  refine⟨.ref T,_,I.oV (ch:=[e,it]) (t':=tk) hf (fun b o hb g=>k2 b o hb (k1 b o hb g)) hT new,rfl,⟨T,x,I.aW.fresh hT,rfl,fun ys hy=>by rw[I.rS hy hq];exact hx,rfl⟩,⟨Nn.1,Nn.2.1⟩,fun b hb=>?_⟩;have W7:b≠T:=fun z=>Vj (by rw[<-z];exact hb)
  rw[av W7];exact (hf b hb).1
 done:=by
  ext e;subst hP hw hK;obtain⟨xs,hq,hx⟩:=hg;obtain⟨ai,rv,p,hz⟩:=I.tuple hq;have hA:X.A.handled=none:=I.ok.hd hc;obtain⟨⟨old,he⟩,hI⟩:=id st
  have SE:a≠it:=fun z=>by
   obtain⟨o1,g1,c1,_⟩:=p;obtain⟨o2,g2,c2,_⟩:=hI;rw[z,g2] at g1
   cases g1
   rw[c2] at c1;exact absurd c1 (2)
  have SF:e≠a:=fun z=>by
   obtain⟨o1,g1,c1,_⟩:=p;have g2:s.heap.get? e=_:=he;rw[<-z,g2] at g1
   cases g1
   exact absurd (show aa2 "enumerate" = aa2 "tuple" from c1) (2)
  have W:=afC (prog:=X.prog) (w:=X.w) (A:=X.A) (Draws.tup (by exact hA) it a SE ai.toArray) e QM (by simp [QM,SF]) (3);have hl:=rv.length;have en:ai.toArray.size=i:=by simp;lia
  refine W.done s _ _ ?_ fun h' tk k1=>⟨rfl,I.zy (ch:=[e,it]) (t':=tk) hf fun b o hb g=>k1 b o hb g⟩
  rw[en];exact⟨⟨old,he⟩,hI,p⟩
 self:=fun _ _ _ _ _ st h=>by
  obtain⟨⟨old,he⟩,_⟩:=st;exact wpAny_pyIter_enum he h
section
variable {X:Cx}
def J0 (K:e_) (ta:TA):TI:=fun σ H R=>ta σ H fun vs H1=>∃ a,vs=[.ref a]/\(∃ xs,eV K H1 a xs)/\R (JZ K a) H1
def CI {a:Expr}{ta:TA}{p pos:Pos}{elts:List Expr}{kk:Nat}{tp:Pos} (hg:Gl X "enumerate") (hm:X.mg "enumerate" = none) (ha:PA X [a] ta) (hs:S_ [a] X.env=[(false,eval a X.env)]:=by rfl) :
  PI X (.Tuple elts kk tp) (.Call (.Name "enumerate" p) [a] [] pos) (J0 X.K ta):=by
 intro pins s σ H R I h;refine Call_ (eo I hg hm boot_enumerate (ZD (aX (ha pos pins s σ H _ I h) fun us s1 ⟨vs,H1,I1,r1,q1⟩=>?_) hs rfl));obtain⟨l,e,⟨xs,hq⟩,q⟩:=q1;subst e
 cases r1 with
 | cons r rr =>
  cases rr
  cases r
  obtain⟨ai,rv,p,hz⟩:=I1.tuple hq;refine yd p fun h' he hi hsz kp=>wpAny_pyIter_enum he ⟨s1.heap.objs.size+1,[s1.heap.objs.size+1,s1.heap.objs.size],_,_,H1,rfl,I1.kept (t':=s1.toks) kp,ye _ _ l (ab3 (abw _)),⟨⟨_,he⟩,hi⟩,fun b hb=>?_,q⟩
  rcases C_.mp hb with z | z
  ·subst z;exact I1.vi (acZ _) (I1.aW.fresh (acZ _))
  ·rw[D_.mp z];exact I1.vi (t_ _) (I1.aW.fresh (t_ _))
end
end L2
namespace SH
open PySem L2
noncomputable def fW:List Int->Int->List Nd->List Int
 | W,_,[]=>W
 | W,k,n::r=>fW (W.take n.2.toNat++[k]) (k+1) r
noncomputable def way (ns:List Nd):List Int:=fW [] 0 ns
theorem k6:∀ (a b:List Nd) (W:List Int) (k:Int),fW W k (a++b)=fW (fW W k a) (k+a.length) b
 | [],b,W,k=>by show fW W k b=fW W (k+((0:Nat):Int)) b;rw[show k+((0:Nat):Int)=k by lia]
 | n::a,b,W,k=>by
  show fW _ (k+1) (a++b)=_;rw[k6 a b];show fW (fW _ (k+1) a) (k+1+a.length) b=fW (fW _ (k+1) a) (k+(n::a).length) b;rw[x_,show k+1+(a.length:Int)=k+((a.length+1:Nat):Int) by lia]
def vU (ns:List Nd) (n:Nd):way (ns++[n])=(way ns).take n.2.toNat++[(ns.length:Int)]:=by
 unfold way;rw[k6];show (fW [] 0 ns).take n.2.toNat++[0+(ns.length:Int)]=_;rw[Zu]
def du {ns:List Nd}{i:Nat}{n:Nd} (h:ns[i]? = some n):way (ns.take (i+1))=(way (ns.take i)).take n.2.toNat++[(i:Int)]:=by
 have hi:=(i_.mp h).1;rw[aaL,h];show way (ns.take i++[n])=_;rw[vU,Zm,aax ∅]
def zA {ns:List Nd}:∀ i,i<=ns.length->∀ j∈way (ns.take i),0<=j/\j<(i:Int):=by
 intro i
 induction i with
 | zero=>intro _ j hj;rw[aat] at hj;exact nomatch hj
 | succ i ih =>
  intro hi j hj;rw[du (b_ (by lia:i<ns.length))] at hj;rcases U_.mp hj with h | h
  ·have:=ih ∅ j (ZE h);lia
  ·rw[D_.mp h];lia
def zB {ns:List Nd}:∀ i,i<=ns.length->(way (ns.take i)).length<=i:=by
 intro i
 induction i with
 | zero=>intro _;rw[aat];exact t_ _
 | succ i ih =>
  intro hi;rw[du (b_ (by lia:i<ns.length)),A_,Zm,X_];have:=ih ∅
  lia
noncomputable def oW (ns:List Nd) (k:Nat):List Int:=(way (ns.take k)).take ((ns.getD k ("",0)).2.toNat)
def tT {ns:List Nd}{k:Nat} (hk:k<=ns.length):∀ j∈oW ns k,0<=j/\j<(k:Int):=fun j hj=>zA k hk j (ZE hj)
def iQ {ns:List Nd}{k:Nat}{n:Nd} (h:ns[k]? = some n):oW ns k=(way (ns.take k)).take n.2.toNat:=by
 unfold oW;rw[B_,h];rfl
def Fy {ns:List Nd}{k:Nat} (hk:k<=ns.length):(oW ns k).length<=k:=by
 unfold oW;rw[Zm];have:=zB (ns:=ns) k hk
 lia
noncomputable def kept (ps W:List Int):List Int:=W.filter fun j=>decide (j∈ps)
def iR (ps a b:List Int):kept ps (a++b)=kept ps a++kept ps b:=adt ..
def vV (ps:List Int) (k:Int):kept ps [k]=if k∈ps then [k] else []:=by
 unfold kept;by_cases h:k∈ps<;>simp [h]
def vX {ps a b:List Int} (h:a <+: b):kept ps a <+: kept ps b:=by
 obtain⟨c,rfl⟩:=h;exact⟨kept ps c,(iR ps a c).symm⟩
noncomputable def iJ (ps W:List Int):List Int:=(Zo (W.length+1)).map fun j=>((kept ps (W.take j)).length:Int)
def A0 (ps W:List Int) (d:Nat):(iJ ps W).take (d+1)=iJ ps (W.take d):=by
 unfold iJ;rw[<-abS,List.take_range,Zm,show min (d+1) (W.length+1)=min d W.length+1 by lia];apply Zs;intro j hj;have:=Zv.mp hj;rw[List.take_take,aax ∅]
def sr (ps W:List Int) (k:Int):iJ ps (W++[k])=iJ ps W++[((kept ps W).length:Int)+if k∈ps then 1 else 0]:=by
 unfold iJ;rw[A_,X_,acp,F_];congr 1
 ·apply Zs;intro j hj;have:=Zv.mp hj;rw[List.take_append_of_le_length ∅]
 ·rw[r_,Z_,ZR (by rw[A_,X_];lia),iR,vV];by_cases h:k∈ps<;>simp [h]
def oX (ps W:List Int):(iJ ps W).length=W.length+1:=by unfold iJ;rw[a_,K_]
def A1 (ps W:List Int):(iJ ps W)[W.length]? = some ((kept ps W).length:Int):=by
 unfold iJ;rw[g_,aad ∅];show some (((kept ps (W.take W.length)).length:Nat):Int)=_;rw[aa1]
noncomputable def below (ps:List Int) (i:Nat):List Int:=ps.filter fun p=>decide (p<(i:Int))
def eD {i:Nat}:∀ {lo m:Int}{ps:List Int},placesOk lo m ps->(i:Int)<=lo->below ps i=[]:=fun {lo m ps} h hi=>by
 unfold below;rw[aac];intro p hp;have:=(ao h p hp).1;simp;lia
theorem j4 {i:Nat}:∀ {lo m:Int}{ps:List Int},placesOk lo m ps->below ps (i+1)=below ps i++(if (i:Int)∈ps then [(i:Int)] else [])
 | _,_,[],_=>rfl
 | lo,m,p::r,h=>by
  obtain⟨h1,h2,h3⟩:=h;have ih:=j4 (i:=i) h3
  have e1:∀ k:Nat,below (p::r) k=if p<(k:Int) then p::below r k else below r k:=fun k=>by
   unfold below;rw[Zz];by_cases h:p<(k:Int)<;>simp [h]
  rw[e1,e1];by_cases jN:p<(i:Int)
  ·rw[z_ jN,z_ ∅,ih]
   have:((i:Int)∈p::r)↔(i:Int)∈r:=by
    rw[C_];exact⟨fun z=>z.elim (fun z=>by lia) id,.inr⟩
   by_cases hm:(i:Int)∈r
   ·rw[z_ hm,z_ (this.mpr hm)];rfl
   ·rw[s_ hm,s_ (fun z=>hm (this.mp z))];rfl
  ·rw[s_ jN,eD h3 ∅];by_cases he:p=(i:Int)
   ·rw[z_ ∅,eD h3 ∅,z_ (by rw[he];exact W_),he];rfl
   ·rw[s_ ∅,eD h3 ∅,s_ ?_]
    ·rfl
    ·intro z;rcases C_.mp z with z | z
     ·exact he z.symm
     ·have:=(ao h3 _ z).1;lia
def su {n:Nat}{lo:Int}{ps:List Int} (h:placesOk lo n ps):below ps n=ps:=by
 unfold below;rw[abv];intro p hp;have:=(ao h p hp).2;simp;lia
theorem below_at:∀ {lo m:Int}{ps:List Int}{k:Nat}{p:Int},placesOk lo m ps->0<=lo->ps[k]? = some p->below ps p.toNat=ps.take k
 | _,_,[],k,p,_,_,hk=>by simp at hk
 | lo,m,q::r,0,p,h,h0,hk=>by
  obtain⟨h1,h2,h3⟩:=h;simp at hk;subst hk;rw[aat];unfold below;rw[aac];intro x hx;rcases C_.mp hx with z | z
  ·subst z;simp;lia
  ·have:=(ao h3 _ z).1;simp;lia
 | lo,m,q::r,k+1,p,h,h0,hk=>by
  obtain⟨h1,h2,h3⟩:=h;have LU:r[k]? = some p:=hk;have:=(ao h3 _ (y_ LU)).1;have ih:=below_at h3 ∅ LU;unfold below at ih ⊢;rw[Zz,z_ (by simp;lia),List.take_succ_cons,ih]
def A2 {lo m:Int}{ps:List Int}{i:Nat} (h:placesOk lo m ps) (h0:0<=lo) (hi:(i:Int)∈ps):ps[(below ps i).length]? = some (i:Int):=by
 obtain⟨k,hk⟩:=List.getElem?_of_mem hi;have e:=below_at h h0 hk;rw[p_] at e;have:=(i_.mp hk).1;rw[e,Zm,aax ∅];exact hk
noncomputable def dW (ns:List Nd) (ps:List Int) (p:Int):Nd:=((ns.getD p.toNat ("",0)).1,((kept ps (oW ns p.toNat)).length:Int))
noncomputable def nh (ns:List Nd) (ps:List Int):List Nd:=ps.map (dW ns ps)
theorem k7:∀ {d:Int}{ns:List Nd},d<=12->aK d ns<=12
 | _,[],h=>h
 | _,n::r,_=>k7 (ns:=r) (by show min (n.2+1) 12<=12;lia)
def tU {ns:List Nd}{i:Nat}{n:Nd} (hd:aN 0 ns) (h:ns[i]? = some n):ax n.1=true/\0<=n.2/\n.2<=12:=by
 have e:ns=ns.take i++(n::ns.drop (i+1)):=by
  have q:=aa8 (i+1) ns;rw[aaL,h,abk] at q;exact q.symm
 rw[e] at hd;obtain⟨_,h1,h2,h3,_⟩:=aS.mp hd;have:=k7 (d:=0) (ns:=ns.take i) ∅;exact⟨h1,h2,∅⟩
def prefix_eq {a b:List Int} (h:a <+: b):b.take a.length=a:=by
 obtain⟨c,rfl⟩:=h;simp
theorem CJ {ns:List Nd}{ps:List Int} (hd:aN 0 ns) (hp:placesOk 0 ns.length ps):∀ i,i<=ns.length ->
  kept ps (way (ns.take i)) <+: (way ((below ps i).map (dW ns ps))).map (fun j=>ps.getD j.toNat 0)/\aN 0 ((below ps i).map (dW ns ps))/\aK 0 ((below ps i).map (dW ns ps))=min ((way ((below ps i).map (dW ns ps))).length:Int) 12:=by
 intro i
 induction i with
 | zero =>
  intro _;rw[eD (i:=0) hp ∅,aat];exact⟨⟨[],rfl⟩,trivial,rfl⟩
 | succ i ih =>
  intro hi;obtain⟨h1,h2,h3⟩:=ih ∅;have hn:ns[i]? = some ns[i]:=b_ ∅;obtain⟨hm,d0,Vk⟩:=tU hd hn;rw[du hn,iR,vV,j4 hp];have qP:kept ps ((way (ns.take i)).take ns[i].2.toNat) <+: kept ps (way (ns.take i)):=vX (List.take_prefix ..);generalize hR:(below ps i).map (dW ns ps)=R at h1 h2 h3 ⊢;by_cases hk:(i:Int)∈ps
  ·rw[z_ hk,F_,hR];rw[r_,Z_]
   have eN:dW ns ps (i:Int)=(ns[i].1,((kept ps ((way (ns.take i)).take ns[i].2.toNat)).length:Int)):=by
    unfold dW;rw[p_,iQ hn,B_,hn];rfl
   rw[vU,eN,p_];generalize hA:kept ps ((way (ns.take i)).take ns[i].2.toNat)=A at qP ⊢
   have lA:A.length<=ns[i].2.toNat:=by
    rw[<-hA];refine R_ (abU ..) ?_;rw[Zm];lia
   have pV:A <+: (way R).map (fun j=>ps.getD j.toNat 0):=qP.trans h1;have lV:A.length<=(way R).length:=by have:=pV.length_le;rw[a_] at this;exact this
   have hl:R.length=(below ps i).length:=by rw[<-hR,a_]
   have hg:ps.getD R.length 0=(i:Int):=by rw[hl,B_,A2 hp ∅ hk];rfl
   refine⟨?_,?_,?_⟩
   ·rw[F_,abS,prefix_eq pV,r_,Z_,p_,hg];exact⟨[],(3)⟩
   ·exact aS.mpr ⟨h2,hm,∅,by rw[h3];show (A.length:Int)<=_;lia,trivial⟩
   ·rw[a9];show min ((A.length:Int)+1) 12=_;rw[A_,Zm,X_]
    lia
  ·rw[s_ hk,ZU,ZU,hR];exact⟨qP.trans h1,h2,h3⟩
def dq {ns:List Nd}{ps:List Int} (hd:aN 0 ns) (hp:placesOk 0 ns.length ps):aN 0 (nh ns ps):=by
 have h:=(CJ hd hp ns.length (t_ _)).2.1;rw[su hp] at h;exact h
def CK (ps:List Int):∀ (acc:List (Key×V)) (j:Int),(d5 ((ps.map fun q=>((abE q:Key),V.bl true)).foldl (fun a p=>putK a p.1 p.2) acc) (abE j)).isSome=(decide (j∈ps)||(d5 acc (abE j)).isSome):=by
 induction ps with
 | nil=>intro acc j;simp
 | cons p r ih =>
  intro acc j;rw[r_,abP,ih,CA];by_cases h:j=p
  ·subst h;simp
  ·have:¬ ((abE j:Key)=abE p):=fun z=>h (agP z)
   simp [this,h]
end SH
namespace L2
open PySem PySem.Spec PyProof.Rows
section
variable {X:Cx}
def Fz:List V->Hp->VK->Prop:=fun xs H Q=>∃ n:Int,xs=[.int n]/\∀ r,H r=none->Q (.ref r) (upd H r (.Aq 0 n))
def FA:List V->Hp->VK->Prop:=fun xs H Q=>∃ lo hi:Int,xs=[.int lo,.int hi]/\∀ r,H r=none->Q (.ref r) (upd H r (.Aq lo hi))
def k8:bj X (.type "range") Fz:=by
 ext j;obtain⟨n,rfl,q⟩:=h;obtain⟨u,rfl,t,rfl⟩:=vals1 r;refine call_range_1 ⟨.ref s.heap.objs.size,_,I.laid (a:=s.heap.objs.size) (o:=.Aq 0 n) (t':=s.toks+1+1) (fun b o e=>k_ _ e) (t_ _) ?_,rfl,q _ (I.aW.fresh (t_ _))⟩;exact⟨_,_,_,w_ _ rfl⟩
def tV:bj X (.type "range") FA:=by
 ext j;obtain⟨lo,hi,rfl,q⟩:=h
 cases r with
 | cons r1 rr =>
  cases rr with
  | cons r2 rr =>
   cases rr
   obtain⟨t,rfl⟩:=r1;obtain⟨t',rfl⟩:=r2;refine call_range_2 ⟨.ref s.heap.objs.size,_,I.laid (a:=s.heap.objs.size) (o:=.Aq lo hi) (fun b o e=>k_ _ e) (t_ _) ?_,rfl,q _ (I.aW.fresh (t_ _))⟩;exact⟨_,_,_,w_ _ rfl⟩
def J1:List V->Hp->VK->Prop:=fun xs H Q=>∃ (r:Addr) (lo hi:Int),xs=[.ref r]/\H r=some (.Aq lo hi)/\(-(2 ^ 62)<=lo/\lo<2 ^ 62 /\ -(2 ^ 62)<=hi/\hi<2 ^ 62)/\(hi-lo).toNat<=900/\∀ l,H l=none->Q (.ref l) (upd H l (.lst (((Zo (hi-lo).toNat).map fun i:Nat=>lo+(i:Int)).map V.int)))
theorem oY:∀ {ns:List Int}{vs:List Value},ns.length=vs.length->(∀ (i:Nat) (n:Int) (v:Value),ns[i]? = some n->vs[i]? = some v->∃ t,v=.int n t)->Vals (ns.map V.int) vs
 | [],[],_,_=>.nil
 | [],_::_,h,_=>by simp at h
 | _::_,[],h,_=>by simp at h
 | n::ns,v::vs,h,k=>by
  refine .cons ?_ (oY (by simpa using h) fun i n v h1 h2=>k (i+1) n v h1 h2);obtain⟨t,e⟩:=k 0 n v rfl rfl;exact⟨t,e⟩
def oZ (hc:X.calm=true):bj X (.type "list") J1:=by
 ext j;obtain⟨ra,lo,hi,rfl,hr,⟨h1,h2,h3,h4⟩,hsz,q⟩:=h;obtain⟨u,rfl,rx⟩:=vals1 r
 cases rx
 have hA:X.A.handled=none:=I.ok.hd hc;obtain⟨t,u,v,e⟩:=(show aQ X.prog X.w H s.heap ra (.Aq lo hi) from I.aW ra _ hr);have en:O_ lo hi 1=(((hi-lo).toNat:Nat):Int):=by rw[ae1];split<;>lia
 refine call_list_range hA (show agh s.heap ra lo hi 1 t u v from e) (small_one h1 h2 h3 h4) en ∅ fun h' tk acc c kp he AV=>?_
 obtain⟨hz,CL⟩:=AV;have z9:(1000:Nat)<=sizeLine:=by decide
 refine⟨.ref s.heap.objs.size,_,I.laid (a:=s.heap.objs.size) (o:=.lst (((Zo (hi-lo).toNat).map fun i:Nat=>lo+(i:Int)).map V.int)) (t':=tk) kp (t_ _) ⟨?_,acc.toList,c,?_,?_⟩,rfl,q _ (I.aW.fresh (t_ _))⟩
 ·rw[a_,a_,K_];lia
 ·refine oY (by rw[a_,K_];simpa using hz.symm) fun i n w e1 e2=>?_
  rw[g_] at e1;obtain⟨j,ej,rfl⟩:=o_.mp e1;have hj:=(i_.mp ej);obtain⟨Y5,Np⟩:=hj;rw[afj] at Np;subst Np;obtain⟨t',e'⟩:=CL i w (by simpa using e2);exact⟨t',by rw[e',adz]⟩
 ·simpa using he
end
end L2
namespace SH
open PySem L2
theorem d7:∀ {lo m:Int}{ps:List Int},placesOk lo m ps↔(∀ p∈ps,lo<=p/\p<m)/\ps.Pairwise (·<·)
 | _,_,[]=>⟨fun _=>⟨(fun _ h=>nomatch h),acH⟩,fun _=>trivial⟩
 | lo,m,p::r=>by
  constructor
  ·rintro⟨h1,h2,h3⟩;obtain⟨a,b⟩:=d7.mp h3;refine⟨fun q hq=>?_,acs.mpr ⟨fun q hq=>by have:=(a q hq).1;lia,b⟩⟩;rcases C_.mp hq with z | z
   ·subst z;exact⟨h1,h2⟩
   ·have:=a q z;lia
  ·rintro⟨a,b⟩;obtain⟨c,d⟩:=acs.mp b;have:=a p W_;exact⟨this.1,this.2,d7.mpr ⟨fun q hq=>⟨by have:=c q hq;lia,(a q (J_ _ hq)).2⟩,d⟩⟩
noncomputable def upTo (n:Nat):List Int:=(Zo n).map fun i:Nat=>(0:Int)+(i:Int)
def k9 (n:Nat):placesOk 0 n (upTo n):=by
 refine d7.mpr ⟨fun p h=>?_,?_⟩
 ·obtain⟨i,hi,rfl⟩:=n_.mp h;have:=Zv.mp hi
  lia
 ·refine List.pairwise_map.mpr (aec.imp fun {x y} h=>?_)
  lia
def mem_upTo {n:Nat}{p:Int} (h0:0<=p) (h1:p<n):p∈upTo n:=n_.mpr ⟨p.toNat,Zv.mpr ∅,∅⟩
def pb {α:Type} (f:Int->α) (n:Nat):(upTo n).map f=(Zo n).map fun i:Nat=>f i:=by
 unfold upTo;rw[G_];apply Zs;intro i _;show f (0+(i:Int))=f i;rw[Zu]
def range_getD {α:Type} (xs:List α) (d:α):(Zo xs.length).map (fun i=>xs.getD i d)=xs:=by
 apply adH;intro i;rw[g_];by_cases h:i<xs.length
 ·rw[aad h,b_ h];show some (xs.getD i d)=_;rw[B_,b_ h];rfl
 ·rw[ZT (by rw[K_];lia),ZT ∅];rfl
def CM {ns:List Nd} (hd:aN 0 ns):∀ i,i<=ns.length->aK 0 (ns.take i)=min ((way (ns.take i)).length:Int) 12:=by
 intro i
 induction i with
 | zero=>intro _;rw[aat];rfl
 | succ i ih =>
  intro hi;have hn:ns[i]? = some ns[i]:=b_ ∅;have h:=ih ∅;obtain⟨_,d0,Vk⟩:=tU hd hn
  have e:ns=ns.take i++(ns[i]::ns.drop (i+1)):=by
   have q:=aa8 (i+1) ns;rw[aaL,hn,abk] at q;exact q.symm
  have qK:=hd;rw[e] at qK;obtain⟨_,_,_,h3,_⟩:=aS.mp qK;rw[du hn,A_,Zm,X_];have e2:ns.take (i+1)=ns.take i++[ns[i]]:=by rw[aaL,hn];rfl
  rw[e2,a9];show min (ns[i].2+1) 12=_
  lia
def vY {ns:List Nd} (hd:aN 0 ns) {k:Nat}{n:Nd} (h:ns[k]? = some n):((oW ns k).length:Int)=n.2:=by
 have hk:=(i_.mp h).1;obtain⟨_,d0,Vk⟩:=tU hd h
 have e:ns=ns.take k++(n::ns.drop (k+1)):=by
  have q:=aa8 (k+1) ns;rw[aaL,h,abk] at q;exact q.symm
 have qK:=hd;rw[e] at qK;obtain⟨_,_,_,h3,_⟩:=aS.mp qK;have w:=CM hd k ∅;rw[iQ h,Zm]
 lia
def A3 {ns:List Nd} (hd:aN 0 ns):nh ns (upTo ns.length)=ns:=by
 unfold nh;rw[pb];refine Eq.trans ?_ (range_getD ns ("",0));apply Zs;intro i hi;have AV:=Zv.mp hi;have h:ns[i]? = some ns[i]:=b_ AV;unfold dW;rw[p_]
 have ek:kept (upTo ns.length) (oW ns i)=oW ns i:=by
  unfold kept;rw[abv];intro j hj;obtain⟨j0,j1⟩:=tT (ns:=ns) (k:=i) ∅ j hj;exact d_ (mem_upTo j0 ∅)
 rw[ek,vY hd h,B_,h];rfl
theorem FC {n:Nat}:∀ {lo m:Int}{ps:List Int},placesOk lo m ps->ps=linesOf n ps++(bh n ps).map fun j=>j+(n:Int)
 | _,_,[],_=>rfl
 | lo,m,p::r,h=>by
  obtain⟨h1,h2,h3⟩:=h
  have ec:∀ qs:List Int,(bh n qs).map (fun j=>j+(n:Int))=qs.filter fun i=>decide ((n:Int)<=i):=fun qs=>by
   unfold bh;rw[G_];have:((fun j=>j+(n:Int)) ∘ fun i=>i-(n:Int))=(id:Int->Int):=by funext x;show x-(n:Int)+n=x;lia
   rw[this,af3]
  have ih:=FC (n:=n) h3;rw[ec] at ih ⊢;unfold linesOf at ih ⊢;by_cases hp:p<(n:Int)
  ·rw[Zz,z_ (d_ hp),Zz,s_ (by simp;lia),aa0,<-ih]
  ·have e1:r.filter (fun i=>decide (i<(n:Int)))=[]:=by
    rw[aac];intro x hx;have:=(ao h3 x hx).1;simp;lia
   have e2:r.filter (fun i=>decide ((n:Int)<=i))=r:=by
    rw[abv];intro x hx;have:=(ao h3 x hx).1;simp;lia
   rw[Zz,s_ (by simp;lia),Zz,z_ (d_ ∅),e1,e2];rfl
def vZ (n w:Nat):upTo (n+w)=upTo n++(upTo w).map fun j=>j+(n:Int):=by
 unfold upTo;rw[List.range_add,F_,G_,G_];congr 1;apply Zs;intro i _;show (0:Int)+((n+i:Nat):Int)=0+(i:Int)+(n:Int)
 lia
def yf (n w:Nat):linesOf n (upTo (n+w))=upTo n:=by
 unfold linesOf;rw[vZ,adt]
 have e1:(upTo n).filter (fun i=>decide (i<(n:Int)))=upTo n:=by
  rw[abv];intro x hx;exact d_ (ao (k9 n) x hx).2
 have e2:((upTo w).map fun j=>j+(n:Int)).filter (fun i=>decide (i<(n:Int)))=[]:=by
  rw[aac];intro x hx;obtain⟨j,hj,rfl⟩:=n_.mp hx;have:=(ao (k9 w) j hj).1;simp;lia
 rw[e1,e2,ZU]
def A4 (n w:Nat):bh n (upTo (n+w))=upTo w:=by
 unfold bh;rw[vZ,adt]
 have e1:(upTo n).filter (fun i=>decide ((n:Int)<=i))=[]:=by
  rw[aac];intro x hx;have:=(ao (k9 n) x hx).2;simp;lia
 have e2:((upTo w).map fun j=>j+(n:Int)).filter (fun i=>decide ((n:Int)<=i))=(upTo w).map fun j=>j+(n:Int):=by
  rw[abv];intro x hx;obtain⟨j,hj,rfl⟩:=n_.mp hx;have:=(ao (k9 w) j hj).1;simp;lia
 rw[e1,e2,af8,G_];have:((fun i=>i-(n:Int)) ∘ fun j=>j+(n:Int))=(id:Int->Int):=by funext x;show x+(n:Int)-n=x;lia
 rw[this,af3]
end SH
namespace L2
open PySem PySem.Spec PyProof.Rows
theorem sv {x:V}:∀ {xs:List V}{us:List Value},Vals xs us->xs.all eW=true->us.countP (vq x)=xs.countP fun y=>AK y x
 | _,_,.nil,_=>rfl
 | y::xs,u::us,.cons r t,f=>by
  rw[ZX,v_] at f;rw[afT,afT,x6 r f.1,sv t f.2]
section
variable {X:Cx}
def zC (K:e_):V->List V->Hp->VK->Prop:=fun x vs H Q=>∃ t xs y,x=.ref t/\vs=[y]/\eV K H t xs/\eW y=true/\xs.all eW=true/\Q (.int ((xs.countP fun z=>AK z y:Nat):Int)) H
def A5:RZ X "tuple.count" (zC X.K):=by
 intro pins s σ H x vs v us Q I rx rv h;obtain⟨t,xs,y,rfl,rfl,hq,fy,fs,q⟩:=h
 cases rx
 obtain⟨u,rfl,ru⟩:=rv.one;obtain⟨ai,r,p,hz⟩:=I.tuple hq;obtain⟨⟨oc,od,W8,AI⟩,ho,hc,n,hd⟩:=p
 replace hc:oc=.type "tuple" := hc
 replace hd:W8=.seq ai.toArray n:=hd
 subst hc hd;refine afe aev ⟨_,ho,rfl⟩ F.entry_tuple_count (F.args_tuple_count_2 _ _) (SeqAt.tuple_countAt t ai.toArray n od AI u (vq y)) ⟨ho,fun w hw=>fU ru fy r fs w (by simpa using hw),?_⟩;refine⟨.int _,H,I.tok _,⟨_,rfl⟩,?_⟩;rw[show ai.toArray.toList=ai by simp,sv r fs];exact q
end
def yg (H:Hp) (t:Addr) (xs:List V):Prop:=∃ o:Obj,H t=some (.eT o (.tup xs))/\o.cls=.type "tuple" /\ o.dict=none
def yg.sq {K:e_}{H:Hp}{t:Addr}{xs:List V} (h:yg H t xs):eV K H t xs:=let ⟨o,e,_⟩:=h;.inl (.inr ⟨o,e⟩)
section
variable {X:Cx}
def Nq (K:e_):List V->Hp->VK->Prop:=fun xs H Q=>∃ p ys,xs=[.ref p]/\cE K H p ys/\∀ l (o:Obj),H l=none->o.cls=.type "tuple" ->o.dict=none->Q (.ref l) (upd H l (.eT o (.tup ys)))
def A6:bj X (.type "tuple") (Nq X.K):=by
 ext j;obtain⟨p,ys,rfl,hq,q⟩:=h;obtain⟨u,rfl,rx⟩:=vals1 r
 cases rx
 obtain⟨ai,r',pl,hz⟩:=I.list hq;have hlen:=r'.length;refine call_tuple_list pl.isList (fun h' kp=>?_) (by simp only[H_]<;>lia);have I1:Inv X pins σ H { s with heap:=h' }:=I.kept (t':=s.toks) kp
 have I2:Inv X pins σ (upd H h'.objs.size (.eT { cls:=.type "tuple",data:=.seq ai.toArray } (.tup ys))) { s with heap:=h'.push { cls:=.type "tuple",data:=.seq ai.toArray } } :=
  I1.laid (t':=s.toks) (fun b o e=>k_ _ e) (t_ _) ⟨w_ _ rfl,hz,ai,r',agH _ _⟩
 exact⟨.ref h'.objs.size,_,I2,rfl,q _ _ (I1.aW.fresh (t_ _)) rfl rfl⟩
def FD (K:e_) (to:TE) (t:TA):TE:=fun σ H Q=>to σ H fun x H1=>∃ p zs,x=.ref p/\yg H1 p zs/\t σ H1 fun xs H2=>zC K x xs H2 Q
def A7 {o e:Expr}{to:TE}{t:TA}{apos bK:Pos} (ho:PE X o to) (ha:PA X [e] t)
  (oO:abp o "count" X.env (eval o X.env)=eval o X.env:=by rfl)
  (JD:((aaV bK (S_ [e] X.env)).all (fun x => !x.1)&&(adp bK (ab1 [] X.env)).all (fun x=>x.1.isSome)
   && decide (([e]:List Expr).length+([]:List acW).length+(if ([]:List acW).isEmpty then 0 else 1)<30))=true:=by rfl)
  (bQ:(apos.endLine==bK.line)=true:=by rfl) (hs:S_ [e] X.env=(false,eval e X.env)::S_ [] X.env:=by rfl) (x8:(aaV bK (S_ [] X.env)).any (·.1)=false:=by rfl) :
  PE X (.Call (.Attribute o "count" apos) [e] [] bK) (FD X.K to t):=by
 ext d;refine ad_ oO JD bQ rfl (aX (ho pins s σ H _ I h) fun v s1 ⟨x,H1,I1,r1,p,zs,ex,⟨ob,hf,hc,hd⟩,q1⟩=>?_);subst ex
 cases r1
 obtain⟨e1,_⟩:=(show aQ X.prog X.w H1 s1.heap p (.eT ob (.tup zs)) from I1.aW p _ hf);refine⟨"tuple","tuple.count",PySem.F.plainAttrs_tuple,aev,PySem.F.type_tuple_count,⟨ob,e1,hc⟩,fun a z=>by cases z;exact⟨ob,e1,hd⟩,?_⟩;have hA:=ha bK pins s1 σ H1 _ I1 q1;rw[hs] at hA ⊢;refine aea (by show (false||(aaV bK (S_ [] X.env)).any (·.1))=false;rw[x8]<;>rfl) (aeF ?_);exact aX hA fun us s2 ⟨vs,H2,I2,r2,q2⟩=>A5 pins s2 σ H2 (.ref p) vs _ us Q I2 rfl r2 q2
end
def CN {X:Cx}{i j:Nat}{x y:Str}{p1 p2 pos:Pos}{kk:Nat} (hc:X.calm=true) (hN:X.N.Nodup) (hi:X.N[i]? = some x) (hj:X.N[j]? = some y) (hx:Loc X.env.scope x) (hy:Loc X.env.scope y)
  (W9 : X.fn x = true ∨ X.env.scope.names.lookup x = some .local := by first | exact .inl rfl | exact .inr rfl | assumption) (Xa : X.fn y = true ∨ X.env.scope.names.lookup y = some .local := by first | exact .inl rfl | exact .inr rfl | assumption) :
  PG X (.Tuple [.Name x p1,.Name y p2] kk pos) (BZ X.K 2 (kR (er i) (kR (er j) BY))):=IT hc (vh (nX hN hi hx W9) (vh (nX hN hj hy Xa) EW))
end L2
namespace SH
open PySem L2
theorem _root_.L2.yg.same {H H':Hp}{t:Addr}{xs:List V} (s:ag H H') (h:yg H t xs):yg H' t xs:=let ⟨o,e,r⟩:=h;⟨o,s _ _ e,r⟩
end SH
namespace PySem
open Sem (wp)
structure lb (z TI TO i1 i2:Addr) (f1 f2:List Addr):Prop where
 zt:TO≠z
 kz:TI≠z
 kt:TI≠TO
 k1:TI≠i1
 k2:TI≠i2
 z1:z∉f1
 z2:z∉f2
 t1:TO∉f1
 t2:TO∉f2
 m1:i1∈f1
 m2:i2∈f2
 o1:i1∉f2
 o2:i2∉f1
section
variable {prog:N_}{w:World}{A:ZN}{E:Value->j_->Prop}{s:j_}{z TI TO i1 i2:Addr}{f1 f2:List Addr}{n1 n2:Nat}{P1 P2:Nat->Value->Prop}{S1 S2:Nat->Heap->Prop}
def aq {b:Addr}{h h':Heap} (e:aaT b h h') {c:Addr}{o:Obj} (hc:c≠b) (g:h.get? c=some o):h'.get? c=some o:=e.extBut _ _ hc g
def Draws.eU {it:Addr}{fp:List Addr}{n i:Nat}{P:Nat->Value->Prop}{St:Nat->Heap->Prop}{h h':Heap}{b:Addr} (D:Draws prog w A it fp n P St) (st:St i h) (hb:b∉fp) (e:aaT b h h'):St i h' :=
 D.frame i h h' st fun c hc o g=>aq e (fun q=>hb (q▸hc)) g
def A8 {i:Nat}{a b:Value}{Q:Value->j_->Prop} (W:lb z TI TO i1 i2 f1 f2) (D1:Draws prog w A i1 f1 n1 P1 S1) (D2:Draws prog w A i2 f2 n2 P2 S2) (l1:i<n1) (l2:i<n2)
  (hz:IsZip s.heap z TI TO .none) (hI:abt s.heap TI (.ref i1) (.ref i2)) (hO:abt s.heap TO a b) (Hd:S1 i s.heap) (xI:S2 i s.heap)
  (q:∀ h' tk x y,P1 i x->P2 i y->IsZip h' z TI TO (aaD s.heap.objs.size)->abt h' TO x y->S1 (i+1) h'->S2 (i+1) h'->abt h' s.heap.objs.size x y->(∀ c o,c≠z->c≠TO->c≠i1->c≠i2->s.heap.get? c=some o->h'.get? c=some o)->Q (.ref s.heap.objs.size) { s with heap:=h',toks:=tk }) :
  wpAny '3' A (aco.«zip.__next__» ⟨[.ref z],[]⟩) (fun fin s'=>∃ v,fin=.done (.ret v)/\Q v s') E s:=by
 refine c_ (m:=field (.ref z) 2) (ZY hz rfl (x:=.bool false) rfl (c_ (m:=field (.ref z) 3) (ZY hz rfl (x:=.ref TI) rfl (c_ (aas hI rfl ?_)))));refine c_ (m:=ack (.ref z)) (c_ (ZY hz rfl (x:=.none) rfl (q_ ?_)));simp only[ab7];refine c_ (wpAny_rule (c_ (ZY hz rfl (x:=.ref TO) rfl (c_ (aa4 hz (3) fun g1 He e1=>c_ ?_)))))
 replace He:IsZip g1 z TI TO .ellipsis:=He
 simp only[abB,af9,aek,adq];refine c_ (c_ (adO (c_ (m:=ZP (.ref i1)) (D1.item i _ _ _ l1 (D1.eU Hd W.z1 e1) fun x g2 Ha hx Nr e2=>q_ ?_))));have ne1:i1≠z:=fun q=>W.z1 (q▸W.m1)
 have ne2:i2≠z:=fun q=>W.z2 (q▸W.m2)
 have SG:TO≠i1:=fun q=>W.t1 (q▸W.m1)
 have Xb:TO≠i2:=fun q=>W.t2 (q▸W.m2)
 have Nt:abt g2 TO a b:=aq e2 SG (aq e1 W.zt hO);refine c_ (aas (s:={ s with heap:=g2,toks:=Ha }) Nt rfl (c_ (ac0 (s:={ s with heap:=g2,toks:=Ha }) Nt fun g3 QN e3=>c_ (af4 (q_ ?_)))))
 replace QN:abt g3 TO x b:=QN
 refine c_ (c_ (adO (c_ (m:=ZP (.ref i2)) (D2.item i _ _ _ l2 (D2.eU (D2.eU (D2.eU xI W.z2 e1) W.o1 e2) W.t2 e3) fun y g4 Nu hy SI e4=>q_ ?_))));have Vl:abt g4 TO x b:=aq e4 Xb QN;refine c_ (aas (s:={ s with heap:=g4,toks:=Nu }) Vl rfl (c_ (ac0 (s:={ s with heap:=g4,toks:=Nu }) Vl fun g5 QO e5=>c_ (af4 (q_ (q_ ?_))))))
 replace QO:abt g5 TO x y:=QO
 have sz:g5.objs.size=s.heap.objs.size:=by rw[e5.1,e4.1,e3.1,e2.1,e1.1]
 have Vm:IsZip g5 z TI TO .ellipsis:=aq e5 (ZM W.zt) (aq e4 (ZM ne2) (aq e3 (ZM W.zt) (aq e2 (ZM ne1) He)));have Xc:S1 (i+1) g5:=D1.eU (D1.eU (D1.eU Nr W.t1 e3) W.o2 e4) W.t1 e5;have Xd:S2 (i+1) g5:=D2.eU SI W.t2 e5;have k5:∀ c o,c≠z->c≠TO->c≠i1->c≠i2->s.heap.get? c=some o->g5.get? c=some o:=fun c o c1 c2 c3 c4 g=>aq e5 c2 (aq e4 c4 (aq e3 c2 (aq e2 c3 (aq e1 c1 g))))
 refine c_ (aas (s:={ s with heap:=g5,toks:=Nu }) QO rfl (c_ (wpAny_newTuple ?_)));refine c_ (m:=aeX (.ref z) (.ref g5.objs.size)) ?_;have Vn:z<g5.objs.size:=E_ Vm;refine c_ (aa4 (s:={ s with heap:=g5.push { cls:=.type "tuple",data:=.seq #[x,y] },toks:=Nu }) (k_ _ Vm) (3) fun g7 SJ e7=>?_)
 replace SJ:IsZip g7 z TI TO (aaD g5.objs.size):=SJ
 refine aa4 SJ (3) fun g8 QP e8=>?_
 replace QP:IsZip g8 z TI TO (aaD g5.objs.size):=QP
 have up:∀ c o,c≠z->g5.get? c=some o->g8.get? c=some o:=fun c o c1 g=>aq e8 c1 (aq e7 c1 (k_ _ g))
 have hT:abt g8 g5.objs.size x y:=aq e8 (ab3 Vn) (aq e7 (ab3 Vn) (w_ _ rfl));rw[sz] at QP hT;refine q_ ⟨_,rfl,?_⟩;rw[sz];exact q g8 Nu x y hx hy QP (up _ _ W.zt QO) (D1.frame _ _ _ Xc fun c hc o g=>up c o (fun q=>W.z1 (q▸hc)) g) (D2.frame _ _ _ Xd fun c hc o g=>up c o (fun q=>W.z2 (q▸hc)) g) hT fun c o c1 c2 c3 c4 g=>up c o c1 (k5 c o c1 c2 c3 c4 g)
def CO {i:Nat}{a b:Value}{Q:Fin->j_->Prop} (W:lb z TI TO i1 i2 f1 f2) (D1:Draws prog w A i1 f1 n1 P1 S1) (D2:Draws prog w A i2 f2 n2 P2 S2) (he:i=n1∨(i<n1/\i=n2))
  (hz:IsZip s.heap z TI TO .none) (hI:abt s.heap TI (.ref i1) (.ref i2)) (hO:abt s.heap TO a b) (Hd:S1 i s.heap) (xI:S2 i s.heap)
  (q:∀ h' tk e,(∀ c o,c≠z->c≠TO->c≠i1->c≠i2->s.heap.get? c=some o->h'.get? c=some o)->(∃ o,h'.get? e=some o/\o.cls=.type "StopIteration")->E (.ref e) { s with heap:=h',toks:=tk }) :
  wpAny '3' A (aco.«zip.__next__» ⟨[.ref z],[]⟩) Q E s:=by
 have ne1:i1≠z:=fun q=>W.z1 (q▸W.m1)
 have ne2:i2≠z:=fun q=>W.z2 (q▸W.m2)
 have SG:TO≠i1:=fun q=>W.t1 (q▸W.m1)
 refine c_ (m:=field (.ref z) 2) (ZY hz rfl (x:=.bool false) rfl (c_ (m:=field (.ref z) 3) (ZY hz rfl (x:=.ref TI) rfl (c_ (aas hI rfl ?_)))));refine c_ (m:=ack (.ref z)) (c_ (ZY hz rfl (x:=.none) rfl (q_ ?_)));simp only[ab7];refine c_ (wpAny_rule (c_ (ZY hz rfl (x:=.ref TO) rfl (c_ (aa4 hz (3) fun g1 He e1=>c_ ?_)))))
 replace He:IsZip g1 z TI TO .ellipsis:=He
 simp only[abB,af9,aek,adq]
 have away:∀ {g:Heap}{e:Addr},IsZip g z TI TO .ellipsis->(∃ o,g.get? e=some o/\o.cls=.type "StopIteration")->e≠z:=fun hg ⟨o,ho,hc⟩ x=>by
  subst x;rw[hg] at ho
  cases ho
  simp at hc
 refine c_ (c_ (adO ?_));refine c_ (m:=ZP (.ref i1)) ?_;rcases he with rfl | ⟨lt,rfl⟩
 ·refine D1.done _ _ _ (D1.eU Hd W.z1 e1) fun g2 e x2 hs=>?_
  have SK:IsZip g2 z TI TO .ellipsis:=x2 _ _ (ZM ne1) He;have SM:=away SK hs;obtain⟨o,ho,hc⟩:=hs;exact aa4 SK (3) fun g3 _ e3=>q g3 s.toks e (fun c o c1 _ c3 _ g=>aq e3 c1 (x2 _ _ c3 (aq e1 c1 g))) ⟨o,aq e3 SM ho,hc⟩
 ·refine D1.item i _ _ _ lt (D1.eU Hd W.z1 e1) fun x g2 Ha hx Nr e2=>q_ ?_
  have Nt:abt g2 TO a b:=aq e2 SG (aq e1 W.zt hO);refine c_ (aas (s:={ s with heap:=g2,toks:=Ha }) Nt rfl (c_ (ac0 (s:={ s with heap:=g2,toks:=Ha }) Nt fun g3 QN e3=>c_ (af4 (q_ ?_)))));refine c_ (c_ (adO ?_));refine c_ (m:=ZP (.ref i2)) ?_;refine D2.done _ _ _ (D2.eU (D2.eU (D2.eU xI W.z2 e1) W.o1 e2) W.t2 e3) fun g4 e x4 hs=>?_
  have Vo:IsZip g4 z TI TO .ellipsis:=x4 _ _ (ZM ne2) (aq e3 (ZM W.zt) (aq e2 (ZM ne1) He));have SM:=away Vo hs;obtain⟨o,ho,hc⟩:=hs;exact aa4 Vo (3) fun g5 _ e5=>q g5 Ha e (fun c o c1 c2 c3 c4 g=>aq e5 c1 (x4 _ _ c4 (aq e3 c2 (aq e2 c3 (aq e1 c1 g))))) ⟨o,aq e5 SM ho,hc⟩
def yh {i:Nat}{a b:Value}{Q:m_ Value->j_->Prop} (W:lb z TI TO i1 i2 f1 f2) (D1:Draws prog w A.in1 i1 f1 n1 P1 S1) (D2:Draws prog w A.in1 i2 f2 n2 P2 S2) (l1:i<n1) (l2:i<n2)
  (hz:IsZip s.heap z TI TO .none) (hI:abt s.heap TI (.ref i1) (.ref i2)) (hO:abt s.heap TO a b) (Hd:S1 i s.heap) (xI:S2 i s.heap)
  (q:∀ h' tk x y,P1 i x->P2 i y->IsZip h' z TI TO (aaD s.heap.objs.size)->abt h' TO x y->S1 (i+1) h'->S2 (i+1) h'->abt h' s.heap.objs.size x y->(∀ c o,c≠z->c≠TO->c≠i1->c≠i2->s.heap.get? c=some o->h'.get? c=some o)->Q (some (.ref s.heap.objs.size)) { s with heap:=h',toks:=tk }) :
  wpAny '3' A (aez (.ref z)) Q E s:=by
 have hT:s.TypeIs (.ref z) "zip" := ⟨_,hz,rfl⟩;unfold aez;exact c_ (wpAny_attempt (aam (name:=aah "__next__") hT ac5 (aaB ac5 hT F.entry_zip_next (A8 W D1 D2 l1 l2 hz hI hO Hd xI fun h' tk x y a1 a2 a3 a4 a5 a6 a7 a8=>q_ (q h' tk x y a1 a2 a3 a4 a5 a6 a7 a8)) (afE _))))
def A9 {i:Nat}{a b:Value}{Q:m_ Value->j_->Prop} (W:lb z TI TO i1 i2 f1 f2) (D1:Draws prog w A.in1 i1 f1 n1 P1 S1) (D2:Draws prog w A.in1 i2 f2 n2 P2 S2) (he:i=n1∨(i<n1/\i=n2))
  (hz:IsZip s.heap z TI TO .none) (hI:abt s.heap TI (.ref i1) (.ref i2)) (hO:abt s.heap TO a b) (Hd:S1 i s.heap) (xI:S2 i s.heap)
  (q:∀ h' tk,(∀ c o,c≠z->c≠TO->c≠i1->c≠i2->s.heap.get? c=some o->h'.get? c=some o)->Q none { s with heap:=h',toks:=tk }):wpAny '3' A (aez (.ref z)) Q E s:=by
 have hT:s.TypeIs (.ref z) "zip" := ⟨_,hz,rfl⟩;unfold aez;refine c_ (wpAny_attempt (aam (name:=aah "__next__") hT ac5 (aaB ac5 hT F.entry_zip_next (CO W D1 D2 he hz hI hO Hd xI fun h' tk e hk hs=>?_) (afE _))));obtain⟨o,ho,hc⟩:=hs;exact c_ (wpAny_isInstance (T := "StopIteration") (b:=true) ⟨o,ho,hc⟩ isSubtype_stop (q_ (q _ _ hk)))
noncomputable def LV (l:Addr):Obj:={ cls:=.type "tuple_iterator",data:=.fields #[.ref l,.int 0 0] }
def yi (l1 l2:Addr) (xs ys:Array Value) :
  Meets (aco.«zip.__new__» ⟨[.type "zip",.ref l1,.ref l2],[]⟩) (fun _ R s=>s.heap.IsTuple l1 xs/\s.heap.IsTuple l2 ys /\
   ∀ g1 g2 g3 g4 g5:Heap,g1=s.heap.push (LV l1)->g2=g1.push (LV l2)->g3=g2.push { cls:=.type "tuple",data:=.seq #[.ref s.heap.objs.size,.ref g1.objs.size] }->g4=g3.push { cls:=.type "tuple",data:=.seq #[.none,.none] } ->
    g5=g4.push { cls:=.type "zip",data:=.fields #[.none,.bool false,.bool false,.ref g2.objs.size,.ref g3.objs.size] }->R (.ok (.ret (.ref g4.objs.size))) { s with heap:=g5 }) :=
 .of_wp fun prog w A R s h=>by
  obtain⟨hp,g,d,tk,os⟩:=s;obtain⟨h1,h2,h⟩:=h;have SD:=sub_zip;have hA:afB (af2 ⟨hp,g,d,tk,os⟩) l1 xs:=h1;have hB:afB (af2 ⟨hp.push (LV l1),g,d,tk,os⟩) l2 ys:=Heap.IsTuple.push h2 _;unfold LV at hB
  wp_walk using abI hA,abI hB
  exact⟨_,rfl,h _ _ _ _ _ rfl rfl rfl rfl rfl⟩
def Ba {l1 l2:Addr}{xs ys:Array Value}{Q:Value->j_->Prop} (h1:s.heap.IsTuple l1 xs) (h2:s.heap.IsTuple l2 ys)
  (q:∀ h',IsZip h' (s.heap.objs.size+4) (s.heap.objs.size+2) (s.heap.objs.size+3) .none->abt h' (s.heap.objs.size+2) (.ref s.heap.objs.size) (.ref '7')->abt h' (s.heap.objs.size+3) .none .none ->
   h'.IsTupleIter s.heap.objs.size l1 0->h'.IsTupleIter '7' l2 0->(∀ c o,s.heap.get? c=some o->h'.get? c=some o)->Q (.ref (s.heap.objs.size+4)) { s with heap:=h' }) :
  wpAny '3' A (call (.type "zip") [.ref l1,.ref l2]) Q E s:=by
 refine callType_new F.called_zip (2) (F.typeCall_zip_2 _ _) (F.newCall_zip_2 _ _) (fun obj=>F.args_object_init_3 obj _ _) F.entry_zip_new (yi l1 l2 xs ys) ⟨h1,h2,?_⟩;intro g1 g2 g3 g4 g5 e1 e2 e3 e4 e5;have n1:g1.objs.size=s.heap.objs.size+1:=by rw[e1];exact Z0 ..
 have n2:g2.objs.size=s.heap.objs.size+2:=by rw[e2,Z0,n1]
 have n3:g3.objs.size=s.heap.objs.size+3:=by rw[e3,Z0,n2]
 have n4:g4.objs.size=s.heap.objs.size+4:=by rw[e4,Z0,n3]
 have u1:∀ c o,s.heap.get? c=some o->g1.get? c=some o:=fun c o e=>by rw[e1];exact k_ _ e
 have u2:∀ c o,g1.get? c=some o->g2.get? c=some o:=fun c o e=>by rw[e2];exact k_ _ e
 have u3:∀ c o,g2.get? c=some o->g3.get? c=some o:=fun c o e=>by rw[e3];exact k_ _ e
 have u4:∀ c o,g3.get? c=some o->g4.get? c=some o:=fun c o e=>by rw[e4];exact k_ _ e
 have u5:∀ c o,g4.get? c=some o->g5.get? c=some o:=fun c o e=>by rw[e5];exact k_ _ e
 have a1:g1.get? s.heap.objs.size=some (LV l1):=by rw[e1];exact w_ _ rfl
 have a2:g2.get? g1.objs.size=some (LV l2):=by rw[e2];exact w_ _ rfl
 have a3:g3.get? g2.objs.size=some { cls:=.type "tuple",data:=.seq #[.ref s.heap.objs.size,.ref g1.objs.size] }:=by rw[e3];exact w_ _ rfl
 have a4:g4.get? g3.objs.size=some { cls:=.type "tuple",data:=.seq #[.none,.none] }:=by rw[e4];exact w_ _ rfl
 have a5:g5.get? g4.objs.size=some { cls:=.type "zip",data:=.fields #[.none,.bool false,.bool false,.ref g2.objs.size,.ref g3.objs.size] }:=by rw[e5];exact w_ _ rfl
 rw[n1] at a2 a3;rw[n2] at a3 a5;rw[n3] at a4 a5;rw[n4] at a5;show _/\_;rw[n4];exact⟨⟨_,a5,rfl⟩,q g5 a5 (u5 _ _ (u4 _ _ a3)) (u5 _ _ a4) ⟨_,u5 _ _ (u4 _ _ (u3 _ _ (u2 _ _ a1))),rfl,rfl⟩ ⟨_,u5 _ _ (u4 _ _ (u3 _ _ a2)),rfl,rfl⟩ fun c o e=>u5 _ _ (u4 _ _ (u3 _ _ (u2 _ _ (u1 _ _ e))))⟩
end
end PySem
namespace L2
open PySem PySem.Spec PyProof.Rows
noncomputable def J2 (a b:Addr):It :=
 ⟨fun i H=>∃ xs ys x y,Rd H a (.tup xs)/\Rd H b (.tup ys)/\xs[i]? = some x/\ys[i]? = some y,fun i H v H'=>∃ T x y,H T=none/\v=.ref T/\(∀ xs,Rd H a (.tup xs)->xs[i]? = some x)/\(∀ ys,Rd H b (.tup ys)->ys[i]? = some y)/\H'=upd H T (.tup [x,y]),
  fun i H=>∃ xs ys,Rd H a (.tup xs)/\Rd H b (.tup ys)/\i=min xs.length ys.length⟩
def Rd.one {H:Hp}{a:Addr}{xs ys:List V} (h1:Rd H a (.tup xs)) (h2:Rd H a (.tup ys)):xs=ys:=by
 rcases h1 with h1 | ⟨o,h1⟩<;>rcases h2 with h2 | ⟨o',h2⟩<;>(rw[h1] at h2;cases h2<;>rfl)
def Rd.ne {H:Hp}{a b:Addr}{u:HO} (h:Rd H a u) (n:H b=none):a≠b:=fun e=>by
 rcases h with h | ⟨o,h⟩<;>(rw[e,n] at h;cases h)
structure mr (z TI TO i1 i2:Addr):Prop where
 tz:TO≠z
 kz:TI≠z
 kt:TI≠TO
 k1:TI≠i1
 k2:TI≠i2
 z1:i1≠z
 z2:i2≠z
 t1:TO≠i1
 t2:TO≠i2
 ii:i1≠i2
def mr.of (n:Nat):mr (n+4) (n+2) (n+3) n (n+1):=by constructor<;>(intro e;have e':(_:Nat)=_:=e;lia)
def mr.away {z TI TO i1 i2 a b:Addr} (d:mr z TI TO i1 i2) (ha:∀ c∈[z,TI,TO,i1,i2],a≠c) (hb:∀ c∈[z,TI,TO,i1,i2],b≠c):lb z TI TO i1 i2 [i1,a] [i2,b] where
 zt:=d.tz
 kz:=d.kz
 kt:=d.kt
 k1:=d.k1
 k2:=d.k2
 z1:=by simp [ZM d.z1,ZM (ha z (3))]
 z2:=by simp [ZM d.z2,ZM (hb z (3))]
 t1:=by simp [d.t1,ZM (ha TO (3))]
 t2:=by simp [d.t2,ZM (hb TO (3))]
 m1:=by simp
 m2:=by simp
 o1:=by simp [d.ii,ZM (hb i1 (3))]
 o2:=by simp [ZM d.ii,ZM (ha i2 (3))]
def Bb {P:N_}{w:World}{K:e_}{elts:List Expr}{kk:Nat}{tp:Pos}{z TI TO i1 i2:Addr} (a b:Addr) (d:mr z TI TO i1 i2):Turn P w K (.Tuple elts kk tp) (J2 a b) [z,TI,TO,i1,i2] z (fun i h=>IsZip h z TI TO .none/\abt h TI (.ref i1) (.ref i2)/\(∃ x y,abt h TO x y)/\h.IsTupleIter i1 a i/\h.IsTupleIter i2 b i) where
 mem:=by simp
 obj:=fun i h st c hc=>by
  obtain⟨hz,hI,⟨x,y,hO⟩,⟨o1,g1,c1,d1⟩,⟨o2,g2,c2,d2⟩⟩:=st;simp only[C_,ZW,ab2] at hc;rcases hc with rfl | rfl | rfl | rfl | rfl
  ·exact⟨_,hz,fun v q=>by have q':aeA _=adS v:=q;cases q'⟩
  ·exact⟨_,hI,fun v q=>by have q':agr _ _=adS v:=q;cases q'⟩
  ·exact⟨_,hO,fun v q=>by have q':agr _ _=adS v:=q;cases q'⟩
  ·exact⟨o1,g1,fun v q=>by rw[d1] at q;cases q⟩
  ·exact⟨o2,g2,fun v q=>by rw[d2] at q;cases q⟩
 keep:=fun i h h' st k=>by
  obtain⟨hz,hI,⟨x,y,hO⟩,h1,h2⟩:=st;exact⟨k z (3) _ hz,k TI (3) _ hI,⟨x,y,k TO (3) _ hO⟩,h1.at fun o e=>k i1 (3) o e,h2.at fun o e=>k i2 (3) o e⟩
 item:=by
  ext e;subst hP hw hK;obtain⟨xs,ys,x,y,ha,hb,hx,hy⟩:=hg;obtain⟨ai,rv,p,_⟩:=I.tuple (.inl ha);obtain⟨kY,QQ,p2,_⟩:=I.tuple (.inl hb);obtain⟨u,hu,ru⟩:=rv.get hx;obtain⟨v,hv,Sw⟩:=QQ.get hy;have hA:X.A.handled=none:=I.ok.hd hc;obtain⟨hz,hI,⟨x0,y0,hO⟩,h1,h2⟩:=id st;have na:∀ c∈[z,TI,TO,i1,i2],a≠c:=fun c hc=>ha.ne (hf c hc).1
  have nb:∀ c∈[z,TI,TO,i1,i2],b≠c:=fun c hc=>hb.ne (hf c hc).1
  have li:i<ai.toArray.size:=by have:=(i_.mp hu).1;simpa using this
  have Xe:i<kY.toArray.size:=by have:=(i_.mp hv).1;simpa using this
  refine yh (d.away na nb) (Draws.tup (by exact hA) i1 a (na i1 (3)) ai.toArray) (Draws.tup (by exact hA) i2 b (nb i2 (3)) kY.toArray) li Xe hz hI hO ⟨h1,p⟩ ⟨h2,p2⟩ fun h' tk u' v' Vp B9 a3 a4 a5 a6 a7 a8=>?_
  have eu:u'=u:=by
   have q:ai.toArray[i]? = some u:=by simpa using hu
   rw[q] at Vp;exact (M_ Vp).symm
  have ev:v'=v:=by
   have q:kY.toArray[i]? = some v:=by simpa using hv
   rw[q] at B9;exact (M_ B9).symm
  subst eu ev;refine⟨_,rfl,wpAny_letOwnedTupleGo_zip (s:={ s with heap:=h',toks:=tk }) a3 fun g FE e'=>?_⟩
  have kp:∀ c o,c∉[z,TI,TO,i1,i2]->s.heap.get? c=some o->g.get? c=some o:=fun c o hc q=>by
   simp only[C_,ZW,ab2,not_or] at hc;exact aq e' hc.1 (a8 c o hc.1 hc.2.2.1 hc.2.2.2.1 hc.2.2.2.2 q)
  have nT:∀ c∈[z,TI,TO,i1,i2],c≠s.heap.objs.size:=fun c hc=>by
   have:∃ o,s.heap.get? c=some o:=by
    simp only[C_,ZW,ab2] at hc;rcases hc with rfl | rfl | rfl | rfl | rfl
    ·exact⟨_,hz⟩
    ·exact⟨_,hI⟩
    ·exact⟨_,hO⟩
    ·obtain⟨o,q,_⟩:=h1;exact⟨o,q⟩
    ·obtain⟨o,q,_⟩:=h2;exact⟨o,q⟩
   obtain⟨o,q⟩:=this;exact Q_ (E_ q)
  have new:aQ X.prog X.w (upd H s.heap.objs.size (.tup [x,y])) g s.heap.objs.size (.tup [x,y]) :=
   ⟨by show 2<=sizeLine;decide,[u',v'],.cons ru (.cons Sw .nil),_,aq e' (ZM (nT z (3))) a7,rfl,_,rfl⟩
  refine⟨.ref s.heap.objs.size,_,I.oV (ch:=[z,TI,TO,i1,i2]) (t':=tk) hf kp (t_ _) new,rfl,⟨s.heap.objs.size,x,y,I.aW.fresh (t_ _),rfl,fun vb h=>by rw[<-ha.one h];exact hx,fun Y6 h=>by rw[<-hb.one h];exact hy,rfl⟩,?_,fun c hc=>?_⟩
  ·exact⟨FE,aq e' d.kz (a8 _ _ d.kz d.kt d.k1 d.k2 hI),⟨_,_,aq e' d.tz a4⟩,a5.1.at fun o q=>aq e' d.z1 q,a6.1.at fun o q=>aq e' d.z2 q⟩
  ·rw[av (nT c hc)];exact (hf c hc).1
 done:=by
  ext e;subst hP hw hK;obtain⟨xs,ys,ha,hb,hi⟩:=hg;obtain⟨ai,rv,p,_⟩:=I.tuple (.inl ha);obtain⟨kY,QQ,p2,_⟩:=I.tuple (.inl hb);have hA:X.A.handled=none:=I.ok.hd hc;obtain⟨hz,hI,⟨x0,y0,hO⟩,h1,h2⟩:=id st;have na:∀ c∈[z,TI,TO,i1,i2],a≠c:=fun c hc=>ha.ne (hf c hc).1
  have nb:∀ c∈[z,TI,TO,i1,i2],b≠c:=fun c hc=>hb.ne (hf c hc).1
  have e1:=rv.length;have e2:=QQ.length;refine A9 (d.away na nb) (Draws.tup (by exact hA) i1 a (na i1 (3)) ai.toArray) (Draws.tup (by exact hA) i2 b (nb i2 (3)) kY.toArray) (i:=i) (by simp only[H_];lia) hz hI hO ⟨h1,p⟩ ⟨h2,p2⟩ fun h' tk k1=>⟨rfl,I.zy (ch:=[z,TI,TO,i1,i2]) (t':=tk) hf fun c o hc q=>?_⟩
  simp only[C_,ZW,ab2,not_or] at hc;exact k1 c o hc.1 hc.2.2.1 hc.2.2.2.1 hc.2.2.2.2 q
 self:=fun _ _ _ _ _ st h=>wpAny_pyIter_zip st.1 h
section
variable {X:Cx}
def Nv (ta:TA):TI:=fun σ H R=>ta σ H fun vs H1=>∃ a b xs ys,vs=[.ref a,.ref b]/\Rd H1 a (.tup xs)/\Rd H1 b (.tup ys)/\R (J2 a b) H1
def FF {a b:Expr}{ta:TA}{p pos:Pos}{elts:List Expr}{kk:Nat}{tp:Pos} (hg:Gl X "zip") (hm:X.mg "zip" = none) (ha:PA X [a,b] ta) (hs:S_ [a,b] X.env=[(false,eval a X.env),(false,eval b X.env)]:=by rfl) (jX:S_ [b] X.env=[(false,eval b X.env)]:=by rfl) :
  PI X (.Tuple elts kk tp) (.Call (.Name "zip" p) [a,b] [] pos) (Nv ta):=by
 intro pins s σ H R I h;refine Call_ (eo I hg hm (show aag "zip" = some (.type "zip") by decide +kernel) (ZD (aX (ha pos pins s σ H _ I h) fun us s1 ⟨vs,H1,I1,r1,q1⟩=>?_) (by rw[hs,jX]) (by rw[jX];rfl)));obtain⟨l1,l2,xs,ys,e,h1,h2,q⟩:=q1;subst e
 cases r1 with
 | cons r rr =>
  cases rr with
  | cons r' rr =>
   cases rr
   cases r
   cases r'
   obtain⟨ai,rv,p,hz⟩:=I1.tuple (.inl h1);obtain⟨kY,QQ,p2,SK⟩:=I1.tuple (.inl h2);refine Ba p p2 fun h' hz hI hO g1 g2 kp=>wpAny_pyIter_zip hz ⟨s1.heap.objs.size+4,[s1.heap.objs.size+4,s1.heap.objs.size+2,s1.heap.objs.size+3,s1.heap.objs.size,s1.heap.objs.size+1],_,_,H1,rfl,I1.kept (t':=s1.toks) kp,Bb l1 l2 (mr.of _),⟨hz,hI,⟨_,_,hO⟩,g1,g2⟩,fun c hc=>?_,q⟩
   ·have:s1.heap.objs.size<=c:=by
     simp only[C_,ZW,ab2] at hc;rcases hc with rfl | rfl | rfl | rfl | rfl
     ·exact acS _ _
     ·exact acS _ _
     ·exact acS _ _
     ·exact t_ _
     ·exact acS _ _
    exact I1.vi this (I1.aW.fresh this)
end
end L2
namespace HT
open PySem PySem.Spec PyProof.Rows
section
variable {prog:N_}{w:World}{A:ZN}{E:Value->j_->Prop}{s:j_}
def lg {t sl:Addr}{items:Array Value}{vl vu:Value}{lo hi:m_ Int}{Q:Value->j_->Prop} (ht:IsTup s.heap t items) (hs:s.heap.IsSliceOf sl vl vu .none) (pl:ad8 vl lo) (pu:ad8 vu hi)
  (hw:bJ items.size 0 lo=0/\bJ items.size items.size hi=items.size) (h:Q (.ref t) s):wpAny '3' A (adE (.ref t) (.ref sl)) Q E s:=by
 obtain⟨os,Jx,QD,AJ⟩:=id hs;have RT:s.TypeIs (.ref sl) "slice" := ⟨os,Jx,QD⟩;unfold adE
 try with_reducible refine abq ?_
 first | refine c_ (q_ ?_) | skip
 refine c_ (wpAny_sequenceKey ht.typeIs (2) ?_)
 refine c_ (aam (name:=aah "__getitem__") ht.typeIs ZJ
  (aaB ZJ ht.typeIs aeV ?_ (args_tuple_getitem _ _)))
 show wpAny _ _ (ado (.ref t) >>= _) _ _ s;refine c_ (tupleItemsOf_ ht ?_);refine c_ (adb RT ?_);rw[z_ (2)];refine c_ (fT hs pl pu ?_)
 have SN:(((bJ items.size 0 lo:Nat):Int)==0&&(1:Int)==1&&(bJ items.size items.size hi-bJ items.size 0 lo)==items.size)=true:=by
  rw[hw.1,hw.2];simp
 show wpAny _ _ (if (((bJ items.size 0 lo:Nat):Int)==0&&(1:Int)==1&&(bJ items.size items.size hi-bJ items.size 0 lo)==items.size)=true then _ else _) _ _ s;rw[z_ SN];refine c_ (m:=Builtin.Tuple.tupleIsExact (.ref t)) ?_;refine c_ (adb ht.typeIs (q_ ?_));rw[z_ (2)];exact c_ (wpAny_rule (q_ ⟨_,rfl,q_ h⟩))
end
end HT
namespace L2
open PySem PySem.Spec PyProof.Rows
def Nw (K:e_):V->m_ Int->m_ Int->Hp->VK->Prop:=fun x lo hi H Q=>∃ a xs,x=.ref a/\eV K H a xs /\
 ((HT.bJ xs.length 0 lo=0/\HT.bJ xs.length xs.length hi=xs.length)->Q (.ref a) H)/\(¬ (HT.bJ xs.length 0 lo=0/\HT.bJ xs.length xs.length hi=xs.length)->∀ p,H p=none->Q (.ref p) (upd H p (.tup (kU xs lo hi))))
def FG {X:Cx}:MN X (Nw X.K):=by
 intro pins s σ H x v vl vu lo hi sl Q I rx hs pl pu h;obtain⟨a,xs,rfl,hx,q1,q2⟩:=h;by_cases hw:HT.bJ xs.length 0 lo=0/\HT.bJ xs.length xs.length hi=xs.length
 ·cases rx
  obtain⟨ai,r,ht,hz⟩:=I.tuple hx;have hlen:ai.toArray.size=xs.length:=by rw[H_];exact r.length.symm
  refine⟨"tuple",_,ZJ.lookup,ht.typeIs,?_⟩;exact HT.lg ht hs pl pu (by rw[hlen];exact hw) ⟨.ref a,H,I,rfl,q1 hw⟩
 ·exact Jy pins s σ H _ v vl vu lo hi sl Q I rx hs pl pu ⟨a,xs,rfl,hx,hw,q2 hw⟩
section
variable {X:Cx}
def Nx (K:e_):R2:=fun x y H Q=>∃ p xs d ds,y=.ref p/\cE K H p xs/\cF K H x d/\eB K H xs ds/\L_ d=true/\(∀ e∈ds,L_ e=true)/\Q (.bl (ds.any fun e=>V_ e d)) H
inductive LW {α β:Type} (R:α->β->Prop):List α->List β->Prop
 | nil:LW R [] []
 | cons {a:α}{b:β}{as:List α}{bs:List β}:R a b->LW R as bs->LW R (a::as) (b::bs)
theorem eB.reads {pins:List (Addr×Obj)}{σ:St}{H:Hp}{s:j_} (I:Inv X pins σ H s):∀ {xs:List V}{ds:List P_},eB X.K H xs ds->(∀ e∈ds,L_ e=true)->∀ us,Vals xs us->LW (fun u d=>(∃ as,Reads s.heap u d as)/\L_ d=true) us ds
 | _,_,.nil,_,_,.nil=>.nil
 | _,_,.cons h1 h2,f,_,.cons r1 r2=>.cons ⟨h1.reads I _ r1,f _ W_⟩ (eB.reads I h2 (fun e he=>f e (J_ _ he)) _ r2)
theorem tW {d:P_}{e:Value->Bool}{R:Value->P_->Prop}:∀ {us:List Value}{ds:List P_},LW R us ds->(∀ u d',R u d'->e u=V_ d' d)->us.any e=ds.any fun x=>V_ x d
 | _,_,.nil,_=>rfl
 | u::us,d'::ds,.cons r t,f=>by
  rw[abR,abR,f u d' r,tW t f]
theorem tX {α β:Type}{R:α->β->Prop}:∀ {us:List α}{ds:List β},LW R us ds->∀ u∈us,∃ d,R u d
 | _,_,.nil,u,hu=>by cases hu
 | v::us,d::ds,.cons r t,u,hu=>by
  rcases C_.mp hu with rfl | hu
  ·exact⟨d,r⟩
  ·exact tX t u hu
def J3 (hu:X.A.units+66<cLine):fk X (ZF .In) (Nx X.K):=by
 ext f;obtain⟨p,xs,d,ds,rfl,hq,hd,AJ,s1,s2,q⟩:=h
 cases ry
 obtain⟨as,ra⟩:=hd.reads I v rx;obtain⟨ai,r,pl,hz⟩:=I.list hq;have F2:=eB.reads I AJ s2 ai r
 classical
 let e:Value->Bool:=fun w=>if h:∃ d',(∃ bs,Reads s.heap w d' bs)/\L_ d'=true then V_ h.choose d else false
 have he:∀ w d',((∃ bs,Reads s.heap w d' bs)/\L_ d'=true)->e w=V_ d' d:=fun w d' hx=>by
  have vR:∃ d',(∃ bs,Reads s.heap w d' bs)/\L_ d'=true:=⟨d',hx⟩;show (if h:∃ d',(∃ bs,Reads s.heap w d' bs)/\L_ d'=true then V_ h.choose d else false)=_;rw[dif_pos vR];obtain⟨⟨cs,rc⟩,sc⟩:=vR.choose_spec;obtain⟨⟨bs,rb⟩,sb⟩:=hx;rw[afk _ _ _ _ _ (aau sc) rc rb]
 refine af5 e pl.isList (fun w hw=>?_) ⟨.bl _,H,I,rfl,?_⟩
 ·obtain⟨d',hx⟩:=tX F2 w (by simpa using hw);rw[he w d' hx];obtain⟨⟨bs,rb⟩,sb⟩:=hx;exact afV d' d X.A.in1 s w v bs as rb ra (aau sb) (aau s1) (aeJ sb (by rw[show X.A.in1.units=X.A.units+1 from rfl];lia))
 ·rw[show ai.toArray.any e=ai.any e by simp,tW F2 he];exact q
end
end L2
namespace SH
open PySem L2
noncomputable def iS (acc:List Str) (z:Str):List Str:=if z∈acc then acc else acc++[z]
noncomputable def bM (zs:List Str):List Str:=zs.foldl iS []
def pd (acc:List Str) (z:Str):(iS acc z).length<=acc.length+1:=by
 unfold iS;split
 ·lia
 ·rw[A_];exact t_ _
theorem gC:∀ (zs acc:List Str),(zs.foldl iS acc).length<=acc.length+zs.length
 | [],acc=>by simp
 | z::zs,acc=>by
  have h1:=gC zs (iS acc z);have h2:=pd acc z;rw[abP,x_]
  lia
end SH
namespace PySem
section
variable {prog:N_}{w:World}{A:ZN}{E:Value->j_->Prop}{s:j_}
def Xf (n:Nat):O_ 0 (n:Int) 1=(n:Int):=by rw[ae1];split<;>lia
def v3 {i:Int} (h1 : -2000<=i) (h2:i<=2000):abW i=true:=by
 unfold abW;simp only[v_,abl]
 lia
def jK {r:Addr}{n:Nat}{t u v:Tok}{Q:Value->j_->Prop} (hr:agh s.heap r 0 n 1 t u v) (hn:n<=1000)
  (h:Q (.ref s.heap.objs.size) { s with heap:=s.heap.push { cls:=.type "range_iterator",data:=.fields #[aaD ((n:Int)-1),aaD n,aaD (-1)] } }) :
  wpAny '3' A (call (.builtin "range.__reversed__") [.ref r]) Q E s:=by
 have hT:s.TypeIs (.ref r) "range" := ⟨_,hr,rfl⟩;refine aaB acP hT F.entry_range_reversed ?_ (F.args_range_reversed_1 _);unfold aco.«range.__reversed__»;refine c_ (abm (a:=Zq r) rfl ?_);have e1:=Xf n;unfold Builtin.Range.rangeFields;refine c_ (c_ (ZY hr rfl rfl ?_));refine c_ (abm (a:=some 0) rfl ?_);refine c_ (ZY hr rfl rfl ?_);refine c_ (abm (a:=some (n:Int)) rfl ?_);refine c_ (ZY (x:=acQ 1 v) (i:=2) hr rfl rfl ?_);have ea:asInt? (acQ 1 v)=pure (some 1):=rfl;rw[ea,pure_bind];refine q_ ?_;dsimp only;rw[e1,v3 (i:=0) (2) (2),v3 (i:=(n:Int)) ∅ ∅,v3 (i:=1) (2) (2),v3 (i := -1) (2) (2),v3 (i:=0-1) (2) (2)]
 rw[s_ (show ¬ ((!(true&&true&&true&&true&&true&&true))=true) by decide),z_ (show (true&&true&&true&&true&&true&&true)=true by decide)];refine c_ (aaq (q_ ⟨_,rfl,?_⟩));rw[show (0:Int)+((n:Int)-1)*1=(n:Int)-1 by lia];exact h
theorem j5 {r:Addr}{n:Nat}{t u v:Tok}{Q₁:Value->j_->Prop} (hr:agh s.heap r 0 n 1 t u v) (hn:n<=1000)
  (h:Q₁ (.ref s.heap.objs.size) { s with heap:=s.heap.push { cls:=.type "range_iterator",data:=.fields #[aaD ((n:Int)-1),aaD n,aaD (-1)] } }) :
  ab5 '3' A (.call (.builtin "reversed.__new__") ⟨[.type "reversed",.ref r],[]⟩) (wants Q₁ E) s:=by
 have hT:s.TypeIs (.ref r) "range" := ⟨_,hr,rfl⟩;refine aen ?_;refine c_ (abm (F.newCall_reversed_1 _) (q_ ⟨ae5 aeK _,abg F.entry_reversed_new ?_⟩));rw[aaG aeK _];unfold aco.«reversed.__new__»;refine c_ (abm (newClass_reversed _) ?_)
 try dsimp only
 refine c_ (abm (a:=()) (by first | rfl | kernel_rfl) ?_);refine c_ (abm (a:=()) (by first | rfl | kernel_rfl) ?_)
 try dsimp only
 refine c_ (acn hT acP.lookup ?_)
 try dsimp only
 refine c_ (abm (acP.bind _) ?_)
 try dsimp only
 rw[s_ (show ¬ ((agD "range.__reversed__" == abF)=true) from u_)];refine c_ (wpAny_rule ?_);refine c_ (m:=runValue (.call (.builtin "range.__reversed__") ⟨[.ref r],[]⟩)) (show wpAny _ _ (call (.builtin "range.__reversed__") [.ref r]) _ _ _ from jK hr hn ?_)
 first
 | exact q_ h
 | exact c_ (q_ (q_ h))
def nG:isSubtype (.type "range_iterator") (.type "reversed")=pure false:=by rw[isSubtype_type];kernel_rfl
def jL {r:Addr}{n:Nat}{t u v:Tok}{Q:Value->j_->Prop} (hr:agh s.heap r 0 n 1 t u v) (hn:n<=1000)
  (h:Q (.ref s.heap.objs.size) { s with heap:=s.heap.push { cls:=.type "range_iterator",data:=.fields #[aaD ((n:Int)-1),aaD n,aaD (-1)] } }) :
  wpAny '3' A (call (.type "reversed") [.ref r]) Q E s:=by
 refine callType_other (U := "range_iterator") (Q₁:=fun obj s₁=>obj=.ref s.heap.objs.size/\s₁={ s with heap:=s.heap.push { cls:=.type "range_iterator",data:=.fields #[aaD ((n:Int)-1),aaD n,aaD (-1)] } }) (1) F.create_reversed ⟨_,_,F.mro_reversed⟩ F.made_reversed nG (F.typeCall_reversed_1 _) (j5 hr hn ⟨rfl,rfl⟩) ?_;rintro obj s₁ ⟨rfl,rfl⟩;exact⟨⟨_,w_ _ rfl,rfl⟩,h⟩
end
end PySem
namespace L2
open PySem PySem.Spec PyProof.Rows
section
variable {X:Cx}{tg:Expr}
def SO (ta:TA):TI:=fun σ H R=>ta σ H fun vs H1=>∃ (r:Addr) (n:Nat),vs=[.ref r]/\H1 r=some (.Aq 0 (n:Int))/\n<=1000/\R (Cw ((n:Int)-1) (-1) n) H1
def J4 {a:Expr}{ta:TA}{p pos:Pos} (hg:Gl X "reversed") (hm:X.mg "reversed" = none) (ha:PA X [a] ta) (hs:S_ [a] X.env=[(false,eval a X.env)]:=by rfl) :
  PI X tg (.Call (.Name "reversed" p) [a] [] pos) (SO ta):=by
 intro pins s σ H R I h;refine Call_ (eo I hg hm boot_reversed (ZD (aX (ha pos pins s σ H _ I h) fun us s1 ⟨vs,H1,I1,r1,q1⟩=>?_) (by rw[hs];rfl) (by rfl)));obtain⟨r,n,e,hr,hn,q⟩:=q1;subst e;obtain⟨u,rfl,rx⟩:=vals1 r1
 cases rx
 obtain⟨t,u,v,e⟩:=(show aQ X.prog X.w H1 s1.heap r (.Aq 0 (n:Int)) from I1.aW r _ hr);have Ny:=I1.kept (t':=s1.toks) (fun b o e=>k_ { cls:=.type "range_iterator",data:=.fields #[aaD ((n:Int)-1),aaD n,aaD (-1)] } e);refine jL (show agh s1.heap r 0 (n:Int) 1 t u v from e) hn ?_;refine acD (it:=s1.heap.objs.size) (w_ _ rfl) ?_;refine⟨_,[_],_,_,H1,rfl,Ny,m7 _ ((n:Int)-1) (-1) n,?_,fun b hb=>?_,q⟩
 ·have e1:((n:Int)-1)+((0:Nat):Int)*(-1)=(n:Int)-1:=by lia
  have e2:((n:Nat):Int)-((0:Nat):Int)=(n:Int):=by lia
  show ady _ _ (((n:Int)-1)+((0:Nat):Int)*(-1)) (((n:Nat):Int)-((0:Nat):Int)) (-1);rw[e1,e2];exact w_ _ rfl
 ·have e:=D_.mp hb;subst e;exact I1.vi (t_ _) (I1.aW.fresh (t_ _))
end
section
variable {X:Cx}
def J5:List V->Hp->VK->Prop:=fun xs H Q=>∃ (d:Addr) (kvs:List (Key×V)),xs=[.ref d]/\H d=some (.dK kvs)/\∀ l,H l=none->Q (.ref l) (upd H l (.lst (kvs.map fun kv=>kV kv.1)))
def Nz {P:N_}{w:World}{k:Key}{u:Value} (h:(aL P w).is k u=true):RelV (kV k) u:=by
 rcases aZ (show oF k u=true from h) with ⟨i,t,rfl,rfl⟩ | ⟨x,t,rfl,rfl⟩
 ·exact⟨t,rfl⟩
 ·exact⟨t,rfl⟩
def yj (hc:X.calm=true):bj X (.type "list") J5:=by
 ext j;obtain⟨d,kvs,rfl,hd,q⟩:=h;obtain⟨u,rfl,rx⟩:=vals1 r
 cases rx
 have hA:X.A.handled=none:=I.ok.hd hc;obtain⟨hsz,lo,vs,rel,dd⟩:=Ng I.aW hd;obtain⟨ep,QR⟩:=dd.dictAt;refine PySem.W.kdl_call (PySem.W.kdl_dict (knd:=aL X.prog X.w) (kvs:=vs) (ep:=ep) lo) hA QR (by rw[<-rel.length];exact hsz) fun h' tk acc c kp he hi=>?_
 obtain⟨hz,CL⟩:=hi;refine⟨.ref s.heap.objs.size,_,I.laid (a:=s.heap.objs.size) (o:=.lst (kvs.map fun kv=>kV kv.1)) (t':=tk) kp (t_ _) ⟨by rw[a_];exact hsz,acc.toList,c,?_,by simpa using he⟩,rfl,q _ (I.aW.fresh (t_ _))⟩;have ek:=rel.keys;have hl:=rel.length
 have gen:∀ (ks:List Key) (us:List Value),ks.length=us.length->(∀ (i:Nat) (k:Key) (v:Value),ks[i]? = some k->us[i]? = some v->(aL X.prog X.w).is k v=true)->Vals (ks.map kV) us:=by
  intro ks
  induction ks with
  | nil=>intro us h _;cases us with
   | nil=>exact .nil
   | cons u us=>simp at h
  | cons k ks ih=>intro us h hk;cases us with
   | nil=>simp at h
   | cons u us=>exact .cons (Nz (hk 0 k u rfl rfl)) (ih us (by simpa using h) fun i k' v h1 h2=>hk (i+1) k' v h1 h2)
 have e1:(kvs.map fun kv=>kV kv.1)=(kvs.map (·.1)).map kV:=by rw[G_];rfl
 rw[e1];refine gen _ _ (by rw[a_,hl];simpa using hz.symm) fun i k v h1 h2=>?_
 obtain⟨k',x,h3,h4⟩:=CL i v (by simpa using h2);rw[ek,g_,h3] at h1
 cases h1
 exact h4
end
def yk {j c:Int}{i:Nat} (hc:1<=c) (h:(i:Int)*c<j):(i:Int)<O_ 0 j c:=by
 have h0:0<=(i:Int)*c:=aeI ∅ ∅;rw[ae3 hc ∅]
 have:(i:Int)+1<=(j+c-1) / c:=by
  rw[Int.le_ediv_iff_mul_le ∅,Int.add_mul,Int.one_mul]
  lia
 lia
section
variable {X:Cx}{tg:Expr}
def J6 (ta:TA):TI:=fun σ H R=>ta σ H fun vs H1=>∃ j c:Int,vs=[.int 0,.int j,.int c]/\(-1000<=j/\j<=1000/\1<=c/\c<=1000)/\∀ n:Nat,(∀ i:Nat,i<n↔(i:Int)*c<j)->R (Cw 0 c n) H1
def yl {a b d:Expr}{ta:TA}{p pos:Pos} (hg:Gl X "range") (hm:X.mg "range" = none) (ha:PA X [a,b,d] ta) (hs:S_ [a,b,d] X.env=[(false,eval a X.env),(false,eval b X.env),(false,eval d X.env)]:=by rfl) (jX:S_ [b,d] X.env=[(false,eval b X.env),(false,eval d X.env)]:=by rfl) (Y7:S_ [d] X.env=[(false,eval d X.env)]:=by rfl) :
  PI X tg (.Call (.Name "range" p) [a,b,d] [] pos) (J6 ta):=by
 intro pins s σ H R I h;refine Call_ (eo I hg hm abu (ZD (aX (ha pos pins s σ H _ I h) fun us s1 ⟨vs,H1,I1,r1,q1⟩=>?_) (by rw[hs,jX]) (by rw[jX];rfl)));obtain⟨j,c,e,⟨q1,q2,q3,q4⟩,q⟩:=q1;subst e
 cases r1 with
 | cons r rr =>
  cases rr with
  | cons r' rr =>
   cases rr with
   | cons Xg rr =>
    cases rr
    obtain⟨t,rfl⟩:=r;obtain⟨t',rfl⟩:=r';obtain⟨Xh,rfl⟩:=Xg;obtain⟨h3,h4,h5⟩:=Cy (j:=j) q3;have Ny:=I1.kept (t':=s1.toks) (fun b o e=>k_ { cls:=.type "range",data:=.fields #[.int 0 t,.int j t',.int c Xh] } e);refine call_range_3 ∅ ?_ (.inl (ad6 ∅));refine wpAny_pyIter_range (agT ..) (JR q1 q2 q3 q4) ?_;refine⟨_,[_],_,_,H1,rfl,Ny.kept (t':=s1.toks) fun b o e=>k_ _ e,m7 _ 0 c (O_ 0 j c).toNat,?_,fun b hb=>?_,q _ fun i=>⟨fun hi=>h5 i ∅,fun hi=>by have:=yk q3 hi;lia⟩⟩
    ·have e1:(0:Int)+((0:Nat):Int)*c=0:=by simp
     have e2:(((O_ 0 j c).toNat:Nat):Int)-((0:Nat):Int)=O_ 0 j c:=by lia
     show ady _ _ ((0:Int)+((0:Nat):Int)*c) ((((O_ 0 j c).toNat:Nat):Int)-((0:Nat):Int)) c;rw[e1,e2];exact w_ _ rfl
    ·have e:=D_.mp hb;subst e;exact Ny.vi (t_ _) (Ny.aW.fresh (t_ _))
end
end L2
namespace SH
open PySem L2
noncomputable def CP:Nat->Nat->List Nat
 | 0,_=>[]
 | f+1,n=>n::if 1<n then CP f ((n+1) / 2) else []
noncomputable def v5 (f n:Nat):List Nat:=if n=0 then [] else CP f n
noncomputable def fm (n:Nat):List Nat:=v5 n n
noncomputable def jO (s n:Nat):Nat:=(n+s-1) / s
noncomputable def cG (s:Nat) (ps:List Int):List (List Int):=(Zo (jO s ps.length)).map fun i=>(ps.drop (i*s)).take s
noncomputable def jE (ps:List Int):List (List Int):=(fm ps.length).flatMap fun s=>cG s ps
def Bc {f n:Nat} (h0:0<n) (hf:n<=f):∃ f',(if n=1 then 0 else (n+1) / 2)<=f'/\v5 f n=n::v5 f' (if n=1 then 0 else (n+1) / 2):=by
 cases f with
 | zero=>lia
 | succ f =>
  refine⟨f,?_,?_⟩
  ·split<;>lia
  ·unfold v5;rw[s_ ∅];show n::(if 1<n then CP f ((n+1) / 2) else [])=_;by_cases h:n=1
   ·rw[s_ ∅,z_ (by rw[z_ h])]
   ·rw[z_ ∅,s_ (by rw[s_ h];lia),s_ h]
def pe {s n i:Nat} (hs:1<=s):i<jO s n↔i*s<n:=by
 unfold jO;rw[Nat.lt_iff_add_one_le,Nat.le_div_iff_mul_le ∅,adI,adJ]
 lia
def tY {s n:Nat} (hs:1<=s):jO s n<=n:=by
 cases h:jO s n with
 | zero=>lia
 | succ m =>
  have:=(pe (i:=m) (n:=n) hs).mp ∅;have:m*1<=m*s:=ace m hs
  lia
def iT (s:Nat) (ps:List Int):(cG s ps).length=jO s ps.length:=by
 unfold cG;rw[a_,K_]
def sy:∀ n≤40,(fm n).length<=7/\∀ s∈fm n,1<=s/\s<=40:=by decide
theorem v7 {ps:List Int} (hp:ps.length<=40):∀ (l:List Nat),(∀ s∈l,1<=s)->(l.flatMap fun s=>cG s ps).length<=40*l.length
 | [],_=>by simp
 | s::l,h=>by
  have h1:=v7 hp l fun x hx=>h x (J_ _ hx)
  have h2:=tY (n:=ps.length) (h s W_);rw[afF,A_,iT,x_]
  lia
end SH
namespace L2
open PySem PySem.Spec PyProof.Rows
section
variable {X:Cx}
noncomputable def Cx.quiet (X:Cx):Cx:={ X with xe:=fun _ _=>False }
variable {pins:List (Addr×Obj)}{σ:St}{H:Hp}{s:j_}
def Inv.FH (I:Inv X pins σ H s):Inv X.quiet pins σ H s :=
 ⟨⟨I.ok.mod,I.ok.kind,I.ok.glob,I.ok.blt,I.ok.above,I.ok.inj,I.ok.has,I.ok.cab,I.ok.hd,I.ok.frames,I.ok.LI,I.ok.Qv,I.ok.bs,I.ok.BP,I.ok.xK,I.ok.As,I.ok.jI,I.ok.EN⟩,I.os,I.bare,I.base,I.loc,I.cell,I.free,I.iu,I.pin,I.aW,I.len⟩
def Inv.zD (I:Inv X.quiet pins σ H s):Inv X pins σ H s :=
 ⟨⟨I.ok.mod,I.ok.kind,I.ok.glob,I.ok.blt,I.ok.above,I.ok.inj,I.ok.has,I.ok.cab,I.ok.hd,I.ok.frames,I.ok.LI,I.ok.Qv,I.ok.bs,I.ok.BP,I.ok.xK,I.ok.As,I.ok.jI,I.ok.EN⟩,I.os,I.bare,I.base,I.loc,I.cell,I.free,I.iu,I.pin,I.aW,I.len⟩
def FI {body:List Stmt}{tb:TS}{h₀:ExceptHandler}{hs:List ExceptHandler}{pos:Pos} (hb:kL X.quiet body tb):PS X (.Try body (h₀::hs) [] [] pos) tb:=by
 intro pins s σ H D I h;refine wpAny_Try_except (aaj (hb pins s σ H D I.FH h) (fun fw s1 q=>?_) fun _ _ z=>z.elim)
 cases fw with
 | next=>obtain⟨σ1,H1,I1,q1⟩:=q;exact ac1 ⟨σ1,H1,I1.zD,q1⟩
 | brk=>obtain⟨σ1,H1,I1,q1⟩:=q;exact⟨σ1,H1,I1.zD,q1⟩
 | cont=>obtain⟨σ1,H1,I1,q1⟩:=q;exact⟨σ1,H1,I1.zD,q1⟩
 | ret u=>obtain⟨v,σ1,H1,I1,r1,q1⟩:=q;exact⟨v,σ1,H1,I1.zD,r1,q1⟩
end
end L2
namespace SH
open PySem PySem.Spec PyProof.Rows
def J7 (w:World) (n:Nat) (t:adW):Prop:=(w.params.followText "set-order" = false->t.led=true)/\(0<n->t.plain=false)
def qM (prog:N_) (w:World) (h:Heap) (a:Addr) (zs:List Str):Prop :=
 ∃ o es ep t,h.get? a=some o/\o.ExactSet/\o.data=.set es ep t/\ElemsOf (aao prog w) es.toList/\(es.toList.map fun e=>strOf e.2).Perm zs/\es.size<aeS/\t.fits es.size=true/\J7 w es.size t
def v8 (u:adW) (n:Nat):(u.orStandIn n).led=u.led/\(u.plain=false->(u.orStandIn n).plain=false):=by
 unfold SetTable.orStandIn;split
 ·exact⟨rfl,id⟩
 ·exact⟨rfl,fun _=>rfl⟩
def FJ (t:adW) (es:Array (Int×Value)) (h:Int) (x:Value):(layNew t es h x).2.1.led=t.led/\(t.plain=false->(layNew t es h x).2.1.plain=false):=by
 unfold layNew
 cases t.freeSlot h with
 | none=>exact⟨rfl,fun _=>rfl⟩
 | some p=>exact v8 (t.put p.1).1 _
def Bd (t:adW) (es:Array (Int×Value)) (n:Nat):(relayAll t es n).2.1.led=t.led/\(t.plain=false->(relayAll t es n).2.1.plain=false):=by
 unfold relayAll
 cases hr:t.relaid (es.map (·.1)) n with
 | none=>exact⟨rfl,fun _=>rfl⟩
 | some p =>
  obtain⟨t',order⟩:=p;dsimp only;split
  ·unfold SetTable.relaid SetTable.laid at hr
   cases hc:SetTable.layClean (SetTable.sizeAbove n-1) (es.map (·.1)) with
   | none=>rw[hc] at hr;exact nomatch hr
   | some ow =>
    rw[hc] at hr;have:=M_ hr;rw[Prod.mk.injEq] at this;rw[<-this.1];exact⟨rfl,id⟩
  ·exact⟨rfl,fun _=>rfl⟩
section
variable {prog:N_}{w:World}{A:ZN}{E:Value->j_->Prop}{s:j_}
def CQ {v:Value}{k:Str} (h:(aao prog w).is k v=true):strOf v=k:=by
 obtain⟨t,rfl⟩:=aeT h;rfl
theorem CS {a:Addr}{zs:List Str}{x:Str}{tk:Tok}{Q:Bool->j_->Prop} (T:qM prog w s.heap a zs) (room:zs.length+1<aeS)
  (h:∀ b h',aaT a s.heap h'->qM prog w h' a (if x∈zs then zs else zs++[x])->Q b { s with heap:=h' }) :
  wpAny '3' A (setAddHashed a (.str x tk) ((aao prog w).hash x)) Q E s:=by
 obtain⟨o,es,ep,t,ho,hx,hd,el,pm,sb,ft,ld⟩:=T;have ik:(aao prog w).is x (.str x tk)=true:=strKind_is ..;have ln:es.size=zs.length:=by have:=pm.length_eq;rw[a_,ZL] at this;exact this
 unfold setAddHashed setAddHashedIn;refine abq (c_ (wpAny_setState_of ho hd ft ?_));dsimp only;rw[byScan_of rfl sb el,z_ rfl];unfold setAddByScan;refine c_ (c_ (wpAny_rule (c_ (wpAny_setScan_of ik ho hd ft el ?_))))
 cases hr:List.findIdx? (fun e=>(aao prog w).is x e.2) es.toList with
 | some j =>
  obtain⟨hj,hp,_⟩:=List.findIdx?_eq_some_iff_getElem.mp hr;have hm:x∈zs:=pm.mem_iff.mp (n_.mpr ⟨_,aaC hj,CQ hp⟩);have:=h false s.heap (Heap.SameBut.refl a s.heap) (by rw[z_ hm];exact⟨o,es,ep,t,ho,hx,hd,el,pm,sb,ft,ld⟩);exact q_ (q_ this)
 | none =>
  have hm:x∉zs:=fun hz=>by
   obtain⟨e,he,ee⟩:=n_.mp (pm.mem_iff.mpr hz);obtain⟨⟨k,hk,_⟩,_⟩:=el e he;have:=List.findIdx?_eq_none_iff.mp hr e he;rw[<-ee,CQ hk,hk] at this;exact nomatch this
  have p1:=layNew_perm t es ((aao prog w).hash x) (.str x tk);have f1:=layNew_fits t es ((aao prog w).hash x) (.str x tk);have l1:=FJ t es ((aao prog w).hash x) (.str x tk);dsimp only;generalize layNew t es ((aao prog w).hash x) (.str x tk)=L at p1 f1 l1 ⊢;obtain⟨e1,t1,wd,gv⟩:=L;dsimp only at p1 f1 l1 ⊢;rw[Array.toList_push] at p1;have Xi:ElemsOf (aao prog w) e1.toList:=(el.push ik rfl).perm p1
  have Xj:(e1.toList.map fun e=>strOf e.2).Perm (if x∈zs then zs else zs++[x]):=by
   rw[s_ hm];refine (p1.map _).trans ?_;rw[F_];exact pm.append_right _
  have z1:e1.size=zs.length+1:=by
   have:=p1.length_eq;rw[A_,ZL,ZL] at this;simp only[x_,abO] at this
   lia
  have gw:∀ (b:Bool) {s₁:j_}{Q':Unit->j_->Prop},Q' () s₁->wpAny '3' A (match b with | true=>rule "set.scan.the-table-gave-way" | false=>pure ()) Q' E s₁:=fun b _ _ q=>by
   cases b
   ·exact q_ q
   ·exact wpAny_rule q
  have done:∀ (e2:Array (Int×Value)) (t2:adW) (g:Heap) (o1:Obj),aaT a s.heap g->g.get? a=some o1->o1.ExactSet->(∃ SQ,o1.data=.set e2 SQ t2)->List.Perm e2.toList e1.toList->t2.fits e2.size=true->J7 w e2.size t2->Q true { s with heap:=g }:=fun e2 t2 g o1 Xk go gx ⟨SQ,gd⟩ pp ff ll=>by
   have zz:e2.size=e1.size:=by have:=pp.length_eq;rw[ZL,ZL] at this;exact this
   exact h true g Xk ⟨o1,e2,SQ,t2,go,gx,gd,Xi.perm pp,(pp.map _).trans Xj,∅,ff,ll⟩
  have tail:∀ t2:adW,t2.fits e1.size=true->J7 w e1.size t2->wpAny '3' A (do
    storeSet a e1 t2
    if (!wd && t2.tooFull) = true then do
        (match (relayAll t2 e1 (abC e1.size)).2.2 with | true=>rule "set.scan.the-table-gave-way" | false=>pure ())
        storeSet a (relayAll t2 e1 (abC e1.size)).1 (relayAll t2 e1 (abC e1.size)).2.1
        pure (some true)
     else pure (some true)) (fun r s'=>r=some true/\Q true s') E s:=fun t2 f2 l2=>by
   have ge:∀ (g:Heap) (o1:Obj) (e0 e2:Array (Int×Value)) (p0:Nat) (t0 t3:adW),g.get? a=some o1->o1.data=.set e0 p0 t0->(g.update a (agt e2 t3)).get? a=some { o1 with data:=.set e2 (p0+1) t3 }:=fun g o1 e0 e2 p0 t0 t3 hg h0=>by
    have:=aes (agt e2 t3) hg (by rw[putSet_of e2 t3 h0];rfl);rw[putSet_of e2 t3 h0] at this;exact this
   have g1:=ge _ _ _ e1 _ _ t2 ho hd;have s1:=acd s.heap a (agt e1 t2);refine c_ (wpAny_storeSet_of ho hd ?_ (fits_of_scanBound ∅));split
   ·have rp:=relayAll_perm t2 e1 (abC e1.size);have rf:=relayAll_fits t2 e1 (abC e1.size);have rl:=Bd t2 e1 (abC e1.size);generalize relayAll t2 e1 (abC e1.size)=Y at rp rf rl ⊢;obtain⟨e2,t3,gg⟩:=Y;dsimp only at rp rf rl ⊢;have zz:e2.size=e1.size:=by have:=rp.length_eq;rw[ZL,ZL] at this;exact this
    refine c_ (gw _ (c_ (wpAny_storeSet_of g1 rfl (q_ ⟨rfl,?_⟩) (fits_of_scanBound ∅))));exact done e2 t3 _ _ (s1.trans (acd _ a _)) (ge _ _ _ e2 _ _ t3 g1 rfl) hx ⟨_,rfl⟩ rp rf ⟨fun e=>by rw[rl.1];exact l2.1 e,fun z=>rl.2 (l2.2 ∅)⟩
   ·exact q_ ⟨rfl,done e1 t2 _ _ s1 g1 hx ⟨_,rfl⟩ .rfl f2 l2⟩
  refine c_ (gw _ ?_);split
  ·refine c_ ?_;rw[hashByValue_scannable 8 rfl];refine q_ ?_;refine aaj (tail _ (SetTable.fits_plain_off f1) ⟨fun e=>by show t1.led=true;rw[l1.1];exact ld.1 e,fun _=>rfl⟩) ?_ fun _ _ e=>e
   rintro _ _ ⟨rfl,q⟩;exact q_ q
  ·rename_i np;refine c_ (q_ ?_);rw[z_ rfl];refine aaj (tail _ f1 ⟨fun e=>by rw[l1.1];exact ld.1 e,fun _=>afI.mpr np⟩) ?_ fun _ _ e=>e
   rintro _ _ ⟨rfl,q⟩;exact q_ q
end
noncomputable def CT (zs:List Str) (x:Str):List Str:=if x∈zs then zs else zs++[x]
noncomputable def iU (val:Nat->Str) (i:Nat):List Str:=((Zo i).map val).foldl CT []
def ph (val:Nat->Str) (i:Nat):iU val (i+1)=CT (iU val i) (val i):=by
 unfold iU;rw[acp,F_,List.foldl_append];rfl
theorem pk (val:Nat->Str):∀ i,(iU val i).length<=i
 | 0=>t_ _
 | i+1=>by
  have:=pk val i;rw[ph];unfold CT;split
  ·lia
  ·rw[A_];exact Nat.succ_le_succ this
section
variable {prog:N_}{w:World}{A:ZN}{R:Result->j_->Prop}{I:Addr}{fp wr:List Addr}{G:Array GenState->Array GenState->Prop}{n:Nat}{P:Nat->Value->Prop}{St:Nat->j_->Prop}
def qM.kept {h h':Heap}{a:Addr}{zs:List Str} (T:qM prog w h a zs) (k:∀ o,h.get? a=some o->h'.get? a=some o):qM prog w h' a zs:=by
 obtain⟨o,es,ep,t,ho,r⟩:=T;exact⟨o,es,ep,t,k o ho,r⟩
theorem Be (W:WalksS prog w A.in1 I fp wr G n P St) (S:Addr) (hS:S∉fp) (val:Nat->Str) (hv:∀ i v,P i v->∃ t,v=.str (val i) t) (hb:n+1<aeS) :
  ∀ (k i:Nat) (s:j_),n-i=k->i<=n->St i s->qM prog w s.heap S (iU val i) ->
   (∀ s',Moved (S::wr) G s s'->qM prog w s'.heap S (iU val n)->R (.ok (.ret .none)) s') ->
   ab5 '3' A (.builtin "set.update.loop" ⟨[.ref S,.ref I],[]⟩) R s:=by
 have nw:S∉wr:=fun z=>hS (W.sub _ z)
 have sub:∀ b∈wr,b∈S::wr:=fun b z=>J_ _ z
 intro k
 induction k with
 | zero =>
  intro i s hk hi st T hR;obtain rfl:i=n:=by lia
  refine abg acf ?_;rw[aaG aaS _];show wpAny _ A.in1 (aez (.ref I) >>= _) _ _ s;refine c_ (W.done s _ _ st fun s' m=>q_ ?_);exact hR s' (m.mono sub) (T.kept fun o e=>m.heap S _ nw e)
 | succ k ih =>
  intro i s hk hi st T hR;have lt:i<n:=by lia
  refine abg acf ?_;rw[aaG aaS _];show wpAny _ A.in1 (aez (.ref I) >>= _) _ _ s;refine c_ (W.item i s _ _ lt st fun v s' hP nE m=>?_);obtain⟨t,rfl⟩:=hv i v hP;have T':=T.kept (h':=s'.heap) fun o e=>m.heap S _ nw e
  show wpAny _ A.in1 (adx [adf (val i) t] (setAdd S (.str (val i) t)) >>= _) _ _ s';refine c_ (abq ?_);unfold setAdd;refine abq (c_ ((aao prog w).pyHash (k:=val i) (strKind_is _ _ _ _) ?_));have rm:(iU val i).length+1<aeS:=by have:=pk val i;lia
  refine CS (s:={ s' with toks:=s'.toks+1 }) T' rm fun b h' sb T2=>?_
  refine q_ ⟨ae5 aaS _,ih (i+1) _ ∅ lt (W.frame _ s' _ _ nE (acZ _) fun b hb o e=>?_) (by rw[ph];exact T2) fun s2 m2 TT=>?_⟩
  ·rw[sb.2 b fun z=>hS (z▸hb)];exact e
  ·refine hR s2 (Moved.trans W.gtrans ((m.mono sub).then_heap (acZ _) fun b o hb e=>?_) m2) TT;rw[sb.2 b fun z=>hb (z▸W_)];exact e
end
section
variable {prog:N_}{w:World}{A:ZN}{E:Value->j_->Prop}{s:j_}
noncomputable abbrev FK (led:Bool):Obj:={ cls:=.type "set",dict:=none,data:=.set #[] 0 (.fresh 0 0 led) }
def CU (a:Value) {Q:Value->j_->Prop} (h:Q (.ref s.heap.objs.size) { s with heap:=s.heap.push (FK (!w.params.followText "set-order")) }) :
  ab5 '3' A (.call (.builtin "set.__new__") ⟨[.type "set",a],[]⟩) (wants Q E) s:=by
 refine aen ?_;show wpAny _ A.in1 (do checkBuiltinCall "set.__new__" ⟨[.type "set",a],[]⟩;again (.builtin "set.__new__" ⟨[.type "set",a],[]⟩)) _ _ s;refine c_ (abm (PySem.F.newCall_set_1 a) (q_ ⟨ae5 F.plain_set_new _,abg F.entry_set_new ?_⟩));rw[aaG F.plain_set_new _];unfold aco.«set.__new__» agu;have sub:=sub_set_self;obtain⟨hp,g,d,tk,os⟩:=s;dsimp only
 wp_walk
 refine wpAny_askSetting (q_ ?_);dsimp only;simp only[newObj];exact c_ (wpAny_alloc (q_ (q_ h)))
def FL:∀ {vs:List Value}{zs:List Str},StrsAre vs zs->∀ (i:Nat) (v:Value),vs[i]? = some v->∃ t,v=.str (zs.getD i default) t:=by
 intro vs zs hz
 induction hz with
 | nil=>intro i v h;exact nomatch h
 | cons x t _ ih =>
  intro i v h
  cases i with
  | zero=>exact⟨t,(M_ h).symm⟩
  | succ i=>exact ih i v h
set_option maxHeartbeats 4000000 in
theorem pq {l:Addr}{vs:List Value}{zs:List Str}{Q:Value->j_->Prop} (hh:A.handled=none) (hl:s.heap.IsList l vs.toArray) (hz:StrsAre vs zs) (hb:vs.length+1<aeS)
  (h:∀ (h':Heap) (tk:Nat),qM prog w h' s.heap.objs.size (iU (fun i=>zs.getD i default) vs.length)->(∀ b o,s.heap.get? b=some o->h'.get? b=some o)->Q (.ref s.heap.objs.size) { s with heap:=h',toks:=tk }) :
  wpAny '3' A (call (.type "set") [.ref l]) Q E s:=by
 obtain⟨c,tl,mro⟩:=abJ.mro;have made:=abJ.made;have Xl:=abJ.sub;refine afa (aen ?_);show wpAny _ _ (callAny (.type "set") _) _ _ _;refine q_ ⟨ads _ (1),abg F.entry_type_call ?_⟩;rw[Around.under_plain (weight_type_call_type "set" [.ref l] []) rfl];have n1:=abJ.notType;have n2:=abJ.canCreate;have n3:=PySem.F.typeCall_set_1 (.ref l)
 repeat any_goals first
  | assumption
  | wp_step
 generalize hO:(!w.params.followText "set-order")=led;refine ab6 (CU (.ref l) (E:=E) (Q:=fun v s₁=>v=.ref s.heap.objs.size/\s₁={ s with heap:=s.heap.push { cls:=.type "set",dict:=none,data:=.set #[] 0 (.fresh 0 0 led) } }) ⟨rfl,by subst hO;rfl⟩) fun r s₁ hr=>?_
 cases r with
 | error e=>exact hr
 | ok fl =>
  cases fl with
  | ret obj =>
   obtain⟨rfl,rfl⟩:=hr;have gS:(s.heap.push { cls:=.type "set",dict:=none,data:=.set #[] 0 (.fresh 0 0 led) }).get? s.heap.objs.size=some { cls:=.type "set",dict:=none,data:=.set #[] 0 (.fresh 0 0 led) }:=w_ _ rfl;have hT:Shared.TypeIs { s with heap:=s.heap.push { cls:=.type "set",dict:=none,data:=.set #[] 0 (.fresh 0 0 led) } } (.ref s.heap.objs.size) "set" := ⟨_,gS,rfl⟩;have i1:=abJ.init.lookup;have i2:=abJ.init.bind (.ref s.heap.objs.size)
   repeat any_goals first
    | assumption
    | wp_step
   refine ab6 (codeAny_call_builtin (R:=wants (fun r s₂=>r=.none/\∃ h' tk,s₂={ s with heap:=h',toks:=tk }/\qM prog w h' s.heap.objs.size (iU (fun i=>zs.getD i default) vs.length)/\∀ b o,s.heap.get? b=some o->h'.get? b=some o) E)
    abJ.init.plain F.entry_set_init (check_set_init_1 hT ?_)) fun r₂ s₂ SR=>?_
   ·obtain⟨ol,gl,cl,nl,dl⟩:=hl;obtain⟨oc,od,Y8,AI⟩:=ol;dsimp only at cl dl;subst cl dl;have Xm:(s.heap.push { cls:=.type "set",dict:=none,data:=.set #[] 0 (.fresh 0 0 led) }).get? l=some { cls:=.type "list",dict:=od,data:=.seq vs.toArray nl,slots:=AI }:=k_ _ gl;have q1:=PySem.F.sub_list_set;have q2:=PySem.F.sub_list_frozenset;have q3:(aa2 "list" == aa2 "dict")=false:=by decide
    have l1:(s.heap.push { cls:=.type "set",dict:=none,data:=.set #[] 0 (.fresh 0 0 led) }).IsList l vs.toArray:=⟨_,Xm,rfl,nl,rfl⟩;unfold aco.«set.__init__» noKeywords aga;generalize Xn:pyIter=PI
    wp_walk
    subst Xn;refine abi l1 ?_;refine c_ (wpAny_runValue ?_);have ls:l<s.heap.objs.size:=E_ gl;have sz:(s.heap.push { cls:=.type "set",dict:=none,data:=.set #[] 0 (.fresh 0 0 led) }).objs.size=s.heap.objs.size+1:=Z0 _ _;have h3:A.in1.in1.in1.handled=none:=by simp [hh]
    have ni:l≠(s.heap.push { cls:=.type "set",dict:=none,data:=.set #[] 0 (.fresh 0 0 led) }).objs.size:=by rw[sz];exact Q_ (adG ls)
    have nf:s.heap.objs.size∉[(s.heap.push { cls:=.type "set",dict:=none,data:=.set #[] 0 (.fresh 0 0 led) }).objs.size,l]:=fun z=>by
     rw[sz] at z;rcases C_.mp z with z | z
     ·exact absurd z (Q_ (abw _))
     ·exact absurd (D_.mp z) (ab3 ls)
    refine Be ((ags h3 _ l ni vs.toArray).toS) s.heap.objs.size nf (fun i=>zs.getD i default) (fun i v hv=>FL hz i v (by rw[<-hv];simp)) hb _ 0 _ rfl (aal _) ⟨⟨_,w_ _ rfl,rfl,rfl⟩,l1.push _⟩ ?_ ?_
    ·refine⟨_,#[],0,.fresh 0 0 led,k_ _ gS,⟨rfl,rfl,rfl⟩,rfl,(fun _ z=>nomatch z),.rfl,(2),rfl,fun e=>?_,fun z=>absurd z (ZK 0)⟩;show led=true;rw[<-hO,e];rfl
    ·intro s' m T;obtain⟨h',g',d',Nj,RS⟩:=s';obtain rfl:g'=s.gens:=m.gens;obtain rfl:d'=s.drawn:=m.drawn;obtain rfl:RS=s.os:=m.os;refine q_ (q_ ⟨rfl,h',Nj,rfl,T,fun b o e=>?_⟩);have bl:=E_ e;refine m.heap b o (fun z=>?_) (k_ _ (k_ _ e));rcases C_.mp z with z | z
     ·exact absurd z (Q_ bl)
     ·have:=D_.mp z;rw[sz] at this;exact absurd this (Q_ (adG bl))
   ·cases r₂ with
    | error e=>exact SR
    | ok Xo =>
     cases Xo with
     | ret r =>
      obtain⟨rfl,h',tk,rfl,T,kp⟩:=SR
      repeat any_goals first
       | assumption
       | wp_step
      exact h _ _ T kp
     | _=>exact SR
  | _=>exact hr
end
end SH
namespace L2
open PySem PySem.Spec PyProof.Rows SH
theorem lh:∀ {zs:List Str}{us:List Value},Vals (zs.map V.str) us->StrsAre us zs
 | [],_,.nil=>.nil
 | _::_,_,.cons ⟨_,rfl⟩ t=>.cons _ _ (lh t)
def lj (zs:List Str):iU (fun i=>zs.getD i default) zs.length=bM zs:=by
 have e:(Zo zs.length).map (fun i=>zs.getD i default)=zs:=by
  apply List.ext_getElem
  ·simp
  ·intro i h1 h2;simp [B_,b_ h2]
 unfold iU;rw[e];rfl
section
variable {X:Cx}{p pos p' pos':Pos}{e:Expr}{te:TE}
def FN (K:e_) (te:TE):TE:=fun σ H Q=>te σ H fun x H1=>∃ (q:Addr) (zs:List Str),x=.ref q/\cE K H1 q (zs.map V.str)/\zs.length<64/\Q (.int (bM zs).length) H1
def Bf (NA:X.calm=true) (hg:Gl X "len") (hm:X.mg "len" = none) (LN:Gl X "set") (Xp:X.mg "set" = none) (ha:PE X e te)
  (he:S_ [e] X.env=[(false,eval e X.env)]:=by rfl):PE X (.Call (.Name "len" p) [.Call (.Name "set" p') [e] [] pos'] [] pos) (FN X.K te):=by
 ext d;have hh:=I.ok.hd NA;refine aaA (eo (u:=.builtin "len") I hg hm (by kernel_rfl) ?_ (2) (2));refine acR (adl (aaA (eo (u:=.type "set") I LN Xp (by kernel_rfl) ?_ (2) (2)))) rfl rfl;refine ZD ?_ he rfl;rw[he];show wpAny _ _ (spliced ((false,eval e X.env)::[])) _ _ s;refine adl (aX (ha pins s σ H _ I h) fun u s1 z=>adC ?_);obtain⟨x,H1,I1,r1,q,zs,ev,hq,Xq,k⟩:=z;subst ev
 cases r1
 obtain⟨ai,r,pl,hz⟩:=I1.list hq;have sa:StrsAre ai zs:=lh r;have li:ai.length=zs.length:=by rw[<-r.length,a_]
 refine pq hh pl.isList sa (by rw[li];exact I_ (Nat.succ_lt_succ Xq) (2)) fun h1 tk T kp=>adC ?_
 rw[li,lj] at T;obtain⟨o,es,ep,t,ho,hx,hd,el,pm,sb,ft,ld⟩:=T;have ln:es.size=(bM zs).length:=by have:=pm.length_eq;rw[a_,ZL] at this;exact this
 have le:=pk (fun i=>zs.getD i default) zs.length;rw[lj] at le;refine call_len_set ho hx hd ft ∅ ?_;rw[ln];exact⟨.int _,H1,I1.kept (t':=tk+1+1) kp,⟨_,rfl⟩,k⟩
end
end L2
namespace PV
open PySem PySem.Spec PyProof.Rows L2
noncomputable def mv:Nat->P_->Bool
 | _,.int _=>true
 | _,.str _=>true
 | n+1,.tuple xs=>xs.all (mv n)
 | _,_=>false
noncomputable def hP (w:World):Nat->P_->Int
 | _,.int i=>hashInt i
 | _,.str x=>hashStr w x
 | n+1,.tuple xs=>reduceHash (aa_ (xs.map (hP w n)))
 | _,_=>0
noncomputable def dP:Nat->P_->Nat
 | n+1,.tuple xs=>(xs.map (dP n)).sum+1
 | _,_=>1
noncomputable instance Xr:DecidableEq P_:=fun _ _=>abD _
def aO {n:Nat}{d:P_} (h:mv n d=true):(∃ i,d=.int i)∨(∃ x,d=.str x)∨∃ m xs,n=m+1/\d=.tuple xs/\∀ x∈xs,mv m x=true:=by
 unfold mv at h;split at h
 ·exact .inl ⟨_,rfl⟩
 ·exact .inr (.inl ⟨_,rfl⟩)
 ·exact .inr (.inr ⟨_,_,rfl,rfl,Zn.mp h⟩)
 ·cases h
def J8:∀ (n:Nat) (d e:P_),mv n d=true->mv n e=true->(V_ d e=true↔d=e):=fun n=>by
 induction n with
 | zero =>
  intro d e hd he;rcases aO hd with ⟨i,rfl⟩ | ⟨x,rfl⟩ | ⟨m,_,z,_⟩
  ·rcases aO he with ⟨j,rfl⟩ | ⟨y,rfl⟩ | ⟨m,_,z,_⟩
   ·simp [V_]
   ·simp [V_]
   ·cases z
  ·rcases aO he with ⟨j,rfl⟩ | ⟨y,rfl⟩ | ⟨m,_,z,_⟩
   ·simp [V_]
   ·simp [V_]
   ·cases z
  ·cases z
 | succ n ih =>
  intro d e hd he;rcases aO hd with ⟨i,rfl⟩ | ⟨x,rfl⟩ | ⟨m,xs,z,rfl,hx⟩
  ·rcases aO he with ⟨j,rfl⟩ | ⟨y,rfl⟩ | ⟨m,ys,z,rfl,hy⟩<;>simp [V_]
  ·rcases aO he with ⟨j,rfl⟩ | ⟨y,rfl⟩ | ⟨m,ys,z,rfl,hy⟩<;>simp [V_]
  ·cases z
   rcases aO he with ⟨j,rfl⟩ | ⟨y,rfl⟩ | ⟨m,ys,z,rfl,hy⟩
   ·simp [V_]
   ·simp [V_]
   ·cases z
    have all:∀ xs ys:List P_,(∀ x∈xs,mv n x=true)->(∀ y∈ys,mv n y=true)->(abT xs ys=true↔xs=ys):=fun xs=>by
     induction xs with
     | nil=>intro ys _ _;cases ys<;>simp [abT]
     | cons x xs NB =>
      intro ys hx hy
      cases ys with
      | nil=>simp [abT]
      | cons y ys =>
       rw[ZI,v_,ih x y (hx x (3)) (hy y (3)),NB ys (fun z q=>hx z (by simp [q])) (fun z q=>hy z (by simp [q]))];simp
    rw[abQ,all xs ys hx hy];simp
def FO {n:Nat}{d e:P_} (hd:mv n d=true) (he:mv n e=true):V_ d e=decide (d=e):=by
 have h:=J8 n d e hd he
 cases q:V_ d e with
 | true=>rw[d_ (h.mp q)]
 | false=>rw[f_ fun z=>by rw[h.mpr z] at q;cases q]
def gD {h:Heap}{v:Value}{i:Int}{as:List Addr} (r:Reads h v (.int i) as):∃ t,v=.int i t:=by cases r;exact⟨_,rfl⟩
def gH {h:Heap}{v:Value}{x:Str}{as:List Addr} (r:Reads h v (.str x) as):∃ t,v=.str x t:=by cases r;exact⟨_,rfl⟩
def pv {h:Heap}{v:Value}{xs:List P_}{as:List Addr} (r:Reads h v (.tuple xs) as):∃ (a:Addr) (o:Obj) (vs:Array Value) (n:Nat),v=.ref a/\h.get? a=some o/\o.cls=aa2 "tuple" /\ o.data=agr vs n/\aci h vs.toList xs as:=by
 cases r with
 | tuple h1 h2 h3 h4=>exact⟨_,_,_,_,rfl,h1,h2,h3,h4⟩
def gJ {h:Heap}{vs:List Value}{d:P_}{ds:List P_}{as:List Addr} (r:aci h vs (d::ds) as):∃ v us a b,vs=v::us/\Reads h v d a/\aci h us ds b:=by
 cases r with
 | cons h1 h2=>exact⟨_,_,_,_,rfl,h1,h2⟩
def pw {h:Heap}{vs:List Value}{as:List Addr} (r:aci h vs [] as):vs=[]:=by cases r;rfl
def CV {h:Heap}:∀ (n:Nat) (v:Value) (d e:P_) (as bs:List Addr),mv n d=true->mv n e=true->Reads h v d as->Reads h v e bs->d=e:=fun n=>by
 induction n with
 | zero =>
  intro v d e as bs hd he r1 r2;rcases aO hd with ⟨i,rfl⟩ | ⟨x,rfl⟩ | ⟨m,_,z,_⟩
  ·obtain⟨t,rfl⟩:=gD r1
   cases r2;rfl
  ·obtain⟨t,rfl⟩:=gH r1
   cases r2;rfl
  ·cases z
 | succ n ih =>
  intro v d e as bs hd he r1 r2;rcases aO hd with ⟨i,rfl⟩ | ⟨x,rfl⟩ | ⟨m,xs,z,rfl,hx⟩
  ·obtain⟨t,rfl⟩:=gD r1
   cases r2;rfl
  ·obtain⟨t,rfl⟩:=gH r1
   cases r2;rfl
  ·cases z
   obtain⟨a,o,vs,k,rfl,g1,g2,g3,g4⟩:=pv r1;rcases aO he with ⟨j,rfl⟩ | ⟨y,rfl⟩ | ⟨m,ys,z,rfl,hy⟩
   ·obtain⟨t,q⟩:=gD r2;cases q
   ·obtain⟨t,q⟩:=gH r2;cases q
   ·cases z
    obtain⟨a',o',Y9,k',q,Vq,Za,Vr,Xs⟩:=pv r2
    cases q
    rw[g1] at Vq
    cases M_ Vq
    rw[g3] at Vr;injection Vr with g5 g6
    subst g5
    have all:∀ (xs ys:List P_) (vs:List Value) (as bs:List Addr),(∀ x∈xs,mv n x=true)->(∀ y∈ys,mv n y=true)->aci h vs xs as->aci h vs ys bs->xs=ys:=fun xs=>by
     induction xs with
     | nil =>
      intro ys vs as bs _ _ q1 q2
      cases pw q1
      cases ys with
      | nil=>rfl
      | cons y ys=>obtain⟨_,_,_,_,z,_⟩:=gJ q2;cases z
     | cons x xs NB =>
      intro ys vs as bs hx hy q1 q2;obtain⟨v,us,a1,b1,rfl,r1,r2⟩:=gJ q1
      cases ys with
      | nil=>cases pw q2
      | cons y ys =>
       obtain⟨v',Fw,a2,b2,z,r3,r4⟩:=gJ q2;injection z with z1 z2
       subst z1 z2;rw[ih v x y _ _ (hx x (3)) (hy y (3)) r1 r3,NB ys us _ _ (fun z q=>hx z (by simp [q])) (fun z q=>hy z (by simp [q])) r2 r4]
    rw[all xs ys _ _ _ hx hy g4 Xs]
theorem FP {h h':Heap}{d:Addr}{o:Obj}{es:Array DictEntry}{ep:Nat} (ho:h.get? d=some o) (hd:o.data=Data.dict es ep) (hs:aaT d h h') :
  ∀ (n:Nat) (v:Value) (e:P_) (as:List Addr),mv n e=true->Reads h v e as->∃ bs,Reads h' v e bs:=fun n=>by
 induction n with
 | zero =>
  intro v e as he r;rcases aO he with ⟨i,rfl⟩ | ⟨x,rfl⟩ | ⟨m,_,z,_⟩
  ·obtain⟨t,rfl⟩:=gD r;exact⟨_,.int _ _⟩
  ·obtain⟨t,rfl⟩:=gH r;exact⟨_,.str _ _⟩
  ·cases z
 | succ n ih =>
  intro v e as he r;rcases aO he with ⟨i,rfl⟩ | ⟨x,rfl⟩ | ⟨m,xs,z,rfl,hx⟩
  ·obtain⟨t,rfl⟩:=gD r;exact⟨_,.int _ _⟩
  ·obtain⟨t,rfl⟩:=gH r;exact⟨_,.str _ _⟩
  ·cases z
   obtain⟨a,o',vs,k,rfl,g1,g2,g3,g4⟩:=pv r
   have all:∀ (xs:List P_) (vs:List Value) (as:List Addr),(∀ x∈xs,mv n x=true)->aci h vs xs as->∃ bs,aci h' vs xs bs:=fun xs=>by
    induction xs with
    | nil=>intro vs as _ q;cases pw q;exact⟨_,.nil⟩
    | cons x xs NB =>
     intro vs as hx q;obtain⟨v,us,a1,b1,rfl,r1,r2⟩:=gJ q;obtain⟨_,p1⟩:=ih v x _ (hx x (3)) r1;obtain⟨_,p2⟩:=NB us _ (fun z q=>hx z (by simp [q])) r2;exact⟨_,.cons p1 p2⟩
   obtain⟨bs,q⟩:=all xs _ _ hx g4
   have ne:a≠d:=fun z=>by
    subst z;rw[ho] at g1
    cases M_ g1
    rw[hd] at g3;cases g3
   exact⟨_,.tuple ((hs.2 a ne).trans g1) g2 g3 q⟩
def v9 {s:j_}{a:Addr}{o:Obj} (h1:s.heap.get? a=some o) (h2:o.cls=aa2 "tuple"):s.TypeIs (.ref a) "tuple" := ⟨o,h1,h2⟩
theorem FQ {prog:N_}{w:World}{E:Value->j_->Prop}:∀ (n:Nat) (d:P_) (A:ZN) (s:j_) (v:Value) (as:List Addr) (Q:Int->j_->Prop),mv n d=true->Reads s.heap v d as->A.units+n<cLine ->
  Q (hP w n d) { s with toks:=s.toks+dP n d }->wpAny '3' A (pyHash v) Q E s:=fun n=>by
 induction n with
 | zero =>
  intro d A s v as Q hd r hu h;rcases aO hd with ⟨i,rfl⟩ | ⟨x,rfl⟩ | ⟨m,_,z,_⟩
  ·obtain⟨t,rfl⟩:=gD r;exact adQ h
  ·obtain⟨t,rfl⟩:=gH r;exact adR h
  ·cases z
 | succ n ih =>
  intro d A s v as Q hd r hu h;rcases aO hd with ⟨i,rfl⟩ | ⟨x,rfl⟩ | ⟨m,xs,z,rfl,hx⟩
  ·obtain⟨t,rfl⟩:=gD r;exact adQ h
  ·obtain⟨t,rfl⟩:=gH r;exact adR h
  ·cases z
   obtain⟨a,o,vs,k,rfl,g1,g2,g3,g4⟩:=pv r;have ht:=v9 g1 g2;show wpAny _ A (ac6 (.ref a)) Q E s;unfold ac6;refine c_ (wpAny_cRoomFor_or (.inr ∅) ?_);refine c_ (acn ht acK.lookup ?_);rw[beq_builtin_none];refine c_ (acn ht acK.lookup ?_);refine c_ (wpAny_callSpecialIfBoundUnlessNone?_slot ht acK ?_);refine aaB acK ht F.entry_tuple_hash ?_ (F.args_tuple_hash_1 _);unfold aco.«tuple.__hash__»;refine c_ ?_;refine q_ (a:=(Zq a,([]:List Value))) ?_;refine c_ (wpAny_tupleItemsOf g1 g3 ?_);rw[<-afl];refine c_ ?_;refine wpAny_forIn_list _ (fun us b t=>∃ done left cs,xs=done++left/\aci s.heap us left cs/\b.toList=done.map (hP w n)/\t={ s with toks:=s.toks+(done.map (dP n)).sum }) _ ?_ ?_ _ _ ⟨[],xs,as,rfl,g4,rfl,(3)⟩
   ·rintro x rest b t ⟨done,left,cs,e1,e2,e3,e4⟩;subst e4
    cases left with
    | nil=>cases pw e2
    | cons d left =>
     obtain⟨v,us,a1,b1,z,r1,r2⟩:=gJ e2
     cases z
     refine c_ (ih d _ _ _ a1 _ (hx d (by rw[e1];simp)) r1 (by show A.units+1+n<cLine;lia) ?_);refine q_ ⟨done++[d],left,b1,by rw[e1];simp,r2,by simp [e3],?_⟩;simp [Nat.add_assoc]
   ·rintro b t ⟨done,left,cs,e1,e2,e3,e4⟩;subst e4
    cases left with
    | cons d left=>obtain⟨_,_,_,_,z,_⟩:=gJ e2;cases z
    | nil =>
     rw[ZU] at e1;subst e1;refine wpAny_ret_mkInt ?_;show wpAny _ A (ac6.reduced _) Q E _;have hr:Q (reduceHash (aa_ b.toList)) { s with toks:=s.toks+((xs.map (dP n)).sum+1) }:=by rw[e3];exact h
     unfold reduceHash at hr;unfold ac6.reduced;by_cases c:(decide (-2 ^ 63<=aa_ b.toList)&&decide (aa_ b.toList<2 ^ 63))=true
     ·rw[z_ c] at hr ⊢;exact q_ hr
     ·rw[s_ c] at hr ⊢;exact c_ (wpAny_rule (q_ hr))
theorem CW {prog:N_}{w:World}{E:Value->j_->Prop}{A:ZN}:∀ (n m:Nat) (d:P_) (s:j_) (v:Value) (as:List Addr) (Q:Bool->j_->Prop),mv n d=true->Reads s.heap v d as->n<=m ->
  Q true s->wpAny '3' A (eqIsQuiet m v) Q E s:=fun n=>by
 induction n with
 | zero =>
  intro m d s v as Q hd r hm h;rcases aO hd with ⟨i,rfl⟩ | ⟨x,rfl⟩ | ⟨_,_,z,_⟩
  ·obtain⟨t,rfl⟩:=gD r;rw[acL m rfl];exact q_ h
  ·obtain⟨t,rfl⟩:=gH r;rw[acL m rfl];exact q_ h
  ·cases z
 | succ n ih =>
  intro m d s v as Q hd r hm h;rcases aO hd with ⟨i,rfl⟩ | ⟨x,rfl⟩ | ⟨k,xs,z,rfl,hx⟩
  ·obtain⟨t,rfl⟩:=gD r;rw[acL m rfl];exact q_ h
  ·obtain⟨t,rfl⟩:=gH r;rw[acL m rfl];exact q_ h
  ·cases z
   obtain⟨a,o,vs,k,rfl,g1,g2,g3,g4⟩:=pv r;obtain⟨m,rfl⟩:∃ j,m=j+1:=⟨m-1,∅⟩;have ht:=v9 g1 g2;rw[eqIsQuiet.eq_def];refine c_ (acn ht F.slot_tuple_eq.lookup ?_);refine c_ (wpAny_isInstance ht isSubtype_tuple_tuple ?_);refine c_ (aas g1 g3 ?_);refine c_ ?_;rw[<-afl];refine wpAny_forIn_list _ (fun us b t=>t=s/\b.1=none/\∃ left cs,aci s.heap us left cs/\∀ d∈left,mv n d=true) _ ?_ ?_ _ _ ⟨rfl,rfl,xs,as,g4,hx⟩
   ·rintro x rest b t ⟨rfl,e1,left,cs,e2,e3⟩
    cases left with
    | nil=>cases pw e2
    | cons d left =>
     obtain⟨v,us,a1,b1,z,r1,r2⟩:=gJ e2
     cases z
     refine c_ (ih m d _ _ a1 _ (e3 d (3)) r1 ∅ ?_);exact q_ ⟨rfl,rfl,left,b1,r2,fun y hy=>e3 y (by simp [hy])⟩
   ·rintro b t ⟨rfl,e1,left,cs,e2,e3⟩;obtain⟨b1,b2⟩:=b
    cases e1
    exact q_ h
def qR (d:P_):Prop:=mv 7 d=true/\L_ d=true
noncomputable def fX (prog:N_) (w:World):HeapKind prog w P_ where
 is:=fun h d a=>qR d/\∃ as,Reads h (.ref a) d as
 hash:=hP w 7
 draws:=dP 7
 room:=fun A=>A.units+64<cLine
 inj:=fun⟨h1,_,r1⟩ ⟨h2,_,r2⟩=>CV 7 _ _ _ _ _ h1.1 h2.1 r1 r2
 keeps:=fun⟨h1,_,r1⟩ ho hd hs=>⟨h1,FP ho hd hs 7 _ _ _ h1.1 r1⟩
 pyHash:=fun hu ⟨h1,as,r1⟩ h=>FQ 7 _ _ _ _ as _ h1.1 r1 ∅ h
 eqBool:=fun {A E s x y a b Q} hu ⟨h1,as,r1⟩ ⟨h2,bs,r2⟩ h=>by
  unfold eqBool;refine abq ?_;by_cases e:a=b
  ·subst e;have:=CV 7 _ _ _ _ _ h1.1 h2.1 r1 r2;subst this;rw[z_ (3)];refine c_ (wpAny_rule (q_ ?_));rw[d_ rfl] at h;exact h
  ·rw[s_ (by simpa using e)];refine c_ ?_;refine (show wpAny _ _ (ZF .Eq (.ref a) (.ref b)) _ _ _ from eq_dataH r1 r2 h1.2 h2.2 hu ?_);refine ZQ ?_;rw[FO h1.1 h2.1];exact h
 quiet:=fun⟨h1,as,r1⟩ h=>CW 7 8 _ _ _ as _ h1.1 r1 ∅ h
end PV
namespace PV
open PySem L2 SH
inductive Dt where
 | az | bl (b:Bool) | int (i:Int) | str (x:Str)
 | lst (xs:List Dt) | tup (xs:List Dt) | fS (xs:List Dt) | og (xs:List Dt) | sD (xs:List Dt) | qS (xs:List Dt)
 | obj (c:Nat) (fs:List Str) (xs:List Dt)
 | Hf (ks:List Int)
 | j3 (a:Addr)
inductive MO where
 | ml (xs:List Dt)
 | mo (c:Nat) (fs:List Str) (xs:List Dt)
 | md (kvs:List (P_×Dt))
noncomputable abbrev Mem:=Addr->m_ MO
structure Cl where
 a:Nat->Addr
 w:World
noncomputable instance:CoeFun Cl (fun _=>Nat->Addr):=⟨Cl.a⟩
noncomputable def cD (M:Mem) (a:Addr) (o:MO):Mem:=fun b=>if b=a then some o else M b
section
variable (K:e_) (cl:Cl) (G:Hp)
mutual
def Is:Dt->V->Prop
 | .az,v=>v=.az
 | .bl b,v=>v=.bl b
 | .int i,v=>v=.int i
 | .str x,v=>v=.str x
 | .lst ds,v=>∃ a vs,v=.ref a/\G a=some (.lst vs)/\IsL ds vs
 | .tup ds,v=>∃ a vs,v=.ref a/\G a=some (.tup vs)/\IsL ds vs
 | .og ds,v=>∃ a vs,v=.ref a/\cE K G a vs/\IsL ds vs
 | .sD ds,v=>∃ a vs,v=.ref a/\eV K G a vs/\IsL ds vs
 | .qS ds,v=>∃ a vs,v=.ref a/\Rd G a (.tup vs)/\IsL ds vs
 | .fS ds,v=>∃ a vs,v=.ref a/\yg G a vs/\IsL ds vs
 | .obj c fs ds,v=>∃ a dx vs,v=.ref a/\G a=some (.ins (cl c) dx (fs.zip vs))/\fs.length=ds.length/\IsL ds vs
 | .Hf ks,v=>∃ a kvs,v=.ref a/\G a=some (.dK kvs)/\∀ j:Int,(d5 kvs (abE j)).isSome=ks.contains j
 | .j3 a,v=>v=.ref a
def IsL:List Dt->List V->Prop
 | [],vs=>vs=[]
 | d::ds,vs=>∃ v r,vs=v::r/\Is d v/\IsL ds r
end
end
section
variable {K:e_}{cl:Cl}{G G':Hp}
mutual
theorem Is.mono (s:ag G G'):∀ {d:Dt}{v:V},Is K cl G d v->Is K cl G' d v
 | .az,_,h=>h
 | .bl _,_,h=>h
 | .int _,_,h=>h
 | .str _,_,h=>h
 | .lst ds,v,h=>by
  unfold Is at h ⊢;obtain⟨a,vs,e,q,r⟩:=h;exact⟨a,vs,e,s _ _ q,IsL.mono s r⟩
 | .tup ds,v,h=>by
  unfold Is at h ⊢;obtain⟨a,vs,e,q,r⟩:=h;exact⟨a,vs,e,s _ _ q,IsL.mono s r⟩
 | .og ds,v,h=>by
  unfold Is at h ⊢;obtain⟨a,vs,e,q,r⟩:=h;exact⟨a,vs,e,q.same s,IsL.mono s r⟩
 | .sD ds,v,h=>by
  unfold Is at h ⊢;obtain⟨a,vs,e,q,r⟩:=h;exact⟨a,vs,e,q.same s,IsL.mono s r⟩
 | .qS ds,v,h=>by
  unfold Is at h ⊢;obtain⟨a,vs,e,q,r⟩:=h;exact⟨a,vs,e,q.elim (fun z=>.inl (s _ _ z)) (fun⟨o,z⟩=>.inr ⟨o,s _ _ z⟩),IsL.mono s r⟩
 | .fS ds,v,h=>by
  unfold Is at h ⊢;obtain⟨a,vs,e,q,r⟩:=h;exact⟨a,vs,e,q.same s,IsL.mono s r⟩
 | .obj c fs ds,v,h=>by
  unfold Is at h ⊢;obtain⟨a,dx,vs,e,q,l,r⟩:=h;exact⟨a,dx,vs,e,s _ _ q,l,IsL.mono s r⟩
 | .Hf ks,v,h=>by
  unfold Is at h ⊢;obtain⟨a,kvs,e,q,r⟩:=h;exact⟨a,kvs,e,s _ _ q,r⟩
 | .j3 _,_,h=>h
theorem IsL.mono (s:ag G G'):∀ {ds:List Dt}{vs:List V},IsL K cl G ds vs->IsL K cl G' ds vs
 | [],_,h=>h
 | d::ds,vs,h=>by
  unfold IsL at h ⊢;obtain⟨v,r,e,h1,h2⟩:=h;exact⟨v,r,e,Is.mono s h1,IsL.mono s h2⟩
end
def IsL.nil:IsL K cl G [] []:=by unfold IsL;rfl
def IsL.cons {d:Dt}{v:V}{ds:List Dt}{vs:List V} (h:Is K cl G d v) (t:IsL K cl G ds vs):IsL K cl G (d::ds) (v::vs):=by unfold IsL;exact⟨v,vs,rfl,h,t⟩
theorem IsL.length:∀ {ds:List Dt}{vs:List V},IsL K cl G ds vs->ds.length=vs.length
 | [],vs,h=>by unfold IsL at h;rw[h];rfl
 | d::ds,vs,h=>by
  unfold IsL at h;obtain⟨v,r,rfl,h1,h2⟩:=h;rw[x_,x_,IsL.length h2]
theorem IsL.get:∀ {ds:List Dt}{vs:List V}{i:Nat}{d:Dt},IsL K cl G ds vs->ds[i]? = some d->∃ v,vs[i]? = some v/\Is K cl G d v
 | [],vs,i,d,h,e=>by simp at e
 | d'::ds,vs,i,d,h,e=>by
  unfold IsL at h;obtain⟨v,r,rfl,h1,h2⟩:=h
  cases i with
  | zero=>simp at e;subst e;exact⟨v,rfl,h1⟩
  | succ i=>exact IsL.get (i:=i) h2 (by simpa using e)
theorem IsL.get':∀ {ds:List Dt}{vs:List V}{i:Nat}{v:V},IsL K cl G ds vs->vs[i]? = some v->∃ d,ds[i]? = some d/\Is K cl G d v
 | [],vs,i,v,h,e=>by unfold IsL at h;subst h;simp at e
 | d'::ds,vs,i,v,h,e=>by
  unfold IsL at h;obtain⟨v',r,rfl,h1,h2⟩:=h
  cases i with
  | zero=>simp at e;subst e;exact⟨d',rfl,h1⟩
  | succ i=>exact IsL.get' (i:=i) h2 (by simpa using e)
theorem IsL.append:∀ {ds es:List Dt}{vs us:List V},IsL K cl G ds vs->IsL K cl G es us->IsL K cl G (ds++es) (vs++us)
 | [],es,vs,us,h,t=>by unfold IsL at h;subst h;exact t
 | d::ds,es,vs,us,h,t=>by
  unfold IsL at h;obtain⟨v,r,rfl,h1,h2⟩:=h;exact IsL.cons h1 (IsL.append h2 t)
theorem IsL.take:∀ {ds:List Dt}{vs:List V} (n:Nat),IsL K cl G ds vs->IsL K cl G (ds.take n) (vs.take n)
 | ds,vs,0,h=>by rw[aat,aat];exact IsL.nil
 | [],vs,n+1,h=>by unfold IsL at h;subst h;exact IsL.nil
 | d::ds,vs,n+1,h=>by
  unfold IsL at h;obtain⟨v,r,rfl,h1,h2⟩:=h;exact IsL.cons h1 (IsL.take n h2)
theorem IsL.drop:∀ {ds:List Dt}{vs:List V} (n:Nat),IsL K cl G ds vs->IsL K cl G (ds.drop n) (vs.drop n)
 | ds,vs,0,h=>h
 | [],vs,n+1,h=>by unfold IsL at h;subst h;exact IsL.nil
 | d::ds,vs,n+1,h=>by
  unfold IsL at h;obtain⟨v,r,rfl,h1,h2⟩:=h;exact IsL.drop n h2
noncomputable def cutD (xs:List Dt) (lo hi:m_ Int):List Dt:=(xs.drop (HT.bJ xs.length 0 lo)).take (HT.bJ xs.length xs.length hi-HT.bJ xs.length 0 lo)
def IsL.cut {ds:List Dt}{vs:List V} (lo hi:m_ Int) (h:IsL K cl G ds vs):IsL K cl G (cutD ds lo hi) (kU vs lo hi):=by
 unfold cutD kU;rw[h.length];exact (h.drop _).take _
theorem IsL.at {ds:List Dt}{vs:List V}{i:Int}{d:Dt} (h:IsL K cl G ds vs) (e:n6 ds i=some d):∃ v,n6 vs i=some v/\Is K cl G d v:=by
 unfold n6 at e ⊢;rw[<-h.length]
 cases q:EC ds.length i with
 | none=>rw[q] at e;cases e
 | some j=>rw[q] at e;exact h.get e
theorem IsL.ints:∀ (ns:List Int),IsL K cl G (ns.map Dt.int) (ns.map V.int)
 | []=>IsL.nil
 | n::ns=>IsL.cons (by unfold Is;rfl) (IsL.ints ns)
theorem IsL.zE:∀ {ns:List Int}{vs:List V},IsL K cl G (ns.map Dt.int) vs->vs=ns.map V.int
 | [],vs,h=>by simp only[Z_] at h;unfold IsL at h;exact h
 | n::ns,vs,h=>by
  simp only[r_] at h;unfold IsL at h;obtain⟨v,r,rfl,h1,h2⟩:=h;unfold Is at h1;rw[r_,h1,IsL.zE h2]
theorem IsL.ym:∀ {ns:List Bool}{vs:List V},IsL K cl G (ns.map Dt.bl) vs->vs=ns.map V.bl
 | [],vs,h=>by simp only[Z_] at h;unfold IsL at h;exact h
 | n::ns,vs,h=>by
  simp only[r_] at h;unfold IsL at h;obtain⟨v,r,rfl,h1,h2⟩:=h;unfold Is at h1;rw[r_,h1,IsL.ym h2]
theorem IsL.zF:∀ {ns:List Str}{vs:List V},IsL K cl G (ns.map Dt.str) vs->vs=ns.map V.str
 | [],vs,h=>by simp only[Z_] at h;unfold IsL at h;exact h
 | n::ns,vs,h=>by
  simp only[r_] at h;unfold IsL at h;obtain⟨v,r,rfl,h1,h2⟩:=h;unfold Is at h1;rw[r_,h1,IsL.zF h2]
noncomputable def mw:Dt->m_ (List Dt)
 | .lst ds=>some ds
 | .og ds=>some ds
 | _=>none
noncomputable def tZ:Dt->m_ (List Dt)
 | .tup ds=>some ds
 | .fS ds=>some ds
 | .sD ds=>some ds
 | .qS ds=>some ds
 | _=>none
def Is.EF {d:Dt}{v:V}{ds:List Dt} (h:Is K cl G d v) (e:mw d=some ds):∃ a vs,v=.ref a/\cE K G a vs/\IsL K cl G ds vs:=by
 cases d<;>first | (cases e;done) | skip
 ·cases e;unfold Is at h;obtain⟨a,vs,e,q,r⟩:=h;exact⟨a,vs,e,cE.of q,r⟩
 ·cases e;unfold Is at h;exact h
def Is.LX {d:Dt}{v:V}{ds:List Dt} (h:Is K cl G d v) (e:tZ d=some ds):∃ a vs,v=.ref a/\eV K G a vs/\IsL K cl G ds vs:=by
 cases d<;>first | (cases e;done) | skip
 ·cases e;unfold Is at h;obtain⟨a,vs,e,q,r⟩:=h;exact⟨a,vs,e,eV.of q,r⟩
 ·cases e;unfold Is at h;obtain⟨a,vs,e,q,r⟩:=h;exact⟨a,vs,e,q.sq,r⟩
 ·cases e;unfold Is at h;exact h
 ·cases e;unfold Is at h;obtain⟨a,vs,e,q,r⟩:=h;exact⟨a,vs,e,.inl q,r⟩
end
section
variable (K:e_) (cl:Cl)
noncomputable def qT (w:World) (a:Addr) (xs:List (P_×Addr×Value)):HO:=.ext fun h=>∃ o es ep,h.get? a=some o/\o.ExactDict/\o.data=.dict es ep/\es.toList=xs.map fun x=>({ hash:=hP w 7 x.1,key:=.ref x.2.1,val:=x.2.2 }:DictEntry)
def DP (G:Hp):List (P_×Dt)->List (P_×Addr×Value)->Prop:=ad1 fun p q=>p.1=q.1/\qR q.1/\cF K G (.ref q.2.1) q.1/\∃ v,RelV v q.2.2/\Is K cl G p.2 v
def nj (G H:Hp) (a:Addr) (kvs:List (P_×Dt)):Prop:=(a==abo)=false/\kvs.length<=sizeLine/\∃ xs,H a=some (qT cl.w a xs)/\(xs.map (·.1)).Nodup/\DP K cl G kvs xs
def cj (G H:Hp) (a:Addr):MO->Prop
 | .ml ds=>∃ vs,H a=some (.lst vs)/\IsL K cl G ds vs
 | .mo c fs ds=>∃ dx vs,H a=some (.ins (cl c) dx (fs.zip vs))/\fs.length=ds.length/\IsL K cl G ds vs
 | .md kvs=>nj K cl G H a kvs
def bG (G H:Hp) (M:Mem):Prop:=∀ a o,M a=some o->G a=none/\cj K cl G H a o
noncomputable def zG:MO->Nat×Nat×List Str
 | .ml _=>(0,0,[])
 | .mo c fs _=>(1,c,fs)
 | .md _=>(2,0,[])
structure bc (sf:m_ Addr) (G H:Hp) (M:Mem) (G' H':Hp) (M':Mem):Prop where
 g:ag G G'
 gh:ag G' H'
 lr:∀ a o,H a=some o->∃ o',H' a=some o'
 gf:∀ a o,G' a=some o->G a=none->H a=none
 h:∀ a o,H a=some o->M a=none->sf≠some a->H' a=some o
 mem:bG K cl G' H' M'
 mf:∀ a o,M' a=some o->M a=none->H a=none
 ke:∀ a o,M a=some o->∃ o',M' a=some o'/\zG o'=zG o
end
section
variable {K:e_}{cl:Cl}
theorem DP.mono {G G':Hp} (s:ag G G'):∀ {kvs:List (P_×Dt)}{xs:List (P_×Addr×Value)},DP K cl G kvs xs->DP K cl G' kvs xs
 | _,_,.nil=>.nil
 | _,_,.cons ⟨h1,h2,h3,v,h4,h5⟩ t=>.cons ⟨h1,h2,h3.same s,v,h4,h5.mono s⟩ (DP.mono s t)
def cj.lr {G H:Hp}{a:Addr}{o:MO} (h:cj K cl G H a o):∃ u,H a=some u:=by
 cases o with
 | ml ds=>obtain⟨vs,e,_⟩:=h;exact⟨_,e⟩
 | mo c fs ds=>obtain⟨dx,vs,e,_⟩:=h;exact⟨_,e⟩
 | md kvs=>obtain⟨_,_,xs,e,_⟩:=h;exact⟨_,e⟩
theorem cj.mono {G H G' H':Hp}{a:Addr}{o:MO} (h:cj K cl G H a o) (s:ag G G') (e:∀ u,H a=some u->H' a=some u):cj K cl G' H' a o:=by
 cases o with
 | ml ds=>obtain⟨vs,q,r⟩:=h;exact⟨vs,e _ q,r.mono s⟩
 | mo c fs ds=>obtain⟨dx,vs,q,l,r⟩:=h;exact⟨dx,vs,e _ q,l,r.mono s⟩
 | md kvs=>obtain⟨h1,h2,xs,q,n,r⟩:=h;exact⟨h1,h2,xs,e _ q,n,r.mono s⟩
theorem bc.refl {sf:m_ Addr}{G H:Hp}{M:Mem} (gh:ag G H) (m:bG K cl G H M):bc K cl sf G H M G H M :=
 ⟨ag.refl G,gh,fun a o h=>⟨o,h⟩,fun a o h n=>absurd h (by rw[n];exact fun z=>nomatch z),fun a o h _ _=>h,m,fun a o h n=>absurd h (by rw[n];exact fun z=>nomatch z),fun a o h=>⟨o,h,rfl⟩⟩
def bB {H H':Hp}{a:Addr} (d:∀ a o,H a=some o->∃ o',H' a=some o') (n:H' a=none):H a=none:=by
 cases e:H a with
 | none=>rfl
 | some o=>obtain⟨o',e'⟩:=d a o e;rw[n] at e';cases e'
theorem bc.trans {sf:m_ Addr}{G H G1 H1 G2 H2:Hp}{M M1 M2:Mem} (x:bc K cl sf G H M G1 H1 M1) (y:bc K cl none G1 H1 M1 G2 H2 M2):bc K cl sf G H M G2 H2 M2 where
 g:=x.g.trans y.g
 gh:=y.gh
 lr:=fun a o h=>let ⟨o',h'⟩:=x.lr a o h;y.lr a o' h'
 gf:=fun a o h n=>by
  cases e:G1 a with
  | none=>exact bB x.lr (y.gf a o h e)
  | some u=>exact x.gf a u e n
 h:=fun a o h m n=>by
  have h1:=x.h a o h m n
  cases e:M1 a with
  | none=>exact y.h a o h1 e (6)
  | some u=>exact absurd (x.mf a u e m) (by rw[h];exact fun z=>nomatch z)
 mem:=y.mem
 mf:=fun a o h n=>by
  cases e:M1 a with
  | none=>exact bB x.lr (y.mf a o h e)
  | some u=>exact x.mf a u e n
 ke:=fun a o h=>let ⟨o',h',e⟩:=x.ke a o h;let ⟨o2,h2,e2⟩:=y.ke a o' h';⟨o2,h2,e2.trans e⟩
end
inductive Sl where
 | no | sh (d:Dt) | ow (d:Dt)
noncomputable abbrev En:=List Sl
noncomputable def J9:Dt->m_ MO
 | .lst ds=>some (.ml ds)
 | .obj c fs ds=>some (.mo c fs ds)
 | _=>none
structure Bs where
 G:Hp
 H:Hp
 M:Mem
 sf:m_ Addr
section
variable (K:e_) (cl:Cl)
def CY (B:Bs) (M:Mem) (G H:Hp) (i:Nat) (a:Addr) (d:Dt):Prop:=G a=none/\M a=none/\(B.H a=none∨(B.sf=some a/\i=0))/\∃ o,J9 d=some o/\cj K cl G H a o
structure Rep (B:Bs) (ρ:En) (M:Mem) (σ:St) (H G:Hp):Prop where
 b5:bc K cl B.sf B.G B.H B.M G H M
 len:ρ.length=σ.length
 s0:∀ a,B.sf=some a->σ[(0:Nat)]? = some (some (.ref a))
 sh:∀ (i:Nat) d,ρ[i]? = some (Sl.sh d)->∃ v,σ[i]? = some (some v)/\Is K cl G d v
 ow:∃ oa:Nat->Addr,(∀ (i:Nat) d,ρ[i]? = some (Sl.ow d)->σ[i]? = some (some (.ref (oa i)))/\CY K cl B M G H i (oa i) d)/\∀ (i j:Nat) d e,ρ[i]? = some (Sl.ow d)->ρ[j]? = some (Sl.ow e)->oa i=oa j->i=j
end
section
variable {K:e_}{cl:Cl}{B:Bs}{ρ:En}{M M':Mem}{σ:St}{H G H' G':Hp}
def CY.b5 {i:Nat}{a:Addr}{d:Dt} (h:CY K cl B M G H i a d) (f:bc K cl none G H M G' H' M'):CY K cl B M' G' H' i a d:=by
 obtain⟨h1,h2,h3,o,h4,h5⟩:=h;obtain⟨u,hu⟩:=h5.lr;refine⟨?_,?_,h3,o,h4,h5.mono f.g fun u e=>f.h a u e h2 (6)⟩
 ·cases e:G' a with
  | none=>rfl
  | some w=>exact absurd (f.gf a w e h1) (by rw[hu];exact fun z=>nomatch z)
 ·cases e:M' a with
  | none=>rfl
  | some w=>exact absurd (f.mf a w e h2) (by rw[hu];exact fun z=>nomatch z)
def Rep.on (r:Rep K cl B ρ M σ H G) (f:bc K cl none G H M G' H' M'):Rep K cl B ρ M' σ H' G':=by
 obtain⟨oa,h1,h2⟩:=r.ow;exact⟨r.b5.trans f,r.len,r.s0,fun i d e=>let ⟨v,e1,e2⟩:=r.sh i d e;⟨v,e1,e2.mono f.g⟩,oa,fun i d e=>⟨(h1 i d e).1,(h1 i d e).2.b5 f⟩,h2⟩
def Rep.self (r:Rep K cl B ρ M σ H G):bc K cl none G H M G H M:=bc.refl r.b5.gh r.b5.mem
def bc.lay {p:Addr}{o:HO} (gh:ag G H) (m:bG K cl G H M) (hp:H p=none):bc K cl none G H M (upd G p o) (upd H p o) M:=by
 have gp:G p=none:=bB (fun a o h=>⟨o,gh a o h⟩) hp;refine⟨ag.put gp,fun a u e=>?_,fun a u e=>⟨u,ag.put hp a u e⟩,fun a u e n=>?_,fun a u e _ _=>ag.put hp a u e,fun a u e=>?_,fun a u e n=>absurd e (by rw[n];exact fun z=>nomatch z),fun a o h=>⟨o,h,rfl⟩⟩
 ·unfold upd at e ⊢;by_cases z:a=p
  ·rw[z_ z] at e ⊢;exact e
  ·rw[s_ z] at e ⊢;exact gh a u e
 ·unfold upd at e;by_cases z:a=p
  ·rw[z];exact hp
  ·rw[s_ z,n] at e;cases e
 ·obtain⟨h1,h2⟩:=m a u e;obtain⟨w,hw⟩:=h2.lr;have ne:a≠p:=aB hw hp;exact⟨by rw[av ne];exact h1,h2.mono (ag.put gp) fun x e=>by rw[av ne];exact e⟩
end
inductive t6 where | add | sub | mul | fdiv | mod | pow | shr
inductive qU where | lt | le | gt | ge | FR | wa
noncomputable abbrev bH:=List Dt->Mem->(Dt->Mem->Prop)->Prop
structure Gm where
 fn:Nat->bH
 fo:Nat->List Dt->Mem->(List Dt->Mem->Prop)->Prop
 me:Nat->bH
 bp:Nat->Dt->List Dt->Mem->(Dt->Mem->Prop)->Prop
 cs:Nat->Dt
 at_:Nat->Str->Bool
 hm:Nat->Nat->List Str->Bool
noncomputable abbrev Rt:=List Dt->Mem->Prop
noncomputable def xr (ng c:Bool):Bool:=match ng with | true => !c | false=>c
noncomputable def C:Type:=Gm->En->Mem->Rt->Prop
def ev (Z:Gm) (c:C):En->Mem->Rt->Prop:=c Z
def aM (ds:List Dt) (k:Dt->Prop):Prop:=match ds with | [d]=>k d | _=>False
noncomputable def cy:Dt->(Bool->Prop)->Prop | .bl b,R=>R b | _,_=>False
noncomputable def intD:Dt->(Int->Prop)->Prop | .int b,R=>R b | _,_=>False
noncomputable def wb:Dt->(Str->Prop)->Prop | .str b,R=>R b | _,_=>False
noncomputable def mz (d:Dt):m_ (List Dt):=match mw d with | some ds=>some ds | none=>tZ d
noncomputable def lstK:Dt->(List Dt->Prop)->Prop | .lst ds,R=>R ds | _,_=>False
noncomputable def t7:Dt->m_ (List Dt)
 | .tup ds=>some ds
 | .fS ds=>some ds
 | .qS ds=>some ds
 | _=>none
def lx (o:m_ (List Dt)) (R:List Dt->Prop):Prop:=match o with | some ds=>R ds | none=>False
def pA (ρ:En) (k:Nat) (R:Dt->Prop):Prop:=match ρ[k]? with | some (.sh d)=>R d | _=>False
def dv (ρ:En) (k:Nat) (R:Dt->Prop):Prop:=match ρ[k]? with | some (.ow d)=>R d | _=>False
def binI:t6->Int->Int->(Dt->Prop)->Prop
 | .add,i,j,R=>R (.int (i+j))
 | .sub,i,j,R=>R (.int (i-j))
 | .mul,i,j,R=>tK i j/\R (.int (i*j))
 | .fdiv,i,j,R=>B3 i j/\R (.int (i / j))
 | .mod,i,j,R=>0<j/\R (.int (i % j))
 | .pow,i,j,R=>EZ i j/\R (.int (i ^ j.toNat))
 | .shr,i,j,R=>0<=j/\R (.int (i / 2 ^ j.toNat))
def xJ (d:Dt) (R:Int->Prop):Prop:=match d with | .int j=>R j | _=>False
def SS (d:Dt) (R:Str->Prop):Prop:=match d with | .str j=>R j | _=>False
def pB (op:t6) (x y:Dt) (R:Dt->Prop):Prop:=match x with
 | .int i=>xJ y fun j=>binI op i j R
 | .str i=>SS y fun j=>match op with | .add=>i.length+j.length<=sizeLine/\R (.str (i++j)) | _=>False
 | _=>False
noncomputable def Hg:Dt->Bool
 | .az=>true
 | _=>false
def j6 (op:qU) (x y:Dt) (R:Bool->Prop):Prop:=match op with
 | .lt=>xJ x fun i=>xJ y fun j=>R (decide (i<j))
 | .le=>xJ x fun i=>xJ y fun j=>R (decide (i<=j))
 | .gt=>xJ x fun i=>xJ y fun j=>R (decide (j<i))
 | .ge=>xJ x fun i=>xJ y fun j=>R (decide (j<=i))
 | .FR=>y=.az/\R (Hg x)
 | .wa=>y=.az/\R (!Hg x)
mutual
noncomputable def toP:Dt->m_ P_
 | .az=>some .none
 | .bl b=>some (.bool b)
 | .int i=>some (.int i)
 | .str x=>some (.str x)
 | .lst ds=>(toPs ds).map .list
 | .og ds=>(toPs ds).map .list
 | .tup ds=>(toPs ds).map .tuple
 | .fS ds=>(toPs ds).map .tuple
 | .sD ds=>(toPs ds).map .tuple
 | .qS ds=>(toPs ds).map .tuple
 | _=>none
noncomputable def toPs:List Dt->m_ (List P_)
 | []=>some []
 | d::ds=>match toP d,toPs ds with
  | some p,some ps=>some (p::ps)
  | _,_=>none
end
noncomputable def toPH (M:Mem):Dt->m_ P_
 | .j3 a=>(match M a with | some (.ml xs)=>(toPs xs).map .list | _=>none)
 | d=>toP d
noncomputable def toPHs (M:Mem):List Dt->m_ (List P_)
 | []=>some []
 | d::ds=>match toPH M d,toPHs M ds with
  | some p,some ps=>some (p::ps)
  | _,_=>none
noncomputable def toPT (M:Mem):Dt->m_ P_
 | .tup ds=>(toPHs M ds).map .tuple
 | d=>toP d
def Xt (M:Mem) (x y:Dt) (R:Bool->Prop):Prop:=∃ p q,toPT M x=some p/\toPT M y=some q/\L_ p=true/\L_ q=true/\R (V_ p q)
mutual
noncomputable def QS:Dt->Bool
 | .lst _=>false
 | .og _=>false
 | .tup ds=>wc ds
 | .fS ds=>wc ds
 | .sD ds=>wc ds
 | .qS ds=>wc ds
 | .obj _ _ ds=>wc ds
 | _=>true
noncomputable def wc:List Dt->Bool
 | []=>true
 | d::ds=>QS d&&wc ds
end
noncomputable def Xu:MO->Bool
 | .ml xs=>wc xs
 | .mo _ _ xs=>wc xs
 | .md kvs=>kvs.all fun p=>QS p.2
def Vs (M:Mem):Prop:=∀ a o,M a=some o->Xu o=true
noncomputable def SU:Dt->Dt->m_ Bool
 | .int i,.int j=>some (decide (i=j))
 | .str i,.str j=>some (decide (i=j))
 | .bl i,.bl j=>some (decide (i=j))
 | _,_=>none
def we (x y:Dt) (R:Bool->Prop):Prop:=match SU x y with
 | some b=>R b
 | none=>∃ p q,toP x=some p/\toP y=some q/\L_ p=true/\L_ q=true/\R (V_ p q)
noncomputable def pC:Dt->Bool
 | .az=>true | .bl _=>true | .int _=>true | .str _=>true | _=>false
noncomputable def Ka:Dt->V
 | .bl b=>.bl b | .int i=>.int i | .str x=>.str x | _=>.az
noncomputable def FT (d e:Dt):Bool:=AK (Ka d) (Ka e)
def Bg (x y:Dt) (R:Bool->Prop):Prop :=
 (∃ ds,mz y=some ds/\pC x=true/\ds.all pC=true/\R (ds.any fun z=>FT z x)) ∨
 (∃ ds p ps,mw y=some ds/\toP x=some p/\toPs ds=some ps/\L_ p=true/\(∀ e∈ps,L_ e=true)/\R (ps.any fun e=>V_ e p))
def Kb:Dt->(Bool->Prop)->Prop
 | .bl b,R=>R b
 | .int i,R=>R (i != 0)
 | .lst ds,R=>R (!ds.isEmpty)
 | .og ds,R=>R (!ds.isEmpty)
 | .tup ds,R=>R (!ds.isEmpty)
 | _,_=>False
def t9:Dt->(Nat->Prop)->Prop
 | .str x,R=>x.length<=sizeLine/\R x.length
 | .lst ds,R=>R ds.length
 | .og ds,R=>R ds.length
 | .tup ds,R=>R ds.length
 | .fS ds,R=>R ds.length
 | .sD ds,R=>R ds.length
 | .qS ds,R=>R ds.length
 | _,_=>False
def atK (ds:List Dt) (i:Int) (R:Dt->Prop):Prop:=∃ e,n6 ds i=some e/\R e
def ly:Dt->Int->(Dt->Prop)->Prop
 | .str z,i,R=>z.length<=sizeLine/\∃ c,n6 z.cps.toList i=some c/\R (.str ⟨#[c]⟩)
 | .lst ds,i,R=>atK ds i R
 | .og ds,i,R=>atK ds i R
 | .tup ds,i,R=>atK ds i R
 | .fS ds,i,R=>atK ds i R
 | .sD ds,i,R=>atK ds i R
 | .qS ds,i,R=>atK ds i R
 | _,_,_=>False
def fq (Z:Gm) (f:Str):Dt->(Dt->Prop)->Prop
 | .obj c fs ds,R=>Z.at_ c f=true/\∃ d,(fs.zip ds).lookup f=some d/\R d
 | _,_=>False
noncomputable def isiN:Dt->m_ Nat
 | .int _=>some 0 | .bl _=>some 1 | .str _=>some 2 | .lst _=>some 3 | .tup _=>some 4 | .az=>some 5 | _=>none
def isiD (t:Nat) (d:Dt) (R:Bool->Prop):Prop:=match isiN d with | some n=>R (n==t||(n==1&&t==0)) | none=>False
def SV (M:Mem):Dt->(Dt->Prop)->Prop
 | .j3 a,R=>match M a with
  | some (.ml xs)=>R (.lst xs)
  | some (.mo c fs xs)=>R (.obj c fs xs)
  | _=>False
 | _,_=>False
def pD:List Dt->(m_ Int->Prop)->Prop
 | [],R=>R none
 | [.int i],R=>R (some i)
 | _,_=>False
noncomputable def iV (ρ:En) (j:Nat):Sl:=match ρ[j]? with | some (.sh d)=>.sh d | _=>.no
def CZ (ρ:En) (w:Nat) (ix:List Nat) (x:Dt) (k:En->Prop):Prop :=
 match w,x with
 | 1,d=>k (.sh d::ix.map (iV ρ))
 | 2,.tup [d,e]=>k (.sh d::.sh e::ix.map (iV ρ))
 | _,_=>False
def eE (f:Dt->Mem->(m_ Dt->Mem->Prop)->Prop):List Dt->Mem->Rt->Prop
 | [],M,R=>R [] M
 | x::xs,M,R=>f x M fun o M1=>eE f xs M1 fun ds M2=>R (o.toList++ds) M2
noncomputable def bO (lo:Int) (n:Nat):List Dt:=(Zo n).map fun (k:Nat)=>.int (lo+(k:Int))
noncomputable def ua (z:Str):List Dt:=z.cps.toList.map fun c=>.str ⟨#[c]⟩
def FU:Dt->(List Dt->Prop)->Prop
 | .str z,R=>R (ua z)
 | .lst ds,R=>R ds
 | .og ds,R=>R ds
 | .tup ds,R=>R ds
 | .fS ds,R=>R ds
 | .sD ds,R=>R ds
 | .qS ds,R=>R ds
 | _,_=>False
noncomputable def pE:Dt->(Nat->List Str->List Dt->Prop)->Prop | .obj c fs ds,R=>R c fs ds | _,_=>False
noncomputable def Kc:Dt->(List Dt->Prop)->Prop | .fS ds,R=>R ds | _,_=>False
def fY (M:Mem):Dt->(Nat->List Str->Prop)->Prop
 | .obj c fs _,R=>R c fs
 | .j3 a,R=>(match M a with | some (.mo c fs _)=>R c fs | _=>False)
 | _,_=>False
def FV (M:Mem):Dt->(Addr->List Dt->Prop)->Prop
 | .j3 p,R=>(match M p with | some (.ml ds)=>R p ds | _=>False)
 | _,_=>False
def NC (M:Mem):Dt->(Addr->List (P_×Dt)->Prop)->Prop
 | .j3 p,R=>(match M p with | some (.md kvs)=>R p kvs | _=>False)
 | _,_=>False
def FW (d:Dt) (R:P_->Prop):Prop:=∃ ps,toP d=some (.tuple ps)/\qR (.tuple ps)/\R (.tuple ps)
noncomputable def iW (kvs:List (P_×Dt)) (p:P_):m_ Dt:=(kvs.find? fun kv=>decide (kv.1=p)).map (·.2)
def LY (i:Int):Prop := -(2 ^ 62)<=i/\i<2 ^ 62
def C.i (n:Int):C:=fun Z _ M R=>R [.int n] M
def C.s (x:Str):C:=fun Z _ M R=>R [.str x] M
def C.b (x:Bool):C:=fun Z _ M R=>R [.bl x] M
def C.n:C:=fun Z _ M R=>R [.az] M
def C.nev:C:=fun Z _ _ _=>False
def C.v (k:Nat):C:=fun Z ρ M R=>pA ρ k fun d=>R [d] M
def C.o (k:Nat):C:=fun Z ρ M R=>dv ρ k fun d=>R [d] M
def C.d (c:C):C:=fun Z ρ M R=>ev Z c ρ M fun ds M1=>aM ds fun d=>SV M1 d fun e=>R [e] M1
def C.g (k:Nat):C:=fun Z _ M R=>R [Z.cs k] M
def C.nil:C:=fun Z _ M R=>R [] M
def C.cons (a:C) (r:C):C:=fun Z ρ M R=>ev Z a ρ M fun ds M1=>aM ds fun d=>ev Z r ρ M1 fun es M2=>R (d::es) M2
def C.bin (op:t6) (a:C) (b:C):C:=fun Z ρ M R=>ev Z a ρ M fun x M1=>aM x fun x=>ev Z b ρ M1 fun y M2=>aM y fun y=>pB op x y fun d=>R [d] M2
def C.neg (a:C):C:=fun Z ρ M R=>ev Z a ρ M fun x M1=>aM x fun x=>intD x fun i=>R [.int (-i)] M1
def C.cmp (op:qU) (a:C) (b:C):C:=fun Z ρ M R=>ev Z a ρ M fun x M1=>aM x fun x=>ev Z b ρ M1 fun y M2=>aM y fun y=>j6 op x y fun c=>R [.bl c] M2
def C.chn (o1:qU) (o2:qU) (a:C) (b:C) (c:C):C:=fun Z ρ M R=>ev Z a ρ M fun x M1=>aM x fun x=>ev Z b ρ M1 fun y M2=>aM y fun y=>j6 o1 x y fun k =>
   if k=true then ev Z c ρ M2 fun z M3=>aM z fun z=>j6 o2 y z fun k=>R [.bl k] M3 else R [.bl false] M2
def C.eq (ng:Bool) (a:C) (b:C):C:=fun Z ρ M R=>ev Z a ρ M fun x M1=>aM x fun x=>ev Z b ρ M1 fun y M2=>aM y fun y=>we x y fun c=>R [.bl (xr ng c)] M2
def C.eqh (ng:Bool) (a:C) (b:C):C:=fun Z ρ M R=>ev Z a ρ M fun x M1=>aM x fun x=>ev Z b ρ M1 fun y M2=>aM y fun y=>Xt M2 x y fun c=>R [.bl (xr ng c)] M2
def C.inn (ng:Bool) (a:C) (b:C):C:=fun Z ρ M R=>ev Z a ρ M fun x M1=>aM x fun x=>ev Z b ρ M1 fun y M2=>aM y fun y=>Bg x y fun c=>R [.bl (xr ng c)] M2
def C.ins (a:C) (b:C):C:=fun Z ρ M R=>ev Z a ρ M fun x M1=>aM x fun x=>ev Z b ρ M1 fun y M2=>aM y fun y=>wb x fun i=>wb y fun j=>R [.bl (!(aaK j i 0 j.length 1).isEmpty)] M2
def C.ind (a:C) (b:C):C:=fun Z ρ M R=>ev Z a ρ M fun x M1=>aM x fun x=>ev Z b ρ M1 fun y M2=>aM y fun y=>intD x fun i=>match y with | .Hf ks=>R [.bl (ks.contains i)] M2 | _=>False
def C.one (a:C):C:=fun Z ρ M R=>ev Z a ρ M R
def C.and (a:C) (b:C):C:=fun Z ρ M R=>ev Z a ρ M fun x M1=>aM x fun x=>cy x fun c=>if c=true then ev Z b ρ M1 R else R [.bl false] M1
def C.or (a:C) (b:C):C:=fun Z ρ M R=>ev Z a ρ M fun x M1=>aM x fun x=>cy x fun c=>if c=true then R [.bl true] M1 else ev Z b ρ M1 R
def C.not (a:C):C:=fun Z ρ M R=>ev Z a ρ M fun x M1=>aM x fun x=>cy x fun c=>R [.bl (!c)] M1
def C.tr (a:C):C:=fun Z ρ M R=>ev Z a ρ M fun x M1=>aM x fun x=>Kb x fun c=>R [.bl c] M1
def C.ife (t:C) (a:C) (b:C):C:=fun Z ρ M R=>ev Z t ρ M fun x M1=>aM x fun x=>cy x fun c=>if c=true then ev Z a ρ M1 R else ev Z b ρ M1 R
def C.tup (a:C):C:=fun Z ρ M R=>ev Z a ρ M fun ds M1=>ds.length<=sizeLine/\R [.tup ds] M1
def C.fr (f:C):C:=fun Z ρ M R=>ev Z f ρ M fun ds M1=>R [.lst ds] M1
def C.nlh (f:C):C:=fun Z ρ M R=>ev Z f ρ M fun ds M1=>∀ a,M1 a=none->R [.j3 a] (cD M1 a (.ml ds))
def C.ndh:C:=fun Z _ M R=>∀ a,M a=none->R [.j3 a] (cD M a (.md []))
def C.dsp (a:C):C:=fun Z ρ M R=>ev Z a ρ M fun ds M1=>ds.length<=sizeLine/\R ds M1
def C.lof (a:C):C:=fun Z ρ M R=>ev Z a ρ M fun x M1=>aM x fun x=>lx (mz x) fun ds=>R ds M1
def C.slc (a:C) (lo:C) (hi:C):C:=fun Z ρ M R=>ev Z a ρ M fun x M1=>aM x fun x=>ev Z lo ρ M1 fun l M2=>pD l fun l=>ev Z hi ρ M2 fun h M3=>pD h fun h=>lx (mw x) fun ds=>R (cutD ds l h) M3
def C.cat (a:C) (b:C):C:=fun Z ρ M R=>ev Z a ρ M fun x M1=>aM x fun x=>ev Z b ρ M1 fun y M2=>aM y fun y=>lstK x fun ds=>lstK y fun es=>ds.length+es.length<=sizeLine/\R (ds++es) M2
def C.lrg (a:C) (b:C):C:=fun Z ρ M R=>ev Z a ρ M fun x M1=>aM x fun x=>ev Z b ρ M1 fun y M2=>aM y fun y=>intD x fun i=>intD y fun j=>LY i/\LY j/\(j-i).toNat<=900/\R (bO i (j-i).toNat) M2
def C.lr1 (a:C):C:=fun Z ρ M R=>ev Z a ρ M fun x M1=>aM x fun x=>intD x fun j=>LY j/\j.toNat<=900/\R (bO 0 j.toNat) M1
def C.lfd (a:C):C:=fun Z ρ M R=>ev Z a ρ M fun x M1=>aM x fun x=>∃ zs:List Str,x=.lst (zs.map fun z=>.tup [.str z,.bl true])/\zs.length<=900/\R ((bM zs).map .str) M1
def C.comp (it:C) (w:Nat) (ix:List Nat) (t:C) (e:C):C:=fun Z ρ M R=>ev Z it ρ M fun items M1=>items.length<=sizeLine /\
   eE (fun x M K=>CZ ρ w ix x fun ρ'=>ev Z t ρ' M fun c M1=>aM c fun c=>cy c fun c=>if c=true then ev Z e ρ' M1 fun d M2=>aM d fun d=>K (some d) M2 else K none M1) items M1 R
def C.comh (a:C) (w:Nat) (ix:List Nat) (t:C) (e:C):C:=fun Z ρ M R=>ev Z a ρ M fun x M1=>aM x fun x=>FV M1 x fun p items=>items.length<=sizeLine /\
   eE (fun x M K=>M p=some (.ml items)/\CZ ρ w ix x fun ρ'=>ev Z t ρ' M fun c M1=>aM c fun c=>cy c fun c=>if c=true then ev Z e ρ' M1 fun d M2=>aM d fun d=>K (some d) M2 else K none M1) items M1 fun ds M2=>M2 p=some (.ml items)/\R ds M2
def C.itl (a:C):C:=fun Z ρ M R=>ev Z a ρ M fun x M1=>aM x fun x=>FU x fun ds=>R ds M1
def C.rg1 (a:C):C:=fun Z ρ M R=>ev Z a ρ M fun x M1=>aM x fun x=>intD x fun j=>LY j/\R (bO 0 j.toNat) M1
def C.rg2 (a:C) (b:C):C:=fun Z ρ M R=>ev Z a ρ M fun x M1=>aM x fun x=>ev Z b ρ M1 fun y M2=>aM y fun y=>intD x fun i=>intD y fun j=>LY i/\LY j/\R (bO i (j-i).toNat) M2
def C.rg3 (a:C):C:=fun Z ρ M R=>ev Z a ρ M fun ds M1=>∃ j k:Int,ds=[.int 0,.int j,.int k]/\(-1000<=j/\j<=1000/\1<=k/\k<=1000)/\∀ n:Nat,(∀ i:Nat,i<n↔(i:Int)*k<j)->R ((Zo n).map fun i:Nat=>.int (i*k)) M1
def C.rev (a:C):C:=fun Z ρ M R=>ev Z a ρ M fun x M1=>aM x fun x=>intD x fun j=>0<=j/\j<=1000/\R (bO 0 j.toNat).reverse M1
def C.enu (a:C):C:=fun Z ρ M R=>ev Z a ρ M fun x M1=>aM x fun x=>lx (tZ x) fun ds=>R (ds.zipIdx.map fun p=>.tup [.int p.2,p.1]) M1
def C.zip (a:C) (b:C):C:=fun Z ρ M R=>ev Z a ρ M fun x M1=>aM x fun x=>ev Z b ρ M1 fun y M2=>aM y fun y=>lx (t7 x) fun ds=>lx (t7 y) fun es=>R ((ds.zip es).map fun p=>.tup [p.1,p.2]) M2
def C.ix (a:C) (k:C):C:=fun Z ρ M R=>ev Z a ρ M fun x M1=>aM x fun x=>ev Z k ρ M1 fun y M2=>aM y fun y=>intD y fun i=>ly x i fun d=>R [d] M2
def C.ixh (a:C) (k:C):C:=fun Z ρ M R=>ev Z a ρ M fun x M1=>aM x fun x=>ev Z k ρ M1 fun y M2=>aM y fun y=>intD y fun i=>FV M2 x fun _ ds=>atK ds i fun d=>R [d] M2
def C.slt (a:C) (lo:C) (hi:C):C:=fun Z ρ M R=>ev Z a ρ M fun x M1=>aM x fun x=>ev Z lo ρ M1 fun l M2=>pD l fun l=>ev Z hi ρ M2 fun h M3=>pD h fun h=>lx (t7 x) fun ds=>R [.qS (cutD ds l h)] M3
def C.sls (a:C) (lo:C) (hi:C):C:=fun Z ρ M R=>ev Z a ρ M fun x M1=>aM x fun x=>ev Z lo ρ M1 fun l M2=>pD l fun l=>ev Z hi ρ M2 fun h M3=>pD h fun h=>wb x fun z=>z.length<=sizeLine/\R [.str (abe z l h)] M3
def C.fld (a:C) (f:Str):C:=fun Z ρ M R=>ev Z a ρ M fun x M1=>aM x fun x=>fq Z f x fun d=>R [d] M1
def C.call (f:Nat) (a:C):C:=fun Z ρ M R=>ev Z a ρ M fun ds M1=>Z.fn f ds M1 fun d M2=>R [d] M2
def C.cfo (f:Nat) (a:C):C:=fun Z ρ M R=>ev Z a ρ M fun ds M1=>Z.fo f ds M1 R
def C.cab (f:Nat) (a:C):C:=fun Z ρ M R=>ev Z a ρ M fun ds M1=>Z.fn f ds M1 fun d M2=>(QS d=true/\Vs M2)/\R [d] M2
def C.meb (m:Nat) (r:C) (a:C):C:=fun Z ρ M R=>ev Z r ρ M fun x M1=>aM x fun x=>fY M1 x fun c fs=>Z.hm m c fs=true/\ev Z a ρ M1 fun ds M2=>Z.me m (x::ds) M2 fun d M3=>(QS d=true/\Vs M3)/\R [d] M3
def C.meth (m:Nat) (r:C) (a:C):C:=fun Z ρ M R=>ev Z r ρ M fun x M1=>aM x fun x=>fY M1 x fun c fs=>Z.hm m c fs=true/\ev Z a ρ M1 fun ds M2=>Z.me m (x::ds) M2 fun d M3=>R [d] M3
def C.mk (c:Nat) (a:C):C:=fun Z ρ M R=>ev Z a ρ M fun ds M1=>Z.bp c (.obj c [] []) ds M1 fun d M2=>R [d] M2
def C.mkh (c:Nat) (a:C):C:=fun Z ρ M R=>ev Z a ρ M fun ds M1=>Z.bp c (.obj c [] []) ds M1 fun d M2=>pE d fun c' fs xs=>∀ p,M2 p=none->R [.j3 p] (cD M2 p (.mo c' fs xs))
def C.len (a:C):C:=fun Z ρ M R=>ev Z a ρ M fun x M1=>aM x fun x=>t9 x fun n=>R [.int n] M1
def C.lns (a:C):C:=fun Z ρ M R=>ev Z a ρ M fun x M1=>aM x fun x=>∃ zs:List Str,x=.lst '1'/\zs.length<64/\R [.int (bM zs).length] M1
def C.isi (a:C) (t:Nat):C:=fun Z ρ M R=>ev Z a ρ M fun x M1=>aM x fun x=>isiD t x fun c=>R [.bl c] M1
def C.all (a:C):C:=fun Z ρ M R=>ev Z a ρ M fun x M1=>aM x fun x=>∃ bs:List Bool,x=.lst (bs.map .bl)/\R [.bl (bs.all id)] M1
def C.any (a:C):C:=fun Z ρ M R=>ev Z a ρ M fun x M1=>aM x fun x=>∃ bs:List Bool,x=.lst (bs.map .bl)/\R [.bl (bs.any id)] M1
def C.int1 (a:C):C:=fun Z ρ M R=>ev Z a ρ M fun x M1=>aM x fun x=>cy x fun c=>R [.int (if c then 1 else 0)] M1
def C.min2 (a:C) (b:C):C:=fun Z ρ M R=>ev Z a ρ M fun x M1=>aM x fun x=>ev Z b ρ M1 fun y M2=>aM y fun y=>intD x fun i=>intD y fun j=>R [.int (if j<i then j else i)] M2
def C.max2 (a:C) (b:C):C:=fun Z ρ M R=>ev Z a ρ M fun x M1=>aM x fun x=>ev Z b ρ M1 fun y M2=>aM y fun y=>intD x fun i=>intD y fun j=>R [.int (if j>i then j else i)] M2
def C.tpl (a:C):C:=fun Z ρ M R=>ev Z a ρ M fun x M1=>aM x fun x=>lx (mw x) fun ds=>R [.tup ds] M1
def C.tpf (a:C):C:=fun Z ρ M R=>ev Z a ρ M fun x M1=>aM x fun x=>lx (mw x) fun ds=>R [.fS ds] M1
def C.cnt (a:C) (b:C):C:=fun Z ρ M R=>ev Z a ρ M fun x M1=>aM x fun x=>Kc x fun ds=>ev Z b ρ M1 fun y M2=>aM y fun y=>pC y=true/\ds.all pC=true/\R [.int (ds.countP fun z=>FT z y:Nat)] M2
def C.dct (a:C):C:=fun Z ρ M R=>ev Z a ρ M fun x M1=>aM x fun x=>∃ ks:List Int,x=.lst (ks.map fun k=>.tup [.int k,.bl true])/\ks.length<=900/\R [.Hf ks] M1
def C.dnt (k:C) (d:C):C:=fun Z ρ M R=>ev Z k ρ M fun x M1=>aM x fun x=>ev Z d ρ M1 fun y M2=>aM y fun y=>FW x fun p=>NC M2 y fun _ kvs=>R [.bl (iW kvs p).isNone] M2
def C.dgt (d:C) (k:C):C:=fun Z ρ M R=>ev Z d ρ M fun x M1=>aM x fun x=>ev Z k ρ M1 fun y M2=>aM y fun y=>FW y fun p=>NC M2 x fun _ kvs=>∃ v,iW kvs p=some v/\R [v] M2
structure yn where
 nx:En->Mem->Prop
 rt:Dt->Mem->Prop
 bk:En->Mem->Prop:=fun _ _=>False
 ct:En->Mem->Prop:=fun _ _=>False
 ro:List Dt->Mem->Prop:=fun _ _=>False
noncomputable def S:Type:=Gm->En->Mem->yn->Prop
def ex (Z:Gm) (s:S):En->Mem->yn->Prop:=s Z
def eY (f:Dt->En->Mem->yn->Prop) (E:yn):List Dt->En->Mem->Prop
 | [],ρ,M=>E.nx ρ M
 | x::xs,ρ,M=>f x ρ M { E with nx:=eY f E xs,ct:=eY f E xs,bk:=E.nx }
def iX (ρ:En) (tg:List Nat) (x:Dt) (k:En->Prop):Prop :=
 match tg,x with
 | [i],d=>k (ρ.set i (.sh d))
 | [i,j],.tup [d,e]=>k ((ρ.set i (.sh d)).set j (.sh e))
 | _,_=>False
noncomputable def putD (f:Str) (d:Dt):List Str->List Dt->List Str×List Dt
 | [],_=>([f],[d])
 | g::fs,[]=>([f],[d])
 | g::fs,e::ds=>if g=f then (g::fs,d::ds) else let r:=putD f d fs ds;(g::r.1,e::r.2)
def Bh (op:t6) (x y:Dt) (R:Dt->Prop):Prop:=xJ x fun i=>xJ y fun j=>match op with | .add=>R (.int (i+j)) | .sub=>R (.int (i-j)) | _=>False
def S.skip:S:=fun Z ρ M E=>E.nx ρ M
def S.seq (a:S) (r:S):S:=fun Z ρ M E=>a Z ρ M { E with nx:=fun ρ' M'=>r Z ρ' M' E }
def S.set (k:Nat) (e:C):S:=fun Z ρ M E=>ev Z e ρ M fun x M1=>aM x fun d=>E.nx (ρ.set k (.sh d)) M1
def S.dw (k:Nat) (f:C):S:=fun Z ρ M E=>ev Z f ρ M fun ds M1=>E.nx (ρ.set k (.ow (.lst ds))) M1
def S.FY (k:Nat) (c:Nat) (a:C):S:=fun Z ρ M E=>ev Z a ρ M fun ds M1=>Z.bp c (.obj c [] []) ds M1 fun d M2=>E.nx (ρ.set k (.ow d)) M2
def S.eT (k:Nat):S:=fun Z ρ M E=>dv ρ k fun d=>E.nx (ρ.set k (.sh d)) M
def S.app (k:Nat) (e:C):S:=fun Z ρ M E=>dv ρ k fun l=>lstK l fun ds=>ev Z e ρ M fun x M1=>aM x fun d=>ds.length<sizeLine/\E.nx (ρ.set k (.ow (.lst (ds++[d])))) M1
def S.ext (k:Nat) (e:C):S:=fun Z ρ M E=>dv ρ k fun l=>lstK l fun ds=>ev Z e ρ M fun x M1=>aM x fun d=>lstK d fun es=>ds.length+es.length<=sizeLine/\E.nx (ρ.set k (.ow (.lst (ds++es)))) M1
def S.QT (a:C) (e:C):S:=fun Z ρ M E=>ev Z a ρ M fun x M1=>aM x fun x=>FV M1 x fun _ _=>ev Z e ρ M1 fun y M2=>aM y fun y=>FV M2 x fun p ds=>ds.length<sizeLine/\E.nx ρ (cD M2 p (.ml (ds++[y])))
def S.SW (d:C) (k:C) (e:C):S:=fun Z ρ M E=>ev Z e ρ M fun z M1=>aM z fun z=>ev Z d ρ M1 fun x M2=>aM x fun x=>ev Z k ρ M2 fun y M3=>aM y fun y=>FW y fun p=>NC M3 x fun a kvs=>iW kvs p=none/\kvs.length<sizeLine/\E.nx ρ (cD M3 a (.md (kvs++[(p,z)])))
def S.fZ (k:Nat) (f:Str) (e:C):S:=fun Z ρ M E=>ev Z e ρ M fun x M1=>aM x fun d=>dv ρ k fun o=>pE o fun c fs ds=>Z.at_ c f=true/\fs.length<1000/\E.nx (ρ.set k (.ow (.obj c (putD f d fs ds).1 (putD f d fs ds).2))) M1
def S.aug (k:Nat) (op:t6) (e:C):S:=fun Z ρ M E=>pA ρ k fun x=>ev Z e ρ M fun y M1=>aM y fun y=>Bh op x y fun d=>E.nx (ρ.set k (.sh d)) M1
def S.ex (e:C):S:=fun Z ρ M E=>ev Z e ρ M fun x M1=>aM x fun _=>E.nx ρ M1
def S.bp (c:Nat) (a:C):S:=fun Z ρ M E=>dv ρ 0 fun d=>pE d fun n fs xs=>ev Z a ρ M fun ds M1=>Z.bp c (.obj n fs xs) ds M1 fun d' M2=>E.nx (ρ.set 0 (.ow d')) M2
def S.ret (e:C):S:=fun Z ρ M E=>ev Z e ρ M fun x M1=>aM x fun d=>E.rt d M1
def S.Kd:S:=fun Z _ M E=>E.rt .az M
def S.brk:S:=fun Z ρ M E=>E.bk ρ M
def S.never:S:=fun Z _ _ _=>False
def S.Ke (b:S):S:=fun Z ρ M E=>b Z ρ M E
def S.ite (t:C) (a:S) (b:S):S:=fun Z ρ M E=>ev Z t ρ M fun x M1=>aM x fun x=>cy x fun c=>if c=true then a Z ρ M1 E else b Z ρ M1 E
def S.bL (it:C) (tg:List Nat) (b:S):S:=fun Z ρ M E=>ev Z it ρ M fun items M1=>eY (fun x ρ M E=>iX ρ tg x fun ρ'=>b Z ρ' M E) E items ρ M1
def S.LZ (t:C) (b:S):S:=fun Z ρ M E=>∃ W:Nat->En->Mem->Prop,(∃ m,W m ρ M)/\∀ m ρ M,W m ρ M ->
   ev Z t ρ M fun x M1=>aM x fun x=>cy x fun c =>
    if c=true then b Z ρ M1 { E with nx:=fun ρ' M'=>∃ m',m'<m/\W m' ρ' M',ct:=fun ρ' M'=>∃ m',m'<m/\W m' ρ' M',bk:=E.nx }
    else E.nx ρ M1
section
variable {Z:Gm}{ρ:En}{M:Mem}{E:yn}{d e:Dt}{ds es:List Dt}{i j:Int}{x y:Str}{b:Bool}{k:Nat}{s:Sl}{c:C}
def rd_xt:xr true b = !b:=rfl
def rd_xf:xr false b=b:=rfl
def rd_it {p q:Prop}:(if (true:Bool)=true then p else q)=p:=rfl
def rd_if {p q:Prop}:(if (false:Bool)=true then p else q)=q:=rfl
def rd_mc {α β:Type}{f:α->β}{a:α}{l:List α}:agw f (a::l)=f a::agw f l:=rfl
def rd_mn {α β:Type}{f:α->β}:agw f []=[]:=rfl
def rd_sz {u:Sl}:List.set (s::ρ) 0 u=u::ρ:=rfl
def rd_ss {u:Sl}:List.set (s::ρ) (k+1) u=s::List.set ρ k u:=rfl
def rd_oo:(true||b)=true:=rfl
def rd_o0:(false||b)=b:=rfl
def rd_a1:(true&&b)=b:=rfl
def rd_a0:(false&&b)=false:=rfl
def rd_nt:(!true)=false:=rfl
def rd_nf:(!false)=true:=rfl
def rd_r1 {K:Dt->Prop}:aM [d] K=K d:=rfl
def rd_r2 {K:Bool->Prop}:cy (.bl b) K=K b:=rfl
def rd_r3 {K:Int->Prop}:intD (.int i) K=K i:=rfl
def rd_r4 {K:Str->Prop}:wb (.str x) K=K x:=rfl
def rd_r5 {K:Dt->Prop}:pA (.sh d::ρ) 0 K=K d:=rfl
def rd_r6 {K:Dt->Prop}:pA (s::ρ) (k+1) K=pA ρ k K:=rfl
def rd_r7 {K:Dt->Prop}:dv (.ow d::ρ) 0 K=K d:=rfl
def rd_r8 {K:Dt->Prop}:dv (s::ρ) (k+1) K=dv ρ k K:=rfl
def rd_r9 {K:List Dt->Prop}:lx (some ds) K=K ds:=rfl
def rd_r10:mz (.lst ds)=some ds:=rfl
def rd_r11:mz (.og ds)=some ds:=rfl
def rd_r12:mz (.tup ds)=some ds:=rfl
def rd_r13:mz (.fS ds)=some ds:=rfl
def rd_r14:mz (.sD ds)=some ds:=rfl
def rd_r15:mw (.lst ds)=some ds:=rfl
def rd_r16:mw (.og ds)=some ds:=rfl
def rd_r17:tZ (.tup ds)=some ds:=rfl
def rd_r18:tZ (.fS ds)=some ds:=rfl
def rd_r19:tZ (.sD ds)=some ds:=rfl
def rd_r20:tZ (.qS ds)=some ds:=rfl
def rd_r21:mz (.qS ds)=some ds:=rfl
def rd_r22:t7 (.tup ds)=some ds:=rfl
def rd_r23:t7 (.fS ds)=some ds:=rfl
def rd_r24:t7 (.qS ds)=some ds:=rfl
def rd_b1 {R:Dt->Prop}:pB .add (.int i) (.int j) R=R (.int (i+j)):=rfl
def rd_b2 {R:Dt->Prop}:pB .add (.str x) (.str y) R=(x.length+y.length<=sizeLine/\R (.str (x++y))):=rfl
def rd_b3 {R:Dt->Prop}:pB .sub (.int i) (.int j) R=R (.int (i-j)):=rfl
def rd_b4 {R:Dt->Prop}:pB .mul (.int i) (.int j) R=(tK i j/\R (.int (i*j))):=rfl
def rd_b5 {R:Dt->Prop}:pB .fdiv (.int i) (.int j) R=(B3 i j/\R (.int (i / j))):=rfl
def rd_b6 {R:Dt->Prop}:pB .mod (.int i) (.int j) R=(0<j/\R (.int (i % j))):=rfl
def rd_b7 {R:Dt->Prop}:pB .pow (.int i) (.int j) R=(EZ i j/\R (.int (i ^ j.toNat))):=rfl
def rd_b8 {R:Dt->Prop}:pB .shr (.int i) (.int j) R=(0<=j/\R (.int (i / 2 ^ j.toNat))):=rfl
def rd_c1 {R:Bool->Prop}:j6 .lt (.int i) (.int j) R=R (decide (i<j)):=rfl
def rd_c2 {R:Bool->Prop}:j6 .le (.int i) (.int j) R=R (decide (i<=j)):=rfl
def rd_c3 {R:Bool->Prop}:j6 .gt (.int i) (.int j) R=R (decide (j<i)):=rfl
def rd_c4 {R:Bool->Prop}:j6 .ge (.int i) (.int j) R=R (decide (j<=i)):=rfl
def rd_c5 {R:Bool->Prop}:j6 .FR d .az R=(Dt.az=.az/\R (Hg d)):=rfl
def rd_c6 {R:Bool->Prop}:j6 .wa d .az R=(Dt.az=.az/\R (!Hg d)):=rfl
def rd_e1 {R:Bool->Prop}:we (.int i) (.int j) R=R (decide (i=j)):=rfl
def rd_e2 {R:Bool->Prop}:we (.str x) (.str y) R=R (decide (x=y)):=rfl
def rd_e3 {b':Bool}{R:Bool->Prop}:we (.bl b) (.bl b') R=R (decide (b=b')):=rfl
def rd_l1 {R:Nat->Prop}:t9 (.str x) R=(x.length<=sizeLine/\R x.length):=rfl
def rd_l2 {R:Nat->Prop}:t9 (.lst ds) R=R ds.length:=rfl
def rd_l3 {R:Nat->Prop}:t9 (.og ds) R=R ds.length:=rfl
def rd_l4 {R:Nat->Prop}:t9 (.tup ds) R=R ds.length:=rfl
def rd_l5 {R:Nat->Prop}:t9 (.fS ds) R=R ds.length:=rfl
def rd_l6 {R:Nat->Prop}:t9 (.sD ds) R=R ds.length:=rfl
def rd_l7 {R:Nat->Prop}:t9 (.qS ds) R=R ds.length:=rfl
def rd_t1 {R:Bool->Prop}:Kb (.bl b) R=R b:=rfl
def rd_t2 {R:Bool->Prop}:Kb (.lst ds) R=R (!ds.isEmpty):=rfl
def rd_x1 {R:Dt->Prop}:ly (.str x) i R=(x.length<=sizeLine/\∃ c,n6 x.cps.toList i=some c/\R (.str ⟨#[c]⟩)):=rfl
def rd_x2 {R:Dt->Prop}:ly (.lst ds) i R=atK ds i R:=rfl
def rd_x3 {R:Dt->Prop}:ly (.og ds) i R=atK ds i R:=rfl
def rd_x4 {R:Dt->Prop}:ly (.tup ds) i R=atK ds i R:=rfl
def rd_x5 {R:Dt->Prop}:ly (.fS ds) i R=atK ds i R:=rfl
def rd_x6 {R:Dt->Prop}:ly (.sD ds) i R=atK ds i R:=rfl
def rd_x8 {R:Dt->Prop}:ly (.qS ds) i R=atK ds i R:=rfl
def rd_x7 {c:Nat}{f:Str}{fs:List Str}{R:Dt->Prop}:fq Z f (.obj c fs ds) R=(Z.at_ c f=true/\∃ d,(fs.zip ds).lookup f=some d/\R d):=rfl
def rd_o1 {R:m_ Int->Prop}:pD [] R=R none:=rfl
def rd_o2 {R:m_ Int->Prop}:pD [.int i] R=R (some i):=rfl
def rd_k1 {ix:List Nat}{K:En->Prop}:CZ ρ 1 ix d K=K (.sh d::ix.map (iV ρ)):=rfl
def rd_k2 {ix:List Nat}{K:En->Prop}:CZ ρ 2 ix (.tup [d,e]) K=K (.sh d::.sh e::ix.map (iV ρ)):=rfl
def rd_k3:iV (.sh d::ρ) 0=.sh d:=rfl
def rd_k4:iV (s::ρ) (k+1)=iV ρ k:=rfl
def rd_m1 {R:List Dt->Prop}:FU (.str x) R=R (ua x):=rfl
def rd_m2 {R:List Dt->Prop}:FU (.lst ds) R=R ds:=rfl
def rd_m3 {R:List Dt->Prop}:FU (.og ds) R=R ds:=rfl
def rd_m4 {R:List Dt->Prop}:FU (.tup ds) R=R ds:=rfl
def rd_m5 {R:List Dt->Prop}:FU (.fS ds) R=R ds:=rfl
def rd_m6 {R:List Dt->Prop}:FU (.sD ds) R=R ds:=rfl
def rd_m7 {R:List Dt->Prop}:FU (.qS ds) R=R ds:=rfl
def rd_n1 {i:Nat}{K:En->Prop}:iX ρ [i] d K=K (ρ.set i (.sh d)):=rfl
def rd_n2 {i j:Nat}{d':Dt}{K:En->Prop}:iX ρ [i,j] (.tup [d,d']) K=K ((ρ.set i (.sh d)).set j (.sh d')):=rfl
def rd_n3 {R:List Dt->Prop}:lstK (.lst ds) R=R ds:=rfl
def rd_n4 {c:Nat}{fs:List Str}{R:Nat->List Str->List Dt->Prop}:pE (.obj c fs ds) R=R c fs ds:=rfl
def rd_n5 {R:Dt->Prop}:Bh .add (.int i) (.int j) R=R (.int (i+j)):=rfl
def rd_n6 {R:Dt->Prop}:Bh .sub (.int i) (.int j) R=R (.int (i-j)):=rfl
def rd_n7 {R:List Dt->Prop}:Kc (.fS ds) R=R ds:=rfl
def rd_n8 {c:Nat}{fs:List Str}{R:Nat->List Str->Prop}:fY M (.obj c fs ds) R=R c fs:=rfl
variable {a r:S}{f:C}
def rd_s1:ex Z .skip ρ M E=E.nx ρ M:=rfl
def rd_s2:ex Z (.set k c) ρ M E=ev Z c ρ M fun x M1=>aM x fun d=>E.nx (ρ.set k (.sh d)) M1:=rfl
def rd_s3:ex Z (.dw k f) ρ M E=ev Z f ρ M fun ds M1=>E.nx (ρ.set k (.ow (.lst ds))) M1:=rfl
def rd_s4 {q:Nat}:ex Z (.FY k q c) ρ M E=ev Z c ρ M fun ds M1=>Z.bp q (.obj q [] []) ds M1 fun d M2=>E.nx (ρ.set k (.ow d)) M2:=rfl
def rd_s5:ex Z (.eT k) ρ M E=dv ρ k fun d=>E.nx (ρ.set k (.sh d)) M:=rfl
def rd_s6:ex Z (.app k c) ρ M E=dv ρ k fun l=>lstK l fun ds=>ev Z c ρ M fun x M1=>aM x fun d=>ds.length<sizeLine/\E.nx (ρ.set k (.ow (.lst (ds++[d])))) M1:=rfl
def rd_s7:ex Z (.ext k c) ρ M E=dv ρ k fun l=>lstK l fun ds=>ev Z c ρ M fun x M1=>aM x fun d=>lstK d fun es=>ds.length+es.length<=sizeLine/\E.nx (ρ.set k (.ow (.lst (ds++es)))) M1:=rfl
def rd_s8 {h:C}:ex Z (.QT h c) ρ M E=ev Z h ρ M fun x M1=>aM x fun x=>FV M1 x fun _ _=>ev Z c ρ M1 fun y M2=>aM y fun y=>FV M2 x fun p ds=>ds.length<sizeLine/\E.nx ρ (cD M2 p (.ml (ds++[y]))):=rfl
def rd_s9 {f:Str}:ex Z (.fZ k f c) ρ M E=ev Z c ρ M fun x M1=>aM x fun d=>dv ρ k fun o=>pE o fun c fs ds=>Z.at_ c f=true/\fs.length<1000/\E.nx (ρ.set k (.ow (.obj c (putD f d fs ds).1 (putD f d fs ds).2))) M1:=rfl
def rd_s10 {op:t6}:ex Z (.aug k op c) ρ M E=pA ρ k fun x=>ev Z c ρ M fun y M1=>aM y fun y=>Bh op x y fun d=>E.nx (ρ.set k (.sh d)) M1:=rfl
def rd_s11:ex Z (.ex c) ρ M E=ev Z c ρ M fun x M1=>aM x fun _=>E.nx ρ M1:=rfl
def rd_s12 {q:Nat}:ex Z (.bp q c) ρ M E=dv ρ 0 fun d=>pE d fun n fs xs=>ev Z c ρ M fun ds M1=>Z.bp q (.obj n fs xs) ds M1 fun d' M2=>E.nx (ρ.set 0 (.ow d')) M2:=rfl
def rd_s13:ex Z (.ret c) ρ M E=ev Z c ρ M fun x M1=>aM x fun d=>E.rt d M1:=rfl
def rd_s14:ex Z .Kd ρ M E=E.rt .az M:=rfl
def rd_s15:ex Z .brk ρ M E=E.bk ρ M:=rfl
def rd_s16:ex Z (.ite c a r) ρ M E=ev Z c ρ M fun x M1=>aM x fun x=>cy x fun c=>if c=true then ex Z a ρ M1 E else ex Z r ρ M1 E:=rfl
def rd_s17 {tg:List Nat}:ex Z (.bL c tg a) ρ M E=ev Z c ρ M fun items M1=>eY (fun x ρ M E=>iX ρ tg x fun ρ'=>ex Z a ρ' M E) E items ρ M1:=rfl
def rd_s18:ex Z (.Ke a) ρ M E=ex Z a ρ M E:=rfl
def sqo (h:∀ N,N=(fun ρ' M'=>ex Z r ρ' M' E)->ex Z a ρ M { E with nx:=N }):ex Z (.seq a r) ρ M E:=h _ rfl
theorem aw {f:Dt->En->Mem->yn->Prop}{items:List Dt} (Iv:Nat->En->Mem->Prop) (h0:Iv 0 ρ M)
  (hs:∀ (i:Nat) x ρ M (N:En->Mem->Prop),items[i]? = some x->Iv i ρ M->(∀ ρ' M',Iv (i+1) ρ' M'->N ρ' M')->f x ρ M { E with nx:=N,ct:=N,bk:=E.nx }) (hd:∀ ρ M,Iv items.length ρ M->E.nx ρ M):eY f E items ρ M:=by
 suffices ∀ (n:Nat) (l:List Dt),l=items.drop n->n<=items.length->∀ ρ M,Iv n ρ M->eY f E l ρ M from this 0 items rfl (aal _) ρ M h0
 intro n l
 induction l generalizing n with
 | nil =>
  intro e hn ρ M h;have:items.length<=n:=List.drop_eq_nil_iff.mp e.symm;have:n=items.length:=by lia
  subst this;exact hd ρ M h
 | cons x xs ih =>
  intro e hn ρ M h
  have hx:items[n]? = some x:=by
   have:=congrArg (fun l=>l[0]?) e;simpa using this.symm
  have jN:n<items.length:=(i_.mp hx).1
  have e':xs=items.drop (n+1):=by
   have:=congrArg List.tail e;simpa [List.tail_drop] using this
  exact hs n x ρ M _ hx h fun ρ' M' h'=>ih (n+1) e' jN ρ' M' h'
def aE {lo:Int}{n i:Nat}{x:Dt} (h:(bO lo n)[i]? = some x):i<n/\x=.int (lo+i):=by
 unfold bO at h;rw[g_] at h;obtain⟨k,hk,rfl⟩:=o_.mp h;obtain⟨h1,h2⟩:=i_.mp hk;rw[K_] at h1;rw[afj] at h2;subst h2;exact⟨h1,rfl⟩
def ah {lo:Int}{n:Nat}:(bO lo n).length=n:=by unfold bO;rw[a_,K_]
theorem comp_map {f:Dt->Mem->(m_ Dt->Mem->Prop)->Prop}{R:Rt} (g:Dt->Dt):∀ {items:List Dt},(∀ x∈items,∀ K,K (some (g x)) M->f x M K)->R (items.map g) M->eE f items M R
 | [],_,h=>h
 | x::xs,hf,h=>hf x W_ _ (comp_map g (fun y hy=>hf y (J_ _ hy)) h)
theorem bz {f:Dt->Mem->(m_ Dt->Mem->Prop)->Prop}{R:Rt} (g:Dt->m_ Dt):∀ {items:List Dt},(∀ x∈items,∀ K,K (g x) M->f x M K)->R (items.filterMap g) M->eE f items M R
 | [],_,h=>h
 | x::xs,hf,h=>by
  refine hf x W_ _ (bz g (fun y hy=>hf y (J_ _ hy)) ?_);rw[Zw] at h
  cases e:g x with
  | none=>rw[e] at h;exact h
  | some d=>rw[e] at h;exact h
end
theorem _root_.L2.PE.imp {X:Cx}{e:Expr}{t t':TE} (h:PE X e t) (i:∀ σ H Q,t' σ H Q->t σ H Q):PE X e t':=fun pins s σ H Q I q=>h pins s σ H Q I (i σ H Q q)
theorem _root_.L2.PT.imp {X:Cx}{e:Expr}{t t':TT} (h:PT X e t) (i:∀ σ H Q,t' σ H Q->t σ H Q):PT X e t':=fun pins s σ H Q I q=>h pins s σ H Q I (i σ H Q q)
theorem _root_.L2.PW.imp {X:Cx}{e:Expr}{t t':TT} (h:PW X e t) (i:∀ σ H Q,t' σ H Q->t σ H Q):PW X e t':=fun wh pins s σ H Q I q=>h wh pins s σ H Q I (i σ H Q q)
theorem _root_.L2.PA.imp {X:Cx}{e:List Expr}{t t':TA} (h:PA X e t) (i:∀ σ H Q,t' σ H Q->t σ H Q):PA X e t':=fun pos pins s σ H Q I q=>h pos pins s σ H Q I (i σ H Q q)
theorem _root_.L2.PO.imp {X:Cx}{e:m_ Expr}{t t':TO} (h:PO X e t) (i:∀ σ H Q,t' σ H Q->t σ H Q):PO X e t':=fun pins s σ H Q I q=>h pins s σ H Q I (i σ H Q q)
theorem _root_.L2.PI.imp {X:Cx}{tg e:Expr}{t t':TI} (h:PI X tg e t) (i:∀ σ H Q,t' σ H Q->t σ H Q):PI X tg e t':=fun pins s σ H Q I q=>h pins s σ H Q I (i σ H Q q)
theorem _root_.L2.PS.imp {X:Cx}{e:Stmt}{t t':TS} (h:PS X e t) (i:∀ D σ H,t' D σ H->t D σ H):PS X e t':=fun pins s σ H D I q=>h pins s σ H D I (i D σ H q)
theorem _root_.L2.kL.imp {X:Cx}{e:List Stmt}{t t':TS} (h:kL X e t) (i:∀ D σ H,t' D σ H->t D σ H):kL X e t':=fun pins s σ H D I q=>h pins s σ H D I (i D σ H q)
def dB (K:e_) (cl:Cl) (G H:Hp) (d:Dt) (v:V):Prop:=Is K cl G d v∨∃ a o,v=.ref a/\J9 d=some o/\cj K cl G H a o
def kO (k:m_ Int->Mem->Prop):Rt:=fun ds M=>pD ds fun o=>k o M
def kB (k:Bool->Mem->Prop):Rt:=fun x M=>aM x fun x=>cy x fun b=>k b M
def L0 (K:e_) (cl:Cl) (G H:Hp) (M:Mem) (d:Dt) (v:V):Prop:=Is K cl G d v∨∃ a o,v=.ref a/\J9 d=some o/\M a=none/\cj K cl G H a o
section
variable (K:e_) (cl:Cl) (Z:Gm) (c:C)
inductive tp (σ:St) (H:Hp) (Q:VK):Prop where
 | mk (B:Bs) (ρ:En) (M:Mem) (G:Hp) (R:Rt):Rep K cl B ρ M σ H G->ev Z c ρ M R->(∀ d v M' G' H',bc K cl none G H M G' H' M'->Is K cl G' d v->R [d] M'->Q v H')->tp σ H Q
inductive tq (σ:St) (H:Hp) (Q:VK):Prop where
 | mk (B:Bs) (ρ:En) (M:Mem) (G:Hp) (R:Rt):Rep K cl B ρ M σ H G->ev Z c ρ M R->(∀ d v M' G' H',bc K cl none G H M G' H' M'->dB K cl G' H' d v->R [d] M'->Q v H')->tq σ H Q
inductive tr (σ:St) (H:Hp) (Q:VK):Prop where
 | mk (B:Bs) (ρ:En) (M:Mem) (G:Hp) (R:Rt):Rep K cl B ρ M σ H G->ev Z c ρ M R->(∀ d v M' G' H',bc K cl none G H M G' H' M'->L0 K cl G' H' M' d v->R [d] M'->Q v H')->tr σ H Q
inductive ta (σ:St) (H:Hp) (Q:List V->Hp->Prop):Prop where
 | mk (B:Bs) (ρ:En) (M:Mem) (G:Hp) (R:Rt):Rep K cl B ρ M σ H G->ev Z c ρ M R->(∀ ds vs M' G' H',bc K cl none G H M G' H' M'->IsL K cl G' ds vs->R ds M'->Q vs H')->ta σ H Q
inductive tf (σ:St) (H:Hp) (Q:VK):Prop where
 | mk (B:Bs) (ρ:En) (M:Mem) (G:Hp) (R:Rt):Rep K cl B ρ M σ H G->ev Z c ρ M R->(∀ ds vs M' G' H' p,bc K cl none G H M G' H' M'->H' p=none->IsL K cl G' ds vs->R ds M'->Q (.ref p) (upd H' p (.lst vs)))->tf σ H Q
inductive tt (σ:St) (H:Hp) (Q:Bool->Hp->Prop):Prop where
 | mk (B:Bs) (ρ:En) (M:Mem) (G:Hp) (k:Bool->Mem->Prop):Rep K cl B ρ M σ H G->ev Z c ρ M (kB k)->(∀ b M' G' H',bc K cl none G H M G' H' M'->k b M'->Q b H')->tt σ H Q
inductive to (σ:St) (H:Hp) (Q:m_ Int->Hp->Prop):Prop where
 | mk (B:Bs) (ρ:En) (M:Mem) (G:Hp) (k:m_ Int->Mem->Prop):Rep K cl B ρ M σ H G->ev Z c ρ M (kO k)->(∀ o M' G' H',bc K cl none G H M G' H' M'->k o M'->Q o H')->to σ H Q
def SX (J:It) (items:List Dt) (P:Mem->Prop) (G:Hp):Prop:=∀ (i:Nat) (G' H:Hp) (M:Mem),ag G G'->ag G' H->bG K cl G' H M->P M ->
 (i<items.length->J.go i H/\∀ x H',J.G0 i H x H'->∃ d ND,items[i]? = some d/\Is K cl ND d x/\bc K cl none G' H M ND H' M)/\(i=items.length->J.stop i H)
def ub (J:It) (items:List Dt) (G:Hp):Prop:=∀ (i:Nat) (G' H:Hp) (M:Mem),ag G G'->ag G' H->bG K cl G' H M ->
 (i<items.length->J.go i H/\∀ x H',J.G0 i H x H'->∃ d ND,items[i]? = some d/\Is K cl ND d x/\bc K cl none G' H M ND H' M)/\(i=items.length->J.stop i H)
inductive lz (σ:St) (H:Hp) (Q:It->Hp->Prop):Prop where
 | mk (B:Bs) (ρ:En) (M:Mem) (G:Hp) (R:Rt):Rep K cl B ρ M σ H G->ev Z c ρ M R->(∀ items M' G' H' J,bc K cl none G H M G' H' M'->ub K cl J items G'->R items M'->Q J H')->lz σ H Q
end
section
variable {K:e_}{cl:Cl}{Z:Gm}{c ca cb cc:C}{σ:St}{H:Hp}{Q:VK}{X:Cx}{e a b:Expr}
theorem dB.EF {G H:Hp}{d:Dt}{v:V}{ds:List Dt} (s:ag G H) (h:dB K cl G H d v) (e:mw d=some ds):∃ a vs,v=.ref a/\cE K H a vs/\IsL K cl G ds vs:=by
 rcases h with h | ⟨a,o,rfl,ho,hc⟩
 ·obtain⟨a,vs,h1,h2,h3⟩:=h.EF e;exact⟨a,vs,h1,h2.same s,h3⟩
 ·cases d<;>first | (cases e;done) | skip
  ·cases e;cases ho
   obtain⟨vs,h1,h2⟩:=hc;exact⟨a,vs,rfl,cE.of h1,h2⟩
  ·cases ho
theorem dB.LX {G H:Hp}{d:Dt}{v:V}{ds:List Dt} (s:ag G H) (h:dB K cl G H d v) (e:tZ d=some ds):∃ a vs,v=.ref a/\eV K H a vs/\IsL K cl G ds vs:=by
 rcases h with h | ⟨a,o,rfl,ho,hc⟩
 ·obtain⟨a,vs,h1,h2,h3⟩:=h.LX e;exact⟨a,vs,h1,h2.same s,h3⟩
 ·cases d<;>first | (cases e;done) | (cases ho;done)
def dB.seq {G H:Hp}{d:Dt}{v:V}{ds:List Dt} (s:ag G H) (h:dB K cl G H d v) (e:mz d=some ds):∃ a vs,v=.ref a/\(cE K H a vs∨eV K H a vs)/\IsL K cl G ds vs:=by
 unfold mz at e
 cases q:mw d with
 | some es =>
  rw[q] at e;cases e;obtain⟨a,vs,h1,h2,h3⟩:=h.EF s q;exact⟨a,vs,h1,.inl h2,h3⟩
 | none =>
  rw[q] at e;obtain⟨a,vs,h1,h2,h3⟩:=h.LX s e;exact⟨a,vs,h1,.inr h2,h3⟩
theorem dB.int {G H:Hp}{i:Int}{v:V} (h:dB K cl G H (.int i) v):v=.int i:=by
 rcases h with h | ⟨a,o,_,ho,_⟩
 ·unfold Is at h;exact h
 ·cases ho
theorem dB.str {G H:Hp}{i:Str}{v:V} (h:dB K cl G H (.str i) v):v=.str i:=by
 rcases h with h | ⟨a,o,_,ho,_⟩
 ·unfold Is at h;exact h
 ·cases ho
theorem dB.bl {G H:Hp}{i:Bool}{v:V} (h:dB K cl G H (.bl i) v):v=.bl i:=by
 rcases h with h | ⟨a,o,_,ho,_⟩
 ·unfold Is at h;exact h
 ·cases ho
theorem dB.az {G H:Hp}{v:V} (h:dB K cl G H .az v):v=.az:=by
 rcases h with h | ⟨a,o,_,ho,_⟩
 ·unfold Is at h;exact h
 ·cases ho
def L0.q {G H:Hp}{M:Mem}{d:Dt}{v:V} (h:L0 K cl G H M d v):dB K cl G H d v:=h.elim .inl fun⟨a,o,h1,h2,_,h3⟩=>.inr ⟨a,o,h1,h2,h3⟩
def L0.b5 {G H G' H':Hp}{M M':Mem}{d:Dt}{v:V} (h:L0 K cl G H M d v) (f:bc K cl none G H M G' H' M'):L0 K cl G' H' M' d v:=by
 rcases h with h | ⟨a,o,h1,h2,h3,h4⟩
 ·exact .inl (h.mono f.g)
 ·obtain⟨u,hu⟩:=h4.lr;refine .inr ⟨a,o,h1,h2,?_,h4.mono f.g fun u e=>f.h a u e h3 (6)⟩
  cases e:M' a with
  | none=>rfl
  | some w=>exact absurd (f.mf a w e h3) (by rw[hu];exact fun z=>nomatch z)
def NF (h:tr K cl Z c σ H Q):tp K cl Z c σ H Q:=by
 ext a;exact⟨B,ρ,M,G,R,h1,h2,fun d v M' G' H' f i=>h3 d v M' G' H' f (.inl i)⟩
def NG (h:tq K cl Z c σ H Q):tr K cl Z c σ H Q:=by
 ext a;exact⟨B,ρ,M,G,R,h1,h2,fun d v M' G' H' f i=>h3 d v M' G' H' f i.q⟩
theorem _root_.L2.PE.r (h:PE X e (tp X.K cl Z c)):PE X e (tr X.K cl Z c):=h.imp fun _ _ _=>NF
theorem _root_.L2.PE.rq (h:PE X e (tr X.K cl Z c)):PE X e (tq X.K cl Z c):=h.imp fun _ _ _=>NG
def NH (h:tq K cl Z c σ H Q):tp K cl Z c σ H Q:=by
 ext a;exact⟨B,ρ,M,G,R,h1,h2,fun d v M' G' H' f i=>h3 d v M' G' H' f (.inl i)⟩
theorem _root_.L2.PE.q (h:PE X e (tp X.K cl Z c)):PE X e (tq X.K cl Z c):=h.imp fun _ _ _=>NH
def NI {D:Dt->Mem->(Dt->Mem->Prop)->Prop}{r:V->Hp->VK->Prop} (he:∀ ρ M R,ev Z c ρ M R->ev Z ca ρ M fun x M1=>aM x fun x=>D x M1 fun d M2=>R [d] M2)
  (hr:∀ x v G H M (k:Dt->Mem->Prop) (Q:VK),ag G H->bG K cl G H M->dB K cl G H x v->D x M k->(∀ d u M' G' H',bc K cl none G H M G' H' M'->Is K cl G' d u->k d M'->Q u H')->r v H Q)
  (h:tp K cl Z c σ H Q):tq K cl Z ca σ H fun v H1=>r v H1 Q:=by
 ext a;refine⟨B,ρ,M,G,_,h1,he _ _ _ h2,fun d v M' G' H' f i hd=>hr d v G' H' M' _ Q f.gh f.mem i hd fun d' u M2 G2 H2 f2 i2 h4=>h3 d' u M2 G2 H2 (f.trans f2) i2 h4⟩
def Hh {D:Dt->Dt->Mem->(Dt->Mem->Prop)->Prop}{r:R2} (he:∀ ρ M R,ev Z c ρ M R->ev Z ca ρ M fun x M1=>aM x fun x=>ev Z cb ρ M1 fun y M2=>aM y fun y=>D x y M2 fun d M3=>R [d] M3)
  (hr:∀ x y vx vy G H M (k:Dt->Mem->Prop) (Q:VK),ag G H->bG K cl G H M->dB K cl G H x vx->dB K cl G H y vy->D x y M k->(∀ d u M' G' H',bc K cl none G H M G' H' M'->Is K cl G' d u->k d M'->Q u H')->r vx vy H Q)
  (h:tp K cl Z c σ H Q):B2 r (tr K cl Z ca) (tq K cl Z cb) σ H Q:=by
 ext a;refine⟨B,ρ,M,G,_,h1,he _ _ _ h2,fun x vx M1 G1 H1 f1 i1 hx=>⟨B,ρ,M1,G1,_,h1.on f1,hx,fun y vy M2 G2 H2 f2 i2 hy=>?_⟩⟩;exact hr x y vx vy G2 H2 M2 _ Q f2.gh f2.mem (i1.b5 f2).q i2 hy fun d u M3 G3 H3 f3 i3 h4=>h3 d u M3 G3 H3 ((f1.trans f2).trans f3) i3 h4
def NJ {d:Dt}{v:V} (he:∀ ρ M R,ev Z c ρ M R->R [d] M) (hi:∀ G,Is K cl G d v) (h:tp K cl Z c σ H Q):tC v σ H Q:=by
 ext a;exact h3 d v M G H h1.self (hi G) (he _ _ _ h2)
def Xv {n:Int}{j pos}:PE X (.Constant (.int n) j pos) (tp X.K cl Z (.i n)):=IB.imp fun _ _ _ h=>NJ (c:=.i n) (d:=.int n) (5) (fun _=>by unfold Is;rfl) h
def Xw {n:Str}{j pos}:PE X (.Constant (.str n) j pos) (tp X.K cl Z (.s n)):=IE.imp fun _ _ _ h=>NJ (c:=.s n) (d:=.str n) (5) (fun _=>by unfold Is;rfl) h
def Xx {n:Bool}{j pos}:PE X (.Constant (.bool n) j pos) (tp X.K cl Z (.b n)):=Mh.imp fun _ _ _ h=>NJ (c:=.b n) (d:=.bl n) (5) (fun _=>by unfold Is;rfl) h
def Xy {j pos}:PE X (.Constant .none j pos) (tp X.K cl Z .n):=IC.imp fun _ _ _ h=>NJ (c:=.n) (d:=.az) (5) (fun _=>by unfold Is;rfl) h
def Xz {k:Nat}{x:Str}{pos:Pos} (hN:X.N[k]? = some x) (hv:BM X.env.scope x) (hd:'2'=false) (l7:(x==("__classdict__" : Str))=false):PE X (.Name x pos) (tp X.K cl Z (.v k)) :=
 (l6 hN hv hd l7).imp fun σ H Q h=>by
  ext a;change pA ρ k _ at h2;unfold pA at h2
  cases e:ρ[k]? with
  | none=>rw[e] at h2;exact h2.elim
  | some s =>
   cases s with
   | sh d =>
    rw[e] at h2;obtain⟨v,e1,e2⟩:=h1.sh k d e;exact⟨v,e1,h3 d v M G H h1.self e2 h2⟩
   | no=>rw[e] at h2;exact h2.elim
   | ow d=>rw[e] at h2;exact h2.elim
def XA {k:Nat}{x:Str}{pos:Pos} (hN:X.N[k]? = some x) (hv:BM X.env.scope x) (hd:'2'=false) (l7:(x==("__classdict__" : Str))=false):PE X (.Name x pos) (tr X.K cl Z (.o k)) :=
 (l6 hN hv hd l7).imp fun σ H Q h=>by
  ext a;change dv ρ k _ at h2;unfold dv at h2
  cases e:ρ[k]? with
  | none=>rw[e] at h2;exact h2.elim
  | some s =>
   cases s with
   | ow d =>
    rw[e] at h2;obtain⟨oa,o1,_⟩:=h1.ow;obtain⟨e1,_,hm,_,o,ho,hc⟩:=o1 k d e;exact⟨_,e1,h3 d _ M G H h1.self (.inr ⟨_,o,rfl,ho,hm,hc⟩) h2⟩
   | no=>rw[e] at h2;exact h2.elim
   | sh d=>rw[e] at h2;exact h2.elim
def XB (ha:PE X e '4'):PE X e (tq X.K cl Z (.d ca)):=ha.imp fun σ H Q h=>by
 ext a;refine⟨B,ρ,M,G,_,h1,h2,fun d v M' G' H' f i hd=>?_⟩
 cases d with
 | j3 p =>
  change (match M' p with | some (.ml xs)=>R [.lst xs] M' | some (.mo c fs xs)=>R [.obj c fs xs] M' | _=>False) at hd
  cases e:M' p with
  | none=>rw[e] at hd;exact hd.elim
  | some o =>
   have hc:=(f.mem p o e).2;rw[e] at hd;unfold Is at i
   cases o with
   | ml xs=>exact h3 _ v M' G' H' f (.inr ⟨p,_,i,rfl,hc⟩) hd
   | mo c fs xs=>exact h3 _ v M' G' H' f (.inr ⟨p,_,i,rfl,hc⟩) hd
   | md kvs=>exact hd.elim
 | _=>exact (show False from hd).elim
noncomputable def NK:t6->adi
 | .add=>.Add | .sub=>.Sub | .mul=>.Mult | .fdiv=>.FloorDiv | .mod=>.Mod | .pow=>.Pow | .shr=>.RShift
def NL:t6->R2
 | .add=>fun x y H Q=>zj (fun i j=>.int (i+j)) x y H Q∨∃ i j,x=.str i/\y=.str j/\i.length+j.length<=sizeLine/\Q (.str (i++j)) H
 | .sub=>zj fun i j=>.int (i-j)
 | .mul=>rI tK fun i j=>.int (i*j)
 | .fdiv=>rI B3 fun i j=>.int (i / j)
 | .mod=>rI (fun _ j=>0<j) fun i j=>.int (i % j)
 | .pow=>rI EZ fun i j=>.int (i ^ j.toNat)
 | .shr=>rI (fun _ j=>0<=j) fun i j=>.int (i / 2 ^ j.toNat)
theorem Kf:∀ op:t6,fk X (acg (NK op)) (NL op)
 | .add=>Jd.or xS
 | .sub=>Je
 | .mul=>Jf
 | .fdiv=>E1
 | .mod=>Jg
 | .pow=>Jh
 | .shr=>Ji
def pG {d:Dt}{R:Int->Prop} (h:xJ d R):∃ i,d=.int i/\R i:=by
 cases d<;>first | exact⟨_,rfl,h⟩ | exact h.elim
def Kg {d:Dt}{R:Str->Prop} (h:SS d R):∃ i,d=.str i/\R i:=by
 cases d<;>first | exact⟨_,rfl,h⟩ | exact h.elim
def Kh {op:t6}{x y:Dt}{vx vy:V}{G H:Hp}{k:Dt->Prop}{Q:VK} (hx:dB K cl G H x vx) (hy:dB K cl G H y vy) (h:pB op x y k) (q:∀ d v,Is K cl G d v->k d->Q v H):NL op vx vy H Q:=by
 have SY:∀ n,Is K cl G (.int n) (.int n):=fun n=>by unfold Is;rfl
 cases x with
 | int i =>
  obtain⟨j,rfl,h⟩:=pG (show xJ y _ from h);have e1:=hx.int;have e2:=hy.int;subst e1 e2
  cases op with
  | add=>exact .inl ⟨i,j,rfl,rfl,q _ _ (SY _) h⟩
  | sub=>exact⟨i,j,rfl,rfl,q _ _ (SY _) h⟩
  | _=>exact⟨i,j,rfl,rfl,h.1,q _ _ (SY _) h.2⟩
 | str i =>
  obtain⟨j,rfl,h⟩:=Kg (show SS y _ from h);have e1:=hx.str;have e2:=hy.str;subst e1 e2
  cases op with
  | add=>exact .inr ⟨i,j,rfl,rfl,h.1,q _ _ (by unfold Is;rfl) h.2⟩
  | _=>exact h.elim
 | _=>exact h.elim
def pH {op:t6}{pos:Pos} (ha:PE X a '4') (hb:PE X b (tp X.K cl Z cb)):PE X (.BinOp a (NK op) b pos) (tp X.K cl Z (.bin op ca cb)) :=
 (G5 (Kf op) ha.r hb.q).imp fun σ H Q h=>Hh (c:=.bin op ca cb) (D:=fun x y M k=>pB op x y fun d=>k d M) (5) (fun x y vx vy G H M k Q s m hx hy hd q=>Kh hx hy hd fun d v i hk=>q d v M G H (bc.refl s m) i hk) h
def NM {pos:Pos} (ha:PE X a '4'):PE X (.UnaryOp .USub a pos) (tp X.K cl Z (.neg ca)) :=
 (Mw Jj ha.q).imp fun σ H Q h=>NI (c:=.neg ca) (D:=fun x M k=>intD x fun i=>k (.int (-i)) M) (5) (fun x v G H M k Q s m hx hd q=>by
  cases x with
  | int i=>have e:=hx.int;subst e;exact⟨i,rfl,q _ _ M G H (bc.refl s m) (by unfold Is;rfl) hd⟩
  | _=>exact (show False from hd).elim) h
noncomputable def BN:qU->CmpOp
 | .lt=>.Lt | .le=>.LtE | .gt=>.Gt | .ge=>.GtE | .FR=>.Is | .wa=>.IsNot
def C0:qU->R2
 | .lt=>zj fun i j=>.bl (decide (i<j))
 | .le=>zj fun i j=>.bl (decide (i<=j))
 | .gt=>zj fun i j=>.bl (decide (j<i))
 | .ge=>zj fun i j=>.bl (decide (j<=i))
 | .FR=>fun x y H Q=>y=.az/\Q (.bl (decide (x=.az))) H
 | .wa=>fun x y H Q=>y=.az/\Q (.bl (!decide (x=.az))) H
theorem mB:∀ op:qU,fk X (ZF (BN op)) (C0 op)
 | .lt=>MA
 | .le=>MB
 | .gt=>MC
 | .ge=>MD
 | .FR=>Jl
 | .wa=>E2
def yo (op:qU) (b:Expr):aaf (BN op) b=false:=by cases op<;>exact B5 b
theorem dB.Hg {G H:Hp}{d:Dt}{v:V} (h:dB K cl G H d v):decide (v=.az)=Hg d:=by
 rcases h with h | ⟨a,o,rfl,e,_⟩
 ·unfold Is at h
  cases d<;>first | (cases h;rfl) | (obtain⟨a,_,rfl,_⟩:=h;rfl) | (obtain⟨a,_,_,rfl,_⟩:=h;rfl)
 ·cases d<;>first | rfl | cases e
def uc {op:qU}{x y:Dt}{vx vy:V}{G H:Hp}{k:Bool->Prop}{Q:VK} (hx:dB K cl G H x vx) (hy:dB K cl G H y vy) (h:j6 op x y k) (q:∀ b,k b->Q (.bl b) H):C0 op vx vy H Q:=by
 have two:∀ {R:Int->Int->Prop},(xJ x fun i=>xJ y fun j=>R i j)->∃ i j,vx=.int i/\vy=.int j/\R i j:=fun {R} h=>by
  obtain⟨i,rfl,h2⟩:=pG h;obtain⟨j,rfl,h3⟩:=pG h2;exact⟨i,j,hx.int,hy.int,h3⟩
 cases op with
 | FR=>obtain⟨rfl,h⟩:=h;exact⟨hy.az,q _ (by rw[hx.Hg];exact h)⟩
 | wa=>obtain⟨rfl,h⟩:=h;exact⟨hy.az,q _ (by rw[hx.Hg];exact h)⟩
 | _=>obtain⟨i,j,e1,e2,h⟩:=two h;exact⟨i,j,e1,e2,q _ h⟩
def Is.zH {G:Hp}{b:Bool}:Is K cl G (.bl b) (.bl b):=by unfold Is;rfl
def NN {op:qU}{pos:Pos} (ha:PE X a '4') (hb:PE X b (tp X.K cl Z cb)):PE X (.Compare a [BN op] [b] pos) (tp X.K cl Z (.cmp op ca cb)) :=
 (nY (mB op) ha.r hb.q (yo op b)).imp fun σ H Q h=>Hh (c:=.cmp op ca cb) (D:=fun x y M k=>j6 op x y fun c=>k (.bl c) M) (5) (fun x y vx vy G H M k Q s m hx hy hd q=>uc hx hy hd fun b hk=>q _ _ M G H (bc.refl s m) Is.zH hk) h
def wg {σ:St}{H:Hp}{Q:Bool->Hp->Prop} (h:tt K cl Z c σ H Q):tp K cl Z c σ H fun v H1=>∃ b,v=.bl b/\Q b H1:=by
 obtain⟨B,ρ,M,G,k,h1,h2,h3⟩:=h;refine⟨B,ρ,M,G,_,h1,h2,fun d v M' G' H' f i hd=>?_⟩
 cases d with
 | bl b=>unfold Is at i;exact⟨b,i,h3 b M' G' H' f hd⟩
 | _=>exact (show False from hd).elim
def zI {op:CmpOp}{r:R2}{pos:Pos} (ho:fk X (ZF op) r) (ha:PE X a (tr X.K cl Z ca)) (hb:PE X b (tq X.K cl Z cb)) (hm:aaf op b=false)
  (hh:∀ σ H Q,tp X.K cl Z c σ H Q->B2 r (tr X.K cl Z ca) (tq X.K cl Z cb) σ H Q):PT X (.Compare a [op] [b] pos) (tt X.K cl Z c):=(E3 ho ha hb hm).imp fun σ H Q h=>hh σ H _ (wg h)
def Hi (ha:PE X e (tp X.K cl Z c)) (he:∀ whole,aex e X.env whole=(do let v <-whole;aeQ e.pos;adx [v] (truthy v))):PT X e (tt X.K cl Z c):=(IF ha he).imp fun _ _ _ h=>wg h
end
noncomputable def noStar:Expr->Bool
 | .Starred _ _=>false
 | _=>true
def af {e:Expr}{es:List Expr}{env:Env} (h:noStar e=true):S_ (e::es) env=(false,eval e env)::S_ es env:=by
 cases e<;>first | rfl | cases h
theorem eF {pos:Pos}{env:Env}:∀ {es:List Expr},es.all noStar=true->(aaV pos (S_ es env)).any (·.1)=false
 | [],_=>rfl
 | e::es,h=>by
  rw[ZX,v_] at h;rw[af h.1];show (false||(aaV pos (S_ es env)).any (·.1))=false;rw[eF h.2];rfl
theorem lB {pos:Pos}{env:Env}:∀ {es:List Expr},es.all noStar=true->(aaV pos (S_ es env)).all (fun x => !x.1)=true
 | [],_=>rfl
 | e::es,h=>by
  rw[ZX,v_] at h;rw[af h.1];show (true&&(aaV pos (S_ es env)).all (fun x => !x.1))=true;rw[lB h.2];rfl
section
variable {K:e_}{cl:Cl}{Z:Gm}{c ca cb cc:C}{σ:St}{H:Hp}{Q:VK}{X:Cx}{e a b:Expr}{es:List Expr}
def NO:PA X [] (ta X.K cl Z .nil):=bg.imp fun σ H Q h=>by
 ext a;exact h3 [] [] M G H h1.self IsL.nil h2
def Ki (ha:PE X a '4') (hr:PA X es (ta X.K cl Z cb)) (hs:noStar a=true):PA X (a::es) (ta X.K cl Z (.cons ca cb)):=(aA ha hr (af hs)).imp fun σ H Q h=>by
 ext a;exact⟨B,ρ,M,G,_,h1,h2,fun x vx M1 G1 H1 f1 i1 hx=>⟨B,ρ,M1,G1,_,h1.on f1,hx,fun ds vs M2 G2 H2 f2 i2 hd=>h3 _ _ M2 G2 H2 (f1.trans f2) (IsL.cons (i1.mono f2.g) i2) hd⟩⟩
def yp {G H:Hp}{p:Addr} (s:ag G H) (h:H p=none):G p=none:=s.free h
def bc.cell {G H:Hp}{M:Mem}{p:Addr}{o:HO}{m:MO} (gh:ag G H) (mm:bG K cl G H M) (hp:H p=none) (hc:∀ H',H' p=some o->cj K cl G H' p m):bc K cl none G H M G (upd H p o) (cD M p m):=by
 have gp:G p=none:=yp gh hp
 have mp:M p=none:=by
  cases e:M p with
  | none=>rfl
  | some w=>obtain⟨u,hu⟩:=(mm p w e).2.lr;rw[hp] at hu;cases hu
 refine⟨ag.refl G,fun a u e=>ag.put hp a u (gh a u e),fun a u e=>⟨u,ag.put hp a u e⟩,fun a u e n=>absurd e (by rw[n];exact fun z=>nomatch z),fun a u e _ _=>ag.put hp a u e,fun a u e=>?_,fun a u e n=>?_,fun a u e=>?_⟩
 ·unfold cD at e;by_cases z:a=p
  ·subst z;rw[z_ rfl] at e;cases e;exact⟨gp,hc _ au⟩
  ·rw[s_ z] at e;obtain⟨h1,h2⟩:=mm a u e;exact⟨h1,h2.mono (ag.refl G) fun w hw=>by rw[av z];exact hw⟩
 ·unfold cD at e;by_cases z:a=p
  ·rw[z];exact hp
  ·rw[s_ z,n] at e;cases e
 ·unfold cD;by_cases z:a=p
  ·subst z;rw[mp] at e;cases e
  ·rw[s_ z];exact⟨u,e,rfl⟩
def Hj (h:tp K cl Z (.fr c) σ H Q):tf K cl Z c σ H Q:=by
 ext a;refine⟨B,ρ,M,G,_,h1,h2,fun ds vs M' G' H' p f hp i hR=>?_⟩;have f2:=bc.lay (o:=.lst vs) f.gh f.mem hp;exact h3 (.lst ds) (.ref p) M' _ _ (f.trans f2) (by unfold Is;exact⟨p,vs,rfl,au,i.mono f2.g⟩) hR
def Kj (h:PE X e (tf X.K cl Z c)):PE X e (tp X.K cl Z (.fr c)):=h.imp fun _ _ _=>Hj
def NP (h:PE X e (tf X.K cl Z c)):PE X e (tp X.K cl Z (.nlh c)):=h.imp fun σ H Q h=>by
 ext a;refine⟨B,ρ,M,G,_,h1,h2,fun ds vs M' G' H' p f hp i hR=>?_⟩;have f2:=bc.cell (o:=.lst vs) (m:=.ml ds) f.gh f.mem hp fun H' e=>⟨vs,e,i⟩
 refine h3 (.j3 p) (.ref p) _ _ _ (f.trans f2) (by unfold Is;rfl) (hR p ?_)
 cases e:M' p with
 | none=>rfl
 | some w=>obtain⟨u,hu⟩:=(f.mem p w e).2.lr;rw[hp] at hu;cases hu
def NQ {k pos} (h:PA X es (ta X.K cl Z c)):PE X (.Tuple es k pos) (tp X.K cl Z (.tup c)):=(Js h).imp fun σ H Q h=>by
 ext a;refine⟨B,ρ,M,G,_,h1,h2,fun ds vs M' G' H' f i hR=>⟨by rw[<-i.length];exact hR.1,fun p hp=>?_⟩⟩;have f2:=bc.lay (o:=.tup vs) f.gh f.mem hp;exact h3 (.tup ds) (.ref p) M' _ _ (f.trans f2) (by unfold Is;exact⟨p,vs,rfl,au,i.mono f2.g⟩) hR.2
def NR {pos} (h:PA X es (ta X.K cl Z c)):PE X (.List es pos) (tf X.K cl Z (.dsp c)):=(Jt h).imp fun σ H Q h=>by
 ext a;exact⟨B,ρ,M,G,_,h1,h2,fun ds vs M' G' H' f i hR=>⟨by rw[<-i.length];exact hR.1,fun p hp=>h3 ds vs M' G' H' p f hp i hR.2⟩⟩
def XC {D:Dt->Mem->(List Dt->Mem->Prop)->Prop}{r:V->Hp->VK->Prop} (he:∀ ρ M R,ev Z c ρ M R->ev Z ca ρ M fun x M1=>aM x fun x=>D x M1 R)
  (hr:∀ x v G H M (k:List Dt->Mem->Prop) (Q:VK),ag G H->bG K cl G H M->dB K cl G H x v->D x M k->(∀ ds vs M' G' H' p,bc K cl none G H M G' H' M'->H' p=none->IsL K cl G' ds vs->k ds M'->Q (.ref p) (upd H' p (.lst vs)))->r v H Q)
  (h:tf K cl Z c σ H Q):tq K cl Z ca σ H fun v H1=>r v H1 Q:=by
 ext a;exact⟨B,ρ,M,G,_,h1,he _ _ _ h2,fun d v M' G' H' f i hd=>hr d v G' H' M' _ Q f.gh f.mem i hd fun ds vs M2 G2 H2 p f2 hp i2 h4=>h3 ds vs M2 G2 H2 p (f.trans f2) hp i2 h4⟩
def XD {D:Dt->Dt->Mem->(List Dt->Mem->Prop)->Prop}{r:R2} (he:∀ ρ M R,ev Z c ρ M R->ev Z ca ρ M fun x M1=>aM x fun x=>ev Z cb ρ M1 fun y M2=>aM y fun y=>D x y M2 R)
  (hr:∀ x y vx vy G H M (k:List Dt->Mem->Prop) (Q:VK),ag G H->bG K cl G H M->dB K cl G H x vx->dB K cl G H y vy->D x y M k->(∀ ds vs M' G' H' p,bc K cl none G H M G' H' M'->H' p=none->IsL K cl G' ds vs->k ds M'->Q (.ref p) (upd H' p (.lst vs)))->r vx vy H Q)
  (h:tf K cl Z c σ H Q):B2 r (tr K cl Z ca) (tq K cl Z cb) σ H Q:=by
 ext a;refine⟨B,ρ,M,G,_,h1,he _ _ _ h2,fun x vx M1 G1 H1 f1 i1 hx=>⟨B,ρ,M1,G1,_,h1.on f1,hx,fun y vy M2 G2 H2 f2 i2 hy=>?_⟩⟩;exact hr x y vx vy G2 H2 M2 _ Q f2.gh f2.mem (i1.b5 f2).q i2 hy fun ds vs M3 G3 H3 p f3 hp i3 h4=>h3 ds vs M3 G3 H3 p ((f1.trans f2).trans f3) hp i3 h4
def cz {o:m_ (List Dt)}{k:List Dt->Prop} (h:lx o k):∃ ds,o=some ds/\k ds:=by
 cases o with
 | none=>exact (show False from h).elim
 | some ds=>exact⟨ds,rfl,h⟩
def f6 {d:Dt}{k:List Dt->Prop} (h:lstK d k):∃ ds,d=.lst ds/\k ds:=by
 cases d with
 | lst ds=>exact⟨ds,rfl,h⟩
 | _=>exact (show False from h).elim
def bA {d:Dt}{k:Int->Prop} (h:intD d k):∃ ds,d=.int ds/\k ds:=by
 cases d with
 | int ds=>exact⟨ds,rfl,h⟩
 | _=>exact (show False from h).elim
def mC {d:Dt}{k:Str->Prop} (h:wb d k):∃ ds,d=.str ds/\k ds:=by
 cases d with
 | str ds=>exact⟨ds,rfl,h⟩
 | _=>exact (show False from h).elim
def gK {d:Dt}{k:Bool->Prop} (h:cy d k):∃ ds,d=.bl ds/\k ds:=by
 cases d with
 | bl ds=>exact⟨ds,rfl,h⟩
 | _=>exact (show False from h).elim
theorem dB.lst {G H:Hp}{ds:List Dt}{v:V} (s:ag G H) (h:dB K cl G H (.lst ds) v):∃ a vs,v=.ref a/\H a=some (.lst vs)/\IsL K cl G ds vs:=by
 rcases h with h | ⟨a,o,rfl,ho,hc⟩
 ·unfold Is at h;obtain⟨a,vs,e,q,r⟩:=h;exact⟨a,vs,e,s _ _ q,r⟩
 ·cases ho;obtain⟨vs,h1,h2⟩:=hc;exact⟨a,vs,rfl,h1,h2⟩
section
variable {x:Str}{id T:acq}{rr:List V->Hp->VK->Prop}{p pos:Pos}
def yq {D:Dt->Mem->(Dt->Mem->Prop)->Prop} (hc:bj X (.builtin id) rr) (hg:Gl X x) (hm:X.mg x=none) (hv:aag x=some (.builtin id)) (hn:x ≠ "__name__") (m4:'2'=false) (ha:PE X a (tq X.K cl Z ca)) (hs:noStar a=true)
  (he:∀ ρ M R,ev Z c ρ M R->ev Z ca ρ M fun x M1=>aM x fun x=>D x M1 fun d M2=>R [d] M2)
  (hr:∀ x v G H M (k:Dt->Mem->Prop) (Q:VK),ag G H->bG X.K cl G H M->dB X.K cl G H x v->D x M k->(∀ d u M' G' H',bc X.K cl none G H M G' H' M'->Is X.K cl G' d u->k d M'->Q u H')->rr [v] H Q):PE X (.Call (.Name x p) [a] [] pos) (tp X.K cl Z c) :=
 (oK hc hg hm hv (aA ha bg (af hs)) hn m4 (af hs) rfl).imp fun σ H Q h=>NI (r:=fun v H Q=>rr [v] H Q) he hr h
def ud {D:Dt->Mem->(Dt->Mem->Prop)->Prop} (hc:bj X (.type T) rr) (hg:Gl X x) (hm:X.mg x=none) (hv:aag x=some (.type T)) (hn:x ≠ "__name__") (m4:'2'=false) (ha:PE X a (tq X.K cl Z ca)) (hs:noStar a=true)
  (he:∀ ρ M R,ev Z c ρ M R->ev Z ca ρ M fun x M1=>aM x fun x=>D x M1 fun d M2=>R [d] M2)
  (hr:∀ x v G H M (k:Dt->Mem->Prop) (Q:VK),ag G H->bG X.K cl G H M->dB X.K cl G H x v->D x M k->(∀ d u M' G' H',bc X.K cl none G H M G' H' M'->Is X.K cl G' d u->k d M'->Q u H')->rr [v] H Q):PE X (.Call (.Name x p) [a] [] pos) (tp X.K cl Z c) :=
 (bZ hc hg hm hv (aA ha bg (af hs)) hn m4 (af hs) rfl).imp fun σ H Q h=>NI (r:=fun v H Q=>rr [v] H Q) he hr h
def FZ {D:Dt->Mem->(List Dt->Mem->Prop)->Prop} (hc:bj X (.type T) rr) (hg:Gl X x) (hm:X.mg x=none) (hv:aag x=some (.type T)) (hn:x ≠ "__name__") (m4:'2'=false) (ha:PE X a (tq X.K cl Z ca)) (hs:noStar a=true)
  (he:∀ ρ M R,ev Z c ρ M R->ev Z ca ρ M fun x M1=>aM x fun x=>D x M1 R)
  (hr:∀ x v G H M (k:List Dt->Mem->Prop) (Q:VK),ag G H->bG X.K cl G H M->dB X.K cl G H x v->D x M k->(∀ ds vs M' G' H' p,bc X.K cl none G H M G' H' M'->H' p=none->IsL X.K cl G' ds vs->k ds M'->Q (.ref p) (upd H' p (.lst vs)))->rr [v] H Q):PE X (.Call (.Name x p) [a] [] pos) (tf X.K cl Z c) :=
 (bZ hc hg hm hv (aA ha bg (af hs)) hn m4 (af hs) rfl).imp fun σ H Q h=>XC (r:=fun v H Q=>rr [v] H Q) he hr h
def Kk {D:Dt->Dt->Mem->(Dt->Mem->Prop)->Prop} (hc:bj X (.builtin id) rr) (hg:Gl X x) (hm:X.mg x=none) (hv:aag x=some (.builtin id)) (hn:x ≠ "__name__") (m4:'2'=false) (ha:PE X a (tr X.K cl Z ca)) (hb:PE X b (tq X.K cl Z cb)) (hs:noStar a=true) (jX:noStar b=true)
  (he:∀ ρ M R,ev Z c ρ M R->ev Z ca ρ M fun x M1=>aM x fun x=>ev Z cb ρ M1 fun y M2=>aM y fun y=>D x y M2 fun d M3=>R [d] M3)
  (hr:∀ x y vx vy G H M (k:Dt->Mem->Prop) (Q:VK),ag G H->bG X.K cl G H M->dB X.K cl G H x vx->dB X.K cl G H y vy->D x y M k->(∀ d u M' G' H',bc X.K cl none G H M G' H' M'->Is X.K cl G' d u->k d M'->Q u H')->rr [vx,vy] H Q):PE X (.Call (.Name x p) [a,b] [] pos) (tp X.K cl Z c) :=
 (oK hc hg hm hv (aA ha (aA hb bg (af jX)) (af hs)) hn m4 (af hs) (eF (by simp [jX]))).imp fun σ H Q h=>Hh (r:=fun v u H Q=>rr [v,u] H Q) he hr h
end
def NS {p pos:Pos} (hg:Gl X "list") (hm:X.mg "list" = none) (ha:PE X a (tq X.K cl Z ca)) (hs:noStar a=true):PE X (.Call (.Name "list" p) [a] [] pos) (tf X.K cl Z (.lof ca)) :=
 FZ (c:=.lof ca) (D:=fun x M k=>lx (mz x) fun ds=>k ds M) (tR) hg hm aaX (2) (2) ha hs (5)
  (fun x v G H M k Q s m hx hd q=>by
   obtain⟨ds,e,hk⟩:=cz hd;obtain⟨l,vs,rfl,h1,h2⟩:=hx.seq s e;exact⟨l,vs,rfl,h1,fun p hp=>q ds vs M G H p (bc.refl s m) hp h2 hk⟩)
def Hk {p pos:Pos} (hg:Gl X "len") (hm:X.mg "len" = none) (ha:PE X a (tq X.K cl Z ca)) (hs:noStar a=true):PE X (.Call (.Name "len" p) [a] [] pos) (tp X.K cl Z (.len ca)) :=
 yq (c:=.len ca) (D:=fun x M k=>t9 x fun n=>k (.int n) M) (tP.or tQ) hg hm PySem.boot_len (2) (2) ha hs (5)
  (fun x v G H M k Q s m hx hd q=>by
   have fin:∀ {ds:List Dt},mz x=some ds->k (.int ds.length) M->∃ p ys,[v]=[V.ref p]/\(cE X.K H p ys∨eV X.K H p ys)/\Q (.int ys.length) H:=fun {ds} e hk=>by
    obtain⟨l,vs,rfl,h1,h2⟩:=hx.seq s e;exact⟨l,vs,rfl,h1,q _ _ M G H (bc.refl s m) (by unfold Is;rw[h2.length]) hk⟩
   cases x with
   | str z=>have e:=hx.str;subst e;exact .inr ⟨z,rfl,hd.1,q _ _ M G H (bc.refl s m) (by unfold Is;rfl) hd.2⟩
   | lst ds=>exact .inl (fin rfl hd)
   | og ds=>exact .inl (fin rfl hd)
   | tup ds=>exact .inl (fin rfl hd)
   | fS ds=>exact .inl (fin rfl hd)
   | sD ds=>exact .inl (fin rfl hd)
   | qS ds=>exact .inl (fin rfl hd)
   | _=>exact (show False from hd).elim)
def NT {p pos:Pos} (hg:Gl X "tuple") (hm:X.mg "tuple" = none) (ha:PE X a (tq X.K cl Z ca)) (hs:noStar a=true):PE X (.Call (.Name "tuple" p) [a] [] pos) (tp X.K cl Z (.tpl ca)) :=
 ud (c:=.tpl ca) (D:=fun x M k=>lx (mw x) fun ds=>k (.tup ds) M) (AW) hg hm acA (2) (2) ha hs (5)
  (fun x v G H M k Q s m hx hd q=>by
   obtain⟨ds,e,hk⟩:=cz hd;obtain⟨l,vs,rfl,h1,h2⟩:=hx.EF s e;refine⟨l,vs,rfl,h1,fun p hp=>?_⟩;have f2:=bc.lay (o:=.tup vs) s m hp;exact q _ _ M _ _ f2 (by unfold Is;exact⟨p,vs,rfl,au,h2.mono f2.g⟩) hk)
def NU {p pos:Pos} (hg:Gl X "tuple") (hm:X.mg "tuple" = none) (ha:PE X a (tq X.K cl Z ca)) (hs:noStar a=true):PE X (.Call (.Name "tuple" p) [a] [] pos) (tp X.K cl Z (.tpf ca)) :=
 ud (c:=.tpf ca) (D:=fun x M k=>lx (mw x) fun ds=>k (.fS ds) M) (A6) hg hm acA (2) (2) ha hs (5)
  (fun x v G H M k Q s m hx hd q=>by
   obtain⟨ds,e,hk⟩:=cz hd;obtain⟨l,vs,rfl,h1,h2⟩:=hx.EF s e;refine⟨l,vs,rfl,h1,fun p o hp XE XF=>?_⟩;have f2:=bc.lay (o:=.eT o (.tup vs)) s m hp;exact q _ _ M _ _ f2 (by unfold Is;exact⟨p,vs,rfl,⟨o,au,XE,XF⟩,h2.mono f2.g⟩) hk)
def NV {p pos:Pos} (hc:X.calm=true) (hg:Gl X "all") (hm:X.mg "all" = none) (ha:PE X a (tq X.K cl Z ca)) (hs:noStar a=true):PE X (.Call (.Name "all" p) [a] [] pos) (tp X.K cl Z (.all ca)) :=
 yq (c:=.all ca) (D:=fun x M k=>∃ bs:List Bool,x=.lst (bs.map .bl)/\k (.bl (bs.all id)) M) (Ct hc) hg hm (1) (2) (2) ha hs (5)
  (fun x v G H M k Q s m hx hd q=>by
   obtain⟨bs,rfl,hk⟩:=hd;obtain⟨l,vs,rfl,h1,h2⟩:=hx.lst s;have e:=h2.ym;subst e;exact⟨l,bs,rfl,cE.of h1,q _ _ M G H (bc.refl s m) Is.zH hk⟩)
def NW {p pos:Pos} (hc:X.calm=true) (hg:Gl X "any") (hm:X.mg "any" = none) (ha:PE X a (tq X.K cl Z ca)) (hs:noStar a=true):PE X (.Call (.Name "any" p) [a] [] pos) (tp X.K cl Z (.any ca)) :=
 yq (c:=.any ca) (D:=fun x M k=>∃ bs:List Bool,x=.lst (bs.map .bl)/\k (.bl (bs.any id)) M) (Cu hc) hg hm (1) (2) (2) ha hs (5)
  (fun x v G H M k Q s m hx hd q=>by
   obtain⟨bs,rfl,hk⟩:=hd;obtain⟨l,vs,rfl,h1,h2⟩:=hx.lst s;have e:=h2.ym;subst e;exact⟨l,bs,rfl,cE.of h1,q _ _ M G H (bc.refl s m) Is.zH hk⟩)
def Kl {p pos:Pos} (hg:Gl X "int") (hm:X.mg "int" = none) (ha:PE X a (tq X.K cl Z ca)) (hs:noStar a=true):PE X (.Call (.Name "int" p) [a] [] pos) (tp X.K cl Z (.int1 ca)) :=
 ud (c:=.int1 ca) (D:=fun x M k=>cy x fun b=>k (.int (if b then 1 else 0)) M) (AA) hg hm aet (2) (2) ha hs (5)
  (fun x v G H M k Q s m hx hd q=>by
   obtain⟨b,rfl,hk⟩:=gK hd;have e:=hx.bl;subst e;exact .inr ⟨b,rfl,q _ _ M G H (bc.refl s m) (by unfold Is;rfl) hk⟩)
end
section
variable {K:e_}{cl:Cl}{Z:Gm}{c ca cb cc:C}{σ:St}{G H:Hp}{Q:VK}{X:Cx}{e a b:Expr}{es:List Expr}{pos:Pos}
mutual
theorem Is.dat (s:ag G H):∀ {d:Dt}{v:V}{p:P_},Is K cl G d v->toP d=some p->cF K H v p
 | .az,v,p,h,e=>by unfold Is at h;unfold toP at e;cases e;subst h;exact .az
 | .bl b,v,p,h,e=>by unfold Is at h;unfold toP at e;cases e;subst h;exact .bl b
 | .int b,v,p,h,e=>by unfold Is at h;unfold toP at e;cases e;subst h;exact .int b
 | .str b,v,p,h,e=>by unfold Is at h;unfold toP at e;cases e;subst h;exact .str b
 | .lst ds,v,p,h,e=>by
  unfold Is at h;unfold toP at e;obtain⟨a,vs,rfl,q,r⟩:=h;obtain⟨ps,e1,rfl⟩:=o_.mp e;exact .lst (cE.of (s _ _ q)) (IsL.qV s r e1)
 | .og ds,v,p,h,e=>by
  unfold Is at h;unfold toP at e;obtain⟨a,vs,rfl,q,r⟩:=h;obtain⟨ps,e1,rfl⟩:=o_.mp e;exact .lst (q.same s) (IsL.qV s r e1)
 | .tup ds,v,p,h,e=>by
  unfold Is at h;unfold toP at e;obtain⟨a,vs,rfl,q,r⟩:=h;obtain⟨ps,e1,rfl⟩:=o_.mp e;exact .tup (eV.of (s _ _ q)) (IsL.qV s r e1)
 | .fS ds,v,p,h,e=>by
  unfold Is at h;unfold toP at e;obtain⟨a,vs,rfl,q,r⟩:=h;obtain⟨ps,e1,rfl⟩:=o_.mp e;exact .tup (q.sq.same s) (IsL.qV s r e1)
 | .sD ds,v,p,h,e=>by
  unfold Is at h;unfold toP at e;obtain⟨a,vs,rfl,q,r⟩:=h;obtain⟨ps,e1,rfl⟩:=o_.mp e;exact .tup (q.same s) (IsL.qV s r e1)
 | .qS ds,v,p,h,e=>by
  unfold Is at h;unfold toP at e;obtain⟨a,vs,rfl,q,r⟩:=h;obtain⟨ps,e1,rfl⟩:=o_.mp e;exact .tup (eV.same s (.inl q)) (IsL.qV s r e1)
 | .obj c fs ds,v,p,h,e=>by unfold toP at e;cases e
 | .Hf ks,v,p,h,e=>by unfold toP at e;cases e
 | .j3 a,v,p,h,e=>by unfold toP at e;cases e
theorem IsL.qV (s:ag G H):∀ {ds:List Dt}{vs:List V}{ps:List P_},IsL K cl G ds vs->toPs ds=some ps->eB K H vs ps
 | [],vs,ps,h,e=>by unfold IsL at h;unfold toPs at e;cases e;subst h;exact .nil
 | d::ds,vs,ps,h,e=>by
  unfold IsL at h;unfold toPs at e;obtain⟨v,r,rfl,h1,h2⟩:=h
  cases e1:toP d with
  | none=>rw[e1] at e;cases e
  | some p =>
   cases e2:toPs ds with
   | none=>rw[e1,e2] at e;cases e
   | some qs =>
    rw[e1,e2] at e
    cases e
    exact .cons (Is.dat s h1 e1) (IsL.qV s h2 e2)
end
theorem dB.dat {d:Dt}{v:V}{p:P_} (s:ag G H) (h:dB K cl G H d v) (e:toP d=some p):cF K H v p:=by
 rcases h with h | ⟨a,o,rfl,ho,hc⟩
 ·exact h.dat s e
 ·cases d<;>first | (cases ho;done) | skip
  ·cases ho
   obtain⟨vs,h1,h2⟩:=hc;unfold toP at e;obtain⟨ps,e1,rfl⟩:=o_.mp e;exact .lst (cE.of h1) (h2.qV s e1)
  ·unfold toP at e;cases e
noncomputable def NX:Bool->CmpOp
 | false=>.Eq
 | true=>.NotEq
def F0 (K:e_):Bool->R2
 | false=>fun x y H Q=>UT x y H Q∨Fo K false x y H Q
 | true=>fun x y H Q=>UU x y H Q∨Fo K true x y H Q
theorem C1 (hu:X.A.units+64<cLine):∀ ng,fk X (ZF (NX ng)) (F0 X.K ng)
 | false=>My.or (JN hu)
 | true=>Mz.or (JO hu)
def C2 (ng:Bool) (b:Expr):aaf (NX ng) b=false:=by cases ng<;>exact B5 b
def NY {ng:Bool}{x y:Dt}{vx vy:V}{k:Bool->Prop} (s:ag G H) (hx:dB K cl G H x vx) (hy:dB K cl G H y vy) (h:we x y k) (q:∀ b,k b->Q (.bl (xr ng b)) H):F0 K ng vx vy H Q:=by
 unfold we at h
 cases e:SU x y with
 | some b =>
  rw[e] at h
  have fin:∀ {u w:V},Jk u w=true->decide (u=w)=b->F0 K ng u w H Q:=fun {u w} h1 h2=>by
   cases ng with
   | false=>exact .inl ⟨h1,by rw[h2];exact q b h⟩
   | true=>exact .inl ⟨h1,by rw[h2];exact q b h⟩
  unfold SU at e;split at e
  ·cases e;have e1:=hx.int;have e2:=hy.int;subst e1 e2;exact fin rfl (3)
  ·cases e;have e1:=hx.str;have e2:=hy.str;subst e1 e2;exact fin rfl (3)
  ·cases e;have e1:=hx.bl;have e2:=hy.bl;subst e1 e2;exact fin rfl (3)
  ·cases e
 | none =>
  rw[e] at h;obtain⟨p,p',h1,h2,h3,h4,h5⟩:=h;have:=q _ h5
  cases ng with
  | false=>exact .inr ⟨p,p',hx.dat s h1,hy.dat s h2,h3,h4,this⟩
  | true=>exact .inr ⟨p,p',hx.dat s h1,hy.dat s h2,h3,h4,this⟩
def Hl {ng:Bool} (h:tp K cl Z (.eq ng ca cb) σ H Q):B2 (F0 K ng) (tr K cl Z ca) (tq K cl Z cb) σ H Q :=
 Hh (c:=.eq ng ca cb) (D:=fun x y M k=>we x y fun c=>k (.bl (xr ng c)) M) (5) (fun x y vx vy G H M k Q s m hx hy hd q=>NY s hx hy hd fun b hk=>q _ _ M G H (bc.refl s m) Is.zH hk) h
def s_eq {ng:Bool} (hu:X.A.units+64<cLine) (ha:PE X a (tr X.K cl Z ca)) (hb:PE X b (tq X.K cl Z cb)):PE X (.Compare a [NX ng] [b] pos) (tp X.K cl Z (.eq ng ca cb)):=(nY (C1 hu ng) ha hb (C2 ng b)).imp fun _ _ _=>Hl
def S0 {ng:Bool} (hu:X.A.units+64<cLine) (ha:PE X a (tr X.K cl Z ca)) (hb:PE X b (tq X.K cl Z cb)):PT X (.Compare a [NX ng] [b] pos) (tt X.K cl Z (.eq ng ca cb)):=zI (C1 hu ng) ha hb (C2 ng b) fun _ _ _=>Hl
def Km {op:qU} (h:tp K cl Z (.cmp op ca cb) σ H Q):B2 (C0 op) (tr K cl Z ca) (tq K cl Z cb) σ H Q :=
 Hh (c:=.cmp op ca cb) (D:=fun x y M k=>j6 op x y fun c=>k (.bl c) M) (5) (fun x y vx vy G H M k Q s m hx hy hd q=>uc hx hy hd fun b hk=>q _ _ M G H (bc.refl s m) Is.zH hk) h
def Kn {op:qU} (ha:PE X a '4') (hb:PE X b (tp X.K cl Z cb)):PT X (.Compare a [BN op] [b] pos) (tt X.K cl Z (.cmp op ca cb)):=zI (mB op) ha.r hb.q (yo op b) fun _ _ _=>Km
noncomputable def Ez:Bool->CmpOp
 | false=>.In
 | true=>.NotIn
def zJ (K:e_):R2:=fun x y H Q=>∃ p xs d ds,y=.ref p/\cE K H p xs/\cF K H x d/\eB K H xs ds/\L_ d=true/\(∀ e∈ds,L_ e=true)/\Q (.bl (!ds.any fun e=>V_ e d)) H
def Bi (hu:X.A.units+66<cLine):fk X (ZF .NotIn) (zJ X.K):=by
 ext f;obtain⟨p,xs,d,ds,rfl,hq,hd,AJ,s1,s2,q⟩:=h
 cases ry
 obtain⟨as,ra⟩:=hd.reads I v rx;obtain⟨ai,r,pl,hz⟩:=I.list hq;have F2:=eB.reads I AJ s2 ai r
 classical
 let e:Value->Bool:=fun w=>if h:∃ d',(∃ bs,Reads s.heap w d' bs)/\L_ d'=true then V_ h.choose d else false
 have he:∀ w d',((∃ bs,Reads s.heap w d' bs)/\L_ d'=true)->e w=V_ d' d:=fun w d' hx=>by
  have vR:∃ d',(∃ bs,Reads s.heap w d' bs)/\L_ d'=true:=⟨d',hx⟩;show (if h:∃ d',(∃ bs,Reads s.heap w d' bs)/\L_ d'=true then V_ h.choose d else false)=_;rw[dif_pos vR];obtain⟨⟨cs,rc⟩,sc⟩:=vR.choose_spec;obtain⟨⟨bs,rb⟩,sb⟩:=hx;rw[afk _ _ _ _ _ (aau sc) rc rb]
 refine afd e pl.isList (fun w hw=>?_) ⟨.bl _,H,I,rfl,?_⟩
 ·obtain⟨d',hx⟩:=tX F2 w (by simpa using hw);rw[he w d' hx];obtain⟨⟨bs,rb⟩,sb⟩:=hx;exact afV d' d X.A.in1 s w v bs as rb ra (aau sb) (aau s1) (aeJ sb (by rw[show X.A.in1.units=X.A.units+1 from rfl];lia))
 ·rw[show ai.toArray.any e=ai.any e by simp,tW F2 he];exact q
def Ko (K:e_):Bool->R2
 | false=>fun x y H Q=>QF K false x y H Q∨Nx K x y H Q
 | true=>fun x y H Q=>QF K true x y H Q∨zJ K x y H Q
theorem C3 (hu:X.A.units+66<cLine):∀ ng,fk X (ZF (Ez ng)) (Ko X.K ng)
 | false=>AL.or (J3 hu)
 | true=>tO.or (Bi hu)
def Is.flat {d:Dt}{v:V} (h:Is K cl G d v) (f:pC d=true):v=Ka d/\eW v=true:=by
 cases d<;>first | (cases f;done) | (unfold Is at h;subst h;exact⟨rfl,rfl⟩)
theorem IsL.flat:∀ {ds:List Dt}{vs:List V},IsL K cl G ds vs->ds.all pC=true->vs=ds.map Ka/\vs.all eW=true
 | [],vs,h,_=>by unfold IsL at h;subst h;exact⟨rfl,rfl⟩
 | d::ds,vs,h,f=>by
  unfold IsL at h;obtain⟨v,r,rfl,h1,h2⟩:=h;rw[ZX,v_] at f;obtain⟨e1,e2⟩:=h1.flat f.1;obtain⟨e3,e4⟩:=IsL.flat h2 f.2;exact⟨by rw[r_,<-e1,<-e3],by rw[ZX,e2,e4];rfl⟩
theorem dB.flat {d:Dt}{v:V} (h:dB K cl G H d v) (f:pC d=true):v=Ka d/\eW v=true:=by
 rcases h with h | ⟨a,o,rfl,ho,hc⟩
 ·exact h.flat f
 ·cases d<;>first | (cases f;done) | (cases ho;done)
def Kp {ng:Bool}{x y:Dt}{vx vy:V}{k:Bool->Prop} (s:ag G H) (hx:dB K cl G H x vx) (hy:dB K cl G H y vy) (h:Bg x y k) (q:∀ b,k b->Q (.bl (xr ng b)) H):Ko K ng vx vy H Q:=by
 rcases h with ⟨ds,e,f1,f2,hk⟩ | ⟨ds,p,ps,e,e1,e2,h1,h2,hk⟩
 ·obtain⟨l,vs,rfl,h1,h2⟩:=hy.seq s e;obtain⟨g1,g2⟩:=hx.flat f1;obtain⟨g3,g4⟩:=h2.flat f2
  have eq:QE vx vs=ds.any fun z=>FT z x:=by
   unfold QE;rw[g3,ab8,g1];rfl
  have:=q _ hk;rw[<-eq] at this
  cases ng with
  | false=>exact .inl ⟨l,vs,rfl,h1,g2,g4,this⟩
  | true=>exact .inl ⟨l,vs,rfl,h1,g2,g4,this⟩
 ·obtain⟨l,vs,rfl,g1,g2⟩:=hy.EF s e;have:=q _ hk
  cases ng with
  | false=>exact .inr ⟨l,vs,p,ps,rfl,g1,hx.dat s e1,g2.qV s e2,h1,h2,this⟩
  | true=>exact .inr ⟨l,vs,p,ps,rfl,g1,hx.dat s e1,g2.qV s e2,h1,h2,this⟩
def C4 {ng:Bool} (h:tp K cl Z (.inn ng ca cb) σ H Q):B2 (Ko K ng) (tr K cl Z ca) (tq K cl Z cb) σ H Q :=
 Hh (c:=.inn ng ca cb) (D:=fun x y M k=>Bg x y fun c=>k (.bl (xr ng c)) M) (5) (fun x y vx vy G H M k Q s m hx hy hd q=>Kp s hx hy hd fun b hk=>q _ _ M G H (bc.refl s m) Is.zH hk) h
noncomputable def iB:Expr->Bool
 | .Set _ _ _=>false
 | _=>true
def dy {op:CmpOp}{b:Expr} (h:iB b=true):aaf op b=false:=by
 cases b<;>first | rfl | cases h
def NZ {ng:Bool} (hu:X.A.units+66<cLine) (ha:PE X a (tr X.K cl Z ca)) (hb:PE X b (tq X.K cl Z cb)) (hs:iB b=true):PE X (.Compare a [Ez ng] [b] pos) (tp X.K cl Z (.inn ng ca cb)):=(nY (C3 hu ng) ha hb (dy hs)).imp fun _ _ _=>C4
def N1 {ng:Bool} (hu:X.A.units+66<cLine) (ha:PE X a (tr X.K cl Z ca)) (hb:PE X b (tq X.K cl Z cb)) (hs:iB b=true):PT X (.Compare a [Ez ng] [b] pos) (tt X.K cl Z (.inn ng ca cb)):=zI (C3 hu ng) ha hb (dy hs) fun _ _ _=>C4
def C5 (h:tp K cl Z (.ins ca cb) σ H Q):B2 (fun x y H Q=>∃ i j,x=.str i/\y=.str j/\Q (.bl (!(aaK j i 0 j.length 1).isEmpty)) H) (tr K cl Z ca) (tq K cl Z cb) σ H Q :=
 Hh (c:=.ins ca cb) (D:=fun x y M k=>wb x fun i=>wb y fun j=>k (.bl (!(aaK j i 0 j.length 1).isEmpty)) M) (5) (fun x y vx vy G H M k Q s m hx hy hd q=>by
  obtain⟨i,rfl,hd2⟩:=mC hd;obtain⟨j,rfl,N7⟩:=mC hd2;exact⟨i,j,hx.str,hy.str,q _ _ M G H (bc.refl s m) Is.zH N7⟩) h
def N8 (ha:PE X a '4') (hb:PE X b (tp X.K cl Z cb)) (hs:iB b=true):PE X (.Compare a [.In] [b] pos) (tp X.K cl Z (.ins ca cb)):=(nY rV ha.r hb.q (dy hs)).imp fun _ _ _=>C5
def N9 (ha:PE X a '4') (hb:PE X b (tp X.K cl Z cb)) (hs:iB b=true):PT X (.Compare a [.In] [b] pos) (tt X.K cl Z (.ins ca cb)):=zI rV ha.r hb.q (dy hs) fun _ _ _=>C5
def C6 (h:tp K cl Z (.ind ca cb) σ H Q):Ni (tp K cl Z ca) (tp K cl Z cb) σ H Q:=by
 ext a;ext g;obtain⟨i,rfl,hz⟩:=bA hy
 cases y with
 | Hf ks =>
  unfold Is at i1 i2;obtain⟨p,kvs,rfl,e,hk⟩:=i2;subst i1;refine⟨p,_,rfl,CD.k (k:=abE i) (f2.gh _ _ e),?_⟩;exact h3 _ _ M2 G2 H2 (f1.trans f2) (by unfold Is;rw[hk]) hz
 | _=>exact (show False from hz).elim
def Oa (hu:X.A.units+64<cLine) (ha:PE X a '4') (hb:PE X b (tp X.K cl Z cb)) (hs:iB b=true):PE X (.Compare a [.In] [b] pos) (tp X.K cl Z (.ind ca cb)):=(BQ (CF ∅ ha hb) (dy hs)).imp fun _ _ _=>C6
def Ob (hu:X.A.units+64<cLine) (ha:PE X a '4') (hb:PE X b (tp X.K cl Z cb)) (hs:iB b=true):PT X (.Compare a [.In] [b] pos) (tt X.K cl Z (.ind ca cb)):=(BR (CF ∅ ha hb) (dy hs)).imp fun _ _ _ h=>C6 (wg h)
def C7 {o1 o2:qU} (h:tp K cl Z (.chn o1 o2 ca cb cc) σ H Q):xQ (C0 o1) (C0 o2) (tp K cl Z ca) (tp K cl Z cb) (tp K cl Z cc) σ H Q:=by
 ext a;ext g;have Oc:=f1.trans f2;refine uc (.inl (i1.mono f2.g)) (.inl i2) (show j6 o1 x y (fun k=>if k=true then ev Z cc ρ M2 fun z M3=>aM z fun z=>j6 o2 y z fun k=>R [.bl k] M3 else R [.bl false] M2) from hy) fun b hb=>⟨b,rfl,?_⟩
 cases b with
 | false=>rw[s_ u_] at hb ⊢;exact h3 _ _ M2 G2 H2 Oc Is.zH hb
 | true =>
  rw[z_ rfl] at hb ⊢;refine⟨B,ρ,M2,G2,_,h1.on Oc,hb,fun z vz M3 G3 H3 f3 i3 hz=>uc (.inl (i2.mono f3.g)) (.inl i3) (show j6 o2 y z (fun k=>R [.bl k] M3) from hz) fun b hb=>h3 _ _ M3 G3 H3 (Oc.trans f3) Is.zH hb⟩
def Hm {o1 o2:qU}{b c:Expr}:lastMarks [BN o1,BN o2] [b,c]=false:=yo o2 c
def Od {o1 o2:qU}{c:Expr} (ha:PE X a '4') (hb:PE X b (tp X.K cl Z cb)) (hc:PE X c (tp X.K cl Z cc)):PE X (.Compare a [BN o1,BN o2] [b,c] pos) (tp X.K cl Z (.chn o1 o2 ca cb cc)):=(B6 (mB o1) (mB o2) ha hb hc Hm).imp fun _ _ _=>C7
def Oe {o1 o2:qU}{c:Expr} (ha:PE X a '4') (hb:PE X b (tp X.K cl Z cb)) (hc:PE X c (tp X.K cl Z cc)):PT X (.Compare a [BN o1,BN o2] [b,c] pos) (tt X.K cl Z (.chn o1 o2 ca cb cc)):=(B7 (mB o1) (mB o2) ha hb hc Hm).imp fun _ _ _ h=>C7 (wg h)
variable {rest:List Expr}
def Og {op} (h:PE X a '4'):PE X (.BoolOp op [a] pos) (tp X.K cl Z (.one ca)):=(IJ h).imp fun _ _ _ h=>by obtain⟨B,ρ,M,G,R,h1,h2,h3⟩:=h;exact⟨B,ρ,M,G,R,h1,h2,h3⟩
def Oh (ha:PE X a '4') (hb:PE X (.BoolOp .And (b::rest) pos) (tp X.K cl Z cb)):PE X (.BoolOp .And (a::b::rest) pos) (tp X.K cl Z (.and ca cb)):=(IK ha hb).imp fun σ H Q h=>by
 ext a;ext b;obtain⟨b,rfl,hy⟩:=gK hx;unfold Is at i1;refine⟨b,i1,?_⟩
 cases b with
 | false=>rw[s_ u_] at hy ⊢;exact h3 _ _ M1 G1 H1 f1 Is.zH hy
 | true=>rw[z_ rfl] at hy ⊢;exact⟨B,ρ,M1,G1,R,h1.on f1,hy,fun d v M2 G2 H2 f2=>h3 d v M2 G2 H2 (f1.trans f2)⟩
def S3 (ha:PE X a '4') (hb:PE X (.BoolOp .Or (b::rest) pos) (tp X.K cl Z cb)):PE X (.BoolOp .Or (a::b::rest) pos) (tp X.K cl Z (.or ca cb)):=(Mm ha hb).imp fun σ H Q h=>by
 ext a;ext b;obtain⟨b,rfl,hy⟩:=gK hx;unfold Is at i1;refine⟨b,i1,?_⟩
 cases b with
 | true=>rw[z_ rfl] at hy ⊢;exact h3 _ _ M1 G1 H1 f1 Is.zH hy
 | false=>rw[s_ u_] at hy ⊢;exact⟨B,ρ,M1,G1,R,h1.on f1,hy,fun d v M2 G2 H2 f2=>h3 d v M2 G2 H2 (f1.trans f2)⟩
def Oi (ha:PE X a '4'):PE X (.UnaryOp .Not a pos) (tp X.K cl Z (.not ca)):=(IL ha).imp fun σ H Q h=>by
 ext a;ext b;obtain⟨b,rfl,hy⟩:=gK hx;unfold Is at i1;exact⟨b,i1,h3 _ _ M1 G1 H1 f1 Is.zH hy⟩
def w_and1 (ha:PT X a (tt X.K cl Z ca)):PW X (.BoolOp .And [a] pos) (tt X.K cl Z (.one ca)):=(ES ha).imp fun _ _ _ h=>by obtain⟨B,ρ,M,G,R,h1,h2,h3⟩:=h;exact⟨B,ρ,M,G,R,h1,h2,h3⟩
def w_or1 (ha:PT X a (tt X.K cl Z ca)):PW X (.BoolOp .Or [a] pos) (tt X.K cl Z (.one ca)):=(IG ha).imp fun _ _ _ h=>by obtain⟨B,ρ,M,G,R,h1,h2,h3⟩:=h;exact⟨B,ρ,M,G,R,h1,h2,h3⟩
def w_and (ha:PT X a (tt X.K cl Z ca)) (hb:PW X (.BoolOp .And (b::rest) pos) (tt X.K cl Z cb)):PW X (.BoolOp .And (a::b::rest) pos) (tt X.K cl Z (.and ca cb)):=(IH ha hb).imp fun σ H Q h=>by
 obtain⟨B,ρ,M,G,k,h1,h2,h3⟩:=h;refine⟨B,ρ,M,G,fun c M1=>if c=true then ev Z cb ρ M1 (kB k) else k false M1,h1,h2,fun c M1 G1 H1 f1 hx=>?_⟩
 cases c with
 | false=>rw[s_ u_] at hx ⊢;exact h3 _ M1 G1 H1 f1 hx
 | true=>rw[z_ rfl] at hx ⊢;exact⟨B,ρ,M1,G1,k,h1.on f1,hx,fun d M2 G2 H2 f2=>h3 d M2 G2 H2 (f1.trans f2)⟩
def w_or (ha:PT X a (tt X.K cl Z ca)) (hb:PW X (.BoolOp .Or (b::rest) pos) (tt X.K cl Z cb)):PW X (.BoolOp .Or (a::b::rest) pos) (tt X.K cl Z (.or ca cb)):=(Mi ha hb).imp fun σ H Q h=>by
 obtain⟨B,ρ,M,G,k,h1,h2,h3⟩:=h;refine⟨B,ρ,M,G,fun c M1=>if c=true then k true M1 else ev Z cb ρ M1 (kB k),h1,h2,fun c M1 G1 H1 f1 hx=>?_⟩
 cases c with
 | true=>rw[z_ rfl] at hx ⊢;exact h3 _ M1 G1 H1 f1 hx
 | false=>rw[s_ u_] at hx ⊢;exact⟨B,ρ,M1,G1,k,h1.on f1,hx,fun d M2 G2 H2 f2=>h3 d M2 G2 H2 (f1.trans f2)⟩
def Oj (ha:PT X a (tt X.K cl Z ca)):PT X (.UnaryOp .Not a pos) (tt X.K cl Z (.not ca)):=(II ha).imp fun σ H Q h=>by
 obtain⟨B,ρ,M,G,k,h1,h2,h3⟩:=h;exact⟨B,ρ,M,G,fun c M1=>k (!c) M1,h1,h2,fun c M1 G1 H1 f1 hx=>h3 _ M1 G1 H1 f1 hx⟩
def S4 (ha:PE X a (tq X.K cl Z ca)) (he:∀ whole,aex a X.env whole=(do let v <-whole;aeQ a.pos;adx [v] (truthy v))):PT X a (tt X.K cl Z (.tr ca)):=(B8 ha he).imp fun σ H Q h=>by
 obtain⟨B,ρ,M,G,k,h1,h2,h3⟩:=h;ext b
 have nil:∀ {ds:List Dt}{vs:List V},IsL X.K cl G1 ds vs->(!ds.isEmpty) = !vs.isEmpty:=fun {ds vs} i=>by
  have:=i.length
  cases ds<;>cases vs<;>first | rfl | cases this
 cases x with
 | bl b=>have e:=i1.bl;subst e;exact⟨b,rfl,h3 b M1 G1 H1 f1 hx⟩
 | int i=>have e:=i1.int;subst e;exact⟨_,rfl,h3 _ M1 G1 H1 f1 hx⟩
 | lst ds=>obtain⟨l,vs,rfl,h4,h5⟩:=i1.EF f1.gh rfl;exact⟨_,.inl ⟨vs,h4,nil h5⟩,h3 _ M1 G1 H1 f1 hx⟩
 | og ds=>obtain⟨l,vs,rfl,h4,h5⟩:=i1.EF f1.gh rfl;exact⟨_,.inl ⟨vs,h4,nil h5⟩,h3 _ M1 G1 H1 f1 hx⟩
 | tup ds=>obtain⟨l,vs,rfl,h4,h5⟩:=i1.LX f1.gh rfl;exact⟨_,.inr (.inl ⟨vs,h4,nil h5⟩),h3 _ M1 G1 H1 f1 hx⟩
 | _=>exact (show False from hx).elim
def Ol {t:Expr} (ht:PT X t (tt X.K cl Z c)) (ha:PE X a '4') (hb:PE X b (tp X.K cl Z cb)):PE X (.IfExp t a b pos) (tp X.K cl Z (.ife c ca cb)):=(BS ht ha hb).imp fun σ H Q h=>by
 ext a;refine⟨B,ρ,M,G,fun c M1=>if c=true then ev Z ca ρ M1 R else ev Z cb ρ M1 R,h1,h2,fun c M1 G1 H1 f1 hx=>?_⟩
 cases c with
 | true=>rw[z_ rfl] at hx ⊢;exact⟨B,ρ,M1,G1,R,h1.on f1,hx,fun d v M2 G2 H2 f2=>h3 d v M2 G2 H2 (f1.trans f2)⟩
 | false=>rw[s_ u_] at hx ⊢;exact⟨B,ρ,M1,G1,R,h1.on f1,hx,fun d v M2 G2 H2 f2=>h3 d v M2 G2 H2 (f1.trans f2)⟩
end
noncomputable def lC:Expr->Bool
 | .Slice _ _ _ _=>false
 | _=>true
def C8 {b:Expr} (h:lC b=true):zr b:=fun o i=>by
 cases b<;>first | rfl | cases h
noncomputable def dD:Expr->Bool
 | .Call (.Name _ _) [] [] _=>false
 | _=>true
def gu {e:Expr}{f:Str}{env:Env}{w:Sem Value} (h:dD e=true):abp e f env w=w:=by
 unfold abp;split
 ·cases h
 ·rfl
section
variable {K:e_}{cl:Cl}{Z:Gm}{c ca cb cc:C}{σ:St}{G H:Hp}{Q:VK}{X:Cx}{e a b:Expr}{es:List Expr}{pos p:Pos}
def Om {x:Dt}{vx:V}{i:Int}{k:Dt->Prop} (s:ag G H) (hx:dB K cl G H x vx) (h:ly x i k) (q:∀ d v,Is K cl G d v->k d->Q v H):RW K vx (.int i) H Q:=by
 have fin:∀ {ds:List Dt},mz x=some ds->atK ds i k->RW K vx (.int i) H Q:=fun {ds} e ⟨d,h1,h2⟩=>by
  obtain⟨l,vs,rfl,h3,h4⟩:=hx.seq s e;obtain⟨v,h5,h6⟩:=h4.at h1;rcases h3 with h3 | h3
  ·exact .inl ⟨l,vs,i,v,rfl,rfl,h3,h5,q d v h6 h2⟩
  ·exact .inr (.inl ⟨l,vs,i,v,rfl,rfl,h3,h5,q d v h6 h2⟩)
 cases x with
 | str z =>
  have e:=hx.str;subst e;obtain⟨h1,c,h2,h3⟩:=h;exact .inr (.inr ⟨z,i,c,rfl,rfl,h1,h2,q _ _ (by unfold Is;rfl) h3⟩)
 | lst ds=>exact fin rfl h
 | og ds=>exact fin rfl h
 | tup ds=>exact fin rfl h
 | fS ds=>exact fin rfl h
 | sD ds=>exact fin rfl h
 | qS ds=>exact fin rfl h
 | _=>exact (show False from h).elim
def S5 (ha:PE X a (tr X.K cl Z ca)) (hb:PE X b (tp X.K cl Z cb)) (hs:lC b=true):PE X (.Subscript a b pos) (tp X.K cl Z (.ix ca cb)) :=
 (MP JA ha hb.q (C8 hs)).imp fun σ H Q h=>Hh (c:=.ix ca cb) (D:=fun x y M k=>intD y fun i=>ly x i fun d=>k d M) (5) (fun x y vx vy G H M k Q s m hx hy hd q=>by
  obtain⟨i,rfl,hd2⟩:=bA hd;have e:=hy.int;subst e;exact Om s hx hd2 fun d v i hk=>q d v M G H (bc.refl s m) i hk) h
def Kq:PO X none (to X.K cl Z .nil):=E8.imp fun σ H Q h=>by
 obtain⟨B,ρ,M,G,k,h1,h2,h3⟩:=h;exact h3 none M G H h1.self h2
variable {lo hi:m_ Expr}{EG ch:C}{p2:Pos}
def Hn {r:V->m_ Int->m_ Int->Hp->VK->Prop}{D:Dt->m_ Int->m_ Int->Mem->(Dt->Mem->Prop)->Prop} (he:∀ ρ M R,ev Z c ρ M R->ev Z ca ρ M fun x M1=>aM x fun x=>ev Z EG ρ M1 fun l M2=>pD l fun l=>ev Z ch ρ M2 fun h M3=>pD h fun h=>D x l h M3 fun d M4=>R [d] M4)
  (hr:∀ x v l u G H M (k:Dt->Mem->Prop) (Q:VK),ag G H->bG K cl G H M->dB K cl G H x v->D x l u M k->(∀ d v M' G' H',bc K cl none G H M G' H' M'->Is K cl G' d v->k d M'->Q v H')->r v l u H Q)
  (h:tp K cl Z c σ H Q):U0 r (tr K cl Z ca) (to K cl Z EG) (to K cl Z ch) σ H Q:=by
 ext a;refine⟨B,ρ,M,G,_,h1,he _ _ _ h2,fun x vx M1 G1 H1 f1 i1 hx=>⟨B,ρ,M1,G1,_,h1.on f1,hx,fun l M2 G2 H2 f2 hl=>⟨B,ρ,M2,G2,_,(h1.on f1).on f2,hl,fun u M3 G3 H3 f3 hu=>?_⟩⟩⟩;exact hr x vx l u G3 H3 M3 _ Q f3.gh f3.mem ((i1.b5 f2).b5 f3).q hu fun d v M' G' H' f4 i4 h4=>h3 d v M' G' H' (((f1.trans f2).trans f3).trans f4) i4 h4
def Ho (ha:PE X a (tr X.K cl Z ca)) (hl:PO X lo (to X.K cl Z EG)) (hh:PO X hi (to X.K cl Z ch)):PE X (.Subscript a (.Slice lo hi none p2) pos) (tp X.K cl Z (.sls ca EG ch)) :=
 (oN JM ha hl hh).imp fun σ H Q h=>Hn (c:=.sls ca EG ch) (D:=fun x l u M k=>wb x fun z=>z.length<=sizeLine/\k (.str (abe z l u)) M) (5) (fun x v l u G H M k Q s m hx hd q=>by
  obtain⟨z,rfl,h1,h2⟩:=mC hd;exact⟨z,hx.str,h1,q _ _ M G H (bc.refl s m) (by unfold Is;rfl) h2⟩) h
def dB.S6 {d:Dt}{v:V}{ds:List Dt} (s:ag G H) (h:dB K cl G H d v) (e:t7 d=some ds):∃ a vs,v=.ref a/\Rd G a (.tup vs)/\IsL K cl G ds vs:=by
 rcases h with h | ⟨a,o,rfl,ho,hc⟩
 ·cases d<;>first | (cases e;done) | skip
  ·cases e;unfold Is at h;obtain⟨a,vs,e,q,r⟩:=h;exact⟨a,vs,e,.inl q,r⟩
  ·cases e;unfold Is at h;obtain⟨a,vs,e,⟨o,q,_⟩,r⟩:=h;exact⟨a,vs,e,.inr ⟨o,q⟩,r⟩
  ·cases e;unfold Is at h;exact h
 ·cases d<;>first | (cases e;done) | (cases ho;done)
def lD {a:Addr}{u:HO} (s:ag G H) (h:Rd G a u):Rd H a u:=h.elim (fun z=>.inl (s _ _ z)) (fun⟨o,z⟩=>.inr ⟨o,s _ _ z⟩)
def C9 {xs:List V}{lo hi:m_ Int} (h:HT.bJ xs.length 0 lo=0/\HT.bJ xs.length xs.length hi=xs.length):kU xs lo hi=xs:=by
 unfold kU;rw[h.1,h.2,agx,afJ,aa1]
def Oo (ha:PE X a (tr X.K cl Z ca)) (hl:PO X lo (to X.K cl Z EG)) (hh:PO X hi (to X.K cl Z ch)):PE X (.Subscript a (.Slice lo hi none p2) pos) (tp X.K cl Z (.slt ca EG ch)) :=
 (oN FG ha hl hh).imp fun σ H Q h=>Hn (c:=.slt ca EG ch) (D:=fun x l u M k=>lx (t7 x) fun ds=>k (.qS (cutD ds l u)) M) (5) (fun x v l u G H M k Q s m hx hd q=>by
  obtain⟨ds,e,hk⟩:=cz hd;obtain⟨t,vs,rfl,h1,h2⟩:=hx.S6 s e;have h3:=h2.cut l u;refine⟨t,vs,rfl,.inl (lD s h1),fun w=>q _ _ M G H (bc.refl s m) ?_ hk,fun _ p hp=>?_⟩
  ·unfold Is;rw[C9 w] at h3;exact⟨t,vs,rfl,h1,h3⟩
  ·have f2:=bc.lay (o:=.tup (kU vs l u)) s m hp;exact q _ _ M _ _ f2 (by unfold Is;exact⟨p,_,rfl,.inl au,h3.mono f2.g⟩) hk) h
def Oq (ha:PE X a (tr X.K cl Z ca)) (hl:PO X lo (to X.K cl Z EG)) (hh:PO X hi (to X.K cl Z ch)):PE X (.Subscript a (.Slice lo hi none p2) pos) (tf X.K cl Z (.slc ca EG ch)) :=
 (oN Fe ha hl hh).imp fun σ H Q h=>by
  ext a;refine⟨B,ρ,M,G,_,h1,h2,fun x vx M1 G1 H1 f1 i1 hx=>⟨B,ρ,M1,G1,_,h1.on f1,hx,fun l M2 G2 H2 f2 hl=>⟨B,ρ,M2,G2,_,(h1.on f1).on f2,hl,fun u M3 G3 H3 f3 hu=>?_⟩⟩⟩;obtain⟨ds,e,hk⟩:=cz hu;obtain⟨t,vs,rfl,h4,h5⟩:=((i1.b5 f2).b5 f3).q.EF f3.gh e;exact⟨t,vs,rfl,h4,fun p hp=>h3 _ _ M3 G3 H3 p ((f1.trans f2).trans f3) hp (h5.cut l u) hk⟩
def Ot (ha:PE X a (tr X.K cl Z ca)) (hb:PE X b (tq X.K cl Z cb)):PE X (.BinOp a .Add b pos) (tf X.K cl Z (.cat ca cb)) :=
 (G5 JE ha hb).imp fun σ H Q h=>XD (c:=.cat ca cb) (D:=fun x y M k=>lstK x fun ds=>lstK y fun es=>ds.length+es.length<=sizeLine/\k (ds++es) M) (5) (fun x y vx vy G H M k Q s m hx hy hd q=>by
  obtain⟨ds,rfl,hd2⟩:=f6 hd;obtain⟨es,rfl,h1,h2⟩:=f6 hd2;obtain⟨l,vs,rfl,h3,h4⟩:=hx.lst s;obtain⟨l',us,rfl,h5,h6⟩:=hy.lst s;exact⟨l,l',vs,us,rfl,rfl,h3,h5,by rw[<-h4.length,<-h6.length];exact h1,fun p hp=>q _ _ M G H p (bc.refl s m) hp (h4.append h6) h2⟩) h
theorem dB.obj {n:Nat}{fs:List Str}{ds:List Dt}{v:V} (s:ag G H) (h:dB K cl G H (.obj n fs ds) v):∃ a dx vs,v=.ref a/\H a=some (.ins (cl n) dx (fs.zip vs))/\fs.length=ds.length/\IsL K cl G ds vs:=by
 rcases h with h | ⟨a,o,rfl,ho,hc⟩
 ·unfold Is at h;obtain⟨a,dx,vs,e,q,l,r⟩:=h;exact⟨a,dx,vs,e,s _ _ q,l,r⟩
 ·cases ho;obtain⟨dx,vs,h1,h2,h3⟩:=hc;exact⟨a,dx,vs,rfl,h1,h2,h3⟩
theorem pI {f:Str}{d:Dt}:∀ {fs:List Str}{ds:List Dt}{vs:List V},IsL K cl G ds vs->(fs.zip ds).lookup f=some d->∃ v,(fs.zip vs).lookup f=some v/\Is K cl G d v
 | [],_,_,_,h=>by simp at h
 | g::fs,[],_,_,h=>by simp at h
 | g::fs,e::ds,vs,i,h=>by
  unfold IsL at i;obtain⟨v,r,rfl,i1,i2⟩:=i;rw[aa5,Zt] at h ⊢
  cases q:f==g with
  | true=>rw[q] at h;cases h;exact⟨v,rfl,i1⟩
  | false=>rw[q] at h;exact pI i2 h
def Ou {f:Str} (QR:∀ n f,Z.at_ n f=true->vm X.K (cl n)/\ez X.K (cl n) f) (ha:PE X a (tq X.K cl Z ca)) (hb:dD a=true):PE X (.Attribute a f pos) (tp X.K cl Z (.fld ca f)) :=
 (Jq ha (gu hb)).imp fun σ H Q h=>NI (c:=.fld ca f) (r:=fun x H1 Q=>∃ a C dx fs v,x=.ref a/\H1 a=some (.ins C dx fs)/\vm X.K C/\ez X.K C f/\fs.lookup f=some v/\Q v H1) (D:=fun x M k=>fq Z f x fun d=>k d M) (5) (fun x v G H M k Q s m hx hd q=>by
  cases x with
  | obj n fs ds =>
   obtain⟨h1,d,h2,h3⟩:=hd;obtain⟨a,dx,vs,rfl,h4,h5,h6⟩:=hx.obj s;obtain⟨v,h7,h8⟩:=pI h6 h2;exact⟨a,_,dx,_,v,rfl,h4,(QR n f h1).1,(QR n f h1).2,h7,q d v M G H (bc.refl s m) h8 h3⟩
  | _=>exact (show False from hd).elim) h
noncomputable def EH:Nat->acq
 | 0 => "int" | 1 => "bool" | 2 => "str" | 3 => "list" | 4 => "tuple" | _ => "NoneType"
def Kr {n t:Nat} (hn:n<6) (ht:t<5):acG K (.type (EH n)) (.type (EH t))=some (n==t||(n==1&&t==0)):=by
 have h:∀ n<6,∀ t<5,acG K (.type (EH n)) (.type (EH t))=some (n==t||(n==1&&t==0)):=by
  intro n hn t ht
  match n,hn with
  | 0,_=>match t,ht with | 0,_=>kernel_rfl | 1,_=>kernel_rfl | 2,_=>kernel_rfl | 3,_=>kernel_rfl | 4,_=>kernel_rfl
  | 1,_=>match t,ht with | 0,_=>kernel_rfl | 1,_=>kernel_rfl | 2,_=>kernel_rfl | 3,_=>kernel_rfl | 4,_=>kernel_rfl
  | 2,_=>match t,ht with | 0,_=>kernel_rfl | 1,_=>kernel_rfl | 2,_=>kernel_rfl | 3,_=>kernel_rfl | 4,_=>kernel_rfl
  | 3,_=>match t,ht with | 0,_=>kernel_rfl | 1,_=>kernel_rfl | 2,_=>kernel_rfl | 3,_=>kernel_rfl | 4,_=>kernel_rfl
  | 4,_=>match t,ht with | 0,_=>kernel_rfl | 1,_=>kernel_rfl | 2,_=>kernel_rfl | 3,_=>kernel_rfl | 4,_=>kernel_rfl
  | 5,_=>match t,ht with | 0,_=>kernel_rfl | 1,_=>kernel_rfl | 2,_=>kernel_rfl | 3,_=>kernel_rfl | 4,_=>kernel_rfl
 exact h n hn t ht
def Ks {x:Dt}{v:V}{n:Nat} (s:ag G H) (hx:dB K cl G H x v) (e:isiN x=some n):n<6/\jY K H v (.type (EH n)):=by
 cases x<;>first | (cases e;done) | skip
 ·cases e;have:=hx.az;subst this;exact⟨(2),.az⟩
 ·cases e;have:=hx.bl;subst this;exact⟨(2),.bl _⟩
 ·cases e;have:=hx.int;subst this;exact⟨(2),.int _⟩
 ·cases e;have:=hx.str;subst this;exact⟨(2),.str _⟩
 ·cases e;obtain⟨a,vs,rfl,h1,_⟩:=hx.lst s;exact⟨(2),.lst h1⟩
 ·cases e
  rcases hx with h | ⟨a,o,rfl,ho,hc⟩
  ·unfold Is at h;obtain⟨a,vs,rfl,q,_⟩:=h;exact⟨(2),.tup (s _ _ q)⟩
  ·cases ho
def F3 {t:Nat} (ht:t<5) {x:Str} (hx:x=aah (EH t)):aag x=some (.type (EH t))/\x ≠ "__name__" /\ '2'=false:=by
 subst hx
 match t,ht with
 | 0,_=>exact⟨aet,(2),(2)⟩
 | 1,_=>exact⟨PyProof.Rows.boot_bool,(2),(2)⟩
 | 2,_=>exact⟨PyProof.Rows.boot_str,(2),(2)⟩
 | 3,_=>exact⟨aaX,(2),(2)⟩
 | 4,_=>exact⟨acA,(2),(2)⟩
def Ov {t:Nat}{x:Str}{px:Pos} (ht:t<5) (hx:x=aah (EH t)) (hg:Gl X "isinstance") (hm:X.mg "isinstance" = none) (Dc:Gl X x) (zK:X.mg x=none) (ha:PE X a (tq X.K cl Z ca)) (hs:noStar a=true) :
  PE X (.Call (.Name "isinstance" p) [a,.Name x px] [] pos) (tp X.K cl Z (.isi ca t)):=by
 obtain⟨b1,b2,b3⟩:=F3 ht hx
 refine (oK AU hg hm PyProof.Rows.boot_isinstance (aA ha (aA (M9 Dc zK b1 b2 b3) bg) (af hs)) (2) (2) (af hs) rfl).imp fun σ H Q h =>
  NI (c:=.isi ca t) (r:=fun v H Q=>∃ x n ty b,[v,V.ty (EH t)]=[x,.ty n]/\jY X.K H x ty/\acG X.K ty (.type n)=some b/\Q (.bl b) H) (D:=fun x M k=>isiD t x fun c=>k (.bl c) M) (5) (fun x v G H M k Q s m hx hd q=>by
   unfold isiD at hd
   cases e:isiN x with
   | none=>rw[e] at hd;exact hd.elim
   | some n =>
    rw[e] at hd;obtain⟨h1,h2⟩:=Ks s hx e;exact⟨v,_,_,_,rfl,h2,Kr h1 ht,q _ _ M G H (bc.refl s m) Is.zH hd⟩) h
def Kt (hc:X.calm=true) (hg:Gl X "min") (hm:X.mg "min" = none) (ha:PE X a '4') (hb:PE X b (tp X.K cl Z cb)) (hs:noStar a=true) (jX:noStar b=true):PE X (.Call (.Name "min" p) [a,b] [] pos) (tp X.K cl Z (.min2 ca cb)) :=
 Kk (c:=.min2 ca cb) (D:=fun x y M k=>intD x fun i=>intD y fun j=>k (.int (if j<i then j else i)) M) (Az hc) hg hm (1) (2) (2) ha.r hb.q hs jX (5) (fun x y vx vy G H M k Q s m hx hy hd q=>by
  obtain⟨i,rfl,hd2⟩:=bA hd;obtain⟨j,rfl,N7⟩:=bA hd2;have e1:=hx.int;have e2:=hy.int;subst e1 e2;exact⟨i,j,rfl,q _ _ M G H (bc.refl s m) (by unfold Is;rfl) N7⟩)
def Ow (hc:X.calm=true) (hg:Gl X "dict") (hm:X.mg "dict" = none) (ha:PE X a (tq X.K cl Z ca)) (hs:noStar a=true):PE X (.Call (.Name "dict" p) [a] [] pos) (tp X.K cl Z (.dct ca)) :=
 ud (c:=.dct ca) (D:=fun x M k=>∃ ks:List Int,x=.lst (ks.map fun k=>.tup [.int k,.bl true])/\ks.length<=900/\k (.Hf ks) M) (oU hc) hg hm aed (2) (2) ha hs (5) (fun x v G H M k Q s m hx hd q=>by
  obtain⟨ks,rfl,h1,h2⟩:=hd;obtain⟨l,vs,rfl,h3,h4⟩:=hx.lst s;have hl:=h4.length;rw[a_] at hl;refine⟨l,vs,ks.map fun k=>(abE k,.bl true),rfl,cE.of h3,by rw[a_,hl],by rw[a_];exact h1,fun j y pr hy JV=>?_,fun d hd=>?_⟩
  ·obtain⟨dd,h5,h6⟩:=h4.get' hy;rw[g_] at h5 JV;obtain⟨k1,e1,rfl⟩:=o_.mp h5;obtain⟨k2,e2,rfl⟩:=o_.mp JV;rw[e1] at e2;cases e2;unfold Is at h6;obtain⟨t,us,rfl,h7,h8⟩:=h6;unfold IsL at h8;obtain⟨u1,r1,rfl,g1,h8⟩:=h8;unfold IsL at h8;obtain⟨u2,r2,rfl,g2,h8⟩:=h8;unfold IsL at h8;unfold Is at g1 g2;subst h8 g1 g2;exact⟨t,rfl,s _ _ h7⟩
  ·have f2:=bc.lay (o:=.dK ((ks.map fun k=>((abE k:Key),V.bl true)).foldl (fun a p=>putK a p.1 p.2) [])) s m hd;exact q _ _ M _ _ f2 (by unfold Is;exact⟨d,_,rfl,au,fun j=>by rw[CK];simp [d5]⟩) h2)
end
section
variable {K:e_}{cl:Cl}{Z:Gm}{c ca cb cc:C}{σ:St}{G H:Hp}{Q:VK}{X:Cx}{e a b tg:Expr}{es:List Expr}{pos p:Pos}
def Bj {d:Dt}{k:List Dt->Prop} (h:Kc d k):∃ ds,d=.fS ds/\k ds:=by
 cases d with
 | fS ds=>exact⟨ds,rfl,h⟩
 | _=>exact (show False from h).elim
def Ox {apos:Pos} (ha:PE X a '4') (hb:PE X b (tp X.K cl Z cb)) (oO:dD a=true) (hs:noStar b=true) (bQ:(apos.endLine==pos.line)=true):PE X (.Call (.Attribute a "count" apos) [b] [] pos) (tp X.K cl Z (.cnt ca cb)) :=
 (A7 ha (aA hb bg (af hs)) (gu oO) (by rw[lB (by simp [hs])];rfl) bQ (af hs) rfl).imp fun σ H Q h=>by
  ext a;ext b;obtain⟨ds,rfl,hy⟩:=Bj hx;unfold Is at i1;obtain⟨t,vs,rfl,h4,h5⟩:=i1;refine⟨t,vs,rfl,h4.same f1.gh,B,ρ,M1,G1,_,h1.on f1,hy,fun y vy M2 G2 H2 f2 i2 hz=>?_⟩;obtain⟨g1,g2,g3⟩:=hz;obtain⟨e1,e2⟩:=i2.flat g1;obtain⟨e3,e4⟩:=h5.flat g2;refine⟨t,vs,vy,rfl,rfl,(h4.same (f2.g.trans f2.gh)).sq,e2,e4,?_⟩;refine h3 _ _ M2 G2 H2 (f1.trans f2) ?_ g3;unfold Is;rw[e3,agb,e1];rfl
def uf {lo hi:Int}{M:Mem} (s:ag G H) (m:bG K cl G H M) {r:Addr} (hr:H r=none):bc K cl none G H M (upd G r (.Aq lo hi)) (upd H r (.Aq lo hi)) M:=bc.lay s m hr
def Dd {lo:Int}{n:Nat}:IsL K cl G (bO lo n) (((Zo n).map fun i:Nat=>lo+(i:Int)).map V.int):=by
 have e:bO lo n=((Zo n).map fun i:Nat=>lo+(i:Int)).map Dt.int:=by unfold bO;rw[G_];rfl
 rw[e];exact IsL.ints _
def Oy {p2 ug:Pos} (hc:X.calm=true) (hg:Gl X "list") (hm:X.mg "list" = none) (Dc:Gl X "range") (zK:X.mg "range" = none) (ha:PE X a '4') (hb:PE X b (tp X.K cl Z cb)) (hs:noStar a=true) (jX:noStar b=true) :
  PE X (.Call (.Name "list" p) [.Call (.Name "range" p2) [a,b] [] ug] [] pos) (tf X.K cl Z (.lrg ca cb)) :=
 (bZ (oZ hc) hg hm aaX (aA (bZ tV Dc zK abu (aA ha (aA hb bg (af jX)) (af hs)) (2) (2) (af hs) (eF (by simp [jX]))) bg) (2) (2)).imp fun σ H Q h=>by
  ext a;ext g;obtain⟨i,rfl,S7⟩:=bA hy;obtain⟨j,rfl,g1,g2,g3,g4⟩:=bA S7;unfold Is at i1 i2;subst i1 i2;have Oc:=f1.trans f2;refine⟨i,j,rfl,fun r hr=>⟨r,i,j,rfl,au,⟨g1.1,g1.2,g2.1,g2.2⟩,g3,fun l hl=>?_⟩⟩;have f3:=uf (lo:=i) (hi:=j) f2.gh f2.mem hr;exact h3 _ _ M2 _ _ l (Oc.trans f3) hl Dd g4
def Oz {p2 ug:Pos} (hc:X.calm=true) (hg:Gl X "list") (hm:X.mg "list" = none) (Dc:Gl X "range") (zK:X.mg "range" = none) (ha:PE X a '4') (hs:noStar a=true) :
  PE X (.Call (.Name "list" p) [.Call (.Name "range" p2) [a] [] ug] [] pos) (tf X.K cl Z (.lr1 ca)) :=
 (bZ (oZ hc) hg hm aaX (aA (bZ k8 Dc zK abu (aA ha bg (af hs)) (2) (2) (af hs) rfl) bg) (2) (2)).imp fun σ H Q h=>by
  ext a;ext b;obtain⟨j,rfl,g2,g3,g4⟩:=bA hx;unfold Is at i1;subst i1;have e:(j-0:Int)=j:=by lia
  refine⟨j,rfl,fun r hr=>⟨r,0,j,rfl,au,⟨∅,∅,g2.1,g2.2⟩,by rw[e];exact g3,fun l hl=>?_⟩⟩;have f3:=uf (lo:=0) (hi:=j) f1.gh f1.mem hr;rw[e];exact h3 _ _ M1 _ _ l (f1.trans f3) hl Dd g4
def F4 {a:Addr}{ds:List Dt}{vs:List V} (h:cE K G a vs) (i:IsL K cl G ds vs):ub K cl (LL K a) ds G:=fun n G' H M s1 s2 m=>by
 have hq:cE K H a vs:=h.same (s1.trans s2);have hl:=i.length;refine⟨fun hn=>⟨⟨vs,vs[n]'∅,hq,(3)⟩,fun x H' y=>?_⟩,fun hn=>⟨vs,hq,∅⟩⟩;obtain⟨rfl,y⟩:=y;obtain⟨d,e1,e2⟩:=i.get' (y vs hq);exact⟨d,G',e1,e2.mono s1,bc.refl s2 m⟩
def Ku {a:Addr}{ds:List Dt}{vs:List V} (h:eV K G a vs) (i:IsL K cl G ds vs):ub K cl (QC K a) ds G:=fun n G' H M s1 s2 m=>by
 have hq:eV K H a vs:=h.same (s1.trans s2);have hl:=i.length;refine⟨fun hn=>⟨⟨vs,vs[n]'∅,hq,(3)⟩,fun x H' y=>?_⟩,fun hn=>⟨vs,hq,∅⟩⟩;obtain⟨rfl,y⟩:=y;obtain⟨d,e1,e2⟩:=i.get' (y vs hq);exact⟨d,G',e1,e2.mono s1,bc.refl s2 m⟩
def Kv {z:Str}:ub K cl (R9 z) (ua z) G:=fun n G' H M s1 s2 m=>by
 have hl:(ua z).length=z.cps.size:=by unfold ua;simp
 refine⟨fun hn=>⟨show n<z.cps.size by lia,fun x H' y=>?_⟩,fun hn=>show n=z.cps.size by lia⟩;obtain⟨rfl,ch,e,rfl⟩:=y;refine⟨.str ⟨#[ch]⟩,G',?_,by unfold Is;rfl,bc.refl s2 m⟩;unfold ua;rw[g_,Array.getElem?_toList,e];rfl
def De {lo:Int}{n:Nat}:ub K cl (Mt lo n) (bO lo n) G:=fun i G' H M s1 s2 m=>by
 rw[ah];refine⟨fun hn=>⟨hn,fun x H' y=>?_⟩,fun hn=>show n<=i by lia⟩;obtain⟨rfl,rfl⟩:=y;refine⟨.int (lo+i),G',?_,by unfold Is;rfl,bc.refl s2 m⟩;unfold bO;rw[g_,aad hn];rfl
def F5 (K:e_) (tl:TE):TI:=fun σ H R=>tl σ H fun x H1=>(∃ a xs,x=.ref a/\cE K H1 a xs/\R (LL K a) H1)∨(∃ a xs,x=.ref a/\eV K H1 a xs/\R (QC K a) H1)∨∃ z,x=.str z/\R (R9 z) H1
open PySem.Spec PyProof.Rows in
def Kw {tl:TE} (hl:PE X a tl):PI X tg a (F5 X.K tl):=by
 intro pins s σ H R I h;refine aX (hl pins s σ H _ I h) fun v s1 ⟨x,H1,I1,r1,q1⟩=>?_
 have leaf:∀ {tl':TE}{wi:TI},(∀ b,b=s1.heap.objs.size->nD X pins H1 b):=fun {_ _} b e=>by subst e;exact I1.vi (t_ _) (I1.aW.fresh (t_ _))
 rcases q1 with ⟨l,xs,rfl,hq,q⟩ | ⟨l,xs,rfl,hq,q⟩ | ⟨z,rfl,q⟩
 ·cases r1
  obtain⟨ai,rv,p,hz⟩:=I1.list hq;refine abi p.isList ?_;exact⟨s1.heap.objs.size,[s1.heap.objs.size],_,_,H1,rfl,I1.kept (t':=s1.toks) fun b o e=>k_ _ e,rT l _,⟨_,w_ _ rfl,rfl,rfl⟩,fun b hb=>leaf (tl':=tl) (wi:=F5 X.K tl) b (by simpa using hb),q⟩
 ·cases r1
  obtain⟨ai,rv,p,hz⟩:=I1.tuple hq;refine abI (show s1.heap.IsTuple l ai.toArray from p) ?_;exact⟨s1.heap.objs.size,[s1.heap.objs.size],_,_,H1,rfl,I1.kept (t':=s1.toks) fun b o e=>k_ _ e,xN l _,⟨_,w_ _ rfl,rfl,rfl⟩,fun b hb=>leaf (tl':=tl) (wi:=F5 X.K tl) b (by simpa using hb),q⟩
 ·obtain⟨t,rfl⟩:=r1;refine wpAny_pyIter_strU ?_;exact⟨s1.heap.objs.size,[s1.heap.objs.size],_,_,H1,rfl,I1.kept (t':=s1.toks) fun b o e=>k_ _ e,Cp _ z t,⟨_,w_ _ rfl,rfl,rfl⟩,fun b hb=>leaf (tl':=tl) (wi:=F5 X.K tl) b (by simpa using hb),q⟩
def Dg (ha:PE X a '4'):PI X tg a (lz X.K cl Z (.itl ca)):=(Kw ha).imp fun σ H R h=>by
 obtain⟨B,ρ,M,G,R',h1,h2,h3⟩:=h;ext b
 have fl:∀ {ds:List Dt},mw x=some ds->R' ds M1->∃ a xs,vx=.ref a/\cE X.K H1 a xs/\R (LL X.K a) H1:=fun {ds} e hr=>by
  obtain⟨l,vs,rfl,q1,q2⟩:=i1.EF e;exact⟨l,vs,rfl,q1.same f1.gh,h3 ds M1 G1 H1 _ f1 (F4 q1 q2) hr⟩
 have ft:∀ {ds:List Dt},tZ x=some ds->R' ds M1->∃ a xs,vx=.ref a/\eV X.K H1 a xs/\R (QC X.K a) H1:=fun {ds} e hr=>by
  obtain⟨l,vs,rfl,q1,q2⟩:=i1.LX e;exact⟨l,vs,rfl,q1.same f1.gh,h3 ds M1 G1 H1 _ f1 (Ku q1 q2) hr⟩
 cases x with
 | str z=>unfold Is at i1;exact .inr (.inr ⟨z,i1,h3 _ M1 G1 H1 _ f1 Kv hx⟩)
 | lst ds=>exact .inl (fl rfl hx)
 | og ds=>exact .inl (fl rfl hx)
 | tup ds=>exact .inr (.inl (ft rfl hx))
 | fS ds=>exact .inr (.inl (ft rfl hx))
 | sD ds=>exact .inr (.inl (ft rfl hx))
 | qS ds=>exact .inr (.inl (ft rfl hx))
 | _=>exact (show False from hx).elim
def jP (hs:noStar a=true) {env:Env}:S_ [a] env=[(false,eval a env)]:=af hs
def OA (hg:Gl X "range") (hm:X.mg "range" = none) (ha:PE X a '4') (hs:noStar a=true):PI X tg (.Call (.Name "range" p) [a] [] pos) (lz X.K cl Z (.rg1 ca)):=(Av hg hm (aA ha bg (af hs)) (jP hs)).imp fun σ H R h=>by
 obtain⟨B,ρ,M,G,R',h1,h2,h3⟩:=h;ext b;obtain⟨j,rfl,g1,g2⟩:=bA hx;unfold Is at i1;subst i1;exact⟨j,rfl,g1.1,g1.2,h3 _ M1 G1 H1 _ f1 De g2⟩
def OB (hg:Gl X "range") (hm:X.mg "range" = none) (ha:PE X a '4') (hb:PE X b (tp X.K cl Z cb)) (hs:noStar a=true) (jX:noStar b=true):PI X tg (.Call (.Name "range" p) [a,b] [] pos) (lz X.K cl Z (.rg2 ca cb)) :=
 (Aw hg hm (aA ha (aA hb bg (af jX)) (af hs)) (by rw[af hs,jP jX]) (jP jX)).imp fun σ H R h=>by
 obtain⟨B,ρ,M,G,R',h1,h2,h3⟩:=h;ext g;obtain⟨i,rfl,S7⟩:=bA hy;obtain⟨j,rfl,g1,g2,g3⟩:=bA S7;unfold Is at i1 i2;subst i1 i2;exact⟨i,j,rfl,⟨g1.1,g1.2,g2.1,g2.2⟩,h3 _ M2 G2 H2 _ (f1.trans f2) De g3⟩
def Dh (kvs:List (Key×V)) (z:Str) (v:V) (zs:List Str) (h:kvs.map (·.1)=zs.map abh):(putK kvs (abh z) v).map (·.1)=(iS zs z).map abh:=by
 unfold putK iS
 have OC:(kvs.any fun kv=>decide (kv.1=abh z))=true↔z∈zs:=by
  rw[aan];constructor
  ·rintro⟨kv,h1,h2⟩;have h3:kv.1∈kvs.map (·.1):=n_.mpr ⟨kv,h1,rfl⟩;rw[h,l_ h2] at h3;obtain⟨y,hy,e⟩:=n_.mp h3
   cases e
   exact hy
  ·intro hz;have h3:(abh z:Key)∈kvs.map (·.1):=by rw[h];exact n_.mpr ⟨z,hz,rfl⟩
   obtain⟨kv,h1,h2⟩:=n_.mp h3;exact⟨kv,h1,d_ h2⟩
 by_cases hz:z∈zs
 ·rw[z_ (OC.mpr hz),z_ hz,<-h,G_];apply Zs;intro kv _;show (if kv.1=abh z then (kv.1,v) else kv).1=kv.1;split<;>rfl
 ·rw[s_ (fun q=>hz (OC.mp q)),s_ hz,F_,F_,h];rfl
theorem sG (v:V):∀ (zs:List Str) (kvs:List (Key×V)) (ys:List Str),kvs.map (·.1)=ys.map abh->((zs.map fun z=>((abh z:Key),v)).foldl (fun a p=>putK a p.1 p.2) kvs).map (·.1)=(zs.foldl iS ys).map abh
 | [],_,_,h=>h
 | z::zs,kvs,ys,h=>sG v zs _ _ (Dh kvs z v ys h)
def wj (zs:List Str) (v:V):(((zs.map fun z=>((abh z:Key),v)).foldl (fun a p=>putK a p.1 p.2) []).map fun kv=>kV kv.1)=(bM zs).map V.str:=by
 have h:=sG v zs [] [] rfl;have e:(fun kv:Key×V=>kV kv.1)=kV ∘ (fun kv=>kv.1):=rfl;rw[e,<-G_,h,G_];rfl
theorem IsL.strs:∀ (zs:List Str),IsL K cl G (zs.map Dt.str) (zs.map V.str)
 | []=>IsL.nil
 | z::zs=>IsL.cons (by unfold Is;rfl) (IsL.strs zs)
def OD {p2 ug:Pos} (hc:X.calm=true) (hg:Gl X "list") (hm:X.mg "list" = none) (Dc:Gl X "dict") (zK:X.mg "dict" = none) (ha:PE X a '4') (hs:noStar a=true) :
  PE X (.Call (.Name "list" p) [.Call (.Name "dict" p2) [a] [] ug] [] pos) (tf X.K cl Z (.lfd ca)) :=
 (bZ (yj hc) hg hm aaX (aA (bZ (oU hc) Dc zK aed (aA ha bg (af hs)) (2) (2) (af hs) rfl) bg) (2) (2)).imp fun σ H Q h=>by
  ext a;ext b;obtain⟨zs,rfl,hz,hr⟩:=hx;unfold Is at i1;obtain⟨l,vs,rfl,e,il⟩:=i1;have hl:=il.length;rw[a_] at hl;refine⟨l,vs,zs.map fun z=>(abh z,.bl true),rfl,cE.of (f1.gh _ _ e),by rw[a_,hl],by rw[a_];exact hz,fun j y pr hy JV=>?_,fun d hd=>⟨d,_,rfl,au,fun l2 Fh=>?_⟩⟩
  ·obtain⟨dd,h5,h6⟩:=il.get' hy;rw[g_] at h5 JV;obtain⟨k1,e1,rfl⟩:=o_.mp h5;obtain⟨k2,e2,rfl⟩:=o_.mp JV;rw[e1] at e2;cases e2;unfold Is at h6;obtain⟨t,us,rfl,h7,h8⟩:=h6;unfold IsL at h8;obtain⟨u1,r1,rfl,g1,h8⟩:=h8;unfold IsL at h8;obtain⟨u2,r2,rfl,g2,h8⟩:=h8;unfold IsL at h8;unfold Is at g1 g2;subst h8 g1 g2;exact⟨t,rfl,f1.gh _ _ h7⟩
  ·rw[wj];exact h3 _ _ M1 _ _ l2 (f1.trans (bc.lay f1.gh f1.mem hd)) Fh (IsL.strs _) hr
def OE {p2 ug:Pos} (hc:X.calm=true) (hg:Gl X "len") (hm:X.mg "len" = none) (Dc:Gl X "set") (zK:X.mg "set" = none) (ha:PE X a '4') (hs:noStar a=true) :
  PE X (.Call (.Name "len" p) [.Call (.Name "set" p2) [a] [] ug] [] pos) (tp X.K cl Z (.lns ca)):=(Bf hc hg hm Dc zK ha (jP hs)).imp fun σ H Q h=>by
  ext a;ext b;obtain⟨zs,rfl,hz,hr⟩:=hx;unfold Is at i1;obtain⟨l,vs,rfl,e,il⟩:=i1
  cases IsL.zF il
  exact⟨l,zs,rfl,cE.of (f1.gh _ _ e),hz,h3 _ _ M1 G1 H1 f1 (by unfold Is;rfl) hr⟩
def Kx {n:Nat}{k:Int}:ub K cl (Cw 0 k n) ((Zo n).map fun i:Nat=>.int (i*k)) G:=fun i G' H M s1 s2 m=>by
 rw[a_,K_];refine⟨fun hn=>⟨hn,fun x H' y=>?_⟩,fun hn=>show n<=i by lia⟩;obtain⟨rfl,rfl⟩:=y;refine⟨.int (0+i*k),G',?_,by unfold Is;rfl,bc.refl s2 m⟩;rw[g_,aad hn,Zu];rfl
def OF {d:Expr} (hg:Gl X "range") (hm:X.mg "range" = none) (ha:PA X [a,b,d] (ta X.K cl Z ca)) (hs:[a,b,d].all noStar=true):PI X tg (.Call (.Name "range" p) [a,b,d] [] pos) (lz X.K cl Z (.rg3 ca)):=by
 simp only[ZX,aee,ZS,v_] at hs;refine (yl hg hm ha (by rw[af hs.1,af hs.2.1,jP hs.2.2]) (by rw[af hs.2.1,jP hs.2.2]) (jP hs.2.2)).imp fun σ H R h=>?_
 obtain⟨B,ρ,M,G,R',h1,h2,h3⟩:=h;refine⟨B,ρ,M,G,_,h1,h2,fun ds vs M' G' H' f i hk=>?_⟩;obtain⟨j,k,rfl,b,q⟩:=hk;have e:vs=[.int 0,.int j,.int k]:=IsL.zE (ns:=[0,j,k]) i;subst e;exact⟨j,k,rfl,b,fun n hn=>h3 _ M' G' H' _ f Kx (q n hn)⟩
def Ky {n:Nat}:ub K cl (Cw ((n:Int)-1) (-1) n) (bO 0 n).reverse G:=fun i G' H M s1 s2 m=>by
 rw[ac9,ah];refine⟨fun hn=>⟨hn,fun x H' y=>?_⟩,fun hn=>show n<=i by lia⟩;obtain⟨rfl,rfl⟩:=y;refine⟨.int ((n:Int)-1+i * -1),G',?_,by unfold Is;rfl,bc.refl s2 m⟩;rw[aeu (by rw[ah];exact hn),ah];unfold bO;rw[g_,aad ∅];show some (Dt.int _)=some (Dt.int _);congr 2
 lia
def OG {p2 ug:Pos} (hg:Gl X "reversed") (hm:X.mg "reversed" = none) (Dc:Gl X "range") (zK:X.mg "range" = none) (ha:PE X a '4') (hs:noStar a=true):PI X tg (.Call (.Name "reversed" p) [.Call (.Name "range" p2) [a] [] ug] [] pos) (lz X.K cl Z (.rev ca)) :=
 (J4 hg hm (aA (bZ k8 Dc zK abu (aA ha bg (af hs)) (2) (2) (af hs) rfl) bg)).imp fun σ H R h=>by
 obtain⟨B,ρ,M,G,R',h1,h2,h3⟩:=h;ext b;obtain⟨j,rfl,g1,g2,g3⟩:=bA hx;unfold Is at i1;subst i1;refine⟨j,rfl,fun r hr=>⟨r,j.toNat,rfl,?_,∅,?_⟩⟩
 ·rw[au,show ((j.toNat:Nat):Int)=j by lia]
 ·have f2:=uf (lo:=0) (hi:=j) f1.gh f1.mem hr;exact h3 _ M1 _ _ _ (f1.trans f2) Ky g3
def Kz {a:Addr}{ds:List Dt}{vs:List V} (h:eV K G a vs) (i:IsL K cl G ds vs):ub K cl (JZ K a) (ds.zipIdx.map fun p=>.tup [.int p.2,p.1]) G:=fun n G' H M s1 s2 m=>by
 have hq:eV K H a vs:=h.same (s1.trans s2);have hl:=i.length;have hL:(ds.zipIdx.map fun p:Dt×Nat=>Dt.tup [.int p.2,p.1]).length=ds.length:=by rw[a_,aa6]
 rw[hL];refine⟨fun hn=>⟨⟨vs,vs[n]'∅,hq,(3)⟩,fun x H' y=>?_⟩,fun hn=>⟨vs,hq,∅⟩⟩;obtain⟨T,x,hT,rfl,y,rfl⟩:=y;obtain⟨d,e1,e2⟩:=i.get' (y vs hq);have f:=bc.lay (o:=.tup [.int n,x]) s2 m hT;refine⟨.tup [.int n,d],_,?_,?_,f⟩
 ·rw[g_,aeL,e1];simp
 ·unfold Is;exact⟨T,_,rfl,au,IsL.cons (by unfold Is;rfl) (IsL.cons (e2.mono (s1.trans f.g)) IsL.nil)⟩
def OH {elts:List Expr}{kk:Nat}{S8:Pos} (hg:Gl X "enumerate") (hm:X.mg "enumerate" = none) (ha:PE X a '4') (hs:noStar a=true):PI X (.Tuple elts kk S8) (.Call (.Name "enumerate" p) [a] [] pos) (lz X.K cl Z (.enu ca)) :=
 (CI hg hm (aA ha bg (af hs)) (jP hs)).imp fun σ H R h=>by
 obtain⟨B,ρ,M,G,R',h1,h2,h3⟩:=h;ext b;obtain⟨ds,e,hk⟩:=cz hx;obtain⟨l,vs,rfl,q1,q2⟩:=i1.LX e;exact⟨l,rfl,⟨vs,q1.same f1.gh⟩,h3 _ M1 G1 H1 _ f1 (Kz q1 q2) hk⟩
def KA {a b:Addr}{ds es:List Dt}{vs us:List V} (h:Rd G a (.tup vs)) (h':Rd G b (.tup us)) (i:IsL K cl G ds vs) (i':IsL K cl G es us):ub K cl (J2 a b) ((ds.zip es).map fun p=>.tup [p.1,p.2]) G:=fun n G' H M s1 s2 m=>by
 have hq:=lD (s1.trans s2) h;have AG:=lD (s1.trans s2) h';have hl:=i.length;have Vt:=i'.length;rw[a_,aeo];refine⟨fun hn=>⟨⟨vs,us,vs[n]'∅,us[n]'∅,hq,AG,(3),(3)⟩,fun x H' y=>?_⟩,fun hn=>⟨vs,us,hq,AG,∅⟩⟩;obtain⟨T,x,y',hT,rfl,y1,y2,rfl⟩:=y;obtain⟨d,e1,e2⟩:=i.get' (y1 vs hq);obtain⟨d',QI,XG⟩:=i'.get' (y2 us AG);have f:=bc.lay (o:=.tup [x,y']) s2 m hT;refine⟨.tup [d,d'],_,?_,?_,f⟩
 ·rw[g_,show (ds.zip es)[n]? = some (d,d') from aaz.mpr ⟨e1,QI⟩];rfl
 ·unfold Is;exact⟨T,_,rfl,au,IsL.cons (e2.mono (s1.trans f.g)) (IsL.cons (XG.mono (s1.trans f.g)) IsL.nil)⟩
def OI {elts:List Expr}{kk:Nat}{S8:Pos} (hg:Gl X "zip") (hm:X.mg "zip" = none) (ha:PE X a '4') (hb:PE X b (tp X.K cl Z cb)) (hs:noStar a=true) (jX:noStar b=true):PI X (.Tuple elts kk S8) (.Call (.Name "zip" p) [a,b] [] pos) (lz X.K cl Z (.zip ca cb)) :=
 (FF hg hm (aA ha (aA hb bg (af jX)) (af hs)) (by rw[af hs,jP jX]) (jP jX)).imp fun σ H R h=>by
 obtain⟨B,ρ,M,G,R',h1,h2,h3⟩:=h;ext g;obtain⟨ds,e,hk⟩:=cz hy;obtain⟨es,e',LU⟩:=cz hk;obtain⟨l,vs,rfl,q1,q2⟩:=dB.S6 f2.gh (.inl (i1.mono f2.g)) e;obtain⟨l',us,rfl,Vu,S9⟩:=dB.S6 f2.gh (.inl i2) e';exact⟨l,l',vs,us,rfl,lD f2.gh q1,lD f2.gh Vu,h3 _ M2 G2 H2 _ (f1.trans f2) (KA q1 Vu q2 S9) LU⟩
def KC {p:Addr}{items:List Dt}:SX K cl (LL K p) items (fun M=>M p=some (.ml items)) G:=fun i G' H M s s' m hp=>by
 obtain⟨vs,h1,h2⟩:=(m p _ hp).2;have l:=h2.length;refine⟨fun jN=>?_,fun e=>⟨vs,cE.of h1,∅⟩⟩;have hv:i<vs.length:=by lia
 refine⟨⟨vs,vs[i],cE.of h1,by simp [hv]⟩,fun x H' y=>?_⟩;obtain⟨e,y⟩:=y;subst e;obtain⟨d,e1,e2⟩:=h2.get' (y vs (cE.of h1));exact⟨d,G',e1,e2,bc.refl s' m⟩
end
section
variable (K:e_) (cl:Cl)
inductive OJ (pf:bH) (vs:List V) (H:Hp) (Q:VK) (E:XK):Prop where
 | mk (G:Hp) (M:Mem) (ds:List Dt) (k:Dt->Mem->Prop):ag G H->bG K cl G H M->IsL K cl G ds vs->pf ds M k->(∀ d M' v G' H',k d M'->bc K cl none G H M G' H' M'->Is K cl G' d v->Q v H')->OJ pf vs H Q E
inductive OL (pf:List Dt->Mem->(List Dt->Mem->Prop)->Prop) (vs:List V) (H:Hp) (Q:VK) (E:XK):Prop where
 | mk (G:Hp) (M:Mem) (ds:List Dt) (k:List Dt->Mem->Prop):ag G H->bG K cl G H M->IsL K cl G ds vs->pf ds M k->(∀ xs us a M' G' H',k xs M'->bc K cl none G H M G' H' M'->H a=none->G' a=none->M' a=none->H' a=some (.lst us)->IsL K cl G' xs us->Q (.ref a) H')->OL pf vs H Q E
inductive OM (n:Nat) (pf:bH) (vs:List V) (H:Hp) (Q:VK) (E:XK):Prop where
 | mk (G:Hp) (M:Mem) (d:Dt) (ds:List Dt) (k:Dt->Mem->Prop) (fs:List Str):ag G H->bG K cl G H M->IsL K cl G (d::ds) vs->fY M d (fun n' fR=>n'=n/\fR=fs)->pf (d::ds) M k->(∀ d M' v G' H',k d M'->bc K cl none G H M G' H' M'->Is K cl G' d v->Q v H')->OM n pf vs H Q E
inductive F6 (pf:Dt->List Dt->Mem->(Dt->Mem->Prop)->Prop) (vs:List V) (H:Hp) (Q:VK) (E:XK):Prop where
 | mk (G:Hp) (M:Mem) (a:Addr) (n:Nat) (fs:List Str) (xs:List Dt) (dx:Addr) (us L1:List V) (ds:List Dt) (k:Dt->Mem->Prop):vs=.ref a::L1->H a=some (.ins (cl n) dx (fs.zip us))->fs.length=xs.length->IsL K cl G xs us->G a=none->M a=none->ag G H->bG K cl G H M->IsL K cl G ds L1 ->
  pf (.obj n fs xs) ds M k->(∀ fR vb Fw KD M' G' H',k (.obj n fR vb) M'->bc K cl (some a) G H M G' H' M'->G' a=none->M' a=none->H' a=some (.ins (cl n) KD (fR.zip Fw))->fR.length=vb.length->IsL K cl G' vb Fw->Q .az H')->F6 pf vs H Q E
end
structure Fx (Z:Gm) (cl:Cl) (P:N_) (w:World) (K:e_) (mg:Str->m_ Value) (base:Heap) (n:Nat) (fns j7 cls nH:List Str) (pJ:List Nat):Prop where
 fn:∀ (f:Nat) x,fns[f]? = some x->'2'=false->∃ a fd ps,mg x=some (.ref a)/\ZH K (.ref a)=true/\Binds K fd ps []/\bN P w K mg base mj n a fd ps (OJ K cl (Z.fn f))
 fo:∀ (f:Nat) x,fns[f]? = some x->'2'=false->∃ a fd ps,mg x=some (.ref a)/\ZH K (.ref a)=true/\Binds K fd ps []/\bN P w K mg base mj n a fd ps (OL K cl (Z.fo f))
 me:∀ (m:Nat) x,j7[m]? = some x->∀ c fs,Z.hm m c fs=true->fs.contains x=false/\vm K (cl c)/\∃ a fd ps,Meth K (cl c) x a/\Binds K fd ps []/\bN P w K mg base mj n a fd ps (OM K cl c (Z.me m))
 kl:∀ (c:Nat) x,cls[c]? = some x->'2'=false->mg x=some (.ref (cl c))/\ZH K (.ref (cl c))=true
 bp:∀ (c:Nat) d ds M k,Z.bp c d ds M k->∃ a fd ps j,n=j+1/\bN P w K mg base mj j a fd ps (F6 K cl (Z.bp c))/\Binds K fd ps []/\Mk K (cl c) a
 cm:∀ (c:Nat),pJ.contains c=true->∃ a fd ps,JQ K (cl c) "__init__" a/\bN P w K mg base mj n a fd ps (F6 K cl (Z.bp c))/\Binds K fd ps []
 cs:∀ (k:Nat) x,nH[k]? = some x->'2'=false->∃ u v,mg x=some u/\RelV v u/\∀ G,Is K cl G (Z.cs k) v
 at_:∀ n f,Z.at_ n f=true->vm K (cl n)/\ez K (cl n) f
 wl:cl.w=w
section
variable {K:e_}{cl:Cl}{Z:Gm}{c ca cb cc:C}{σ:St}{G H:Hp}{Q:VK}{X:Cx}{e a b tg o:Expr}{es:List Expr}{pos p apos:Pos}{n:Nat}{fns j7 cls nH:List Str}{pJ:List Nat}
def s_call {f:Nat}{x:Str} (F:Fx Z cl X.prog X.w X.K X.mg X.base n fns j7 cls nH pJ) (hr:cg n X.A) (hx:fns[f]? = some x) (hg:Gl X x) (m4:'2'=false) (ha:PA X (e::es) (ta X.K cl Z ca)) (hs:(e::es).all noStar=true) :
  PE X (.Call (.Name x p) (e::es) [] pos) (tp X.K cl Z (.call f ca)):=by
 obtain⟨a,fd,ps,h1,h2,h3,h4⟩:=F.fn f x hx m4;rw[ZX,v_] at hs;refine (E6 h4 hr hg h1 h2 h3 .nil vv ha m4 (af hs.1) (eF hs.2)).imp fun σ H Q h=>?_
 obtain⟨B,ρ,M,G,R,q1,q2,q3⟩:=h;refine⟨B,ρ,M,G,_,q1,q2,fun ds vs M' G' H' f i hk=>?_⟩;rw[ZU];exact⟨G',M',ds,_,f.gh,f.mem,i,hk,fun d M2 v G2 H2 hd f2 i2=>q3 d v M2 G2 H2 (f.trans f2) i2 hd⟩
def uh {m:Str}{env:Env} (hb:dD o=true) (hs:es.all noStar=true) (hl:es.length<30) (bQ:(apos.endLine==pos.line)=true):eval (.Call (.Attribute o m apos) es [] pos) env=(do
   let ov <-eval o env
   aeQ apos.atName
   let (f,first) <-adx [ov] (afQ ov m (do return (<-importBound o env).getD true))
   callWith pos f first (aaV pos (S_ es env)) (adp pos (ab1 [] env))):=by
 have hf:methodCallForm (es.length+([]:List acW).length) (aaV pos (S_ es env)) (adp pos (ab1 [] env))=true:=by
  unfold methodCallForm;rw[lB hs];show (true&&true&&decide (es.length+0+0<30))=true;rw[d_ ∅];rfl
 rw[arm_eval_Call,gu hb];unfold methodCall;rw[hf];unfold calleeOf methodCallPos;rw[bQ];rfl
def yr (P:N_) (w:World) (K:e_) (mg:Str->m_ Value) (base:Heap) (n:Nat) (m:Str) (ta:TE) (t:TA):TE:=fun σ H Q=>ta σ H fun x H1=>∃ a C dx fs f fd ps sp,x=.ref a/\H1 a=some (.ins C dx fs)/\fs.lookup m=none/\vm K C/\Meth K C m f/\Binds K fd ps []/\bN P w K mg base mj n f fd ps sp /\
 t σ H1 fun vs H2=>sp (x::vs) H2 Q E0
def Di {m:Str}{to:TE}{t:TA} (he:PE X o to) (hr:cg n X.A) (ha:PA X (e::es) t) (hb:dD o=true) (hs:(e::es).all noStar=true) (hl:(e::es).length<30) (bQ:(apos.endLine==pos.line)=true) :
  PE X (.Call (.Attribute o m apos) (e::es) [] pos) (yr X.prog X.w X.K X.mg X.base n m to t):=by
 ext d;refine acO (aX (he pins s σ H _ I h) fun u s1 zz=>?_) (uh hb hs hl bQ);obtain⟨x,H1,I1,rx,a,C,dx,fs,f,fd,ps,sp,rfl,ea,l,c,hm,Ta,F,q⟩:=zz;obtain rfl:u=Zq a:=rx;refine oJ I1 ea c hm l ?_;rw[ZX,v_] at hs;refine abG (first:=[.ref a]) (h₀:=X.base) I.ok.mod.Iy hm.kp (aX (ha pos pins s1 σ H1 _ I1 q) fun us s2 ⟨vs,H2,I2,r,q2⟩=>⟨I2.kK,?_⟩) (af hs.1) (eF hs.2);exact tL (dvs:=[]) (ds:=[]) (us:=.ref a::us) (vs:=.ref a::vs) F hr Ta .nil vv I2 (.cons rfl r) (by rw[ZU];exact q2)
def Bl {m:Str}{to:TE} (he:PE X o to) (hr:cg n X.A) (hb:dD o=true) (bQ:(apos.endLine==pos.line)=true) :
  PE X (.Call (.Attribute o m apos) [] [] pos) (yr X.prog X.w X.K X.mg X.base n m to MH):=by
 ext d;refine acO (aX (he pins s σ H _ I h) fun u s1 zz=>?_) (uh hb rfl (2) bQ);obtain⟨x,H1,I1,rx,a,C,dx,fs,f,fd,ps,sp,rfl,ea,l,c,hm,Ta,F,q⟩:=zz;obtain rfl:u=Zq a:=rx;refine oJ I1 ea c hm l ?_;exact PySem.W.callWith_K0 (first:=[.ref a]) I1.kK hm.kp (tL (dvs:=[]) (ds:=[]) (us:=[.ref a]) (vs:=[.ref a]) F hr Ta .nil vv I1 (.cons rfl .nil) q)
theorem iC {f:Str}:∀ {fs:List Str}{vs:List V},fs.contains f=false->(fs.zip vs).lookup f=none
 | [],_,_=>by simp
 | g::fs,[],_=>by simp
 | g::fs,v::vs,h=>by
  rw[List.contains_cons,Bool.or_eq_false_iff] at h;rw[aa5,Zt,h.1];exact iC h.2
def KG {M:Mem}{d:Dt}{v:V}{k:Nat->List Str->Prop} (s:ag G H) (m:bG K cl G H M) (i:Is K cl G d v) (h:fY M d k):∃ a n fs dx vs,v=.ref a/\H a=some (.ins (cl n) dx (fs.zip vs))/\k n fs/\fY M d (fun n' fR=>n'=n/\fR=fs):=by
 cases d with
 | obj n fs ds =>
  unfold Is at i;obtain⟨a,dx,vs,e,q,_,_⟩:=i;exact⟨a,n,fs,dx,vs,e,s _ _ q,h,rfl,rfl⟩
 | j3 a =>
  unfold Is at i;change (match M a with | some (.mo c fs _)=>k c fs | _=>False) at h
  cases e:M a with
  | none=>rw[e] at h;exact h.elim
  | some o =>
   rw[e] at h
   cases o with
   | mo n fs xs =>
    obtain⟨dx,vs,q,_⟩:=(m a _ e).2;refine⟨a,n,fs,dx,vs,i,q,h,?_⟩;show (match M a with | some (.mo c fR _)=>c=n/\fR=fs | _=>False);rw[e];exact⟨rfl,rfl⟩
   | ml _=>exact h.elim
   | md _=>exact h.elim
 | _=>exact (show False from h).elim
def Dj {M M':Mem}{d:Dt}{G' H':Hp}{n:Nat}{fs:List Str} (h:fY M d (fun n' fR=>n'=n/\fR=fs)) (f:bc K cl none G H M G' H' M'):fY M' d (fun n' fR=>n'=n/\fR=fs):=by
 cases d with
 | obj n fs ds=>exact h
 | j3 a =>
  change (match M a with | some (.mo c fR _)=>c=n/\fR=fs | _=>False) at h
  cases e:M a with
  | none=>rw[e] at h;exact h.elim
  | some o =>
   rw[e] at h;obtain⟨o',e',q⟩:=f.ke a o e;show (match M' a with | some (.mo c fR _)=>c=n/\fR=fs | _=>False);rw[e']
   cases o with
   | mo n' fR xs =>
    cases o' with
    | mo n2 Zb Zc =>
     injection q with _ q
     injection q with q1 q2
     exact⟨q1.trans h.1,q2.trans h.2⟩
    | ml _=>exact absurd (congrArg Prod.fst q) (by intro z;cases z)
    | md _=>exact absurd (congrArg Prod.fst q) (by intro z;cases z)
   | ml _=>exact h.elim
   | md _=>exact h.elim
 | _=>exact (show False from h).elim
def zL {m:Nat}{x:Str}{P:N_}{w:World}{mg:Str->m_ Value}{base:Heap} (F:Fx Z cl P w K mg base n fns j7 cls nH pJ) (hx:j7[m]? = some x) {t:TA} (ht:∀ σ H Q,ta K cl Z cb σ H Q->t σ H Q)
  (h:tp K cl Z (.meth m ca cb) σ H Q):yr P w K mg base n x (tp K cl Z ca) t σ H Q:=by
 obtain⟨B,ρ,M,G,R,q1,q2,q3⟩:=h;refine⟨B,ρ,M,G,_,q1,q2,fun d v M1 G1 H1 f1 i1 hd=>?_⟩;obtain⟨a,k,fs,dx,vs,rfl,h1,⟨h2,h3⟩,h4⟩:=KG f1.gh f1.mem i1 hd;obtain⟨g1,g2,f,fd,ps,g3,g4,g5⟩:=F.me m x hx k fs h2;refine⟨a,_,dx,_,f,fd,ps,_,rfl,h1,iC g1,g2,g3,g4,g5,ht _ _ _ ⟨B,ρ,M1,G1,_,q1.on f1,h3,fun ds us M2 G2 H2 f2 i2 hk=>?_⟩⟩;exact⟨G2,M2,d,ds,_,fs,f2.gh,f2.mem,IsL.cons (i1.mono f2.g) i2,Dj h4 f2,hk,fun d' M3 v G3 H3 N7 f3 i3=>q3 d' v M3 G3 H3 ((f1.trans f2).trans f3) i3 N7⟩
def KH {m:Nat}{x:Str} (F:Fx Z cl X.prog X.w X.K X.mg X.base n fns j7 cls nH pJ) (hr:cg n X.A) (hx:j7[m]? = some x) (ho:PE X o '4') (ha:PA X (e::es) (ta X.K cl Z cb)) (hb:dD o=true) (hs:(e::es).all noStar=true) (hl:(e::es).length<30) (bQ:(apos.endLine==pos.line)=true) :
  PE X (.Call (.Attribute o x apos) (e::es) [] pos) (tp X.K cl Z (.meth m ca cb)):=(Di ho hr ha hb hs hl bQ).imp fun σ H Q h=>zL F hx (5) h
def F7 {m:Nat}{x:Str} (F:Fx Z cl X.prog X.w X.K X.mg X.base n fns j7 cls nH pJ) (hr:cg n X.A) (hx:j7[m]? = some x) (ho:PE X o '4') (hb:dD o=true) (bQ:(apos.endLine==pos.line)=true) :
  PE X (.Call (.Attribute o x apos) [] [] pos) (tp X.K cl Z (.meth m ca .nil)):=(Bl ho hr hb bQ).imp fun σ H Q h=>zL F hx (fun σ H Q z=>by
   obtain⟨B,ρ,M,G,R,h1,h2,h3⟩:=z;exact h3 [] [] M G H h1.self IsL.nil h2) h
noncomputable def Tc (G H:Hp) (A:List Addr):Hp:=fun b=>if b∈A then H b else G b
def Td (G H:Hp) (M:Mem) (A:List Addr):Prop:=∀ a∈A,G a=none/\M a=none/\∃ vs,H a=some (.lst vs)
inductive tb (K:e_) (cl:Cl) (Z:Gm) (c:C) (σ:St) (H:Hp) (Q:List V->Hp->Prop):Prop where
 | mk (B:Bs) (ρ:En) (M:Mem) (G:Hp) (R:Rt):Rep K cl B ρ M σ H G->ev Z c ρ M R->(∀ ds vs A M' G' H',bc K cl none G H M G' H' M'->Td G' H' M' A->IsL K cl (Tc G' H' A) ds vs->R ds M'->Q vs H')->tb K cl Z c σ H Q
def wk {p:Addr}{M:Mem} (m:bG K cl G H M) (hp:H p=none):M p=none:=by
 cases e:M p with
 | none=>rfl
 | some w=>obtain⟨u,hu⟩:=(m p w e).2.lr;rw[hp] at hu;cases hu
def Te (K:e_) (cl:Cl) (Z:Gm) (q:Nat) (c:C):TE:=fun σ H Q=>∃ B ρ M G R,Rep K cl B ρ M σ H G/\ev Z c ρ M (fun ds M1=>Z.bp q (.obj q [] []) ds M1 R) /\
 ∀ fs xs us M2 G2 H2 x dx,R (.obj q fs xs) M2->bc K cl none G H M G2 H2 M2->H x=none->G2 x=none->M2 x=none->H2 x=some (.ins (cl q) dx (fs.zip us))->fs.length=xs.length->IsL K cl G2 xs us->Q (.ref x) H2
def F8 {q:Nat}{M1 M2:Mem}{G1 H1 G2 H2:Hp}{x dx:Addr} (hx:H1 x=none) (QU:H1 dx=none) (f:bc K cl (some x) G1 (upd (upd H1 dx (.own x)) x (.ins (cl q) dx [])) M1 G2 H2 M2):bc K cl none G1 H1 M1 G2 H2 M2:=by
 have up:∀ a u,H1 a=some u->(upd (upd H1 dx (.own x)) x (.ins (cl q) dx [])) a=some u:=fun a u h=>by rw[av (aB h hx),av (aB h QU)];exact h
 have dn:∀ a,(upd (upd H1 dx (.own x)) x (.ins (cl q) dx [])) a=none->H1 a=none:=fun a h=>bB (fun a u h=>⟨u,up a u h⟩) h
 refine⟨f.g,f.gh,fun a u h=>f.lr a u (up a u h),fun a u h n=>dn a (f.gf a u h n),fun a u h hm _=>f.h a u (up a u h) hm fun z=>?_,f.mem,fun a u h n=>dn a (f.mf a u h n),f.ke⟩
 cases z;rw[hx] at h;cases h
def bc.ON {M M2:Mem}{G2 H2:Hp}{x:Addr}{o:HO}{sf:m_ Addr} (f:bc K cl sf G H M G2 H2 M2) (hx:H x=none) (gx:G2 x=none) (mx:M2 x=none) (e:H2 x=some o):bc K cl sf G H M (upd G2 x o) H2 M2:=by
 have sm:ag G2 (upd G2 x o):=ag.put gx;refine⟨f.g.trans sm,fun a u h=>?_,f.lr,fun a u h n=>?_,f.h,fun a u h=>?_,f.mf,f.ke⟩
 ·unfold upd at h;by_cases z:a=x
  ·rw[z_ z] at h;cases h;rw[z];exact e
  ·rw[s_ z] at h;exact f.gh a u h
 ·unfold upd at h;by_cases z:a=x
  ·rw[z];exact hx
  ·rw[s_ z] at h;exact f.gf a u h n
 ·obtain⟨h1,h2⟩:=f.mem a u h;have ne:a≠x:=fun z=>by rw[z,mx] at h;cases h
  exact⟨by rw[av ne];exact h1,h2.mono sm fun _ z=>z⟩
def Hq {q:Nat}{x:Str} (F:Fx Z cl X.prog X.w X.K X.mg X.base n fns j7 cls nH pJ) (hr:cg n X.A) (hx:cls[q]? = some x) (hg:Gl X x) (m4:'2'=false) (ha:PA X (e::es) (ta X.K cl Z ca)) (hs:(e::es).all noStar=true) :
  PE X (.Call (.Name x p) (e::es) [] pos) (Te X.K cl Z q ca):=by
 ext d;obtain⟨hm,kp⟩:=F.kl q x hx m4;rw[ZX,v_] at hs;obtain⟨B,ρ,M,G,R,q1,q2,q3⟩:=h
 have h':ta X.K cl Z ca σ H (fun vs H1=>(∃ d ds M k,Z.bp q d ds M k)/\∀ x dx,H1 x=none->H1 dx=none->dx≠x->F6 X.K cl (Z.bp q) (.ref x::(vs++[])) (upd (upd H1 dx (.own x)) x (.ins (cl q) dx [])) (fun v H2=>v=.az/\Q (.ref x) H2) E0):=by
  refine⟨B,ρ,M,G,_,q1,q2,fun ds vs M1 G1 H1 f i hk=>⟨⟨_,_,_,_,hk⟩,fun x dx hx QU ne=>?_⟩⟩;have up:ag H1 (upd (upd H1 dx (.own x)) x (.ins (cl q) dx [])):=fun a u h=>by rw[av (aB h hx),av (aB h QU)];exact h
  rw[ZU];refine⟨G1,M1,x,q,[],[],dx,[],vs,ds,R,rfl,au,rfl,IsL.nil,yp f.gh hx,wk f.mem hx,f.gh.trans up,fun a o e=>?_,i,hk,fun fs xs us KD M2 G2 H2 hk f2 g1 g2 g3 g4 g5=>⟨rfl,q3 fs xs us M2 G2 H2 x KD hk (f.trans (F8 hx QU f2)) (bB f.lr hx) g1 g2 g3 g4 g5⟩⟩;obtain⟨h1,h2⟩:=f.mem a o e;exact⟨h1,h2.mono (ag.refl G1) fun u hu=>up a u hu⟩
 refine aaA (kP I hg hm ?_ m4);refine abG (h₀:=X.base) I.ok.mod.Iy kp (aX (ha pos pins s σ H _ I h') fun us s1 ⟨vs,H1,I1,r,⟨d,ds,M1,k,hi⟩,hq⟩=>⟨I1.kK,?_⟩) (af hs.1) (eF hs.2);obtain⟨f,fd,ps,j,hj,F1,B1,XH⟩:=F.bp q d ds M1 k hi;exact Cd (dvs:=[]) (ds:=[]) XH F1 (hj▸hr) B1 .nil vv I1 r hq
def Tf {q:Nat} (h:PE X e (Te X.K cl Z q ca)):PE X e (tp X.K cl Z (.mk q ca)):=h.imp fun σ H Q h=>by
 obtain⟨B,ρ,M,G,R,q1,q2,q3⟩:=h;refine⟨B,ρ,M,G,_,q1,q2,fun fs xs us M2 G2 H2 x dx hR f hx gx mx e l i=>?_⟩;have f2:=f.ON hx gx mx e;exact q3 (.obj q fs xs) (.ref x) M2 _ H2 f2 (by unfold Is;exact⟨x,dx,us,rfl,au,l,i.mono (ag.put gx)⟩) hR
end
section
variable {K:e_}{cl:Cl}{Z:Gm}{c ci ct ce:C}{σ:St}{G H:Hp}{Q:VK}{X:Cx}{e a b tg o:Expr}{es:List Expr}{pos p apos:Pos}
def F9 {ρ:En}{j:Nat}{d:Dt} (h:iV ρ j=.sh d):ρ[j]? = some (.sh d):=by
 unfold iV at h;split at h
 ·cases h;assumption
 ·cases h
def Ga {ρ:En}{j:Nat}{d:Dt}:iV ρ j≠.ow d:=by
 unfold iV;split<;>exact fun z=>nomatch z
def Gb {B:Bs}{ρ:En}{M M':Mem}{ix:List Nat}{G' H':Hp}{ds:List Dt}{vs:List V} (r:Rep K cl B ρ M σ H G) (sg:ag G G') (s:ag G' H') (m:bG K cl G' H' M') (i:IsL K cl G' ds vs) :
  Rep K cl ⟨G',H',M',none⟩ (ds.map Sl.sh++ix.map (iV ρ)) M' (vs.map some++ix.map fun j=>(σ[j]?).join) H' G':=by
 have hl:=i.length;refine⟨bc.refl s m,by simp [hl],fun _ z=>(nomatch z),fun j d e=>?_,fun _=>0,fun j d e=>?_,fun j _ d _ e=>?_⟩
 ·by_cases hj:j<ds.length
  ·rw[ZO (by simpa using hj),g_] at e;obtain⟨d',e1,e2⟩:=o_.mp e
   cases e2
   obtain⟨v,h1,h2⟩:=i.get e1;refine⟨v,?_,h2⟩;rw[ZO (by simpa [hl] using hj),g_,h1];rfl
  ·rw[Zx (by simpa using hj),g_] at e;obtain⟨k,e1,e2⟩:=o_.mp e;obtain⟨v,h1,h2⟩:=r.sh k d (F9 e2);refine⟨v,?_,h2.mono sg⟩;rw[a_] at e1;rw[Zx (by simpa [hl] using hj),g_,a_,<-hl,e1];show some ((σ[k]?).join)=_;rw[h1];rfl
 all_goals
  exfalso;by_cases hj:j<ds.length
  ·rw[ZO (by simpa using hj),g_] at e;obtain⟨d',e1,e2⟩:=o_.mp e
   cases e2
  ·rw[Zx (by simpa using hj),g_] at e;obtain⟨k,e1,e2⟩:=o_.mp e;exact Ga e2
def OO (own:List Str) (ix:List Nat) (J:It) (g:TG) (ti:TT) (te:TE) (σ:St) (H:Hp) (Q:VK):Prop:=∃ W:Nat->Nat->List V->St->Hp->Prop,(∃ m,W 0 m [] (qQ σ own ix) H)/\∀ i m ys σ' H,W i m ys σ' H ->
  (J.stop i H/\ys.length<=sizeLine/\∀ D,H D=none->Q (.ref D) (upd H D (.lst ys))) ∨
  (J.go i H/\∀ x H',J.G0 i H x H'->g x σ' H' fun σ2 H2=>ti σ2 H2 fun b H3=>if b=true then te σ2 H3 fun y H4=>ys.length<sizeLine/\∃ m',m'<m/\W (i+1) m' (ys++[y]) σ2 H4 else ∃ m',m'<m/\W (i+1) m' ys σ2 H3)
def wm (K:e_) (cl:Cl) (w:Nat) (ix:List Nat) (g:TG):Prop:=∀ {d:Dt}{ρ:En}{k:En->Prop}{x:V}{σ':St}{mD:St}{Gc Hc:Hp}{R:St->Hp->Prop},CZ ρ w ix d k->Is K cl Gc d x->ag Gc Hc->(∃ pre:St,pre.length=w/\σ'=pre++mD) ->
   (∀ ds vs,IsL K cl Gc ds vs->ds.length=w->k (ds.map Sl.sh++ix.map (iV ρ))->R (vs.map some++mD) Hc)->g x σ' Hc R
def wo {own:List Str}{w:Nat}{ix:List Nat}{g:TG}{B:Bs}{ρ:En}{M M':Mem}{G' H':Hp}{J:It}{items:List Dt}{P:Mem->Prop}{R:Rt} (hw:own.length=w) (hg:wm K cl w ix g) (q1:Rep K cl B ρ M σ H G) (b5:bc K cl none G H M G' H' M') (ok:SX K cl J items P G') (hlen:items.length<=sizeLine)
  (hc:eE (fun x M K=>P M/\CZ ρ w ix x fun ρ'=>ev Z ct ρ' M fun c M1=>aM c fun c=>cy c fun c=>if c=true then ev Z ce ρ' M1 fun d M2=>aM d fun d=>K (some d) M2 else K none M1) items M' fun es M2=>P M2/\R es M2)
  (q3:∀ ds vs M' G' H' p,bc K cl none G H M G' H' M'->H' p=none->IsL K cl G' ds vs->R ds M'->Q (.ref p) (upd H' p (.lst vs))):OO own ix J g (tt K cl Z ct) (tp K cl Z ce) σ H' Q:=by
 let f:Dt->Mem->(m_ Dt->Mem->Prop)->Prop:=fun x M K=>P M/\CZ ρ w ix x fun ρ'=>ev Z ct ρ' M fun c M1=>aM c fun c=>cy c fun c=>if c=true then ev Z ce ρ' M1 fun d M2=>aM d fun d=>K (some d) M2 else K none M1
 let mD:St:=ix.map fun j=>(σ[j]?).join
 refine⟨fun i m ys σ' Hc=>∃ Mc Gc ds,m=items.length-i/\i<=items.length/\bc K cl none G H M Gc Hc Mc/\ag G' Gc/\IsL K cl Gc ds ys/\ds.length<=i/\(∃ pre:St,pre.length=w/\σ'=pre++mD)/\eE f (items.drop i) Mc (fun es M2=>P M2/\R (ds++es) M2),
  ⟨items.length,M',G',[],∅,aal _,b5,ag.refl _,IsL.nil,t_ _,⟨own.map fun _=>none,by rw[a_,hw],rfl⟩,hc⟩,?_⟩
 rintro i m ys σ' Hc ⟨Mc,Gc,ds,rfl,hi,fc,sc,is,dl,qP,l7⟩;have il:=is.length;by_cases jN:i<items.length
 ·obtain⟨d,ed⟩:∃ d,items[i]? = some d:=⟨_,b_ jN⟩
  have Tg:items.drop i=d::items.drop (i+1):=by
   rw[aay jN];congr 1;have:=b_ jN;rw[this] at ed;exact M_ ed
  rw[Tg] at l7;obtain⟨hP,Ti⟩:P Mc/\CZ ρ w ix d (fun ρ'=>ev Z ct ρ' Mc fun c M1=>aM c fun c=>cy c fun c=>if c=true then ev Z ce ρ' M1 fun d M2=>aM d fun d=>eE f (items.drop (i+1)) M2 (fun es M2=>P M2/\R (ds++((some d).toList++es)) M2) else eE f (items.drop (i+1)) M1 (fun es M2=>P M2/\R (ds++(none.toList++es)) M2)):=l7;obtain⟨OP,_⟩:=ok i Gc Hc Mc sc fc.gh fc.mem hP;refine .inr ⟨(OP jN).1,fun x Hx hy=>?_⟩;obtain⟨d',Gx,OQ,Tj,fx⟩:=(OP jN).2 x Hx hy;rw[ed] at OQ;cases OQ;refine hg Ti Tj fx.gh qP fun XI XJ Vv l1 hk=>?_
  have Tn:=fc.trans fx;have r1:=Gb (ix:=ix) q1 Tn.g fx.gh fx.mem Vv;have l2:(XJ.map some).length=w:=by rw[a_,<-Vv.length,l1]
  refine⟨_,_,Mc,Gx,fun c M1=>if c=true then ev Z ce (XI.map Sl.sh++ix.map (iV ρ)) M1 fun d M2=>aM d fun d=>eE f (items.drop (i+1)) M2 (fun es M2=>P M2/\R (ds++((some d).toList++es)) M2) else eE f (items.drop (i+1)) M1 (fun es M2=>P M2/\R (ds++(none.toList++es)) M2),r1,hk,fun b M1 G1 H1 f1 hb=>?_⟩
  cases b with
  | true =>
   rw[z_ rfl] at hb ⊢;refine⟨_,_,M1,G1,_,r1.on f1,hb,fun dd v M2 G2 H2 f2 i2 Dk=>⟨∅,items.length-(i+1),∅,M2,G2,ds++[dd],rfl,jN,(Tn.trans f1).trans f2,sc.trans ((fx.g.trans f1.g).trans f2.g),(is.mono ((fx.g.trans f1.g).trans f2.g)).append (IsL.cons i2 IsL.nil),by rw[A_,X_];lia,⟨_,l2,rfl⟩,?_⟩⟩
   have e:(fun es M2=>P M2/\R (ds++((some dd).toList++es)) M2)=fun es M2=>P M2/\R (ds++[dd]++es) M2:=by
    funext es M2
    rw[abk];rfl
   rw[<-e];exact Dk
  | false =>
   rw[s_ u_] at hb ⊢;exact⟨items.length-(i+1),∅,M1,G1,ds,rfl,jN,Tn.trans f1,sc.trans (fx.g.trans f1.g),is.mono (fx.g.trans f1.g),∅,⟨_,l2,rfl⟩,hb⟩
 ·have e:i=items.length:=by lia
  subst e;rw[afW] at l7;obtain⟨hP,hr⟩:P Mc/\R (ds++[]) Mc:=l7;rw[ZU] at hr;exact .inl ⟨(ok _ Gc Hc Mc sc fc.gh fc.mem hP).2 rfl,∅,fun D hD=>q3 ds ys Mc Gc Hc D fc hD is hr⟩
def uk {own:List Str}{w:Nat}{ix:List Nat}{g:TG} (hw:own.length=w) (hg:wm K cl w ix g)
  (h:tf K cl Z (.comp ci w ix ct ce) σ H Q):zu own ix (lz K cl Z ci) g (tt K cl Z ct) (tp K cl Z ce) σ H Q:=by
 obtain⟨B,ρ,M,G,R,q1,q2,q3⟩:=h;refine⟨B,ρ,M,G,_,q1,q2,fun items M' G' H' J b5 ok hh=>?_⟩;refine wo (P:=fun _=>True) (R:=R) hw hg q1 b5 (fun i G' H M s1 s2 m _=>ok i G' H M s1 s2 m) hh.1 ?_ q3;simp only[true_and];exact hh.2
theorem Gd {own:List Str}{w:Nat}{ix:List Nat}{g:TG} (hw:own.length=w) (hg:wm K cl w ix g)
  (h:tf K cl Z (.comh ci w ix ct ce) σ H Q):zu own ix (G4 K (tp K cl Z ci)) g (tt K cl Z ct) (tp K cl Z ce) σ H Q:=by
 obtain⟨B,ρ,M,G,R,q1,q2,q3⟩:=h;refine⟨B,ρ,M,G,_,q1,q2,fun d v M' G' H' b5 i hh=>?_⟩
 cases d with
 | j3 p =>
  change (match M' p with | some (.ml ds)=>_ | _=>False) at hh
  cases e:M' p with
  | none=>rw[e] at hh;exact hh.elim
  | some o =>
   rw[e] at hh
   cases o with
   | ml items =>
    unfold Is at i;obtain⟨vs,hv,_⟩:=(b5.mem p _ e).2;exact⟨p,i,⟨vs,cE.of hv⟩,wo (R:=R) hw hg q1 b5 KC hh.1 hh.2 q3⟩
   | _=>exact hh.elim
 | _=>exact (show False from hh).elim
theorem OR {d:Dt}{ix:List Nat}{ρ:En}{k:En->Prop}{x:V}{σ' mD:St}{Gc Hc:Hp}{R:St->Hp->Prop} (h:CZ ρ 1 ix d k) (i:Is K cl Gc d x) (s:ag Gc Hc) (hp:∃ pre:St,pre.length=1/\σ'=pre++mD)
  (q:∀ ds vs,IsL K cl Gc ds vs->ds.length=1->k (ds.map Sl.sh++ix.map (iV ρ))->R (vs.map some++mD) Hc):er 0 x σ' Hc R:=by
 obtain⟨pre,l,rfl⟩:=hp
 match pre,l with
 | [o],_=>exact q [d] [x] (IsL.cons i IsL.nil) rfl h
theorem OS {d:Dt}{ix:List Nat}{ρ:En}{k:En->Prop}{x:V}{σ' mD:St}{Gc Hc:Hp}{R:St->Hp->Prop} (h:CZ ρ 2 ix d k) (i:Is K cl Gc d x) (s:ag Gc Hc) (hp:∃ pre:St,pre.length=2/\σ'=pre++mD)
  (q:∀ ds vs,IsL K cl Gc ds vs->ds.length=2->k (ds.map Sl.sh++ix.map (iV ρ))->R (vs.map some++mD) Hc):BZ K 2 (kR (er 0) (kR (er 1) BY)) x σ' Hc R:=by
 obtain⟨pre,l,rfl⟩:=hp
 match pre,l with
 | [o1,o2],_ =>
  cases d with
  | tup ds =>
   match ds,h with
   | [d1,d2],h =>
    unfold Is at i;obtain⟨t,vs,rfl,h1,h2⟩:=i;have l2:=h2.length
    match vs,l2 with
    | [v1,v2],_=>exact⟨t,[v1,v2],rfl,eV.of (s _ _ h1),rfl,v1,[v2],rfl,v2,[],rfl,rfl,q [d1,d2] [v1,v2] h2 rfl h⟩
  | _=>exact (show False from h).elim
def KI {σ:St}{H:Hp}{Q:Bool->Hp->Prop} (h:tt K cl Z (.b true) σ H Q):MZ σ H Q:=by
 obtain⟨B,ρ,M,G,k,h1,h2,h3⟩:=h;exact h3 true M G H h1.self h2
end
end PV
namespace PV
open PySem L2 SH PySem.Spec PyProof.Rows
section
variable {K:e_}{cl:Cl}{G H:Hp}{X:Cx}{pins:List (Addr×Obj)}{σ:L2.St}{s:j_}{a:Addr}{kvs:List (P_×Dt)}{xs:List (P_×Addr×Value)}
theorem DP.mem:∀ {kvs:List (P_×Dt)}{xs:List (P_×Addr×Value)},DP K cl G kvs xs->∀ q∈xs,qR q.1/\cF K G (.ref q.2.1) q.1
 | _,_,.nil,q,h=>nomatch h
 | _,_,.cons ⟨_,h2,h3,_⟩ t,q,h=>by
  rcases C_.mp h with e | h
  ·subst e;exact⟨h2,h3⟩
  ·exact DP.mem t q h
def mE {kv:P_×Dt}{p:P_}:iW (kv::kvs) p=if kv.1=p then some kv.2 else iW kvs p:=by
 unfold iW;rw[aaN];by_cases e:kv.1=p
 ·rw[d_ e,z_ e];rfl
 ·rw[f_ e,s_ e]
def yt {kv:P_×Addr×Value}{p:P_}:atKey (kv::xs) p=if kv.1=p then some kv.2 else atKey xs p:=by
 unfold atKey;rw[aaN];by_cases e:kv.1=p
 ·rw[d_ e,z_ e];rfl
 ·rw[f_ e,s_ e]
theorem DP.at_ (p:P_):∀ {kvs:List (P_×Dt)}{xs:List (P_×Addr×Value)},DP K cl G kvs xs->(∀ d,iW kvs p=some d->∃ q,atKey xs p=some q/\∃ v,RelV v q.2/\Is K cl G d v)/\(iW kvs p=none->atKey xs p=none)
 | _,_,.nil=>by constructor;exact fun d h=>(nomatch (show (none:m_ Dt)=some d from h));exact fun _=>rfl
 | kv::_,q::_,.cons ⟨h1,h2,h3,v,h4,h5⟩ t=>by
  obtain⟨i1,i2⟩:=DP.at_ p t;rw[mE,yt,<-h1];by_cases e:kv.1=p
  ·rw[z_ e,z_ e];exact⟨fun d h=>by cases h;exact⟨q.2,rfl,v,h4,h5⟩,fun h=>by cases h⟩
  ·rw[s_ e,s_ e];exact⟨i1,i2⟩
theorem DP.snoc {p:P_}{d:Dt}{b:Addr}{u:Value} (h:qR p/\cF K G (.ref b) p/\∃ v,RelV v u/\Is K cl G d v):∀ {kvs:List (P_×Dt)}{xs:List (P_×Addr×Value)},DP K cl G kvs xs->DP K cl G (kvs++[(p,d)]) (xs++[(p,b,u)])
 | _,_,.nil=>.cons ⟨rfl,h⟩ .nil
 | _,_,.cons q t=>.cons q (DP.snoc h t)
theorem DP.length:∀ {kvs:List (P_×Dt)}{xs:List (P_×Addr×Value)},DP K cl G kvs xs->kvs.length=xs.length:=fun h=>adL h
def yu (I:Inv X pins σ H s) (hw:cl.w=X.w) (sm:ag G H) (d:nj X.K cl G H a kvs):(a==abo)=false/\kvs.length<=sizeLine/\∃ xs,H a=some (qT X.w a xs)/\DP X.K cl G kvs xs/\Heap.DictOfH (fX X.prog X.w) s.heap a xs:=by
 obtain⟨h1,h2,xs,h3,h4,h5⟩:=d;rw[hw] at h3;have aW:aQ X.prog X.w H s.heap a (qT X.w a xs):=I.aW a _ h3;unfold qT at aW;obtain⟨⟨o,es,ep,g1,g2,g3,g4⟩,_,_⟩:=aW;refine⟨h1,h2,xs,h3,h5,o,es,ep,g1,g2,g3,g4,fun x hx=>?_,h4⟩;obtain⟨q2,q3⟩:=h5.mem x hx;obtain⟨as,r⟩:=(q3.same sm).reads I (.ref x.2.1) rfl;exact⟨q2,as,r⟩
def um {v:V}{ps:List P_} (h:cF K H v (.tuple ps)):∃ b,v=.ref b:=by cases h;exact⟨_,rfl⟩
def yv (I:Inv X pins σ H s) {b:Addr}{p:P_} (hk:qR p) (h:cF X.K H (.ref b) p):(fX X.prog X.w).is s.heap p b:=by
 obtain⟨as,r⟩:=h.reads I (.ref b) rfl;exact⟨hk,as,r⟩
def Ge {w:World}{P:N_}{H':Hp}{h:Heap} (dd:Heap.DictOfH (fX P w) h a xs):aQ P w H' h a (qT w a xs):=by
 obtain⟨o,es,ep,g1,g2,g3,g4,_,_⟩:=dd;refine⟨⟨o,es,ep,g1,g2,g3,g4⟩,⟨o,g1⟩,fun h1 h2 ⟨o,es,ep,q1,q2,q3,q4⟩ k=>⟨o,es,ep,k o q1,q2,q3,q4⟩⟩
def Gf {w:World}{P:N_}{H':Hp} (h:Heap):aQ P w H' (h.push { cls:=.type "dict",data:=.dict #[] }) h.objs.size (qT w h.objs.size []) :=
 ⟨⟨_,#[],0,w_ _ rfl,⟨rfl,rfl,rfl⟩,rfl,rfl⟩,⟨_,w_ _ rfl⟩,fun h1 h2 ⟨o,es,ep,q1,q2,q3,q4⟩ k=>⟨o,es,ep,k o q1,q2,q3,q4⟩⟩
end
def OT (K:e_) (cl:Cl) (td ty:TE):TE:=fun σ H Q=>td σ H fun x H1=>ty σ H1 fun y H2=>∃ G a kvs ps d,x=.ref a/\ag G H2/\nj K cl G H2 a kvs/\qR (.tuple ps)/\cF K H2 y (.tuple ps)/\iW kvs (.tuple ps)=some d/\∀ v,Is K cl G d v->Q v H2
def Ht (K:e_) (cl:Cl) (ty td:TE):TE:=fun σ H Q=>ty σ H fun y H1=>td σ H1 fun x H2=>∃ G a kvs ps,x=.ref a/\ag G H2/\nj K cl G H2 a kvs/\qR (.tuple ps)/\cF K H2 y (.tuple ps)/\Q (.bl (iW kvs (.tuple ps)).isNone) H2
def OU (w:World):TE:=fun _ H Q=>∀ p,(p==abo)=false->H p=none->Q (.ref p) (upd H p (qT w p []))
def OV (K:e_) (cl:Cl) (td ty tv:TE):TS:=fun D σ H=>tv σ H fun v H1=>td σ H1 fun x H2=>ty σ H2 fun y H3=>∃ G a kvs ps d xs,x=.ref a/\ag G H3/\nj K cl G H3 a kvs/\H3 a=some (qT cl.w a xs)/\qR (.tuple ps)/\cF K G y (.tuple ps)/\iW kvs (.tuple ps)=none/\kvs.length<sizeLine/\Is K cl G d v /\
 ∀ u,(∀ H',H' a=some u->nj K cl G H' a (kvs++[(.tuple ps,d)]))->D.nx σ (upd H3 a u)
section
variable {X:Cx}{cl:Cl}{o i e value:Expr}{pos pos' MG:Pos}{td ty tv:TE}
def Gg (hw:cl.w=X.w):PE X (.Dict [] [] pos) (OU cl.w):=fun pins s σ H Q I h=>by
 rw[hw] at h;exact wpAny_Dict_empty ⟨.ref s.heap.objs.size,_,I.laid (a:=s.heap.objs.size) (o:=qT X.w s.heap.objs.size []) (t':=s.toks) (fun _ _ q=>k_ _ q) (t_ _) (Gf s.heap),rfl,h _ (aaw.mpr (ZM (Q_ I.big))) (I.aW.fresh (t_ _))⟩
def Gh (hw:cl.w=X.w) (hu:X.A.units+66<cLine) (ho:PE X o td) (hi:PE X i ty) (hs:JT i):PE X (.Subscript o i pos) (OT X.K cl td ty):=by
 ext d;refine Fu PySem.F.slot_dict_getitem.lookup hs (aX (ho pins s σ H _ I h) fun u s1 z1=>?_);obtain⟨x,H1,I1,rx,q1⟩:=z1;refine aX (hi pins s1 σ H1 _ I1 q1) fun iv s2 z2=>?_
 obtain⟨y,H2,I2,ry,G,a,kvs,ps,d,rfl,sm,da,hk,hy,hg,q2⟩:=z2;obtain rfl:u=Zq a:=rx;obtain⟨b,rfl⟩:=um hy;obtain rfl:iv=Zq b:=ry;obtain⟨z1,z2,xs,z3,z4,dd⟩:=yu I2 hw sm da;obtain⟨q,e1,v,e2,e3⟩:=(z4.at_ (.tuple ps)).1 d hg;refine⟨dd.typeIs,wpAny_getItem_heap (knd:=fX X.prog X.w) (show X.A.in1.units+64<cLine by show X.A.units+1+64<cLine;lia) (yv I2 hk hy) dd e1 ?_⟩;exact⟨v,H2,I2.tok _,e2,q2 v e3⟩
def zM (hw:cl.w=X.w) (hu:X.A.units+66<cLine) (hi:PE X i ty) (ho:PE X o td):PC X .NotIn i o (Ht X.K cl ty td):=by
 ext d;refine aX (hi pins s σ H _ I h) fun iv s1 z1=>?_
 obtain⟨y,H1,I1,ry,q1⟩:=z1;refine aX (ho pins s1 σ H1 _ I1 q1) fun u s2 z2=>?_
 obtain⟨x,H2,I2,rx,G,a,kvs,ps,rfl,sm,da,hk,hy,q2⟩:=z2;obtain rfl:u=Zq a:=rx;obtain⟨b,rfl⟩:=um hy;obtain rfl:iv=Zq b:=ry;obtain⟨z1,z2,xs,z3,z4,dd⟩:=yu I2 hw sm da;refine wpAny_notIn_heap (knd:=fX X.prog X.w) (show X.A.in1.units+64<cLine by show X.A.units+1+64<cLine;lia) (yv I2 hk hy) z1 dd ?_
 have e:(!(atKey xs (.tuple ps)).isSome)=(iW kvs (.tuple ps)).isNone:=by
  obtain⟨i1,i2⟩:=z4.at_ (.tuple ps)
  cases g:iW kvs (.tuple ps) with
  | none=>rw[i2 g];rfl
  | some d=>obtain⟨q,e1,_⟩:=i1 d g;rw[e1];rfl
 rw[e];exact⟨.bl _,H2,I2.tok _,rfl,q2⟩
def Gi (hw:cl.w=X.w) (hu:X.A.units+66<cLine) (ho:PE X o td) (hi:PE X i ty) (hv:PE X value tv) (hs:aaI value (some (.Subscript o i pos')) pos.line X.env=pure false) :
  PS X (.Assign [.Subscript o i pos'] value pos) (OV X.K cl td ty tv):=by
 intro pins s σ H D I h;refine wpAny_Assign_Subscript (aX (hv pins s σ H _ I h) fun r s1 z1=>?_) hs;obtain⟨v,H1,I1,rv,q1⟩:=z1;refine aX (ho pins s1 σ H1 _ I1 q1) fun u s2 z2=>?_
 obtain⟨x,H2,I2,rx,q2⟩:=z2;refine aX (hi pins s2 σ H2 _ I2 q2) fun iv s3 z3=>?_
 obtain⟨y,H3,I3,ry,G,a,kvs,ps,d,vb,rfl,sm,da,he,hk,hy,hg,hl,hd,q3⟩:=z3;obtain rfl:u=Zq a:=rx;obtain⟨b,rfl⟩:=um hy;obtain rfl:iv=Zq b:=ry;obtain⟨z1,z2,xs,z3,z4,dd⟩:=yu I3 hw sm da;have nk:=(z4.at_ (.tuple ps)).2 hg;refine wpAny_setItem_heap (knd:=fX X.prog X.w) (hsz:=by rw[<-z4.length];exact z2) (show X.A.in1.units+64<cLine by show X.A.units+1+64<cLine;lia) (yv I3 hk (hy.same sm)) dd fun h' QV AR=>?_
 have e:storedH xs (.tuple ps) b r=xs++[(.tuple ps,b,r)]:=by unfold storedH;rw[nk];rfl
 rw[e] at QV;refine⟨σ,_,Ft I3 (by rw[z3];exact Z3) AR (let ⟨q,_,_,hq,_⟩:=QV;⟨q,hq⟩) (Ge QV),q3 _ fun H' e'=>?_⟩;obtain⟨_,_,_,_,_,_,_,_,nd⟩:=QV;refine⟨z1,by rw[A_];exact hl,_,by rw[hw];exact e',nd,z4.snoc ⟨hk,hy,v,rv,hd⟩⟩
end
end PV
namespace PV
open PySem L2 SH
section
variable {K:e_}{cl:Cl}{Z:Gm}{c ca cb cc:C}{σ:St}{G H:Hp}{Q:VK}{X:Cx}{e a b:Expr}{pos p:Pos}
def pK {M:Mem}{d:Dt}{k:Addr->List (P_×Dt)->Prop} (h:NC M d k):∃ q ds,d=.j3 q/\M q=some (.md ds)/\k q ds:=by
 cases d with
 | j3 q =>
  change (match M q with | some (.md ds)=>k q ds | _=>False) at h
  cases e:M q with
  | none=>rw[e] at h;exact h.elim
  | some m =>
   rw[e] at h
   cases m with
   | ml _=>exact h.elim
   | mo _ _ _=>exact h.elim
   | md ds=>exact⟨q,ds,rfl,e,h⟩
 | _=>exact (show False from h).elim
def OW {b:Expr} (h:lC b=true):JT b:=fun o i=>by
 cases b<;>first | rfl | cases h
def OX (hw:cl.w=X.w):PE X (.Dict [] [] pos) (tp X.K cl Z .ndh):=(Gg hw).imp fun σ H Q h=>by
 ext a;intro p hs hp;have f2:=bc.cell (o:=qT cl.w p []) (m:=.md []) h1.b5.gh h1.b5.mem hp fun H' e=>⟨hs,aal _,[],e,List.nodup_nil,.nil⟩
 refine h3 (.j3 p) (.ref p) _ _ _ f2 (by unfold Is;rfl) (h2 p ?_)
 cases e:M p with
 | none=>rfl
 | some w=>obtain⟨u,hu⟩:=(h1.b5.mem p w e).2.lr;rw[hp] at hu;cases hu
def OY (hw:cl.w=X.w) (hu:X.A.units+66<cLine) (ha:PE X a '4') (hb:PE X b (tp X.K cl Z cb)) (hs:lC b=true):PE X (.Subscript a b pos) (tp X.K cl Z (.dgt ca cb)):=(Gh hw hu ha hb (OW hs)).imp fun σ H Q h=>by
 ext a;refine⟨B,ρ,M,G,_,h1,h2,fun x vx M1 G1 H1 f1 i1 hx=>⟨B,ρ,M1,G1,_,h1.on f1,hx,fun y vy M2 G2 H2 f2 i2 hz=>?_⟩⟩;obtain⟨ps,e1,e2,hz⟩:=hz;obtain⟨q,kvs,rfl,hm,v,hg,hR⟩:=pK hz;unfold Is at i1;subst i1;exact⟨G2,q,kvs,ps,v,rfl,f2.gh,(f2.mem q _ hm).2,e2,i2.dat f2.gh e1,hg,fun v' iv=>h3 _ _ M2 G2 H2 (f1.trans f2) iv hR⟩
def Dl (h:tp K cl Z (.dnt ca cb) σ H Q):Ht K cl (tp K cl Z ca) (tp K cl Z cb) σ H Q:=by
 ext a;refine⟨B,ρ,M,G,_,h1,h2,fun x vx M1 G1 H1 f1 i1 hx=>⟨B,ρ,M1,G1,_,h1.on f1,hx,fun y vy M2 G2 H2 f2 i2 hz=>?_⟩⟩;obtain⟨ps,e1,e2,hz⟩:=hz;obtain⟨q,kvs,rfl,hm,hR⟩:=pK hz;unfold Is at i2;subst i2;exact⟨G2,q,kvs,ps,rfl,f2.gh,(f2.mem q _ hm).2,e2,(i1.mono f2.g).dat f2.gh e1,h3 _ _ M2 G2 H2 (f1.trans f2) Is.zH hR⟩
def OZ (hw:cl.w=X.w) (hu:X.A.units+66<cLine) (ha:PE X a '4') (hb:PE X b (tp X.K cl Z cb)) (hs:iB b=true):PE X (.Compare a [.NotIn] [b] pos) (tp X.K cl Z (.dnt ca cb)):=(BQ (zM hw hu ha hb) (dy hs)).imp fun _ _ _=>Dl
def O0 (hw:cl.w=X.w) (hu:X.A.units+66<cLine) (ha:PE X a '4') (hb:PE X b (tp X.K cl Z cb)) (hs:iB b=true):PT X (.Compare a [.NotIn] [b] pos) (tt X.K cl Z (.dnt ca cb)):=(BR (zM hw hu ha hb) (dy hs)).imp fun _ _ _ h=>Dl (wg h)
end
section
variable (K:e_) (cl:Cl)
structure Lk (ii:Bool) (B:Bs) (G:Hp) (E:yn) (D:Ends):Prop where
 ii:ii=false->B.sf=none
 nx:∀ ρ M σ H G',ag G G'->Rep K cl B ρ M σ H G'->E.nx ρ M->D.nx σ H
 rt:∀ d v ρ M σ H G',Rep K cl B ρ M σ H G'->Is K cl G' d v->E.rt d M->D.rt v H
 bk:∀ ρ M σ H G',ag G G'->Rep K cl B ρ M σ H G'->E.bk ρ M->D.bk σ H
 ct:∀ ρ M σ H G',ag G G'->Rep K cl B ρ M σ H G'->E.ct ρ M->D.ct σ H
 ro:∀ ds us a ρ M σ H G',Rep K cl B ρ M σ H G'->B.H a=none->G' a=none->M a=none->H a=some (.lst us)->IsL K cl G' ds us->E.ro ds M->D.rt (.ref a) H
inductive tS (Z:Gm) (ii:Bool) (s:S) (D:Ends) (σ:St) (H:Hp):Prop where
 | mk (B:Bs) (ρ:En) (M:Mem) (G:Hp) (E:yn):Rep K cl B ρ M σ H G->ex Z s ρ M E->Lk K cl ii B G E D->tS Z ii s D σ H
end
section
variable {K:e_}{cl:Cl}{Z:Gm}{c ca cb cc:C}{σ:St}{G H:Hp}{D:Ends}{B:Bs}{ρ:En}{M:Mem}{E:yn}{ii:Bool}
def Lk.later {G':Hp} (l:Lk K cl ii B G E D) (s:ag G G'):Lk K cl ii B G' E D:=⟨l.ii,fun ρ M σ H G2 s2=>l.nx ρ M σ H G2 (s.trans s2),l.rt,fun ρ M σ H G2 s2=>l.bk ρ M σ H G2 (s.trans s2),fun ρ M σ H G2 s2=>l.ct ρ M σ H G2 (s.trans s2),l.ro⟩
def aY {α:Type}{l:List α}{k i:Nat}{x y:α} (h:(l.set k x)[i]? = some y):(i=k/\y=x/\k<l.length)∨(i≠k/\l[i]? = some y):=by
 by_cases e:i=k
 ·subst e;have hl:i<(l.set i x).length:=(i_.mp h).1;rw[aaO] at hl;rw[aaU hl] at h;exact .inl ⟨rfl,(M_ h).symm,hl⟩
 ·rw[abZ (ZM e)] at h;exact .inr ⟨e,h⟩
def pL {α:Type}{l:List α}{k i:Nat}{x:α} (h:i≠k):(l.set k x)[i]? = l[i]? := abZ (ZM h)
def O1 {k:Nat}{x:m_ V} (r:Rep K cl B ρ M σ H G) (hk:k≠0∨B.sf=none):∀ a,B.sf=some a->(σ.set k x)[(0:Nat)]? = some (some (.ref a)):=fun a e=>by
 rcases hk with hk | hk
 ·rw[pL (ZM hk)];exact r.s0 a e
 ·rw[hk] at e;cases e
theorem Lk.k {k:Nat} (l:Lk K cl ii B G E D) (h:ii=true->k≠0):k≠0∨B.sf=none:=by
 cases ii with
 | true=>exact .inl (h rfl)
 | false=>exact .inr (l.ii rfl)
def Rep.Bm {k:Nat}{d:Dt}{v:V} (r:Rep K cl B ρ M σ H G) (sH:k≠0∨B.sf=none) (i:Is K cl G d v):Rep K cl B (ρ.set k (.sh d)) M (σ.set k (some v)) H G:=by
 obtain⟨oa,h1,h2⟩:=r.ow;refine⟨r.b5,by rw[aaO,aaO];exact r.len,O1 r sH,fun j e hj=>?_,oa,fun j e hj=>?_,fun j l e e' hj hl=>?_⟩
 ·rcases aY hj with ⟨rfl,he,hk⟩ | ⟨hn,hj⟩
  ·cases he;exact⟨v,aaU (by rw[<-r.len];exact hk),i⟩
  ·rw[pL hn];exact r.sh j e hj
 ·rcases aY hj with ⟨rfl,he,hk⟩ | ⟨hn,hj⟩
  ·cases he
  ·rw[pL hn];exact h1 j e hj
 ·rcases aY hj with ⟨rfl,he,hk⟩ | ⟨hn,hj⟩
  ·cases he
  ·rcases aY hl with ⟨rfl,he,hk⟩ | ⟨Ey,hl⟩
   ·cases he
   ·exact h2 j l e e' hj hl
def Rep.O2 {k:Nat}{d:Dt}{a:Addr}{H' G':Hp}{M':Mem}{H0:Hp} (r:Rep K cl B ρ M σ H0 G) (sH:k≠0∨B.sf=none) (f:bc K cl none G H0 M G' H' M') (ha:H0 a=none) (ga:G' a=none) (ma:M' a=none) {o:MO} (ho:J9 d=some o) (hc:cj K cl G' H' a o) :
  Rep K cl B (ρ.set k (.ow d)) M' (σ.set k (some (.ref a))) H' G':=by
 have r':=r.on f;obtain⟨oa,h1,h2⟩:=r.ow
 have fr:∀ j e,ρ[j]? = some (Sl.ow e)->oa j≠a:=fun j e hj z=>by
  obtain⟨_,_,_,_,o,_,hc⟩:=h1 j e hj;obtain⟨u,hu⟩:=hc.lr;rw[z,ha] at hu;cases hu
 have ba:B.H a=none:=bB r.b5.lr ha;refine⟨r'.b5,by rw[aaO,aaO];exact r.len,O1 r sH,fun j e hj=>?_,fun j=>if j=k then a else oa j,fun j e hj=>?_,fun j l e e' hj hl q=>?_⟩
 ·rcases aY hj with ⟨rfl,he,hk⟩ | ⟨hn,hj⟩
  ·cases he
  ·rw[pL hn];exact r'.sh j e hj
 ·rcases aY hj with ⟨rfl,he,hk⟩ | ⟨hn,hj⟩
  ·cases he
   dsimp only;rw[z_ rfl];exact⟨aaU (by rw[<-r.len];exact hk),ga,ma,.inl ba,o,ho,hc⟩
  ·dsimp only;rw[s_ hn,pL hn];exact⟨(h1 j e hj).1,(h1 j e hj).2.b5 f⟩
 ·rcases aY hj with ⟨rfl,he,hk⟩ | ⟨hn,Np⟩
  ·rcases aY hl with ⟨rfl,XM,LU⟩ | ⟨Ey,Fh⟩
   ·rfl
   ·dsimp only at q;rw[z_ rfl,s_ Ey] at q;exact absurd q.symm (fr l e' Fh)
  ·rcases aY hl with ⟨rfl,XM,LU⟩ | ⟨Ey,Fh⟩
   ·dsimp only at q;rw[s_ hn,z_ rfl] at q;exact absurd q (fr j e Np)
   ·dsimp only at q;rw[s_ hn,s_ Ey] at q;exact h2 j l e e' Np Fh q
def Rep.chg {k:Nat}{d d':Dt}{o':MO}{u:HO} (r:Rep K cl B ρ M σ H G) (hk:ρ[k]? = some (.ow d)):∃ a o,σ[k]? = some (some (.ref a))/\J9 d=some o/\cj K cl G H a o/\M a=none/\G a=none /\
  (J9 d'=some o'->(∀ H',H' a=some u->cj K cl G H' a o')->Rep K cl B (ρ.set k (.ow d')) M σ (upd H a u) G):=by
 obtain⟨oa,h1,h2⟩:=r.ow;obtain⟨e1,ga,ma,ba,o,ho,hc⟩:=h1 k d hk;refine⟨oa k,o,e1,ho,hc,ma,ga,fun l5 IA=>?_⟩;obtain⟨w,hw⟩:=hc.lr;have ne:∀ b v,H b=some v->b≠oa k->(upd H (oa k) u) b=some v:=fun b v hb hn=>by rw[av hn];exact hb
 have gn:∀ b v,G b=some v->b≠oa k:=fun b v hb z=>by rw[z,ga] at hb;cases hb
 have mn:∀ b v,M b=some v->b≠oa k:=fun b v hb z=>by rw[z,ma] at hb;cases hb
 refine⟨⟨r.b5.g,fun b v hb=>ne b v (r.b5.gh b v hb) (gn b v hb),fun b v hb=>?_,r.b5.gf,fun b v hb hm hs=>ne b v (r.b5.h b v hb hm hs) fun z=>?_,fun b v hb=>⟨(r.b5.mem b v hb).1,(r.b5.mem b v hb).2.mono (ag.refl G) fun x hx=>ne b x hx (mn b v hb)⟩,r.b5.mf,r.b5.ke⟩,
  by rw[aaO];exact r.len,r.s0,fun j e hj=>?_,oa,fun j e hj=>?_,fun j l e e' hj hl=>?_⟩
 ·obtain⟨v',hv⟩:=r.b5.lr b v hb;by_cases z:b=oa k
  ·rw[z];exact⟨u,au⟩
  ·exact⟨v',ne b v' hv z⟩
 ·subst z;rcases ba with ba | ⟨ba,_⟩
  ·rw[ba] at hb;cases hb
  ·exact hs ba
 ·rcases aY hj with ⟨rfl,he,_⟩ | ⟨hn,hj⟩
  ·cases he
  ·exact r.sh j e hj
 ·rcases aY hj with ⟨rfl,he,_⟩ | ⟨hn,hj⟩
  ·cases he
   exact⟨e1,ga,ma,ba,o',l5,IA _ au⟩
  ·obtain⟨q1,q2,q3,q4,o2,q5,q6⟩:=h1 j e hj;exact⟨q1,q2,q3,q4,o2,q5,q6.mono (ag.refl G) fun x hx=>ne _ x hx fun z=>hn (h2 j k e d hj hk z)⟩
 ·have back:∀ {j:Nat}{e:Dt},(ρ.set k (.ow d'))[j]? = some (Sl.ow e)->∃ e0,ρ[j]? = some (Sl.ow e0):=fun {j e} hj=>by
   rcases aY hj with ⟨rfl,_,_⟩ | ⟨_,hj⟩
   ·exact⟨d,hk⟩
   ·exact⟨e,hj⟩
  obtain⟨e0,To⟩:=back hj;obtain⟨l0,Tp⟩:=back hl;exact h2 j l e0 l0 To Tp
def Rep.eT {k:Nat}{d:Dt} (r:Rep K cl B ρ M σ H G) (hk:ρ[k]? = some (.ow d)) (h0:k≠0):∃ G',ag G G'/\Rep K cl B (ρ.set k (.sh d)) M σ H G':=by
 obtain⟨oa,h1,h2⟩:=r.ow;obtain⟨e1,ga,ma,ba,o,ho,hc⟩:=h1 k d hk;obtain⟨w,hw⟩:=hc.lr;have bn:B.H (oa k)=none:=ba.elim id fun z=>absurd z.2 h0
 have sm:ag G (upd G (oa k) w):=ag.put ga
 have is:Is K cl (upd G (oa k) w) d (.ref (oa k)):=by
  cases d<;>first | (cases ho;done) | skip
  ·cases ho
   obtain⟨vs,q1,q2⟩:=hc;rw[hw] at q1;cases q1;unfold Is;exact⟨_,vs,rfl,au,q2.mono sm⟩
  ·cases ho
   obtain⟨dx,vs,q1,q2,q3⟩:=hc;rw[hw] at q1;cases q1;unfold Is;exact⟨_,dx,vs,rfl,au,q2,q3.mono sm⟩
 refine⟨upd G (oa k) w,sm,r.b5.ON bn ga ma hw,by rw[aaO];exact r.len,r.s0,fun j e hj=>?_,oa,fun j e hj=>?_,fun j l e e' hj hl=>?_⟩
 ·rcases aY hj with ⟨rfl,he,_⟩ | ⟨hn,hj⟩
  ·cases he;exact⟨_,e1,is⟩
  ·obtain⟨v,q1,q2⟩:=r.sh j e hj;exact⟨v,q1,q2.mono sm⟩
 ·rcases aY hj with ⟨rfl,he,_⟩ | ⟨hn,hj⟩
  ·cases he
  ·obtain⟨q1,q2,q3,q4,o2,q5,q6⟩:=h1 j e hj;exact⟨q1,by rw[av fun z=>hn (h2 j k e d hj hk z)];exact q2,q3,q4,o2,q5,q6.mono sm fun x hx=>hx⟩
 ·rcases aY hj with ⟨rfl,he,_⟩ | ⟨_,hj⟩
  ·cases he
  ·rcases aY hl with ⟨rfl,he,_⟩ | ⟨_,hl⟩
   ·cases he
   ·exact h2 j l e e' hj hl
def eg {k:Nat}{q:Dt->Prop} (h:dv ρ k q):∃ d,ρ[k]? = some (.ow d)/\q d:=by
 unfold dv at h;split at h
 ·exact⟨_,by assumption,h⟩
 ·exact h.elim
def Bn {k:Nat}{q:Dt->Prop} (h:pA ρ k q):∃ d,ρ[k]? = some (.sh d)/\q d:=by
 unfold pA at h;split at h
 ·exact⟨_,by assumption,h⟩
 ·exact h.elim
end
section
variable {K:e_}{cl:Cl}{Z:Gm}{c ca cb cc:C}{σ:St}{G H:Hp}{D:Ends}{X:Cx}{st:Stmt}{wq:List Stmt}{sa sb:S}{e a b o tg:Expr}{es:List Expr}{pos p p' apos:Pos}{n:Nat}{fns j7 cls nH:List Str}{pJ:List Nat}{ii:Bool}
def KJ:kL X [] (tS X.K cl Z ii .skip):=ET.imp fun D σ H h=>by
 ext c;exact h3.nx ρ M σ H G (ag.refl G) h1 h2
def O3 (ha:PS X st (tS X.K cl Z ii sa)) (hb:kL X wq (tS X.K cl Z ii sb)):kL X (st::wq) (tS X.K cl Z ii (.seq sa sb)):=(BV ha hb).imp fun D σ H h=>by
 ext c;exact⟨B,ρ,M,G,_,h1,h2,⟨h3.ii,fun ρ' M' σ' H' G' s r q=>⟨B,ρ',M',G',E,r,q,h3.later s⟩,h3.rt,h3.bk,h3.ct,h3.ro⟩⟩
def O4 {k:Nat} (hk:k≠0) (hb:kL X wq (tS X.K cl Z ii sb)):kL X wq (tS X.K cl Z ii (.seq (.eT k) sb)):=hb.imp fun D σ H h=>by
 ext c;obtain⟨d,e,q⟩:=eg (show dv ρ k _ from h2);obtain⟨G',s,r⟩:=h1.eT e hk;exact⟨B,_,M,G',E,r,q,h3.later s⟩
def Hu {k:Nat}{x:Str} (hN:X.N.Nodup) (hi:X.N[k]? = some x) (hx:Loc X.env.scope x) (hf:X.fn x=true) (sH:ii=true->k≠0) (hs:aaI e (some (.Name x p')) pos.line X.env=pure false) (he:PE X e (tp X.K cl Z c)):PS X (.Assign [.Name x p'] e pos) (tS X.K cl Z ii (.set k c)) :=
 (xM hN hi hx he hs (.inl hf)).imp fun D σ H h=>by
  ext c;exact⟨B,ρ,M,G,_,h1,h2,fun d v M' G' H' f i q=>h3.nx _ M' _ H' G' f.g ((h1.on f).Bm (h3.k sH) i) q⟩
def zN {k:Nat} (sH:ii=true->k≠0) (h:tS K cl Z ii (.dw k c) D σ H):tf K cl Z c σ H fun v H1=>D.nx (σ.set k (some v)) H1:=by
 ext c;refine⟨B,ρ,M,G,_,h1,h2,fun ds vs M' G' H' p f hp i q=>h3.nx _ M' _ _ G' f.g ?_ q⟩;have up:ag H' (upd H' p (.lst vs)):=ag.put hp;have f2:bc K cl none G' H' M' G' (upd H' p (.lst vs)) M':=⟨ag.refl _,f.gh.trans up,fun a u h=>⟨u,up a u h⟩,fun a u h n=>absurd h (by rw[n];exact fun z=>nomatch z),fun a u h _ _=>up a u h,fun a u h=>⟨(f.mem a u h).1,(f.mem a u h).2.mono (ag.refl _) fun x hx=>up a x hx⟩,fun a u h n=>absurd h (by rw[n];exact fun z=>nomatch z),fun a u h=>⟨u,h,rfl⟩⟩;exact (h1.on f).O2 (h3.k sH) f2 hp (yp f.gh hp) (wk f.mem hp) (o:=.ml ds) rfl ⟨vs,au,i⟩
def Dm {k:Nat}{x:Str} (hN:X.N.Nodup) (hi:X.N[k]? = some x) (hx:Loc X.env.scope x) (hf:X.fn x=true) (sH:ii=true->k≠0) (hs:aaI e (some (.Name x p')) pos.line X.env=pure false) (he:PE X e (tf X.K cl Z c)):PS X (.Assign [.Name x p'] e pos) (tS X.K cl Z ii (.dw k c)) :=
 (xM hN hi hx he hs (.inl hf)).imp fun D σ H h=>zN sH h
def KL {k q:Nat}{x:Str} (hN:X.N.Nodup) (hi:X.N[k]? = some x) (hx:Loc X.env.scope x) (hf:X.fn x=true) (sH:ii=true->k≠0) (hs:aaI e (some (.Name x p')) pos.line X.env=pure false) (he:PE X e (Te X.K cl Z q c)):PS X (.Assign [.Name x p'] e pos) (tS X.K cl Z ii (.FY k q c)) :=
 (xM hN hi hx he hs (.inl hf)).imp fun D σ H h=>by
  ext c;exact⟨B,ρ,M,G,_,h1,h2,fun fs xs us M2 G2 H2 y dx hR f hy gy my ey l i=>h3.nx _ M2 _ _ G2 f.g (h1.O2 (h3.k sH) f hy gy my (d:=.obj q fs xs) (o:=.mo q fs xs) rfl ⟨dx,us,ey,l,i⟩) hR⟩
def Tq (hs:aaI e none pos.line X.env=pure false) (he:PE X e (tp X.K cl Z c)):PS X (.Expr e pos) (tS X.K cl Z ii (.ex c)):=(kQ he hs).imp fun D σ H h=>by
 ext c;exact⟨B,ρ,M,G,_,h1,h2,fun d v M' G' H' f i q=>h3.nx _ M' _ H' G' f.g (h1.on f) q⟩
def O5 (he:PE X e (tp X.K cl Z c)):PS X (.Return (some e) pos) (tS X.K cl Z ii (.ret c)):=(IP he).imp fun D σ H h=>by
 ext c;exact⟨B,ρ,M,G,_,h1,h2,fun d v M' G' H' f i q=>h3.rt d v ρ M' σ H' G' (h1.on f) i q⟩
def KN:PS X (.Return none pos) (tS X.K cl Z ii .Kd):=EV.imp fun D σ H h=>by
 ext c;exact h3.rt .az .az ρ M σ H G h1 (by unfold Is;rfl) h2
def O6:PS X (.Break pos) (tS X.K cl Z ii .brk):=BW.imp fun D σ H h=>by
 ext c;exact h3.bk ρ M σ H G (ag.refl G) h1 h2
def KO:PS X (.Pass pos) (tS X.K cl Z ii .skip):=EU.imp fun D σ H h=>by
 ext c;exact h3.nx ρ M σ H G (ag.refl G) h1 h2
def zO:PS X st (tS X.K cl Z ii .never):=BX.imp fun D σ H h=>by
 ext c;exact h2
def O7 {t:Expr}{ba bb:List Stmt} (ht:PT X t (tt X.K cl Z c)) (ha:kL X ba (tS X.K cl Z ii sa)) (hb:kL X bb (tS X.K cl Z ii sb)):PS X (.If t ba bb pos) (tS X.K cl Z ii (.ite c sa sb)):=(Mr ht ha hb).imp fun D σ H h=>by
 ext c;refine⟨B,ρ,M,G,fun c M1=>if c=true then ex Z sa ρ M1 E else ex Z sb ρ M1 E,h1,h2,fun c M1 G1 H1 f hk=>?_⟩
 cases c with
 | true=>rw[z_ rfl] at hk ⊢;exact⟨B,ρ,M1,G1,E,h1.on f,hk,h3.later f.g⟩
 | false=>rw[s_ u_] at hk ⊢;exact⟨B,ρ,M1,G1,E,h1.on f,hk,h3.later f.g⟩
def O8 {t:Expr}{bd:List Stmt} (hp:aeR '0' X.A X.env X.xe) (ht:PT X t (tt X.K cl Z c)) (hb:kL X bd (tS X.K cl Z ii sb)):PS X (.While t bd [] pos) (tS X.K cl Z ii (.LZ c sb)):=(B0 hp ht hb).imp fun D σ H h=>by
 ext c;obtain⟨W,⟨m0,w0⟩,turn⟩:=h2;refine⟨fun m σ' H'=>∃ ρ' M' G',ag G G'/\Rep X.K cl B ρ' M' σ' H' G'/\W m ρ' M',⟨m0,ρ,M,G,ag.refl G,h1,w0⟩,?_⟩;rintro m σ' H' ⟨ρ',M',G',s,r,w⟩;refine⟨B,ρ',M',G',_,r,turn m ρ' M' w,fun c M1 G1 H1 f hk=>?_⟩
 cases c with
 | false=>rw[s_ u_] at hk ⊢;exact h3.nx _ _ _ _ G1 (s.trans f.g) (r.on f) hk
 | true =>
  rw[z_ rfl] at hk ⊢;refine⟨fun σ2 H2=>∃ m',m'<m/\∃ ρ2 M2 G2,ag G G2/\Rep X.K cl B ρ2 M2 σ2 H2 G2/\W m' ρ2 M2,fun σ2 H2 z=>z,B,ρ',M1,G1,_,r.on f,hk,⟨h3.ii,?_,h3.rt,?_,?_,h3.ro⟩⟩
  ·rintro ρ2 M2 σ2 H2 G2 s2 r2 ⟨m',hm,w2⟩;exact⟨m',hm,ρ2,M2,G2,(s.trans f.g).trans s2,r2,w2⟩
  ·intro ρ2 M2 σ2 H2 G2 s2 r2 q;exact h3.nx _ _ _ _ G2 ((s.trans f.g).trans s2) r2 q
  ·rintro ρ2 M2 σ2 H2 G2 s2 r2 ⟨m',hm,w2⟩;exact⟨m',hm,ρ2,M2,G2,(s.trans f.g).trans s2,r2,w2⟩
def Dn (K:e_) (cl:Cl) (ii:Bool) (tg:List Nat) (g:TG):Prop:=∀ {B:Bs}{ρ:En}{M:Mem}{σ:St}{H G:Hp}{d:Dt}{x:V}{k:En->Prop}{R:St->Hp->Prop},(ii=false->B.sf=none)->Rep K cl B ρ M σ H G->Is K cl G d x->iX ρ tg d k->(∀ ρ' σ',Rep K cl B ρ' M σ' H G->k ρ'->R σ' H)->g x σ H R
def k_of {B:Bs}{i:Nat} (hi:ii=true->i≠0) (h:ii=false->B.sf=none):i≠0∨B.sf=none:=by
 cases ii with
 | true=>exact .inl (hi rfl)
 | false=>exact .inr (h rfl)
def KP {i:Nat} (hi:ii=true->i≠0):Dn K cl ii [i] (er i):=fun {B ρ M σ H G d x k R} hb r is h q=>q _ _ (r.Bm (k_of hi hb) is) h
def KQ {i j:Nat} (hi:ii=true->i≠0) (hj:ii=true->j≠0):Dn K cl ii [i,j] (BZ K 2 (kR (er i) (kR (er j) BY))):=fun {B ρ M σ H G d x k R} hb r is h q=>by
 cases d with
 | tup ds =>
  match ds,h with
  | [d1,d2],h =>
   unfold Is at is;obtain⟨t,vs,rfl,h1,h2⟩:=is;have l2:=h2.length
   match vs,l2 with
   | [v1,v2],_ =>
    unfold IsL at h2;obtain⟨u1,r1,e1,g1,h2⟩:=h2;cases e1;unfold IsL at h2;obtain⟨u2,r2,e2,g2,h2⟩:=h2;cases e2;exact⟨t,[v1,v2],rfl,eV.of (r.b5.gh _ _ h1),rfl,v1,[v2],rfl,v2,[],rfl,rfl,q _ _ ((r.Bm (k_of hi hb) g1).Bm (k_of hj hb) g2) h⟩
 | _=>exact (show False from h).elim
def Tr (J:It) (g:TG) (tb:TS) (D:Ends) (σ:St) (H:Hp):Prop:=∃ W:Nat->Nat->St->Hp->Prop,(∃ m,W 0 m σ H)/\∀ i m σ H,W i m σ H ->
 (J.stop i H/\D.nx σ H)∨(J.go i H/\∃ N:St->Hp->Prop,(∀ σ' H',N σ' H'->∃ m',m'<m/\W (i+1) m' σ' H')/\∀ x H',J.G0 i H x H'->g x σ H' fun σ2 H2=>tb { D with nx:=N,ct:=N,bk:=D.nx } σ2 H2)
def Gj {EI:List Nat}{g:TG}{B:Bs}{ρ:En}{M M':Mem}{E E0:yn}{G' H':Hp}{J:It}{items:List Dt}{P:Mem->Prop} (Tt:Dn K cl ii EI g) (h1:Rep K cl B ρ M σ H G) (h3:Lk K cl ii B G E0 D) (f:bc K cl none G H M G' H' M') (ok:SX K cl J items P G')
  (hE:E={ E0 with nx:=fun ρ M=>P M/\E0.nx ρ M }) (hl:eY (fun x ρ M E=>P M/\iX ρ EI x fun ρ'=>ex Z sb ρ' M E) E items ρ M'):Tr J g (tS K cl Z ii sb) D σ H':=by
 refine⟨fun i m σ' Hc=>∃ ρc Mc Gc,m=items.length-i/\i<=items.length/\ag G' Gc/\Rep K cl B ρc Mc σ' Hc Gc/\eY (fun x ρ M E=>P M/\iX ρ EI x fun ρ'=>ex Z sb ρ' M E) E (items.drop i) ρc Mc,⟨items.length,ρ,M',G',∅,aal _,ag.refl _,h1.on f,hl⟩,?_⟩;rintro i m σ' Hc ⟨ρc,Mc,Gc,rfl,hi,s,r,hl⟩;by_cases jN:i<items.length
 ·obtain⟨d,ed⟩:∃ d,items[i]? = some d:=⟨_,b_ jN⟩
  have Tg:items.drop i=d::items.drop (i+1):=by
   rw[aay jN];congr 1;have:=b_ jN;rw[this] at ed;exact M_ ed
  rw[Tg] at hl;obtain⟨hP,Vt⟩:P Mc/\iX ρc EI d (fun ρ'=>ex Z sb ρ' Mc { E with nx:=eY (fun x ρ M E=>P M/\iX ρ EI x fun ρ'=>ex Z sb ρ' M E) E (items.drop (i+1)),ct:=eY (fun x ρ M E=>P M/\iX ρ EI x fun ρ'=>ex Z sb ρ' M E) E (items.drop (i+1)),bk:=E.nx }):=hl;obtain⟨OP,_⟩:=ok i Gc Hc Mc s r.b5.gh r.b5.mem hP;refine .inr ⟨(OP jN).1,fun σ2 H2=>∃ ρ2 M2 G2,ag G' G2/\Rep K cl B ρ2 M2 σ2 H2 G2/\eY (fun x ρ M E=>P M/\iX ρ EI x fun ρ'=>ex Z sb ρ' M E) E (items.drop (i+1)) ρ2 M2,fun σ2 H2 z=>?_,fun x Hx hy=>?_⟩
  ·obtain⟨ρ2,M2,G2,s2,r2,l2⟩:=z;exact⟨items.length-(i+1),∅,ρ2,M2,G2,rfl,jN,s2,r2,l2⟩
  obtain⟨d',Gx,OQ,Tj,fx⟩:=(OP jN).2 x Hx hy;rw[ed] at OQ;cases OQ;subst hE;refine Tt h3.ii (r.on fx) Tj Vt fun ρ' σ2 r2 hk=>⟨B,ρ',Mc,Gx,_,r2,hk,⟨h3.ii,?_,h3.rt,?_,?_,h3.ro⟩⟩
  ·intro ρ3 M3 σ3 H3 G3 s3 r3 q;exact⟨ρ3,M3,G3,(s.trans fx.g).trans s3,r3,q⟩
  ·intro ρ3 M3 σ3 H3 G3 s3 r3 q;exact h3.nx _ _ _ _ G3 (f.g.trans ((s.trans fx.g).trans s3)) r3 q.2
  ·intro ρ3 M3 σ3 H3 G3 s3 r3 q;exact⟨ρ3,M3,G3,(s.trans fx.g).trans s3,r3,q⟩
 ·have e:i=items.length:=by lia
  subst e;rw[afW] at hl;subst hE;obtain⟨hP,hl⟩:P Mc/\E0.nx ρc Mc:=hl;exact .inl ⟨(ok _ Gc Hc Mc s r.b5.gh r.b5.mem hP).2 rfl,h3.nx _ _ _ _ Gc (f.g.trans s) r hl⟩
def KR {iter:Expr}{bd:List Stmt}{EI:List Nat}{g:TG} (hp:aeR '0' X.A X.env X.xe) (hc:X.calm=true) (hi:PI X tg iter (lz X.K cl Z c)) (hg:PG X tg g) (Tt:Dn X.K cl ii EI g) (hb:kL X bd (tS X.K cl Z ii sb))
  (hs:∀ x,aaJ iter X.env x=pure x):PS X (.For tg iter bd [] pos) (tS X.K cl Z ii (.bL c EI sb)):=(IZ hp hc hi hg hb hs).imp fun D σ H h=>by
 ext c;refine⟨B,ρ,M,G,_,h1,h2,fun items M' G' H' J f ok hl=>Gj (P:=fun _=>True) (E0:=E) Tt h1 h3 f (fun i G' H M s1 s2 m _=>ok i G' H M s1 s2 m) rfl ?_⟩;simp only[true_and];exact hl
def Hv {k:Nat}{x:Str}{op:t6} (XN:op=.add∨op=.sub) (hN:X.N.Nodup) (hi:X.N[k]? = some x) (hx:Loc X.env.scope x) (hf:X.fn x=true) (sH:ii=true->k≠0) (he:PE X e (tp X.K cl Z c)):PS X (.AugAssign (.Name x p') (NK op) e pos) (tS X.K cl Z ii (.aug k op c)):=by
 have main:∀ {g:Int->Int->Int},QA X (NK op) (RH g)->(∀ i j (R:Dt->Prop),Bh op (.int i) (.int j) R=R (.int (g i j)))->PS X (.AugAssign (.Name x p') (NK op) e pos) (tS X.K cl Z ii (.aug k op c)):=fun {g} hp hg =>
  (IU hN hi hx he hp (.inl hf)).imp fun D σ H h=>by
   ext c;obtain⟨d,e1,q⟩:=Bn (show pA ρ k _ from h2);obtain⟨v,e2,i1⟩:=h1.sh k d e1;refine⟨v,e2,B,ρ,M,G,_,h1,q,fun y vy M' G' H' f i hk=>?_⟩;obtain⟨i0,rfl,XO⟩:=pG (show xJ d _ from hk);obtain⟨j0,rfl,_⟩:=pG XO;change Bh op (.int i0) (.int j0) (fun d=>E.nx (ρ.set k (.sh d)) M') at hk;rw[hg] at hk;unfold Is at i i1;subst i i1;exact⟨i0,j0,rfl,rfl,h3.nx _ M' _ H' G' f.g ((h1.on f).Bm (h3.k sH) (by unfold Is;rfl)) hk⟩
 rcases XN with rfl | rfl
 ·exact main IV fun _ _ _=>rfl
 ·exact main IW fun _ _ _=>rfl
noncomputable def Gk (f:Str) (v:V):List Str->List V->List V
 | [],_=>[v]
 | _::_,[]=>[v]
 | g::fs,u::us=>if g=f then v::us else u::Gk f v fs us
theorem zP {f:Str}{d:Dt}{v:V}:∀ {fs:List Str}{xs:List Dt}{us:List V},fs.length=xs.length->IsL K cl G xs us->Is K cl G d v->gm f v (fs.zip us)=(putD f d fs xs).1.zip (Gk f v fs us)/\(putD f d fs xs).1.length=(putD f d fs xs).2.length/\IsL K cl G (putD f d fs xs).2 (Gk f v fs us)
 | [],[],us,_,h,i=>by unfold IsL at h;subst h;exact⟨rfl,rfl,IsL.cons i IsL.nil⟩
 | [],_::_,_,h,_,_=>by cases h
 | _::_,[],_,h,_,_=>by cases h
 | g::fs,x::xs,us,l,h,i=>by
  unfold IsL at h;obtain⟨u,r,rfl,h1,h2⟩:=h;unfold putD Gk;rw[aa5];unfold gm;by_cases e:g=f
  ·rw[z_ e,z_ e,z_ e];exact⟨rfl,l,IsL.cons i h2⟩
  ·rw[s_ e,s_ e,s_ e];obtain⟨q1,q2,q3⟩:=zP (f:=f) (by simpa using l) h2 i;exact⟨by rw[q1];rfl,by simpa using q2,IsL.cons h1 q3⟩
def mF {d:Dt}{k:Nat->List Str->List Dt->Prop} (h:pE d k):∃ n fs xs,d=.obj n fs xs/\k n fs xs:=by
 cases d with
 | obj n fs xs=>exact⟨n,fs,xs,rfl,h⟩
 | _=>exact (show False from h).elim
def KS {k:Nat}{x f:Str}{px:Pos} (F:∀ n f,Z.at_ n f=true->vm X.K (cl n)/\ez X.K (cl n) f) (hN:X.N[k]? = some x) (hv:BM X.env.scope x) (hd:'2'=false) (l7:(x==("__classdict__" : Str))=false) (hs:aaI e (some (.Attribute (.Name x px) f p')) pos.line X.env=pure false) (he:PE X e (tp X.K cl Z c)) :
  PS X (.Assign [.Attribute (.Name x px) f p'] e pos) (tS X.K cl Z ii (.fZ k f c)):=(Jr (l6 hN hv hd l7) he hs).imp fun D σ H h=>by
 ext c;refine⟨B,ρ,M,G,_,h1,h2,fun d v M' G' H' f i hk=>?_⟩;obtain⟨dd,e1,Dk⟩:=eg hk;obtain⟨n,fs,xs,rfl,g1,g2,g3⟩:=mF Dk;have r:=h1.on f;obtain⟨oa,o1,_⟩:=r.ow;obtain⟨s1,_,_,_,o,ho,hc⟩:=o1 k _ e1
 cases ho
 obtain⟨dx,us,s2,s3,s4⟩:=hc;obtain⟨z1,z2,z3⟩:=zP s3 s4 i;refine⟨_,s1,oa k,_,dx,_,rfl,s2,(F n _ g1).1,(F n _ g1).2,?_,?_⟩
 ·rw[aeo];lia
 ·obtain⟨a,o,t1,t2,t3,_,_,t4⟩:=r.chg (d':=.obj n (putD _ d fs xs).1 (putD _ d fs xs).2) (o':=.mo n (putD _ d fs xs).1 (putD _ d fs xs).2) (u:=.ins (cl n) dx (gm _ v (fs.zip us))) e1;have ea:oa k=a:=by rw[s1] at t1;cases t1;rfl
  rw[ea];exact h3.nx _ M' σ _ G' f.g (t4 rfl fun H2 e2=>⟨dx,_,by rw[e2,z1],z2,z3⟩) g3
def KU (hs:noStar b=true):((aaV pos (S_ [b] X.env)).all (fun x => !x.1)&&(adp pos (ab1 [] X.env)).all (fun x=>x.1.isSome)&&decide (([b]:List Expr).length+([]:List acW).length+(if ([]:List acW).isEmpty then 0 else 1)<30))=true:=by
 rw[lB (by simp [hs])];rfl
def Dp {k:Nat}{ds:List Dt}{B:Bs}{ρ:En}{M:Mem}{E:yn} (h1:Rep K cl B ρ M σ H G) (e1:ρ[k]? = some (.ow (.lst ds))):∃ a,σ[k]? = some (some (.ref a))/\RY K "list" (.ref a) H/\∀ {M':Mem}{G' H':Hp} (f:bc K cl none G H M G' H' M') {es:List Dt}{us:List V},IsL K cl G' es us ->
  ∃ vs,H' a=some (.lst vs)/\vs.length=ds.length/\Rep K cl B (ρ.set k (.ow (.lst (ds++es)))) M' σ (upd H' a (.lst (vs++us))) G':=by
 obtain⟨oa,o1,_⟩:=h1.ow;obtain⟨s1,q1,q2,q3,o,ho,hc⟩:=o1 k _ e1
 cases ho
 obtain⟨QW,s2,s3⟩:=hc;refine⟨oa k,s1,.inl ⟨rfl,QW,cE.of s2⟩,fun {M' G' H'} f {es us} is=>?_⟩;have r:=h1.on f;obtain⟨Zd,Ze,_⟩:=r.ow;obtain⟨a,o,t1,t2,t3,_,_,t4⟩:=r.chg (d':=.lst (ds++es)) (o':=.ml (ds++es)) (u:=.lst (QW++us)) e1;have ea:oa k=a:=by rw[s1] at t1;cases t1;rfl
 rw[ea];have h0:H' a=some (.lst QW):=by rw[<-ea];exact f.h _ _ s2 q2 (6)
 exact⟨QW,h0,s3.length.symm,t4 rfl fun H2 e2=>⟨_,e2,(s3.mono f.g).append is⟩⟩
def O9 {k:Nat}{x:Str}{px bK:Pos} (hN:X.N[k]? = some x) (hv:BM X.env.scope x) (hd:'2'=false) (l7:(x==("__classdict__" : Str))=false) (hb:PE X b (tp X.K cl Z c)) (hs:noStar b=true) (bQ:(apos.endLine==bK.line)=true) :
  PS X (.Expr (.Call (.Attribute (.Name x px) "append" apos) [b] [] bK) pos) (tS X.K cl Z ii (.app k c)) :=
 (kQ (Cj acB acM adP r6 (l6 hN hv hd l7) (aA hb bg (af hs)) rfl (KU hs) bQ (af hs) rfl)).imp fun D σ H h=>by
  ext c;obtain⟨l,e1,q⟩:=eg (show dv ρ k _ from h2);obtain⟨ds,rfl,q2⟩:=f6 q;obtain⟨a,s1,ty,go⟩:=Dp (E:=E) h1 e1;refine⟨_,s1,ty,B,ρ,M,G,_,h1,q2,fun d v M' G' H' f i hk=>?_⟩;obtain⟨vs,g1,g2,g3⟩:=go f (IsL.cons i IsL.nil);exact⟨a,vs,v,rfl,rfl,g1,by rw[g2];exact hk.1,h3.nx _ M' σ _ G' f.g g3 hk.2⟩
def Pa {k:Nat}{x:Str}{px bK:Pos} (hN:X.N[k]? = some x) (hv:BM X.env.scope x) (hd:'2'=false) (l7:(x==("__classdict__" : Str))=false) (hb:PE X b (tp X.K cl Z c)) (hs:noStar b=true) (bQ:(apos.endLine==bK.line)=true) :
  PS X (.Expr (.Call (.Attribute (.Name x px) "extend" apos) [b] [] bK) pos) (tS X.K cl Z ii (.ext k c)) :=
 (kQ (Cj acB aew PySem.F.type_list_extend AN (l6 hN hv hd l7) (aA hb bg (af hs)) rfl (KU hs) bQ (af hs) rfl)).imp fun D σ H h=>by
  ext c;obtain⟨l,e1,q⟩:=eg (show dv ρ k _ from h2);obtain⟨ds,rfl,q2⟩:=f6 q;obtain⟨a,s1,ty,go⟩:=Dp (E:=E) h1 e1;refine⟨_,s1,ty,B,ρ,M,G,_,h1,q2,fun d v M' G' H' f i hk=>?_⟩;obtain⟨es,rfl,Dk⟩:=f6 hk;unfold Is at i;obtain⟨a2,us,rfl,i1,i2⟩:=i;obtain⟨vs,g1,g2,g3⟩:=go f i2;exact⟨a,a2,vs,us,rfl,rfl,g1,f.gh _ _ i1,by rw[g2,<-i2.length];exact Dk.1,h3.nx _ M' σ _ G' f.g g3 Dk.2⟩
def Rep.Pb {B:Bs}{ρ:En}{M:Mem}{q:Addr}{u:HO}{m m':MO} (r:Rep K cl B ρ M σ H G) (hm:M q=some m) (hk:zG m'=zG m) (hc:∀ H',H' q=some u->cj K cl G H' q m'):Rep K cl B ρ (cD M q m') σ (upd H q u) G:=by
 obtain⟨gq,cq⟩:=r.b5.mem q m hm;obtain⟨w,hw⟩:=cq.lr;have ne:∀ b v,H b=some v->b≠q->(upd H q u) b=some v:=fun b v hb hn=>by rw[av hn];exact hb
 have gn:∀ b v,G b=some v->b≠q:=fun b v hb z=>by rw[z,gq] at hb;cases hb
 have Pc:∀ b v,(cD M q m') b=some v->(b=q/\v=m')∨(b≠q/\M b=some v):=fun b v hb=>by
  unfold cD at hb;by_cases z:b=q
  ·rw[z_ z] at hb;exact .inl ⟨z,(M_ hb).symm⟩
  ·rw[s_ z] at hb;exact .inr ⟨z,hb⟩
 obtain⟨oa,h1,h2⟩:=r.ow;refine⟨⟨r.b5.g,fun b v hb=>ne b v (r.b5.gh b v hb) (gn b v hb),fun b v hb=>?_,r.b5.gf,fun b v hb Vw hs=>ne b v (r.b5.h b v hb Vw hs) fun z=>?_,fun b v hb=>?_,fun b v hb hn=>?_,fun b v hb=>?_⟩,r.len,r.s0,r.sh,oa,fun i d hi=>?_,h2⟩
 ·obtain⟨v',hv⟩:=r.b5.lr b v hb;by_cases z:b=q
  ·rw[z];exact⟨u,au⟩
  ·exact⟨v',ne b v' hv z⟩
 ·subst z;exact absurd (r.b5.mf b m hm Vw) (by rw[hb];exact fun z=>nomatch z)
 ·rcases Pc b v hb with ⟨rfl,rfl⟩ | ⟨hn,hb⟩
  ·exact⟨gq,hc _ au⟩
  ·exact⟨(r.b5.mem b v hb).1,(r.b5.mem b v hb).2.mono (ag.refl G) fun x hx=>ne b x hx hn⟩
 ·rcases Pc b v hb with ⟨rfl,rfl⟩ | ⟨_,hb⟩
  ·exact r.b5.mf b m hm hn
  ·exact r.b5.mf b v hb hn
 ·obtain⟨o',e1,e2⟩:=r.b5.ke b v hb;by_cases z:b=q
  ·subst z;rw[hm] at e1;cases e1;exact⟨m',by unfold cD;rw[z_ rfl],hk.trans e2⟩
  ·exact⟨o',by unfold cD;rw[s_ z];exact e1,e2⟩
 ·obtain⟨q1,q2,q3,q4,o2,q5,q6⟩:=h1 i d hi;have hn:oa i≠q:=fun z=>by rw[z,hm] at q3;cases q3
  refine⟨q1,q2,?_,q4,o2,q5,q6.mono (ag.refl G) fun x hx=>ne _ x hx hn⟩;unfold cD;rw[s_ hn];exact q3
def wu {M:Mem}{d:Dt}{k:Addr->List Dt->Prop} (h:FV M d k):∃ q ds,d=.j3 q/\M q=some (.ml ds)/\k q ds:=by
 cases d with
 | j3 q =>
  change (match M q with | some (.ml ds)=>k q ds | _=>False) at h
  cases e:M q with
  | none=>rw[e] at h;exact h.elim
  | some m =>
   rw[e] at h
   cases m with
   | ml ds=>exact⟨q,ds,rfl,e,h⟩
   | mo _ _ _=>exact h.elim
   | md _=>exact h.elim
 | _=>exact (show False from h).elim
def Pd {bK:Pos} (ha:PE X a '4') (hb:PE X b (tp X.K cl Z cb)) (oO:dD a=true) (hs:noStar b=true) (bQ:(apos.endLine==bK.line)=true) :
  PS X (.Expr (.Call (.Attribute a "append" apos) [b] [] bK) pos) (tS X.K cl Z ii (.QT ca cb)) :=
 (kQ (Cj acB acM adP r6 ha (aA hb bg (af hs)) (gu oO) (KU hs) bQ (af hs) rfl)).imp fun D σ H h=>by
  ext c;ext b;obtain⟨q,ds,rfl,hm,hy⟩:=wu hx;unfold Is at i1;subst i1;obtain⟨vs,hv,_⟩:=(f1.mem q _ hm).2;refine⟨.inl ⟨rfl,vs,cE.of hv⟩,B,ρ,M1,G1,_,h1.on f1,hy,fun y vy M2 G2 H2 f2 i2 hk=>?_⟩;obtain⟨q',XQ,e,zK,Dk⟩:=wu (show FV M2 (.j3 q) (fun p ds=>ds.length<sizeLine/\E.nx ρ (cD M2 p (.ml (ds++[y])))) from hk)
  cases e
  obtain⟨Vx,XR,Vy⟩:=(f2.mem q _ zK).2;have r:=(h1.on f1).on f2;exact⟨q,Vx,vy,rfl,rfl,XR,by rw[<-Vy.length];exact Dk.1,h3.nx _ _ σ _ G2 (f1.g.trans f2.g) (r.Pb (m':=.ml (XQ++[y])) (u:=.lst (Vx++[vy])) zK rfl fun H' e=>⟨_,e,Vy.append (IsL.cons i2 IsL.nil)⟩) Dk.2⟩
def Pf {k:Expr}{ck:C}{pos':Pos} (hw:cl.w=X.w) (hu:X.A.units+66<cLine) (ha:PE X a '4') (hk:PE X k (tp X.K cl Z ck)) (hb:PE X b (tp X.K cl Z cb)) (hs:aaI b (some (.Subscript a k pos')) pos.line X.env=pure false) :
  PS X (.Assign [.Subscript a k pos'] b pos) (tS X.K cl Z ii (.SW ca ck cb)):=(Gi hw hu ha hk hb hs).imp fun D σ H h=>by
  ext c;refine⟨B,ρ,M,G,_,h1,h2,fun z vz M1 G1 H1 f1 i1 hz=>⟨B,ρ,M1,G1,_,h1.on f1,hz,fun x vx M2 G2 H2 f2 i2 hx=>⟨B,ρ,M2,G2,_,(h1.on f1).on f2,hx,fun y vy M3 G3 H3 f3 i3 hy=>?_⟩⟩⟩;obtain⟨ps,e1,e2,hy⟩:=hy;obtain⟨q,kvs,rfl,hm,hg,hl,hR⟩:=pK hy;unfold Is at i2;subst i2;have da:=(f3.mem q _ hm).2;obtain⟨_,_,xs,ex,_⟩:=(show nj X.K cl G3 H3 q kvs from da);have r:=((h1.on f1).on f2).on f3;exact⟨G3,q,kvs,ps,z,xs,rfl,f3.gh,da,ex,e2,i3.dat (ag.refl G3) e1,hg,hl,(i1.mono f2.g).mono f3.g,fun u hc=>h3.nx _ _ σ _ G3 ((f1.g.trans f2.g).trans f3.g) (r.Pb (m':=.md (kvs++[(aav ps,z)])) (u:=u) hm rfl fun H' e=>(show nj X.K cl G3 H' q (kvs++[(aav ps,z)]) from hc H' e)) hR⟩
def Rep.Ph {B:Bs}{ρ:En}{M M2:Mem}{d d':Dt}{a:Addr}{G2 H2:Hp}{m':MO} (r:Rep K cl B ρ M σ H G) (h0:ρ[(0:Nat)]? = some (.ow d)) (ha:σ[(0:Nat)]? = some (some (.ref a))) (f:bc K cl (some a) G H M G2 H2 M2) (ga:G2 a=none) (ma:M2 a=none) (hd:J9 d'=some m') (hc:cj K cl G2 H2 a m') :
  Rep K cl B (ρ.set 0 (.ow d')) M2 σ H2 G2:=by
 obtain⟨oa,h1,h2⟩:=r.ow;obtain⟨e1,_,m1,ba,o,_,c1⟩:=h1 0 d h0;have ea:oa 0=a:=by rw[ha] at e1;cases e1;rfl
 rw[ea] at ba m1 c1;obtain⟨w,hw⟩:=c1.lr
 have bne:∀ b v,B.H b=some v->B.sf≠some b->b≠a:=fun b v hb hs z=>by
  subst z;rcases ba with ba | ⟨ba,_⟩
  ·rw[ba] at hb;cases hb
  ·exact hs ba
 refine⟨⟨r.b5.g.trans f.g,f.gh,fun b v hb=>let ⟨v',hv⟩:=r.b5.lr b v hb;f.lr b v' hv,fun b v hb hn=>?_,fun b v hb hm hs=>?_,f.mem,fun b v hb hn=>?_,fun b v hb=>?_⟩,by rw[aaO];exact r.len,r.s0,fun j e hj=>?_,oa,fun j e hj=>?_,fun j l e e' hj hl=>?_⟩
 ·cases q:G b with
  | none=>exact bB r.b5.lr (f.gf b v hb q)
  | some u=>exact r.b5.gf b u q hn
 ·have LR:=r.b5.h b v hb hm hs
  cases q:M b with
  | none=>exact f.h b v LR q fun z=>bne b v hb hs (M_ z).symm
  | some u=>exact absurd (r.b5.mf b u q hm) (by rw[hb];exact fun z=>nomatch z)
 ·cases q:M b with
  | none=>exact bB r.b5.lr (f.mf b v hb q)
  | some u=>exact r.b5.mf b u q hn
 ·obtain⟨o',e1,e2⟩:=r.b5.ke b v hb;obtain⟨o2,e3,e4⟩:=f.ke b o' e1;exact⟨o2,e3,e4.trans e2⟩
 ·rcases aY hj with ⟨rfl,he,_⟩ | ⟨hn,hj⟩
  ·cases he
  ·obtain⟨v,q1,q2⟩:=r.sh j e hj;exact⟨v,q1,q2.mono f.g⟩
 ·rcases aY hj with ⟨rfl,he,_⟩ | ⟨hn,hj⟩
  ·cases he
   exact⟨by rw[ea];exact ha,by rw[ea];exact ga,by rw[ea];exact ma,by rw[ea];exact ba,m',hd,by rw[ea];exact hc⟩
  ·obtain⟨q1,q2,q3,q4,o2,q5,q6⟩:=h1 j e hj;have XS:oa j≠a:=fun z=>hn (h2 j 0 e d hj h0 (z.trans ea.symm))
   obtain⟨u,hu⟩:=q6.lr;refine⟨q1,?_,?_,q4,o2,q5,q6.mono f.g fun x hx=>f.h _ x hx q3 fun z=>XS (M_ z).symm⟩
   ·cases q:G2 (oa j) with
    | none=>rfl
    | some w=>exact absurd (f.gf _ w q q2) (by rw[hu];exact fun z=>nomatch z)
   ·cases q:M2 (oa j) with
    | none=>rfl
    | some w=>exact absurd (f.mf _ w q q3) (by rw[hu];exact fun z=>nomatch z)
 ·have back:∀ {j:Nat}{e:Dt},(ρ.set 0 (.ow d'))[j]? = some (Sl.ow e)->∃ e0,ρ[j]? = some (Sl.ow e0):=fun {j e} hj=>by
   rcases aY hj with ⟨rfl,_,_⟩ | ⟨_,hj⟩
   ·exact⟨d,h0⟩
   ·exact⟨e,hj⟩
  obtain⟨e0,To⟩:=back hj;obtain⟨l0,Tp⟩:=back hl;exact h2 j l e0 l0 To Tp
def Pj {q:Nat}{x sx:Str}{px QX bK:Pos} (F:Fx Z cl X.prog X.w X.K X.mg X.base n fns j7 cls nH pJ) (hr:cg n X.A) (hx:cls[q]? = some x) (hq:pJ.contains q=true) (hg:Gl X x) (m4:'2'=false)
  (hN:X.N[(0:Nat)]? = some sx) (hv:BM X.env.scope sx) (hd:(sx==("__debug__" : Str))=false) (l7:(sx==("__classdict__" : Str))=false) (ha:PA X es (ta X.K cl Z ca)) (hs:es.all noStar=true) (hl:es.length<20) (bQ:(apos.endLine==bK.line)=true) :
  PS X (.Expr (.Call (.Attribute (.Name x px) "__init__" apos) (.Name sx QX::es) [] bK) pos) (tS X.K cl Z ii (.bp q ca)):=by
 obtain⟨f,fd,ps,c1,c2,c3⟩:=F.cm q hq;have AR:(Expr.Name sx QX::es).all noStar=true:=by rw[ZX,hs];rfl
 refine (kQ (Fp hg (F.kl q x hx m4).1 c1 c2 hr c3 .nil vv (aA (l6 hN hv hd l7) ha (af rfl)) m4 (af rfl) (eF hs) (uh rfl AR (by rw[x_];lia) bQ))).imp fun D σ H h=>?_
 ext c;obtain⟨d,e0,q0⟩:=eg (show dv ρ 0 _ from h2);obtain⟨k,fs,xs,rfl,q1⟩:=mF q0;obtain⟨oa,o1,_⟩:=h1.ow;obtain⟨s1,g1,m1,_,o,ho,hc⟩:=o1 0 _ e0
 cases ho
 refine⟨_,s1,B,ρ,M,G,_,h1,q1,fun ds vs M' G' H' f i hk=>?_⟩;have r:=h1.on f;obtain⟨dx,us,t1,t2,t3⟩:=hc;have XT:H' (oa 0)=some (.ins (cl k) dx (fs.zip us)):=f.h _ _ t1 m1 (6)
 have ga:G' (oa 0)=none:=by
  cases z:G' (oa 0) with
  | none=>rfl
  | some w=>exact absurd (f.gf _ w z g1) (by rw[t1];exact fun z=>nomatch z)
 have ma:M' (oa 0)=none:=by
  cases z:M' (oa 0) with
  | none=>rfl
  | some w=>exact absurd (f.mf _ w z m1) (by rw[t1];exact fun z=>nomatch z)
 dsimp only;rw[ZU];refine⟨G',M',oa 0,k,fs,xs,dx,us,vs,ds,_,rfl,XT,t2,t3.mono f.g,ga,ma,f.gh,f.mem,i,hk,fun fR vb Fw KD M2 G2 H2 Dk f2 z1 z2 z3 z4 z5=>?_⟩;exact h3.nx _ M2 σ H2 G2 (f.g.trans f2.g) (r.Ph e0 s1 f2 z1 z2 (d':=.obj k fR vb) (m':=.mo k fR vb) rfl ⟨KD,Fw,z3,z4,z5⟩) Dk
def Gn {ci ct ce:C}{k w:Nat}{ix:List Nat}{own b0:List Str}{scope:Scope}{y:Str}{py AS:Pos}{iter elt:Expr}{ifs:List Expr}{g:TG} (hw:own.length=w)
  (Vz:∀ {d:Dt}{ρ:En}{q:En->Prop}{x:V}{σ':St}{mD:St}{Gc Hc:Hp}{R:St->Hp->Prop},CZ ρ w ix d q->Is X.K cl Gc d x->ag Gc Hc->(∃ pre:St,pre.length=w/\σ'=pre++mD) ->
   (∀ ds vs,IsL X.K cl Gc ds vs->ds.length=w->q (ds.map Sl.sh++ix.map (iV ρ))->R (vs.map some++mD) Hc)->g x σ' Hc R)
  (hc:X.calm=true) (hN:X.N.Nodup) (hy:X.N[k]? = some y) (hx:Loc X.env.scope y) (hf:X.fn y=true) (sH:ii=true->k≠0) (S:bx X.N X.env.scope scope own b0 ix) (hi:PI X tg iter (lz X.K cl Z ci))
  (hb:∀ (C:Addr) (s₀:j_) (H₀:Hp) (ex:List Addr) (pn:List (Addr×Obj)),PG '6' tg g/\x9 '6' ifs (tt X.K cl Z ct)/\PE '6' elt (tp X.K cl Z ce))
  (Sk:aaI '8' (some (.Name y py)) AS.line X.env=pure true) (hs:∀ x,aaJ iter X.env x=pure x) :
  PS X (.Assign [.Name y py] '8' AS) (tS X.K cl Z ii (.dw k (.comp ci w ix ct ce)))/\PS X (.Assign [.Name y py] '8' AS) (tS X.K cl Z ii (.set k (.fr (.comp ci w ix ct ce)))):=by
 have base:=Fl hc hN hy hx S hi hb Sk hs (.inl hf);refine⟨base.imp fun D σ H h=>uk hw Vz (zN sH h),base.imp fun D σ H h=>uk hw Vz ?_⟩;ext c;exact Hj ⟨B,ρ,M,G,fun x M1=>aM x fun d=>E.nx (ρ.set k (.sh d)) M1,h1,h2,fun d v M' G' H' f i q=>h3.nx _ M' _ H' G' f.g ((h1.on f).Bm (h3.k sH) i) q⟩
end
structure Tb where
 fns:List Str
 j7:List Str
 cls:List Str
 nH:List Str
 pJ:List Nat
inductive Md where | E | P | Q | F | T | W | A | O | I
inductive Ax where | e (x:Expr) | es (x:List Expr) | oe (x:m_ Expr) | it (tg x:Expr)
noncomputable def Gp:List Str:=["len","list","tuple","all","any","int","min","max","dict","isinstance","range","enumerate","zip","reversed","bool","str","set"]
structure Bk where
 N:List Str
 sc:Scope
noncomputable def Bk.lk (b:Bk) (x:Str):m_ aaR:=b.sc.names.lookup x
noncomputable def Bk.gl (b:Bk) (x:Str):Bool:=decide (b.lk x=some .globalImplicit)
noncomputable def Bk.LK (b:Bk) (x:Str):Bool:=decide (b.lk x=some .local∨b.lk x=some .cell∨b.lk x=some .free)
noncomputable def Bk.bt (b:Bk) (x:Str):Bool:=b.gl x&&Gp.contains x
noncomputable def okN (x:Str):Bool := ! '2' && !(x==("__classdict__" : Str))
noncomputable def Bk.at_ (b:Bk) (k:Nat) (x:Str):Bool:=decide (b.N[k]? = some x)&&b.LK x&&okN x
noncomputable def plainT:Expr->Bool
 | .UnaryOp .Not _ _=>false
 | .BoolOp _ _ _=>false
 | .IfExp _ _ _ _=>false
 | .Compare _ _ _ _=>false
 | _=>true
noncomputable def zQ (b:Bk) (scope:Scope) (own:List Str) (ix:List Nat):Bool :=
 let b0:=ix.map fun i=>b.N.getD i abd
 decide (scope.kind=.function)&&scope.names.all (fun y=>decide (y.2=.cell->scope.names.lookup y.1=some .cell))&&scope.names.all (fun y=>decide (y.2=.local->scope.names.lookup y.1=some .local))&&scope.names.all (fun y=>decide (y.2=.free->y.1∈b0)) &&
  own.all (fun x=>decide (scope.names.lookup x=some .local∨scope.names.lookup x=some .cell))&&b0.all (fun x=>decide (scope.names.lookup x=some .free))&&b0.all (fun x=>decide (b.lk x=some .cell∨b.lk x=some .free))&&ix.all (fun i=>decide (i<b.N.length))&&decide (own++b0).Nodup
noncomputable def uq:Expr->Bool
 | .Set _ _ _=>false
 | _=>true
noncomputable def Dq (a p:Pos):Bool:=a.endLine==p.line
noncomputable def isTup:Expr->Bool
 | .Tuple _ _ _=>true
 | _=>false
noncomputable def Bk.loc (b:Bk) (k:Nat) (x:Str):Bool:=decide (b.N[k]? = some x)&&decide (b.lk x=some .local∨b.lk x=some .cell)
noncomputable def j8:Expr->Bool
 | .ListComp _ _ _ _=>false
 | .SetComp _ _ _ _=>false
 | .DictComp _ _ _ _ _=>false
 | _=>true
noncomputable def QY (b:Bk) (x:Str) (p:Pos) (v:Expr):Bool:=match v with
 | .ListComp _ _ s q=>b.lk x==some .local&&p.line==q.line && !(s.names.any fun (n,k)=>n==x&&(k==.local||k==.cell))
 | _=>false
noncomputable def Tv:Expr->Bool
 | .ListComp _ _ _ _=>true
 | _=>false
def ff {P:Prop} (h:false=true):P:=nomatch h
def ay {a b:Bool} (h:(a&&b)=true):a=true/\b=true:=by rwa [v_] at h
structure GC (T:Tb) (Z:Gm) (cl:Cl) (n:Nat) (X:Cx) (b:Bk):Prop where
 hN:X.N=b.N
 calm:X.calm=true
 loc:∀ x,b.lk x=some .local->X.env.scope.names.lookup x=some .local
 KW:∀ x,b.lk x=some .cell->X.env.scope.names.lookup x=some .cell
 L3:∀ x,b.lk x=some .free->X.env.scope.names.lookup x=some .free∨X.env.scope.names.lookup x=some .cell
 Pk:∀ x,b.lk x=some .globalImplicit->Gl X x
 room:cg n X.A
 F:Fx Z cl X.prog X.w X.K X.mg X.base n T.fns T.j7 T.cls T.nH T.pJ
 bt:∀ x∈Gp,X.mg x=none
def Gs (X:Cx) (cl:Cl) (Z:Gm) (c:C):Md->Ax->Prop
 | .E,.e e=>PE X e (tp X.K cl Z c)
 | .P,.e e=>PE X e (tr X.K cl Z c)
 | .Q,.e e=>PE X e (tq X.K cl Z c)
 | .F,.e e=>PE X e (tf X.K cl Z c)
 | .T,.e e=>PT X e (tt X.K cl Z c)
 | .W,.e e=>PW X e (tt X.K cl Z c)
 | .A,.es es=>PA X es (ta X.K cl Z c)
 | .O,.oe o=>PO X o (to X.K cl Z c)
 | .I,.it tg e=>PI X tg e (lz X.K cl Z c)
 | _,_=>True
section
variable {T:Tb}{Z:Gm}{cl:Cl}{n:Nat}{X:Cx}{b:Bk}{c:C}{m:Md}{e:Expr}
def j9 {env:Env} (h:plainT e=true):∀ whole,aex e env whole=(do let v <-whole;aeQ e.pos;adx [v] (truthy v)):=fun whole=>by
 cases e with
 | UnaryOp op x p=>cases op<;>first | rfl | cases h
 | BoolOp _ _ _=>cases h
 | IfExp _ _ _ _=>cases h
 | Compare _ _ _ _=>cases h
 | _=>rfl
theorem GC.gl (g:GC T Z cl n X b) {x:Str} (h:b.gl x=true):Gl X x:=g.Pk x (l_ h)
def GC.bl (g:GC T Z cl n X b) {x:Str} (h:b.bt x=true):Gl X x/\X.mg x=none:=⟨g.gl (ay h).1,g.bt x (abV.mp (ay h).2)⟩
theorem GC.LK (g:GC T Z cl n X b) {x:Str} (h:b.LK x=true):BM X.env.scope x:=by
 rcases l_ h with h | h | h
 ·exact .inl (g.loc x h)
 ·exact .inr (.inl (g.KW x h))
 ·rcases g.L3 x h with q | q
  ·exact .inr (.inr q)
  ·exact .inr (.inl q)
def ka {x:Str} (h:okN x=true):'2'=false/\(x==("__classdict__" : Str))=false:=by
 obtain⟨h1,h2⟩:=ay h;exact⟨by simpa using h1,by simpa using h2⟩
def GC.nm (g:GC T Z cl n X b) {k:Nat}{x:Str} (h:b.at_ k x=true):X.N[k]? = some x/\BM X.env.scope x/\'2'=false/\(x==("__classdict__" : Str))=false:=by
 obtain⟨h1,h3⟩:=ay h;obtain⟨h1,h2⟩:=ay h1;exact⟨by rw[g.hN];exact l_ h1,g.LK h2,ka h3⟩
def GC.hu (g:GC T Z cl n X b):X.A.units+64<cLine:=g.room.units
def GC.L4 (g:GC T Z cl n X b):X.A.units+66<cLine:=by have:=g.room.un;lia
def Pl {scope:Scope}{own:List Str}{ix:List Nat} (g:GC T Z cl n X b) (h:zQ b scope own ix=true):bx X.N X.env.scope scope own (ix.map fun i=>b.N.getD i abd) ix:=by
 unfold zQ at h;obtain⟨h,h9⟩:=ay h;obtain⟨h,h8⟩:=ay h;obtain⟨h,h7⟩:=ay h;obtain⟨h,h6⟩:=ay h;obtain⟨h,h5⟩:=ay h;obtain⟨h,h4⟩:=ay h;obtain⟨h,h3⟩:=ay h;obtain⟨h1,h2⟩:=ay h;rw[Zn] at h2 h3 h4 h5 h6 h7 h8;refine⟨l_ h1,fun y hy=>l_ (h2 y hy),fun y hy=>l_ (h3 y hy),fun y hy=>l_ (h4 y hy),fun x hx=>(l_ (h5 x hx):_∨_),fun x hx=>l_ (h6 x hx),fun x hx=>?_,?_,l_ h9⟩
 ·rcases l_ (h7 x hx) with q | q
  ·exact .inl (g.KW x q)
  ·exact (g.L3 x q).symm
 ·rw[g.hN,G_];refine Zs fun i hi=>?_
  have:=l_ (h8 i hi);show b.N[i]? = some (b.N.getD i abd);rw[B_,b_ this];rfl
theorem GC.comp {scope:Scope}{own b0:List Str}{C:Addr}{s₀:j_}{H₀:Hp}{ex:List Addr}{pn:List (Addr×Obj)} (g:GC T Z cl n X b):GC T Z cl n '6' ⟨own++b0,scope⟩ where
 hN:=rfl
 calm:=g.calm
 loc:=fun x h=>by rcases bo (env:=X.env) h with q | ⟨q,_⟩;exact q;cases q
 KW:=fun x h=>by rcases bo (env:=X.env) h with q | ⟨q,_⟩;exact q;cases q
 L3:=fun x h=>by rcases bo (env:=X.env) h with q | ⟨_,q⟩;exact .inl q;exact .inr q
 Pk:=fun x h=>by rcases bo (env:=X.env) h with q | ⟨q,_⟩;exact q;cases q
 room:=g.room
 F:=g.F
 bt:=g.bt
end
noncomputable abbrev Rc:=Md->Bk->Ax->C
def gd (t:Bool) (c:C):C:=match t with | true=>c | false=>.nev
def bi (t:Bool) (c d:C):C:=match t with | true=>c | false=>d
def sw:List (Str×C)->Str->C->C
 | [],_,d=>d
 | (y,c)::r,x,d=>bi (decide (x=y)) c (sw r x d)
noncomputable def key (p:Pos):Nat:=(p.line*1000+p.col)*1000+p.endCol
structure Tx where
 T:Tb
 an:List (Nat×Nat)
noncomputable def Tx.a (t:Tx) (p:Pos):Nat:=(t.an.lookup (key p)).getD 0
def QZ (b:Bk) (x:Str) (f:Nat->C):C:=gd (b.at_ (b.N.idxOf x) x) (f (b.N.idxOf x))
def l1 (es:List Expr) (k:Expr->C):C:=match es with | [a]=>gd (noStar a) (k a) | _=>.nev
def l2 (es:List Expr) (k:Expr->Expr->C):C:=match es with | [a,c]=>gd (noStar a&&noStar c) (k a c) | _=>.nev
def vC (e:Expr) (d:C) (k:Str->List Expr->C):C:=match e with | .Call f es ks _=>(match f with | .Name y _=>(match ks with | []=>k y es | _::_=>d) | _=>d) | _=>d
def kC:Const->C
 | .int n=>.i n
 | .str x=>.s x
 | .bool x=>.b x
 | .none=>.n
 | _=>.nev
def VA (a c:C):adi->C
 | .Add=>.bin .add a c
 | .Sub=>.bin .sub a c
 | .Mult=>.bin .mul a c
 | .FloorDiv=>.bin .fdiv a c
 | .Mod=>.bin .mod a c
 | .Pow=>.bin .pow a c
 | .RShift=>.bin .shr a c
 | _=>.nev
section
variable (t:Tx) (rc:Rc) (b:Bk)
def VB (l r:Expr) (n:Nat):CmpOp->C
 | .Lt=>.cmp .lt (rc .E b (.e l)) (rc .E b (.e r))
 | .LtE=>.cmp .le (rc .E b (.e l)) (rc .E b (.e r))
 | .Gt=>.cmp .gt (rc .E b (.e l)) (rc .E b (.e r))
 | .GtE=>.cmp .ge (rc .E b (.e l)) (rc .E b (.e r))
 | .Is=>.cmp .FR (rc .E b (.e l)) (rc .E b (.e r))
 | .IsNot=>.cmp .wa (rc .E b (.e l)) (rc .E b (.e r))
 | .Eq=>.eq false (rc .P b (.e l)) (rc .Q b (.e r))
 | .NotEq=>.eq true (rc .P b (.e l)) (rc .Q b (.e r))
 | .In=>gd (iB r) (match n with | 0=>.inn false (rc .P b (.e l)) (rc .Q b (.e r)) | 1=>.ins (rc .E b (.e l)) (rc .E b (.e r)) | _=>.ind (rc .E b (.e l)) (rc .E b (.e r)))
 | .NotIn=>gd (iB r) (match n with | 0=>.inn true (rc .P b (.e l)) (rc .Q b (.e r)) | _=>.dnt (rc .E b (.e l)) (rc .E b (.e r)))
noncomputable def yw:CmpOp->m_ qU
 | .Lt=>some .lt
 | .LtE=>some .le
 | .Gt=>some .gt
 | .GtE=>some .ge
 | _=>none
def Tw (l:Expr) (os:List CmpOp) (rs:List Expr) (n:Nat):C:=match os,rs with
 | [o],[r]=>VB rc b l r n o
 | [o,o'],[r,s]=>(match yw o,yw o' with | some p,some q=>.chn p q (rc .E b (.e l)) (rc .E b (.e r)) (rc .E b (.e s)) | _,_=>.nev)
 | _,_=>.nev
def Pm (m m':Md) (o:BoolOp) (es:List Expr) (p:Pos):C:=match es with
 | []=>.nev
 | y::r=>(match r with
  | []=>.one (rc m b (.e y))
  | _::_=>(match o with | .And=>.and (rc m b (.e y)) (rc m' b (.e (.BoolOp .And r p))) | .Or=>.or (rc m b (.e y)) (rc m' b (.e (.BoolOp .Or r p)))))
def Tz (x:Str) (u:Expr) (n:Nat):C:=sw [
 ("len",vC u (.len (rc .Q b (.e u))) fun y us=>bi (decide (y = "set")&&b.bt y) (l1 us fun s=>.lns (rc .E b (.e s))) (.len (rc .Q b (.e u)))),
 ("tuple",match n with | 0=>.tpl (rc .Q b (.e u)) | _=>.tpf (rc .Q b (.e u))),
 ("all",.all (rc .Q b (.e u))),("any",.any (rc .Q b (.e u))),("int",.int1 (rc .Q b (.e u))),("dict",.dct (rc .Q b (.e u)))] x .nev
def VC (u w:Expr):C:=match w with
 | .Name z _=>gd (b.bt z) (sw [("int",.isi (rc .Q b (.e u)) 0),("bool",.isi (rc .Q b (.e u)) 1),("str",.isi (rc .Q b (.e u)) 2),("list",.isi (rc .Q b (.e u)) 3),("tuple",.isi (rc .Q b (.e u)) 4)] z .nev)
 | _=>.nev
def VD (x:Str) (u w:Expr):C:=sw [("min",.min2 (rc .E b (.e u)) (rc .E b (.e w))),("isinstance",VC rc b u w)] x .nev
def VE (x:Str) (es:List Expr) (n:Nat):C:=gd (b.gl x&&okN x&&es.all noStar && !es.isEmpty) (
 bi (decide (t.T.fns[t.T.fns.idxOf x]? = some x)) (.call (t.T.fns.idxOf x) (rc .A b (.es es)))
  (gd (decide (t.T.cls[t.T.cls.idxOf x]? = some x)) (.mk (t.T.cls.idxOf x) (rc .A b (.es es)))))
def VF (f:Expr) (es:List Expr) (p:Pos) (n:Nat):C:=match f with
 | .Name x _=>bi (b.bt x) (match es with | [u]=>gd (noStar u) (Tz rc b x u n) | [u,w]=>gd (noStar u&&noStar w) (VD rc b x u w) | _=>.nev) (VE t rc b x es n)
 | .Attribute o m q=>gd (dD o&&Dq q p&&es.all noStar&&decide (es.length<30)) (bi (decide (m = "count")) (l1 es fun u=>.cnt (rc .E b (.e o)) (rc .E b (.e u)))
   (gd (decide (t.T.j7[t.T.j7.idxOf m]? = some m)) (match es with
    | []=>.meth (t.T.j7.idxOf m) (rc .E b (.e o)) .nil
    | _::_=>.meth (t.T.j7.idxOf m) (rc .E b (.e o)) (rc .A b (.es es)))))
 | _=>.nev
def L5 (e:Expr) (n:Nat):C:=match n with | 0=>.fr (rc .F b (.e e)) | _=>.nlh (rc .F b (.e e))
noncomputable def TB (f:Expr):Bool:=match f with | .Name x _=>decide (x = "list")&&b.bt x | _=>false
def VG (a s:Expr) (n:Nat):C:=match s with
 | .Slice l h st _=>(match st with | none=>(match n with | 1=>.slt (rc .P b (.e a)) (rc .O b (.oe l)) (rc .O b (.oe h)) | _=>.sls (rc .P b (.e a)) (rc .O b (.oe l)) (rc .O b (.oe h))) | some _=>.nev)
 | _=>(match n with | 0=>.ix (rc .P b (.e a)) (rc .E b (.e s)) | _=>.dgt (rc .E b (.e a)) (rc .E b (.e s)))
noncomputable def TC:Expr->Bool
 | .Slice _ _ _ _=>true
 | _=>false
def sE (e:Expr) (n:Nat):C:=match e with
 | .Constant c _ _=>kC c
 | .Name x _=>bi (b.gl x) (gd (decide (t.T.nH[t.T.nH.idxOf x]? = some x)&&okN x) (.g (t.T.nH.idxOf x))) (QZ b x .v)
 | .BinOp l o r p=>(match n with | 0=>VA (rc .E b (.e l)) (rc .E b (.e r)) o | 1=>L5 rc b (.BinOp l o r p) 0 | _=>L5 rc b (.BinOp l o r p) 1)
 | .UnaryOp o a _=>(match o with | .USub=>.neg (rc .E b (.e a)) | .Not=>.not (rc .E b (.e a)) | _=>.nev)
 | .Compare l os rs _=>Tw rc b l os rs n
 | .BoolOp o es p=>Pm rc b .E .E o es p
 | .IfExp y z u _=>.ife (rc .T b (.e y)) (rc .E b (.e z)) (rc .E b (.e u))
 | .Tuple es _ _=>.tup (rc .A b (.es es))
 | .List es p=>L5 rc b (.List es p) n
 | .ListComp a c d p=>L5 rc b (.ListComp a c d p) n
 | .Subscript a s p=>bi (TC s&&decide (n=0)) (.fr (rc .F b (.e (.Subscript a s p)))) (VG rc b a s n)
 | .Dict ks vs _=>(match ks with | []=>(match vs with | []=>.ndh | _::_=>.nev) | _::_=>.nev)
 | .Attribute a f _=>gd (dD a) (.fld (rc .Q b (.e a)) f)
 | .Call f es ks p=>(match ks with | []=>bi (TB b f) (L5 rc b (.Call f es [] p) n) (VF t rc b f es p n) | _::_=>.nev)
 | _=>.nev
noncomputable def Bo (sc:Scope):List Nat:=(Zo b.N.length).filter fun i=>decide (sc.names.lookup (b.N.getD i abd)=some .free)
noncomputable def L6 (sc:Scope) (own:List Str):Bk:=⟨own++(Bo b sc).map (fun i=>b.N.getD i abd),sc⟩
def KY (tg:Expr) (k:List Str->C):C:=match tg with
 | .Name x _=>k [x]
 | .Tuple es _ _=>(match es with | [a,c]=>(match a with | .Name x _=>(match c with | .Name y _=>k [x,y] | _=>.nev) | _=>.nev) | _=>.nev)
 | _=>.nev
def TF (ifs:List Expr) (b':Bk):C:=match ifs with | []=>.b true | q::_=>rc .T b' (.e q)
def Pn (elt tg iter:Expr) (ifs:List Expr) (sc:Scope):C:=KY tg fun own=>gd (zQ b sc own (Bo b sc)&&uq iter&&decide (ifs.length<2)) (
 bi (decide (t.a iter.pos / 10 % 10=0)) (.comp (rc .I b (.it tg iter)) own.length (Bo b sc) (TF rc ifs (L6 b sc own)) (rc .E (L6 b sc own) (.e elt)))
  (.comh (rc .E b (.e iter)) own.length (Bo b sc) (TF rc ifs (L6 b sc own)) (rc .E (L6 b sc own) (.e elt))))
def XU (us:List Expr) (d:C):C:=match us with | [s]=>gd (noStar s) (.lr1 (rc .E b (.e s))) | [s,w]=>gd (noStar s&&noStar w) (.lrg (rc .E b (.e s)) (rc .E b (.e w))) | _=>d
def VH (u:Expr):C:=vC u (.lof (rc .Q b (.e u))) fun y us=>bi (b.bt y) (sw [("range",XU rc b us .nev),("dict",l1 us fun s=>.lfd (rc .E b (.e s)))] y (.lof (rc .Q b (.e u)))) (.lof (rc .Q b (.e u)))
def sF (e:Expr):C:=match e with
 | .List es _=>.dsp (rc .A b (.es es))
 | .ListComp elt gs sc _=>(match gs with | [g]=>gd (decide (g.is_async=0)) (Pn t rc b elt g.target g.iter g.ifs sc) | _=>.nev)
 | .Subscript a s _=>(match s with | .Slice l h st _=>(match st with | none=>.slc (rc .P b (.e a)) (rc .O b (.oe l)) (rc .O b (.oe h)) | some _=>.nev) | _=>.nev)
 | .BinOp l o r _=>(match o with | .Add=>.cat (rc .P b (.e l)) (rc .Q b (.e r)) | _=>.nev)
 | .Call f es ks _=>(match ks with
  | []=>(match f with
   | .Name x _=>gd (decide (x = "list")&&b.bt x) (l1 es fun u=>VH rc b u)
   | _=>.nev)
  | _::_=>.nev)
 | _=>.nev
def VI (tg e:Expr):C:=vC e (.itl (rc .E b (.e e))) fun y es=>bi (b.bt y) (sw [
  ("range",match es with | [s]=>gd (noStar s) (.rg1 (rc .E b (.e s))) | [s,w]=>gd (noStar s&&noStar w) (.rg2 (rc .E b (.e s)) (rc .E b (.e w))) | [s,w,z]=>gd ([s,w,z].all noStar) (.rg3 (rc .A b (.es [s,w,z]))) | _=>.nev),
  ("enumerate",gd (isTup tg) (l1 es fun u=>.enu (rc .E b (.e u)))),
  ("zip",gd (isTup tg) (l2 es fun u w=>.zip (rc .E b (.e u)) (rc .E b (.e w)))),
  ("reversed",l1 es fun u=>vC u .nev fun z us=>gd (decide (z = "range")&&b.bt z) (l1 us fun s=>.rev (rc .E b (.e s))))] y (.itl (rc .E b (.e e)))) (.itl (rc .E b (.e e)))
noncomputable def isNm:Expr->Bool
 | .Name _ _=>true
 | _=>false
def sP (e:Expr):C:=bi (isNm e&&decide (t.a e.pos % 10=1)) (match e with | .Name x _=>QZ b x .o | _=>.nev) (sE t rc b e (t.a e.pos % 10))
def sT (e:Expr):C:=match e with
 | .UnaryOp o a p=>(match o with | .Not=>.not (rc .T b (.e a)) | o=>sE t rc b (.UnaryOp o a p) 0)
 | .BoolOp o es p=>Pm rc b .T .W o es p
 | .Compare l os rs p=>Tw rc b l os rs (t.a p % 10)
 | .IfExp _ _ _ _=>.nev
 | e=>bi (decide (t.a e.pos / 100=0)) (sE t rc b e (t.a e.pos % 10)) (.tr (rc .Q b (.e e)))
def step (m:Md) (b:Bk) (x:Ax):C:=match m,x with
 | .E,.e e=>bi (decide (t.a e.pos % 10=9)) .nev (sE t rc b e (t.a e.pos % 10))
 | .P,.e e=>sP t rc b e
 | .Q,.e e=>bi (decide (t.a e.pos / 10 % 10=0)) (sP t rc b e) (.d (rc .E b (.e e)))
 | .F,.e e=>sF t rc b e
 | .T,.e e=>sT t rc b e
 | .W,.e e=>(match e with | .BoolOp o es p=>Pm rc b .T .W o es p | _=>.nev)
 | .A,.es es=>(match es with | []=>.nil | a::r=>gd (noStar a) (.cons (rc .E b (.e a)) (rc .A b (.es r))))
 | .O,.oe o=>(match o with | none=>.nil | some e=>.cons (rc .E b (.e e)) .nil)
 | .I,.it tg e=>VI rc b tg e
 | _,_=>.nev
end
def TH (t:Tx):Nat->Rc
 | 0=>fun _ _ _=>.nev
 | n+1=>step t (TH t n)
section
variable {P:C->Prop}{c d:C}{q:Bool}
def pM (h0:P .nev) (h:q=true->P c):P (gd q c):=by cases q;exact h0;exact h rfl
def wx (h:q=true->P c) (h0:q=false->P d):P (bi q c d):=by cases q;exact h0 rfl;exact h rfl
def XW {p:Bool} (h0:P .nev) (h:p=true->q=true->P c):P (gd (p&&q) c):=pM h0 fun z=>h (ay z).1 (ay z).2
def KZ {x y:Str}{l:List (Str×C)} (h:x=y->P c) (h0:P (sw l x d)):P (sw ((y,c)::l) x d):=wx (fun z=>h (l_ z)) fun _=>h0
def yx {es:List Expr}{k:Expr->C}{Pe:List Expr->C->Prop} (h0:∀ es,Pe es .nev) (h:∀ a,noStar a=true->Pe [a] (k a)):Pe es (l1 es k):=by
 rcases es with _ | ⟨a,_ | ⟨_,_⟩⟩
 ·exact h0 _
 ·exact pM (h0 _) (h a)
 ·exact h0 _
def TJ {es:List Expr}{k:Expr->Expr->C}{Pe:List Expr->C->Prop} (h0:∀ es,Pe es .nev) (h:∀ a c,noStar a=true->noStar c=true->Pe [a,c] (k a c)):Pe es (l2 es k):=by
 rcases es with _ | ⟨a,_ | ⟨c,_ | ⟨_,_⟩⟩⟩
 ·exact h0 _
 ·exact h0 _
 ·exact XW (h0 _) (h a c)
 ·exact h0 _
def Gq {e:Expr}{k:Str->List Expr->C}{Pe:Expr->C->Prop} (h0:Pe e d) (h:∀ y q es p,e=.Call (.Name y q) es [] p->Pe (.Call (.Name y q) es [] p) (k y es)):Pe e (vC e d k):=by
 cases e with
 | Call f es ks p =>
  cases f with
  | Name y q =>
   cases ks with
   | nil=>exact h y q es p rfl
   | cons _ _=>exact h0
  | _=>exact h0
 | _=>exact h0
end
section
variable {t:Tx}{Z:Gm}{cl:Cl}{n:Nat}{X:Cx}{b:Bk}{c:C}{m:Md}{e:Expr}{rc:Rc}
def Po {σ:St}{H:Hp}{Q:VK} (h:tp X.K cl Z .nev σ H Q):False:=by obtain⟨B,ρ,M,G,R,h1,h2,h3⟩:=h;exact h2
def Hw {σ:St}{H:Hp}{Q:Bool->Hp->Prop} (h:tt X.K cl Z .nev σ H Q):False:=by obtain⟨B,ρ,M,G,R,h1,h2,h3⟩:=h;exact h2
def aV:PE X e (tp X.K cl Z .nev):=fun _ _ _ _ _ _ h=>(Po h).elim
def yy:PT X e (tt X.K cl Z .nev):=fun _ _ _ _ _ _ h=>(Hw h).elim
def yz:PW X e (tt X.K cl Z .nev):=fun _ _ _ _ _ _ _ h=>(Hw h).elim
def b6:PE X e (tf X.K cl Z .nev):=fun _ _ _ _ _ _ h=>by obtain⟨B,ρ,M,G,R,h1,h2,h3⟩:=h;exact (show False from h2).elim
def Dr {es:List Expr}:PA X es (ta X.K cl Z .nev):=fun _ _ _ _ _ _ _ h=>by obtain⟨B,ρ,M,G,R,h1,h2,h3⟩:=h;exact (show False from h2).elim
def gL {tg:Expr}:PI X tg e (lz X.K cl Z .nev):=fun _ _ _ _ _ _ h=>by obtain⟨B,ρ,M,G,R,h1,h2,h3⟩:=h;exact (show False from h2).elim
def gE {q:Bool} (h:q=true->PE X e (tp X.K cl Z c)):PE X e (tp X.K cl Z (gd q c)):=pM (P:=fun c=>PE X e (tp X.K cl Z c)) aV h
def Q0 {p q:Bool} (h:p=true->q=true->PE X e (tp X.K cl Z c)):PE X e (tp X.K cl Z (gd (p&&q) c)):=gE fun z=>h (ay z).1 (ay z).2
def bE {q:Bool}{d:C} (h:q=true->PE X e (tp X.K cl Z c)) (h0:q=false->PE X e (tp X.K cl Z d)):PE X e (tp X.K cl Z (bi q c d)):=wx (P:=fun c=>PE X e (tp X.K cl Z c)) h h0
def sN {x:Str}{d:C} (h:PE X e (tp X.K cl Z d)):PE X e (tp X.K cl Z (sw [] x d)):=h
def sC {x y:Str}{d:C}{l:List (Str×C)} (h:x=y->PE X e (tp X.K cl Z c)) (h0:PE X e (tp X.K cl Z (sw l x d))):PE X e (tp X.K cl Z (sw ((y,c)::l) x d)):=bE (fun z=>h (l_ z)) fun _=>h0
def K0 (ha:PE X e (tp X.K cl Z c)):PO X (some e) (to X.K cl Z (.cons c .nil)):=(E9 ha).imp fun σ H Q h=>by
 obtain⟨B,ρ,M,G,k,h1,h2,h3⟩:=h;refine⟨B,ρ,M,G,_,h1,h2,fun d v M' G' H' f i hd=>?_⟩
 cases d with
 | int n=>unfold Is at i;exact⟨n,i,h3 (some n) M' G' H' f hd⟩
 | _=>exact (show False from hd).elim
structure PB (X:Cx) (cl:Cl) (Z:Gm) (e:Expr) (c:C):Prop where
 v:PE X e (tp X.K cl Z c)
 w:PT X e (tt X.K cl Z c)
def Pp:PB X cl Z e .nev:=⟨aV,yy⟩
structure Hr (t:Tx) (Z:Gm) (cl:Cl) (n:Nat) (rc:Rc):Prop where
 go:∀ m b x X,GC t.T Z cl n X b->Gs X cl Z (rc m b x) m x
def Hr.vE (h:Hr t Z cl n rc) (g:GC t.T Z cl n X b) (e:Expr):PE X e (tp X.K cl Z (rc .E b (.e e))):=h.go .E b (.e e) X g
def Hr.vP (h:Hr t Z cl n rc) (g:GC t.T Z cl n X b) (e:Expr):PE X e (tr X.K cl Z (rc .P b (.e e))):=h.go .P b (.e e) X g
def Hr.vQ (h:Hr t Z cl n rc) (g:GC t.T Z cl n X b) (e:Expr):PE X e (tq X.K cl Z (rc .Q b (.e e))):=h.go .Q b (.e e) X g
def Hr.vF (h:Hr t Z cl n rc) (g:GC t.T Z cl n X b) (e:Expr):PE X e (tf X.K cl Z (rc .F b (.e e))):=h.go .F b (.e e) X g
def Hr.vT (h:Hr t Z cl n rc) (g:GC t.T Z cl n X b) (e:Expr):PT X e (tt X.K cl Z (rc .T b (.e e))):=h.go .T b (.e e) X g
def Hr.vW (h:Hr t Z cl n rc) (g:GC t.T Z cl n X b) (e:Expr):PW X e (tt X.K cl Z (rc .W b (.e e))):=h.go .W b (.e e) X g
def Hr.vA (h:Hr t Z cl n rc) (g:GC t.T Z cl n X b) (es:List Expr):PA X es (ta X.K cl Z (rc .A b (.es es))):=h.go .A b (.es es) X g
def Hr.vO (h:Hr t Z cl n rc) (g:GC t.T Z cl n X b) (o:m_ Expr):PO X o (to X.K cl Z (rc .O b (.oe o))):=h.go .O b (.oe o) X g
def Hr.vI (h:Hr t Z cl n rc) (g:GC t.T Z cl n X b) (tg e:Expr):PI X tg e (lz X.K cl Z (rc .I b (.it tg e))):=h.go .I b (.it tg e) X g
variable (hr:Hr t Z cl n rc) (g:GC t.T Z cl n X b)
def k_g {k:Const}{j:Nat}{p:Pos}:PE X (.Constant k j p) (tp X.K cl Z (kC k)):=by
 cases k<;>first | exact Xv | exact Xw | exact Xx | exact Xy | exact aV
def TK {l r:Expr}{a c:C}{o:adi}{p:Pos} (h1:PE X l (tp X.K cl Z a)) (h2:PE X r (tp X.K cl Z c)):PE X (.BinOp l o r p) (tp X.K cl Z (VA a c o)):=by
 cases o<;>first | exact pH (op:=.add) h1 h2 | exact pH (op:=.sub) h1 h2 | exact pH (op:=.mul) h1 h2 | exact pH (op:=.fdiv) h1 h2 | exact pH (op:=.mod) h1 h2 | exact pH (op:=.pow) h1 h2 | exact pH (op:=.shr) h1 h2 | exact aV
include hr g
def TL {l r:Expr}{k:Nat}{o:CmpOp}{p:Pos}:PB X cl Z (.Compare l [o] [r] p) (VB rc b l r k o):=by
 have i:∀ q:qU,PB X cl Z (.Compare l [BN q] [r] p) (.cmp q (rc .E b (.e l)) (rc .E b (.e r))):=fun q=>⟨NN (hr.vE g l) (hr.vE g r),Kn (hr.vE g l) (hr.vE g r)⟩
 have e0:∀ ng,PB X cl Z (.Compare l [NX ng] [r] p) (.eq ng (rc .P b (.e l)) (rc .Q b (.e r))):=fun ng=>⟨s_eq g.hu (hr.vP g l) (hr.vQ g r),S0 g.hu (hr.vP g l) (hr.vQ g r)⟩
 have n0:∀ ng,iB r=true->PB X cl Z (.Compare l [Ez ng] [r] p) (.inn ng (rc .P b (.e l)) (rc .Q b (.e r))):=fun ng h=>⟨NZ g.L4 (hr.vP g l) (hr.vQ g r) h,N1 g.L4 (hr.vP g l) (hr.vQ g r) h⟩
 cases o with
 | Lt=>exact i .lt
 | LtE=>exact i .le
 | Gt=>exact i .gt
 | GtE=>exact i .ge
 | Is=>exact i .FR
 | IsNot=>exact i .wa
 | Eq=>exact e0 false
 | NotEq=>exact e0 true
 | In =>
  refine pM (P:=fun c=>PB X cl Z _ c) Pp fun h=>?_
  match k with
  | 0=>exact n0 false h
  | 1=>exact⟨N8 (hr.vE g l) (hr.vE g r) h,N9 (hr.vE g l) (hr.vE g r) h⟩
  | _+2=>exact⟨Oa g.hu (hr.vE g l) (hr.vE g r) h,Ob g.hu (hr.vE g l) (hr.vE g r) h⟩
 | NotIn =>
  refine pM (P:=fun c=>PB X cl Z _ c) Pp fun h=>?_
  match k with
  | 0=>exact n0 true h
  | _+1=>exact⟨OZ g.F.wl g.L4 (hr.vE g l) (hr.vE g r) h,O0 g.F.wl g.L4 (hr.vE g l) (hr.vE g r) h⟩
omit hr g in
def Hy {o:CmpOp}{q:qU} (h:yw o=some q):o=BN q:=by cases o<;>first | (cases h;rfl) | cases h
def Pq {l:Expr}{os:List CmpOp}{rs:List Expr}{k:Nat}{p:Pos}:PB X cl Z (.Compare l os rs p) (Tw rc b l os rs k):=by
 rcases os with _ | ⟨o,_ | ⟨o',_ | ⟨_,_⟩⟩⟩<;>rcases rs with _ | ⟨r,_ | ⟨s,_ | ⟨_,_⟩⟩⟩<;>first | exact Pp | exact TL hr g | skip
 show PB X cl Z _ (match yw o,yw o' with | some p,some q=>.chn p q (rc .E b (.e l)) (rc .E b (.e r)) (rc .E b (.e s)) | _,_=>.nev)
 cases h1:yw o with
 | none=>exact Pp
 | some q =>
  cases h2:yw o' with
  | none=>exact Pp
  | some q' =>
   rw[Hy h1,Hy h2];exact⟨Od '9' '9' '9',Oe '9' '9' '9'⟩
def TM {o:BoolOp}{es:List Expr}{p:Pos}:PE X (.BoolOp o es p) (tp X.K cl Z (Pm rc b .E .E o es p)):=by
 rcases es with _ | ⟨y,_ | ⟨z,r⟩⟩
 ·exact aV
 ·exact Og '9'
 ·cases o
  ·exact Oh '9' '9'
  ·exact S3 '9' '9'
def Pt {o:BoolOp}{es:List Expr}{p:Pos}:PW X (.BoolOp o es p) (tt X.K cl Z (Pm rc b .T .W o es p)):=by
 rcases es with _ | ⟨y,_ | ⟨z,r⟩⟩
 ·exact yz
 ·cases o
  ·exact w_and1 (hr.vT g _)
  ·exact w_or1 (hr.vT g _)
 ·cases o
  ·exact w_and (hr.vT g _) (hr.vW g _)
  ·exact w_or (hr.vT g _) (hr.vW g _)
def TN {x:Str}{u:Expr}{k:Nat}{p q:Pos} (hx:b.bt x=true) (hs:noStar u=true):PE X (.Call (.Name x q) [u] [] p) (tp X.K cl Z (Tz rc b x u k)):=by
 obtain⟨h1,h2⟩:=g.bl hx;unfold Tz;refine sC (fun z=>?_) <| sC (fun z=>?_) <| sC (fun z=>?_) <| sC (fun z=>?_) <| sC (fun z=>?_) <| sC (fun z=>?_) <| sN aV<;>subst z
 ·refine Gq (Pe:=fun u' c=>noStar u'=true->PE X (.Call (.Name "len" q) [u'] [] p) (tp X.K cl Z c)) (fun _=>Hk h1 h2 (hr.vQ g _) hs) (fun y q2 us p2 e hs=>?_) hs;refine bE (fun h=>?_) fun _=>e▸Hk h1 h2 (hr.vQ g _) (e▸hs)
  obtain⟨h3,h4⟩:=ay h
  cases l_ h3
  exact yx (Pe:=fun es c=>PE X (.Call (.Name "len" q) [.Call (.Name "set" q2) es [] p2] [] p) (tp X.K cl Z c)) (fun _=>aV) fun s hs=>OE g.calm h1 h2 (g.bl h4).1 (g.bl h4).2 '9' hs
 ·cases k
  ·exact NT h1 h2 (hr.vQ g _) hs
  ·exact NU h1 h2 (hr.vQ g _) hs
 ·exact NV g.calm h1 h2 (hr.vQ g _) hs
 ·exact NW g.calm h1 h2 (hr.vQ g _) hs
 ·exact Kl h1 h2 (hr.vQ g _) hs
 ·exact Ow g.calm h1 h2 (hr.vQ g _) hs
def TQ {u w:Expr}{p q:Pos} (hx:b.bt "isinstance" = true) (hs:noStar u=true):PE X (.Call (.Name "isinstance" q) [u,w] [] p) (tp X.K cl Z (VC rc b u w)):=by
 obtain⟨h1,h2⟩:=g.bl hx
 cases w<;>first | exact aV | skip
 rename_i z pz;refine gE fun h=>?_
 obtain⟨h3,h4⟩:=g.bl h;have go:∀ k,k<5->z=aah (EH k)->PE X (.Call (.Name "isinstance" q) [u,.Name z pz] [] p) (tp X.K cl Z (.isi (rc .Q b (.e u)) k)):=fun k hk e=>Ov hk e h1 h2 h3 h4 (hr.vQ g _) hs
 exact sC (go 0 (2)) <| sC (go 1 (by decide)) <| sC (go 2 (by decide)) <| sC (go 3 (by decide)) <| sC (go 4 (by decide)) <| sN aV
def TR {x:Str}{u w:Expr}{p q:Pos} (hx:b.bt x=true) (hs:noStar u=true) (jX:noStar w=true):PE X (.Call (.Name x q) [u,w] [] p) (tp X.K cl Z (VD rc b x u w)):=by
 refine sC (fun z=>?_) <| sC (fun z=>?_) <| sN aV<;>subst z
 ·exact Kt g.calm (g.bl hx).1 (g.bl hx).2 '9' '9' hs jX
 ·exact TQ hr g hx hs
def TU {x:Str}{es:List Expr}{k:Nat}{p q:Pos}:PE X (.Call (.Name x q) es [] p) (tp X.K cl Z (VE t rc b x es k)):=by
 refine Q0 fun h h4=>?_
 obtain⟨h,h3⟩:=ay h;obtain⟨h1,h2⟩:=ay h
 cases es with
 | nil=>cases h4
 | cons e es =>
  refine bE (fun z=>?_) fun _=>gE fun z=>?_
  ·exact s_call g.F g.room (l_ z) (g.gl h1) (ka h2).1 (hr.vA g _) h3
  ·exact Tf (Hq g.F g.room (l_ z) (g.gl h1) (ka h2).1 (hr.vA g _) h3)
def TV {f:Expr}{es:List Expr}{k:Nat}{p:Pos}:PE X (.Call f es [] p) (tp X.K cl Z (VF t rc b f es p k)):=by
 cases f<;>first | exact aV | skip
 ·rename_i o m q;refine Q0 fun h h4=>?_
  obtain⟨h,h3⟩:=ay h;obtain⟨h1,h2⟩:=ay h;refine bE (fun z=>?_) fun _=>gE fun z=>?_
  ·cases l_ z
   exact yx (Pe:=fun es c=>PE X (.Call (.Attribute o "count" q) es [] p) (tp X.K cl Z c)) (fun _=>aV) fun u hs=>Ox '9' '9' h1 hs h2
  ·cases es with
   | nil=>exact F7 g.F g.room (l_ z) '9' h1 h2
   | cons e es=>exact KH g.F g.room (l_ z) '9' (hr.vA g _) h1 h3 (l_ h4) h2
 ·refine bE (fun h=>?_) fun _=>TU hr g
  rcases es with _ | ⟨u,_ | ⟨w,_ | ⟨_,_⟩⟩⟩
  ·exact aV
  ·exact gE fun z=>TN hr g h z
  ·exact Q0 fun z1 z2=>TR hr g h z1 z2
  ·exact aV
def Ds {e:Expr}{k:Nat}:PE X e (tp X.K cl Z (L5 rc b e k)):=by
 cases k
 ·exact Kj (hr.vF g _)
 ·exact NP (hr.vF g _)
def TY {a s:Expr}{k:Nat}{p:Pos}:PE X (.Subscript a s p) (tp X.K cl Z (VG rc b a s k)):=by
 have ix:lC s=true->PE X (.Subscript a s p) (tp X.K cl Z (match k with | 0=>.ix (rc .P b (.e a)) (rc .E b (.e s)) | _=>.dgt (rc .E b (.e a)) (rc .E b (.e s)))):=fun h=>by
  match k with
  | 0=>exact S5 (hr.vP g _) '9' h
  | _+1=>exact OY g.F.wl g.L4 '9' '9' h
 cases s with
 | Slice l h st p2 =>
  cases st with
  | none =>
   match k with
   | 0=>exact Ho (hr.vP g _) (hr.vO g _) (hr.vO g _)
   | 1=>exact Oo (hr.vP g _) (hr.vO g _) (hr.vO g _)
   | _+2=>exact Ho (hr.vP g _) (hr.vO g _) (hr.vO g _)
  | some _=>exact aV
 | _=>exact ix rfl
omit hr in
def T1 {x:Str}{p:Pos}:PE X (.Name x p) (tp X.K cl Z (QZ b x .v)):=gE fun h=>by
 obtain⟨h1,h2,h3,h4⟩:=g.nm h;exact Xz h1 h2 h3 h4
omit hr in
def T3 {x:Str}{p:Pos}:PE X (.Name x p) (tr X.K cl Z (QZ b x .o)):=pM (P:=fun c=>PE X (.Name x p) (tr X.K cl Z c)) aV.r fun h=>by
 obtain⟨h1,h2,h3,h4⟩:=g.nm h;exact XA h1 h2 h3 h4
def Q5 {e:Expr}{k:Nat}:PE X e (tp X.K cl Z (sE t rc b e k)):=by
 cases e with
 | Constant c j p=>exact k_g
 | Name x p =>
  refine bE (fun h=>Q0 fun h1 h2=>?_) fun _=>T1 g
  obtain⟨u,v,e1,e2,e3⟩:=g.F.cs _ x (l_ h1) (ka h2).1;exact (EO (g.gl h) e1 e2 (ka h2).1).imp fun σ H Q q=>NJ (c:=.g (t.T.nH.idxOf x)) (d:=Z.cs (t.T.nH.idxOf x)) (5) e3 q
 | BinOp l o r p =>
  match k with
  | 0=>exact TK '9' '9'
  | 1=>exact Ds (e:=.BinOp l o r p) (k:=0) hr g
  | _+2=>exact Ds (e:=.BinOp l o r p) (k:=1) hr g
 | UnaryOp o a p =>
  cases o with
  | USub=>exact NM '9'
  | Not=>exact Oi '9'
  | _=>exact aV
 | Compare l os rs p=>exact (Pq hr g).v
 | BoolOp o es p=>exact TM hr g
 | IfExp y z u p=>exact Ol (hr.vT g _) '9' '9'
 | Tuple es j p=>exact NQ (hr.vA g _)
 | List es p=>exact Ds hr g
 | ListComp a c d p=>exact Ds hr g
 | Subscript a s p=>exact bE (fun _=>Kj (hr.vF g _)) fun _=>TY hr g
 | Dict ks vs p =>
  cases ks with
  | nil=>cases vs with
   | nil=>exact OX g.F.wl
   | cons _ _=>exact aV
  | cons _ _=>exact aV
 | Attribute a f p=>exact gE fun h=>Ou g.F.at_ (hr.vQ g _) h
 | Call f es ks p =>
  cases ks with
  | nil=>exact bE (fun _=>Ds hr g) fun _=>TV hr g
  | cons _ _=>exact aV
 | _=>exact aV
end
def wy {iter:Expr}{env:Env} (h:uq iter=true):∀ x,aaJ iter env x=pure x:=fun x=>by
 cases iter<;>first | rfl | cases h
def Pu (tg:Expr) (own:List Str):Prop:=(∃ y p,tg=.Name y p/\own=[y])∨∃ y z p1 p2 j p,tg=.Tuple [.Name y p1,.Name z p2] j p/\own=[y,z]
def Hz {tg:Expr}{k:List Str->C}{P:C->Prop} (h0:P .nev) (h:∀ own,Pu tg own->P (k own)):P (KY tg k):=by
 unfold KY;split
 ·exact h _ (.inl ⟨_,_,rfl,rfl⟩)
 ·split
  ·split
   ·split
    ·exact h _ (.inr ⟨_,_,_,_,_,_,rfl,rfl⟩)
    ·exact h0
   ·exact h0
  ·exact h0
 ·exact h0
section
variable {t:Tx}{Z:Gm}{cl:Cl}{n:Nat}{X:Cx}{b:Bk}{c:C}{m:Md}{e:Expr}{rc:Rc}
def gF {q:Bool} (h:q=true->PE X e (tf X.K cl Z c)):PE X e (tf X.K cl Z (gd q c)):=pM (P:=fun c=>PE X e (tf X.K cl Z c)) b6 h
def gI {q:Bool}{tg:Expr} (h:q=true->PI X tg e (lz X.K cl Z c)):PI X tg e (lz X.K cl Z (gd q c)):=pM (P:=fun c=>PI X tg e (lz X.K cl Z c)) gL h
variable (hr:Hr t Z cl n rc) (g:GC t.T Z cl n X b)
include hr g
def Pw {elt tg iter:Expr}{ifs:List Expr}{sc:Scope}{own:List Str} (ho:Pu tg own) (h:(zQ b sc own (Bo b sc)&&uq iter&&decide (ifs.length<2))=true) :
  ∃ gg,bx X.N X.env.scope sc own ((Bo b sc).map fun i=>b.N.getD i abd) (Bo b sc)/\(∀ x,aaJ iter X.env x=pure x)/\wm X.K cl own.length (Bo b sc) gg /\
   ∀ (C:Addr) (s₀:j_) (H₀:Hp) (ex:List Addr) (pn:List (Addr×Obj)),PG (X.comp sc own ((Bo b sc).map fun i=>b.N.getD i abd) C s₀ H₀ ex pn) tg gg /\
    x9 (X.comp sc own ((Bo b sc).map fun i=>b.N.getD i abd) C s₀ H₀ ex pn) ifs (tt X.K cl Z (TF rc ifs (L6 b sc own)))/\PE (X.comp sc own ((Bo b sc).map fun i=>b.N.getD i abd) C s₀ H₀ ex pn) elt (tp X.K cl Z (rc .E (L6 b sc own) (.e elt))):=by
 obtain⟨h,h3⟩:=ay h;obtain⟨h1,h2⟩:=ay h;have S:=Pl g h1
 have lk:∀ {own b0:List Str}{C:Addr}{s₀:j_}{H₀:Hp}{ex:List Addr}{pn:List (Addr×Obj)}{y:Str},Loc sc y->Loc (X.comp sc own b0 C s₀ H₀ ex pn).env.scope y:=fun {own b0 C s₀ H₀ ex pn y} q=>by
  rcases q with q | q<;>rcases bo (env:=X.env) q with z | ⟨z,_⟩
  ·exact .inl z
  ·cases z
  ·exact .inr z
  ·cases z
 suffices tail:∃ gg,wm X.K cl own.length (Bo b sc) gg/\∀ (C:Addr) (s₀:j_) (H₀:Hp) (ex:List Addr) (pn:List (Addr×Obj)),PG (X.comp sc own ((Bo b sc).map fun i=>b.N.getD i abd) C s₀ H₀ ex pn) tg gg by
  obtain⟨gg,hg,hp⟩:=tail;refine⟨gg,S,wy h2,hg,fun C s₀ H₀ ex pn=>⟨hp C s₀ H₀ ex pn,?_,hr.vE g.comp elt⟩⟩
  match ifs,l_ h3 with
  | [],_=>exact fun pins s σ H Q I q=>Cq pins s σ H Q I (KI q)
  | [q],_=>exact Cr (hr.vT g.comp q)
 rcases ho with ⟨y,p,rfl,rfl⟩ | ⟨y,z,p1,p2,j,p,rfl,rfl⟩
 ·exact⟨er 0,OR,fun C s₀ H₀ ex pn=>nX S.nd rfl (lk (S.JJ y (3))) (.inl (by show ae6 [y] y=true;simp))⟩
 ·exact⟨BZ X.K 2 (kR (er 0) (kR (er 1) BY)),OS,fun C s₀ H₀ ex pn=>CN (X:=X.comp sc [y,z] _ C s₀ H₀ ex pn) g.calm S.nd rfl rfl (lk (S.JJ y (3))) (lk (S.JJ z (3))) (.inl (by show ae6 [y,z] y=true;simp)) (.inl (by show ae6 [y,z] z=true;simp))⟩
def K1 {elt tg iter:Expr}{ifs:List Expr}{sc:Scope}{p:Pos}:PE X (.ListComp elt [⟨tg,iter,ifs,0⟩] sc p) (tf X.K cl Z (Pn t rc b elt tg iter ifs sc)) :=
 Hz (P:=fun c=>PE X (.ListComp elt [⟨tg,iter,ifs,0⟩] sc p) (tf X.K cl Z c)) b6 fun own ho=>pM (P:=fun c=>PE X (.ListComp elt [⟨tg,iter,ifs,0⟩] sc p) (tf X.K cl Z c)) b6 fun h=>by
  obtain⟨gg,S,hs,hg,hb⟩:=Pw hr g ho h;refine wx (P:=fun c=>PE X (.ListComp elt [⟨tg,iter,ifs,0⟩] sc p) (tf X.K cl Z c)) (fun _=>?_) fun _=>?_
  ·exact (zw g.calm S (hr.vI g tg iter) hb hs).imp fun σ H Q q=>uk rfl hg q
  ·exact (zw g.calm S (EX (hr.vE g iter)) hb hs).imp fun σ H Q q=>Gd rfl hg q
def T4 {u:Expr}{p q:Pos} (hx:b.bt "list" = true) (hs:noStar u=true):PE X (.Call (.Name "list" q) [u] [] p) (tf X.K cl Z (VH rc b u)):=by
 obtain⟨h1,h2⟩:=g.bl hx;have base:∀ u,noStar u=true->PE X (.Call (.Name "list" q) [u] [] p) (tf X.K cl Z (.lof (rc .Q b (.e u)))):=fun u hs=>NS h1 h2 (hr.vQ g _) hs
 refine Gq (Pe:=fun u' c=>noStar u'=true->PE X (.Call (.Name "list" q) [u'] [] p) (tf X.K cl Z c)) (fun _=>base u hs) (fun y q2 us p2 e AR=>?_) hs;subst e;refine wx (P:=fun c=>PE X (.Call (.Name "list" q) [.Call (.Name y q2) us [] p2] [] p) (tf X.K cl Z c)) (fun hy=>?_) fun _=>base _ AR
 obtain⟨h3,h4⟩:=g.bl hy;refine KZ (P:=fun c=>PE X (.Call (.Name "list" q) [.Call (.Name y q2) us [] p2] [] p) (tf X.K cl Z c)) (fun z=>?_) <| KZ (P:=fun c=>PE X (.Call (.Name "list" q) [.Call (.Name y q2) us [] p2] [] p) (tf X.K cl Z c)) (fun z=>?_) <| base _ AR<;>subst z
 ·rcases us with _ | ⟨s,_ | ⟨w,_ | ⟨_,_⟩⟩⟩
  ·exact b6
  ·exact gF fun z=>Oz g.calm h1 h2 h3 h4 '9' z
  ·exact gF fun z=>Oy g.calm h1 h2 h3 h4 '9' '9' (ay z).1 (ay z).2
  ·exact b6
 ·exact yx (Pe:=fun us c=>PE X (.Call (.Name "list" q) [.Call (.Name "dict" q2) us [] p2] [] p) (tf X.K cl Z c)) (fun _=>b6) fun s hz=>OD g.calm h1 h2 h3 h4 '9' hz
def XX {e:Expr}:PE X e (tf X.K cl Z (sF t rc b e)):=by
 cases e with
 | List es p=>exact NR (hr.vA g _)
 | ListComp elt gs sc p =>
  rcases gs with _ | ⟨⟨tg,iter,ifs,a⟩,_ | ⟨_,_⟩⟩
  ·exact b6
  ·exact gF fun z=>by cases l_ z;exact K1 hr g
  ·exact b6
 | Subscript a s p =>
  cases s with
  | Slice l h st p2 =>
   cases st with
   | none=>exact Oq (hr.vP g _) (hr.vO g _) (hr.vO g _)
   | some _=>exact b6
  | _=>exact b6
 | BinOp l o r p =>
  cases o with
  | Add=>exact Ot (hr.vP g _) (hr.vQ g _)
  | _=>exact b6
 | Call f es ks p =>
  cases ks with
  | nil =>
   cases f with
   | Name x q =>
    refine gF fun z=>?_
    obtain⟨z,hx⟩:=ay z
    cases l_ z
    exact yx (Pe:=fun us c=>PE X (.Call (.Name "list" q) us [] p) (tf X.K cl Z c)) (fun _=>b6) fun u hs=>T4 hr g hx hs
   | _=>exact b6
  | cons _ _=>exact b6
 | _=>exact b6
def T5 {tg e:Expr}:PI X tg e (lz X.K cl Z (VI rc b tg e)):=by
 refine Gq (Pe:=fun e c=>PI X tg e (lz X.K cl Z c)) (Dg '9') fun y q es p he=>?_
 subst he;refine wx (P:=fun c=>PI X tg (.Call (.Name y q) es [] p) (lz X.K cl Z c)) (fun hy=>?_) fun _=>Dg '9'
 obtain⟨h1,h2⟩:=g.bl hy;have two:∀ {x:Str}{c d:C}{l:List (Str×C)},(y=x->PI X tg (.Call (.Name y q) es [] p) (lz X.K cl Z c))->PI X tg (.Call (.Name y q) es [] p) (lz X.K cl Z (sw l y d))->PI X tg (.Call (.Name y q) es [] p) (lz X.K cl Z (sw ((x,c)::l) y d)):=fun {x c d l}=>KZ (P:=fun c=>PI X tg (.Call (.Name y q) es [] p) (lz X.K cl Z c))
 refine two (fun z=>?_) <| two (fun z=>?_) <| two (fun z=>?_) <| two (fun z=>?_) <| Dg (hr.vE g _)<;>subst z
 ·rcases es with _ | ⟨s,_ | ⟨w,_ | ⟨z,_ | ⟨_,_⟩⟩⟩⟩
  ·exact gL
  ·exact gI fun z=>OA h1 h2 '9' z
  ·exact gI fun z=>OB h1 h2 '9' '9' (ay z).1 (ay z).2
  ·exact gI fun z=>OF h1 h2 (hr.vA g _) z
  ·exact gL
 ·refine gI fun z=>?_
  cases tg<;>first | cases z;done | skip
  exact yx (Pe:=fun es c=>PI X _ (.Call (.Name "enumerate" q) es [] p) (lz X.K cl Z c)) (fun _=>gL) fun u hs=>OH h1 h2 '9' hs
 ·refine gI fun z=>?_
  cases tg<;>first | cases z;done | skip
  exact TJ (Pe:=fun es c=>PI X _ (.Call (.Name "zip" q) es [] p) (lz X.K cl Z c)) (fun _=>gL) fun u w hs jX=>OI h1 h2 '9' '9' hs jX
 ·refine yx (Pe:=fun es c=>PI X tg (.Call (.Name "reversed" q) es [] p) (lz X.K cl Z c)) (fun _=>gL) fun u hs=>?_
  refine Gq (Pe:=fun u c=>PI X tg (.Call (.Name "reversed" q) [u] [] p) (lz X.K cl Z c)) gL fun z q2 us p2 he=>gI fun h=>?_
  obtain⟨h3,h4⟩:=ay h
  cases l_ h3
  exact yx (Pe:=fun us c=>PI X tg (.Call (.Name "reversed" q) [.Call (.Name "range" q2) us [] p2] [] p) (lz X.K cl Z c)) (fun _=>gL) fun s hs=>OG h1 h2 (g.bl h4).1 (g.bl h4).2 '9' hs
def VJ {e:Expr}:PE X e (tr X.K cl Z (sP t rc b e)):=by
 refine wx (P:=fun c=>PE X e (tr X.K cl Z c)) (fun h=>?_) fun _=>(Q5 hr g).r
 cases e<;>first | cases (ay h).1;done | skip
 exact T3 g
def XY {e:Expr}:PT X e (tt X.K cl Z (sT t rc b e)):=by
 have base:∀ {e:Expr},plainT e=true->PT X e (tt X.K cl Z (bi (decide (t.a e.pos / 100=0)) (sE t rc b e (t.a e.pos % 10)) (.tr (rc .Q b (.e e))))):=fun {e} h =>
  wx (P:=fun c=>PT X e (tt X.K cl Z c)) (fun _=>Hi (Q5 hr g) (j9 h)) fun _=>S4 (hr.vQ g _) (j9 h)
 cases e with
 | UnaryOp o a p =>
  cases o with
  | Not=>exact Oj (hr.vT g _)
  | _=>exact Hi (Q5 (k:=0) hr g) (j9 rfl)
 | BoolOp o es p=>exact (Pt hr g).pt
 | Compare l os rs p=>exact (Pq hr g).w
 | IfExp _ _ _ _=>exact yy
 | _=>exact base rfl
omit g in
def K2:Hr t Z cl n (step t rc):=⟨fun m b x X g=>by
 cases m<;>cases x<;>first | trivial | skip
 ·exact bE (fun _=>aV) fun _=>Q5 hr g
 ·exact VJ hr g
 ·exact wx (P:=fun c=>PE X _ (tq X.K cl Z c)) (fun _=>(VJ hr g).rq) fun _=>XB '9'
 ·exact XX hr g
 ·exact XY hr g
 ·rename_i e
  cases e<;>first | exact Pt hr g | exact yz
 ·rename_i es
  cases es with
  | nil=>exact NO
  | cons a r=>exact pM (P:=fun c=>PA X (a::r) (ta X.K cl Z c)) Dr fun h=>Ki '9' (hr.vA g _) h
 ·rename_i o
  cases o with
  | none=>exact Kq
  | some e=>exact K0 '9'
 ·exact T5 hr g⟩
end
def Px {t:Tx}{Z:Gm}{cl:Cl}{n:Nat}:Hr t Z cl n fun _ _ _=>.nev:=⟨fun m b x X g=>by
 cases m<;>cases x<;>first | trivial | exact aV | exact aV.r | exact aV.q | exact b6 | exact yy | exact yz | exact Dr | exact gL | skip
 exact fun _ _ _ _ _ _ h=>by obtain⟨B,ρ,M,G,R,h1,h2,h3⟩:=h;exact (show False from h2).elim⟩
theorem HA {t:Tx}{Z:Gm}{cl:Cl}{n:Nat}:∀ k,Hr t Z cl n (TH t k)
 | 0=>Px
 | k+1=>K2 (HA k)
def wz (t:Bool) (s:S):S:=match t with | true=>s | false=>.never
def Q6 (t:Bool) (s r:S):S:=match t with | true=>s | false=>r
def Q7:List (Str×S)->Str->S->S
 | [],_,d=>d
 | (y,c)::r,x,d=>Q6 (decide (x=y)) c (Q7 r x d)
def T6 (es:List Expr) (k:Expr->S):S:=match es with | [a]=>wz (noStar a) (k a) | _=>.never
def Py:List Nat->S->S
 | [],s=>s
 | k::ks,s=>wz (decide (k≠0)) (.seq (.eT k) (Py ks s))
structure Ts extends Tx where
 fz:List (Nat×List Nat)
 ii:Bool
noncomputable def Ts.f (t:Ts) (n:Nat):List Nat:=(t.fz.lookup n).getD []
noncomputable abbrev Rs:=Bk->List Stmt->S
section
variable (t:Ts) (rc:Rc) (rs:Rs) (b:Bk)
noncomputable def k0 (k:Nat):Bool := !t.ii||decide (k≠0)
def stN (x:Str) (f:Nat->S):S:=wz (k0 t (b.N.idxOf x)&&b.loc (b.N.idxOf x) x) (f (b.N.idxOf x))
def atS (x:Str) (f:Nat->S):S:=wz (b.at_ (b.N.idxOf x) x) (f (b.N.idxOf x))
def stC (n k:Nat) (c:C):S:=match n with | 0=>.set k (.fr c) | _=>.dw k c
def XZ (y:Str) (es:List Expr) (f:Nat->C->S):S:=wz (decide (t.T.cls[t.T.cls.idxOf y]? = some y)&&b.gl y&&okN y&&es.all noStar && !es.isEmpty) (f (t.T.cls.idxOf y) (rc .A b (.es es)))
def VL (x:Str) (q:Pos) (v:Expr):S:=stN t b x fun k=>match v with
 | .ListComp elt gs sc p=>(match gs with
  | [g]=>wz (decide (g.is_async=0)&&(decide (t.a g.iter.pos / 10 % 10=0) || !QY b x q (.ListComp elt [g] sc p))) (stC (t.a q) k (Pn t.toTx rc b elt g.target g.iter g.ifs sc))
  | _=>.never)
 | v=>wz (j8 v) (match t.a q with
  | 0=>.set k (rc .E b (.e v))
  | 1=>.dw k (rc .F b (.e v))
  | _=>(match v with | .Call f es ks _=>(match f with | .Name y _=>(match ks with | []=>XZ t rc b y es fun q c=>.FY k q c | _::_=>.never) | _=>.never) | _=>.never))
def VM (tg v:Expr):S:=match tg with
 | .Name x q=>VL t rc b x q v
 | .Attribute o f _=>(match o with | .Name x _=>wz (j8 v) (atS b x fun k=>.fZ k f (rc .E b (.e v))) | _=>.never)
 | .Subscript a i _=>wz (j8 v) (.SW (rc .E b (.e a)) (rc .E b (.e i)) (rc .E b (.e v)))
 | _=>.never
def VN (o:Expr) (es:List Expr):S:=match o with
 | .Name x _=>wz (decide (t.T.cls[t.T.cls.idxOf x]? = some x)&&b.gl x&&okN x&&t.T.pJ.contains (t.T.cls.idxOf x)) (match es with
  | sf::es=>(match sf with | .Name y _=>wz (b.at_ 0 y&&es.all noStar&&decide (es.length<20)) (.bp (t.T.cls.idxOf x) (rc .A b (.es es))) | _=>.never)
  | []=>.never)
 | _=>.never
def VO (o:Expr) (m:Str) (es:List Expr) (q p:Pos) (d:S):S:=Q6 (Dq q p) (Q7 [
 ("append",T6 es fun u=>Q6 (isNm o&&decide (t.a o.pos % 10=1)) (match o with | .Name x _=>atS b x fun k=>.app k (rc .E b (.e u)) | _=>.never) (wz (dD o) (.QT (rc .E b (.e o)) (rc .E b (.e u))))),
 ("extend",T6 es fun u=>match o with | .Name x _=>atS b x fun k=>.ext k (rc .E b (.e u)) | _=>.never),
 ("__init__",VN t rc b o es)] m d) d
def VP (e:Expr):S:=match e with
 | .Call f es ks p=>(match f with
  | .Attribute o m q=>(match ks with | []=>VO t rc b o m es q p (.ex (rc .E b (.e (.Call (.Attribute o m q) es [] p)))) | _::_=>.never)
  | f=>.ex (rc .E b (.e (.Call f es ks p))))
 | e=>wz (j8 e) (.ex (rc .E b (.e e)))
def VQ (e:m_ Expr):S:=match e with
 | none=>.Kd
 | some e=>.ret (rc .E b (.e e))
def VR (x:Str) (v:Expr):adi->S
 | .Add=>stN t b x fun k=>.aug k .add (rc .E b (.e v))
 | .Sub=>stN t b x fun k=>.aug k .sub (rc .E b (.e v))
 | _=>.never
def T7 (tg:Expr) (k:List Nat->S):S:=match tg with
 | .Name x _=>stN t b x fun i=>k [i]
 | .Tuple es _ _=>(match es with | [a,c]=>(match a with | .Name x _=>(match c with | .Name y _=>stN t b x fun i=>stN t b y fun j=>k [i,j] | _=>.never) | _=>.never) | _=>.never)
 | _=>.never
def X0 (tg it:Expr) (bd:List Stmt):S:=wz (uq it) (T7 t b tg fun ts=>.bL (rc .I b (.it tg it)) ts (rs b bd))
def VS (s:Stmt):S:=match s with
 | .Assign ts v _=>(match ts with | [tg]=>VM t rc b tg v | _=>.never)
 | .AugAssign tg o v _=>(match tg with | .Name x _=>VR t rc b x v o | _=>.never)
 | .Return e _=>VQ rc b e
 | .If e x y _=>.ite (rc .T b (.e e)) (rs b x) (rs b y)
 | .For tg it bd el _=>(match el with | []=>X0 t rc rs b tg it bd | _::_=>.never)
 | .While e bd el _=>(match el with | []=>.LZ (rc .T b (.e e)) (rs b bd) | _::_=>.never)
 | .Expr e _=>VP t rc b e
 | .Break _=>.brk
 | .Pass _=>.skip
 | .Try bd hs el fi _=>wz (!hs.isEmpty&&el.isEmpty&&fi.isEmpty) (.Ke (rs b bd))
 | _=>.never
def VT (wq:List Stmt):S:=match wq with
 | []=>.skip
 | s::r=>Py (t.f s.pos.line) (.seq (VS t rc rs b s) (Py (t.f (100000+s.pos.line)) (rs b r)))
end
def Du (t:Ts):Nat->Rs
 | 0=>fun _ _=>.never
 | n+1=>VT t (TH t.toTx 60) (Du t n)
structure GD (T:Tb) (Z:Gm) (cl:Cl) (n:Nat) (X:Cx) (b:Bk):Prop extends GC T Z cl n X b where
 sc:X.env.scope=b.sc
 kind:b.sc.kind=.function
 fn:∀ x,X.fn x=true
 nd:X.N.Nodup
 po:aeR '0' X.A X.env X.xe
section
variable {T:Tb}{Z:Gm}{cl:Cl}{n:Nat}{X:Cx}{b:Bk}{e v:Expr}
theorem GD.quiet (g:GD T Z cl n X b):GD T Z cl n X.quiet b :=
 { hN:=g.hN,calm:=g.calm,loc:=g.loc,KW:=g.KW,L3:=g.L3,Pk:=g.Pk,room:=g.room,F:=g.F,bt:=g.bt,sc:=g.sc,kind:=g.kind,fn:=g.fn,nd:=g.nd,po:=agc }
def jF {tg:m_ Expr}{l:Nat}{env:Env} (h:j8 e=true):aaI e tg l env=pure false:=by
 cases e<;>first | rfl | cases h
def GD.lc (g:GD T Z cl n X b) {k:Nat}{x:Str} (h:b.loc k x=true):X.N[k]? = some x/\Loc X.env.scope x:=by
 obtain⟨h1,h2⟩:=ay h;refine⟨by rw[g.hN];exact l_ h1,?_⟩;rcases l_ h2 with q | q
 ·exact .inl (g.loc x q)
 ·exact .inr (g.KW x q)
def GD.sw (g:GD T Z cl n X b) {x:Str}{p:Pos}{l:Nat} (h:Tv v=true):aaI v (some (.Name x p)) l X.env=pure (QY b x p v):=by
 cases v<;>first | (cases h;done) | skip
 rename_i elt gens s q
 have hb:X.env.blockKind=.function:=by
  unfold Env.blockKind;rw[g.sc,g.kind];rfl
 unfold aaI QY;show pure (X.env.blockKind==.function&&X.env.kindOf x==some .local&&p.line==q.line && !(s.names.any fun (n,k)=>n==x&&(k==.local||k==.cell)))=_;rw[hb];unfold Env.kindOf Bk.lk;rw[g.sc];rfl
end
section
variable {t:Ts}{Z:Gm}{cl:Cl}{n:Nat}{X:Cx}{b:Bk}{rc:Rc}{rs:Rs}{st:Stmt}{wq:List Stmt}{s r:S}
def Pz {k:Nat} (h:k0 t k=true):t.ii=true->k≠0:=fun hi=>by
 unfold k0 at h;rw[hi] at h;simpa using h
def qn:kL X wq (tS X.K cl Z t.ii .never):=fun _ _ _ _ _ _ h=>by obtain⟨B,ρ,M,G,E,h1,h2,h3⟩:=h;exact (show False from h2).elim
def pn:PS X st (tS X.K cl Z t.ii .never):=zO
def v0 (h:∀ Z ρ M E,¬ s Z ρ M E):PS X st (tS X.K cl Z t.ii s):=(zO (cl:=cl) (Z:=Z) (ii:=t.ii)).imp fun D σ H z=>by obtain⟨B,ρ,M,G,E,h1,h2,h3⟩:=z;exact (h _ _ _ _ h2).elim
def gS {q:Bool} (h:q=true->PS X st (tS X.K cl Z t.ii s)):PS X st (tS X.K cl Z t.ii (wz q s)):=by cases q;exact pn;exact h rfl
def bS {q:Bool} (h:q=true->PS X st (tS X.K cl Z t.ii s)) (h0:q=false->PS X st (tS X.K cl Z t.ii r)):PS X st (tS X.K cl Z t.ii (Q6 q s r)):=by cases q;exact h0 rfl;exact h rfl
def sS {x y:Str}{l:List (Str×S)} (h:x=y->PS X st (tS X.K cl Z t.ii s)) (h0:PS X st (tS X.K cl Z t.ii (Q7 l x r))):PS X st (tS X.K cl Z t.ii (Q7 ((y,s)::l) x r)):=bS (fun z=>h (l_ z)) fun _=>h0
def HB {es:List Expr}{k:Expr->S}{F:List Expr->Stmt} (h:∀ a,noStar a=true->PS X (F [a]) (tS X.K cl Z t.ii (k a))):PS X (F es) (tS X.K cl Z t.ii (T6 es k)):=by
 rcases es with _ | ⟨a,_ | ⟨_,_⟩⟩
 ·exact pn
 ·exact gS (h a)
 ·exact pn
theorem K3:∀ {ks:List Nat},kL X wq (tS X.K cl Z t.ii s)->kL X wq (tS X.K cl Z t.ii (Py ks s))
 | [],h=>h
 | k::ks,h=>by
  show kL X wq (tS X.K cl Z t.ii (wz (decide (k≠0)) (.seq (.eT k) (Py ks s))))
  cases e:decide (k≠0) with
  | false=>exact qn
  | true=>exact O4 (l_ e) (K3 h)
variable (hr:Hr t.toTx Z cl n rc) (g:GD t.T Z cl n X b)
include g
def Bp {x:Str}{f:Nat->S} (h:∀ k,X.N[k]? = some x->Loc X.env.scope x->(t.ii=true->k≠0)->PS X st (tS X.K cl Z t.ii (f k))):PS X st (tS X.K cl Z t.ii (stN t b x f)):=gS fun z=>by
 obtain⟨l1,l2⟩:=g.lc (ay z).2;exact h _ l1 l2 (Pz (ay z).1)
def K4 {x:Str}{f:Nat->S} (h:∀ k,X.N[k]? = some x->BM X.env.scope x->'2'=false->(x==("__classdict__" : Str))=false->PS X st (tS X.K cl Z t.ii (f k))):PS X st (tS X.K cl Z t.ii (atS b x f)):=gS fun z=>by
 obtain⟨h1,h2,h3,h4⟩:=g.nm z;exact h _ h1 h2 h3 h4
include hr
def T8 {x:Str}{q p:Pos}{v:Expr}:PS X (.Assign [.Name x q] v p) (tS X.K cl Z t.ii (VL t rc b x q v)):=Bp g fun k l1 l2 hk=>by
 have plain:j8 v=true->∀ d,PS X (.Assign [.Name x q] v p) (tS X.K cl Z t.ii d)->PS X (.Assign [.Name x q] v p) (tS X.K cl Z t.ii (match t.a q with
  | 0=>.set k (rc .E b (.e v))
  | 1=>.dw k (rc .F b (.e v))
  | _=>d)):=fun h d hd=>by
  split
  ·exact Hu g.nd l1 l2 (g.fn x) hk (jF h) (hr.vE g.toGC _)
  ·exact Dm g.nd l1 l2 (g.fn x) hk (jF h) (hr.vF g.toGC _)
  ·exact hd
 cases v with
 | ListComp elt gs sc p2 =>
  rcases gs with _ | ⟨⟨tg,iter,ifs,a⟩,_ | ⟨_,_⟩⟩
  ·exact pn
  ·refine gS fun z=>?_
   obtain⟨z,z2⟩:=ay z;obtain rfl:a=0:=l_ z;have sw:=g.sw (x:=x) (p:=q) (l:=p.line) (v:=.ListComp elt [⟨tg,iter,ifs,0⟩] sc p2) rfl
   have fin:PS X (.Assign [.Name x q] (.ListComp elt [⟨tg,iter,ifs,0⟩] sc p2) p) (tS X.K cl Z t.ii (.dw k (Pn t.toTx rc b elt tg iter ifs sc)))/\PS X (.Assign [.Name x q] (.ListComp elt [⟨tg,iter,ifs,0⟩] sc p2) p) (tS X.K cl Z t.ii (.set k (.fr (Pn t.toTx rc b elt tg iter ifs sc)))):=by
    cases e:QY b x q (.ListComp elt [⟨tg,iter,ifs,0⟩] sc p2) with
    | false =>
     rw[e] at sw;exact⟨Dm g.nd l1 l2 (g.fn x) hk sw (K1 hr g.toGC),Hu g.nd l1 l2 (g.fn x) hk sw (Kj (K1 hr g.toGC))⟩
    | true =>
     rw[e] at sw z2;have hi:decide (t.a iter.pos / 10 % 10=0)=true:=by simpa using z2
     let PP:C->Prop:=fun c=>PS X (.Assign [.Name x q] (.ListComp elt [⟨tg,iter,ifs,0⟩] sc p2) p) (tS X.K cl Z t.ii (.dw k c))/\PS X (.Assign [.Name x q] (.ListComp elt [⟨tg,iter,ifs,0⟩] sc p2) p) (tS X.K cl Z t.ii (.set k (.fr c)))
     have n0:PP .nev:=⟨v0 fun _ _ _ _ z=>z,v0 fun _ _ _ _ z=>z⟩;refine Hz (P:=PP) n0 fun own ho=>pM (P:=PP) n0 fun h=>?_
     obtain⟨gg,S,hs,hg,hb⟩:=Pw hr g.toGC ho h;rw[hi];exact Gn rfl hg g.calm g.nd l1 l2 (g.fn x) hk S (hr.vI g.toGC tg iter) hb sw hs
   unfold stC;split
   ·exact fin.2
   ·exact fin.1
  ·exact pn
 | Call f es ks p2 =>
  refine gS fun z=>plain z _ ?_
  cases f with
  | Name y q2 =>
   cases ks with
   | nil =>
    refine gS fun h=>?_
    obtain⟨h,h5⟩:=ay h;obtain⟨h,h4⟩:=ay h;obtain⟨h,h3⟩:=ay h;obtain⟨h1,h2⟩:=ay h
    cases es with
    | nil=>cases h5
    | cons e es=>exact KL g.nd l1 l2 (g.fn x) hk (jF z) (Hq g.F g.room (l_ h1) (g.gl h2) (ka h3).1 (hr.vA g.toGC _) h4)
   | cons _ _=>exact pn
  | _=>exact pn
 | _=>exact gS fun z=>plain z _ pn
def Dv {tg v:Expr}{p:Pos}:PS X (.Assign [tg] v p) (tS X.K cl Z t.ii (VM t rc b tg v)):=by
 cases tg with
 | Name x q=>exact T8 hr g
 | Attribute o f q =>
  cases o with
  | Name x q2=>exact gS fun z=>K4 g fun k h1 h2 h3 h4=>KS g.F.at_ h1 h2 h3 h4 (jF z) (hr.vE g.toGC _)
  | _=>exact pn
 | Subscript a i q=>exact gS fun z=>Pf g.F.wl g.L4 (hr.vE g.toGC _) (hr.vE g.toGC _) (hr.vE g.toGC _) (jF z)
 | _=>exact pn
def PD {o:Expr}{es:List Expr}{q p p2:Pos} (hl:Dq q p=true):PS X (.Expr (.Call (.Attribute o "__init__" q) es [] p) p2) (tS X.K cl Z t.ii (VN t rc b o es)):=by
 cases o with
 | Name x q2 =>
  refine gS fun h=>?_
  obtain⟨h,h4⟩:=ay h;obtain⟨h,h3⟩:=ay h;obtain⟨h1,h2⟩:=ay h
  cases es with
  | nil=>exact pn
  | cons sf es =>
   cases sf with
   | Name y q3 =>
    refine gS fun z=>?_
    obtain⟨z,z3⟩:=ay z;obtain⟨z1,z2⟩:=ay z;obtain⟨n1,n2,n3,n4⟩:=g.nm z1;exact Pj g.F g.room (l_ h1) h4 (g.gl h2) (ka h3).1 n1 n2 n3 n4 (hr.vA g.toGC _) z2 (l_ z3) hl
   | _=>exact pn
 | _=>exact pn
def T9 {o:Expr}{m:Str}{es:List Expr}{q p p2:Pos}{d:S} (hd:PS X (.Expr (.Call (.Attribute o m q) es [] p) p2) (tS X.K cl Z t.ii d)):PS X (.Expr (.Call (.Attribute o m q) es [] p) p2) (tS X.K cl Z t.ii (VO t rc b o m es q p d)):=by
 refine bS (fun hl=>?_) fun _=>hd
 refine sS (fun z=>?_) <| sS (fun z=>?_) <| sS (fun z=>?_) <| hd<;>subst z
 ·refine HB (F:=fun es=>.Expr (.Call (.Attribute o "append" q) es [] p) p2) fun u hs=>bS (fun z=>?_) fun _=>gS fun z=>?_
  ·cases o<;>first | cases (ay z).1;done | skip
   exact K4 g fun k h1 h2 h3 h4=>O9 h1 h2 h3 h4 (hr.vE g.toGC _) hs hl
  ·exact Pd (hr.vE g.toGC _) (hr.vE g.toGC _) z hs hl
 ·refine HB (F:=fun es=>.Expr (.Call (.Attribute o "extend" q) es [] p) p2) fun u hs=>?_
  cases o with
  | Name x q2=>exact K4 g fun k h1 h2 h3 h4=>Pa h1 h2 h3 h4 (hr.vE g.toGC _) hs hl
  | _=>exact pn
 ·exact PD hr g hl
def Ua {e:Expr}{p:Pos}:PS X (.Expr e p) (tS X.K cl Z t.ii (VP t rc b e)):=by
 have base:∀ {e:Expr},j8 e=true->PS X (.Expr e p) (tS X.K cl Z t.ii (.ex (rc .E b (.e e)))):=fun {e} z=>Tq (jF z) (hr.vE g.toGC _)
 cases e with
 | Call f es ks p2 =>
  cases f with
  | Attribute o m q =>
   cases ks with
   | nil=>exact T9 hr g (base rfl)
   | cons _ _=>exact pn
  | _=>exact base rfl
 | _=>exact gS fun z=>base z
def Ub {e:m_ Expr}{p:Pos}:PS X (.Return e p) (tS X.K cl Z t.ii (VQ rc b e)):=by
 cases e with
 | none=>exact KN
 | some e =>
  exact O5 (hr.vE g.toGC _)
def Uc {x:Str}{q p:Pos}{o:adi}{v:Expr}:PS X (.AugAssign (.Name x q) o v p) (tS X.K cl Z t.ii (VR t rc b x v o)):=by
 cases o with
 | Add=>exact Bp g fun k l1 l2 hk=>Hv (op:=.add) (.inl rfl) g.nd l1 l2 (g.fn x) hk (hr.vE g.toGC _)
 | Sub=>exact Bp g fun k l1 l2 hk=>Hv (op:=.sub) (.inr rfl) g.nd l1 l2 (g.fn x) hk (hr.vE g.toGC _)
 | _=>exact pn
omit hr in
def Ud {tg:Expr}{f:List Nat->S} (h:∀ ts gg,PG X tg gg->Dn X.K cl t.ii ts gg->PS X st (tS X.K cl Z t.ii (f ts))):PS X st (tS X.K cl Z t.ii (T7 t b tg f)):=by
 unfold T7;split
 ·exact Bp g fun k l1 l2 hk=>h _ _ (nX g.nd l1 l2 (.inl (g.fn _))) (KP hk)
 ·split
  ·split
   ·split
    ·exact Bp g fun k l1 l2 hk=>Bp g fun j l3 l4 hj=>h _ _ (CN g.calm g.nd l1 l3 l2 l4 (.inl (g.fn _)) (.inl (g.fn _))) (KQ hk hj)
    ·exact pn
   ·exact pn
  ·exact pn
 ·exact pn
end
structure Hs (t:Ts) (Z:Gm) (cl:Cl) (n:Nat) (rs:Rs):Prop where
 go:∀ b X wq,GD t.T Z cl n X b->kL X wq (tS X.K cl Z t.ii (rs b wq))
section
variable {t:Ts}{Z:Gm}{cl:Cl}{n:Nat}{X:Cx}{b:Bk}{rc:Rc}{rs:Rs} (hr:Hr t.toTx Z cl n rc) (hs:Hs t Z cl n rs)
include hr hs
def PF {st:Stmt} (g:GD t.T Z cl n X b):PS X st (tS X.K cl Z t.ii (VS t rc rs b st)):=by
 cases st with
 | Assign ts v p =>
  rcases ts with _ | ⟨tg,_ | ⟨_,_⟩⟩
  ·exact pn
  ·exact Dv hr g
  ·exact pn
 | AugAssign tg o v p =>
  cases tg with
  | Name x q=>exact Uc hr g
  | _=>exact pn
 | Return e p=>exact Ub hr g
 | If e x y p=>exact O7 (hr.vT g.toGC _) (hs.go _ _ _ g) (hs.go _ _ _ g)
 | For tg it bd el p =>
  cases el with
  | nil=>exact gS fun z=>Ud g fun ts gg hg ht=>KR g.po g.calm (hr.vI g.toGC _ _) hg ht (hs.go _ _ _ g) (wy z)
  | cons _ _=>exact pn
 | While e bd el p =>
  cases el with
  | nil=>exact O8 g.po (hr.vT g.toGC _) (hs.go _ _ _ g)
  | cons _ _=>exact pn
 | Expr e p=>exact Ua hr g
 | Break p=>exact O6
 | Pass p=>exact KO
 | Try bd AJ el fi p =>
  refine gS fun h=>?_
  obtain⟨h,h3⟩:=ay h;obtain⟨h1,h2⟩:=ay h
  cases acT.mp h2
  cases acT.mp h3
  cases AJ with
  | nil=>cases h1
  | cons _ _=>exact (FI (hs.go b X.quiet bd g.quiet)).imp fun D σ H z=>by obtain⟨B,ρ,M,G,E,h1,h2,h3⟩:=z;exact⟨B,ρ,M,G,E,h1,h2,h3⟩
 | _=>exact pn
def Ue:Hs t Z cl n (VT t rc rs):=⟨fun b X wq g=>by
 cases wq with
 | nil=>exact KJ
 | cons s r=>exact K3 (O3 (PF hr hs g) (K3 (hs.go _ _ _ g)))⟩
end
theorem Dw {t:Ts}{Z:Gm}{cl:Cl}{n:Nat}:∀ k,Hs t Z cl n (Du t k)
 | 0=>⟨fun b X wq g=>qn⟩
 | k+1=>Ue (HA 60) (Dw k)
noncomputable def pN (N ps:List Str) (sc:Scope):Bool:=decide (sc.kind=.function)&&decide (sc.isCoroutine=false)&&decide (sc.isGenerator=false)&&decide N.Nodup&&decide (N.take ps.length=ps)&&ps.all (fun x=>decide (sc.names.lookup x=some .local∨sc.names.lookup x=some .cell))&&sc.names.all (fun y=>decide (y.2≠.free))
def Bq (T:Tb) (ii:Bool) (st:Stmt) (N ps:List Str) (c:S):Prop:=∃ t:Ts,t.T=T/\t.ii=ii/\pN N ps (bF st)=true/\Du t 60 ⟨N,bF st⟩ (jC st)=c
def PH {N ps:List Str}{sc:Scope} (h:pN N ps sc=true):n5 N ps sc:=by
 unfold pN at h;obtain⟨h,h7⟩:=ay h;obtain⟨h,h6⟩:=ay h;obtain⟨h,h5⟩:=ay h;obtain⟨h,h4⟩:=ay h;obtain⟨h,h3⟩:=ay h;obtain⟨h1,h2⟩:=ay h;rw[Zn] at h6 h7;exact⟨l_ h1,l_ h2,l_ h3,l_ h4,l_ h5,fun x hx=>l_ (h6 x hx),fun y hy=>l_ (h7 y hy)⟩
section
variable {P:N_}{w:World}{K:e_}{mg:Str->m_ Value}{base:Heap}{Z:Gm}{cl:Cl}{T:Tb}{n:Nat}{x qual:Str}{st:Stmt}{f:Addr}{fd:Z4}{N ps:List Str}{c:S}{ii:Bool}
noncomputable def bp (N ps:List Str) (sl:List Sl):En:=sl++agm (N.length-ps.length) .no
def oh (F:Fx Z cl P w K mg base n T.fns T.j7 T.cls T.nH T.pJ) (bt:∀ x∈Gp,mg x=none) (D:Co K x qual st f fd) (hc:Bq T ii st N ps c) {sp:Sp} (len:∀ vs H Q E,sp vs H Q E->vs.length=ps.length)
  (body:∀ vs H Q E,sp vs H Q E->tS K cl Z ii c { nx:=fun _ H'=>Q .az H',rt:=Q } (start N vs) H):bN P w K mg base mj (n+1) f fd ps sp:=by
 obtain⟨t,rfl,rfl,h1,rfl⟩:=hc;have S:=PH h1;refine D.ok S len fun jZ A outer s H vs Q E hr EB=>?_
 have g:GD t.T Z cl n (xZ mj P w K mg base N qual (bF st) f jZ A outer s H E).Mn ⟨N,bF st⟩ :=
  { hN:=rfl,calm:=rfl,loc:=fun x h=>h,KW:=fun x h=>h,L3:=fun x h=>.inl h,Pk:=fun x h=>h,room:=hr,F:=F,bt:=bt,sc:=rfl,kind:=S.kind,fn:=fun _=>rfl,nd:=S.nd,po:=agc }
 exact⟨_,(Dw 60).go ⟨N,bF st⟩ _ _ g,body vs H Q E EB⟩
def zR {B:Bs}{G H:Hp}{M:Mem}{sl:List Sl}{vs:List V} (hB:B.G=G/\B.H=H/\B.M=M) (s:ag G H) (m:bG K cl G H M) (l:sl.length=vs.length) (lp:vs.length=ps.length) (h0:∀ a,B.sf=some a->vs[(0:Nat)]? = some (.ref a))
  (hs:∀ (i:Nat) d,sl[i]? = some (.sh d)->∃ v,vs[i]? = some v/\Is K cl G d v) (ho:∀ (i:Nat) d,sl[i]? = some (.ow d)->i=0/\∃ a,B.sf=some a/\CY K cl B M G H 0 a d):Rep K cl B (bp N ps sl) M (start N vs) H G:=by
 obtain⟨rfl,rfl,rfl⟩:=hB
 have get:∀ {i:Nat}{z:Sl},(bp N ps sl)[i]? = some z->z≠.no->sl[i]? = some z:=fun {i z} e ne=>by
  unfold bp at e;by_cases hi:i<sl.length
  ·rwa [ZO hi] at e
  ·rw[Zx ∅,adT] at e;split at e
   ·cases e;exact absurd rfl ne
   ·cases e
 have put:∀ {i:Nat}{v:V},vs[i]? = some v->(start N vs)[i]? = some (some v):=fun {i v} e=>by
  unfold L2.start;have hi:i<vs.length:=(i_.mp e).1;rw[ZO (by simpa using hi),g_,e];rfl
 refine⟨bc.refl s m,?_,fun a e=>put (h0 a e),fun i d e=>?_,fun _=>(B.sf).getD 0,fun i d e=>?_,fun i j d e hi hj _=>?_⟩
 ·unfold bp L2.start;rw[A_,A_,acN,a_,acN,l,lp]
 ·obtain⟨v,h1,h2⟩:=hs i d (get e (6));exact⟨v,put h1,h2⟩
 ·obtain⟨rfl,a,h1,h2⟩:=ho i d (get e (6));refine⟨?_,?_⟩
  ·rw[h1];exact put (h0 a h1)
  ·rw[h1];exact h2
 ·rw[(ho i d (get hi (6))).1,(ho j e (get hj (6))).1]
def yA {G H:Hp}{M:Mem}{ds:List Dt}{vs:List V} (s:ag G H) (m:bG K cl G H M) (i:IsL K cl G ds vs) (lp:ds.length=ps.length):Rep K cl ⟨G,H,M,none⟩ (bp N ps (ds.map Sl.sh)) M (start N vs) H G:=by
 have l:=i.length;refine zR ⟨rfl,rfl,rfl⟩ s m (by rw[a_,l]) ∅ (fun a e=>nomatch e) (fun j d e=>?_) fun j d e=>?_
 ·rw[g_] at e;obtain⟨d',e1,e2⟩:=o_.mp e
  cases e2
  exact i.get e1
 ·rw[g_] at e;obtain⟨d',e1,e2⟩:=o_.mp e
  cases e2
def HC (F:Fx Z cl P w K mg base n T.fns T.j7 T.cls T.nH T.pJ) (bt:∀ x∈Gp,mg x=none) (D:Co K x qual st f fd) (hc:Bq T false st N ps c) {pf:bH}
  (body:∀ ds M k,pf ds M k->ds.length=ps.length/\ex Z c (bp N ps (ds.map Sl.sh)) M { nx:=fun _ M'=>k .az M',rt:=k }):bN P w K mg base mj (n+1) f fd ps (OJ K cl pf):=by
 refine oh F bt D hc (fun vs H Q E h=>?_) fun vs H Q E h=>?_
 ·obtain⟨G,M,ds,k,h1,h2,h3,h4,h5⟩:=h;rw[<-h3.length];exact (body ds M k h4).1
 ·obtain⟨G,M,ds,k,h1,h2,h3,h4,h5⟩:=h;obtain⟨b1,b2⟩:=body ds M k h4;refine⟨_,_,M,G,_,yA h1 h2 h3 b1,b2,⟨fun _=>rfl,fun ρ M' σ H' G' s r q=>?_,fun d v ρ M' σ H' G' r i q=>?_,fun ρ M' σ H' G' s r q=>q,fun ρ M' σ H' G' s r q=>q,(fun _ _ _ _ _ _ _ _ _ _ _ _ _ _ z=>z.elim)⟩⟩
  ·exact h5 .az M' .az G' H' q r.b5 (by unfold Is;rfl)
  ·exact h5 d M' v G' H' q r.b5 i
def PJ (F:Fx Z cl P w K mg base n T.fns T.j7 T.cls T.nH T.pJ) (bt:∀ x∈Gp,mg x=none) (D:Co K x qual st f fd) (hc:Bq T false st N ps c) {pf:List Dt->Mem->(List Dt->Mem->Prop)->Prop}
  (body:∀ ds M k,pf ds M k->ds.length=ps.length/\ex Z c (bp N ps (ds.map Sl.sh)) M { nx:=fun _ _=>False,rt:=fun _ _=>False,ro:=k }):bN P w K mg base mj (n+1) f fd ps (OL K cl pf):=by
 refine oh F bt D hc (fun vs H Q E h=>?_) fun vs H Q E h=>?_
 ·obtain⟨G,M,ds,k,h1,h2,h3,h4,h5⟩:=h;rw[<-h3.length];exact (body ds M k h4).1
 ·obtain⟨G,M,ds,k,h1,h2,h3,h4,h5⟩:=h;obtain⟨b1,b2⟩:=body ds M k h4;exact⟨_,_,M,G,_,yA h1 h2 h3 b1,b2,⟨fun _=>rfl,fun ρ M' σ H' G' s r q=>q.elim,fun d v ρ M' σ H' G' r i q=>q.elim,fun ρ M' σ H' G' s r q=>q,fun ρ M' σ H' G' s r q=>q,fun xs us a ρ M' σ H' G' r ha ga ma e i q=>h5 xs us a M' G' H' q r.b5 ha ga ma e i⟩⟩
def PK (F:Fx Z cl P w K mg base n T.fns T.j7 T.cls T.nH T.pJ) (bt:∀ x∈Gp,mg x=none) (D:Co K x qual st f fd) (hc:Bq T false st N ps c) {pf:bH}{q:Nat}
  (body:∀ d ds M k fs,fY M d (fun n' fR=>n'=q/\fR=fs)->pf (d::ds) M k->(d::ds).length=ps.length/\ex Z c (bp N ps ((d::ds).map Sl.sh)) M { nx:=fun _ M'=>k .az M',rt:=k }):bN P w K mg base mj (n+1) f fd ps (OM K cl q pf):=by
 refine oh F bt D hc (fun vs H Q E h=>?_) fun vs H Q E h=>?_
 ·obtain⟨G,M,d,ds,k,fs,h1,h2,h3,h0,h4,h5⟩:=h;rw[<-h3.length];exact (body d ds M k fs h0 h4).1
 ·obtain⟨G,M,d,ds,k,fs,h1,h2,h3,h0,h4,h5⟩:=h;obtain⟨b1,b2⟩:=body d ds M k fs h0 h4;refine⟨_,_,M,G,_,yA h1 h2 h3 b1,b2,⟨fun _=>rfl,fun ρ M' σ H' G' s r q=>?_,fun d v ρ M' σ H' G' r i q=>?_,fun ρ M' σ H' G' s r q=>q,fun ρ M' σ H' G' s r q=>q,(fun _ _ _ _ _ _ _ _ _ _ _ _ _ _ z=>z.elim)⟩⟩
  ·exact h5 .az M' .az G' H' q r.b5 (by unfold Is;rfl)
  ·exact h5 d M' v G' H' q r.b5 i
def PL (F:Fx Z cl P w K mg base n T.fns T.j7 T.cls T.nH T.pJ) (bt:∀ x∈Gp,mg x=none) (D:Co K x qual st f fd) (hc:Bq T true st N ps c) {pf:Dt->List Dt->Mem->(Dt->Mem->Prop)->Prop}
  (body:∀ q fs xs ds M k,pf (.obj q fs xs) ds M k->ds.length+1=ps.length/\ex Z c (bp N ps (.ow (.obj q fs xs)::ds.map Sl.sh)) M { nx:=fun ρ M'=>dv ρ 0 fun d=>pE d fun q' fR vb=>q'=q/\k (.obj q fR vb) M',rt:=fun _ _=>False }):bN P w K mg base mj (n+1) f fd ps (F6 K cl pf):=by
 refine oh F bt D hc (fun vs H Q E h=>?_) fun vs H Q E h=>?_
 ·obtain⟨G,M,a,q,fs,xs,dx,us,L1,ds,k,rfl,h1,h2,h3,h4,h5,h6,h7,h8,h9,HD⟩:=h;rw[x_,<-h8.length];exact (body q fs xs ds M k h9).1
 ·obtain⟨G,M,a,q,fs,xs,dx,us,L1,ds,k,rfl,h1,h2,h3,h4,h5,h6,h7,h8,h9,HD⟩:=h;obtain⟨b1,b2⟩:=body q fs xs ds M k h9;have l:=h8.length
  have r0:Rep K cl ⟨G,H,M,some a⟩ (bp N ps (.ow (.obj q fs xs)::ds.map Sl.sh)) M (start N (.ref a::L1)) H G:=by
   refine zR ⟨rfl,rfl,rfl⟩ h6 h7 (by rw[x_,x_,a_,l]) (by rw[x_];lia) (fun a' e=>by cases e;rfl) (fun j d e=>?_) fun j d e=>?_
   ·cases j with
    | zero=>cases e
    | succ j =>
     rw[acC,g_] at e;obtain⟨d',e1,e2⟩:=o_.mp e
     cases e2
     exact h8.get e1
   ·cases j with
    | zero=>cases e;exact⟨rfl,a,rfl,h4,h5,.inr ⟨rfl,rfl⟩,.mo q fs xs,rfl,dx,us,h1,h2,h3⟩
    | succ j =>
     rw[acC,g_] at e;obtain⟨d',e1,e2⟩:=o_.mp e
     cases e2
  refine⟨_,_,M,G,_,r0,b2,⟨(6),fun ρ M' σ H' G' s r z=>?_,fun d v ρ M' σ H' G' r i z=>z.elim,fun ρ M' σ H' G' s r z=>z,fun ρ M' σ H' G' s r z=>z,(fun _ _ _ _ _ _ _ _ _ _ _ _ _ _ z=>z.elim)⟩⟩;obtain⟨d,e1,z1⟩:=eg z;obtain⟨q',fR,vb,rfl,rfl,z2⟩:=mF z1;obtain⟨oa,o1,_⟩:=r.ow;obtain⟨s1,ga,ma,_,o,ho,hc⟩:=o1 0 _ e1;have ea:oa 0=a:=by have:=r.s0 a rfl;rw[this] at s1;cases s1;rfl
  rw[ea] at ga ma hc
  cases ho
  obtain⟨KD,Fw,c1,c2,c3⟩:=hc;exact HD fR vb Fw KD M' G' H' z2 r.b5 ga ma c1 c2 c3
end
structure Df where
 x:Str
 qual:Str
 N:List Str
 ps:List Str
 c:S
 an:List (Nat×Nat)
 fz:List (Nat×List Nat)
noncomputable def df (x q:Str) (N:List acq) (k:Nat) (c:S) (an:List (Nat×Nat):=[]) (fz:List (Nat×List Nat):=[]):Df:=⟨x,q,N.map aah,(N.take k).map aah,c,an,fz⟩
noncomputable def dg (x:Str) (N:List acq) (k:Nat) (c:S) (an:List (Nat×Nat):=[]) (fz:List (Nat×List Nat):=[]):Df:=df x x N k c an fz
noncomputable def LS (l:List acq):List Str:=l.map aah
structure Pg where
 T:Tb
 fd:List (m_ Df)
 md:List (List (Nat×Df))
 id:List (Nat×Df)
 Ug:List (Nat×List Str)
 K5:List Dt
noncomputable def Pg.at_ (p:Pg) (c:Nat) (f:Str):Bool:=match p.Ug.lookup c with
 | some fs=>fs.contains f
 | none=>false
noncomputable def Pg.hm (p:Pg) (m c:Nat) (fs:List Str):Bool:=match (p.md.getD m []).lookup c,p.T.j7[m]? with
 | some _,some x => !fs.contains x
 | _,_=>false
noncomputable def Pg.cs (p:Pg) (k:Nat):Dt:=p.K5.getD k .az
noncomputable def PN (p:Pg) (Z:Gm) (Γ':m_ Gm):Gm where
 fn f ds M k:=∃ d,p.fd[f]? = some (some d)/\ds.length=d.ps.length/\ex Z d.c (bp d.N d.ps (ds.map Sl.sh)) M { nx:=fun _ M'=>k .az M',rt:=k }
 fo f ds M k:=∃ d,p.fd[f]? = some (some d)/\ds.length=d.ps.length/\ex Z d.c (bp d.N d.ps (ds.map Sl.sh)) M { nx:=fun _ _=>False,rt:=fun _ _=>False,ro:=k }
 me m ds M k:=∃ x r c fs d,ds=x::r/\fY M x (fun c' fR=>c'=c/\fR=fs)/\(p.md.getD m []).lookup c=some d/\ds.length=d.ps.length/\ex Z d.c (bp d.N d.ps (ds.map Sl.sh)) M { nx:=fun _ M'=>k .az M',rt:=k }
 bp c o ds M k:=∃ Γ0 q fs xs d,Γ'=some Γ0/\o=.obj q fs xs/\p.id.lookup c=some d/\ds.length+1=d.ps.length/\ex Γ0 d.c (bp d.N d.ps (.ow o::ds.map Sl.sh)) M { nx:=fun ρ M'=>dv ρ 0 fun d=>pE d fun q' fR vb=>q'=q/\k (.obj q fR vb) M',rt:=fun _ _=>False }
 cs:=p.cs
 at_:=p.at_
 hm:=p.hm
noncomputable def zS (p:Pg):Nat->Gm×m_ Gm
 | 0=>({ fn:=fun _ _ _ _=>False,fo:=fun _ _ _ _=>False,me:=fun _ _ _ _=>False,bp:=fun _ _ _ _ _=>False,cs:=p.cs,at_:=p.at_,hm:=p.hm },none)
 | n+1=>(PN p (zS p n).1 (zS p n).2,some (zS p n).1)
noncomputable def Pg.Z (p:Pg) (n:Nat):Gm:=(zS p n).1
theorem Pg.K6 {p:Pg}:∀ n,(p.Z n).cs=p.cs
 | 0=>rfl
 | _+1=>rfl
theorem Pg.PQ {p:Pg}:∀ n,(p.Z n).at_=p.at_
 | 0=>rfl
 | _+1=>rfl
theorem Pg.gM {p:Pg}:∀ n,(p.Z n).hm=p.hm
 | 0=>rfl
 | _+1=>rfl
noncomputable def HE:Value->Bool
 | .none=>true
 | _=>false
noncomputable def wA (a:afR) (ps:List Str):Bool:=a.posonlyargs.isEmpty&&decide (a.args.map (·.arg)=ps)&&a.vararg.isNone&&a.kwonlyargs.isEmpty&&a.kwarg.isNone&&decide ps.Nodup
noncomputable def HF (d:Df) (sc:Scope):FuncBody->Bool
 | .stmts _=>pN d.N d.ps sc
 | _=>false
noncomputable def Uh (K:e_) (d:Df) (fd:Z4):Bool:=decide (fd.name=d.x)&&decide (fd.qualname=d.qual)&&decide (fd.globals=mainGlobals)&&fd.closure.isEmpty&&HE fd.defaults&&decide (fd.builtins=ad2)&&ab0 K fd.code d.qual&&wA fd.params d.ps&&HF d fd.scope fd.body
noncomputable def Dx (K:e_) (d:Df) (a:Addr):Bool:=acF K (.ref a)&&match K.lookup a with
 | some ⟨_,_,.func fd,_⟩=>Uh K d fd
 | _=>false
noncomputable def Br (o:m_ (m_ Value)) (k:Addr->Bool):Bool:=match o with | some (some (.ref a))=>k a | _=>false
noncomputable def Gr (o:m_ (m_ Value)):Bool:=match o with | some none=>true | _=>false
noncomputable def iY (K:e_) (T:Tb) (c:Nat):Addr:=match abK K mainGlobals (T.cls.getD c abd) with
 | some (some (.ref a))=>a
 | _=>0
noncomputable def Gu (K:e_) (C:Addr):Bool:=ab4 K C abd&&acE K C&&adA K C&&ZC K (.ref C) "__setattr__" == some (some (.builtin "object.__setattr__"))
noncomputable def Dy:List Value->List Dt->Bool
 | [],[]=>true
 | .str x _::vs,.str y::ds=>decide (x=y)&&Dy vs ds
 | _,_=>false
noncomputable def K7 (K:e_) (a:Addr) (ds:List Dt):Bool:=match K.lookup a with
 | some ⟨c,_,.seq ai _,_⟩=>decide (c=.type "tuple")&&decide (ai.size<=100)&&Dy ai.toList ds
 | _=>false
noncomputable def HG (K:e_):m_ (m_ Value)->Dt->Bool
 | some (some (.int i _)),.int j=>decide (i=j)
 | some (some (.str x _)),.str y=>decide (x=y)
 | some (some (.ref a)),.sD ds=>K7 K a ds
 | _,_=>false
noncomputable def K8:Str := "__debug__"
noncomputable def Ui (o:m_ aeM) (k:Addr->Bool):Bool:=match o with | some (.val (.ref a))=>k a | _=>false
noncomputable def Dz (K:e_) (p:Pg):Bool :=
 decide (p.T.fns=p.fd.map fun o=>match o with | some d=>d.x | none=>K8) &&
 p.fd.all (fun o=>match o with | none=>true | some d=>Br (abK K mainGlobals d.x) fun a=>Dx K d a) &&
 p.T.cls.all (fun x=>x==K8||Br (abK K mainGlobals x) fun a=>ZH K (.ref a)) &&
 (p.T.j7.zip p.md).all (fun e=>e.2.all fun cd=>Gu K (iY K p.T cd.1)&&Br (ZC K (.ref (iY K p.T cd.1)) e.1) fun f=>Dx K cd.2 f) &&
 p.id.all (fun cd=>aei K (iY K p.T cd.1)&&ZH K (.ref (iY K p.T cd.1))&&Br (ZC K (.ref (iY K p.T cd.1)) "__init__") fun f=>Dx K cd.2 f) &&
 p.T.pJ.all (fun c=>adB K (.ref (iY K p.T c)) "__getattribute__" == some (some (.builtin "type.__getattribute__"))&&af7 K (iY K p.T c) (.type "type")&&Ui (ael K (.ref (iY K p.T c)) (.type "type") "__init__") fun f=>match p.id.lookup c with | some d=>Dx K d f | none=>false) &&
 (decide (p.T.nH.length=p.K5.length)&&(p.T.nH.zip p.K5).all fun e=>e.1==K8||HG K (abK K mainGlobals e.1) e.2) &&
 p.Ug.all (fun e=>Gu K (iY K p.T e.1)&&e.2.all fun f=>Gr (ZC K (.ref (iY K p.T e.1)) f)) &&
 Gp.all (fun x=>Gr (abK K mainGlobals x))
def sI (K:e_) (T:Tb) (ii:Bool) (d:Df) (a:Addr):S:=match K.lookup a with
 | some ⟨_,_,.func fd,_⟩=>(match fd.body with | .stmts b=>Du ⟨⟨T,d.an⟩,d.fz,ii⟩ 60 ⟨d.N,fd.scope⟩ b | _=>.never)
 | _=>.never
noncomputable def Uj (o:m_ (m_ Value)):Addr:=match o with | some (some (.ref a))=>a | _=>0
noncomputable def X1 (o:m_ aeM):Addr:=match o with | some (.val (.ref a))=>a | _=>0
noncomputable def Q8 {α:Type} (o:m_ Df) (f:Df->α):m_ α:=match o with | some d=>some (f d) | none=>none
structure K9 (K:e_) (p:Pg):Prop where
 f:(p.fd.map fun o=>Q8 o fun d=>sI K p.T false d (Uj (abK K mainGlobals d.x)))=p.fd.map fun o=>Q8 o (·.c)
 m:((p.T.j7.zip p.md).map fun e=>e.2.map fun cd=>sI K p.T false cd.2 (Uj (ZC K (.ref (iY K p.T cd.1)) e.1)))=(p.T.j7.zip p.md).map fun e=>e.2.map (·.2.c)
 i:(p.id.map fun cd=>sI K p.T true cd.2 (Uj (ZC K (.ref (iY K p.T cd.1)) "__init__")))=p.id.map (·.2.c)
 c:(p.T.pJ.map fun c=>Q8 (p.id.lookup c) fun d=>sI K p.T true d (X1 (ael K (.ref (iY K p.T c)) (.type "type") "__init__")))=p.T.pJ.map fun c=>Q8 (p.id.lookup c) (·.c)
theorem iZ:∀ {ps:List Str}{us:List Value}{x:Str}{u:Value}{i:Nat},ps.Nodup->ps[i]? = some x->us[i]? = some u->(ps.zip us).lookup x=some u
 | [],_,_,_,_,_,h,_=>by simp at h
 | _::_,[],_,_,_,_,_,h=>by simp at h
 | p::ps,v::us,x,u,0,n,h1,h2=>by
  simp at h1 h2;subst h1;subst h2;rw[aa5,Zt,abx]
 | p::ps,v::us,x,u,i+1,n,h1,h2=>by
  simp only[acC] at h1 h2;obtain⟨n1,n2⟩:=abM.mp n
  have ne:(x==p)=false:=by
   rw[aaw];intro e;subst e;exact n1 (y_ h1)
  rw[aa5,Zt,ne];exact iZ n2 h1 h2
theorem DA:∀ {ps:List Str}{us:List Value}{f:Str->m_ Value},ps.length=us.length->(∀ (i:Nat) x u,ps[i]? = some x->us[i]? = some u->f x=some u)->(ps.filterMap fun n=>(f n).map (n,·))=ps.zip us
 | [],us,f,l,h=>by simp
 | p::ps,[],f,l,h=>by simp at l
 | p::ps,u::us,f,l,h=>by
  rw[Zw,h 0 p u rfl rfl,aa5];simp only[acm];rw[DA (by simpa using l) fun i x v h1 h2=>h (i+1) x v (by simpa using h1) (by simpa using h2)]
def wB {x qual:Str}{a:afR}{b:List Stmt}{sc:Scope}{ps:List Str} (h:wA a ps=true) (kV doc pm:Value) (an:m_ Addr) (jZ ct:Value) (us:List Value) (l:us.length=ps.length) :
  afv (aaW x qual a b sc .none kV doc pm an jZ ct) ⟨us,[]⟩=pure (ps.zip us):=by
 unfold wA at h;obtain⟨h,h6⟩:=ay h;obtain⟨h,h5⟩:=ay h;obtain⟨h,h4⟩:=ay h;obtain⟨h,h3⟩:=ay h;obtain⟨h1,h2⟩:=ay h;obtain⟨po,ar,va,ko,kd,kw,df⟩:=a;dsimp only at h1 h2 h3 h4 h5 h6;rw[acT] at h1 h4;rw[Option.isNone_iff_eq_none] at h3 h5;have hp:ar.map (·.arg)=ps:=l_ h2;have nd:ps.Nodup:=l_ h6;subst h1 h3 h4 h5;have lk:∀ (i:Nat) x u,ps[i]? = some x->us[i]? = some u->(ps.zip us).lookup x=some u:=fun i x u e1 e2=>iZ nd e1 e2
 have z:=DA (f:=fun n=>(ps.zip us).lookup n) l.symm lk
 have X2:(ps.filter fun n=>((ps.zip us).lookup n).isNone)=[]:=by
  rw[aac];intro n hn;obtain⟨i,hi,e⟩:=aaF.mp hn;rw[lk i n (us[i]'∅) (by rw[<-e];exact b_ hi) (b_ ∅)];simp
 have e0:∀ (β:Type) (k:m_ (Array Value)->Sem β),(seqItems? abF >>= k)=k none:=fun _ _=>rfl
 have e1:∀ (β γ:Type) (b:β) (k:β->Sem γ),((pure b:Sem β) >>= k)=k b:=fun _ _ _ _=>rfl
 subst hp
 have np:¬ ((decide (us.length>(ar.map (·.arg)).length)&&(none:m_ Arg).isNone)=true):=by
  rw[f_ ∅];decide
 unfold afv;simp only[Z_,af8,ZU,adq,e0,e1,adU,List.drop_nil,abO,afJ,aa1,s_ np,X2,List.isEmpty_nil,Bool.not_true,s_ u_,List.zip_nil_right,z]
section
variable {P:N_}{w:World}{K:e_}{mg:Str->m_ Value}{base:Heap}{p:Pg}{T:Tb}{ii:Bool}{d:Df}{a:Addr}
structure lE (K:e_) (T:Tb) (ii:Bool) (d:Df) (a:Addr) (fd:Z4) (st:Stmt):Prop where
 fn:Co K d.x d.qual st a fd
 bi:Binds K fd d.ps []
 ba:∀ us:List Value,us.length=d.ps.length->afv fd ⟨us,[]⟩=pure (d.ps.zip us)
 ch:Bq T ii st d.N d.ps d.c
 kp:ZH K (.ref a)=true
 VU:acF K (.ref a)=true
def PR {fd:Z4}{x q:Str}{b:List Stmt} (h1:fd.name=x) (h2:fd.qualname=q) (h3:fd.body=.stmts b) (h4:fd.globals=mainGlobals) (h5:fd.closure=[]) (h6:fd.defaults=.none) (h7:fd.builtins=ad2) :
  fd=aaW x q fd.params b fd.scope .none fd.kwdefaults fd.doc fd.pyModule fd.annotations fd.code fd.closureTuple:=by
 cases fd
 cases h1;cases h2;cases h3;cases h4;cases h5;cases h6;cases h7
 rfl
def at_of {fd:Z4}{b:List Stmt}{oc:Value}{od:m_ Addr}{sl:Array (m_ Value)} (e:K.lookup a=some ⟨oc,od,.func fd,sl⟩) (hf:acF K (.ref a)=true) (hd:fd=aaW d.x d.qual fd.params b fd.scope .none fd.kwdefaults fd.doc fd.pyModule fd.annotations fd.code fd.closureTuple)
  (h7:ab0 K fd.code d.qual=true) (h8:wA fd.params d.ps=true) (h9:pN d.N d.ps fd.scope=true) (HD:Du ⟨⟨T,d.an⟩,d.fz,ii⟩ 60 ⟨d.N,fd.scope⟩ b=d.c):∃ fd st,lE K T ii d a fd st:=by
 have kp:ZH K (.ref a)=true:=by unfold ZH;dsimp only;rw[e]
 rw[hd] at e;have F:=JI (st:=.FunctionDef d.x fd.params b [] none [] fd.scope none d.x ⟨0,0,0,0⟩) e h7 kp;exact⟨_,_,F,F.binds fun kV doc pm an jZ ct us l=>wB h8 kV doc pm an jZ ct us l,fun us l=>wB h8 _ _ _ _ _ _ us l,⟨⟨⟨T,d.an⟩,d.fz,ii⟩,rfl,rfl,h9,HD⟩,kp,hf⟩
def DB {v:Value} (h:HE v=true):v=.none:=by cases v<;>first | rfl | cases h
def DC {sc:Scope}{bd:FuncBody} (h:HF d sc bd=true):∃ b,bd=.stmts b/\pN d.N d.ps sc=true:=by cases bd<;>first | exact⟨_,rfl,h⟩ | cases h
def La {fd:Z4} (h:Uh K d fd=true):ab0 K fd.code d.qual=true/\wA fd.params d.ps=true/\∃ b,fd=aaW d.x d.qual fd.params b fd.scope .none fd.kwdefaults fd.doc fd.pyModule fd.annotations fd.code fd.closureTuple/\pN d.N d.ps fd.scope=true/\fd.body=.stmts b:=by
 unfold Uh at h;simp only[v_,abl] at h;obtain⟨⟨⟨⟨⟨⟨⟨⟨h1,h2⟩,h3⟩,h4⟩,h5⟩,h6⟩,h7⟩,h8⟩,h9⟩:=h;obtain⟨b,e,h9⟩:=DC h9;exact⟨h7,h8,b,PR h1 h2 e h3 (acT.mp h4) (DB h5) h6,h9,e⟩
def oj (h:Dx K d a=true) (hc:sI K T ii d a=d.c):∃ fd st,lE K T ii d a fd st:=by
 obtain⟨hf,h⟩:=ay h
 cases e:K.lookup a with
 | none=>rw[e] at h;cases h
 | some o =>
  rw[e] at h;obtain⟨oc,od,dat,sl⟩:=o
  cases dat with
  | func fd =>
   obtain⟨h7,h8,b,hd,h9,hb⟩:=La h;refine at_of e hf hd h7 h8 h9 ?_;unfold sI at hc;rw[e] at hc;dsimp only at hc;rw[hb] at hc;exact hc
  | _=>cases h
def om {o:m_ (m_ Value)}{k:Addr->Bool} (h:Br o k=true):∃ a,o=some (some (.ref a))/\k a=true:=by
 unfold Br at h;split at h
 ·exact⟨_,rfl,h⟩
 ·cases h
def Lb {o:m_ aeM}{k:Addr->Bool} (h:Ui o k=true):∃ a,o=some (.val (.ref a))/\k a=true:=by
 unfold Ui at h;split at h
 ·exact⟨_,rfl,h⟩
 ·cases h
def zT {o:m_ (m_ Value)} (h:Gr o=true):o=some none:=by
 unfold Gr at h;split at h
 ·rfl
 ·cases h
theorem wC {cl:Cl}{G:Hp}:∀ {us:List Value}{ds:List Dt},Dy us ds=true->∃ vs,Vals vs us/\IsL K cl G ds vs
 | [],[],_=>⟨[],.nil,IsL.nil⟩
 | .str x t::us,.str y::ds,h=>by
  obtain⟨h1,h2⟩:=ay h
  cases l_ h1
  obtain⟨vs,r,i⟩:=wC h2;exact⟨.str x::vs,.cons ⟨t,rfl⟩ r,IsL.cons (by unfold Is;rfl) i⟩
def Gv {cl:Cl}{G:Hp}{ds:List Dt} (h:K7 K a ds=true):Is K cl G (.sD ds) (.ref a):=by
 unfold K7 at h;split at h
 ·rename_i c od ai n sl e;obtain⟨h,h3⟩:=ay h;obtain⟨h1,h2⟩:=ay h;obtain⟨vs,r,i⟩:=wC h3;unfold Is;exact⟨a,vs,rfl,.inr ⟨_,ai,n,e,l_ h1,rfl,R_ (l_ h2) (2),r⟩,i⟩
 ·cases h
def zU {C:Addr} (h:Gu K C=true):vm K C:=by
 unfold Gu at h;obtain⟨h,h4⟩:=ay h;obtain⟨h,h3⟩:=ay h;obtain⟨h1,h2⟩:=ay h;exact⟨h1,h2,h3,aap.mp h4⟩
def Lc {c:Nat}{x:Str}{C:Addr} (h:T.cls[c]? = some x) (e:abK K mainGlobals x=some (some (.ref C))):iY K T c=C:=by
 unfold iY;rw[B_,h];show (match abK K mainGlobals x with | some (some (.ref a))=>a | _=>0)=C;rw[e]
theorem lookup_mem {α:Type}{c:Nat}{x:α}:∀ {l:List (Nat×α)},l.lookup c=some x->(c,x)∈l
 | [],h=>nomatch h
 | (k,y)::r,h=>by
  rw[Zt] at h
  cases q:c==k with
  | true=>rw[q] at h;cases h;rw[aap.mp q];exact W_
  | false=>rw[q] at h;exact J_ _ (lookup_mem h)
def sJ {CX:xY}{n:Nat}{f:Addr}{fd:Z4}{ps:List Str}{sp:Sp} (h:∀ vs H Q E,¬ sp vs H Q E):bN P w K mg base CX n f fd ps sp:=⟨fun vs H Q E z=>(h vs H Q E z).elim,fun A outer s H args us vs Q E _ _ _ _ z=>(h vs H Q E z).elim⟩
structure Facts (K:e_) (p:Pg) (mg:Str->m_ Value) (w:World):Prop where
 fn:∀ (f:Nat) x,p.T.fns[f]? = some x->'2'=false->∃ d a fd st,p.fd[f]? = some (some d)/\mg x=some (.ref a)/\lE K p.T false d a fd st
 kl:∀ (c:Nat) x,p.T.cls[c]? = some x->'2'=false->mg x=some (.ref (iY K p.T c))/\ZH K (.ref (iY K p.T c))=true
 me:∀ (m:Nat) x,p.T.j7[m]? = some x->∀ c d,(p.md.getD m []).lookup c=some d->vm K (iY K p.T c)/\∃ a fd st,ZC K (.ref (iY K p.T c)) x=some (some (.ref a))/\lE K p.T false d a fd st
 bp:∀ (c:Nat) d,p.id.lookup c=some d->∃ a fd st,Mk K (iY K p.T c) a/\lE K p.T true d a fd st
 cm:∀ (c:Nat),p.T.pJ.contains c=true->∃ a fd st d,p.id.lookup c=some d/\JQ K (iY K p.T c) "__init__" a/\lE K p.T true d a fd st
 cs:∀ (k:Nat) x,p.T.nH[k]? = some x->'2'=false->∃ u v,mg x=some u/\RelV v u/\∀ G,Is K ⟨iY K p.T,w⟩ G (p.cs k) v
 at_:∀ n f,p.at_ n f=true->vm K (iY K p.T n)/\ez K (iY K p.T n) f
 bt:∀ x∈Gp,mg x=none
def DD {h:Heap} (hc:Dz K p=true) (hk:K9 K p) (X:K.In h) (G:h.Ns mainGlobals mg):Facts K p mg w:=by
 unfold Dz at hc;obtain⟨hc,c9⟩:=ay hc;obtain⟨hc,c8⟩:=ay hc;obtain⟨hc,c7⟩:=ay hc;obtain⟨hc,c6⟩:=ay hc;obtain⟨hc,c5⟩:=ay hc;obtain⟨hc,c4⟩:=ay hc;obtain⟨hc,c3⟩:=ay hc;obtain⟨c1,c2⟩:=ay hc;have c1:=l_ c1;obtain⟨Uk,c7⟩:=ay c7;have Uk:=l_ Uk;rw[Zn] at c2 c3 c4 c5 c6 c7 c8 c9;refine⟨fun f x hx hd=>?_,fun c x hx hd=>?_,fun m x hx c d hl=>?_,fun c d hl=>?_,fun c VV=>?_,fun k x hx hd=>?_,fun n f hn=>?_,fun x hx=>?_⟩
 ·rw[c1,g_] at hx;obtain⟨o,ho,e⟩:=o_.mp hx
  cases o with
  | none=>rw[<-e] at hd;exact absurd hd (by unfold K8;rw[abx];decide)
  | some d =>
   obtain⟨a,e1,e2⟩:=om (c2 _ (y_ ho));have z:=(abX.mp hk.f) (some d) (y_ ho);obtain⟨fd,st,A⟩:=oj (T:=p.T) (ii:=false) e2 (by have z:=M_ z;dsimp only at z;rw[e1] at z;exact z);exact⟨d,a,fd,st,ho,by rw[<-e];exact acY X G e1,A⟩
 ·have:=c3 x (y_ hx);have qK:(x==K8)=false:=hd;rw[qK,ae4] at this;obtain⟨a,e1,e2⟩:=om this;rw[Lc hx e1];exact⟨acY X G e1,e2⟩
 ·have hm:p.md[m]? = some (p.md.getD m []):=by
   rw[B_] at hl ⊢
   cases q:p.md[m]? with
   | none=>rw[q] at hl;exact nomatch hl
   | some l=>rfl
  have PU:(x,p.md.getD m [])∈p.T.j7.zip p.md:=y_ (i:=m) (by rw[aaz];exact⟨hx,hm⟩);have:=c4 (x,p.md.getD m []) PU;have:=(Zn.mp this) (c,d) (lookup_mem hl);obtain⟨k1,k2⟩:=ay this;obtain⟨a,e1,e2⟩:=om k2;have z:=(abX.mp ((abX.mp hk.m) _ PU)) (c,d) (lookup_mem hl);obtain⟨fd,st,A⟩:=oj (T:=p.T) (ii:=false) e2 (by dsimp only at z;rw[e1] at z;exact z);exact⟨zU k1,a,fd,st,e1,A⟩
 ·have:=c5 (c,d) (lookup_mem hl);obtain⟨k,k3⟩:=ay this;obtain⟨k1,k2⟩:=ay k;obtain⟨a,e1,e2⟩:=om k3;have z:=(abX.mp hk.i) (c,d) (lookup_mem hl);obtain⟨fd,st,A⟩:=oj (T:=p.T) (ii:=true) e2 (by dsimp only at z;rw[e1] at z;exact z);exact⟨a,fd,st,⟨k1,e1,A.VU,k2⟩,A⟩
 ·have:=c6 c (abV.mp VV);obtain⟨k,k3⟩:=ay this;obtain⟨k1,k2⟩:=ay k;obtain⟨a,e1,e2⟩:=Lb k3
  cases q:p.id.lookup c with
  | none=>rw[q] at e2;cases e2
  | some d =>
   rw[q] at e2;have z:=(abX.mp hk.c) c (abV.mp VV);obtain⟨fd,st,A⟩:=oj (T:=p.T) (ii:=true) e2 (by rw[q] at z;have z:=M_ z;dsimp only at z;rw[e1] at z;exact z);exact⟨a,fd,st,d,rfl,⟨aap.mp k1,k2,e1,A.kp⟩,A⟩
 ·have hl:k<p.K5.length:=by rw[<-Uk];exact (i_.mp hx).1
  have:=c7 (x,p.K5[k]) (y_ (i:=k) (by rw[aaz];exact⟨hx,b_ hl⟩));have qK:(x==K8)=false:=hd;dsimp only at this;rw[qK,ae4] at this;have e:p.cs k=p.K5[k]:=by unfold Pg.cs;rw[B_,b_ hl];rfl
  rw[e];generalize p.K5[k]=d at this;unfold HG at this;split at this
  ·rename_i i t j q;have:=l_ this;subst this;exact⟨_,.int _,acY X G q,⟨_,rfl⟩,fun G=>by unfold Is;rfl⟩
  ·rename_i i t j q;have:=l_ this;subst this;exact⟨_,.str _,acY X G q,⟨_,rfl⟩,fun G=>by unfold Is;rfl⟩
  ·rename_i a ds q;exact⟨_,.ref a,acY X G q,rfl,fun G=>Gv this⟩
  ·cases this
 ·unfold Pg.at_ at hn
  cases q:p.Ug.lookup n with
  | none=>rw[q] at hn;cases hn
  | some fs =>
   rw[q] at hn;obtain⟨k1,k2⟩:=ay (c8 (n,fs) (lookup_mem q));exact⟨zU k1,zT ((Zn.mp k2) f (abV.mp hn))⟩
 ·exact PySem.W.mg_none_of X G (zT (c9 x hx))
def DE {M:Mem}{x:Dt}{c c':Nat}{fs fR:List Str} (h:fY M x (fun n f=>n=c/\f=fs)) (h':fY M x (fun n f=>n=c'/\f=fR)):c=c':=by
 unfold fY at h h'
 cases x with
 | obj n f _=>exact h.1.symm.trans h'.1
 | j3 a =>
  dsimp only at h h'
  cases q:M a with
  | none=>rw[q] at h;exact h.elim
  | some o =>
   rw[q] at h h'
   cases o with
   | mo n f _=>exact h.1.symm.trans h'.1
   | _=>exact h.elim
 | _=>exact h.elim
def FX (P:N_) (w:World) (K:e_) (mg:Str->m_ Value) (base:Heap) (p:Pg) (n:Nat):Prop:=Fx (p.Z n) ⟨iY K p.T,w⟩ P w K mg base n p.T.fns p.T.j7 p.T.cls p.T.nH p.T.pJ
def Ul {n f:Nat}{ds:List Dt}{M:Mem}{k:Dt->Mem->Prop} (h:(p.Z (n+1)).fn f ds M k):∃ d,p.fd[f]? = some (some d)/\ds.length=d.ps.length/\ex (p.Z n) d.c (bp d.N d.ps (ds.map Sl.sh)) M { nx:=fun _ M'=>k .az M',rt:=k }:=h
def Um {n m:Nat}{x:Dt}{r:List Dt}{M:Mem}{k:Dt->Mem->Prop}{c:Nat}{fs:List Str}{d:Df} (hx:fY M x (fun c' fR=>c'=c/\fR=fs)) (hd:(p.md.getD m []).lookup c=some d) (h:(p.Z (n+1)).me m (x::r) M k):(x::r).length=d.ps.length/\ex (p.Z n) d.c (bp d.N d.ps ((x::r).map Sl.sh)) M { nx:=fun _ M'=>k .az M',rt:=k }:=by
 obtain⟨x',r',c',fR,d',e1,e2,e3,e4⟩:=h
 cases e1
 obtain rfl:=DE hx e2;rw[hd] at e3
 cases e3
 exact e4
def PX {n c:Nat}{o:Dt}{ds:List Dt}{M:Mem}{k:Dt->Mem->Prop} (h:(p.Z (n+2)).bp c o ds M k):∃ d,p.id.lookup c=some d:=by
 obtain⟨_,_,_,_,d,_,_,e,_⟩:=h;exact⟨d,e⟩
def PY {n c q:Nat}{fs:List Str}{xs ds:List Dt}{M:Mem}{k:Dt->Mem->Prop}{d:Df} (hd:p.id.lookup c=some d) (h:(p.Z (n+2)).bp c (.obj q fs xs) ds M k):ds.length+1=d.ps.length/\ex (p.Z n) d.c (bp d.N d.ps (.ow (.obj q fs xs)::ds.map Sl.sh)) M { nx:=fun ρ M'=>dv ρ 0 fun d=>pE d fun q' fR vb=>q'=q/\k (.obj q fR vb) M',rt:=fun _ _=>False }:=by
 obtain⟨_,_,_,_,d',e1,e2,e3,e4⟩:=h
 cases e1;cases e2
 rw[hd] at e3
 cases e3
 exact e4
def HI {c:Nat}{o:Dt}{ds:List Dt}{M:Mem}{k:Dt->Mem->Prop} (h:(p.Z 1).bp c o ds M k):False:=by
 obtain⟨_,_,_,_,_,e,_⟩:=h;exact nomatch e
def PZ {n m c:Nat}{fs:List Str}{x:Str} (h:(p.Z n).hm m c fs=true) (hx:p.T.j7[m]? = some x):fs.contains x=false/\∃ d,(p.md.getD m []).lookup c=some d:=by
 rw[Pg.gM] at h;unfold Pg.hm at h;rw[hx] at h
 cases q:(p.md.getD m []).lookup c with
 | none=>rw[q] at h;cases h
 | some d=>rw[q] at h;exact⟨by simpa using h,d,rfl⟩
def DF {n:Nat} (F:Facts K p mg w)
  (hf:∀ (f:Nat) d a fd st,p.fd[f]? = some (some d)->lE K p.T false d a fd st->bN P w K mg base mj n a fd d.ps (OJ K ⟨iY K p.T,w⟩ ((p.Z n).fn f)))
  (ho:∀ (f:Nat) d a fd st,p.fd[f]? = some (some d)->lE K p.T false d a fd st->bN P w K mg base mj n a fd d.ps (OL K ⟨iY K p.T,w⟩ ((p.Z n).fo f)))
  (hm:∀ (m c:Nat) d a fd st,(p.md.getD m []).lookup c=some d->lE K p.T false d a fd st->bN P w K mg base mj n a fd d.ps (OM K ⟨iY K p.T,w⟩ c ((p.Z n).me m)))
  (hi:∀ c d ds M k,(p.Z n).bp c d ds M k->∃ a fd ps j,n=j+1/\bN P w K mg base mj j a fd ps (F6 K ⟨iY K p.T,w⟩ ((p.Z n).bp c))/\Binds K fd ps []/\Mk K (iY K p.T c) a)
  (hc:∀ c d a fd st,p.id.lookup c=some d->lE K p.T true d a fd st->bN P w K mg base mj n a fd d.ps (F6 K ⟨iY K p.T,w⟩ ((p.Z n).bp c))):FX P w K mg base p n:=by
 refine⟨fun f x hx hd=>?_,fun f x hx hd=>?_,fun m x hx c fs h=>?_,F.kl,hi,fun c h=>?_,fun k x h1 h2=>?_,fun m f h=>?_,rfl⟩
 ·obtain⟨d,a,fd,st,e1,e2,A⟩:=F.fn f x hx hd;exact⟨a,fd,d.ps,e2,A.kp,A.bi,hf f d a fd st e1 A⟩
 ·obtain⟨d,a,fd,st,e1,e2,A⟩:=F.fn f x hx hd;exact⟨a,fd,d.ps,e2,A.kp,A.bi,ho f d a fd st e1 A⟩
 ·obtain⟨h1,d,h2⟩:=PZ h hx;obtain⟨h3,a,fd,st,h4,A⟩:=F.me m x hx c d h2;exact⟨h1,h3,a,fd,d.ps,⟨h4,A.VU,A.kp⟩,A.bi,hm m c d a fd st h2 A⟩
 ·obtain⟨a,fd,st,d,h1,h2,A⟩:=F.cm c h;exact⟨a,fd,d.ps,h2,hc c d a fd st h1 A,A.bi⟩
 ·rw[Pg.K6];exact F.cs k x h1 h2
 ·rw[Pg.PQ] at h;exact F.at_ m f h
def DG {c:Nat}{pf:Dt->List Dt->Mem->(Dt->Mem->Prop)->Prop}{cl:Cl} (h:∀ o ds M k,¬ pf o ds M k) (vs:List V) (H:Hp) (Q:VK) (E:XK):¬ F6 K cl pf vs H Q E:=fun z=>by
 obtain⟨G,M,a,n,fs,xs,dx,us,L1,ds,k,_,_,_,_,_,_,_,_,_,h4,_⟩:=z;exact h _ _ _ _ h4
def oo (F:Facts K p mg w):FX P w K mg base p 0:=by
 refine DF F (fun f d a fd st _ _=>sJ fun vs H Q E h=>?_) (fun f d a fd st _ _=>sJ fun vs H Q E h=>?_) (fun m c d a fd st _ _=>sJ fun vs H Q E h=>?_) (fun c d ds M k h=>h.elim) fun c d a fd st _ _=>sJ (DG (c:=0) fun _ _ _ _ z=>z)
 ·obtain⟨G,M,ds,k,_,_,_,h4,_⟩:=h;exact h4
 ·obtain⟨G,M,ds,k,_,_,_,h4,_⟩:=h;exact h4
 ·obtain⟨G,M,d,ds,k,fs,_,_,_,_,h4,_⟩:=h;exact h4
def HJ {n f:Nat}{d:Df}{fd:Z4}{st:Stmt} (F:Facts K p mg w) (f0:FX P w K mg base p n) (e:p.fd[f]? = some (some d)) (A:lE K p.T false d a fd st):bN P w K mg base mj (n+1) a fd d.ps (OJ K ⟨iY K p.T,w⟩ ((p.Z (n+1)).fn f)) :=
 HC (T:=p.T) f0 F.bt A.fn A.ch fun ds M k h=>by
  obtain⟨d',h1,h2⟩:=Ul h;rw[e] at h1
  cases h1
  exact h2
def HK {n f:Nat}{d:Df}{fd:Z4}{st:Stmt} (F:Facts K p mg w) (f0:FX P w K mg base p n) (e:p.fd[f]? = some (some d)) (A:lE K p.T false d a fd st):bN P w K mg base mj (n+1) a fd d.ps (OL K ⟨iY K p.T,w⟩ ((p.Z (n+1)).fo f)) :=
 PJ (T:=p.T) f0 F.bt A.fn A.ch fun ds M k h=>by
  obtain⟨d',h1,h2⟩:=h;rw[e] at h1
  cases h1
  exact h2
def HL {n c:Nat}{d:Df}{fd:Z4}{st:Stmt} (F:Facts K p mg w) (f0:FX P w K mg base p n) (e:p.id.lookup c=some d) (A:lE K p.T true d a fd st):bN P w K mg base mj (n+1) a fd d.ps (F6 K ⟨iY K p.T,w⟩ ((p.Z (n+2)).bp c)) :=
 PL (T:=p.T) f0 F.bt A.fn A.ch fun _ _ _ _ _ _ h=>PY e h
def DH (F:Facts K p mg w) (n:Nat):FX P w K mg base p n:=by
 have two:∀ n,FX P w K mg base p n/\FX P w K mg base p (n+1):=by
  have me:∀ n,FX P w K mg base p n->∀ (m c:Nat) d a fd st,(p.md.getD m []).lookup c=some d->lE K p.T false d a fd st->bN P w K mg base mj (n+1) a fd d.ps (OM K ⟨iY K p.T,w⟩ c ((p.Z (n+1)).me m)):=fun n f0 m c d a fd st e A=>PK (T:=p.T) f0 F.bt A.fn A.ch fun _ _ _ _ _ hx h=>Um hx e h
  intro n
  induction n with
  | zero=>exact⟨oo F,DF F (fun f d a fd st e A=>HJ F (oo F) e A) (fun f d a fd st e A=>HK F (oo F) e A) (me 0 (oo F)) (fun _ _ _ _ _ h=>(HI h).elim) fun _ _ _ _ _ _ _=>sJ (DG (c:=0) fun _ _ _ _ z=>HI z)⟩
  | succ n ih =>
   refine⟨ih.2,DF F (fun f d a fd st e A=>HJ F ih.2 e A) (fun f d a fd st e A=>HK F ih.2 e A) (me _ ih.2) (fun c o ds M k h=>?_) fun c d a fd st e A=>(HL F ih.1 e A).mono ∅⟩;obtain⟨d',e3⟩:=PX h;obtain⟨a,fd,st,mk,A⟩:=F.bp c d' e3;exact⟨a,fd,d'.ps,n+1,rfl,HL F ih.1 e3 A,A.bi,mk⟩
 exact (two n).1
def HM (K:e_):Sp:=fun vs H Q _=>∃ (a:Addr) (ns:List Int),vs=[.ref a]/\cE K H a (ns.map V.int)/\ns.length<=63/\∀ H',Q (.bl true) H'
theorem Ld {h:Heap}{lw n:Nat}{df:Df}{fa:Addr} (hc:Dz K p=true) (hk:K9 K p) (X:K.In h) (G:h.Ns mainGlobals mg) (VW:mg "law" = some (.ref fa)) (h1:p.fd[lw]? = some (some df)) (h2:df.x = "law") (h3:df.ps=[("_law_script" : Str)])
  (hl:∀ (ns:List Int) k,ns.length<=63->(∀ M',k (.bl true) M')->(p.Z n).fn lw [.og (ns.map .int)] (fun _=>none) k):∃ fd:Z4,(∀ (s:j_) (v:Value),afu s fd ⟨[v],[]⟩ [("_law_script",v)])/\∀ base:Heap,K.In base->base.Ns mainGlobals mg->bN P w K mg base mj n fa fd ["_law_script"] (HM K):=by
 have F:Facts K p mg w:=DD hc hk X G
 have c1:p.T.fns=p.fd.map fun o=>match o with | some d=>d.x | none=>K8:=by
  unfold Dz at hc;simp only[v_] at hc;exact l_ hc.1.1.1.1.1.1.1.1
 have hx:p.T.fns[lw]? = some "law" := by rw[c1,g_,h1];exact congrArg some h2
 obtain⟨d,a,fd,st,e1,e2,A⟩:=F.fn lw "law" hx (2);rw[h1] at e1
 cases e1
 rw[VW] at e2
 cases e2
 refine⟨fd,fun s v=>.of_eq (by have:=A.ba [v] (by rw[h3];rfl);rw[h3] at this;exact this),fun base _ _=>?_⟩;obtain⟨a',Q9,QX,k1,k2,k3,k4⟩:=(DH (P:=P) (base:=base) F n).fn lw "law" hx (2);rw[VW] at k1
 cases k1
 obtain⟨oc,od,kV,doc,pm,an,jZ,ct,AI,rfl,lk,l7⟩:=A.fn.ex
 cases n with
 | zero=>exact sJ fun vs H Q E z=>by obtain⟨b,ns,_,_,hn,_⟩:=z;exact hl ns (fun _ _=>True) hn fun _=>trivial
 | succ n =>
  have k:=HC (T:=p.T) (pf:=(p.Z (n+1)).fn lw) (DH (P:=P) (base:=base) F n) F.bt A.fn A.ch fun ds M k h=>by
   obtain⟨d',q1,q2,q3⟩:=h;rw[h1] at q1
   cases q1
   exact⟨q2,q3⟩
  rw[h3] at k;refine k.imp fun vs H Q E z=>?_
  obtain⟨b,ns,rfl,hs,hn,hQ⟩:=z;refine⟨H,fun _=>none,[.og (ns.map .int)],fun d _=>d=.bl true,ag.refl H,(fun _ _ z=>nomatch z),IsL.cons (by unfold Is;exact⟨b,_,rfl,hs,IsL.ints ns⟩) IsL.nil,hl ns _ hn fun _=>rfl,fun d M' v G' H' e f i=>?_⟩;subst e;unfold Is at i;subst i;exact hQ H'
def Gw {l:af6}{q:N_}{loose:List Str}{XP:(Str->m_ Value)->Heap->Prop}{YP:World->Heap->Prop}{d:DefRec}{K:Params->e_}{lw n:Nat}{df:Df} (hn:l.most=some 63) (MV:d.params.defaults=[]) (X3:d.name = "law") (hr:cg n aeb)
  (hY:∀ (w:World) (h:Heap),YP w h->(K w.params).In h) (hc:∀ w:World,Dz (K w.params) p=true) (hk:∀ w:World,K9 (K w.params) p) (h1:p.fd[lw]? = some (some df)) (h2:df.x = "law") (h3:df.ps=[("_law_script" : Str)])
  (hl:∀ (ns:List Int) k,ns.length<=63->(∀ M',k (.bl true) M')->(p.Z n).fn lw [.og (ns.map .int)] (fun _=>none) k):agB q loose XP YP l.row.toRowW d [] (fun f vs=>agq f vs) :=
 L2.Fi (n:=63) (k:=n) (x := "_law_script") (CX:=fun _=>mj) (sp:=fun w=>HM (K w.params)) hn (2) MV hr hY (fun w mg fa h KX G JF=>Ld (hc w) (hk w) KX G (by rw[<-X3];exact JF) h1 h2 h3 hl) (fun _ _ a ns hl _ hS=>⟨a,ns,rfl,hS,hl,fun _=>rfl⟩) fun _ _ _ _ _ z=>z
end
end PV
namespace K18
open PySem L2 SH PV
section
set_option hygiene false
local macro_rules|`($c:char)=>`(.v $(Lean.quote (c.getChar.toNat-48)))
local macro_rules
|`(#[$a])=>`(.seq $a .skip)
|`(#[$a,$b,*])=>`(.seq $a #[$b,*])
|`(⟨$a⟩)=>`(.cons $a .nil)
|`(⟨$a,$b,*⟩)=>`(.cons $a ⟨$b,*⟩)
|`($a+$b)=>`(.bin .add $a $b)
|`($a-$b)=>`(.bin .sub $a $b)
|`($a*$b)=>`(.bin .mul $a $b)
|`($a/$b)=>`(.bin .fdiv $a $b)
|`($a%$b)=>`(.bin .mod $a $b)
|`($a==$b)=>`(.eq false $a $b)
|`($a !=$b)=>`(.eq true $a $b)
|`(-$a)=>`(.i $a)
def kb:S:=#[.ret (.and (.isi '0' 0) (.one (.not (.isi '0' 1))))]
def mG:S:=#[.ite (.not (.isi '0' 2)) #[.ret (.b false)] .skip,.ite (.not (.chn .le .le (-1) (.len '0') (.g 1))) #[.ret (.b false)] .skip,.ret (.all (.fr (.comp (.itl '0') 1 [] (.b true) (.ins '0' (.g 0)))))]
def gN:S:=#[.ite (.not (.isi '0' 3)) #[.never] .skip,.ite (.cmp .gt (.len '0') '1') #[.never] .skip]
def fu:S:=#[.ex (.call 2 ⟨'0','1'⟩),.bL (.itl '0') [2] #[.ite (.not (.call 1 ⟨'2'⟩)) #[.never] .skip]]
def gO:S:=#[.ite (.or (.not (.isi '0' 4)) (.one (.len '0' !=-2))) #[.never] .skip,.ite (.not (.call 1 ⟨.ix '0' (-0)⟩)) #[.never] .skip,.ite (.or (.not (.call 0 ⟨.ix '0' (-1)⟩)) (.one (.not (.chn .le .le (-0) (.ix '0' (-1)) '1')))) #[.never] .skip]
def fv:S:=#[.ex (.call 2 ⟨'0',.g 3⟩),.set 1 (-0),.bL (.itl '0') [2] #[.ex (.call 4 ⟨'2','1'⟩),.set 1 (.min2 (.ix '2' (-1)+-1) (.g 4))]]
def fA:S:=#[.ex (.call 2 ⟨'0',.g 5⟩),.bL (.itl '0') [1] #[.ex (.call 3 ⟨'1',.g 6⟩),.ite (.len '1' !=.len (.ix '0' (-0))) #[.never] .skip]]
def eG:S:=#[.ite (.not (.isi '0' 3)) #[.never] .skip,.set 2 (-0),.bL (.itl '0') [3] #[.ite (.or (.not (.call 0 ⟨'3'⟩)) (.one (.not (.chn .le .lt '2' '3' '1')))) #[.never] .skip,.set 2 ('3'+-1)]]
def kf:S:=#[.ret (.fr (.comp (.itl '1') 1 [0] (.b true) (.ix '1' '0')))]
def i5:S:=#[.ret (.fr (.comp (.enu '0') 2 [1] ('1'=='2') '0'))]
def eH:S:=#[.set 3 (.b false),.bL (.itl '0') [4] #[.ite (.and '3' (.one ('4'=='2'))) #[.ret (.b true)] .skip,.ite ('4'=='1') #[.set 3 (.b true)] .skip],.ret (.b false)]
def bU:S:=#[.ret (.any (.fr (.comp (.zip '0' (.slt '0' ⟨-1⟩ .nil)) 2 [1,2] (.b true) (.and ('0'=='2') (.one ('1'=='3'))))))]
def gP:S:=#[.fZ 0 "spot_marks" (.tpf '1')]
def fB:S:=#[.ret (.fr (.lof (.fld '0' "spot_marks")))]
def dE:S:=#[.ret (.cnt (.fld '0' "spot_marks") '1')]
def cH:S:=#[.ret (.call 10 ⟨.fld '0' "spot_marks",'1','2'⟩)]
def kg:S:=#[.ex (.call 3 ⟨'1',.g 2⟩),.bp 16 ⟨'1'⟩]
def kh:S:=#[.ret (.len (.fld '0' "spot_marks"))]
def ki:S:=#[.ex (.call 7 ⟨'1',.meth 9 '0' .nil⟩),.ret (.mk 17 ⟨.call 8 ⟨.fld '0' "spot_marks",'1'⟩⟩)]
def kj:S:=#[.ret (.tup ⟨.s "row",.fld '0' "spot_marks"⟩)]
def eI:S:=#[.ret (.call 9 ⟨.fld '0' "spot_marks",'1'⟩)]
def eJ:S:=#[.ret (.b false)]
def dF:S:=#[.ret (.call 11 ⟨.fld '0' "spot_marks",'1','2'⟩)]
def fC:S:=#[.ret (.fr (.dsp ⟨'1'⟩))]
def fD:S:=#[.ex (.call 5 ⟨'1'⟩),.bp 16 ⟨.fr (.comp (.itl '1') 1 [] (.b true) (.ix '0' (-0)))⟩,.fZ 0 "nodes" (.tpl '1')]
def fE:S:=#[.ret (.len (.fld '0' "nodes"))]
def fF:S:=#[.ex (.call 7 ⟨'1',.meth 9 '0' .nil⟩),.set 2 (.dct (.fr (.comp (.itl '1') 1 [] (.b true) (.tup ⟨'0',.b true⟩)))),.dw 3 (.dsp .nil),.dw 4 (.dsp ⟨-0⟩),.bL (.enu (.fld '0' "nodes")) [5,6] #[.dw 4 (.slc (.o 4) .nil ⟨.ix '6' (-1)+-1⟩),.set 7 (.ix (.o 4) (.neg (-1))),.ite (.ind '5' '2') #[.app 3 (.tup ⟨.ix '6' (-0),'7'⟩),.app 4 ('7'+-1)] #[.app 4 '7']],.eT 3,.ret (.mk 18 ⟨'3'⟩)]
def fG:S:=#[.ret (.tup ⟨.s "forest",.fld '0' "nodes"⟩)]
def cI:S:=#[.ret (.call 9 ⟨.fld '0' "spot_marks",'1'⟩)]
def cJ:S:=#[.bL (.itl (.meth 12 '0' ⟨'1'⟩)) [3] #[.ite (.inn false '2' (.call 8 ⟨.fld '0' "spot_marks",.fr (.slc (.meth 15 '0' ⟨'3'⟩) ⟨-1⟩ .nil)⟩)) #[.ret (.b true)] .skip],.ret (.b false)]
def cn:S:=#[.bL (.itl (.meth 12 '0' ⟨'1'⟩)) [3] #[.set 4 (.ix (.meth 15 '0' ⟨'3'⟩) (.neg (-1))+-1),.ite (.and (.cmp .lt '4' (.meth 9 '0' .nil)) (.one (.ix (.fld '0' "nodes") '4'==.tup ⟨'2',.ix (.ix (.fld '0' "nodes") '3') (-1)⟩))) #[.ret (.b true)] .skip],.ret (.b false)]
def cY:S:=#[.set 2 ('1'+-1),.LZ (.and (.cmp .lt '2' (.meth 9 '0' .nil)) (.one (.cmp .gt (.ix (.ix (.fld '0' "nodes") '2') (-1)) (.ix (.ix (.fld '0' "nodes") '1') (-1))))) #[.aug 2 .add (-1)],.ret (.fr (.lrg '1' '2'))]
def gQ:S:=#[.ex (.call 6 ⟨'1'⟩),.dw 2 (.dsp .nil),.bL (.itl '1') [3] #[.ext 2 '3'],.eT 2,.bp 16 ⟨'2'⟩,.fZ 0 "lines" (.tpl (.fr (.comp (.itl '1') 1 [] (.b true) (.tpl '0')))),.fZ 0 "columns" (.ife (.tr '1') (.len (.ix '1' (-0))) (-0))]
def gR:S:=#[.ret (.len (.fld '0' "lines")+.fld '0' "columns")]
def gT:S:=#[.ex (.call 7 ⟨'1',.meth 9 '0' .nil⟩),.set 2 (.len (.fld '0' "lines")),.set 3 (.fr (.comp (.itl '1') 1 [0,2] (.cmp .lt '0' '2') (.ix (.fld '1' "lines") '0'))),.set 4 (.fr (.comp (.itl '1') 1 [2] (.cmp .ge '0' '1') ('0'-'1'))),.FY 5 19 ⟨.fr (.comp (.itl '3') 1 [4] (.b true) (.call 8 ⟨'0','1'⟩))⟩,.fZ 5 "columns" (.len '4'),.eT 5,.ret '5']
def gU:S:=#[.ret (.tup ⟨.s "table",.fld '0' "columns",.fld '0' "lines"⟩)]
def cZ:S:=#[.ret (.fr (.comp (.enu (.fld '0' "lines")) 2 [1] (.inn false '2' '1') '0'))]
def dc:S:=#[.bL (.rg1 (.fld '0' "columns")) [3] #[.ite (.call 10 ⟨.fr (.comp (.itl (.fld '0' "lines")) 1 [3] (.b true) (.ix '0' '1')),'1','2'⟩) #[.ret (.b true)] .skip],.ret (.b false)]
def cK:S:=#[.ret (.any (.fr (.comp (.itl (.fld '0' "lines")) 1 [1,2] (.b true) (.call 11 ⟨'0','1','2'⟩))))]
def dG:S:=#[.ret (.fr (.dsp ⟨'1'⟩))]
def gV:S:=#[.ite (.inn true '0' (.g 7)) #[.never] .skip]
def fH:S:=#[.ite (.or (.not (.isi '0' 3)) (.one (.not (.tr '0')))) #[.never] .skip,.bL (.itl '0') [1] #[.ex (.call 42 ⟨'1'⟩)],.ite (.cmp .lt (.lns '0') (.len '0')) #[.never] .skip]
def gW:S:=#[.ite ('0'==-0) #[.ret (.fr (.dsp .nil))] .skip,.dw 1 (.dsp ⟨'0'⟩),.LZ (.cmp .gt (.ix (.o 1) (.neg (-1))) (-1)) #[.app 1 ((.ix (.o 1) (.neg (-1))+-1)/ -2)],.eT 1,.ret '1']
def i6:S:=#[.ret (.fr (.comp (.rg3 ⟨-0,.len '0','1'⟩) 1 [0,1] (.b true) (.fr (.slc '1' ⟨'0'⟩ ⟨'0'+'2'⟩))))]
def i7:S:=#[.dw 1 (.dsp .nil),.bL (.itl (.call 44 ⟨.len '0'⟩)) [2] #[.ext 1 (.call 45 ⟨'0','2'⟩)],.eT 1,.ret '1']
def mH:S:=#[.ret (.fr (.comp (.itl '0') 1 [1] (.inn false '0' '1') '0'))]
def km:S:=#[.ret (.fr (.comp (.itl '1') 1 [0,1] (.b true) (.call 47 ⟨.meth 15 '1' ⟨'0'⟩,'2'⟩)))]
def mI:S:=#[.ret (.fr (.comp (.itl '0') 1 [] (.b true) (.fr (.dsp ⟨'0'⟩))))]
def dH:S:=#[.ret (.fr (.lfd (.fr (.comp (.itl '0') 1 [] (.b true) (.tup ⟨'0',.b true⟩)))))]
def dI:S:=#[.ret (.fr (.comp (.itl '0') 1 [1] (.b true) (.ix '1' '0')))]
def kn:S:=#[.set 2 (.meth 10 '0' ⟨'1'⟩),.ret (.fr (.comp (.itl (.call 50 ⟨.meth 6 '2' .nil⟩)) 1 [1,2] (.b true) (.call 51 ⟨.meth 12 '2' ⟨'0'⟩,'1'⟩)))]
def pO:S:=#[.ex (.call 42 ⟨'0'⟩),.ex (.call 7 ⟨'2',.meth 9 '1' .nil⟩),.ite ('0'==.s "halves") #[.ret (.call 46 ⟨'2'⟩)] .skip,.ite ('0'==.s "trees") #[.ret (.call 48 ⟨'1','2'⟩)] .skip,.ite ('0'==.s "ones") #[.ret (.call 49 ⟨'2'⟩)] .skip,.ret (.call 52 ⟨'1','2'⟩)]
def mJ:S:=#[.ret (.fr (.comp (.itl '0') 1 [1] (.inn true '0' '1') '0'))]
def dJ:S:=#[.bL (.itl (.call 53 ⟨'1',.meth 3 '0' .nil,'2'⟩)) [3] #[.ite (.meth 0 '0' ⟨.call 54 ⟨'2','3'⟩⟩) #[.ret '3'] .skip],.ret .n]
def pP:S:=#[.ex (.call 43 ⟨'1'⟩),.set 2 (.fr (.lr1 (.meth 9 (.meth 3 '0' .nil) .nil))),.ite (.not (.meth 0 '0' ⟨'2'⟩)) #[.never] .skip,.dw 3 (.dsp .nil),.set 4 (-0),.set 5 (-0),.LZ (.cmp .lt '5' (.len '1')) #[.set 6 (.ix '1' '4'),.Ke #[.set 7 (.call 55 ⟨'0','6','2'⟩)],.ite (.cmp .FR '7' .n) #[.aug 5 .add (-1),.set 4 (('4'+-1)%.len '1')] #[.set 5 (-0),.set 2 (.call 54 ⟨'2','7'⟩),.app 3 (.tup ⟨'6','7'⟩)]],.eT 3,.ret (.tup ⟨.s "small",'2','3'⟩)]
def ur:S:=#[.set 2 (.meth 9 '0' .nil),.ret (-1+('2'+-1)*.len '1'*(-3*'2'+.len (.meth 6 '0' .nil)))]
def gX:S:=#[.fZ 0 "whole" '1',.fZ 0 "fault" '2',.fZ 0 "most" '3',.fZ 0 "answers" .ndh,.fZ 0 "questions" (.nlh (.dsp .nil))]
def fI:S:=#[.set 2 (.meth 10 (.fld '0' "whole") ⟨'1'⟩),.set 3 (.meth 11 '2' .nil),.ite (.dnt '3' (.fld '0' "answers")) #[.ex (.meth 1 '0' ⟨'1','2'⟩)] .skip,.ret (.dgt (.fld '0' "answers") '3')]
def i8:S:=#[.ite (.cmp .ge (.meth 2 '0' .nil) (.fld '0' "most")) #[.never] .skip,.set 3 (.meth 5 (.fld '0' "fault") ⟨'2'⟩),.SW (.fld '0' "answers") (.meth 11 '2' .nil) '3',.QT (.fld '0' "questions") (.tup ⟨.tpl '1','3'⟩)]
def fJ:S:=#[.ret (.len (.d (.fld '0' "questions")))]
def i9:S:=#[.ret (.fr (.comh (.fld '0' "questions") 2 [] (.b true) (.tup ⟨.fr (.lof '0'),'1'⟩)))]
def fK:S:=#[.ret (.fld '0' "whole")]
def kq:S:=#[.fZ 0 "mark" '1']
def ja:S:=#[.ret (.cmp .gt (.meth 7 '1' ⟨.fld '0' "mark"⟩) (-0))]
def jb:S:=#[.fZ 0 "number" '1',.fZ 0 "mark" '2']
def gY:S:=#[.ret (.cmp .ge (.meth 7 '1' ⟨.fld '0' "mark"⟩) (.fld '0' "number"))]
def jc:S:=#[.fZ 0 "one" '1',.fZ 0 "other" '2']
def eK:S:=#[.ret (.meth 8 '1' ⟨.fld '0' "one",.fld '0' "other"⟩)]
def fL:S:=#[.ret (.meth 13 '1' ⟨.fld '0' "one",.fld '0' "other"⟩)]
def eL:S:=#[.ret (.meth 14 '1' ⟨.fld '0' "one",.fld '0' "other"⟩)]
def gZ:S:=#[.fZ 0 "parts" (.tpl '1')]
def jd:S:=#[.bL (.itl (.fld '0' "parts")) [2] #[.ite (.not (.meth 5 '2' ⟨'1'⟩)) #[.ret (.b false)] .skip],.ret (.b true)]
def je:S:=#[.bL (.itl (.fld '0' "parts")) [2] #[.ite (.meth 5 '2' ⟨'1'⟩) #[.ret (.b true)] .skip],.ret (.b false)]
def kr:S:=#[.fZ 0 "part" '1']
def jf:S:=#[.ret (.not (.meth 5 (.fld '0' "part") ⟨'1'⟩))]
def eM:S:=#[.ite (.cmp .lt '1' (.len '0')) #[.ret (.ix '0' '1')] .skip,.ret (-7*'1'+-3)]
def dM:S:=#[.set 1 (.s "abcdefghijklmnopqrstuvwxyz"),.set 2 (.s ""),.set 3 ('0'%.bin .pow (-10) (-12)),.bL (.rg1 ('3'%-8)) [4] #[.set 3 ('3'/ -8),.set 2 ('2'+.ix '1' ('3'%-26))],.set 5 ('0'/ -8%(.len '2'+-1)),.set 6 ('0'/ -64%-26),.set 7 (.ix (.fr (.dsp ⟨-4,-4,-4,-10⟩)) ('0'/ -1664%-4)),.ret (.fr (.comp (.rg1 '7') 1 [1,2,5,6] (.b true) (.sls '2' .nil ⟨'3'⟩+.ix '1' (('4'+-3*'0')%-26)+.sls '2' ⟨'3'⟩ .nil)))]
def eO:S:=#[.ite ('0'%-16==-5) #[.ret ('0'/ -16%-10)] .skip,.ret ('0'/ -16%-9)]
def fM:S:=#[.dw 4 (.dsp .nil),.bL (.rg1 '2') [5] #[.set 6 (.call 12 ⟨'0','1'+'5'%-12⟩+-11*('5'/ -12)),.app 4 (.ix '3' (.ix (.fr (.dsp ⟨.ix (.fr (.dsp ⟨-0,-0,-1,-1,-2,-2,-3⟩)) ('6'%-7),'6'%.len '3'⟩)) (.int1 (.cmp .gt (.len '3') (-4)))))],.eT 4,.ret '4']
def de:S:=#[.dw 3 (.dsp .nil),.set 4 (-0),.bL (.rg1 (.len '2')) [5] #[.set 6 (.call 12 ⟨'0','1'+'5'%-12⟩/ -7+-3*('5'/ -12)),.set 4 ('6'%-7%('4'+-2)*.int1 (.cmp .gt '5' (-0))),.app 3 (.tup ⟨.ix '2' '5','4'⟩)],.eT 3,.ret (.tup ⟨.s "forest",'3'⟩)]
def ky:S:=#[.set 1 (-1),.LZ (.cmp .le '1' '0') #[.set 1 (-4*'1')],.set 2 (('0'%.bin .pow (-10) (-15)+-11)*-6364136223846793013%(.bin .pow (-2) (-61)- -1)),.ret ('0'+'1'*('2'*-69621%(.bin .pow (-2) (-61)- -1)))]
def cL:S:=#[.set 2 ('0'/ -3%-10),.set 3 ('0'/ -30%-5),.set 4 ('0'/ -150%-5),.set 5 ('0'/ -750),.ite ('0'%-3==-2) #[.set 2 ('3'*'4')] .skip,.dw 6 (.dsp .nil),.bL (.rg1 '2') [7] #[.app 6 (.ix '1' ('5'%.len '1')),.set 5 ('5'/.len '1')],.ite ('0'%-3==-0) #[.eT 6,.ret (.tup ⟨.s "row",'6'⟩)] .skip,.ite ('0'%-3==-2) #[.eT 6,.ret (.tup ⟨.s "table",'3'*.int1 (.cmp .gt '4' (-0)),.fr (.comp (.rg1 '4') 1 [3,6] (.b true) (.fr (.slc '2' ⟨'1'*'0'⟩ ⟨'1'*'0'+'1'⟩)))⟩)] .skip,.dw 8 (.dsp .nil),.set 9 (-1),.bL (.rg1 '2') [7] #[.app 8 (.tup ⟨.ix (.o 6) '7','5'%'9'⟩),.set 5 ('5'/'9'),.set 9 (.ix (.ix (.o 8) (.neg (-1))) (-1)+-2)],.eT 8,.ret (.tup ⟨.s "forest",'8'⟩)]
def fN:S:=#[.set 3 (.call 12 ⟨'0','1'⟩),.ite ('3'%-2==-1) #[.ret (.call 18 ⟨.call 17 ⟨'3'/ -2⟩,'2'⟩)] .skip,.set 3 ('3'/ -2),.set 4 (.call 14 ⟨'3'/ -3⟩),.ite ('3'%-3==-0) #[.ret (.tup ⟨.s "row",.call 15 ⟨'0','1'+-1,'4','2'⟩⟩)] .skip,.ite ('3'%-3==-1) #[.ret (.call 16 ⟨'0','1'+-1,.call 15 ⟨'0','1'+-1,'4','2'⟩⟩)] .skip,.set 5 ('3'/ -48%-5),.set 6 ('4'%-6),.set 7 (.call 15 ⟨'0','1'+-1,'5'*'6','2'⟩),.ret (.tup ⟨.s "table",'5'*.int1 (.cmp .gt '6' (-0)),.fr (.comp (.rg1 '6') 1 [5,7] (.b true) (.fr (.slc '2' ⟨'1'*'0'⟩ ⟨'1'*'0'+'1'⟩)))⟩)]
def dh:S:=#[.ite (.ix '0' (-0)==.s "table") #[.ret (.len (.ix '0' (-2))+.ix '0' (-1))] .skip,.ret (.len (.ix '0' (-1)))]
def cA:S:=#[.ite (.ix '0' (-0)==.s "row") #[.ret (.tup ⟨.s "row",.fr (.comp (.itl '1') 1 [0] (.b true) (.ix (.ix '1' (-1)) '0'))⟩)] .skip,.ite (.ix '0' (-0)==.s "table") #[.set 2 (.fr (.comp (.itl '1') 1 [0] (.cmp .ge '0' (.len (.ix '1' (-2)))) ('0'-.len (.ix '1' (-2))))),.set 3 (.fr (.comp (.itl '1') 1 [0] (.cmp .lt '0' (.len (.ix '1' (-2)))) (.ix (.ix '1' (-2)) '0'))),.ret (.tup ⟨.s "table",.len '2',.fr (.comp (.itl '3') 1 [2] (.b true) (.fr (.comp (.itl '1') 1 [0] (.b true) (.ix '1' '0'))))⟩)] .skip,.dw 4 (.dsp .nil),.bL (.itl '1') [5] #[.set 6 (.ix (.ix (.ix '0' (-1)) '5') (-1)),.set 7 (-0),.bL (.rev '5') [8] #[.ite (.cmp .lt (.ix (.ix (.ix '0' (-1)) '8') (-1)) '6') #[.set 6 (.ix (.ix (.ix '0' (-1)) '8') (-1)),.set 7 ('7'+.int1 (.inn false '8' '1'))] .skip],.app 4 (.tup ⟨.ix (.ix (.ix '0' (-1)) '5') (-0),'7'⟩)],.eT 4,.ret (.tup ⟨.s "forest",'4'⟩)]
def jg:S:=#[.ite (.ix '0' (-0)==.s "row") #[.ret (.mk 17 ⟨.fr (.lof (.ix '0' (-1)))⟩)] .skip,.ite (.ix '0' (-0)==.s "forest") #[.ret (.mk 18 ⟨.fr (.lof (.ix '0' (-1)))⟩)] .skip,.ret (.mk 19 ⟨.fr (.comp (.itl (.ix '0' (-2))) 1 [] (.b true) (.fr (.lof '0')))⟩)]
def g0:S:=#[.dw 1 (.dsp .nil),.ite (.ix '0' (-0)==.s "row") #[.bL (.rg1 (.len (.ix '0' (-1)))) [2] #[.app 1 (.tup ⟨.ix (.ix '0' (-1)) '2',-0,'2'⟩)]] .skip,.ite (.ix '0' (-0)==.s "forest") #[.bL (.rg1 (.len (.ix '0' (-1)))) [2] #[.app 1 (.tup ⟨.ix (.ix (.ix '0' (-1)) '2') (-0),.ix (.ix (.ix '0' (-1)) '2') (-1),'2'⟩)]] .skip,.ite (.ix '0' (-0)==.s "table") #[.bL (.rg1 (.len (.ix '0' (-2)))) [3] #[.bL (.rg1 (.ix '0' (-1))) [4] #[.app 1 (.tup ⟨.ix (.ix (.ix '0' (-2)) '3') '4','3','4'⟩)]]] .skip,.eT 1,.ret '1']
def cM:S:=#[.ite (.ix '0' (-0)==.s "table") #[.ret (.and (.ix (.ix '1' '2') (-2)==.ix (.ix '1' '3') (-2)) (.one (.cmp .lt (.ix (.ix '1' '2') (-1)) (.ix (.ix '1' '3') (-1)))))] .skip,.ite (.or (.ix '0' (-0)==.s "row") (.one (.cmp .le '3' '2'))) #[.ret (.b false)] .skip,.bL (.rg2 ('2'+-1) ('3'+-1)) [4] #[.ite (.cmp .le (.ix (.ix '1' '4') (-1)) (.ix (.ix '1' '2') (-1))) #[.ret (.b false)] .skip],.ret (.b true)]
def bV:S:=#[.ite (.ix '0' (-0)==.s "table") #[.ret (.and (.ix (.ix '1' '2') (-1)==.ix (.ix '1' '3') (-1)) (.one (.ix (.ix '1' '2') (-2)+-1==.ix (.ix '1' '3') (-2))))] .skip,.ite (.ix '0' (-0)==.s "row") #[.ret ('2'+-1=='3')] .skip,.ite (.or (.cmp .le '3' '2') (.one (.ix (.ix '1' '2') (-1) !=.ix (.ix '1' '3') (-1)))) #[.ret (.b false)] .skip,.bL (.rg2 ('2'+-1) '3') [4] #[.ite (.cmp .le (.ix (.ix '1' '4') (-1)) (.ix (.ix '1' '2') (-1))) #[.ret (.b false)] .skip],.ret (.b true)]
def dO:S:=#[.set 2 (.call 23 ⟨'1'⟩),.set 3 (.fr (.comp (.rg1 (.len '2')) 1 [0,2] (.ix (.ix '2' '0') (-0)==.ix '1' (-1)) '0')),.set 4 (.fr (.comp (.rg1 (.len '2')) 1 [0,2] (.ix (.ix '2' '0') (-0)==.ix '1' (-2)) '0')),.ite (.ix '0' (-0)==.s "before") #[.ret (.and (.cmp .gt (.len '3') (-0)) (.and (.cmp .gt (.len '4') (-0)) (.one (.cmp .lt (.ix '3' (-0)) (.ix '4' (.neg (-1)))))))] .skip,.bL (.itl '3') [5] #[.bL (.itl '4') [6] #[.ite (.and (.ix '0' (-0)==.s "under") (.and ('5' !='6') (.one (.call 24 ⟨'1','2','5','6'⟩)))) #[.ret (.b true)] .skip,.ite (.and (.ix '0' (-0)==.s "beside") (.and ('5' !='6') (.one (.call 25 ⟨'1','2','5','6'⟩)))) #[.ret (.b true)] .skip]],.ret (.b false)]
def cN:S:=#[.ite (.ix '0' (-0)==.s "has") #[.ret (.inn false (.ix '0' (-1)) (.fr (.comp (.itl (.call 23 ⟨'1'⟩)) 1 [] (.b true) (.ix '0' (-0)))))] .skip,.ite (.ix '0' (-0)==.s "many") #[.ret (.cmp .ge (.len (.fr (.comp (.itl (.call 23 ⟨'1'⟩)) 1 [0] (.ix '0' (-0)==.ix '1' (-2)) '0'))) (.ix '0' (-1)))] .skip,.ite (.ix '0' (-0)==.s "not") #[.ret (.not (.call 27 ⟨.ix '0' (-1),'1'⟩))] .skip,.ite (.ix '0' (-0)==.s "all") #[.ret (.len (.fr (.comp (.itl (.ix '0' (-1))) 1 [1] (.not (.call 27 ⟨'0','1'⟩)) '0'))==-0)] .skip,.ite (.ix '0' (-0)==.s "any") #[.ret (.cmp .gt (.len (.fr (.comp (.itl (.ix '0' (-1))) 1 [1] (.call 27 ⟨'0','1'⟩) '0'))) (-0))] .skip,.ret (.call 26 ⟨'0','1'⟩)]
def cO:S:=#[.ite (.ix '0' (-0)==.s "has") #[.ret (.mk 6 ⟨.ix '0' (-1)⟩)] .skip,.ite (.ix '0' (-0)==.s "many") #[.ret (.mk 7 ⟨.ix '0' (-1),.ix '0' (-2)⟩)] .skip,.ite (.ix '0' (-0)==.s "before") #[.ret (.mk 9 ⟨.ix '0' (-1),.ix '0' (-2)⟩)] .skip,.ite (.ix '0' (-0)==.s "under") #[.ret (.mk 10 ⟨.ix '0' (-1),.ix '0' (-2)⟩)] .skip,.ite (.ix '0' (-0)==.s "beside") #[.ret (.mk 11 ⟨.ix '0' (-1),.ix '0' (-2)⟩)] .skip,.ite (.ix '0' (-0)==.s "not") #[.ret (.mk 15 ⟨.call 28 ⟨.ix '0' (-1)⟩⟩)] .skip,.set 1 (.fr (.comp (.itl (.ix '0' (-1))) 1 [] (.b true) (.call 28 ⟨'0'⟩))),.ite (.ix '0' (-0)==.s "all") #[.ret (.mk 13 ⟨'1'⟩)] .skip,.ret (.mk 14 ⟨'1'⟩)]
def fO:S:=#[.set 3 (.ix '1' ('0'/ -16%.len '1')),.set 4 (.ix '1' ('0'/ -64%.len '1')),.set 5 ('0'%-8),.ite (.and ('5'==-6) (.one (.not '2'))) #[.ret (.tup ⟨.s "beside",'3','4'⟩)] .skip,.ite (.and ('5'==-7) (.one (.not '2'))) #[.ret (.tup ⟨.s "not",.tup ⟨.s "many",-1+'0'/ -8%-3,'3'⟩⟩)] .skip,.ite ('5'%-4==-0) #[.ret (.tup ⟨.s "has",'3'⟩)] .skip,.ite ('5'%-4==-1) #[.ret (.tup ⟨.s "many",-1+'0'/ -8%-6,'3'⟩)] .skip,.ite ('5'%-4==-2) #[.ret (.tup ⟨.s "before",'3','4'⟩)] .skip,.ret (.tup ⟨.s "under",'3','4'⟩)]
def cu:S:=#[.set 4 (.call 12 ⟨'0','1'⟩),.dw 5 (.dsp .nil),.set 6 (.call 17 ⟨.call 12 ⟨'0','1'+-1⟩⟩),.bL (.rg1 (-1+'4'%-3)) [7] #[.set 8 (.call 12 ⟨'0','1'+-1+-2*'7'⟩),.set 9 (.call 12 ⟨'0','1'+-2+-2*'7'⟩),.ite ('4'/ -216%-2==-1) #[.set 8 ('6'%-768),.set 9 ('6'/ -768%-256),.set 6 ('6'/ -768/ -256)] .skip,.set 10 (.call 29 ⟨'8','2','3'⟩),.ite ('8'/ -256%-3==-1) #[.set 10 (.tup ⟨.s "any",.fr (.dsp ⟨':',.call 29 ⟨'9','2','3'⟩⟩)⟩)] .skip,.app 5 ':'],.ite (.len (.o 5)==-1) #[.ret (.ix (.o 5) (-0))] .skip,.eT 5,.ret (.tup ⟨.ix (.fr (.dsp ⟨.s "all",.s "all",.s "any"⟩)) ('4'/ -3%-3),'5'⟩)]
def g9:S:=#[.set 3 ('2'%.len '1'),.set 4 (.ix (.ix '1' '3') (-0)),.set 5 ('2'/ -40%-4),.set 6 (.fr (.comp (.rg1 (.len '1')) 1 [0,1,3] (.call 24 ⟨'1','2','3','0'⟩) '0')),.ite ('5'==-1) #[.ret (.tup ⟨.s "many",-1+'2'/ -160%.len (.fr (.comp (.itl '1') 1 [4] (.ix '0' (-0)=='1') '0')),'4'⟩)] .skip,.ite (.and ('5'==-2) (.one (.cmp .gt (.len '6') (-0)))) #[.ret (.tup ⟨.s "under",'4',.ix (.ix '1' (.ix '6' ('2'/ -160%.len '6'))) (-0)⟩)] .skip,.ite (.and (.cmp .gt '5' (-0)) (.one (.cmp .lt ('3'+-1) (.len '1')))) #[.ret (.tup ⟨.s "before",'4',.ix (.ix '1' ('3'+-1+'2'/ -160%(.len '1'-'3'- -1))) (-0)⟩)] .skip,.ret (.tup ⟨.s "has",'4'⟩)]
def dQ:S:=#[.set 5 (.call 12 ⟨'0','1'⟩),.set 6 (.call 30 ⟨'0','1','2','4'⟩),.set 7 (.call 23 ⟨'3'⟩),.set 8 ('5'/ -9%-8),.ite (.or (.len '7'==-0) (.one ('8'==-7))) #[.ret '6'] .skip,.dw 9 (.dsp .nil),.bL (.rg1 (-2+'5'/ -72%-5)) [10] #[.app 9 (.call 31 ⟨'3','7',.call 12 ⟨'0','1'+-1+':'⟩+-29*':'⟩)],.ite (.and (.not '4') (.and ('8'==-1) (.one (.not (.call 27 ⟨'6','3'⟩))))) #[.ret (.tup ⟨.s "all",.fr (.cat (.fr (.slc (.o 9) .nil ⟨-5⟩)) (.fr (.dsp ⟨.tup ⟨.s "not",'6'⟩⟩)))⟩)] .skip,.ite (.cmp .lt '8' (-4)) #[.eT 9,.ret (.tup ⟨.s "all",'9'⟩)] .skip,.ite ('8'==-4) #[.eT 9,.ret (.tup ⟨.s "any",.fr (.dsp ⟨'6',.tup ⟨.s "all",'9'⟩⟩)⟩)] .skip,.ite ('8'==-5) #[.eT 9,.ret (.tup ⟨.s "all",.fr (.dsp ⟨.tup ⟨.s "all",'9'⟩,'6'⟩)⟩)] .skip,.set 11 (.fr (.comp (.rg1 (-2)) 1 [0,1,3,7] (.b true) (.call 31 ⟨'3','4',.call 12 ⟨'1','2'+-4+'0'⟩+-31*'0'⟩))),.eT 9,.ret (.tup ⟨.s "any",.fr (.dsp ⟨.tup ⟨.s "all",'9'⟩,.tup ⟨.s "all",';'⟩⟩)⟩)]
def dR:S:=#[.set 1 (.fr (.dsp ⟨.s "halves",.s "trees",.s "ones",.s "marks"⟩)),.set 2 ('0'%-4),.dw 3 (.dsp .nil),.bL (.rg1 (-1+'0'/ -4%-4)) [4] #[.app 3 (.ix '1' (('2'+'4'*(-1+-2*('0'/ -16%-2)))%-4))],.eT 3,.ret '3']
def DI:S:=#[.set 1 (.call 13 ⟨.call 12 ⟨'0',-0⟩⟩),.set 2 (.call 19 ⟨'0',-15,'1'⟩),.set 3 (.call 32 ⟨'0',-8,'1','2',.b false⟩),.set 4 (.call 57 ⟨.call 12 ⟨'0',-1⟩⟩),.set 5 (.call 20 ⟨'2'⟩),.set 6 (.call 68 ⟨.call 22 ⟨'2'⟩,.fr (.lof '4')⟩),.ite (.or (.not (.isi '6' 0)) (.one (.isi '6' 1))) #[.ret (.b false)] .skip,.ite ('6' !=-1+('5'+-1)*.len '4'*(-3*'5'+.len (.call 23 ⟨'2'⟩))) #[.ret (.b false)] .skip,.ite (.not (.call 27 ⟨'3','2'⟩)) #[.ret (.b true)] .skip,.set 7 (.mk 4 ⟨.call 22 ⟨'2'⟩,.call 28 ⟨'3'⟩,'6'⟩),.set 8 (.call 56 ⟨'7','4'⟩),.set 9 (.meth 16 '7' .nil),.ite (.or (.ix '8' (-0) !=.s "small") (.or (.cmp .gt (.len '9') '6') (.one (.ix (.ix '9' (-0)) (-0) !=.fr (.lr1 '5'))))) #[.ret (.b false)] .skip,.dw 10 (.dsp .nil),.bL (.itl '9') [11,12] #[.set 13 (.call 21 ⟨'2',';'⟩),.ite (.or (.inn false '=' (.o 10)) (.one ('<' !=.call 27 ⟨'3','='⟩))) #[.ret (.b false)] .skip,.app 10 '='],.ret (.b true)]
end
noncomputable def fP:Df:=df "spots" "Thing.spots" ["self"] 1 fB
noncomputable def dS:Df:=df "many_of" "Thing.many_of" ["self","mark"] 2 dE
noncomputable def cP:Df:=df "is_before" "Thing.is_before" ["self","one","other"] 3 cH
noncomputable def jh:Df:=df "__init__" "Pair.__init__" ["self","one","other"] 3 jc
noncomputable def lF:Df:=df "__init__" "Joint.__init__" ["self","parts"] 2 gZ
noncomputable def T:Tb:=⟨(LS ["is_whole","is_mark","check_list","check_marks","check_node","check_nodes","check_lines","check_places","marks_at","places_of","stands_ahead","stands_right_ahead","_law_cell_at","_law_marks_by","_law_many_by","_law_picked","_law_forest_by","_law_far","_law_raw_digits","_law_raw_by","_law_places_of","_law_left","_law_made","_law_spots","_law_lies_under","_law_stands_beside","_law_two_hold","_law_holds","_law_fault_made","_law_one_by","_law_drawn_fault","_law_there","_law_fault_by","__debug__","__debug__","__debug__","law","__debug__","__debug__","__debug__","__debug__","__debug__","check_rule","check_rules","sizes_down","stretches","by_halves","kept_of","by_trees","by_ones","as_first_read","numbered_back","by_marks","groups","without","group_to_take","shrunk","_law_rules_by","__debug__","__debug__","__debug__","__debug__","__debug__","__debug__","__debug__","__debug__","__debug__","__debug__","bound"]),(LS ["fails","ask","asked","thing","grows","holds","spots","many_of","is_before","many","left","form","standing","is_under","is_beside","hanging","log"]),(LS ["ShrinkError","NoThing","NoPlace","Spent","Asker","Fault","Has","Many","Pair","Before","Under","Beside","Joint","All","Any","Not","Thing","Row","Forest","Table","__debug__","NoRule","Healthy"]),(LS ["LETTERS","LONGEST_MARK","MOST_IN_ROW","MOST_NODES","DEEPEST","MOST_LINES","MOST_COLUMNS","RULES"]),[16]⟩
noncomputable def Pr:Pg:=⟨T,[some (dg "is_whole" ["thing"] 1 kb),some (dg "is_mark" ["thing"] 1 mG [(27016031,1)]),some (dg "check_list" ["thing","most"] 2 gN),some (dg "check_marks" ["marks","most","mark"] 2 fu),some (dg "check_node" ["node","deepest"] 2 gO),some (dg "check_nodes" ["nodes","deepest","node"] 1 fv),some (dg "check_lines" ["lines","line"] 1 fA),some (dg "check_places" ["places","many","lowest","place"] 2 eG),some (dg "marks_at" ["marks","places"] 2 kf),some (dg "places_of" ["marks","mark"] 2 i5),some (dg "stands_ahead" ["marks","one","other","seen","mark"] 3 eH),some (dg "stands_right_ahead" ["marks","one","other"] 3 bU [(84081090,1)]),some (dg "_law_cell_at" ["_law_script","_law_k"] 2 eM),some (dg "_law_marks_by" ["_law_cell","_law_letters","_law_word","_law_rest","_law_k","_law_at","_law_first","_law_many"] 1 dM [(471012031,2),(471081100,2)]),some (dg "_law_many_by" ["_law_cell"] 1 eO),some (dg "_law_picked" ["_law_script","_law_first","_law_many","_law_marks","_law_picked_here","_law_k","_law_cell"] 4 fM [(477004020,1),(480008024,1)] [(481,[4])]),some (dg "_law_forest_by" ["_law_script","_law_first","_law_picked_here","_law_nodes","_law_deep","_law_k","_law_cell"] 3 de [(483004014,1),(488008018,1)] [(489,[3])]),some (dg "_law_far" ["_law_rest","_law_top","_law_far_here"] 1 ky),some (dg "_law_raw_digits" ["_law_cell","_law_marks","_law_many","_law_columns","_law_deep","_law_rest","_law_picked_here","_law_k","_law_nodes","_law_room"] 2 cL [(503004020,1),(505008024,1),(511004014,1),(514008018,1),(514027043,1),(516020030,1)] [(508,[6]),(510,[6]),(517,[8])]),some (dg "_law_raw_by" ["_law_script","_law_first","_law_marks","_law_head","_law_many","_law_columns","_law_deep","_law_picked_here"] 3 fN),some (dg "_law_places_of" ["_law_raw"] 1 dh),some (dg "_law_left" ["_law_raw","_law_places","_law_columns","_law_lines","_law_nodes","_law_place","_law_deep","_law_over","_law_ahead"] 2 cA [(543004014,1),(551008018,1)] [(552,[4])]),some (dg "_law_made" ["_law_raw"] 1 jg),some (dg "_law_spots" ["_law_raw","_law_spots_here","_law_k","_law_i","_law_j"] 1 g0 [(560004019,1),(563012027,1),(566012027,1),(570016031,1)] [(571,[1])]),some (dg "_law_lies_under" ["_law_raw","_law_spots_here","_law_i","_law_j","_law_k"] 4 cM),some (dg "_law_stands_beside" ["_law_raw","_law_spots_here","_law_i","_law_j","_law_k"] 4 bV),some (dg "_law_two_hold" ["_law_fault","_law_raw","_law_spots_here","_law_ones","_law_others","_law_i","_law_j"] 2 dO),some (dg "_law_holds" ["_law_fault","_law_raw"] 2 cN),some (dg "_law_fault_made" ["_law_fault","_law_parts"] 1 cO),some (dg "_law_one_by" ["_law_cell","_law_marks","_law_grows","_law_one","_law_other","_law_way"] 3 fO),some (dg "_law_drawn_fault" ["_law_script","_law_first","_law_marks","_law_grows","_law_head","_law_parts","_law_rest","_law_k","_law_cell","_law_other","_law_one"] 4 cu [(651004014,1),(663008018,1),(664011021,1),(665015025,1)] [(666,[5])]),some (dg "_law_there" ["_law_raw","_law_spots_here","_law_cell","_law_i","_law_one","_law_way","_law_lows"] 3 g9),some (dg "_law_fault_by" ["_law_script","_law_first","_law_marks","_law_raw","_law_grows","_law_head","_law_fault","_law_spots_here","_law_way","_law_facts","_law_k","_law_more"] 5 dQ [(686004014,1),(688008018,1),(690023033,1),(690023061,1)] [(692,[9]),(694,[9]),(696,[9]),(698,[9])]),none,none,none,some (dg "law" ["_law_script","_law_marks","_law_raw","_law_fault","_law_rules","_law_many","_law_told","_law_asker","_law_found","_law_log","_law_seen","_law_places","_law_answer","_law_left_here"] 1 DI [(724004013,1),(727029038,1),(729008017,1)]),none,none,none,none,none,some (dg "check_rule" ["rule"] 1 gV),some (dg "check_rules" ["rules","rule"] 1 fH [(220042047,100)]),some (dg "sizes_down" ["many","sizes"] 1 gW [(229004009,1),(230010015,1),(231008013,1),(231022027,1)] [(232,[1])]),some (dg "stretches" ["places","size"] 2 i6),some (dg "by_halves" ["places","found","size"] 1 i7 [(236004009,1)] [(239,[1])]),some (dg "kept_of" ["hung","places"] 2 mH),some (dg "by_trees" ["thing","places"] 2 km),some (dg "by_ones" ["places"] 1 mI),some (dg "as_first_read" ["marks"] 1 dH),some (dg "numbered_back" ["left_places","places"] 2 dI),some (dg "by_marks" ["thing","places","rest"] 2 kn),some (dg "groups" ["rule","thing","places"] 3 pO),some (dg "without" ["places","group"] 2 mJ),some (dg "group_to_take" ["asker","rule","kept","group"] 3 dJ),some (dg "shrunk" ["asker","rules","kept","steps","turn","in_vain","rule","group"] 2 pP [(276004009,1),(291012017,1)] [(292,[3])]),some (dg "_law_rules_by" ["_law_cell","_law_rules","_law_first","_law_found","_law_k"] 1 dR [(702004014,1),(704008018,1)] [(705,[3])]),none,none,none,none,none,none,none,none,none,none,some (dg "bound" ["thing","rules","places"] 2 ur)],[[(4,df "fails" "Asker.fails" ["self","places","rest","form"] 2 fI [(309011035,1),(311015033,2)])],[(4,df "ask" "Asker.ask" ["self","places","rest","answer"] 3 i8)],[(4,df "asked" "Asker.asked" ["self"] 1 fJ [(321019033,10)])],[(4,df "thing" "Asker.thing" ["self"] 1 fK)],[],[(6,df "holds" "Has.holds" ["self","thing"] 2 ja),(7,df "holds" "Many.holds" ["self","thing"] 2 gY),(9,df "holds" "Before.holds" ["self","thing"] 2 eK),(10,df "holds" "Under.holds" ["self","thing"] 2 fL),(11,df "holds" "Beside.holds" ["self","thing"] 2 eL),(13,df "holds" "All.holds" ["self","thing","part"] 2 jd),(14,df "holds" "Any.holds" ["self","thing","part"] 2 je),(15,df "holds" "Not.holds" ["self","thing"] 2 jf)],[(17,fP),(18,fP),(19,fP)],[(17,dS),(18,dS),(19,dS)],[(17,cP),(18,cP),(19,cP)],[(17,df "many" "Row.many" ["self"] 1 kh),(18,df "many" "Forest.many" ["self"] 1 fE),(19,df "many" "Table.many" ["self"] 1 gR)],[(17,df "left" "Row.left" ["self","places"] 2 ki),(18,df "left" "Forest.left" ["self","places","kept","rest","above","place","node","depth"] 2 fF [(138008012,1),(139008013,1),(141012017,1),(141020025,1),(142020025,1),(143015028,2),(144016020,1),(145016021,1),(147016021,1)] [(148,[3])]),(19,df "left" "Table.left" ["self","places","first_column","lines","columns","rest"] 2 gT [(193008012,2)] [(195,[5])])],[(17,df "form" "Row.form" ["self"] 1 kj),(18,df "form" "Forest.form" ["self"] 1 fG),(19,df "form" "Table.form" ["self"] 1 gU)],[(17,df "standing" "Row.standing" ["self","mark"] 2 eI),(18,df "standing" "Forest.standing" ["self","mark"] 2 cI),(19,df "standing" "Table.standing" ["self","mark"] 2 cZ)],[(17,df "is_under" "Row.is_under" ["self","one","other"] 3 eJ),(18,df "is_under" "Forest.is_under" ["self","one","other","place"] 3 cJ),(19,df "is_under" "Table.is_under" ["self","one","other","column"] 3 dc)],[(17,df "is_beside" "Row.is_beside" ["self","one","other"] 3 dF),(18,df "is_beside" "Forest.is_beside" ["self","one","other","place","behind"] 3 cn),(19,df "is_beside" "Table.is_beside" ["self","one","other"] 3 cK)],[(17,df "hanging" "Row.hanging" ["self","place"] 2 fC),(18,df "hanging" "Forest.hanging" ["self","place","end"] 2 cY),(19,df "hanging" "Table.hanging" ["self","place"] 2 dG)],[(4,df "log" "Asker.log" ["self"] 1 i9 [(324061075,10)])]],[(4,df "__init__" "Asker.__init__" ["self","thing","fault","most"] 4 gX [(304025027,1)]),(6,df "__init__" "Has.__init__" ["self","mark"] 2 kq),(7,df "__init__" "Many.__init__" ["self","number","mark"] 3 jb),(9,jh),(10,jh),(11,jh),(13,lF),(14,lF),(15,df "__init__" "Not.__init__" ["self","part"] 2 kr),(17,df "__init__" "Row.__init__" ["self","marks"] 2 kg),(18,df "__init__" "Forest.__init__" ["self","nodes"] 2 fD),(19,df "__init__" "Table.__init__" ["self","lines","spot_marks","line"] 2 gQ [(178008018,1),(183040045,100)] [(181,[2])]),(16,df "__init__" "Thing.__init__" ["self","spot_marks"] 2 gP [(88026043,1)])],[(4,(LS ["whole","fault","most","answers","questions"])),(6,(LS ["mark"])),(7,(LS ["number","mark"])),(9,(LS ["one","other"])),(10,(LS ["one","other"])),(11,(LS ["one","other"])),(13,(LS ["parts"])),(14,(LS ["parts"])),(15,(LS ["part"])),(17,(LS ["spot_marks"])),(18,(LS ["nodes","spot_marks"])),(19,(LS ["lines","columns","spot_marks"]))],[.str Cv,.int 8,.int 40,.int 40,.int 12,.int 12,.int 12,.sD [.str "halves",.str "trees",.str "ones",.str "marks"]]⟩
set_option hygiene false
local macro_rules | `(tactic| and_intros) => `(tactic| try dsimp only [ev, rd_r1, rd_r2, rd_r3, rd_r4, rd_r5, rd_r6, rd_r7, rd_r8, rd_r9, rd_r10, rd_r11, rd_r12, rd_r13, rd_r14, rd_r15, rd_r16, rd_r17, rd_r18, rd_r19, rd_r20, rd_r21, rd_r22, rd_r23, rd_r24, rd_b1, rd_b2, rd_b3, rd_b4, rd_b5, rd_b6, rd_b7, rd_b8, rd_c1, rd_c2, rd_c3, rd_c4, rd_c5, rd_c6, rd_e1, rd_e2, rd_e3, rd_l1, rd_l2, rd_l3, rd_l4, rd_l5, rd_l6, rd_l7, rd_t1, rd_t2, rd_x1, rd_x2, rd_x3, rd_x4, rd_x5, rd_x6, rd_x7, rd_x8, rd_o1, rd_o2, rd_k1, rd_k2, rd_k3, rd_k4, rd_m1, rd_m2, rd_m3, rd_m4, rd_m5, rd_m6, rd_m7, rd_n1, rd_n2, rd_n3, rd_n4, rd_n5, rd_n6, rd_n7, rd_n8, rd_s1, rd_s2, rd_s3, rd_s4, rd_s5, rd_s6, rd_s7, rd_s8, rd_s9, rd_s10, rd_s11, rd_s12, rd_s13, rd_s16, rd_s17, rd_s18, rd_s14, rd_s15, rd_xt, rd_xf, rd_it, rd_if, rd_oo, rd_mc, rd_mn, rd_sz, rd_ss, rd_o0, rd_a1, rd_a0, rd_nt, rd_nf, C.i, C.s, C.b, C.n, C.nev, C.v, C.o, C.d, C.g, C.nil, C.cons, C.bin, C.neg, C.cmp, C.chn, C.eq, C.eqh, C.inn, C.ins, C.ind, C.one, C.and, C.or, C.not, C.tr, C.ife, C.tup, C.fr, C.nlh, C.ndh, C.dsp, C.lof, C.slc, C.cat, C.lrg, C.lr1, C.lfd, C.comp, C.comh, C.itl, C.rg1, C.rg2, C.rg3, C.rev, C.enu, C.zip, C.ix, C.ixh, C.slt, C.sls, C.fld, C.call, C.cfo, C.cab, C.meb, C.meth, C.mk, C.mkh, C.len, C.lns, C.isi, C.all, C.any, C.int1, C.min2, C.max2, C.tpl, C.tpf, C.cnt, C.dct, C.dnt, C.dgt, isiD, isiN, Nat.reduceEqDiff, Nat.reduceBEq])
local macro_rules | `(tactic| symm) => `(tactic| ((first | refine sqo fun N hN => ?_ | (dsimp only; refine sqo fun N hN => ?_)); and_intros))
local macro_rules | `(tactic| left) => `(tactic| (subst hN; symm))
local macro_rules | `(tactic| right) => `(tactic| ((first | refine sqo fun N2 hN2 => ?_ | (dsimp only; refine sqo fun N2 hN2 => ?_)); and_intros))
set_option hygiene true
section
variable {Z:Gm}{M:Mem}{R:Dt->Mem->Prop}
abbrev Fn (Z:Gm) (c:S) (ρ:En) (M:Mem) (R:Dt->Mem->Prop):Prop:=ex Z c ρ M { nx:=fun _ M'=>R .az M',rt:=R }
def br {p:Prop} [Decidable p] {a b:Prop} (h:¬ p) (k:b):(if p then a else b):=by rw[s_ h];exact k
def bD {p:Prop} [Decidable p] {a b:Prop} (h:p) (k:a):(if p then a else b):=by rw[z_ h];exact k
def kA (p:bH):Prop:=∀ (i:Int) M R,R (.bl true) M->p [.int i] M R
def mK (p:bH):Prop:=∀ z M R,ax z=true->R (.bl true) M->p [.str z] M R
def d8 (p:bH):Prop:=∀ ds (m:Int) M R,(ds.length:Int)<=m->R .az M->p [.lst ds,.int m] M R
def fQ (p:bH):Prop:=∀ (zs:List Str) (m:Int) M R,(∀ z∈zs,ax z=true)->(zs.length:Int)<=m->R .az M->p [.lst '1',.int m] M R
noncomputable def aC (n:Nd):Dt:=.tup [.str n.1,.int n.2]
def lG (p:bH):Prop:=∀ (n:Nd) (d:Int) M R,ax n.1=true->0<=n.2->n.2<=d->R .az M->p [aC n,.int d] M R
def jQ (p:bH):Prop:=∀ (ns:List Nd) M R,aN 0 ns->ns.length<=40->R .az M->p [.lst (ns.map aC)] M R
noncomputable def aR (l:List Str):Dt:=.lst (l.map .str)
structure aD (w:Nat) (ls:List (List Str)):Prop where
 len:ls.length<=12
 DJ:w<=12
 jM:∀ l∈ls,l.length=w
 P0:∀ l∈ls,∀ z∈l,ax z=true
def jR (p:bH):Prop:=∀ w ls M R,aD w ls->R .az M->p [.lst (ls.map aR)] M R
def bW (p:bH):Prop:=∀ (ps:List Int) (m:Int) M R,placesOk 0 m ps->R .az M->p [.lst (ps.map .int),.int m] M R
def yB {i:Int} (hR:R (.bl true) M):Fn Z kb [.sh (.int i)] M R:=by
 unfold kb;symm;exact hR
def Bt {z:Str} (h0:Z.cs 0=.str Cv) (h1:Z.cs 1=.int 8) (h:ax z=true) (hR:R (.bl true) M):Fn Z mG [.sh (.str z)] M R:=by
 unfold mG;obtain⟨m1,m2,m3⟩:=vH h;symm;left;have hz:z.length<=sizeLine:=R_ m2 (2);refine⟨hz,bD (d_ ∅) ?_⟩;rw[h1];and_intros;refine br (by rw[d_ ∅];decide) ?_;left;refine⟨by unfold ua;rw[a_];exact hz,?_⟩;refine comp_map (fun _=>.bl true) (4) ?_
 ·obtain⟨c,hc,rfl⟩:=n_.mp hx;and_intros;rw[h0];and_intros;have:=m3 c hc;unfold ya at this;rw[this];exact hK
 ·refine⟨(ua z).map fun _=>true,by rw[G_];rfl,?_⟩;rw[show ((ua z).map fun _=>true).all id=true from by rw[aaY];exact Zn.mpr fun _ _=>rfl];exact hR
def uu {ds:List Dt}{m:Int} (h:(ds.length:Int)<=m) (hR:R .az M):Fn Z gN [.sh (.lst ds),.sh (.int m)] M R:=by
 unfold gN;symm;left;refine br (by rw[f_ ∅];decide) ?_;subst hN;exact hR
def qW (p1:mK (Z.fn 1)) (p2:d8 (Z.fn 2)) {zs:List Str}{m:Int} (hz:∀ z∈zs,ax z=true) (h:(zs.length:Int)<=m) (hR:R .az M):Fn Z fu [.sh (.lst '1'),.sh (.int m),.no] M R:=by
 unfold fu;symm;refine p2 _ _ _ _ (by rw[a_];exact h) ?_;left;refine aw (fun i ρ M'=>M'=M/\∃ o,ρ=[.sh (.lst '1'),.sh (.int m),o]) ⟨rfl,_,rfl⟩ ?_ ?_
 ·rintro i x ρ M' N' hx ⟨rfl,o,rfl⟩ eP;obtain⟨z,Le,rfl⟩:=n_.mp (y_ hx);and_intros;symm;refine p1 z _ _ (hz z Le) ?_;and_intros;subst hN;exact eP _ _ ⟨rfl,_,rfl⟩
 ·rintro ρ M' ⟨rfl,o,rfl⟩;subst hN;exact hR
def uv (p0:kA (Z.fn 0)) (p1:mK (Z.fn 1)) {n:Nd}{d:Int} (h1:ax n.1=true) (h2:0<=n.2) (h3:n.2<=d) (hR:R .az M):Fn Z gO [.sh (aC n),.sh (.int d)] M R:=by
 unfold gO aC;symm;left;refine⟨_,rfl,p1 _ _ _ h1 ?_⟩;and_intros;left;refine⟨_,rfl,p0 _ _ _ ?_⟩;and_intros;refine⟨_,rfl,?_⟩;and_intros;refine bD (d_ h2) ?_;refine br (by rw[d_ h3];decide) ?_;subst hN;exact hR
def eQ {α:Type}{xs:List α}{i:Nat}{x:α} (h:xs[i]? = some x):xs.take (i+1)=xs.take i++[x]:=by
 rw[aaL,h];rfl
def uw {ns:List Nd}{i:Nat}{n:Nd} (h:aN 0 ns) (hn:ns[i]? = some n):ax n.1=true/\0<=n.2/\n.2<=aK 0 (ns.take i)/\aK 0 (ns.take (i+1))=min (n.2+1) 12:=by
 have e:ns=ns.take i++n::ns.drop (i+1):=by
  obtain⟨hl,rfl⟩:=i_.mp hn;rw[<-aay hl,aa8]
 rw[e,aS] at h;obtain⟨_,h1,h2,h3,_⟩:=h;refine⟨h1,h2,h3,?_⟩;rw[eQ hn,a9];rfl
def qX (p2:d8 (Z.fn 2)) (p4:lG (Z.fn 4)) (g3:Z.cs 3=.int 40) (g4:Z.cs 4=.int 12) {ns:List Nd} (h:aN 0 ns) (hl:ns.length<=40) (hR:R .az M):Fn Z fv [.sh (.lst (ns.map aC)),.no,.no] M R:=by
 unfold fv;symm;rw[g3];refine p2 _ _ _ _ (by rw[a_];lia) ?_;left;left;refine aw (fun i ρ M'=>M'=M/\∃ o,ρ=[.sh (.lst (ns.map aC)),.sh (.int (aK 0 (ns.take i))),o]) ⟨rfl,_,rfl⟩ ?_ ?_
 ·rintro i x ρ M' N' hx ⟨rfl,o,rfl⟩ eP;rw[g_] at hx;obtain⟨n,hn,rfl⟩:=o_.mp hx;obtain⟨d1,d2,d3,d4⟩:=uw h hn;and_intros;symm;refine p4 n _ _ _ d1 d2 d3 ?_;left;unfold aC;and_intros;refine⟨_,rfl,?_⟩;and_intros;rw[g4];and_intros;subst hN;have e:(if (12:Int)<n.2+1 then 12 else n.2+1)=aK 0 (ns.take (i+1)):=by rw[d4];split<;>lia
  rw[e];exact eP _ _ ⟨rfl,_,rfl⟩
 ·rintro ρ M' ⟨rfl,o,rfl⟩;subst hN;exact hR
def qY (p2:d8 (Z.fn 2)) (p3:fQ (Z.fn 3)) (g5:Z.cs 5=.int 12) (g6:Z.cs 6=.int 12) {w:Nat}{ls:List (List Str)} (h:aD w ls) (hR:R .az M):Fn Z fA [.sh (.lst (ls.map aR)),.no] M R:=by
 unfold fA;symm;rw[g5];refine p2 _ _ _ _ (by rw[a_];have:=h.len;lia) ?_;left;refine aw (fun i ρ M'=>M'=M/\∃ o,ρ=[.sh (.lst (ls.map aR)),o]) ⟨rfl,_,rfl⟩ ?_ ?_
 ·rintro i x ρ M' N' hx ⟨rfl,o,rfl⟩ eP;rw[g_] at hx;obtain⟨l,hn,rfl⟩:=o_.mp hx;have hl:=y_ hn;and_intros;symm;rw[g6];refine p3 l _ _ _ (h.P0 l hl) (by have:=h.jM l hl;have:=h.DJ;lia) ?_;left;obtain⟨l0,h0⟩:∃ l0,ls[0]? = some l0:=⟨_,b_ (by have:=abL hl;lia)⟩;unfold aR;and_intros;refine⟨aR l0,aI (j:=0) (by rw[g_,h0];rfl),?_⟩;unfold aR;and_intros;refine br (by rw[a_,a_,h.jM l hl,h.jM l0 (y_ h0)];simp) ?_;subst hN;exact eP _ _ ⟨rfl,_,rfl⟩
 ·rintro ρ M' ⟨rfl,o,rfl⟩;subst hN;exact hR
def DK {ps:List Int}{m:Int}{i:Nat}{p:Int} (h:placesOk 0 m ps) (hp:ps[i]? = some p):b9 0 (ps.take i)<=p/\p<m/\b9 0 (ps.take (i+1))=p+1:=by
 have e:ps=ps.take i++p::ps.drop (i+1):=by
  obtain⟨hl,rfl⟩:=i_.mp hp;rw[<-aay hl,aa8]
 rw[e,iz] at h;obtain⟨_,h1,h2,_⟩:=h;refine⟨h1,h2,?_⟩;rw[eQ hp,iA];rfl
def pQ (p0:kA (Z.fn 0)) {ps:List Int}{m:Int} (h:placesOk 0 m ps) (hR:R .az M):Fn Z eG [.sh (.lst (ps.map .int)),.sh (.int m),.no,.no] M R:=by
 unfold eG;symm;left;left;refine aw (fun i ρ M'=>M'=M/\∃ o,ρ=[.sh (.lst (ps.map .int)),.sh (.int m),.sh (.int (b9 0 (ps.take i))),o]) ⟨rfl,_,rfl⟩ ?_ ?_
 ·rintro i x ρ M' N' hx ⟨rfl,o,rfl⟩ eP;rw[g_] at hx;obtain⟨p,hp,rfl⟩:=o_.mp hx;obtain⟨q1,q2,q3⟩:=DK h hp;and_intros;symm;refine p0 p _ _ ?_;and_intros;refine bD (d_ q1) (br (by rw[d_ q2];decide) ?_);left;subst hN;exact eP _ _ ⟨rfl,_,by rw[q3]⟩
 ·rintro ρ M' ⟨rfl,o,rfl⟩;subst hN;exact hR
noncomputable def atS (zs:List Str) (p:Int):Str:=zs.getD p.toNat ""
def hG (p:bH):Prop:=∀ (t:Dt) (zs:List Str) (ps:List Int) M R,(t=.fS '1'∨t=.tup '1'∨t=.lst '1')->(∀ q∈ps,0<=q/\q<zs.length)->ps.length<=1000->R (.lst ((ps.map (atS zs)).map .str)) M->p [t,.lst (ps.map .int)] M R
def dC {zs:List Str}{q:Int} (h0:0<=q) (h1:q<zs.length):n6 (zs.map Dt.str) q=some (.str (atS zs q)):=by
 obtain⟨n,rfl⟩:=Zy h0;refine aI ?_;unfold atS;have hn:n<zs.length:=by lia
 rw[g_,p_,B_,b_ hn];rfl
def yC {t:Dt}{zs:List Str}{ps:List Int} (ht:t=.fS '1'∨t=.tup '1'∨t=.lst '1') (hp:∀ q∈ps,0<=q/\q<zs.length) (hl:ps.length<=1000) (hR:R (.lst ((ps.map (atS zs)).map .str)) M):Fn Z kf [.sh t,.sh (.lst (ps.map .int))] M R:=by
 unfold kf;symm;refine⟨by rw[a_];exact R_ hl (2),comp_map (fun d=>match d with | .int q=>.str (atS zs q) | _=>.az) (4) ?_⟩
 ·obtain⟨q,hq,rfl⟩:=n_.mp hx;obtain⟨h0,h1⟩:=hp q hq;rcases ht with rfl | rfl | rfl
  ·and_intros;exact⟨_,dC h0 h1,hK⟩
  ·and_intros;exact⟨_,dC h0 h1,hK⟩
  ·and_intros;exact⟨_,dC h0 h1,hK⟩
 ·rw[G_] at hR ⊢;exact hR
noncomputable def jS (zs:List Str) (m:Str):List Int:=(zs.zipIdx.filter fun p=>decide (p.1=m)).map fun p=>(p.2:Int)
def ji (p:bH):Prop:=∀ (zs:List Str) (m:Str) M R,zs.length<=1000->R (.lst ((jS zs m).map .int)) M->p [.fS '1',.str m] M R
noncomputable def DL (m:Str):Dt->m_ Dt
 | .tup [.int i,.str z]=>if z=m then some (.int i) else none
 | _=>none
def oq {m z:Str}{i:Int}:DL m (.tup [.int i,.str z])=if z=m then some (.int i) else none:=rfl
theorem pS {m:Str}:∀ (zs:List Str) (k:Nat),(((zs.map Dt.str).zipIdx k).map fun p=>Dt.tup [.int (p.2:Int),p.1]).filterMap (DL m)=(((zs.zipIdx k).filter fun p=>decide (p.1=m)).map fun p=>(p.2:Int)).map Dt.int
 | [],k=>rfl
 | z::zs,k=>by
  rw[r_,abB,r_,Zw,pS zs (k+1),abB,Zz];by_cases e:z=m
  ·rw[oq,z_ e,z_ (by simpa using e)];rfl
  ·rw[oq,s_ e,s_ (by simpa using e)]
def wD {zs:List Str}{m:Str} (hl:zs.length<=1000) (hR:R (.lst ((jS zs m).map .int)) M):Fn Z i5 [.sh (.fS '1'),.sh (.str m)] M R:=by
 unfold i5;symm;refine⟨by rw[a_,aa6,a_];exact R_ hl (2),bz (DL m) (4) ?_⟩
 ·obtain⟨⟨d,k⟩,hp,rfl⟩:=n_.mp hx;have hd:=(agd hp).2.2
  obtain⟨z,hz,rfl⟩:∃ z,z∈zs/\d=.str z:=by
   have:=n_.mp (show d∈zs.map Dt.str by rw[hd];exact aaC _);obtain⟨z,h1,h2⟩:=this;exact⟨z,h1,h2.symm⟩
  and_intros;by_cases e:z=m
  ·refine bD (d_ e) ?_;rw[oq,z_ e] at hK;exact hK
  ·refine br (7) ?_;rw[oq,s_ e] at hK;exact hK
 ·rw[pS];exact hR
def eR (p:bH):Prop:=∀ (t:Dt) (zs:List Str) (a b:Str) M R,(t=.fS '1'∨t=.lst '1')->(∀ c:Bool,(c=true↔∃ i j:Nat,i<j/\zs[i]? = some a/\zs[j]? = some b)->R (.bl c) M)->p [t,.str a,.str b] M R
def pU {t:Dt}{zs:List Str}{a b:Str} (ht:t=.fS '1'∨t=.lst '1') (hR:∀ c:Bool,(c=true↔∃ i j:Nat,i<j/\zs[i]? = some a/\zs[j]? = some b)->R (.bl c) M):Fn Z eH [.sh t,.sh (.str a),.sh (.str b),.no,.no] M R:=by
 have hit:∀ Q:List Dt->Prop,FU t Q=Q '1':=fun Q=>by rcases ht with rfl | rfl<;>rfl
 unfold eH;symm;left;rw[hit];refine aw (fun i ρ M'=>M'=M/\(¬ ∃ k j:Nat,k<j/\j<i/\zs[k]? = some a/\zs[j]? = some b)/\∃ o s,ρ=[.sh t,.sh (.str a),.sh (.str b),.sh (.bl s),o]/\(s=true↔∃ k:Nat,k<i/\zs[k]? = some a)) ⟨rfl,by rintro⟨_,_,_,h,_⟩;lia,_,_,rfl,(3)⟩ ?_ ?_
 ·rintro i x ρ M' N' hx ⟨rfl,iw,o,s,rfl,hs⟩ eP;rw[g_] at hx;obtain⟨z,hz,rfl⟩:=o_.mp hx
  have go:(s=true->¬ z=b)->ex Z ((S.ite (C.eq false (C.v 4) (C.v 1)) ((S.set 3 (C.b true)).seq S.skip) S.skip).seq S.skip) [Sl.sh t,Sl.sh (Dt.str a),Sl.sh (Dt.str b),Sl.sh (Dt.bl s),Sl.sh (Dt.str z)] M' { nx:=N',rt:=R,bk:=N,ct:=N' }:=fun X4=>by
   have P4:¬ ∃ k j:Nat,k<j/\j<i+1/\zs[k]? = some a/\zs[j]? = some b:=by
    rintro⟨k,j,h1,h2,h3,h4⟩;rcases aai j i with h | h
    ·exact iw ⟨k,j,h1,h,h3,h4⟩
    ·have:j=i:=by lia
     subst this;rw[hz] at h4;exact X4 (hs.mpr ⟨k,h1,h3⟩) (M_ h4)
   symm;by_cases e:z=a
   ·refine bD (d_ e) ?_;right;subst hN2;subst hN;exact eP _ _ ⟨rfl,P4,_,_,rfl,⟨fun _=>⟨i,∅,by rw[hz,e]⟩,fun _=>rfl⟩⟩
   ·refine br (7) ?_;subst hN;refine eP _ _ ⟨rfl,P4,_,_,rfl,hs.trans ⟨fun⟨k,h1,h2⟩=>⟨k,∅,h2⟩,fun⟨k,h1,h2⟩=>⟨k,?_,h2⟩⟩⟩;rcases aai k i with h | h
    ·exact h
    ·have:k=i:=by lia
     subst this;rw[hz] at h2;exact absurd (M_ h2) e
  and_intros;symm
  cases s with
  | false=>refine br (2) ?_;subst hN;exact go fun z=>nomatch z
  | true =>
   refine bD rfl ?_;by_cases e:z=b
   ·refine bD (d_ e) ?_;symm;refine hR true ⟨fun _=>?_,fun _=>rfl⟩;obtain⟨k,h1,h2⟩:=hs.mp rfl;exact⟨k,i,h1,h2,by rw[hz,e]⟩
   ·refine br (7) ?_;subst hN;exact go fun _=>e
 ·rintro ρ M' ⟨rfl,iw,o,s,rfl,hs⟩;left;refine hR false (Iff.intro (6) fun⟨i,j,h1,h2,h3⟩=>absurd ⟨i,j,h1,?_,h2,h3⟩ iw);rw[a_];exact (i_.mp h3).1
def wF {xs:List Dt}{n:Nat}{i:Int} (h:i=(n:Int)):cutD xs (some i) none=xs.drop n:=by
 subst h;unfold cutD;rw[HT.vp,HT.jB];apply adH;intro j;rw[acu,aak,aak];split
 ·rcases aef n xs.length with h | h
  ·rw[aax h]
  ·rw[acU h,ZT ∅,ZT ∅]
 ·rw[ZT ∅]
def bX (p:bH):Prop:=∀ (t:Dt) (zs:List Str) (a b:Str) M R,(t=.fS '1'∨t=.tup '1')->zs.length<=1000->(∀ c:Bool,(c=true↔∃ i:Nat,zs[i]? = some a/\zs[i+1]? = some b)->R (.bl c) M)->p [t,.str a,.str b] M R
def jj {t:Dt}{zs:List Str}{a b:Str} (ht:t=.fS '1'∨t=.tup '1') (hl:zs.length<=1000) (hR:∀ c:Bool,(c=true↔∃ i:Nat,zs[i]? = some a/\zs[i+1]? = some b)->R (.bl c) M):Fn Z bU [.sh t,.sh (.str a),.sh (.str b)] M R:=by
 unfold bU;have hq:t7 t=some '1':=by rcases ht with rfl | rfl<;>rfl
 symm;rw[hq];show aeD _<=sizeLine/\_;have hc:cutD (zs.map Dt.str) (some 1) none=(zs.drop 1).map Dt.str:=by rw[acX];exact wF (n:=1) rfl
 rw[hc,List.zip_map,G_];refine⟨by rw[a_,aeo];exact R_ (Nat.min_le_left _ _) (R_ hl (2)),?_⟩;refine comp_map (fun d=>match d with | .tup [.str x,.str y]=>.bl (decide (x=a)&&decide (y=b)) | _=>.az) (4) ?_
 ·obtain⟨⟨x,y⟩,hp,rfl⟩:=n_.mp hx;show if decide (x=a)=true then K (some (.bl (decide (y=b)))) M else K (some (.bl false)) M
  by_cases e:x=a
  ·refine bD (d_ e) ?_;have hK:K (some (.bl (decide (x=a)&&decide (y=b)))) M:=hK;rw[d_ e,Bool.true_and] at hK;exact hK
  ·refine br (7) ?_;have hK:K (some (.bl (decide (x=a)&&decide (y=b)))) M:=hK;rw[f_ e,agl] at hK;exact hK
 ·refine⟨(zs.zip (zs.drop 1)).map fun p=>decide (p.1=a)&&decide (p.2=b),by rw[G_,G_];rfl,hR _ ?_⟩;rw[ab8,aan];constructor
  ·rintro⟨⟨x,y⟩,hp,h⟩;obtain⟨i,hi⟩:=Y_.mp hp;obtain⟨h1,h2⟩:=aaz.mp hi;rw[aak] at h2;have h:(decide (x=a)&&decide (y=b))=true:=h;rw[v_] at h
   cases l_ h.1
   cases l_ h.2
   exact⟨i,h1,by rw[afK];exact h2⟩
  ·rintro⟨i,h1,h2⟩;refine⟨(a,b),Y_.mpr ⟨i,aaz.mpr ⟨h1,?_⟩⟩,by show (decide (a=a)&&decide (b=b))=true;simp⟩;rw[aak,afK];exact h2
end
noncomputable def aT (ns:List Nd) (k:Nat):Nat:=((ns.drop (k+1)).takeWhile fun n=>decide ((ns.getD k ("",0)).2<n.2)).length
theorem HN {α:Type}{P:α->Bool}:∀ {l:List α}{j:Nat},j<(l.takeWhile P).length->∃ x,l[j]? = some x/\P x=true
 | [],j,h=>by simp at h
 | x::l,j,h=>by
  rw[aeY] at h
  cases hx:P x with
  | false=>rw[hx] at h;simp at h
  | true =>
   rw[hx] at h
   cases j with
   | zero=>exact⟨x,rfl,hx⟩
   | succ j=>exact HN (l:=l) (by simpa using h)
theorem zV {α:Type}{P:α->Bool}:∀ {l:List α}{x:α},l[(l.takeWhile P).length]? = some x->P x=false
 | [],x,h=>by simp at h
 | y::l,x,h=>by
  rw[aeY] at h
  cases hy:P y with
  | false=>rw[hy] at h;simp at h;rw[<-h];exact hy
  | true=>rw[hy] at h;exact zV (l:=l) (by simpa using h)
def zW {ns:List Nd}{k j:Nat} (h:j<aT ns k):∃ n,ns[k+1+j]? = some n/\(ns.getD k ("",0)).2<n.2:=by
 obtain⟨n,h1,h2⟩:=HN h;rw[aak] at h1;exact⟨n,h1,l_ h2⟩
def sL {ns:List Nd}{k:Nat}{n:Nd} (h:ns[k+1+aT ns k]? = some n):¬ (ns.getD k ("",0)).2<n.2:=by
 have h1:=zV (l:=ns.drop (k+1)) (P:=fun n=>decide ((ns.getD k ("",0)).2<n.2)) (x:=n) (by rw[aak];exact h);exact of_decide_eq_false h1
def jG (ns:List Nd) (k:Nat):aT ns k<=ns.length-(k+1):=by
 unfold aT;refine R_ (List.takeWhile_sublist _).length_le ?_;rw[Z9];exact t_ _
def jk {ns:List Nd}{e l:Nat} (hl:l<ns.length):l<=e+aT ns e↔∀ j,e<j->j<=l->(ns.getD e ("",0)).2<(ns.getD j ("",0)).2:=by
 constructor
 ·intro h j h1 h2;obtain⟨n,hn,hd⟩:=zW (ns:=ns) (k:=e) (j:=j-(e+1)) ∅;rw[show e+1+(j-(e+1))=j by lia] at hn;rw[B_ (i:=j),hn];exact hd
 ·intro h;rcases aai (e+aT ns e) l with jN | X5
  ·have hj:e+1+aT ns e<ns.length:=by lia
   have:=sL (b_ hj);have h2:=h (e+1+aT ns e) ∅ ∅;rw[B_ (i:=e+1+aT ns e),b_ hj] at h2;exact absurd h2 this
  ·exact X5
def getD_mem {α:Type}{xs:List α}{i:Nat}{a:α} (h:i<xs.length):xs.getD i a∈xs:=by
 rw[B_,b_ h];exact aaC h
inductive Rw where
 | row (zs:List Str) | ae (ns:List Nd) | table (w:Nat) (ls:List (List Str))
def Rw.Ok:Rw->Prop
 | .row zs=>(∀ z∈zs,ax z=true)/\zs.length<=40
 | .ae ns=>aN 0 ns/\ns.length<=40
 | .table w ls=>aD w ls
noncomputable def cW (l:List Str):Dt:=.tup (l.map .str)
noncomputable def bf:Rw->Dt
 | .row zs=>.obj 17 ["spot_marks"] [.fS '1']
 | .ae ns=>.obj 18 ["spot_marks","nodes"] [.fS ((ns.map (·.1)).map .str),.tup (ns.map aC)]
 | .table w ls=>.obj 19 ["spot_marks","lines","columns"] [.fS (ls.flatten.map .str),.tup (ls.map cW),.int w]
noncomputable def Rw.names:Rw->List Str
 | .row zs=>zs
 | .ae ns=>ns.map (·.1)
 | .table _ ls=>ls.flatten
noncomputable def Rw.many:Rw->Nat
 | .row zs=>zs.length
 | .ae ns=>ns.length
 | .table w ls=>ls.length+w
noncomputable def iD (ls:List (List Str)) (ps:List Int):List (List Str):=(linesOf ls.length ps).map fun i=>(bh ls.length ps).map fun j=>atS (ls.getD i.toNat []) j
noncomputable def Rw.left:Rw->List Int->Rw
 | .row zs,ps=>.row (ps.map (atS zs))
 | .ae ns,ps=>.ae (nh ns ps)
 | .table _ ls,ps=>.table (bh ls.length ps).length (iD ls ps)
noncomputable def pW:Rw->Dt
 | .row zs=>.tup [.str "row",.fS '1']
 | .ae ns=>.tup [.str "forest",.tup (ns.map aC)]
 | .table w ls=>.tup [.str "table",.int w,.tup (ls.map cW)]
noncomputable abbrev VX:=Pr.at_
noncomputable abbrev X6:=Pr.cs
structure GB (Z:Gm):Prop where
 at_:Z.at_=VX
 cs:Z.cs=X6
section
variable {Z:Gm}{M:Mem}{R:Dt->Mem->Prop}
def sz {n:Nat} (h:n<=1000):n<=sizeLine:=R_ h (2)
def P5 (g:GB Z):Z.at_ 17 "spot_marks" = true:=by rw[g.at_];decide +kernel
def HP (g:GB Z):Z.at_ 18 "spot_marks" = true:=by rw[g.at_];decide +kernel
def HQ (g:GB Z):Z.at_ 18 "nodes" = true:=by rw[g.at_];decide +kernel
def HR (g:GB Z):Z.at_ 19 "spot_marks" = true:=by rw[g.at_];decide +kernel
def HS (g:GB Z):Z.at_ 19 "lines" = true:=by rw[g.at_];decide +kernel
def zX (g:GB Z):Z.at_ 19 "columns" = true:=by rw[g.at_];decide +kernel
def zY {α:Type}{a:Str}{x:α}{r:List (Str×α)}:abj a ((a,x)::r)=some x:=by rw[Zt,abx]
def yD {α:Type}{a b:Str}{x:α}{r:List (Str×α)} (h:(b==a)=false):abj b ((a,x)::r)=abj b r:=by rw[Zt,h]
def Uo (g:GB Z) {d:Dt}{k:Dt->Prop} (h:k d):fq Z "spot_marks" (.obj 17 ["spot_marks"] [d]) k:=⟨P5 g,d,zY,h⟩
def Up (g:GB Z) {d e:Dt}{k:Dt->Prop} (h:k d):fq Z "spot_marks" (.obj 18 ["spot_marks","nodes"] [d,e]) k:=⟨HP g,d,zY,h⟩
def Lf (g:GB Z) {d e:Dt}{k:Dt->Prop} (h:k e):fq Z "nodes" (.obj 18 ["spot_marks","nodes"] [d,e]) k:=⟨HQ g,e,(yD (1)).trans zY,h⟩
def Uq (g:GB Z) {d e c:Dt}{k:Dt->Prop} (h:k d):fq Z "spot_marks" (.obj 19 ["spot_marks","lines","columns"] [d,e,c]) k:=⟨HR g,d,zY,h⟩
def Gy (g:GB Z) {d e c:Dt}{k:Dt->Prop} (h:k e):fq Z "lines" (.obj 19 ["spot_marks","lines","columns"] [d,e,c]) k:=⟨HS g,e,(yD (1)).trans zY,h⟩
def Lg (g:GB Z) {d e c:Dt}{k:Dt->Prop} (h:k c):fq Z "columns" (.obj 19 ["spot_marks","lines","columns"] [d,e,c]) k:=⟨zX g,c,(yD (1)).trans ((yD (1)).trans zY),h⟩
def hJ (p:bH):Prop:=∀ (r:Rw) M R,R (.int r.many) M->p [bf r] M R
def yE (g:GB Z) {zs:List Str} (hR:R (.int (zs.length:Nat)) M):Fn Z kh [.sh (bf (.row zs))] M R:=by
 unfold kh bf;symm;refine Uo g ?_;and_intros;rw[a_];exact hR
def qZ (g:GB Z) {ns:List Nd} (hR:R (.int (ns.length:Nat)) M):Fn Z fE [.sh (bf (.ae ns))] M R:=by
 unfold fE bf;symm;refine Lf g ?_;and_intros;rw[a_];exact hR
def ux (g:GB Z) {w:Nat}{ls:List (List Str)} (hR:R (.int ((ls.length+w:Nat):Int)) M):Fn Z gR [.sh (bf (.table w ls))] M R:=by
 unfold gR bf;symm;refine Gy g ?_;and_intros;refine Lg g ?_;and_intros;rw[a_,<-ZA];exact hR
def yF (p:bH):Prop:=∀ (r:Rw) M R,R (pW r) M->p [bf r] M R
def yG (g:GB Z) {zs:List Str} (hR:R (pW (.row zs)) M):Fn Z kj [.sh (bf (.row zs))] M R:=by
 unfold kj bf;symm;refine Uo g ?_;exact⟨sz (3),hR⟩
def q8 (g:GB Z) {ns:List Nd} (hR:R (pW (.ae ns)) M):Fn Z fG [.sh (bf (.ae ns))] M R:=by
 unfold fG bf;symm;refine Lf g ?_;exact⟨sz (3),hR⟩
def uy (g:GB Z) {w:Nat}{ls:List (List Str)} (hR:R (pW (.table w ls)) M):Fn Z gU [.sh (bf (.table w ls))] M R:=by
 unfold gU bf;symm;refine Lg g (Gy g ?_);exact⟨sz (3),hR⟩
def eZ (g:GB Z) (r:Rw) {k:Dt->Prop} (h:k (.fS (r.names.map .str))):fq Z "spot_marks" (bf r) k:=by
 cases r with
 | row zs=>exact Uo g h
 | ae ns=>exact Up g h
 | table w ls=>exact Uq g h
def uz (p:bH):Prop:=∀ (r:Rw) M R,R (.lst (r.names.map .str)) M->p [bf r] M R
def rh (g:GB Z) {r:Rw} (hR:R (.lst (r.names.map .str)) M):Fn Z fB [.sh (bf r)] M R:=by
 unfold fB;symm;exact eZ g r hR
def jl (p:bH):Prop:=∀ (r:Rw) (a b:Str) M R,(∀ c:Bool,(c=true↔∃ i j:Nat,i<j/\r.names[i]? = some a/\r.names[j]? = some b)->R (.bl c) M)->p [bf r,.str a,.str b] M R
def lH (g:GB Z) (Lh:eR (Z.fn 10)) {r:Rw}{a b:Str} (hR:∀ c:Bool,(c=true↔∃ i j:Nat,i<j/\r.names[i]? = some a/\r.names[j]? = some b)->R (.bl c) M):Fn Z cH [.sh (bf r),.sh (.str a),.sh (.str b)] M R:=by
 unfold cH;symm;refine eZ g r ?_;and_intros;exact Lh _ _ _ _ _ _ (.inl rfl) hR
def f7 (p:bH):Prop:=∀ (r:Rw) (m:Str) M R,R (.int (r.names.count m:Nat)) M->p [bf r,.str m] M R
def nI (g:GB Z) {r:Rw}{m:Str} (hR:R (.int (r.names.count m:Nat)) M):Fn Z dE [.sh (bf r),.sh (.str m)] M R:=by
 unfold dE;symm;refine eZ g r ?_;and_intros;refine⟨rfl,by rw[aaY];exact Zn.mpr fun _ _=>rfl,?_⟩;rw[agb];exact hR
def kD (p:bH):Prop:=∀ (r:Rw) (m:Str) M R,r.names.length<=1000->(∀ w ls,r≠.table w ls)->R (.lst ((jS r.names m).map .int)) M->p [bf r,.str m] M R
def jm (g:GB Z) (p9:ji (Z.fn 9)) {zs:List Str}{m:Str} (hl:zs.length<=1000) (hR:R (.lst ((jS zs m).map .int)) M):Fn Z eI [.sh (bf (.row zs)),.sh (.str m)] M R:=by
 unfold eI;symm;refine eZ g (.row zs) ?_;and_intros;exact p9 _ _ _ _ hl hR
def e9 (g:GB Z) (p9:ji (Z.fn 9)) {ns:List Nd}{m:Str} (hl:(ns.map (·.1)).length<=1000) (hR:R (.lst ((jS (ns.map (·.1)) m).map .int)) M):Fn Z cI [.sh (bf (.ae ns)),.sh (.str m)] M R:=by
 unfold cI;symm;refine eZ g (.ae ns) ?_;and_intros;exact p9 _ _ _ _ hl hR
def Rw.under:Rw->Nat->Nat->Prop
 | .row _,_,_=>False
 | .ae ns,i,j=>∀ k,i<k->k<=j->(ns.getD i ("",0)).2<(ns.getD k ("",0)).2
 | .table w _,i,j=>i % w=j % w
def Rw.aH:Rw->Nat->Nat->Prop
 | .row _,i,j=>j=i+1
 | .ae ns,i,j=>(ns.getD i ("",0)).2=(ns.getD j ("",0)).2/\∀ k,i<k->k<j->(ns.getD i ("",0)).2<(ns.getD k ("",0)).2
 | .table w _,i,j=>j=i+1/\i / w=j / w
def Rw.rel (r:Rw) (f:Nat->Nat->Prop) (a b:Str):Prop:=∃ i j,i<j/\r.names[i]? = some a/\r.names[j]? = some b/\f i j
def kE (p:bH):Prop:=∀ (r:Rw) (a b:Str) M R,r.Ok->(∀ c:Bool,(c=true↔r.rel r.under a b)->R (.bl c) M)->p [bf r,.str a,.str b] M R
def jn (p:bH):Prop:=∀ (r:Rw) (a b:Str) M R,r.Ok->ax b=true->(∀ c:Bool,(c=true↔r.rel r.aH a b)->R (.bl c) M)->p [bf r,.str a,.str b] M R
def pX {zs:List Str}{a b:Str} (hR:∀ c:Bool,(c=true↔(Rw.row zs).rel (Rw.row zs).under a b)->R (.bl c) M):Fn Z eJ [.sh (bf (.row zs)),.sh (.str a),.sh (.str b)] M R:=by
 unfold eJ;symm;exact hR false ⟨fun z=>(nomatch z),fun⟨_,_,_,_,_,h⟩=>h.elim⟩
def nJ (g:GB Z) (Li:bX (Z.fn 11)) {zs:List Str}{a b:Str} (o:(Rw.row zs).Ok) (hR:∀ c:Bool,(c=true↔(Rw.row zs).rel (Rw.row zs).aH a b)->R (.bl c) M):Fn Z dF [.sh (bf (.row zs)),.sh (.str a),.sh (.str b)] M R:=by
 unfold dF;symm;refine eZ g (.row zs) ?_;and_intros;refine Li _ _ _ _ _ _ (.inl rfl) (R_ o.2 (2)) fun c hc=>hR c (hc.trans ⟨fun⟨i,h1,h2⟩=>⟨i,i+1,∅,h1,h2,rfl⟩,fun⟨i,j,h1,h2,h3,h4⟩=>⟨i,h2,?_⟩⟩)
 cases (show j=i+1 from h4)
 exact h3
noncomputable def jo (lo n:Nat):List Int:=(Zo n).map fun i:Nat=>((lo+i:Nat):Int)
def mL (p:bH):Prop:=∀ (ns:List Nd) (i:Nat) M R,(Rw.ae ns).Ok->i<ns.length->R (.lst (bO i (aT ns i+1))) M->p [bf (.ae ns),.int i] M R
def pY {ns:List Nd}{k:Nat->List Str->Prop}:fY M (bf (.ae ns)) k=k 18 ["spot_marks","nodes"]:=rfl
def P6 {zs:List Str}{k:Nat->List Str->Prop}:fY M (bf (.row zs)) k=k 17 ["spot_marks"]:=rfl
def P7 {w:Nat}{ls:List (List Str)}{k:Nat->List Str->Prop}:fY M (bf (.table w ls)) k=k 19 ["spot_marks","lines","columns"]:=rfl
def lI (g:GB Z) {ns:List Nd}{k:Dt->Prop} (h:k (.tup (ns.map aC))):fq Z "nodes" (bf (.ae ns)) k:=Lf g h
def ou {ns:List Nd}{i:Nat}{n:Nd}{k:Dt->Prop} (hn:ns[i]? = some n) (h:k (aC n)):ly (.tup (ns.map aC)) i k:=⟨aC n,aI (by rw[g_,hn];rfl),h⟩
def Gz {n:Nd}{k:Dt->Prop} (h:k (.str n.1)):ly (aC n) 0 k:=⟨_,rfl,h⟩
def wG {n:Nd}{k:Dt->Prop} (h:k (.int n.2)):ly (aC n) 1 k:=⟨_,rfl,h⟩
def getD_some {α:Type}{xs:List α}{i:Nat}{x d:α} (h:xs[i]? = some x):xs.getD i d=x:=by rw[B_,h];rfl
def f9 (g:GB Z) (p9:hJ (Z.me 9)) (hm:Z.hm 9 18 ["spot_marks","nodes"]=true) {ns:List Nd}{i:Nat} (o:(Rw.ae ns).Ok) (hi:i<ns.length) (hR:R (.lst (bO i (aT ns i+1))) M):Fn Z cY [.sh (bf (.ae ns)),.sh (.int i),.no] M R:=by
 unfold cY;have tl:=jG ns i;have HU:=o.2;obtain⟨ni,Lj⟩:∃ n,ns[i]? = some n:=⟨_,b_ hi⟩;symm;left;refine⟨fun m ρ M'=>M'=M/\∃ e:Nat,m=ns.length-e/\i<e/\e<=i+aT ns i+1/\ρ=[.sh (bf (.ae ns)),.sh (.int i),.sh (.int e)],⟨_,rfl,i+1,rfl,∅,∅,(3)⟩,?_⟩;rintro m ρ M' ⟨rfl,e,rfl,h1,h2,rfl⟩
 have fin:e=i+aT ns i+1->N [.sh (bf (.ae ns)),.sh (.int i),.sh (.int e)] M':=fun he=>by
  left;refine⟨⟨∅,∅⟩,⟨∅,∅⟩,∅,?_⟩;rw[show ((e:Int)-(i:Int)).toNat=aT ns i+1 by lia];exact hR
 and_intros;rw[pY];refine⟨hm,p9 _ _ _ ?_⟩;show if decide ((e:Int)<(ns.length:Nat))=true then _ else _
 by_cases he:e<ns.length
 ·refine bD (d_ ∅) ?_;obtain⟨ne,EE⟩:∃ n,ns[e]? = some n:=⟨_,b_ he⟩;refine lI g (ou EE (wG (lI g (ou Lj (wG ?_)))));show if decide (ni.2<ne.2)=true then _ else _
  by_cases jN:ni.2<ne.2
  ·refine bD (d_ jN) ?_;right;subst hN2
   have:e≠i+aT ns i+1:=fun z=>by
    have:=sL (ns:=ns) (k:=i) (n:=ne) (by rw[<-EE,z];congr 1;lia);rw[getD_some Lj] at this;exact this jN
   exact⟨ns.length-(e+1),∅,rfl,e+1,rfl,∅,∅,(3)⟩
  ·refine br (by rw[f_ jN];decide) (fin ?_);rcases aai e (i+aT ns i+1) with h | h
   ·obtain⟨n,hn,hd⟩:=zW (ns:=ns) (k:=i) (j:=e-(i+1)) ∅;rw[show i+1+(e-(i+1))=e by lia,EE] at hn
    cases hn
    rw[getD_some Lj] at hd;exact absurd hd jN
   ·lia
 ·refine br (by rw[f_ ∅];decide) (fin ∅)
def bI {zs:List Str}{m:Str}{q:Int}:q∈jS zs m↔∃ i:Nat,q=(i:Int)/\zs[i]? = some m:=by
 unfold jS;rw[n_];constructor
 ·rintro⟨⟨z,i⟩,h,rfl⟩;obtain⟨h1,h2⟩:=Z5.mp h;have:=aaP.mp h1
  cases l_ h2
  exact⟨i,rfl,this⟩
 ·rintro⟨i,rfl,h⟩;exact⟨(m,i),Z5.mpr ⟨aaP.mpr h,(3)⟩,rfl⟩
def sM {zs:List Str}{m:Str}:(jS zs m).length<=zs.length:=by
 unfold jS;rw[a_];exact R_ (abU _ _) (by rw[aa6];exact t_ _)
def DM {ns:List Nd}{i:Nat}{a:Str} (h:(ns.map (·.1))[i]? = some a):∃ n:Nd,ns[i]? = some n/\n.1=a:=by
 rw[g_] at h;obtain⟨n,h1,h2⟩:=o_.mp h;exact⟨n,h1,h2⟩
def wH {x:Str}{zs:List Str}{Q:Bool->Prop} (h:Q (decide (x∈zs))):Bg (.str x) (.lst '1') Q:=by
 refine .inl ⟨zs.map .str,rfl,rfl,by rw[aaY];exact Zn.mpr fun _ _=>rfl,?_⟩;rw[ab8]
 have e:(zs.any ((fun z=>FT z (.str x)) ∘ Dt.str))=decide (x∈zs):=by
  rw[Z6,aan,Zp];constructor
  ·rintro⟨z,h1,h2⟩;have h2:(z==x)=true:=h2;rw[<-aap.mp h2];exact h1
  ·intro h1;exact⟨x,h1,show (x==x)=true from abx x⟩
 rw[e];exact h
def cw {f:Dt->En->Mem->yn->Prop}{E:yn}{items:List Dt}{ρ:En}{T:Prop} (Iv:En->Prop) (P:Dt->Prop) (h0:Iv ρ)
  (hs:∀ x∈items,∀ (ρ:En) (N:En->Mem->Prop),Iv ρ->(P x->T)->(¬ P x->∀ ρ',Iv ρ'->N ρ' M)->f x ρ M { E with nx:=N,ct:=N,bk:=E.nx })
  (ht:(∃ x∈items,P x)->T) (hd:(¬ ∃ x∈items,P x)->∀ ρ,Iv ρ->E.nx ρ M):eY f E items ρ M:=by
 refine aw (fun i ρ M'=>M'=M/\Iv ρ/\¬ ∃ x∈items.take i,P x) ⟨rfl,h0,(3)⟩ ?_ ?_
 ·rintro i x ρ M' N hx ⟨rfl,iv,iw⟩ hN;have hm:=y_ hx;refine hs x hm ρ N iv (fun p=>ht ⟨x,hm,p⟩) fun np ρ' Ur=>hN ρ' _ ⟨rfl,Ur,?_⟩
  rintro⟨y,hy,py⟩;rw[eQ hx] at hy;rcases U_.mp hy with h | h
  ·exact iw ⟨y,h,py⟩
  ·rw[D_] at h;subst h;exact np py
 ·rintro ρ M' ⟨rfl,iv,iw⟩;rw[aa1] at iw;exact hd iw ρ iv
def Ll {lo n:Nat}:bO lo n=(jo lo n).map .int:=by
 unfold bO jo;rw[G_];rfl
def Bu {lo n:Nat}:(jo lo (n+1)).drop 1=jo (lo+1) n:=by
 apply adH;intro j;unfold jo;rw[aak,g_,g_];rcases aai j n with h | h
 ·rw[aad ∅,aad h];show some ((lo+(1+j):Nat):Int)=some ((lo+1+j:Nat):Int);rw[Nat.add_assoc]
 ·rw[ZT (by rw[K_];lia),ZT (by rw[K_];lia)];rfl
def pZ {lo n:Nat}{q:Int}:q∈jo lo n↔∃ i:Nat,q=(i:Int)/\lo<=i/\i<lo+n:=by
 unfold jo;rw[n_];constructor
 ·rintro⟨k,hk,rfl⟩;have:=Zv.mp hk;exact⟨lo+k,rfl,∅,∅⟩
 ·rintro⟨i,rfl,h1,h2⟩;exact⟨i-lo,Zv.mpr ∅,by congr 1;lia⟩
def uA {zs:List Str}{i:Nat}{z:Str} (h:zs[i]? = some z):atS zs i=z:=by unfold atS;rw[p_];exact getD_some h
def lJ (g:GB Z) (p8:hG (Z.fn 8)) (qa:kD (Z.me 12)) (GA:mL (Z.me 15)) (Lm:Z.hm 12 18 ["spot_marks","nodes"]=true) (Ln:Z.hm 15 18 ["spot_marks","nodes"]=true) {ns:List Nd}{a b:Str} (o:(Rw.ae ns).Ok) (hR:∀ c:Bool,(c=true↔(Rw.ae ns).rel (Rw.ae ns).under a b)->R (.bl c) M):Fn Z cJ [.sh (bf (.ae ns)),.sh (.str a),.sh (.str b),.no] M R:=by
 unfold cJ;have HU:ns.length<=40:=o.2;have nl:(Rw.ae ns).names.length=ns.length:=a_ _;symm;rw[pY];refine⟨Lm,qa _ _ _ _ (by rw[nl];lia) (fun _ _ z=>nomatch z) ?_⟩;and_intros
 have P8:∀ i:Nat,i<ns.length->((∃ j,i<j/\(Rw.ae ns).names[j]? = some b/\(Rw.ae ns).under i j)↔b∈((jo (i+1) (aT ns i)).map (atS (Rw.ae ns).names))):=fun i hi=>by
  have tl:=jG ns i;rw[n_];constructor
  ·rintro⟨j,h1,h2,h3⟩;have hj:j<ns.length:=by rw[<-nl];exact (i_.mp h2).1
   have:=(jk hj).mpr h3;exact⟨j,pZ.mpr ⟨j,rfl,∅,∅⟩,uA h2⟩
  ·rintro⟨q,hq,hb⟩;obtain⟨j,rfl,h1,h2⟩:=pZ.mp hq;have hj:j<ns.length:=by lia
   have hg:(Rw.ae ns).names[j]? = some ((Rw.ae ns).names[j]'∅):=b_ _;rw[uA hg] at hb;exact⟨j,∅,by rw[hg,hb],(jk hj).mp ∅⟩
 refine cw (T:=R (.bl true) M) (fun ρ=>∃ o3,ρ=[.sh (bf (.ae ns)),.sh (.str a),.sh (.str b),o3]) (fun x=>∃ i j:Nat,x=.int i/\i<j/\(Rw.ae ns).names[j]? = some b/\(Rw.ae ns).under i j) ⟨_,rfl⟩ ?_ ?_ ?_
 ·rintro x hx ρ N' ⟨o3,rfl⟩ hy hn;obtain⟨q,hq,rfl⟩:=n_.mp hx;obtain⟨i,rfl,Lo⟩:=bI.mp hq;have hi:i<ns.length:=by rw[<-nl];exact (i_.mp Lo).1
  have tl:=jG ns i;and_intros;right;refine eZ g _ ?_;rw[pY];refine⟨Ln,GA _ _ _ _ o hi ?_⟩;show Z.fn 8 [_,.lst (cutD (bO i (aT ns i+1)) (some 1) none)] M _;rw[wF (n:=1) (i:=1) rfl,Ll,<-acX,Bu];refine p8 _ _ _ _ _ (.inl rfl) (fun q hq=>?_) (by unfold jo;rw[a_,K_];lia) ?_
  ·obtain⟨j,rfl,h1,h2⟩:=pZ.mp hq;rw[nl];lia
  ·refine wH ?_;by_cases hb:b∈((jo (i+1) (aT ns i)).map (atS (Rw.ae ns).names))
   ·refine bD (d_ hb) ?_
    first | refine sqo fun N3 bw=>?_ | (dsimp only;refine sqo fun N3 bw=>?_)
    obtain⟨j,h1,h2,h3⟩:=(P8 i hi).mpr hb;exact hy ⟨i,j,rfl,h1,h2,h3⟩
   ·refine br (by rw[f_ hb];decide) ?_;subst hN2;refine hn ?_ _ ⟨_,rfl⟩;rintro⟨i',j,e,h1,h2,h3⟩;have:i=i':=by injection e with e;lia
    subst this;exact hb ((P8 i hi).mp ⟨j,h1,h2,h3⟩)
 ·rintro⟨x,hx,i,j,rfl,h1,h2,h3⟩;obtain⟨q,hq,e⟩:=n_.mp hx;obtain⟨i',rfl,Lo⟩:=bI.mp hq;have:i'=i:=by injection e with e;lia
  subst this;exact hR true ⟨fun _=>⟨i',j,h1,Lo,h2,h3⟩,fun _=>rfl⟩
 ·rintro iw ρ ⟨o3,rfl⟩;left;refine hR false ⟨fun z=>(nomatch z),fun⟨i,j,h1,h2,h3,h4⟩=>absurd ⟨.int i,n_.mpr ⟨i,bI.mpr ⟨i,rfl,h2⟩,rfl⟩,i,j,rfl,h1,h3,h4⟩ iw⟩
def wI {n:Nd}{b:Str}{d:Int}:V_ (.tuple [.str n.1,.int n.2]) (.tuple [.str b,.int d])=decide (n=(b,d)):=by
 rw[abQ,ZI,ZI,acv,age,agf,ZS,Z6,v_,aap,aap,Zp];exact⟨fun⟨h1,h2⟩=>Prod.ext h1 h2,fun h=>by rw[h];exact⟨rfl,rfl⟩⟩
def nq {n:Nd} (h:ax n.1=true):L_ (.tuple [.str n.1,.int n.2])=true:=by
 have c:=dZ (ns:=[n]) (by intro m hm;rw[D_] at hm;subst hm;exact gA h);have d:=eX [n];unfold L_;unfold jJ at c d;simp only[r_,Z_,Zl,Zr,ZS] at c d;rw[v_];exact⟨c,d_ ∅⟩
def DN {n:Nd}{b:Str}{d:Int}{Q:Bool->Prop} (h1:ax n.1=true) (h2:ax b=true) (h:Q (decide (n=(b,d)))):we (aC n) (.tup [.str b,.int d]) Q:=by
 refine (show ∃ p q,toP (aC n)=some p/\toP (.tup [.str b,.int d])=some q/\L_ p=true/\L_ q=true/\Q (V_ p q) from ⟨_,_,rfl,rfl,nq h1,nq (n:=(b,d)) h2,?_⟩);rw[wI];exact h
def kF (g:GB Z) (p9:hJ (Z.me 9)) (qa:kD (Z.me 12)) (GA:mL (Z.me 15)) (Lp:Z.hm 9 18 ["spot_marks","nodes"]=true) (Lm:Z.hm 12 18 ["spot_marks","nodes"]=true) (Ln:Z.hm 15 18 ["spot_marks","nodes"]=true) {ns:List Nd}{a b:Str} (hb:ax b=true) (o:(Rw.ae ns).Ok) (hR:∀ c:Bool,(c=true↔(Rw.ae ns).rel (Rw.ae ns).aH a b)->R (.bl c) M):Fn Z cn [.sh (bf (.ae ns)),.sh (.str a),.sh (.str b),.no,.no] M R:=by
 unfold cn;have HU:ns.length<=40:=o.2;have nl:(Rw.ae ns).names.length=ns.length:=a_ _;symm;rw[pY];refine⟨Lm,qa _ _ _ _ (by rw[nl];lia) (fun _ _ z=>nomatch z) ?_⟩;and_intros
 have P8:∀ i:Nat,i<ns.length->((∃ j,i<j/\(Rw.ae ns).names[j]? = some b/\(Rw.ae ns).aH i j)↔ns[i+aT ns i+1]? = some (b,(ns.getD i ("",0)).2)):=fun i hi=>by
  have tl:=jG ns i;constructor
  ·rintro⟨j,h1,h2,h3,h4⟩;have hj:j<ns.length:=by rw[<-nl];exact (i_.mp h2).1
   have up:j-1<=i+aT ns i:=(jk ∅).mpr fun k k1 k2=>h4 k k1 ∅
   have no:¬ j<=i+aT ns i:=fun h=>by
    have:=(jk hj).mp h j h1 (t_ _)
    lia
   have ej:j=i+aT ns i+1:=by lia
   subst ej;obtain⟨n,hn,rfl⟩:=DM h2;rw[getD_some hn] at h3;rw[hn,h3]
  ·intro h;have hj:=(i_.mp h).1;refine⟨i+aT ns i+1,∅,by show (ns.map _)[_]? = _;rw[g_,h];rfl,by rw[getD_some h],fun k k1 k2=>?_⟩;exact (jk (l:=k) ∅).mp ∅ k k1 (t_ _)
 refine cw (T:=R (.bl true) M) (fun ρ=>∃ o3 o4,ρ=[.sh (bf (.ae ns)),.sh (.str a),.sh (.str b),o3,o4]) (fun x=>∃ i j:Nat,x=.int i/\i<j/\(Rw.ae ns).names[j]? = some b/\(Rw.ae ns).aH i j) ⟨_,_,rfl⟩ ?_ ?_ ?_
 ·rintro x hx ρ N' ⟨o3,o4,rfl⟩ hy hn;obtain⟨q,hq,rfl⟩:=n_.mp hx;obtain⟨i,rfl,Lo⟩:=bI.mp hq;have hi:i<ns.length:=by rw[<-nl];exact (i_.mp Lo).1
  obtain⟨ni,Lj⟩:∃ n,ns[i]? = some n:=⟨_,b_ hi⟩;have tl:=jG ns i
  have HV:¬ ns[i+aT ns i+1]? = some (b,ni.2)->¬ ∃ i' j:Nat,Dt.int i=.int i'/\i'<j/\(Rw.ae ns).names[j]? = some b/\(Rw.ae ns).aH i' j:=fun h=>by
   rintro⟨i',j,e,h1,h2,h3⟩;have:i=i':=by injection e with e;lia
   subst this;refine h ?_;rw[(P8 i hi).mp ⟨j,h1,h2,h3⟩,getD_some Lj]
  and_intros;right;rw[pY];refine⟨Ln,GA _ _ _ _ o hi ?_⟩;refine⟨.int ((i+aT ns i:Nat):Int),?_,?_⟩
  ·have e:bO i (aT ns i+1)=bO i (aT ns i)++[.int ((i+aT ns i:Nat):Int)]:=by
    unfold bO;rw[acp,F_];rfl
   rw[e];exact kW _ _
  and_intros;subst hN2;right;rw[pY];refine⟨Lp,p9 _ _ _ ?_⟩;show if decide (((i+aT ns i:Nat):Int)+1<((ns.length:Nat):Int))=true then _ else _
  by_cases jN:i+aT ns i+1<ns.length
  ·refine bD (d_ ∅) ?_;obtain⟨ne,EE⟩:∃ n,ns[i+aT ns i+1]? = some n:=⟨_,b_ jN⟩;refine lI g ?_;rw[<-Int.natCast_one,<-ZA];refine ou EE (lI g (ou Lj (wG ⟨sz (3),DN (uw o.1 EE).1 hb ?_⟩)));by_cases he:ne=(b,ni.2)
   ·refine bD (d_ he) ?_
    first | refine sqo fun N3 bw=>?_ | (dsimp only;refine sqo fun N3 bw=>?_)
    obtain⟨j,h1,h2,h3⟩:=(P8 i hi).mpr (by rw[EE,he,getD_some Lj]);exact hy ⟨i,j,rfl,h1,h2,h3⟩
   ·refine br (by rw[f_ he];decide) ?_;subst hN2;exact hn (HV (by rw[EE];exact fun z=>he (M_ z))) _ ⟨_,_,rfl⟩
  ·refine br (by rw[f_ ∅];decide) ?_;subst hN2;exact hn (HV (by rw[ZT ∅];exact fun z=>nomatch z)) _ ⟨_,_,rfl⟩
 ·rintro⟨x,hx,i,j,rfl,h1,h2,h3⟩;obtain⟨q,hq,e⟩:=n_.mp hx;obtain⟨i',rfl,Lo⟩:=bI.mp hq;have:i'=i:=by injection e with e;lia
  subst this;exact hR true ⟨fun _=>⟨i',j,h1,Lo,h2,h3⟩,fun _=>rfl⟩
 ·rintro iw ρ ⟨o3,o4,rfl⟩;left;refine hR false ⟨fun z=>(nomatch z),fun⟨i,j,h1,h2,h3,h4⟩=>absurd ⟨.int i,n_.mpr ⟨i,bI.mpr ⟨i,rfl,h2⟩,rfl⟩,i,j,rfl,h1,h3,h4⟩ iw⟩
abbrev In (Z:Gm) (c:S) (ρ:En) (M:Mem) (q:Nat) (k:Dt->Mem->Prop):Prop:=ex Z c ρ M { nx:=fun ρ M'=>dv ρ 0 fun d=>pE d fun q' fR vb=>q'=q/\k (.obj q fR vb) M',rt:=fun _ _=>False }
noncomputable abbrev EJ:=Dt->List Dt->Mem->(Dt->Mem->Prop)->Prop
def ox (p:EJ):Prop:=∀ (c:Nat) (zs:List Str) M k,(c=17∨c=18∨c=19)->k (.obj c ["spot_marks"] [.fS '1']) M->p (.obj c [] []) [.lst '1'] M k
def uB (g:GB Z) {c:Nat}{zs:List Str}{k:Dt->Mem->Prop} (hc:c=17∨c=18∨c=19) (h:k (.obj c ["spot_marks"] [.fS '1']) M):In Z gP [.ow (.obj c [] []),.sh (.lst '1')] M c k:=by
 unfold gP;symm
 have ha:Z.at_ c "spot_marks" = true:=by
  rcases hc with rfl | rfl | rfl
  ·exact P5 g
  ·exact HP g
  ·exact HR g
 refine⟨ha,(3),?_⟩;subst hN;exact⟨rfl,h⟩
def DO (p:EJ):Prop:=∀ (zs:List Str) M k,(Rw.row zs).Ok->k (bf (.row zs)) M->p (.obj 17 [] []) [.lst '1'] M k
def yH (g:GB Z) (p3:fQ (Z.fn 3)) (pT:ox (Z.bp 16)) {zs:List Str}{k:Dt->Mem->Prop} (o:(Rw.row zs).Ok) (h:k (bf (.row zs)) M):In Z kg [.ow (.obj 17 [] []),.sh (.lst '1')] M 17 k:=by
 unfold kg;symm;rw[g.cs];refine p3 zs 40 _ _ o.1 (by have:=o.2;lia) ?_;left;refine pT 17 zs _ _ (.inl rfl) ?_;subst hN;exact⟨rfl,h⟩
def put2 {d e:Dt}:putD "nodes" e ["spot_marks"] [d]=((["spot_marks","nodes"]:List Str),[d,e]):=by
 unfold putD;rw[s_ (1)];rfl
def P9 {d e:Dt}:putD "lines" e ["spot_marks"] [d]=((["spot_marks","lines"]:List Str),[d,e]):=by
 unfold putD;rw[s_ (1)];rfl
def HW {d e c:Dt}:putD "columns" c ["spot_marks","lines"] [d,e]=((["spot_marks","lines","columns"]:List Str),[d,e,c]):=by
 unfold putD;rw[s_ (1)];unfold putD;rw[s_ (1)];rfl
def Qa {d e c c':Dt}:putD "columns" c' ["spot_marks","lines","columns"] [d,e,c]=((["spot_marks","lines","columns"]:List Str),[d,e,c']):=by
 unfold putD;rw[s_ (1)];unfold putD;rw[s_ (1)];unfold putD;rw[z_ rfl]
noncomputable def Qb:Dt->Dt | .tup (.str z::_)=>.str z | _=>.az
noncomputable def Qc:Dt->Dt | .lst ds=>.tup ds | d=>d
def qb (p:EJ):Prop:=∀ (ns:List Nd) M k,(Rw.ae ns).Ok->k (bf (.ae ns)) M->p (.obj 18 [] []) [.lst (ns.map aC)] M k
def ri (g:GB Z) (p5:jQ (Z.fn 5)) (pT:ox (Z.bp 16)) {ns:List Nd}{k:Dt->Mem->Prop} (o:(Rw.ae ns).Ok) (h:k (bf (.ae ns)) M):In Z fD [.ow (.obj 18 [] []),.sh (.lst (ns.map aC))] M 18 k:=by
 unfold fD;symm;refine p5 ns _ _ o.1 o.2 ?_;left;refine⟨by rw[a_];exact sz (by have:=o.2;lia),comp_map Qb (4) ?_⟩
 ·obtain⟨n,hn,rfl⟩:=n_.mp hx;and_intros;exact Gz hK
 ·rw[show (ns.map aC).map Qb=(ns.map (·.1)).map .str by rw[G_,G_];rfl];refine pT 18 (ns.map (·.1)) _ _ (.inr (.inl rfl)) ?_;left;refine⟨HQ g,(3),?_⟩;subst hN;rw[put2];exact⟨rfl,h⟩
def uC (p:EJ):Prop:=∀ (w:Nat) (ls:List (List Str)) M k,aD w ls->k (bf (.table (if ls=[] then 0 else w) ls)) M->p (.obj 19 [] []) [.lst (ls.map aR)] M k
def uD (g:GB Z) (p6:jR (Z.fn 6)) (pT:ox (Z.bp 16)) {w:Nat}{ls:List (List Str)}{k:Dt->Mem->Prop} (o:aD w ls) (h:k (bf (.table (if ls=[] then 0 else w) ls)) M):In Z gQ [.ow (.obj 19 [] []),.sh (.lst (ls.map aR)),.no,.no] M 19 k:=by
 unfold gQ;symm;refine p6 w ls _ _ o ?_;left;refine⟨sz (3),?_⟩;left
 have fl:∀ n,((ls.take n).flatten).length<=n*12:=fun n=>by
  induction n with
  | zero=>simp
  | succ n ih =>
   cases hl:ls[n]? with
   | none =>
    have:=List.getElem?_eq_none_iff.mp hl;rw[ZR ∅];rw[ZR this] at ih
    lia
   | some l =>
    rw[eQ hl];have:=o.jM l (y_ hl);have:=o.DJ;simp only[List.flatten_append,A_,acI,List.flatten_nil,ZU]
    lia
 refine aw (fun i ρ M'=>M'=M/\∃ o3,ρ=[.ow (.obj 19 [] []),.sh (.lst (ls.map aR)),.ow (.lst (((ls.take i).flatten).map .str)),o3]) ⟨rfl,_,rfl⟩ ?_ ?_
 ·rintro i x ρ M' N' hx ⟨rfl,o3,rfl⟩ eP;rw[g_] at hx;obtain⟨l,hl,rfl⟩:=o_.mp hx;and_intros
  first | refine sqo fun N2 hN2=>?_ | (dsimp only;refine sqo fun N2 hN2=>?_)
  unfold aR;and_intros;subst hN2;have e:(ls.take i).flatten++l=(ls.take (i+1)).flatten:=by rw[eQ hl];simp
  refine⟨?_,?_⟩
  ·rw[a_,a_,<-A_,e];have:=fl (i+1);have:=(i_.mp hl).1;have:=o.len;exact sz ∅
  ·rw[<-F_,e];exact eP _ _ ⟨rfl,_,rfl⟩
 ·rintro ρ M' ⟨rfl,o3,rfl⟩;rw[a_,aa1];left;left;refine pT 19 ls.flatten _ _ (.inr (.inr rfl)) ?_;left;refine⟨by rw[a_];exact sz (by have:=o.len;lia),comp_map Qc (4) ⟨HS g,(3),?_⟩⟩
  ·obtain⟨l,hl,rfl⟩:=n_.mp hx;exact hK
  ·rw[P9,show (ls.map aR).map Qc=ls.map cW by rw[G_];rfl];left
   cases ls with
   | nil =>
    refine br (2) ⟨zX g,(3),?_⟩;rw[HW];subst hN;exact⟨rfl,h⟩
   | cons l r =>
    refine bD (3) ⟨aR l,aI (j:=0) rfl,?_⟩;unfold aR;and_intros;refine⟨zX g,(3),?_⟩;rw[HW,a_,o.jM l (3)];rw[s_ (3)] at h;subst hN;exact⟨rfl,h⟩
theorem dq {r:Rw}{ps:List Int} (o:r.Ok) (hp:placesOk 0 r.many ps):(r.left ps).Ok:=by
 have pa:=ao hp;have pl:=places_len hp ∅
 cases r with
 | row zs =>
  refine⟨fun z hz=>?_,by show (ps.map _).length<=40;rw[a_];have:((ps.length:Nat):Int)<=(zs.length:Nat)-0:=pl;have:=o.2;lia⟩;obtain⟨q,hq,rfl⟩:=n_.mp hz;obtain⟨h0,h1⟩:=pa q hq;have h1:q<(zs.length:Nat):=h1;exact o.1 _ (getD_mem ∅)
 | ae ns =>
  refine⟨SH.dq o.1 hp,?_⟩;show (ps.map _).length<=40;rw[a_];have:((ps.length:Nat):Int)<=(ns.length:Nat)-0:=pl;have:=o.2
  lia
 | table w ls =>
  have iM:placesOk 0 ((ls.length:Int)+(w:Int)) ps:=by have:=hp;rwa [show ((Rw.table w ls).many:Int)=(ls.length:Int)+(w:Int) from ZA _ _] at this
  have l1:=dr (n:=ls.length) iM;have l2:=eC (n:=ls.length) iM;have la:=iO (n:=ls.length) iM;have ca:=j2 iM;have o:aD w ls:=o;have o1:=o.len;have o2:=o.DJ;refine⟨by show (agw _ _).length<=12;rw[a_];lia,∅,fun l hl=>?_,fun l hl z hz=>?_⟩
  ·obtain⟨i,hi,rfl⟩:=n_.mp hl;rw[a_]
  ·obtain⟨i,hi,rfl⟩:=n_.mp hl;obtain⟨j,hj,rfl⟩:=n_.mp hz;have:=la i hi;have:=ca j hj;have hm:=getD_mem (xs:=ls) (i:=i.toNat) (a:=[]) ∅;exact o.P0 _ hm _ (getD_mem (by rw[o.jM _ hm];lia))
def yI (p:bH):Prop:=∀ (r:Rw) (ps:List Int) M R,r.Ok->placesOk 0 r.many ps->R (bf (r.left ps)) M->p [bf r,.lst (ps.map .int)] M R
def yJ (g:GB Z) (p7:bW (Z.fn 7)) (p8:hG (Z.fn 8)) (p9:hJ (Z.me 9)) (Lp:Z.hm 9 17 ["spot_marks"]=true) (pR:DO (Z.bp 17)) {zs:List Str}{ps:List Int} (o:(Rw.row zs).Ok) (hp:placesOk 0 (Rw.row zs).many ps) (hR:R (bf ((Rw.row zs).left ps)) M):Fn Z ki [.sh (bf (.row zs)),.sh (.lst (ps.map .int))] M R:=by
 unfold ki;have pl:=places_len hp ∅;have ol:=dq o hp;symm;rw[P6];refine⟨Lp,p9 _ _ _ (p7 _ _ _ _ hp ?_)⟩;left;refine eZ g _ ?_;and_intros;refine p8 _ zs ps _ _ (.inl rfl) (fun q hq=>ao hp q hq) ?_ ?_
 ·have:((ps.length:Nat):Int)<=(zs.length:Nat)-0:=pl;have:=o.2
  lia
 ·exact pR _ _ _ ol hR
def wJ {xs:List Dt}{n:Nat}{i:Int} (h:i=(n:Int)):cutD xs none (some i)=xs.take n:=by
 subst h;unfold cutD;rw[HT.vp,HT.jB];show (xs.drop 0).take (min n xs.length-0)=_;rw[agx,afJ];rcases aef n xs.length with h | h
 ·rw[aax h]
 ·rw[acU h,ZR (t_ _),ZR h]
def DQ (ps W:List Int):n6 ((iJ ps W).map Dt.int) (-1)=some (.int ((kept ps W).length:Int)):=by
 have e:iJ ps W=(iJ ps W).take W.length++[((kept ps W).length:Int)]:=by
  rw[<-eQ (A1 ps W),ZR (by rw[oX];lia)]
 rw[e,F_];exact kW _ _
def rj (g:GB Z) (p7:bW (Z.fn 7)) (p9:hJ (Z.me 9)) (Lp:Z.hm 9 18 ["spot_marks","nodes"]=true) (pF:qb (Z.bp 18)) {ns:List Nd}{ps:List Int} (o:(Rw.ae ns).Ok) (hp:placesOk 0 (Rw.ae ns).many ps) (hR:R (bf ((Rw.ae ns).left ps)) M):Fn Z fF [.sh (bf (.ae ns)),.sh (.lst (ps.map .int)),.no,.no,.no,.no,.no,.no] M R:=by
 unfold fF;have pl:((ps.length:Nat):Int)<=(ns.length:Nat)-0:=places_len hp ∅;have hp:placesOk 0 ns.length ps:=hp;have ol:=dq (r:=.ae ns) o hp;have HU:ns.length<=40:=o.2;symm;rw[pY];refine⟨Lp,p9 _ _ _ (p7 _ _ _ _ hp ?_)⟩;left;refine⟨by rw[a_];exact sz ∅,comp_map (fun d=>.tup [d,.bl true]) (4) ⟨ps,?_,∅,?_⟩⟩
 ·exact⟨sz (3),hK⟩
 ·rw[G_];rfl
 left;refine⟨sz (3),?_⟩;left;refine⟨sz (3),?_⟩;left;refine lI g ?_;and_intros;refine aw (fun i ρ M'=>M'=M/\∃ o5 o6 o7,ρ=[.sh (bf (.ae ns)),.sh (.lst (ps.map .int)),.sh (.Hf ps),.ow (.lst (((below ps i).map (dW ns ps)).map aC)),.ow (.lst ((iJ ps (way (ns.take i))).map .int)),o5,o6,o7]) ⟨rfl,_,_,_,by rw[aat,eD hp (3)];rfl⟩ ?_ ?_
 ·rintro i x ρ M' N' hx ⟨rfl,o5,o6,o7,rfl⟩ eP;rw[g_,aeL,g_] at hx;obtain⟨⟨d,j⟩,X7,rfl⟩:=o_.mp hx;obtain⟨d',Ra,X8⟩:=o_.mp X7
  cases X8
  obtain⟨n,hn,rfl⟩:=o_.mp Ra;have hi:i<ns.length:=(i_.mp hn).1;obtain⟨_,d2,_,_⟩:=uw o.1 hn;have wl:=zB (ns:=ns) i ∅;have bl:(below ps i).length<=ps.length:=abU _ _;rw[Nat.zero_add];and_intros;right;refine wG ?_;and_intros;rw[wJ (n:=n.2.toNat+1) ∅,<-abS,A0,<-iQ hn];subst hN2;right;refine⟨_,DQ ps _,?_⟩;subst hN2;right;have al:=Fy (ns:=ns) (k:=i) ∅;have wt:=du hn;rw[<-iQ hn] at wt;have bs:=j4 (i:=i) hp;by_cases hk:(i:Int)∈ps
  ·rw[z_ hk] at bs;refine bD (by simpa using hk) ?_
   first | refine sqo fun N3 bw=>?_ | (dsimp only;refine sqo fun N3 bw=>?_)
   and_intros;refine Gz ⟨sz (3),by rw[a_,a_];exact acw (R_ bl (show ps.length<=100 by lia)) (2),?_⟩;subst bw
   first | refine sqo fun N3 bw=>?_ | (dsimp only;refine sqo fun N3 bw=>?_)
   and_intros;refine⟨by rw[a_,oX];exact acw (show _<=100 by lia) (2),?_⟩;subst bw;subst hN2
   have e1:((below ps i).map (dW ns ps)).map aC++[.tup [.str n.1,.int ((kept ps (oW ns i)).length:Int)]]=((below ps (i+1)).map (dW ns ps)).map aC:=by
    rw[bs,F_,F_];congr 1;show _=[aC ((ns.getD ((i:Int)).toNat ("",0)).1,((kept ps (oW ns ((i:Int)).toNat)).length:Int))];rw[p_,getD_some hn];rfl
   have e2:(iJ ps (oW ns i)).map Dt.int++[.int (((kept ps (oW ns i)).length:Int)+1)]=(iJ ps (way (ns.take (i+1)))).map .int:=by
    rw[wt,sr,z_ hk,F_];rfl
   rw[e1,e2];exact eP _ _ ⟨rfl,_,_,_,rfl⟩
  ·rw[s_ hk,ZU] at bs;refine br (by simpa using hk) ?_
   first | refine sqo fun N3 bw=>?_ | (dsimp only;refine sqo fun N3 bw=>?_)
   and_intros;refine⟨by rw[a_,oX];exact acw (show _<=100 by lia) (2),?_⟩;subst bw;subst hN2
   have e2:(iJ ps (oW ns i)).map Dt.int++[.int ((kept ps (oW ns i)).length:Int)]=(iJ ps (way (ns.take (i+1)))).map .int:=by
    rw[wt,sr,s_ hk,F_,Int.add_zero];rfl
   rw[e2,<-bs];exact eP _ _ ⟨rfl,_,_,_,rfl⟩
 ·rintro ρ M' ⟨rfl,o5,o6,o7,rfl⟩;rw[a_,aa6,a_,su hp];left;left;exact pF _ _ _ ol hR
def oy (g:GB Z) {w:Nat}{ls:List (List Str)}{k:Dt->Prop} (h:k (.tup (ls.map cW))):fq Z "lines" (bf (.table w ls)) k:=Gy g h
def Lq (g:GB Z) {w:Nat}{ls:List (List Str)}{k:Dt->Prop} (h:k (.int w)):fq Z "columns" (bf (.table w ls)) k:=Lg g h
noncomputable def sO (ls:List (List Str)):Dt->m_ Dt
 | .int q=>if q<(ls.length:Int) then some (cW (ls.getD q.toNat [])) else none
 | _=>none
noncomputable def uE (n:Nat):Dt->m_ Dt
 | .int q=>if (n:Int)<=q then some (.int (q-n)) else none
 | _=>none
theorem sQ {ls:List (List Str)}:∀ {ps:List Int},(ps.map Dt.int).filterMap (sO ls)=(linesOf ls.length ps).map fun q=>cW (ls.getD q.toNat [])
 | []=>rfl
 | q::ps=>by
  have ih:=sQ (ls:=ls) (ps:=ps);unfold SH.linesOf at ih ⊢;rw[r_,Zw,Zz,ih];by_cases h:q<(ls.length:Int)
  ·rw[show sO ls (.int q)=some (cW (ls.getD q.toNat [])) from z_ h,z_ (by simpa using h)];rfl
  ·rw[show sO ls (.int q)=none from s_ h,s_ (by simpa using h)]
theorem qc {n:Nat}:∀ {ps:List Int},(ps.map Dt.int).filterMap (uE n)=(bh n ps).map .int
 | []=>rfl
 | q::ps=>by
  have ih:=qc (n:=n) (ps:=ps);unfold bh at ih ⊢;rw[r_,Zw,Zz,ih];by_cases h:(n:Int)<=q
  ·rw[show uE n (.int q)=some (.int (q-n)) from z_ h,z_ (by simpa using h)];rfl
  ·rw[show uE n (.int q)=none from s_ h,s_ (by simpa using h)]
noncomputable def DR (qs:List Int):Dt->Dt
 | .tup ds=>.lst (qs.map fun q=>ds.getD q.toNat .az)
 | _=>.az
def mM {qs:List Int}{l:List Str} (h:∀ j∈qs,0<=j/\j<(l.length:Int)):DR qs (cW l)=aR (qs.map (atS l)):=by
 show Dt.lst (qs.map fun q=>(l.map Dt.str).getD q.toNat .az)=.lst ((qs.map (atS l)).map .str);rw[G_];congr 1;refine Zs fun j hj=>?_
 have:=h j hj;show (l.map Dt.str).getD j.toNat .az=.str (l.getD j.toNat "");have VY:j.toNat<l.length:=by lia
 rw[getD_some (b_ VY),getD_some (by rw[g_,b_ VY];rfl)]
def uF (g:GB Z) (p7:bW (Z.fn 7)) (p8:hG (Z.fn 8)) (p9:hJ (Z.me 9)) (Lp:Z.hm 9 19 ["spot_marks","lines","columns"]=true) (pT:uC (Z.bp 19)) {w:Nat}{ls:List (List Str)}{ps:List Int} (o:(Rw.table w ls).Ok) (hp:placesOk 0 (Rw.table w ls).many ps) (hR:R (bf ((Rw.table w ls).left ps)) M):Fn Z gT [.sh (bf (.table w ls)),.sh (.lst (ps.map .int)),.no,.no,.no,.no] M R:=by
 unfold gT;have ol:aD _ _:=dq (r:=.table w ls) o hp;have iM:placesOk 0 ((ls.length:Int)+(w:Int)) ps:=by have:=hp;rwa [show ((Rw.table w ls).many:Int)=(ls.length:Int)+(w:Int) from ZA _ _] at this
 have pl:=places_len iM ∅;have la:=iO (n:=ls.length) iM;have ca:=j2 iM;have o:aD w ls:=o;have o1:=o.len;have o2:=o.DJ;have l1:=dr (n:=ls.length) iM;have l2:=eC (n:=ls.length) iM;symm;rw[P7];refine⟨Lp,p9 _ _ _ (p7 _ _ _ _ hp ?_)⟩;left;refine oy g ?_;and_intros;rw[a_];left;refine⟨by rw[a_];exact sz ∅,bz (sO ls) (4) ?_⟩
 ·obtain⟨q,hq,rfl⟩:=n_.mp hx;have:=ao iM q hq;and_intros;by_cases h:q<(ls.length:Int)
  ·refine bD (d_ h) (oy g ⟨cW (ls.getD q.toNat []),?_,?_⟩)
   ·obtain⟨n,rfl⟩:=Zy this.1;rw[p_];refine aI ?_;rw[g_,b_ (show n<ls.length by lia),getD_some (b_ (show n<ls.length by lia))];rfl
   ·rw[show sO ls (.int q)=some (cW (ls.getD q.toNat [])) from z_ h] at hK;exact hK
  ·refine br (by rw[f_ h];decide) ?_;rw[show sO ls (.int q)=none from s_ h] at hK;exact hK
 rw[sQ];left;refine⟨by rw[a_];exact sz ∅,bz (uE ls.length) (4) ?_⟩
 ·obtain⟨q,hq,rfl⟩:=n_.mp hx;and_intros;by_cases h:(ls.length:Int)<=q
  ·refine bD (d_ h) ?_;rw[show uE ls.length (.int q)=some (.int (q-ls.length)) from z_ h] at hK;exact hK
  ·refine br (by rw[f_ h];decide) ?_;rw[show uE ls.length (.int q)=none from s_ h] at hK;exact hK
 rw[qc];left;refine⟨by rw[a_];exact sz ∅,comp_map (DR (bh ls.length ps)) (4) ?_⟩
 ·obtain⟨q,hq,rfl⟩:=n_.mp hx;have:=la q hq;have hm:=getD_mem (xs:=ls) (i:=q.toNat) (a:=[]) ∅;have hw:=o.jM _ hm;and_intros;refine p8 _ (ls.getD q.toNat []) _ _ _ (.inr (.inl rfl)) (fun j hj=>by have:=ca j hj;lia) ∅ ?_;rw[mM fun j hj=>by have:=ca j hj;lia] at hK;exact hK
 have e:((linesOf ls.length ps).map fun q=>cW (ls.getD q.toNat [])).map (DR (bh ls.length ps))=(iD ls ps).map aR:=by
  unfold iD;rw[G_,G_];refine Zs fun q hq=>mM fun j hj=>?_
  have:=la q hq;have:=ca j hj;have hw:=o.jM _ (getD_mem (xs:=ls) (i:=q.toNat) (a:=[]) ∅)
  lia
 rw[e];refine pT _ _ _ _ ol ?_;left;refine⟨zX g,(3),?_⟩;rw[Qa,a_];left;left;exact hR
noncomputable def bP (P:Prop):Bool:=@decide P (abD P)
def uG {P:Prop}:bP P=true↔P:=by unfold bP;exact @Zp P (abD P)
def sR {P:Prop}{c:Bool} (h:c=true↔P):c=bP P:=by rw[Z6,uG];exact h
theorem cf {w:Nat}{z:Str} (hw:0<w):∀ {ls:List (List Str)}{i:Nat},(∀ l∈ls,l.length=w)->(ls.flatten[i]? = some z↔∃ l,ls[i / w]? = some l/\l[i % w]? = some z)
 | [],i,_=>by simp
 | l::ls,i,h=>by
  have hl:=h l (3);rw[acI];rcases aai i w with hi | hi
  ·rw[ZO ∅,ab9 hi,ab_ hi];simp
  ·obtain⟨k,rfl⟩:∃ k,i=k+w:=⟨i-w,∅⟩;rw[Zx ∅,hl,Nat.add_sub_cancel,cf hw (fun m hm=>h m (by simp [hm])),Nat.add_div_right _ hw,Nat.add_mod_right];rfl
def DS {ls:List (List Str)} (h:∀ l∈ls,l.length=0):ls.flatten=[]:=by
 rw[List.flatten_eq_nil_iff];exact fun l hl=>List.eq_nil_of_length_eq_zero (h l hl)
def w_pos {w:Nat}{ls:List (List Str)}{i:Nat}{z:Str} (h:∀ l∈ls,l.length=w) (hz:ls.flatten[i]? = some z):0<w:=by
 rcases acx w with e | e
 ·rw[DS (by rw[<-e];exact h)] at hz;cases hz
 ·exact e
def DT {w:Nat}{ls:List (List Str)}{a b:Str} (o:aD w ls):(Rw.table w ls).rel (Rw.table w ls).aH a b↔∃ l∈ls,∃ c:Nat,l[c]? = some a/\l[c+1]? = some b:=by
 constructor
 ·rintro⟨i,j,_,h2,h3,rfl,h5⟩;have hw:=w_pos o.jM h2;obtain⟨l,q1,q2⟩:=(cf hw o.jM).mp h2;obtain⟨l',q3,q4⟩:=(cf hw o.jM).mp h3;rw[<-h5,q1] at q3
  cases q3
  refine⟨l,y_ q1,i % w,q2,?_⟩;have e1:=aaQ i w;have e2:=aaQ (i+1) w;rw[<-h5] at e2;rw[show i % w+1=(i+1) % w by lia];exact q4
 ·rintro⟨l,hl,c,h1,h2⟩;have hw:=o.jM l hl;have hc:=(i_.mp h2).1;obtain⟨r,hr⟩:=Y_.mp hl;have hp:0<w:=by lia
  have q1:(r*w+c) / w=r:=by rw[aeg,ac7 hp,ab9 ∅,aca]
  have q2:(r*w+(c+1)) / w=r:=by rw[aeg,ac7 hp,ab9 ∅,aca]
  have q3:(r*w+c) % w=c:=by rw[acV,ab_ ∅]
  have q4:(r*w+(c+1)) % w=c+1:=by rw[acV,ab_ ∅]
  refine⟨r*w+c,r*w+(c+1),∅,(cf hp o.jM).mpr ⟨l,by rw[q1];exact hr,by rw[q3];exact h1⟩,(cf hp o.jM).mpr ⟨l,by rw[q2];exact hr,by rw[q4];exact h2⟩,rfl,by rw[q1];exact q2.symm⟩
def zZ {w:Nat}{ls:List (List Str)}{a b:Str} (o:aD w ls):(Rw.table w ls).rel (Rw.table w ls).under a b↔∃ c,c<w/\∃ r s:Nat,r<s/\(ls.map fun l=>l.getD c "")[r]? = some a/\(ls.map fun l=>l.getD c "")[s]? = some b:=by
 have get:∀ {c r:Nat}{z:Str},c<w->((ls.map fun l=>l.getD c "")[r]? = some z↔∃ l,ls[r]? = some l/\l[c]? = some z):=fun {c r z} hc=>by
  rw[g_];constructor
  ·intro h;obtain⟨l,h1,h2⟩:=o_.mp h;have:=o.jM l (y_ h1);refine⟨l,h1,?_⟩;have hg:=b_ (show c<l.length by lia);rw[getD_some hg] at h2;rw[hg,h2]
  ·rintro⟨l,h1,h2⟩;rw[h1];show some (l.getD c "")=some z;rw[getD_some h2]
 constructor
 ·rintro⟨i,j,h1,h2,h3,h4⟩;have h4:i % w=j % w:=h4;have hw:=w_pos o.jM h2;obtain⟨l,q1,q2⟩:=(cf hw o.jM).mp h2;obtain⟨l',q3,q4⟩:=(cf hw o.jM).mp h3;refine⟨i % w,adu _ hw,i / w,j / w,?_,(get (adu _ hw)).mpr ⟨l,q1,q2⟩,(get (adu _ hw)).mpr ⟨l',q3,by rw[h4];exact q4⟩⟩;have e1:=aaQ i w;have e2:=aaQ j w;rcases aai (i / w) (j / w) with h | h
  ·exact h
  ·have:=ace w h
   lia
 ·rintro⟨c,hc,r,s,h1,h2,h3⟩;have hp:0<w:=by lia
  obtain⟨l,q1,q2⟩:=(get hc).mp h2;obtain⟨l',q3,q4⟩:=(get hc).mp h3;have d:∀ r:Nat,(r*w+c) / w=r/\(r*w+c) % w=c:=fun r=>⟨by rw[aeg,ac7 hp,ab9 hc,aca],by rw[acV,ab_ hc]⟩
  refine⟨r*w+c,s*w+c,?_,(cf hp o.jM).mpr ⟨l,by rw[(d r).1];exact q1,by rw[(d r).2];exact q2⟩,(cf hp o.jM).mpr ⟨l',by rw[(d s).1];exact q3,by rw[(d s).2];exact q4⟩,by show (r*w+c) % w=(s*w+c) % w;rw[(d r).2,(d s).2]⟩;have:=Nat.mul_lt_mul_of_pos_right h1 hp
  lia
noncomputable def Lr (a b:Str) (d:Dt):Dt:=.bl (bP (∃ l:List Str,d=cW l/\∃ i:Nat,l[i]? = some a/\l[i+1]? = some b))
theorem str_inj:∀ {a b:List Str},a.map Dt.str=b.map Dt.str->a=b
 | [],[],_=>rfl
 | [],_::_,h=>by cases h
 | _::_,[],h=>by cases h
 | x::a,y::b,h=>by
  injection h with h1 h2
  injection h1 with h1
  rw[h1,str_inj h2]
def wK {a b:List Str} (h:cW a=cW b):a=b:=by injection h with h;exact str_inj h
def lK (g:GB Z) (Li:bX (Z.fn 11)) {w:Nat}{ls:List (List Str)}{a b:Str} (o:aD w ls) (hR:∀ c:Bool,(c=true↔(Rw.table w ls).rel (Rw.table w ls).aH a b)->R (.bl c) M):Fn Z cK [.sh (bf (.table w ls)),.sh (.str a),.sh (.str b)] M R:=by
 unfold cK;symm;refine oy g ?_;and_intros;refine⟨by rw[a_];exact sz (by have:=o.len;lia),comp_map (Lr a b) (4) ?_⟩
 ·obtain⟨l,hl,rfl⟩:=n_.mp hx;have:=o.jM l hl;have:=o.DJ;refine Li _ l a b _ _ (.inr rfl) ∅ fun c hc=>?_
  have e:Lr a b (cW l)=.bl c:=by
   unfold Lr;rw[<-sR (c:=c) (hc.trans ⟨fun h=>⟨l,rfl,h⟩,fun⟨l',h1,h2⟩=>by rw[wK h1];exact h2⟩)]
  rw[e] at hK;exact hK
 ·refine⟨ls.map fun l=>bP (∃ l':List Str,cW l=cW l'/\∃ i:Nat,l'[i]? = some a/\l'[i+1]? = some b),by rw[G_,G_];rfl,hR _ ?_⟩;rw[DT o,ab8,aan];constructor
  ·rintro⟨l,hl,h⟩;obtain⟨l',h1,h2⟩:=uG.mp h;rw[<-wK h1] at h2;exact⟨l,hl,h2⟩
  ·rintro⟨l,hl,h⟩;exact⟨l,hl,uG.mpr ⟨l,rfl,h⟩⟩
noncomputable def Qd (c:Nat):Dt->Dt
 | .tup ds=>ds.getD c .az
 | _=>.az
def mN (g:GB Z) (Lh:eR (Z.fn 10)) {w:Nat}{ls:List (List Str)}{a b:Str} (o:aD w ls) (hR:∀ c:Bool,(c=true↔(Rw.table w ls).rel (Rw.table w ls).under a b)->R (.bl c) M):Fn Z dc [.sh (bf (.table w ls)),.sh (.str a),.sh (.str b),.no] M R:=by
 unfold dc;have o1:=o.len;have o2:=o.DJ;symm;refine Lq g ?_;and_intros;refine⟨⟨∅,∅⟩,?_⟩;refine cw (T:=R (.bl true) M) (fun ρ=>∃ o3,ρ=[.sh (bf (.table w ls)),.sh (.str a),.sh (.str b),o3]) (fun x=>∃ c:Nat,x=.int c/\∃ r s:Nat,r<s/\(ls.map fun l=>l.getD c "")[r]? = some a/\(ls.map fun l=>l.getD c "")[s]? = some b) ⟨_,rfl⟩ ?_ ?_ ?_
 ·rintro x hx ρ N' ⟨o3,rfl⟩ hy hn;obtain⟨c,hc⟩:=Y_.mp hx;obtain⟨hc,rfl⟩:=aE hc;rw[p_] at hc;rw[Zu] at hy hn ⊢;and_intros;right;refine oy g ?_;and_intros;refine⟨by rw[a_];exact sz ∅,comp_map (Qd c) (4) ?_⟩
  ·obtain⟨l,hl,rfl⟩:=n_.mp hx;have hw:=o.jM l hl;refine⟨_,?_,hK⟩;refine aI ?_;show (l.map Dt.str)[c]? = some ((l.map Dt.str).getD c .az);have hg:=b_ (show c<(l.map Dt.str).length by rw[a_];lia);rw[getD_some hg];exact hg
  ·have e:(ls.map cW).map (Qd c)=(ls.map fun l=>l.getD c "").map .str:=by
    rw[G_,G_];refine Zs fun l hl=>?_
    have hw:=o.jM l hl;have hg:=b_ (show c<l.length by lia);show (l.map Dt.str).getD c .az=.str (l.getD c "");rw[getD_some hg,getD_some (by rw[g_,hg];rfl)]
   rw[e];refine Lh _ _ _ _ _ _ (.inr rfl) fun q hq=>?_
   show if q=true then _ else _
   cases q with
   | true =>
    refine bD rfl ?_
    first | refine sqo fun N3 bw=>?_ | (dsimp only;refine sqo fun N3 bw=>?_)
    exact hy ⟨c,rfl,hq.mp rfl⟩
   | false =>
    refine br (2) ?_;subst hN2;refine hn ?_ _ ⟨_,rfl⟩;rintro⟨c',e',h⟩;have:c=c':=by injection e' with e';lia
    subst this;exact nomatch (hq.mpr h)
 ·rintro⟨x,hx,c,rfl,h⟩;obtain⟨k,hk⟩:=Y_.mp hx;obtain⟨hk,e⟩:=aE hk;have:c=k:=by injection e with e;lia
  subst this;rw[p_] at hk;exact hR true ⟨fun _=>(zZ o).mpr ⟨c,hk,h⟩,fun _=>rfl⟩
 ·rintro iw ρ ⟨o3,rfl⟩;left;refine hR false ⟨fun z=>(nomatch z),fun h=>?_⟩;obtain⟨c,hc,h⟩:=(zZ o).mp h;refine absurd ⟨.int c,?_,c,rfl,h⟩ iw;rw[p_];unfold bO;exact n_.mpr ⟨c,Zv.mpr hc,by rw[Zu]⟩
end
inductive Flt where
 | has (m:Str) | many (n:Int) (m:Str) | before (a b:Str) | under (a b:Str) | aH (a b:Str)
 | not (f:Flt) | all (fs:List Flt) | any (fs:List Flt)
mutual
def Flt.holds:Flt->Rw->Prop
 | .has m,r=>0<r.names.count m
 | .many n m,r=>n<=(r.names.count m:Int)
 | .before a b,r=>r.rel (fun _ _=>True) a b
 | .under a b,r=>r.rel r.under a b
 | .aH a b,r=>r.rel r.aH a b
 | .not f,r=>¬ f.holds r
 | .all fs,r=>qd fs r
 | .any fs,r=>qe fs r
def qd:List Flt->Rw->Prop
 | [],_=>True
 | f::fs,r=>f.holds r/\qd fs r
def qe:List Flt->Rw->Prop
 | [],_=>False
 | f::fs,r=>f.holds r∨qe fs r
end
mutual
def Flt.Ok:Flt->Prop
 | .has m=>ax m=true
 | .many _ m=>ax m=true
 | .before a b=>ax a=true/\ax b=true
 | .under a b=>ax a=true/\ax b=true
 | .aH a b=>ax a=true/\ax b=true
 | .not f=>f.Ok
 | .all fs=>fs.length<=100/\HX fs
 | .any fs=>fs.length<=100/\HX fs
def HX:List Flt->Prop
 | []=>True
 | f::fs=>f.Ok/\HX fs
end
mutual
noncomputable def Flt.dep:Flt->Nat
 | .not f=>f.dep+1
 | .all fs=>uH fs+1
 | .any fs=>uH fs+1
 | _=>1
noncomputable def uH:List Flt->Nat
 | []=>0
 | f::fs=>max f.dep (uH fs)
end
mutual
noncomputable def aj:Flt->Dt
 | .has m=>.tup [.str "has",.str m]
 | .many n m=>.tup [.str "many",.int n,.str m]
 | .before a b=>.tup [.str "before",.str a,.str b]
 | .under a b=>.tup [.str "under",.str a,.str b]
 | .aH a b=>.tup [.str "beside",.str a,.str b]
 | .not f=>.tup [.str "not",aj f]
 | .all fs=>.tup [.str "all",.lst (wL fs)]
 | .any fs=>.tup [.str "any",.lst (wL fs)]
noncomputable def wL:List Flt->List Dt
 | []=>[]
 | f::fs=>aj f::wL fs
end
mutual
noncomputable def bu:Flt->Dt
 | .has m=>.obj 6 ["mark"] [.str m]
 | .many n m=>.obj 7 ["number","mark"] [.int n,.str m]
 | .before a b=>.obj 9 ["one","other"] [.str a,.str b]
 | .under a b=>.obj 10 ["one","other"] [.str a,.str b]
 | .aH a b=>.obj 11 ["one","other"] [.str a,.str b]
 | .not f=>.obj 15 ["part"] [bu f]
 | .all fs=>.obj 13 ["parts"] [.tup (wM fs)]
 | .any fs=>.obj 14 ["parts"] [.tup (wM fs)]
noncomputable def wM:List Flt->List Dt
 | []=>[]
 | f::fs=>bu f::wM fs
end
theorem di:∀ fs:List Flt,wL fs=fs.map aj
 | []=>rfl
 | f::fs=>by unfold wL;rw[di fs,r_]
theorem gc:∀ fs:List Flt,wM fs=fs.map bu
 | []=>rfl
 | f::fs=>by unfold wM;rw[gc fs,r_]
theorem hU {r:Rw}:∀ {fs:List Flt},qd fs r↔∀ f∈fs,f.holds r
 | []=>by simp [qd]
 | f::fs=>by unfold qd;rw[hU (fs:=fs)];simp
theorem hV {r:Rw}:∀ {fs:List Flt},qe fs r↔∃ f∈fs,f.holds r
 | []=>by simp [qe]
 | f::fs=>by unfold qe;rw[hV (fs:=fs)];simp
theorem d9:∀ {fs:List Flt},HX fs↔∀ f∈fs,f.Ok
 | []=>by simp [HX]
 | f::fs=>by unfold HX;rw[d9 (fs:=fs)];simp
theorem hW:∀ {fs:List Flt},∀ f∈fs,f.dep<=uH fs
 | [],f,h=>nomatch h
 | g::fs,f,h=>by
  unfold uH;rcases C_.mp h with rfl | h
  ·lia
  ·have:=hW f h;lia
noncomputable def Qe:Flt->Nat
 | .has _=>6 | .many _ _=>7 | .before _ _=>9 | .under _ _=>10 | .aH _ _=>11 | .not _=>15 | .all _=>13 | .any _=>14
noncomputable def Qf:Flt->List Str
 | .has _=>["mark"] | .many _ _=>["number","mark"] | .before _ _=>["one","other"] | .under _ _=>["one","other"] | .aH _ _=>["one","other"] | .not _=>["part"] | .all _=>["parts"] | .any _=>["parts"]
section
variable {Z:Gm}{M:Mem}{R:Dt->Mem->Prop}
def oz {f:Flt}{k:Nat->List Str->Prop}:fY M (bu f) k=k (Qe f) (Qf f):=by cases f<;>(unfold bu;rfl)
noncomputable def VZ:Rw->Nat | .row _=>17 | .ae _=>18 | .table _ _=>19
noncomputable def V0:Rw->List Str | .row _=>["spot_marks"] | .ae _=>["spot_marks","nodes"] | .table _ _=>["spot_marks","lines","columns"]
def b7 {r:Rw}{k:Nat->List Str->Prop}:fY M (bf r) k=k (VZ r) (V0 r):=by cases r<;>rfl
noncomputable abbrev uI:=Pr.hm
def dX (h:Z.hm=uI) {m:Nat} (hm:6<=m/\m<16) (r:Rw):Z.hm m (VZ r) (V0 r)=true:=by
 rw[h];have e:m=6∨m=7∨m=8∨m=9∨m=10∨m=11∨m=12∨m=13∨m=14∨m=15:=by lia
 rcases e with rfl | rfl | rfl | rfl | rfl | rfl | rfl | rfl | rfl | rfl<;>cases r<;>kernel_rfl
def GF (h:Z.hm=uI) (f:Flt):Z.hm 5 (Qe f) (Qf f)=true:=by rw[h];cases f<;>kernel_rfl
def g1 {c:Nat}{f:Str}{d:Dt}{k:Dt->Prop} (ha:Z.at_ c f=true) (h:k d):fq Z f (.obj c [f] [d]) k:=⟨ha,d,zY,h⟩
def Rb {c:Nat}{f f':Str}{d e:Dt}{k:Dt->Prop} (ha:Z.at_ c f=true) (h:k d):fq Z f (.obj c [f,f'] [d,e]) k:=⟨ha,d,zY,h⟩
def Rf {c:Nat}{f f':Str}{d e:Dt}{k:Dt->Prop} (ha:Z.at_ c f'=true) (hn:(f'==f)=false) (h:k e):fq Z f' (.obj c [f,f'] [d,e]) k:=⟨ha,e,(yD hn).trans zY,h⟩
def lL (n:Nat) (p:bH):Prop:=∀ (f:Flt) (r:Rw) M R,f.Ok->r.Ok->f.dep<=n->(∀ c:Bool,(c=true↔f.holds r)->R (.bl c) M)->p [bu f,bf r] M R
def wN (g:GB Z) (h:Z.hm=uI) (p7:f7 (Z.me 7)) {m:Str}{r:Rw} (hR:∀ c:Bool,(c=true↔(Flt.has m).holds r)->R (.bl c) M):Fn Z ja [.sh (bu (.has m)),.sh (bf r)] M R:=by
 unfold ja bu;symm;rw[b7];refine⟨dX h ∅ _,g1 (by rw[g.at_];decide +kernel) (p7 r m _ _ ?_)⟩;exact hR _ (by rw[Zp];unfold Flt.holds;lia)
def uJ (g:GB Z) (h:Z.hm=uI) (p7:f7 (Z.me 7)) {n:Int}{m:Str}{r:Rw} (hR:∀ c:Bool,(c=true↔(Flt.many n m).holds r)->R (.bl c) M):Fn Z gY [.sh (bu (.many n m)),.sh (bf r)] M R:=by
 unfold gY bu;symm;rw[b7];refine⟨dX h ∅ _,Rf (by rw[g.at_];decide +kernel) (1) (p7 r m _ _ (Rb (by rw[g.at_];decide +kernel) ?_))⟩;exact hR _ (by rw[Zp];unfold Flt.holds;exact agN)
def qf (g:GB Z) (h:Z.hm=uI) (p8:jl (Z.me 8)) {a b:Str}{r:Rw} (hR:∀ c:Bool,(c=true↔(Flt.before a b).holds r)->R (.bl c) M):Fn Z eK [.sh (bu (.before a b)),.sh (bf r)] M R:=by
 unfold eK bu;symm;rw[b7];refine⟨dX h ∅ _,Rb (by rw[g.at_];decide +kernel) (Rf (by rw[g.at_];decide +kernel) (1) (p8 r a b _ _ fun c hc=>hR c (hc.trans ?_)))⟩;unfold Flt.holds Rw.rel;simp
def rn (g:GB Z) (h:Z.hm=uI) (Us:kE (Z.me 13)) {a b:Str}{r:Rw} (o:r.Ok) (hR:∀ c:Bool,(c=true↔(Flt.under a b).holds r)->R (.bl c) M):Fn Z fL [.sh (bu (.under a b)),.sh (bf r)] M R:=by
 unfold fL bu;symm;rw[b7];exact⟨dX h ∅ _,Rb (by rw[g.at_];decide +kernel) (Rf (by rw[g.at_];decide +kernel) (1) (Us r a b _ _ o fun c hc=>hR c (hc.trans (by unfold Flt.holds;exact agN))))⟩
def qg (g:GB Z) (h:Z.hm=uI) (Ut:jn (Z.me 14)) {a b:Str}{r:Rw} (o:r.Ok) (hb:ax b=true) (hR:∀ c:Bool,(c=true↔(Flt.aH a b).holds r)->R (.bl c) M):Fn Z eL [.sh (bu (.aH a b)),.sh (bf r)] M R:=by
 unfold eL bu;symm;rw[b7];exact⟨dX h ∅ _,Rb (by rw[g.at_];decide +kernel) (Rf (by rw[g.at_];decide +kernel) (1) (Ut r a b _ _ o hb fun c hc=>hR c (hc.trans (by unfold Flt.holds;exact agN))))⟩
def wO (g:GB Z) (h:Z.hm=uI) {n:Nat} (p5:lL n (Z.me 5)) {f:Flt}{r:Rw} (of:f.Ok) (o:r.Ok) (hd:f.dep<=n) (hR:∀ c:Bool,(c=true↔(Flt.not f).holds r)->R (.bl c) M):Fn Z jf [.sh (bu (.not f)),.sh (bf r)] M R:=by
 unfold jf bu;symm;refine g1 (by rw[g.at_];decide +kernel) ?_;rw[oz];refine⟨GF h _,p5 f r _ _ of o hd fun c hc=>hR (!c) ?_⟩;unfold Flt.holds;rw[<-hc]
 cases c<;>simp
def fb {f:Dt->En->Mem->yn->Prop}{E:yn}{items:List Dt}{ρ:En}{T:Prop} (Iv:En->Prop) (P:Nat->Prop) (h0:Iv ρ)
  (hs:∀ i x,items[i]? = some x->∀ (ρ:En) (N:En->Mem->Prop),Iv ρ->(P i->T)->(¬ P i->∀ ρ',Iv ρ'->N ρ' M)->f x ρ M { E with nx:=N,ct:=N,bk:=E.nx })
  (ht:(∃ i,P i)->T) (hd:(¬ ∃ i,i<items.length/\P i)->∀ ρ,Iv ρ->E.nx ρ M):eY f E items ρ M:=by
 refine aw (fun i ρ M'=>M'=M/\Iv ρ/\¬ ∃ j,j<i/\P j) ⟨rfl,h0,by rintro⟨_,h,_⟩;lia⟩ ?_ ?_
 ·rintro i x ρ M' N hx ⟨rfl,iv,iw⟩ hN;refine hs i x hx ρ N iv (fun p=>ht ⟨i,p⟩) fun np ρ' Ur=>hN ρ' _ ⟨rfl,Ur,?_⟩
  rintro⟨j,hj,pj⟩;rcases aai j i with h | h
  ·exact iw ⟨j,h,pj⟩
  ·have:j=i:=by lia
   subst this;exact np pj
 ·rintro ρ M' ⟨rfl,iv,iw⟩;exact hd iw ρ iv
def wQ (g:GB Z) (h:Z.hm=uI) {n:Nat} (p5:lL n (Z.me 5)) {fs:List Flt}{r:Rw} (of:HX fs) (o:r.Ok) (hd:uH fs<=n) (hR:∀ c:Bool,(c=true↔(Flt.all fs).holds r)->R (.bl c) M):Fn Z jd [.sh (bu (.all fs)),.sh (bf r),.no] M R:=by
 unfold jd bu;rw[gc];symm;refine g1 (by rw[g.at_];decide +kernel) ?_;and_intros;refine fb (T:=R (.bl false) M) (fun ρ=>∃ o3,ρ=[.sh (.obj 13 ["parts"] [.tup (fs.map bu)]),.sh (bf r),o3]) (fun i=>∃ f,fs[i]? = some f/\¬ f.holds r) ⟨_,rfl⟩ ?_ ?_ ?_
 ·rintro i x hx ρ N' ⟨o3,rfl⟩ hy hn;rw[g_] at hx;obtain⟨f,hf,rfl⟩:=o_.mp hx;have hm:=y_ hf;and_intros;right;rw[oz];refine⟨GF h _,p5 f r _ _ (d9.mp of f hm) o (R_ (hW f hm) hd) fun c hc=>?_⟩
  cases c with
  | false =>
   and_intros
   first | refine sqo fun N3 bw=>?_ | (dsimp only;refine sqo fun N3 bw=>?_)
   exact hy ⟨f,hf,fun z=>nomatch (hc.mpr z)⟩
  | true =>
   and_intros;subst hN2;refine hn ?_ _ ⟨_,rfl⟩;rintro⟨f',e,q⟩;rw[hf] at e
   cases e
   exact q (hc.mp rfl)
 ·rintro⟨i,f,hf,q⟩;refine hR false ?_;unfold Flt.holds;rw[hU];exact⟨fun z=>(nomatch z),fun z=>absurd (z f (y_ hf)) q⟩
 ·rintro iw ρ ⟨o3,rfl⟩;left;refine hR true ?_;unfold Flt.holds;rw[hU];exact⟨fun _ f hf=>adv fun q=>iw (let ⟨i,hi⟩:=Y_.mp hf;⟨i,by rw[a_];exact (i_.mp hi).1,f,hi,q⟩),fun _=>rfl⟩
def wR (g:GB Z) (h:Z.hm=uI) {n:Nat} (p5:lL n (Z.me 5)) {fs:List Flt}{r:Rw} (of:HX fs) (o:r.Ok) (hd:uH fs<=n) (hR:∀ c:Bool,(c=true↔(Flt.any fs).holds r)->R (.bl c) M):Fn Z je [.sh (bu (.any fs)),.sh (bf r),.no] M R:=by
 unfold je bu;rw[gc];symm;refine g1 (by rw[g.at_];decide +kernel) ?_;and_intros;refine fb (T:=R (.bl true) M) (fun ρ=>∃ o3,ρ=[.sh (.obj 14 ["parts"] [.tup (fs.map bu)]),.sh (bf r),o3]) (fun i=>∃ f,fs[i]? = some f /\  f.holds r) ⟨_,rfl⟩ ?_ ?_ ?_
 ·rintro i x hx ρ N' ⟨o3,rfl⟩ hy hn;rw[g_] at hx;obtain⟨f,hf,rfl⟩:=o_.mp hx;have hm:=y_ hf;and_intros;right;rw[oz];refine⟨GF h _,p5 f r _ _ (d9.mp of f hm) o (R_ (hW f hm) hd) fun c hc=>?_⟩
  cases c with
  | true =>
   and_intros
   first | refine sqo fun N3 bw=>?_ | (dsimp only;refine sqo fun N3 bw=>?_)
   exact hy ⟨f,hf,hc.mp rfl⟩
  | false =>
   and_intros;subst hN2;refine hn ?_ _ ⟨_,rfl⟩;rintro⟨f',e,q⟩;rw[hf] at e
   cases e
   exact nomatch (hc.mpr q)
 ·rintro⟨i,f,hf,q⟩;refine hR true ?_;unfold Flt.holds;rw[hV];exact⟨fun _=>⟨f,y_ hf,q⟩,fun _=>rfl⟩
 ·rintro iw ρ ⟨o3,rfl⟩;left;refine hR false ?_;unfold Flt.holds;rw[hV];exact⟨fun z=>(nomatch z),fun⟨f,hf,q⟩=>absurd (let ⟨i,hi⟩:=Y_.mp hf;⟨i,by rw[a_];exact (i_.mp hi).1,f,hi,q⟩) iw⟩
def Qg {f f':Str}{d e:Dt} (h:¬ f=f'):putD f' e [f] [d]=(([f,f']:List Str),[d,e]):=by unfold putD;rw[s_ h];rfl
def putN {f:Str}{d:Dt}:putD f d [] []=(([f]:List Str),[d]):=rfl
def DU (p:EJ):Prop:=∀ (m:Str) M k,k (bu (.has m)) M->p (.obj 6 [] []) [.str m] M k
def yK (g:GB Z) {m:Str}{k:Dt->Mem->Prop} (h:k (bu (.has m)) M):In Z kq [.ow (.obj 6 [] []),.sh (.str m)] M 6 k:=by
 unfold kq;symm;refine⟨by rw[g.at_];decide +kernel,(3),?_⟩;subst hN;unfold bu at h;exact⟨rfl,h⟩
def yL (p:EJ):Prop:=∀ (n:Int) (m:Str) M k,k (bu (.many n m)) M->p (.obj 7 [] []) [.int n,.str m] M k
def wU (g:GB Z) {n:Int}{m:Str}{k:Dt->Mem->Prop} (h:k (bu (.many n m)) M):In Z jb [.ow (.obj 7 [] []),.sh (.int n),.sh (.str m)] M 7 k:=by
 unfold jb;unfold bu at h;symm;refine⟨by rw[g.at_];decide +kernel,(3),?_⟩;left;refine⟨by rw[g.at_];decide +kernel,by simp [putD],?_⟩;subst hN;rw[putN,Qg (1)];exact⟨rfl,h⟩
def hX (c:Nat) (p:EJ):Prop:=∀ (a b:Str) M k,k (.obj c ["one","other"] [.str a,.str b]) M->p (.obj c [] []) [.str a,.str b] M k
def jq (g:GB Z) {c:Nat} (hc:c=9∨c=10∨c=11) {a b:Str}{k:Dt->Mem->Prop} (h:k (.obj c ["one","other"] [.str a,.str b]) M):In Z jc [.ow (.obj c [] []),.sh (.str a),.sh (.str b)] M c k:=by
 unfold jc;symm;refine⟨by rw[g.at_];rcases hc with rfl | rfl | rfl<;>decide +kernel,(3),?_⟩;left;refine⟨by rw[g.at_];rcases hc with rfl | rfl | rfl<;>decide +kernel,by simp [putD],?_⟩;subst hN;rw[putN,Qg (1)];exact⟨rfl,h⟩
def jH (c:Nat) (p:EJ):Prop:=∀ (ds:List Dt) M k,k (.obj c ["parts"] [.tup ds]) M->p (.obj c [] []) [.lst ds] M k
def lM (g:GB Z) {c:Nat} (hc:c=13∨c=14) {ds:List Dt}{k:Dt->Mem->Prop} (h:k (.obj c ["parts"] [.tup ds]) M):In Z gZ [.ow (.obj c [] []),.sh (.lst ds)] M c k:=by
 unfold gZ;symm;refine⟨by rw[g.at_];rcases hc with rfl | rfl<;>decide +kernel,(3),?_⟩;subst hN;exact⟨rfl,h⟩
def DV (p:EJ):Prop:=∀ (d:Dt) M k,k (.obj 15 ["part"] [d]) M->p (.obj 15 [] []) [d] M k
def yM (g:GB Z) {d:Dt}{k:Dt->Mem->Prop} (h:k (.obj 15 ["part"] [d]) M):In Z kr [.ow (.obj 15 [] []),.sh d] M 15 k:=by
 unfold kr;symm;refine⟨by rw[g.at_];decide +kernel,(3),?_⟩;subst hN;exact⟨rfl,h⟩
def hZ (n:Nat) (p:bH):Prop:=∀ (f:Flt) M R,f.Ok->f.dep<=n->R (bu f) M->p [aj f] M R
noncomputable def tag:Flt->Nat
 | .has _=>0 | .many _ _=>1 | .before _ _=>2 | .under _ _=>3 | .aH _ _=>4 | .not _=>5 | .all _=>6 | .any _=>7
noncomputable def Uu (t:Nat):Str:=match t with | 0 => "has" | 1 => "many" | 2 => "before" | 3 => "under" | 4 => "beside" | 5 => "not" | 6 => "all" | _ => "any"
noncomputable def Rg (f:Flt):Str:=Uu (tag f)
def HY {f:Flt}{k:Dt->Prop} (h:k (.str (Rg f))):ly (aj f) 0 k:=by
 cases f<;>(unfold aj;exact⟨_,rfl,h⟩)
def Ci {ds:List Dt}{i:Nat}{d:Dt}{k:Dt->Prop} (e:ds[i]? = some d) (h:k d):ly (.tup ds) i k:=⟨d,aI e,h⟩
def cQ {f:Flt}{w:Str}{a b:Prop} (e:Rg f=w) (y:a):ly (aj f) 0 fun x=>we x (.str w) fun c=>if c=true then a else b:=HY (bD (d_ e) y)
def aJ (t:Nat) {f:Flt}{w:Str}{a b:Prop} (e:¬ Uu t=w) (h:tag f=t) (n:b):ly (aj f) 0 fun x=>we x (.str w) fun c=>if c=true then a else b:=HY (by
 have e:¬ Rg f=w:=by unfold Rg;rw[h];exact e
 exact br (7) n)
def lN {n:Nat} (Rh:hZ n (Z.fn 28)) (q6:DU (Z.bp 6)) (q7:yL (Z.bp 7)) (q9:hX 9 (Z.bp 9)) (X9:hX 10 (Z.bp 10)) (Ya:hX 11 (Z.bp 11)) (Yb:jH 13 (Z.bp 13)) (Yc:jH 14 (Z.bp 14)) (Yd:DV (Z.bp 15)) {f:Flt} (o:f.Ok) (hd:f.dep<=n+1) (hR:R (bu f) M):Fn Z cO [.sh (aj f),.no] M R:=by
 unfold cO
 have go:∀ (fs:List Flt) (K:List Dt->Mem->Prop),(∀ f∈fs,f.Ok)->(∀ f∈fs,f.dep<=n)->K (fs.map bu) M->eE (fun x M K=>Z.fn 28 [x] M fun d M2=>K (some d) M2) (fs.map aj) M K:=fun fs=>by
  induction fs with
  | nil=>intro K _ _ hK;exact hK
  | cons f fs ih =>
   intro K h1 h2 hK;exact Rh f _ _ (h1 f (3)) (h2 f (3)) (ih _ (fun f' Ls=>h1 f' (by simp [Ls])) (fun f' Ls=>h2 f' (by simp [Ls])) hK)
 cases f with
 | has m =>
  symm;refine cQ rfl ?_
  first | refine sqo fun N2 hN2=>?_ | (dsimp only;refine sqo fun N2 hN2=>?_)
  unfold aj;and_intros;exact⟨_,rfl,q6 m _ _ hR⟩
 | many k m =>
  symm;refine aJ 1 (1) rfl ?_;left;refine cQ rfl ?_
  first | refine sqo fun N2 hN2=>?_ | (dsimp only;refine sqo fun N2 hN2=>?_)
  unfold aj;and_intros;exact⟨_,rfl,_,rfl,q7 k m _ _ hR⟩
 | before a b =>
  symm;refine aJ 2 (1) rfl ?_;left;refine aJ 2 (1) rfl ?_;left;refine cQ rfl ?_
  first | refine sqo fun N2 hN2=>?_ | (dsimp only;refine sqo fun N2 hN2=>?_)
  unfold aj;unfold bu at hR;and_intros;exact⟨_,rfl,_,rfl,q9 a b _ _ hR⟩
 | under a b =>
  symm;refine aJ 3 (1) rfl ?_;left;refine aJ 3 (1) rfl ?_;left;refine aJ 3 (1) rfl ?_;left;refine cQ rfl ?_
  first | refine sqo fun N2 hN2=>?_ | (dsimp only;refine sqo fun N2 hN2=>?_)
  unfold aj;unfold bu at hR;and_intros;exact⟨_,rfl,_,rfl,X9 a b _ _ hR⟩
 | aH a b =>
  symm;refine aJ 4 (1) rfl ?_;left;refine aJ 4 (1) rfl ?_;left;refine aJ 4 (1) rfl ?_;left;refine aJ 4 (1) rfl ?_;left;refine cQ rfl ?_
  first | refine sqo fun N2 hN2=>?_ | (dsimp only;refine sqo fun N2 hN2=>?_)
  unfold aj;unfold bu at hR;and_intros;exact⟨_,rfl,_,rfl,Ya a b _ _ hR⟩
 | not g =>
  symm;refine aJ 5 (1) rfl ?_;left;refine aJ 5 (1) rfl ?_;left;refine aJ 5 (1) rfl ?_;left;refine aJ 5 (1) rfl ?_;left;refine aJ 5 (1) rfl ?_;left;refine cQ rfl ?_
  first | refine sqo fun N2 hN2=>?_ | (dsimp only;refine sqo fun N2 hN2=>?_)
  unfold aj;and_intros;refine⟨_,rfl,Rh g _ _ o (by unfold Flt.dep at hd;lia) (Yd _ _ _ ?_)⟩;unfold bu at hR;exact hR
 | all fs =>
  symm;refine aJ 6 (1) rfl ?_;left;refine aJ 6 (1) rfl ?_;left;refine aJ 6 (1) rfl ?_;left;refine aJ 6 (1) rfl ?_;left;refine aJ 6 (1) rfl ?_;left;refine aJ 6 (1) rfl ?_;left;unfold aj;rw[di];and_intros;refine⟨_,rfl,?_⟩;and_intros;refine⟨by rw[a_];exact sz (by have:=o.1;lia),go fs _ (d9.mp o.2) (fun f hf=>by have:=hW f hf;unfold Flt.dep at hd;lia) ?_⟩;unfold bu at hR;rw[gc] at hR;left;refine⟨_,rfl,?_⟩;and_intros;refine bD (1) ?_
  first | refine sqo fun N2 hN2=>?_ | (dsimp only;refine sqo fun N2 hN2=>?_)
  exact Yb _ _ _ hR
 | any fs =>
  symm;refine aJ 7 (1) rfl ?_;left;refine aJ 7 (1) rfl ?_;left;refine aJ 7 (1) rfl ?_;left;refine aJ 7 (1) rfl ?_;left;refine aJ 7 (1) rfl ?_;left;refine aJ 7 (1) rfl ?_;left;unfold aj;rw[di];and_intros;refine⟨_,rfl,?_⟩;and_intros;refine⟨by rw[a_];exact sz (by have:=o.1;lia),go fs _ (d9.mp o.2) (fun f hf=>by have:=hW f hf;unfold Flt.dep at hd;lia) ?_⟩;unfold bu at hR;rw[gc] at hR;left;refine⟨_,rfl,?_⟩;and_intros;refine br (1) ?_;subst hN
  first | refine sqo fun N2 hN2=>?_ | (dsimp only;refine sqo fun N2 hN2=>?_)
  exact Yc _ _ _ hR
end
def wV {w:Str}{a:Nat} (h:a<=w.length):(abe w none (some (a:Int))).cps.toList=w.cps.toList.take a:=by
 have e:=eq_of_beq (PyProof.Rows.slice_closes_toL (x:=w) (j:=(a:Int)) ∅ ∅);rw[e];simp
def qh {w:Str}{a:Nat} (h:a<=w.length):(abe w (some (a:Int)) none).cps.toList=w.cps.toList.drop a:=by
 have e:=eq_of_beq (PyProof.Rows.slice_closes_fromL (x:=w) (i:=(a:Int)) (b:=(w.length:Int)) ∅ ∅ rfl);rw[e];have hl:w.cps.toList.length=w.length:=by simp [afc]
 rw[show ((w.length:Int)-(a:Int)).toNat=w.length-a by lia];simp only[p_];rw[ZR (by rw[Z9];lia)]
def len_list (w:Str):w.cps.toList.length=w.length:=by simp [afc]
def DW {w:Str}{a x:Nat} (h:a<=w.length) (hw:w.length<=7) (hl:∀ y∈w.cps.toList,y∈Cv.cps.toList) (hx:x∈Cv.cps.toList) :
  ax (abe w none (some (a:Int))++⟨#[x]⟩++abe w (some (a:Int)) none)=true:=by
 have h1:=wV h;have h2:=qh h;have l1:(abe w none (some (a:Int))).length=a:=by rw[<-len_list,h1,Zm,len_list];lia
 have l2:(abe w (some (a:Int)) none).length=w.length-a:=by rw[<-len_list,h2,Z9,len_list]
 refine Fs ?_ ?_ fun y hy=>vG.mpr ?_
 ·rw[abn,abn,jD];lia
 ·rw[abn,abn,jD];lia
 ·rw[app_list,app_list,U_,U_,h1,h2] at hy;rcases hy with (h | h) | h
  ·exact hl y (ZE h)
  ·rw[show y=x by simpa using h];exact hx
  ·exact hl y (aeN h)
def wW {w:Str}{a:Nat} (h:a<=w.length) (hw:w.length<=7):(abe w none (some (a:Int))).length<=7/\(abe w (some (a:Int)) none).length<=7:=by
 have h1:=wV h;have h2:=qh h;rw[<-len_list,<-len_list,h1,h2,Zm,Z9,len_list]
 lia
section
variable {Z:Gm}{M:Mem}{R:Dt->Mem->Prop}
def wX {n:Nat} (h:n<=30000):n<sizeLine:=acw h (2)
noncomputable def nr (ns:List Int):Dt:=.og (ns.map .int)
def dj (p:bH):Prop:=∀ (ns:List Int) (k:Int) M R,0<=k->(∀ n:Int,R (.int n) M)->p [nr ns,.int k] M R
def qi {ns:List Int}{k:Int} (h:0<=k) (hR:∀ n:Int,R (.int n) M):Fn Z eM [.sh (nr ns),.sh (.int k)] M R:=by
 unfold eM nr;symm;rw[a_];by_cases e:k<(ns.length:Int)
 ·refine bD (d_ e) ?_;right;obtain⟨n,rfl⟩:=Zy h;exact⟨.int (ns[n]'∅),aI (by rw[g_,b_ ∅];rfl),hR _⟩
 ·refine br (7) ?_;left;exact⟨.inl ⟨(2),(2)⟩,hR _⟩
theorem jr {f:Dt->Mem->(m_ Dt->Mem->Prop)->Prop}{R:Rt}{P:Dt->Prop}:∀ {items:List Dt},(∀ x∈items,∀ K:m_ Dt->Mem->Prop,(∀ d,P d->K (some d) M)->f x M K)->(∀ ds,ds.length=items.length->(∀ d∈ds,P d)->R ds M)->eE f items M R
 | [],_,h=>h [] rfl (fun _ z=>nomatch z)
 | x::xs,hf,h=>hf x W_ _ fun d hd=>jr (fun y hy=>hf y (J_ _ hy)) fun ds hl hP=>h (d::ds) (by simp [hl]) fun e he=>by
  rcases C_.mp he with rfl | he
  ·exact hd
  ·exact hP e he
theorem lh {T:Str->Prop}:∀ {ds:List Dt},(∀ d∈ds,∃ z,d=.str z/\T z)->∃ zs:List Str,ds=zs.map .str/\∀ z∈zs,T z
 | [],_=>⟨[],rfl,fun _ z=>nomatch z⟩
 | d::ds,h=>by
  obtain⟨z,rfl,hz⟩:=h d (3);obtain⟨zs,rfl,hs⟩:=lh (ds:=ds) fun e he=>h e (by simp [he])
  exact⟨z::zs,rfl,fun y hy=>by rcases C_.mp hy with rfl | hy;exact hz;exact hs y hy⟩
def qj (p:bH):Prop:=∀ (c:Int) M R,(∀ zs:List Str,4<=zs.length->zs.length<=10->(∀ z∈zs,ax z=true)->R (.lst '1') M)->p [.int c] M R
def nK {c:Int} (hR:∀ zs:List Str,4<=zs.length->zs.length<=10->(∀ z∈zs,ax z=true)->R (.lst '1') M):Fn Z dM [.sh (.int c),.no,.no,.no,.no,.no,.no,.no] M R:=by
 unfold dM;have go:=fun j:Int=>SH.dC (z:=Cv) (i:=j) (m:=26) (2) (1)
 symm;left;left;refine⟨⟨(2),(2),(2)⟩,(2),?_⟩;generalize c % 10 ^ adX 12=rr;left;have r0:=abf rr (show (8:Int)≠0 by decide);have r8:=abH rr (show (0:Int)<8 by decide);refine⟨(2),⟨∅,∅⟩,?_⟩;refine aw (fun i ρ M'=>M'=M/\∃ w:Str,w.length=i/\(∀ y∈w.cps.toList,y∈Cv.cps.toList)/\∃ (rest:Int) (o:Sl),ρ=[.sh (.int c),.sh (.str Cv),.sh (.str w),.sh (.int rest),o,.no,.no,.no]) ⟨rfl,aah "",rfl,fun y hy=>(nomatch hy),_,_,rfl⟩ ?_ ?_
 ·rintro i x ρ M' N' hx ⟨rfl,w,hw,hl,rest,o,rfl⟩ eP;obtain⟨hi,rfl⟩:=aE hx;and_intros;right;refine⟨⟨(2),(2)⟩,?_⟩;subst hN2;right;obtain⟨x,hx,ex⟩:=go (rest / 8);refine⟨(2),sz (1),x,ex,by rw[jD];exact sz ∅,?_⟩;subst hN2;refine eP _ _ ⟨rfl,w++⟨#[x]⟩,by rw[abn,jD,hw],fun y hy=>?_,_,_,rfl⟩;rw[app_list,U_] at hy;rcases hy with h | h
  ·exact hl y h
  ·rw[show y=x by simpa using h];exact hx
 ·rintro ρ M' ⟨rfl,w,hw,hl,rest,o,rfl⟩;rw[ah] at hw;have w7:w.length<=7:=by lia
  left;refine⟨⟨(2),(2)⟩,sz ∅,∅,?_⟩;obtain⟨a,ha⟩:=Zy (abf (c / 8) (show (w.length:Int)+1≠0 by lia));have V1:a<=w.length:=by have:=abH (c / 8) (show (0:Int)<(w.length:Int)+1 by lia);lia
  rw[ha];left;refine⟨⟨(2),(2)⟩,(2),?_⟩;left;refine⟨sz (3),⟨(2),(2)⟩,(2),?_⟩;obtain⟨v,hv,_,e⟩:=n9 (xs:=([.int 4,.int 4,.int 4,.int 10]:List Dt)) (i:=c / 1664) (m:=4) (2) (2);refine⟨v,e,?_⟩
  have B9:∃ n:Nat,v=.int n/\4<=n/\n<=10:=by
   simp only[C_,ZW,ab2] at hv;rcases hv with rfl | rfl | rfl | rfl
   ·exact⟨4,rfl,(2),(2)⟩
   ·exact⟨4,rfl,(2),(2)⟩
   ·exact⟨4,rfl,(2),(2)⟩
   ·exact⟨10,rfl,(2),(2)⟩
  obtain⟨n,rfl,n4,Zf⟩:=B9;obtain⟨q1,q2⟩:=wW V1 w7;left;refine⟨⟨∅,∅⟩,by rw[ah];exact sz ∅,?_⟩;refine jr (P:=fun d=>∃ z,d=.str z/\ax z=true) (4) fun ds Bv hP=>?_
  ·obtain⟨i,hi⟩:=Y_.mp hx;obtain⟨_,rfl⟩:=aE hi;obtain⟨y,hy,ey⟩:=go (c / 64 % 26+3*(0+(i:Int)));and_intros;exact⟨sz ∅,.inl ⟨(2),(2)⟩,(2),sz (1),y,ey,by rw[jD];exact sz ∅,sz ∅,by rw[abn,jD];exact sz ∅,hK _ ⟨_,rfl,DW V1 w7 hl hy⟩⟩
  ·obtain⟨zs,rfl,hz⟩:=lh hP;rw[a_,ah,p_] at Bv;exact hR zs ∅ ∅ hz
def sU (p:bH):Prop:=∀ (c:Int) M R,(∀ m:Nat,m<=9->R (.int m) M)->p [.int c] M R
def aU (c:Int) {m:Int} (h:0<m):∃ n:Nat,c % m=(n:Int)/\(n:Int)<m:=by
 obtain⟨n,hn⟩:=Zy (abf c (show m≠0 by lia));exact⟨n,hn,by have:=abH c h;lia⟩
def qk {c:Int} (hR:∀ m:Nat,m<=9->R (.int m) M):Fn Z eO [.sh (.int c)] M R:=by
 unfold eO;symm;refine⟨(2),?_⟩
 have two:∀ m:Int,0<m->m<=10->R (.int (c / 16 % m)) M:=fun m h1 h2=>by
  obtain⟨n,e,hn⟩:=aU (c / 16) h1;rw[e];exact hR n ∅
 by_cases e:c % 16=5
 ·refine bD (d_ e) ?_;right;exact⟨⟨(2),(2)⟩,(2),two 10 (2) (2)⟩
 ·refine br (7) ?_;left;exact⟨⟨(2),(2)⟩,(2),two 9 (2) (2)⟩
def gi (zs:List Str):Prop:=4<=zs.length/\zs.length<=10/\∀ z∈zs,ax z=true
def wY (p:bH):Prop:=∀ (ns:List Int) (f m:Nat) (zs:List Str) M R,m<=900->gi zs->(∀ ws:List Str,ws.length=m->(∀ z∈ws,ax z=true)->R (.lst (ws.map .str)) M)->p [nr ns,.int f,.int m,.lst '1'] M R
def rz (qa:dj (Z.fn 12)) {ns:List Int}{f m:Nat}{zs:List Str} (hm:m<=900) (hz:gi zs) (hR:∀ ws:List Str,ws.length=m->(∀ z∈ws,ax z=true)->R (.lst (ws.map .str)) M):Fn Z fM [.sh (nr ns),.sh (.int f),.sh (.int m),.sh (.lst '1'),.no,.no,.no] M R:=by
 unfold fM;obtain⟨z4,Ri,hz⟩:=hz;symm;refine⟨sz (3),?_⟩;left;refine⟨⟨∅,∅⟩,?_⟩;refine aw (fun i ρ M'=>M'=M/\∃ ws:List Str,ws.length=i/\(∀ z∈ws,ax z=true)/\∃ o5 o6,ρ=[.sh (nr ns),.sh (.int f),.sh (.int m),.sh (.lst '1'),.ow (.lst (ws.map .str)),o5,o6]) ⟨rfl,[],rfl,fun _ z=>(nomatch z),_,_,rfl⟩ ?_ ?_
 ·rintro i x ρ M' N' hx ⟨rfl,ws,hw,yN,o5,o6,rfl⟩ eP;obtain⟨hi,rfl⟩:=aE hx;rw[p_] at hi;rw[Zu];and_intros;right;refine⟨(2),qa _ _ _ _ (by have:=abf (i:Int) (show (12:Int)≠0 by decide);lia) fun c=>?_⟩;and_intros;refine⟨⟨(2),(2)⟩,.inl ⟨(2),(2)⟩,?_⟩;generalize c+11*((i:Int) / 12)=cc;subst hN2;right;obtain⟨v,hv,_,e⟩:=n9 (xs:=([.int 0,.int 0,.int 1,.int 1,.int 2,.int 2,.int 3]:List Dt)) (i:=cc) (m:=7) (2) (2)
  have B9:∃ n:Nat,v=.int n/\n<=3:=by
   simp only[C_,ZW,ab2] at hv;rcases hv with rfl | rfl | rfl | rfl | rfl | rfl | rfl
   ·exact⟨0,rfl,(2)⟩
   ·exact⟨0,rfl,(2)⟩
   ·exact⟨1,rfl,(2)⟩
   ·exact⟨1,rfl,(2)⟩
   ·exact⟨2,rfl,(2)⟩
   ·exact⟨2,rfl,(2)⟩
   ·exact⟨3,rfl,(2)⟩
  obtain⟨n,rfl,n3⟩:=B9
  have fin:∀ q:Int,0<=q->q<zs.length->atK (zs.map Dt.str) q fun d=>(ws.map Dt.str).length<sizeLine/\N2 [Sl.sh (nr ns),Sl.sh (Dt.int f),Sl.sh (Dt.int m),Sl.sh (.lst '1'),Sl.ow (.lst (ws.map .str++[d])),Sl.sh (.int i),Sl.sh (.int cc)] M':=fun q h0 h1=>by
   refine⟨_,K18.dC h0 h1,by rw[a_];exact wX ∅,?_⟩;subst hN2;have:=eP [Sl.sh (nr ns),Sl.sh (Dt.int f),Sl.sh (Dt.int m),Sl.sh (.lst '1'),Sl.ow (.lst ((ws++[atS zs q]).map .str)),Sl.sh (.int i),Sl.sh (.int cc)] M' ⟨rfl,ws++[atS zs q],by simp [hw],fun z FE=>?_,_,_,rfl⟩
   ·rw[F_] at this;exact this
   ·rcases U_.mp FE with h | h
    ·exact yN z h
    ·rw[D_.mp h];exact hz _ (getD_mem ∅)
  rw[a_];refine⟨sz (3),(2),_,e,∅,sz (3),?_⟩;by_cases h4:(4:Int)<(zs.length:Nat)
  ·rw[z_ (d_ h4)];obtain⟨q,eq,hq⟩:=aU cc (show (0:Int)<(zs.length:Nat) by lia);refine⟨_,rfl,fin _ ∅ ∅⟩
  ·rw[s_ (by rw[f_ h4];decide)];exact⟨_,rfl,fin _ ∅ ∅⟩
 ·rintro ρ M' ⟨rfl,ws,hw,yN,o5,o6,rfl⟩;rw[ah,p_] at hw;left;left;exact hR ws hw yN
noncomputable def aF:Rw->Dt
 | .row zs=>.tup [.str "row",.lst '1']
 | .ae ns=>.tup [.str "forest",.lst (ns.map aC)]
 | .table w ls=>.tup [.str "table",.int w,.lst (ls.map aR)]
def nu (p:bH):Prop:=∀ (ns:List Int) (f:Nat) (zs:List Str) M R,zs.length<=40->(∀ z∈zs,ax z=true)->(∀ ps:List Nd,(Rw.ae ps).Ok->R (aF (.ae ps)) M)->p [nr ns,.int f,.lst '1'] M R
def mO (qa:dj (Z.fn 12)) {ns:List Int}{f:Nat}{zs:List Str} (hl:zs.length<=40) (hz:∀ z∈zs,ax z=true) (hR:∀ ps:List Nd,(Rw.ae ps).Ok->R (aF (.ae ps)) M):Fn Z de [.sh (nr ns),.sh (.int f),.sh (.lst '1'),.no,.no,.no,.no] M R:=by
 unfold de;symm;refine⟨sz (3),?_⟩;left;left;rw[a_];refine⟨⟨∅,∅⟩,?_⟩;refine aw (fun i ρ M'=>M'=M/\∃ (ps:List Nd) (d:Nat),ps.length=i/\aN 0 ps/\d<=6/\(i=0->d=0)/\(0<i->(d:Int)+1=aK 0 ps)/\∃ o5 o6,ρ=[.sh (nr ns),.sh (.int f),.sh (.lst '1'),.ow (.lst (ps.map aC)),.sh (.int d),o5,o6]) ⟨rfl,[],0,rfl,Z3,∅,fun _=>rfl,fun h=>by lia,_,_,rfl⟩ ?_ ?_
 ·rintro i x ρ M' N' hx ⟨rfl,ps,d,hp,ho,d6,d0,d1,o5,o6,rfl⟩ eP;obtain⟨hi,rfl⟩:=aE hx;rw[p_] at hi;rw[Zu];obtain⟨z,Le⟩:∃ z,zs[i]? = some z:=⟨_,b_ hi⟩;and_intros;right;refine⟨(2),qa _ _ _ _ (by have:=abf (i:Int) (show (12:Int)≠0 by decide);lia) fun c=>?_⟩;and_intros;refine⟨⟨(2),(2)⟩,⟨(2),(2)⟩,.inl ⟨(2),(2)⟩,?_⟩;generalize c / 7+3*((i:Int) / 12)=cc;subst hN2;right;obtain⟨a,ea,ha⟩:=aU cc (show (0:Int)<7 by decide);obtain⟨b,eb,hb⟩:=aU (a:Int) (show (0:Int)<(d:Int)+2 by lia)
  have Zg:b<=a:=by
   have h:((a % (d+2):Nat):Int)=(b:Int):=by rw[<-eb,adY];rfl
   have:=Nat.mod_le a (d+2)
   lia
  rw[ea];refine⟨(2),∅,?_⟩;rw[eb]
  obtain⟨e,he,e1,e2,e3⟩:∃ e:Nat,((b:Int)*if decide (0<(i:Int))=true then 1 else 0)=(e:Int)/\e<=6/\(i=0->e=0)/\e<=d+1:=by
   rcases acx i with h | h
   ·exact⟨0,by rw[s_ (by rw[h];decide),afL];rfl,∅,fun _=>rfl,∅⟩
   ·exact⟨b,by rw[z_ (d_ ∅),adz],∅,fun h'=>by lia,∅⟩
  rw[he];refine⟨.inl ⟨∅,∅⟩,?_⟩;subst hN2;right;refine⟨.str z,aI (by rw[g_,Le];rfl),sz (3),by rw[a_];exact wX ∅,?_⟩;subst hN2;have hm:=hz z (y_ Le)
  have da:(e:Int)<=aK 0 ps:=by
   rcases acx i with h | h
   ·have:=e2 h
    cases ps with
    | nil=>show (e:Int)<=0;lia
    | cons _ _=>rw[x_] at hp;lia
   ·have:=d1 h;lia
  have:=eP [Sl.sh (nr ns),Sl.sh (Dt.int f),Sl.sh (.lst '1'),Sl.ow (.lst ((ps++[((z,(e:Int)):Nd)]).map aC)),Sl.sh (.int e),Sl.sh (.int i),Sl.sh (.int cc)] M' ⟨rfl,ps++[(z,(e:Int))],e,by simp [hp],aS.mpr ⟨ho,hm,by show (0:Int)<=e;lia,da,Z3⟩,e1,fun h=>by lia,fun _=>?_,_,_,rfl⟩
  ·rw[F_] at this;exact this
  ·rw[a9];show (e:Int)+1=min ((e:Int)+1) 12
   lia
 ·rintro ρ M' ⟨rfl,ps,d,hp,ho,d6,d0,d1,o5,o6,rfl⟩;rw[ah,p_] at hp;left;left;exact⟨sz (3),hR ps ⟨ho,∅⟩⟩
def DX (p:bH):Prop:=∀ (r:Int) M R,(∀ n:Int,R (.int n) M)->p [.int r] M R
def yO {r:Int} (hR:∀ n:Int,R (.int n) M):Fn Z ky [.sh (.int r),.no,.no] M R:=by
 unfold ky;symm;left;refine⟨fun m ρ M'=>M'=M/\∃ t:Int,0<t/\m=(r+1-t).toNat/\ρ=[.sh (.int r),.sh (.int t),.no],⟨_,rfl,1,(2),rfl,rfl⟩,?_⟩;rintro m ρ M' ⟨rfl,t,ht,rfl,rfl⟩;and_intros;by_cases e:t<=r
 ·refine bD (d_ e) ?_;right;refine⟨.inl ⟨(2),(2)⟩,?_⟩;subst hN2;exact⟨_,∅,rfl,4*t,∅,rfl,rfl⟩
 ·refine br (7) ?_;left;refine⟨⟨(2),(2),(2)⟩,(2),.inr ⟨(2),(2)⟩,⟨(2),(2),(2)⟩,(2),?_⟩;generalize (r % 10 ^ adX 15+11)*6364136223846793013 % (2 ^ adX 61-1)=v;left;refine⟨.inr ⟨(2),(2)⟩,⟨(2),(2),(2)⟩,(2),.inr ?_,hR _⟩;have h0:=abf (v*69621) (show (2 ^ adX 61-1:Int)≠0 by decide);have h1:=abH (v*69621) (show (0:Int)<2 ^ adX 61-1 by decide);have h2:(2 ^ adX 61-1:Int)<2 ^ 64:=by decide
  exact⟨Int.lt_of_lt_of_le (2) h0,Int.lt_trans h1 h2⟩
def Rw.Full:Rw->Prop
 | .table w ls=>ls=[]->w=0
 | _=>True
noncomputable def DY:Rw->Nat | .row _=>0 | .ae _=>1 | .table _ _=>2
noncomputable def rws (t:Nat):Str:=match t with | 0 => "row" | 1 => "forest" | _ => "table"
def DZ {r:Rw}{k:Dt->Prop} (h:k (.str (rws (DY r)))):ly (aF r) 0 k:=by
 cases r<;>exact⟨_,rfl,h⟩
def dU {r:Rw}{w:Str}{a b:Prop} (e:rws (DY r)=w) (y:a):ly (aF r) 0 fun x=>we x (.str w) fun c=>if c=true then a else b:=DZ (bD (d_ e) y)
def cR (t:Nat) {r:Rw}{w:Str}{a b:Prop} (e:¬ rws t=w) (h:DY r=t) (n:b):ly (aF r) 0 fun x=>we x (.str w) fun c=>if c=true then a else b:=DZ (by
 have e:¬ rws (DY r)=w:=by rw[h];exact e
 exact br (7) n)
def lO (p:bH):Prop:=∀ (r:Rw) M R,R (.int r.many) M->p [aF r] M R
def mP {r:Rw} (hR:R (.int r.many) M):Fn Z dh [.sh (aF r)] M R:=by
 unfold dh
 cases r with
 | row zs =>
  symm;refine cR 0 (1) rfl ?_;left;refine⟨_,rfl,?_⟩;and_intros;rw[a_];exact hR
 | ae ns =>
  symm;refine cR 1 (1) rfl ?_;left;refine⟨_,rfl,?_⟩;and_intros;rw[a_];exact hR
 | table w ls =>
  symm;refine dU rfl ?_;right;refine⟨_,rfl,?_⟩;and_intros;refine⟨_,rfl,?_⟩;and_intros;rw[a_,<-ZA];exact hR
def D0 (p:bH):Prop:=∀ (r:Rw) M R,r.Ok->r.Full->R (bf r) M->p [aF r] M R
def wZ (Ye:DO (Z.bp 17)) (Yf:qb (Z.bp 18)) (Yg:uC (Z.bp 19)) {r:Rw} (o:r.Ok) (hf:r.Full) (hR:R (bf r) M):Fn Z jg [.sh (aF r)] M R:=by
 unfold jg
 cases r with
 | row zs =>
  symm;refine dU rfl ?_
  first | refine sqo fun N2 hN2=>?_ | (dsimp only;refine sqo fun N2 hN2=>?_)
  exact⟨_,rfl,Ye _ _ _ o hR⟩
 | ae ns =>
  symm;refine cR 1 (1) rfl ?_;left;refine dU rfl ?_
  first | refine sqo fun N2 hN2=>?_ | (dsimp only;refine sqo fun N2 hN2=>?_)
  exact⟨_,rfl,Yf _ _ _ o hR⟩
 | table w ls =>
  symm;refine cR 2 (1) rfl ?_;left;refine cR 2 (1) rfl ?_;left;refine⟨_,rfl,?_⟩;and_intros;have o:aD w ls:=o;refine⟨by rw[a_];exact sz (by have:=o.len;lia),comp_map id (4) ?_⟩
  ·obtain⟨l,hl,rfl⟩:=n_.mp hx;exact hK
  ·rw[af3];refine Yg w ls _ _ o ?_;by_cases e:ls=[]
   ·rw[z_ e];have:=hf e;subst this;exact hR
   ·rw[s_ e];exact hR
def D3 {n:Nat}:bO 0 n=(SH.upTo n).map .int:=by unfold bO SH.upTo;rw[G_];rfl
noncomputable def Qh (P:Int->Bool):Dt->m_ Dt
 | .int i=>if P i=true then some (.int i) else none
 | _=>none
def GG {xs:List Dt}{a b:Nat}{i j:Int} (hi:i=(a:Int)) (hj:j=(b:Int)) (hb:b<=xs.length) (ED:a<=b):cutD xs (some i) (some j)=(xs.drop a).take (b-a):=by
 subst hi hj;unfold cutD;rw[HT.jB,HT.jB,aax hb,aax ∅]
theorem ql {w:Nat}:∀ {ds:List Dt},(∀ d∈ds,∃ l:List Str,d=aR l/\l.length=w/\∀ z∈l,ax z=true)->∃ ls:List (List Str),ds=ls.map aR/\(∀ l∈ls,l.length=w)/\∀ l∈ls,∀ z∈l,ax z=true
 | [],_=>⟨[],rfl,fun _ z=>(nomatch z),fun _ z=>nomatch z⟩
 | d::ds,h=>by
  obtain⟨l,rfl,h1,h2⟩:=h d (3);obtain⟨ls,rfl,h3,h4⟩:=ql (ds:=ds) fun e he=>h e (by simp [he])
  refine⟨l::ls,rfl,fun m hm=>?_,fun m hm=>?_⟩
  ·rcases C_.mp hm with rfl | hm;exact h1;exact h3 m hm
  ·rcases C_.mp hm with rfl | hm;exact h2;exact h4 m hm
def w5 {ws:List Str}{w d k:Nat} (hl:ws.length=w*d) (hk:k<d) (hz:∀ z∈ws,ax z=true):∃ l:List Str,Dt.lst (cutD (ws.map .str) (some ((w:Int)*(k:Int))) (some ((w:Int)*(k:Int)+(w:Int))))=aR l/\l.length=w/\∀ z∈l,ax z=true:=by
 have hle:w*k+w<=ws.length:=by
  rw[hl,<-Nat.mul_succ];exact ace w hk
 refine⟨(ws.drop (w*k)).take w,?_,by rw[Zm,Z9];lia,fun z FE=>hz z (aeN (ZE FE))⟩;rw[GG (a:=w*k) (b:=w*k+w) (by rw[ZV]) (by rw[ZA,ZV]) (by rw[a_];exact hle) ∅,adZ,<-acX,<-abS];rfl
def HZ (p:bH) (ds:List Dt):Prop:=∀ M R,(∀ r:Rw,r.Ok->r.Full->R (aF r) M)->p ds M R
def lP (p:bH):Prop:=∀ (c:Int) (zs:List Str),gi zs->HZ p [.int c,.lst '1']
def w6 (p:bH):Prop:=∀ (ns:List Int) (f:Nat) (zs:List Str),gi zs->HZ p [nr ns,.int f,.lst '1']
def rA (qa:dj (Z.fn 12)) (Ut:sU (Z.fn 14)) (GA:wY (Z.fn 15)) (Yh:nu (Z.fn 16)) (Uv:DX (Z.fn 17)) (Yi:lP (Z.fn 18)) {ns:List Int}{f:Nat}{zs:List Str} (hz:gi zs) (hR:∀ r:Rw,r.Ok->r.Full->R (aF r) M):Fn Z fN [.sh (nr ns),.sh (.int f),.sh (.lst '1'),.no,.no,.no,.no,.no] M R:=by
 unfold fN;symm;refine qa _ _ _ _ ∅ fun h=>?_
 left;refine⟨(2),?_⟩;by_cases e:h % 2=1
 ·refine bD (d_ e) ?_;right;exact⟨⟨(2),(2)⟩,Uv _ _ _ fun c=>Yi c zs hz _ _ hR⟩
 refine br (7) ?_;left;refine⟨⟨(2),(2)⟩,?_⟩;generalize h / 2=h2;left;refine⟨⟨(2),(2)⟩,Ut _ _ _ fun m hm=>?_⟩;left;refine⟨(2),?_⟩;have f1:(f:Int)+1=((f+1:Nat):Int):=by lia
 by_cases e0:h2 % 3=0
 ·refine bD (d_ e0) ?_;right;rw[f1];exact GA _ _ _ _ _ _ ∅ hz fun ws hw yN=>⟨sz (3),hR (.row ws) ⟨yN,∅⟩ Z3⟩
 refine br (by rw[f_ e0];decide) ?_;left;refine⟨(2),?_⟩;by_cases e1:h2 % 3=1
 ·refine bD (d_ e1) ?_;right;rw[f1];exact GA _ _ _ _ _ _ ∅ hz fun ws hw yN=>Yh _ _ _ _ _ ∅ yN fun ps o=>hR (.ae ps) o Z3
 refine br (by rw[f_ e1];decide) ?_;left;refine⟨⟨(2),(2)⟩,(2),?_⟩;left;refine⟨(2),?_⟩
 have tail:∀ w d:Nat,w<=12->d<=12->N [.sh (nr ns),.sh (.int f),.sh (.lst '1'),.sh (.int h2),.sh (.int m),.sh (.int w),.sh (.int d),.no] M:=fun w d hw hd=>by
  rw[hN]
  first | refine sqo fun N3 bw=>?_ | (dsimp only;refine sqo fun N3 bw=>?_)
  and_intros;refine⟨.inl ⟨∅,∅⟩,?_⟩;rw[f1,<-ZV];have V2:w*d<=12*12:=aa7 hw hd;refine GA _ _ _ _ _ _ ∅ hz fun ws hl yN=>?_
  subst bw
  first | refine sqo fun N3 bw=>?_ | (dsimp only;refine sqo fun N3 bw=>?_)
  and_intros;refine⟨.inl ⟨∅,∅⟩,⟨∅,∅⟩,by rw[ah];exact sz ∅,?_⟩;refine jr (P:=fun x=>∃ l:List Str,x=aR l/\l.length=w/\∀ z∈l,ax z=true) (4) fun ds Bv hP=>?_
  ·obtain⟨k,sH⟩:=Y_.mp hx;obtain⟨hk,rfl⟩:=aE sH;rw[p_] at hk;rw[Zu];and_intros;exact⟨.inl ⟨∅,∅⟩,.inl ⟨∅,∅⟩,hK _ (w5 hl hk yN)⟩
  ·obtain⟨ls,rfl,h3,h4⟩:=ql hP;rw[a_,ah,p_] at Bv;refine⟨sz (3),?_⟩
   have e5:((w:Int)*if decide (0<(d:Int))=true then 1 else 0)=((if d=0 then 0 else w:Nat):Int):=by
    by_cases h0:d=0
    ·rw[z_ h0,s_ (by rw[h0];decide),afL];rfl
    ·rw[s_ h0,z_ (d_ ∅),adz]
   rw[e5];refine hR (.table (if d=0 then 0 else w) ls) ⟨∅,by split<;>lia,fun l hl=>?_,h4⟩ fun e=>?_
   ·rw[s_ (by have:=abL hl;lia)];exact h3 l hl
   ·rw[z_ (by rw[e] at Bv;exact Bv.symm)]
 obtain⟨a,ea,ha⟩:=aU (h2 / 48) (show (0:Int)<5 by decide);obtain⟨b,eb,hb⟩:=aU (m:Int) (show (0:Int)<6 by decide);rw[ea,eb];exact tail _ _ ∅ ∅
def lQ {c:Int}{zs:List Str} (hz:gi zs) (hR:∀ r:Rw,r.Ok->r.Full->R (aF r) M):Fn Z cL [.sh (.int c),.sh (.lst '1'),.no,.no,.no,.no,.no,.no,.no,.no] M R:=by
 unfold cL;obtain⟨z4,Ri,hz⟩:=hz;obtain⟨k,ek,hk⟩:=aU (c / 3) (show (0:Int)<10 by decide);obtain⟨w,ew,hw⟩:=aU (c / 30) (show (0:Int)<5 by decide);obtain⟨d,ed,hd⟩:=aU (c / 150) (show (0:Int)<5 by decide);symm;refine⟨⟨(2),(2)⟩,(2),?_⟩;rw[ek];left;refine⟨⟨(2),(2)⟩,(2),?_⟩;rw[ew];left;refine⟨⟨(2),(2)⟩,(2),?_⟩;rw[ed];left;refine⟨⟨(2),(2)⟩,?_⟩;generalize c / 750=r0;subst hN
 first | refine sqo fun N hN=>?_ | (dsimp only;refine sqo fun N hN=>?_)
 have V2:w*d<=4*4:=aa7 ∅ ∅
 have main:∀ m:Nat,m<=16->(c % 3=2->m=w*d)->(¬ c % 3=2->m<=9)->N [.sh (.int c),.sh (.lst '1'),.sh (.int m),.sh (.int w),.sh (.int d),.sh (.int r0),.no,.no,.no,.no] M:=fun m V3 m2 m9=>by
  rw[hN]
  first | refine sqo fun N3 bw=>?_ | (dsimp only;refine sqo fun N3 bw=>?_)
  and_intros;refine⟨sz (3),?_⟩;subst bw
  first | refine sqo fun N3 bw=>?_ | (dsimp only;refine sqo fun N3 bw=>?_)
  and_intros;refine⟨⟨∅,∅⟩,?_⟩;refine aw (fun i ρ M'=>M'=M/\∃ ws:List Str,ws.length=i/\(∀ z∈ws,ax z=true)/\∃ (r:Int) (o7:Sl),ρ=[.sh (.int c),.sh (.lst '1'),.sh (.int m),.sh (.int w),.sh (.int d),.sh (.int r),.ow (.lst (ws.map .str)),o7,.no,.no]) ⟨rfl,[],rfl,fun _ z=>(nomatch z),_,_,rfl⟩ ?_ ?_
  ·rintro i x ρ M' N' hx ⟨rfl,ws,hl,yN,r,o7,rfl⟩ eP;obtain⟨hi,rfl⟩:=aE hx;rw[p_] at hi;and_intros
   first | refine sqo fun N4 dY=>?_ | (dsimp only;refine sqo fun N4 dY=>?_)
   and_intros;rw[a_];obtain⟨q,eq,hq⟩:=aU r (show (0:Int)<(zs.length:Nat) by lia);rw[eq];refine⟨∅,.str (atS zs q),K18.dC ∅ ∅,by rw[a_];exact wX ∅,?_⟩;subst dY
   first | refine sqo fun N4 dY=>?_ | (dsimp only;refine sqo fun N4 dY=>?_)
   and_intros;rw[a_];refine⟨⟨∅,∅⟩,?_⟩;subst dY;rw[show ws.map Dt.str++[Dt.str (atS zs q)]=(ws++[atS zs q]).map .str by rw[F_];rfl];refine eP _ _ ⟨rfl,ws++[atS zs q],by simp [hl],fun z FE=>?_,_,_,rfl⟩;rcases U_.mp FE with h | h
   ·exact yN z h
   ·rw[D_.mp h];exact hz _ (getD_mem ∅)
  ·rintro ρ M' ⟨rfl,ws,hl,yN,r,o7,rfl⟩;rw[ah,p_] at hl;subst bw
   first | refine sqo fun N3 bw=>?_ | (dsimp only;refine sqo fun N3 bw=>?_)
   and_intros;refine⟨(2),?_⟩;by_cases e0:c % 3=0
   ·refine bD (d_ e0) ?_
    first | refine sqo fun N4 dY=>?_ | (dsimp only;refine sqo fun N4 dY=>?_)
    and_intros;subst dY
    first | refine sqo fun N4 dY=>?_ | (dsimp only;refine sqo fun N4 dY=>?_)
    exact⟨sz (3),hR (.row ws) ⟨yN,∅⟩ Z3⟩
   refine br (by rw[f_ e0];decide) ?_;subst bw
   first | refine sqo fun N3 bw=>?_ | (dsimp only;refine sqo fun N3 bw=>?_)
   and_intros;refine⟨(2),?_⟩;by_cases e2:c % 3=2
   ·refine bD (d_ e2) ?_
    first | refine sqo fun N4 dY=>?_ | (dsimp only;refine sqo fun N4 dY=>?_)
    and_intros;subst dY
    first | refine sqo fun N4 dY=>?_ | (dsimp only;refine sqo fun N4 dY=>?_)
    and_intros;have hl:=hl.trans (m2 e2);refine⟨.inl ⟨∅,∅⟩,⟨∅,∅⟩,by rw[ah];exact sz ∅,?_⟩;refine jr (P:=fun x=>∃ l:List Str,x=aR l/\l.length=w/\∀ z∈l,ax z=true) (4) fun ds Bv hP=>?_
    ·obtain⟨k,sH⟩:=Y_.mp hx;obtain⟨hk,rfl⟩:=aE sH;rw[p_] at hk;rw[Zu];and_intros;exact⟨.inl ⟨∅,∅⟩,.inl ⟨∅,∅⟩,hK _ (w5 hl hk yN)⟩
    ·obtain⟨ls,rfl,h3,h4⟩:=ql hP;rw[a_,ah,p_] at Bv;refine⟨sz (3),?_⟩
     have e5:((w:Int)*if decide (0<(d:Int))=true then 1 else 0)=((if d=0 then 0 else w:Nat):Int):=by
      by_cases h0:d=0
      ·rw[z_ h0,s_ (by rw[h0];decide),afL];rfl
      ·rw[s_ h0,z_ (d_ ∅),adz]
     rw[e5];refine hR (.table (if d=0 then 0 else w) ls) ⟨∅,by split<;>lia,fun l hl=>?_,h4⟩ fun e=>?_
     ·rw[s_ (by have:=abL hl;lia)];exact h3 l hl
     ·rw[z_ (by rw[e] at Bv;exact Bv.symm)]
   refine br (by rw[f_ e2];decide) ?_;have m9:=m9 e2;subst bw
   first | refine sqo fun N3 bw=>?_ | (dsimp only;refine sqo fun N3 bw=>?_)
   and_intros;refine⟨sz (3),?_⟩;subst bw
   first | refine sqo fun N3 bw=>?_ | (dsimp only;refine sqo fun N3 bw=>?_)
   and_intros;subst bw
   first | refine sqo fun N3 bw=>?_ | (dsimp only;refine sqo fun N3 bw=>?_)
   and_intros;refine⟨⟨∅,∅⟩,?_⟩;refine aw (fun i ρ D4=>D4=M'/\∃ (ps:List Nd) (rm:Nat),ps.length=i/\aN 0 ps/\1<=rm/\rm<=i+1/\(rm:Int)-1<=aK 0 ps/\∃ (r:Int) (o7:Sl),ρ=[.sh (.int c),.sh (.lst '1'),.sh (.int m),.sh (.int w),.sh (.int d),.sh (.int r),.ow (.lst (ws.map .str)),o7,.ow (.lst (ps.map aC)),.sh (.int rm)]) ⟨rfl,[],1,rfl,Z3,∅,∅,by show (1:Int)-1<=0;lia,_,_,rfl⟩ ?_ ?_
   ·rintro i x ρ D4 N' hx ⟨rfl,ps,rm,hp,ho,r1,r2,r3,r,o7,rfl⟩ eP;obtain⟨hi,rfl⟩:=aE hx;rw[p_] at hi;rw[Zu];obtain⟨z,Le⟩:∃ z,ws[i]? = some z:=⟨_,b_ ∅⟩;obtain⟨q,eq,hq⟩:=aU r (show (0:Int)<(rm:Int) by lia);have hm:=yN z (y_ Le);and_intros
    first | refine sqo fun N4 dY=>?_ | (dsimp only;refine sqo fun N4 dY=>?_)
    and_intros;rw[eq];refine⟨.str z,aI (by rw[g_,Le];rfl),∅,sz (3),by rw[a_];exact wX ∅,?_⟩;subst dY
    first | refine sqo fun N4 dY=>?_ | (dsimp only;refine sqo fun N4 dY=>?_)
    and_intros;refine⟨⟨∅,∅⟩,?_⟩;subst dY
    first | refine sqo fun N4 dY=>?_ | (dsimp only;refine sqo fun N4 dY=>?_)
    and_intros;refine⟨.tup [.str z,.int q],kW _ _,_,rfl,?_⟩;and_intros;subst dY;rw[show ps.map aC++[Dt.tup [.str z,.int q]]=(ps++[((z,(q:Int)):Nd)]).map aC by rw[F_];rfl,show (q:Int)+2=((q+2:Nat):Int) by lia];refine eP _ _ ⟨rfl,ps++[(z,(q:Int))],q+2,by simp [hp],aS.mpr ⟨ho,hm,by show (0:Int)<=q;lia,by show (q:Int)<=_;lia,Z3⟩,∅,∅,?_,_,_,rfl⟩;rw[a9];show ((q+2:Nat):Int)-1<=min ((q:Int)+1) 12
    lia
   ·rintro ρ D4 ⟨rfl,ps,rm,hp,ho,r1,r2,r3,r,o7,rfl⟩;rw[ah,p_] at hp;subst bw
    first | refine sqo fun N3 bw=>?_ | (dsimp only;refine sqo fun N3 bw=>?_)
    and_intros;subst bw
    first | refine sqo fun N3 bw=>?_ | (dsimp only;refine sqo fun N3 bw=>?_)
    exact⟨sz (3),hR (.ae ps) ⟨ho,∅⟩ Z3⟩
 and_intros;refine⟨(2),?_⟩;by_cases e2:c % 3=2
 ·refine bD (d_ e2) ?_
  first | refine sqo fun N3 bw=>?_ | (dsimp only;refine sqo fun N3 bw=>?_)
  and_intros;refine⟨.inl ⟨∅,∅⟩,?_⟩;subst bw;rw[<-ZV];exact main _ V2 (fun _=>rfl) (fun h=>absurd e2 h)
 ·refine br (by rw[f_ e2];decide) (main k ∅ (fun h=>absurd h e2) (fun _=>by lia))
noncomputable def H9:Rw->Nat->Int
 | .row _,_=>0
 | .ae ns,k=>(ns.getD k ("",0)).2
 | .table w _,k=>((k / w:Nat):Int)
noncomputable def Rj:Rw->Nat->Int
 | .row _,k=>k
 | .ae _,k=>k
 | .table w _,k=>((k % w:Nat):Int)
noncomputable def rB (r:Rw) (k:Nat):Dt:=.tup [.str (r.names.getD k ""),.int (H9 r k),.int (Rj r k)]
noncomputable def bC (r:Rw):List Dt:=(Zo r.names.length).map (rB r)
def qm {r:Rw}{i:Nat}:(Zo i).map (rB r)++[rB r i]=(Zo (i+1)).map (rB r):=by rw[acp,F_];rfl
theorem fV {w:Nat}:∀ {ls:List (List Str)},(∀ l∈ls,l.length=w)->ls.flatten.length=ls.length*w
 | [],_=>by simp
 | l::ls,h=>by rw[acI,A_,h l (3),fV fun m hm=>h m (by simp [hm]),x_,adI,adJ,afK]
def cB (p:bH):Prop:=∀ (r:Rw) M R,r.Ok->R (.lst (bC r)) M->p [aF r] M R
def uK {r:Rw} (o:r.Ok) (hR:R (.lst (bC r)) M):Fn Z g0 [.sh (aF r),.no,.no,.no,.no] M R:=by
 unfold g0;symm;refine⟨sz (3),?_⟩
 cases r with
 | row zs =>
  have HU:zs.length<=40:=o.2;left;refine dU rfl ?_;right;refine⟨_,rfl,?_⟩;and_intros;rw[a_];refine⟨⟨∅,∅⟩,?_⟩;refine aw (fun i ρ M'=>M'=M/\∃ o2,ρ=[.sh (aF (.row zs)),.ow (.lst ((Zo i).map (rB (.row zs)))),o2,.no,.no]) ⟨rfl,_,rfl⟩ ?_ ?_
  ·rintro i x ρ M' N' hx ⟨rfl,o2,rfl⟩ eP;obtain⟨hi,rfl⟩:=aE hx;rw[p_] at hi;rw[Zu];and_intros
   first | refine sqo fun N3 bw=>?_ | (dsimp only;refine sqo fun N3 bw=>?_)
   and_intros;refine⟨_,rfl,?_⟩;refine⟨_,K18.dC ∅ ∅,sz (3),by rw[a_,K_];exact wX ∅,?_⟩;subst bw;have e:Dt.tup [.str (atS zs i),.int 0,.int i]=rB (.row zs) i:=rfl;rw[e,qm];exact eP _ _ ⟨rfl,_,rfl⟩
  ·rintro ρ M' ⟨rfl,o2,rfl⟩;rw[ah,p_];subst hN2;show N _ _;left;refine cR 0 (1) rfl ?_;left;refine cR 0 (1) rfl ?_;left;left;exact hR
 | ae ns =>
  have HU:ns.length<=40:=o.2;left;refine cR 1 (1) rfl ?_;left;refine dU rfl ?_;right;refine⟨_,rfl,?_⟩;and_intros;rw[a_];refine⟨⟨∅,∅⟩,?_⟩;refine aw (fun i ρ M'=>M'=M/\∃ o2,ρ=[.sh (aF (.ae ns)),.ow (.lst ((Zo i).map (rB (.ae ns)))),o2,.no,.no]) ⟨rfl,_,rfl⟩ ?_ ?_
  ·rintro i x ρ M' N' hx ⟨rfl,o2,rfl⟩ eP;obtain⟨hi,rfl⟩:=aE hx;rw[p_] at hi;rw[Zu];obtain⟨n,hn⟩:∃ n,ns[i]? = some n:=⟨_,b_ hi⟩;have yP:∀ {k:Dt->Prop},k (aC n)->ly (.lst (ns.map aC)) i k:=fun h=>⟨aC n,aI (by rw[g_,hn];rfl),h⟩
   and_intros
   first | refine sqo fun N3 bw=>?_ | (dsimp only;refine sqo fun N3 bw=>?_)
   and_intros;refine⟨_,rfl,yP (Gz ⟨_,rfl,yP (wG ⟨sz (3),by rw[a_,K_];exact wX ∅,?_⟩)⟩)⟩;subst bw
   have e:Dt.tup [.str n.1,.int n.2,.int i]=rB (.ae ns) i:=by
    show _=Dt.tup [.str ((Rw.ae ns).names.getD i ""),.int (ns.getD i ("",0)).2,.int i];rw[getD_some hn,getD_some (show (Rw.ae ns).names[i]? = some n.1 by show (ns.map _)[i]? = _;rw[g_,hn];rfl)]
   rw[e,qm];exact eP _ _ ⟨rfl,_,rfl⟩
  ·rintro ρ M' ⟨rfl,o2,rfl⟩;rw[ah,p_];subst hN2;show N _ _;left;refine cR 1 (1) rfl ?_;left;subst hN
   first | refine sqo fun N hN=>?_ | (dsimp only;refine sqo fun N hN=>?_)
   unfold bC at hR;rw[show (Rw.ae ns).names.length=ns.length from a_ _] at hR;exact hR
 | table w ls =>
  have o:aD w ls:=o;have o1:=o.len;have o2:=o.DJ;left;refine cR 2 (1) rfl ?_;left;refine cR 2 (1) rfl ?_;left;refine dU rfl ?_;right;refine⟨_,rfl,?_⟩;and_intros;rw[a_];refine⟨⟨∅,∅⟩,?_⟩;refine aw (fun i ρ M'=>M'=M/\∃ o3 o4,ρ=[.sh (aF (.table w ls)),.ow (.lst ((Zo (i*w)).map (rB (.table w ls)))),.no,o3,o4]) ⟨rfl,_,_,by rw[Nat.zero_mul];rfl⟩ ?_ ?_
  ·rintro i x ρ M' N' hx ⟨rfl,o3,o4,rfl⟩ eP;obtain⟨hi,rfl⟩:=aE hx;rw[p_] at hi;rw[Zu];obtain⟨l,hl⟩:∃ l,ls[i]? = some l:=⟨_,b_ hi⟩;have hw:=o.jM l (y_ hl);and_intros
   first | refine sqo fun N3 bw=>?_ | (dsimp only;refine sqo fun N3 bw=>?_)
   and_intros;refine⟨_,rfl,?_⟩;and_intros;refine⟨⟨∅,∅⟩,?_⟩;refine aw (fun j ρ D4=>D4=M'/\∃ o4,ρ=[.sh (aF (.table w ls)),.ow (.lst ((Zo (i*w+j)).map (rB (.table w ls)))),.no,.sh (.int i),o4]) ⟨rfl,_,rfl⟩ ?_ ?_
   ·rintro j x ρ D4 Zh vR ⟨rfl,o4,rfl⟩ Uw;obtain⟨hj,rfl⟩:=aE vR;rw[p_] at hj;rw[Zu];have hp:0<w:=by lia
    have Zi:i*w<=12*12:=aa7 ∅ ∅;and_intros
    first | refine sqo fun N4 dY=>?_ | (dsimp only;refine sqo fun N4 dY=>?_)
    and_intros;refine⟨_,rfl,?_⟩;refine⟨aR l,aI (by rw[g_,hl];rfl),?_⟩;refine⟨_,K18.dC (zs:=l) ∅ ∅,sz (3),by rw[a_,K_];exact wX ∅,?_⟩;subst dY;have q1:(i*w+j) / w=i:=by rw[aeg,ac7 hp,ab9 hj,aca]
    have q2:(i*w+j) % w=j:=by rw[acV,ab_ hj]
    have e:Dt.tup [.str (atS l j),.int i,.int j]=rB (.table w ls) (i*w+j):=by
     have hg:l[j]? = some (l[j]'∅):=b_ _;have hn:(Rw.table w ls).names[i*w+j]? = some (l[j]'∅):=(cf hp o.jM).mpr ⟨l,by rw[q1];exact hl,by rw[q2];exact hg⟩;show _=Dt.tup [.str ((Rw.table w ls).names.getD (i*w+j) ""),.int (((i*w+j) / w:Nat):Int),.int (((i*w+j) % w:Nat):Int)];rw[getD_some hn,q1,q2,uA hg]
    rw[e,qm];exact Uw _ _ ⟨rfl,_,rfl⟩
   ·rintro ρ D4 ⟨rfl,o4,rfl⟩;rw[ah,p_];subst bw;exact eP _ _ ⟨rfl,_,_,by rw[adI,adJ]⟩
  ·rintro ρ M' ⟨rfl,o3,o4,rfl⟩;rw[ah,p_];subst hN2;show N _ _;left;subst hN
   first | refine sqo fun N hN=>?_ | (dsimp only;refine sqo fun N hN=>?_)
   unfold bC at hR;rw[show (Rw.table w ls).names.length=ls.length*w from fV o.jM] at hR;exact hR
def cS {r:Rw}{i:Nat}{k:Dt->Prop} (hi:i<r.names.length) (h:k (rB r i)):ly (.lst (bC r)) i k:=⟨rB r i,aI (by unfold bC;rw[g_,aad hi];rfl),h⟩
def w9 {r:Rw}{i:Nat}{k:Dt->Prop} (h:k (.str (r.names.getD i ""))):ly (rB r i) 0 k:=⟨_,rfl,h⟩
def rC {r:Rw}{i:Nat}{k:Dt->Prop} (h:k (.int (H9 r i))):ly (rB r i) 1 k:=⟨_,rfl,h⟩
def GH {r:Rw}{i:Nat}{k:Dt->Prop} (h:k (.int (Rj r i))):ly (rB r i) 2 k:=⟨_,rfl,h⟩
def uL {x y:Int}{Q:Bool->Prop}:we (.int x) (.int y) Q=Q (decide (x=y)):=rfl
def Bw {w i j:Nat} (hw:0<w):(i % w=j % w/\i / w<j / w)↔(i<j/\i % w=j % w):=by
 have e1:=aaQ i w;have e2:=aaQ j w;constructor
 ·rintro⟨h1,h2⟩;have:=Nat.mul_lt_mul_of_pos_left h2 hw;exact⟨∅,h1⟩
 ·rintro⟨h1,h2⟩;refine⟨h2,?_⟩;rcases aai (i / w) (j / w) with h | h
  ·exact h
  ·have:=ace w h
   lia
def yQ {w i j:Nat} (hw:0<w):(i / w=j / w/\i % w+1=j % w)↔(i<j/\j=i+1/\i / w=j / w):=by
 have e1:=aaQ i w;have e2:=aaQ j w;constructor
 ·rintro⟨h1,h2⟩;rw[<-h1] at e2;exact⟨∅,∅,h1⟩
 ·rintro⟨h1,h2,h3⟩;rw[<-h3] at e2;exact⟨h3,∅⟩
def Ia {w:Nat}{ls:List (List Str)}{i:Nat} (o:aD w ls) (hi:i<(Rw.table w ls).names.length):0<w:=w_pos o.jM (b_ hi)
def ia (p:bH):Prop:=∀ (r:Rw) (i j:Nat) M R,r.Ok->i<r.names.length->j<r.names.length->(∀ c:Bool,(c=true↔i<j/\r.under i j)->R (.bl c) M)->p [aF r,.lst (bC r),.int i,.int j] M R
def iE (p:bH):Prop:=∀ (r:Rw) (i j:Nat) M R,r.Ok->i<r.names.length->j<r.names.length->(∀ c:Bool,(c=true↔i<j/\r.aH i j)->R (.bl c) M)->p [aF r,.lst (bC r),.int i,.int j] M R
def lR {r:Rw}{i j:Nat} (o:r.Ok) (hi:i<r.names.length) (hj:j<r.names.length) (hR:∀ c:Bool,(c=true↔i<j/\r.under i j)->R (.bl c) M):Fn Z cM [.sh (aF r),.sh (.lst (bC r)),.sh (.int i),.sh (.int j),.no] M R:=by
 unfold cM
 cases r with
 | table w ls =>
  have hw:=Ia o hi;symm;refine dU rfl ?_;right;refine cS hi (GH (cS hj (GH ?_)));rw[uL];by_cases e:Rj (.table w ls) i=Rj (.table w ls) j
  ·refine bD (d_ e) (cS hi (rC (cS hj (rC (hR _ ?_)))));have e:((i % w:Nat):Int)=((j % w:Nat):Int):=e;rw[Zp];show ((i / w:Nat):Int)<((j / w:Nat):Int)↔i<j/\i % w=j % w;rw[<-Bw hw]
   lia
  ·refine br (7) (hR _ ⟨fun z=>(nomatch z),fun⟨_,h⟩=>absurd ?_ e⟩);show ((i % w:Nat):Int)=((j % w:Nat):Int);have h:i % w=j % w:=h
   lia
 | row zs =>
  symm;refine cR 0 (1) rfl ?_;left;refine dU rfl ?_
  first | refine sqo fun N2 hN2=>?_ | (dsimp only;refine sqo fun N2 hN2=>?_)
  exact hR false ⟨fun z=>(nomatch z),fun⟨_,h⟩=>h.elim⟩
 | ae ns =>
  have nl:(Rw.ae ns).names.length=ns.length:=a_ _;have HU:ns.length<=40:=o.2;symm;refine cR 1 (1) rfl ?_;left;refine DZ ?_;rw[show we (.str (rws (DY (.ae ns)))) (.str "row")=fun Q=>Q false from by funext Q;show Q (decide _)=Q false;rw[f_ (by show ¬ rws 1=_;decide +kernel)]];and_intros;by_cases e:(j:Int)<=i
  ·refine bD (d_ e) ?_
   first | refine sqo fun N2 hN2=>?_ | (dsimp only;refine sqo fun N2 hN2=>?_)
   exact hR false ⟨fun z=>(nomatch z),fun⟨h,_⟩=>by lia⟩
  refine br (7) ?_;left;refine⟨⟨∅,∅⟩,⟨∅,∅⟩,?_⟩;refine fb (T:=R (.bl false) M) (fun ρ=>∃ o4,ρ=[.sh (aF (.ae ns)),.sh (.lst (bC (.ae ns))),.sh (.int i),.sh (.int j),o4]) (fun k=>i+1+k<=j/\(ns.getD (i+1+k) ("",0)).2<=(ns.getD i ("",0)).2) ⟨_,rfl⟩ ?_ ?_ ?_
  ·rintro k x hx ρ N' ⟨o4,rfl⟩ hy hn;obtain⟨hk,rfl⟩:=aE hx;rw[show (i:Int)+1+(k:Int)=((i+1+k:Nat):Int) by lia];and_intros;right;refine cS ∅ (rC (cS hi (rC ?_)));show if decide ((ns.getD (i+1+k) ("",0)).2<=(ns.getD i ("",0)).2)=true then _ else _
   by_cases e1:(ns.getD (i+1+k) ("",0)).2<=(ns.getD i ("",0)).2
   ·refine bD (d_ e1) ?_
    first | refine sqo fun N3 bw=>?_ | (dsimp only;refine sqo fun N3 bw=>?_)
    exact hy ⟨∅,e1⟩
   ·refine br (by rw[f_ e1];decide) ?_;subst hN2;exact hn (fun h=>e1 h.2) _ ⟨_,rfl⟩
  ·rintro⟨k,h1,h2⟩;refine hR false ⟨fun z=>(nomatch z),fun⟨_,h⟩=>?_⟩;have:=h (i+1+k) ∅ h1
   lia
  ·rintro iw ρ ⟨o4,rfl⟩;subst hN
   first | refine sqo fun N hN=>?_ | (dsimp only;refine sqo fun N hN=>?_)
   refine hR true ⟨fun _=>⟨∅,fun k h1 h2=>?_⟩,fun _=>rfl⟩;rcases Int.lt_or_le (ns.getD i ("",0)).2 (ns.getD k ("",0)).2 with h | h
   ·exact h
   ·refine absurd ⟨k-(i+1),?_,∅,by rw[show i+1+(k-(i+1))=k by lia];exact h⟩ iw;rw[ah];lia
def jt {r:Rw}{i j:Nat} (o:r.Ok) (hi:i<r.names.length) (hj:j<r.names.length) (hR:∀ c:Bool,(c=true↔i<j/\r.aH i j)->R (.bl c) M):Fn Z bV [.sh (aF r),.sh (.lst (bC r)),.sh (.int i),.sh (.int j),.no] M R:=by
 unfold bV
 cases r with
 | table w ls =>
  have hw:=Ia o hi;symm;refine dU rfl ?_;right;refine cS hi (rC (cS hj (rC ?_)));rw[uL];have bt:=yQ (i:=i) (j:=j) hw;by_cases e:H9 (.table w ls) i=H9 (.table w ls) j
  ·refine bD (d_ e) (cS hi (GH ?_));and_intros;refine cS hj (GH (hR _ ?_));have e:((i / w:Nat):Int)=((j / w:Nat):Int):=e;rw[Zp];show ((i % w:Nat):Int)+1=((j % w:Nat):Int)↔i<j/\j=i+1/\i / w=j / w;rw[<-bt]
   lia
  ·refine br (7) (hR _ ⟨fun z=>(nomatch z),fun⟨_,_,h⟩=>absurd ?_ e⟩);show ((i / w:Nat):Int)=((j / w:Nat):Int)
   lia
 | row zs =>
  symm;refine cR 0 (1) rfl ?_;left;refine dU rfl ?_;right;refine hR _ ?_;rw[Zp];show (i:Int)+1=(j:Int)↔i<j/\j=i+1
  lia
 | ae ns =>
  have nl:(Rw.ae ns).names.length=ns.length:=a_ _;have HU:ns.length<=40:=o.2;symm;refine cR 1 (1) rfl ?_;left;refine cR 1 (1) rfl ?_;left;by_cases e:(j:Int)<=i
  ·refine bD (d_ e) ?_
   first | refine sqo fun N2 hN2=>?_ | (dsimp only;refine sqo fun N2 hN2=>?_)
   exact hR false ⟨fun z=>(nomatch z),fun⟨h,_⟩=>by lia⟩
  refine br (7) (cS hi (rC (cS hj (rC ?_))));rw[uL];by_cases e1:(ns.getD i ("",0)).2=(ns.getD j ("",0)).2
  ·refine br (by rw[show H9 (.ae ns) i=H9 (.ae ns) j from e1,d_ rfl];decide) ?_;left;refine⟨⟨∅,∅⟩,⟨∅,∅⟩,?_⟩;refine fb (T:=R (.bl false) M) (fun ρ=>∃ o4,ρ=[.sh (aF (.ae ns)),.sh (.lst (bC (.ae ns))),.sh (.int i),.sh (.int j),o4]) (fun k=>i+1+k<j/\(ns.getD (i+1+k) ("",0)).2<=(ns.getD i ("",0)).2) ⟨_,rfl⟩ ?_ ?_ ?_
   ·rintro k x hx ρ N' ⟨o4,rfl⟩ hy hn;obtain⟨hk,rfl⟩:=aE hx;rw[show (i:Int)+1+(k:Int)=((i+1+k:Nat):Int) by lia];and_intros;right;refine cS ∅ (rC (cS hi (rC ?_)));show if decide ((ns.getD (i+1+k) ("",0)).2<=(ns.getD i ("",0)).2)=true then _ else _
    by_cases e2:(ns.getD (i+1+k) ("",0)).2<=(ns.getD i ("",0)).2
    ·refine bD (d_ e2) ?_
     first | refine sqo fun N3 bw=>?_ | (dsimp only;refine sqo fun N3 bw=>?_)
     exact hy ⟨∅,e2⟩
    ·refine br (by rw[f_ e2];decide) ?_;subst hN2;exact hn (fun h=>e2 h.2) _ ⟨_,rfl⟩
   ·rintro⟨k,h1,h2⟩;refine hR false ⟨fun z=>(nomatch z),fun⟨_,_,h⟩=>?_⟩;have:=h (i+1+k) ∅ h1
    lia
   ·rintro iw ρ ⟨o4,rfl⟩;subst hN
    first | refine sqo fun N hN=>?_ | (dsimp only;refine sqo fun N hN=>?_)
    refine hR true ⟨fun _=>⟨∅,e1,fun k h1 h2=>?_⟩,fun _=>rfl⟩;rcases Int.lt_or_le (ns.getD i ("",0)).2 (ns.getD k ("",0)).2 with h | h
    ·exact h
    ·refine absurd ⟨k-(i+1),?_,∅,by rw[show i+1+(k-(i+1))=k by lia];exact h⟩ iw;rw[ah];lia
  ·refine bD (by rw[f_ (show ¬ H9 (.ae ns) i=H9 (.ae ns) j from e1)];decide) ?_
   first | refine sqo fun N2 hN2=>?_ | (dsimp only;refine sqo fun N2 hN2=>?_)
   exact hR false ⟨fun z=>(nomatch z),fun⟨_,h,_⟩=>absurd h e1⟩
noncomputable def bq (zs:List Str) (a:Str):List Nat:=(Zo zs.length).filter fun k=>decide (zs.getD k "" = a)
def aP {zs:List Str}{a:Str}{k:Nat}:k∈bq zs a↔zs[k]? = some a:=by
 unfold bq;rw[Z5,Zv,Zp];constructor
 ·rintro⟨h1,h2⟩;have hg:=b_ h1;rw[getD_some hg] at h2;rw[hg,h2]
 ·intro h;exact⟨(i_.mp h).1,getD_some h⟩
def nv {zs:List Str}{a:Str}:(bq zs a).Pairwise (·<·):=List.Pairwise.sublist aeZ aec
noncomputable def D5 (zs:List Str) (a:Str):Dt->m_ Dt:=Qh fun i=>decide (zs.getD i.toNat "" = a)
noncomputable def dN (k:Nat):Dt:=.int k
def xa {zs:List Str}{a:Str}:(bO 0 zs.length).filterMap (D5 zs a)=(bq zs a).map dN:=by
 unfold bO bq;generalize Zo zs.length=l
 induction l with
 | nil=>rfl
 | cons k l ih =>
  rw[r_,Zw,ih,Zz]
  have e:D5 zs a (.int (0+(k:Int)))=if decide (zs.getD k "" = a)=true then some (.int (0+(k:Int))) else none:=by
   show (if decide (zs.getD (0+(k:Int)).toNat "" = a)=true then _ else _)=_;rw[Zu,p_]
  rw[e];by_cases h:decide (zs.getD k "" = a)=true
  ·rw[z_ h,z_ h,r_];show Dt.int (0+(k:Int))::_=dN k::_;rw[Zu];rfl
  ·rw[s_ h,s_ h]
def cC {r:Rw} (o:r.Ok):r.names.length<=144:=by
 cases r with
 | row zs=>have:=o.2;show zs.length<=144;lia
 | ae ns=>have:=o.2;show (ns.map _).length<=144;rw[a_];lia
 | table w ls =>
  have o:aD w ls:=o;show ls.flatten.length<=144;rw[fV o.jM];exact aa7 (n₁:=ls.length) (m₁:=w) (n₂:=12) (m₂:=12) o.len o.DJ
noncomputable def qo:Flt->m_ (Str×Str)
 | .before a b=>some (a,b) | .under a b=>some (a,b) | .aH a b=>some (a,b) | _=>none
def Qi {f:Flt}{a b:Str}{k:Dt->Prop} (e:qo f=some (a,b)) (h:k (.str a)):ly (aj f) 1 k:=by
 cases f<;>first | (cases e;done) | (cases e;unfold aj;exact⟨_,rfl,h⟩)
def Qj {f:Flt}{a b:Str}{k:Dt->Prop} (e:qo f=some (a,b)) (h:k (.str b)):ly (aj f) 2 k:=by
 cases f<;>first | (cases e;done) | (cases e;unfold aj;exact⟨_,rfl,h⟩)
def kG (p:bH):Prop:=∀ (f:Flt) (a b:Str) (r:Rw) M R,qo f=some (a,b)->r.Ok->(∀ c:Bool,(c=true↔f.holds r)->R (.bl c) M)->p [aj f,aF r] M R
def nL (Ib:cB (Z.fn 23)) (Ux:ia (Z.fn 24)) (Yj:iE (Z.fn 25)) {f:Flt}{a b:Str}{r:Rw} (e:qo f=some (a,b)) (o:r.Ok) (hR:∀ c:Bool,(c=true↔f.holds r)->R (.bl c) M):Fn Z dO [.sh (aj f),.sh (aF r),.no,.no,.no,.no,.no] M R:=by
 unfold dO;have Lu:=cC o;have sl:(bC r).length=r.names.length:=by unfold bC;rw[a_,K_]
 symm;refine Ib r _ _ o ?_;left;rw[sl]
 have test:∀ (m:Str) (x:Dt),x∈bO 0 r.names.length->∀ K:m_ Dt->Mem->Prop,K (D5 r.names m x) M->∃ i:Nat,x=.int i/\i<r.names.length/\(if decide (r.names.getD i "" = m)=true then K (some (.int i)) M else K none M):=fun m x hx K hK=>by
  obtain⟨i,Yk⟩:=Y_.mp hx;obtain⟨hi,rfl⟩:=aE Yk;rw[Zu] at hK ⊢;refine⟨i,rfl,hi,?_⟩;have hK:K (if decide (r.names.getD ((i:Int)).toNat "" = m)=true then some (.int i) else none) M:=hK;rw[p_] at hK;by_cases h:decide (r.names.getD i "" = m)=true
  ·rw[z_ h] at hK ⊢;exact hK
  ·rw[s_ h] at hK ⊢;exact hK
 refine⟨⟨∅,∅⟩,by rw[ah];exact sz ∅,?_⟩;rw[p_];refine bz (D5 r.names a) (4) ?_
 ·obtain⟨i,rfl,hi,ht⟩:=test a x hx K hK;and_intros;exact cS hi (w9 (Qi e ht))
 rw[xa];left;rw[sl];refine⟨⟨∅,∅⟩,by rw[ah];exact sz ∅,?_⟩;rw[p_];refine bz (D5 r.names b) (4) ?_
 ·obtain⟨i,rfl,hi,ht⟩:=test b x hx K hK;and_intros;exact cS hi (w9 (Qj e ht))
 rw[xa];left
 cases f with
 | before a' b' =>
  cases e
  refine cQ rfl ?_;right;rw[a_,a_]
  have V4:¬ (∃ i j:Nat,i∈bq r.names a/\j∈bq r.names b/\i<j)->R (.bl false) M:=fun h=>hR false ⟨fun z=>(nomatch z),fun q=>absurd (show ∃ i j:Nat,i∈bq r.names a/\j∈bq r.names b/\i<j by
   unfold Flt.holds at q;obtain⟨i,j,h1,h2,h3,_⟩:=q;exact⟨i,j,aP.mpr h2,aP.mpr h3,h1⟩) h⟩
  have sa:=nv (zs:=r.names) (a:=a);have sb:=nv (zs:=r.names) (a:=b)
  cases ea:bq r.names a with
  | nil =>
   refine br (3) (V4 ?_);rintro⟨i,j,h1,_⟩;rw[ea] at h1;cases h1
  | cons i0 O =>
   refine bD (3) ?_;rcases List.eq_nil_or_concat (bq r.names b) with eb | ⟨P,j1,eb⟩
   ·rw[eb];refine br (3) (V4 ?_);rintro⟨i,j,_,h2,_⟩;rw[eb] at h2;cases h2
   ·rw[List.concat_eq_append] at eb;rw[eb];refine bD (3) ?_;refine⟨dN i0,aI (j:=0) rfl,dN j1,by rw[F_];exact kW _ _,?_⟩;refine hR _ ?_;rw[Zp];unfold Flt.holds;rw[ea] at sa;rw[eb] at sb;constructor
    ·intro h;exact⟨i0,j1,∅,aP.mp (by rw[ea];simp),aP.mp (by rw[eb];simp),Z3⟩
    ·rintro⟨i,j,h1,h2,h3,_⟩;have h2:=aP.mpr h2;have h3:=aP.mpr h3;rw[ea] at h2;rw[eb] at h3
     have q1:i0<=i:=by
      rcases C_.mp h2 with rfl | h
      ·exact t_ _
      ·exact Z8 ((acs.mp sa).1 i h)
     have q2:j<=j1:=by
      rcases U_.mp h3 with h | h
      ·exact Z8 ((aeO.mp sb).2.2 j h j1 (3))
      ·rw[D_.mp h];exact t_ _
     lia
 | under a' b' =>
  cases e
  refine aJ 3 (1) rfl ?_;left;refine cw (T:=R (.bl true) M) (fun ρ=>∃ o5 o6,ρ=[.sh (aj (.under a b)),.sh (aF r),.sh (.lst (bC r)),.sh (.lst ((bq r.names a).map dN)),.sh (.lst ((bq r.names b).map dN)),o5,o6]) (fun x=>∃ i j:Nat,x=dN i/\j∈bq r.names b/\i<j/\r.under i j) ⟨_,_,rfl⟩ ?_ ?_ ?_
  ·rintro x hx ρ N' ⟨o5,o6,rfl⟩ hy hn;obtain⟨i,hi,rfl⟩:=n_.mp hx;have Nk:=(i_.mp (aP.mp hi)).1;and_intros;right;refine cw (T:=R (.bl true) M) (fun ρ=>∃ o6,ρ=[.sh (aj (.under a b)),.sh (aF r),.sh (.lst (bC r)),.sh (.lst ((bq r.names a).map dN)),.sh (.lst ((bq r.names b).map dN)),.sh (dN i),o6]) (fun x=>∃ j:Nat,x=dN j/\j∈bq r.names b/\i<j/\r.under i j) ⟨_,rfl⟩ ?_ ?_ ?_
   ·rintro x hx ρ N3 ⟨o6,rfl⟩ Uy Ey;obtain⟨j,hj,rfl⟩:=n_.mp hx;have Uz:=(i_.mp (aP.mp hj)).1
    have go:¬ (i<j/\r.under i j)->N3 ([.sh (aj (.under a b)),.sh (aF r),.sh (.lst (bC r)),.sh (.lst ((bq r.names a).map dN)),.sh (.lst ((bq r.names b).map dN)),.sh (dN i),.sh (dN j)]) M:=fun h=>by
     refine Ey ?_ _ ⟨_,rfl⟩;rintro⟨j',e',_,h1,h2⟩;have:j=j':=by injection e' with e';lia
     subst this;exact h ⟨h1,h2⟩
    unfold dN at go ⊢;and_intros
    first | refine sqo fun N4 dY=>?_ | (dsimp only;refine sqo fun N4 dY=>?_)
    and_intros
    have cont:¬ (i<j/\r.under i j)->N4 ([.sh (aj (.under a b)),.sh (aF r),.sh (.lst (bC r)),.sh (.lst ((bq r.names a).map dN)),.sh (.lst ((bq r.names b).map dN)),.sh (.int i),.sh (.int j)]) M:=fun h=>by
     subst dY
     first | refine sqo fun N5 Ic=>?_ | (dsimp only;refine sqo fun N5 Ic=>?_)
     and_intros;refine aJ 3 (1) rfl ?_;subst Ic;exact go h
    refine cQ rfl ?_;by_cases h:(i:Int)=(j:Int)
    ·refine br (by rw[d_ h];decide) ?_;exact cont fun z=>by lia
    ·refine bD (by rw[f_ h];decide) ?_;refine Ux r i j _ _ o Nk Uz fun c hc=>?_
     cases c with
     | true =>
      and_intros
      first | refine sqo fun N6 UA=>?_ | (dsimp only;refine sqo fun N6 UA=>?_)
      exact Uy ⟨j,rfl,hj,hc.mp rfl⟩
     | false =>
      and_intros;exact cont fun z=>nomatch (hc.mpr z)
   ·rintro⟨x,hx,j,rfl,h0,h1,h2⟩;exact hy ⟨i,j,rfl,h0,h1,h2⟩
   ·rintro iw ρ ⟨o6,rfl⟩;subst hN2;refine hn ?_ _ ⟨_,_,rfl⟩;rintro⟨i',j,e',h0,h1,h2⟩;have:i=i':=by injection e' with e';lia
    subst this;exact iw ⟨dN j,n_.mpr ⟨j,h0,rfl⟩,j,rfl,h0,h1,h2⟩
  ·rintro⟨x,hx,i,j,rfl,h0,h1,h2⟩;obtain⟨i',AV,e'⟩:=n_.mp hx;have:i'=i:=by injection e' with e';lia
   subst this;refine hR true ⟨fun _=>?_,fun _=>rfl⟩;unfold Flt.holds;exact⟨i',j,h1,aP.mp AV,aP.mp h0,h2⟩
  ·rintro iw ρ ⟨o5,o6,rfl⟩;subst hN
   first | refine sqo fun N hN=>?_ | (dsimp only;refine sqo fun N hN=>?_)
   refine hR false ⟨fun z=>(nomatch z),fun q=>?_⟩;unfold Flt.holds at q;obtain⟨i,j,h1,h2,h3,h4⟩:=q;exact absurd ⟨dN i,n_.mpr ⟨i,aP.mpr h2,rfl⟩,i,j,rfl,aP.mpr h3,h1,h4⟩ iw
 | aH a' b' =>
  cases e
  refine aJ 4 (1) rfl ?_;left;refine cw (T:=R (.bl true) M) (fun ρ=>∃ o5 o6,ρ=[.sh (aj (.aH a b)),.sh (aF r),.sh (.lst (bC r)),.sh (.lst ((bq r.names a).map dN)),.sh (.lst ((bq r.names b).map dN)),o5,o6]) (fun x=>∃ i j:Nat,x=dN i/\j∈bq r.names b/\i<j/\r.aH i j) ⟨_,_,rfl⟩ ?_ ?_ ?_
  ·rintro x hx ρ N' ⟨o5,o6,rfl⟩ hy hn;obtain⟨i,hi,rfl⟩:=n_.mp hx;have Nk:=(i_.mp (aP.mp hi)).1;and_intros;right;refine cw (T:=R (.bl true) M) (fun ρ=>∃ o6,ρ=[.sh (aj (.aH a b)),.sh (aF r),.sh (.lst (bC r)),.sh (.lst ((bq r.names a).map dN)),.sh (.lst ((bq r.names b).map dN)),.sh (dN i),o6]) (fun x=>∃ j:Nat,x=dN j/\j∈bq r.names b/\i<j/\r.aH i j) ⟨_,rfl⟩ ?_ ?_ ?_
   ·rintro x hx ρ N3 ⟨o6,rfl⟩ Uy Ey;obtain⟨j,hj,rfl⟩:=n_.mp hx;have Uz:=(i_.mp (aP.mp hj)).1
    have go:¬ (i<j/\r.aH i j)->N3 ([.sh (aj (.aH a b)),.sh (aF r),.sh (.lst (bC r)),.sh (.lst ((bq r.names a).map dN)),.sh (.lst ((bq r.names b).map dN)),.sh (dN i),.sh (dN j)]) M:=fun h=>by
     refine Ey ?_ _ ⟨_,rfl⟩;rintro⟨j',e',_,h1,h2⟩;have:j=j':=by injection e' with e';lia
     subst this;exact h ⟨h1,h2⟩
    unfold dN at go ⊢;and_intros
    first | refine sqo fun N4 dY=>?_ | (dsimp only;refine sqo fun N4 dY=>?_)
    and_intros;refine aJ 4 (1) rfl ?_;subst dY
    first | refine sqo fun N4 dY=>?_ | (dsimp only;refine sqo fun N4 dY=>?_)
    and_intros;refine cQ rfl ?_;by_cases h:(i:Int)=(j:Int)
    ·refine br (by rw[d_ h];decide) ?_;subst dY;exact go fun z=>by lia
    ·refine bD (by rw[f_ h];decide) ?_;refine Yj r i j _ _ o Nk Uz fun c hc=>?_
     cases c with
     | true =>
      and_intros
      first | refine sqo fun N6 UA=>?_ | (dsimp only;refine sqo fun N6 UA=>?_)
      exact Uy ⟨j,rfl,hj,hc.mp rfl⟩
     | false =>
      and_intros;subst dY;exact go fun z=>nomatch (hc.mpr z)
   ·rintro⟨x,hx,j,rfl,h0,h1,h2⟩;exact hy ⟨i,j,rfl,h0,h1,h2⟩
   ·rintro iw ρ ⟨o6,rfl⟩;subst hN2;refine hn ?_ _ ⟨_,_,rfl⟩;rintro⟨i',j,e',h0,h1,h2⟩;have:i=i':=by injection e' with e';lia
    subst this;exact iw ⟨dN j,n_.mpr ⟨j,h0,rfl⟩,j,rfl,h0,h1,h2⟩
  ·rintro⟨x,hx,i,j,rfl,h0,h1,h2⟩;obtain⟨i',AV,e'⟩:=n_.mp hx;have:i'=i:=by injection e' with e';lia
   subst this;refine hR true ⟨fun _=>?_,fun _=>rfl⟩;unfold Flt.holds;exact⟨i',j,h1,aP.mp AV,aP.mp h0,h2⟩
  ·rintro iw ρ ⟨o5,o6,rfl⟩;subst hN
   first | refine sqo fun N hN=>?_ | (dsimp only;refine sqo fun N hN=>?_)
   refine hR false ⟨fun z=>(nomatch z),fun q=>?_⟩;unfold Flt.holds at q;obtain⟨i,j,h1,h2,h3,h4⟩:=q;exact absurd ⟨dN i,n_.mpr ⟨i,aP.mpr h2,rfl⟩,i,j,rfl,aP.mpr h3,h1,h4⟩ iw
 | _=>cases e
def fe (n:Nat) (p:bH):Prop:=∀ (f:Flt) (r:Rw) M R,f.Ok->r.Ok->f.dep<=n->(∀ c:Bool,(c=true↔f.holds r)->R (.bl c) M)->p [aj f,aF r] M R
noncomputable def Qk:Dt->Dt | .tup (d::_)=>d | _=>.az
def D6 {r:Rw}:(bC r).map Qk=r.names.map .str:=by
 unfold bC;rw[G_];show (Zo r.names.length).map (fun k=>Dt.str (r.names.getD k ""))=_;rw[show (fun k=>Dt.str (r.names.getD k ""))=Dt.str ∘ fun k=>r.names.getD k "" from rfl,<-G_,range_getD]
noncomputable def xb (m:Str):Dt->m_ Dt
 | .tup [.str z,x,y]=>if z=m then some (.tup [.str z,x,y]) else none
 | _=>none
def sV {m:Str}{r:Rw}:((bC r).filterMap (xb m)).length=r.names.count m:=by
 have h:∀ l:List Nat,((l.map (rB r)).filterMap (xb m)).length=(l.map fun k=>r.names.getD k "").count m:=fun l=>by
  induction l with
  | nil=>rfl
  | cons k l ih =>
   rw[r_,Zw,r_,List.count_cons];have e:xb m (rB r k)=if r.names.getD k "" = m then some (rB r k) else none:=rfl
   rw[e];by_cases h:r.names.getD k "" = m
   ·rw[z_ h,x_,ih,z_ (by simpa using h)]
   ·rw[s_ h,ih,s_ (by simpa using h),aca]
 have:=h (Zo r.names.length);rw[range_getD] at this;exact this
theorem ib {g:Dt->Mem->(Dt->Mem->Prop)->Prop}{P:Flt->Prop}{K:List Dt->Mem->Prop} (sg:Bool):∀ (fs:List Flt),(∀ f∈fs,∀ k:Dt->Mem->Prop,(∀ c:Bool,(c=true↔P f)->k (.bl c) M)->g (aj f) M k)->(∀ ds:List Dt,ds.length<=fs.length->(ds=[]↔¬ ∃ f∈fs,(sg=true↔P f))->K ds M) ->
  eE (fun x M K=>g x M fun d M2=>cy d fun c=>if (if sg=true then c else !c)=true then K (some x) M2 else K none M2) (fs.map aj) M K
 | [],_,h=>h [] (t_ _) (Iff.intro (fun _ q=>by obtain⟨_,q1,_⟩:=q;cases q1) fun _=>rfl)
 | f::fs,hg,h=>by
  refine hg f (3) _ fun c hc=>?_
  show if (if sg=true then c else !c)=true then _ else _
  by_cases e:(if sg=true then c else !c)=true
  ·refine bD e ?_;refine ib sg fs (fun f' Ls=>hg f' (by simp [Ls])) fun ds hl hd=>h (aj f::ds) (by simp;lia) ⟨fun z=>(nomatch z),fun z=>absurd ⟨f,(3),?_⟩ z⟩
   rw[<-hc]
   cases sg<;>cases c<;>simp_all
  ·refine br e ?_;refine ib sg fs (fun f' Ls=>hg f' (by simp [Ls])) fun ds hl hd=>h ds (by simp;lia) (hd.trans ?_)
   have iw:¬ (sg=true↔P f):=by
    rw[<-hc]
    cases sg<;>cases c<;>simp_all
   constructor
   ·rintro z ⟨f',h1,h2⟩;rcases C_.mp h1 with rfl | h1
    ·exact iw h2
    ·exact z ⟨f',h1,h2⟩
   ·rintro z ⟨f',h1,h2⟩;exact z ⟨f',by simp [h1],h2⟩
def uM {n:Nat} (Ib:cB (Z.fn 23)) (Yl:kG (Z.fn 26)) (Ie:fe n (Z.fn 27)) {f:Flt}{r:Rw} (of:f.Ok) (o:r.Ok) (hd:f.dep<=n+1) (hR:∀ c:Bool,(c=true↔f.holds r)->R (.bl c) M):Fn Z cN [.sh (aj f),.sh (aF r)] M R:=by
 unfold cN;have Lu:=cC o;have sl:(bC r).length=r.names.length:=by unfold bC;rw[a_,K_]
 have pairs:∀ a b,qo f=some (a,b)->tag f≠0->tag f≠1->tag f<5->Fn Z cN [.sh (aj f),.sh (aF r)] M R:=fun a b e t0 t1 t5=>by
  unfold cN
  have no:∀ (t:Nat) (w:Str) (A B:Prop),Uu t=w->tag f≠t->t<8->B->ly (aj f) 0 fun x=>we x (.str w) fun c=>if c=true then A else B:=fun t w A B ew ht t8 hB=>by
   refine aJ (tag f) ?_ rfl hB;rw[<-ew];have Ym:=t5;revert t0 t1 ht;generalize tag f=u at Ym;intro t0 t1 ht;have hu:u=2∨u=3∨u=4:=by lia
   have Sr:t=0∨t=1∨t=2∨t=3∨t=4∨t=5∨t=6∨t=7:=by lia
   rcases hu with rfl | rfl | rfl<;>rcases Sr with rfl | rfl | rfl | rfl | rfl | rfl | rfl | rfl<;>first | exact absurd rfl ht | decide +kernel
  symm;refine no 0 _ _ _ rfl t0 ∅ ?_;left;refine no 1 _ _ _ rfl t1 ∅ ?_;left;refine no 5 _ _ _ rfl ∅ ∅ ?_;left;refine no 6 _ _ _ rfl ∅ ∅ ?_;left;refine no 7 _ _ _ rfl ∅ ∅ ?_;left;exact Yl f a b r _ _ e o hR
 cases f with
 | before a b=>exact pairs a b rfl (by simp [tag]) (by simp [tag]) (by simp [tag])
 | under a b=>exact pairs a b rfl (by simp [tag]) (by simp [tag]) (by simp [tag])
 | aH a b=>exact pairs a b rfl (by simp [tag]) (by simp [tag]) (by simp [tag])
 | has m =>
  symm;refine cQ rfl ?_
  first | refine sqo fun N2 hN2=>?_ | (dsimp only;refine sqo fun N2 hN2=>?_)
  unfold aj;and_intros;refine⟨_,rfl,Ib r _ _ o ?_⟩;and_intros;refine⟨by rw[sl];exact sz ∅,comp_map Qk (4) ?_⟩
  ·obtain⟨k,hk,rfl⟩:=n_.mp hx;exact w9 hK
  ·rw[D6];refine wH (hR _ ?_);rw[Zp];unfold Flt.holds;exact afm.symm
 | many k m =>
  symm;refine aJ 1 (1) rfl ?_;left;refine cQ rfl ?_
  first | refine sqo fun N2 hN2=>?_ | (dsimp only;refine sqo fun N2 hN2=>?_)
  unfold aj;and_intros;refine Ib r _ _ o ?_;and_intros;refine⟨by rw[sl];exact sz ∅,bz (xb m) (4) ?_⟩
  ·obtain⟨k',hk,rfl⟩:=n_.mp hx;refine w9 ⟨_,rfl,?_⟩;have hK:K (if r.names.getD k' "" = m then some (rB r k') else none) M:=hK;show if decide (r.names.getD k' "" = m)=true then _ else _
   by_cases h:r.names.getD k' "" = m
   ·rw[z_ h] at hK;exact bD (d_ h) hK
   ·rw[s_ h] at hK;exact br (by rw[f_ h];decide) hK
  ·and_intros;rw[sV];refine⟨_,rfl,hR _ ?_⟩;rw[Zp];unfold Flt.holds;exact agN
 | not g =>
  symm;refine aJ 5 (1) rfl ?_;left;refine aJ 5 (1) rfl ?_;left;refine cQ rfl ?_
  first | refine sqo fun N2 hN2=>?_ | (dsimp only;refine sqo fun N2 hN2=>?_)
  unfold aj;and_intros;refine⟨_,rfl,Ie g r _ _ of o (by unfold Flt.dep at hd;lia) fun c hc=>hR (!c) ?_⟩;unfold Flt.holds;rw[<-hc]
  cases c<;>simp
 | all fs =>
  symm;refine aJ 6 (1) rfl ?_;left;refine aJ 6 (1) rfl ?_;left;refine aJ 6 (1) rfl ?_;left;refine cQ rfl ?_
  first | refine sqo fun N2 hN2=>?_ | (dsimp only;refine sqo fun N2 hN2=>?_)
  unfold aj;rw[di];and_intros;refine⟨_,rfl,?_⟩;and_intros;refine⟨by rw[a_];exact sz (by have:=of.1;lia),?_⟩;refine ib (P:=fun f=>f.holds r) (g:=fun x M k=>Z.fn 27 [x,aF r] M k) false fs (fun f hf k hk=>Ie f r _ _ (d9.mp of.2 f hf) o (by have:=hW f hf;unfold Flt.dep at hd;lia) hk) fun ds hl he=>?_
  and_intros;refine hR _ ?_;rw[Zp];unfold Flt.holds;rw[hU,show ((ds.length:Int)=0↔ds=[]) from by rw[<-ad0];lia,he];constructor
  ·intro h f hf;exact adv fun q=>h ⟨f,hf,⟨fun z=>(nomatch z),fun z=>absurd z q⟩⟩
  ·rintro h ⟨f,hf,q⟩;exact nomatch (q.mpr (h f hf))
 | any fs =>
  symm;refine aJ 7 (1) rfl ?_;left;refine aJ 7 (1) rfl ?_;left;refine aJ 7 (1) rfl ?_;left;refine aJ 7 (1) rfl ?_;left;refine cQ rfl ?_
  first | refine sqo fun N2 hN2=>?_ | (dsimp only;refine sqo fun N2 hN2=>?_)
  unfold aj;rw[di];and_intros;refine⟨_,rfl,?_⟩;and_intros;refine⟨by rw[a_];exact sz (by have:=of.1;lia),?_⟩;refine ib (P:=fun f=>f.holds r) (g:=fun x M k=>Z.fn 27 [x,aF r] M k) true fs (fun f hf k hk=>Ie f r _ _ (d9.mp of.2 f hf) o (by have:=hW f hf;unfold Flt.dep at hd;lia) hk) fun ds hl he=>?_
  and_intros;refine hR _ ?_;rw[Zp];unfold Flt.holds;rw[hV,show ((0:Int)<(ds.length:Int)↔¬ ds=[]) from by rw[<-ad0];lia,he];constructor
  ·intro h;obtain⟨f,hf,q⟩:=Classical.not_not.mp h;exact⟨f,hf,q.mp rfl⟩
  ·rintro⟨f,hf,q⟩ h;exact h ⟨f,hf,⟨fun _=>q,fun _=>rfl⟩⟩
def z6 (p:bH) (ds:List Dt) (n:Nat):Prop:=∀ M R,(∀ f:Flt,f.Ok->f.dep<=n->R (aj f) M)->p ds M R
def dz {w:Str}{d:Dt}{f:Flt}{Q:Dt->Prop} (e:aj f=.tup [.str w,d]) (h:Q (aj f)):([Dt.str w,d]:List Dt).length<=sizeLine/\Q (.tup [.str w,d]):=⟨sz (3),by rw[<-e];exact h⟩
def eS {w:Str}{d d':Dt}{f:Flt}{Q:Dt->Prop} (e:aj f=.tup [.str w,d,d']) (h:Q (aj f)):([Dt.str w,d,d']:List Dt).length<=sizeLine/\Q (.tup [.str w,d,d']):=⟨sz (3),by rw[<-e];exact h⟩
def xc (p:bH):Prop:=∀ (c:Int) (zs:List Str) (g:Bool),gi zs->z6 p [.int c,.lst '1',.bl g] 2
def rD {c:Int}{zs:List Str}{g:Bool} (hz:gi zs) (hR:∀ f:Flt,f.Ok->f.dep<=2->R (aj f) M):Fn Z fO [.sh (.int c),.sh (.lst '1'),.sh (.bl g),.no,.no,.no] M R:=by
 unfold fO;obtain⟨z4,Ri,hz⟩:=hz
 have pick:∀ q:Int,∃ m:Str,ax m=true/\n6 (zs.map Dt.str) (q % ((zs.length:Nat):Int))=some (.str m):=fun q=>by
  obtain⟨n,e,hn⟩:=aU q (show (0:Int)<(zs.length:Nat) by lia);rw[e];exact⟨atS zs n,hz _ (getD_mem ∅),K18.dC ∅ ∅⟩
 symm;rw[a_];obtain⟨a,ha,ea⟩:=pick (c / 16);refine⟨⟨(2),(2)⟩,∅,_,ea,?_⟩;left;rw[a_];obtain⟨b,hb,eb⟩:=pick (c / 64);refine⟨⟨(2),(2)⟩,∅,_,eb,?_⟩;left;refine⟨(2),?_⟩;generalize c % 8=w;left
 have Ig:N [.sh (.int c),.sh (.lst '1'),.sh (.bl g),.sh (.str a),.sh (.str b),.sh (.int w)] M:=by
  rw[hN]
  first | refine sqo fun N hN=>?_ | (dsimp only;refine sqo fun N hN=>?_)
  have xf:N [.sh (.int c),.sh (.lst '1'),.sh (.bl g),.sh (.str a),.sh (.str b),.sh (.int w)] M:=by
   rw[hN];symm;refine⟨(2),?_⟩;by_cases e0:w % 4=0
   ·refine bD (d_ e0) ?_
    first | refine sqo fun N2 hN2=>?_ | (dsimp only;refine sqo fun N2 hN2=>?_)
    exact dz (f:=.has a) (Q:=fun d=>R d M) (by unfold aj;rfl) (hR _ (by unfold Flt.Ok;exact ha) (by unfold Flt.dep;lia))
   refine br (by rw[f_ e0];decide) ?_;left;refine⟨(2),?_⟩;by_cases e1:w % 4=1
   ·refine bD (d_ e1) ?_;right;refine⟨⟨(2),(2)⟩,(2),?_⟩;exact eS (f:=.many (1+c / 8 % 6) a) (Q:=fun d=>R d M) (by unfold aj;rfl) (hR _ (by unfold Flt.Ok;exact ha) (by unfold Flt.dep;lia))
   refine br (by rw[f_ e1];decide) ?_;left;refine⟨(2),?_⟩;by_cases e2:w % 4=2
   ·refine bD (d_ e2) ?_
    first | refine sqo fun N2 hN2=>?_ | (dsimp only;refine sqo fun N2 hN2=>?_)
    exact eS (f:=.before a b) (Q:=fun d=>R d M) (by unfold aj;rfl) (hR _ (by unfold Flt.Ok;exact⟨ha,hb⟩) (by unfold Flt.dep;lia))
   refine br (by rw[f_ e2];decide) ?_;subst hN
   first | refine sqo fun N hN=>?_ | (dsimp only;refine sqo fun N hN=>?_)
   exact eS (f:=.under a b) (Q:=fun d=>R d M) (by unfold aj;rfl) (hR _ (by unfold Flt.Ok;exact⟨ha,hb⟩) (by unfold Flt.dep;lia))
  and_intros;by_cases e7:w=7
  ·refine bD (d_ e7) ?_
   cases g with
   | true=>exact xf
   | false =>
    and_intros;right;refine⟨⟨(2),(2)⟩,(2),sz (3),?_⟩;exact dz (f:=.not (.many (1+c / 8 % 3) a)) (Q:=fun d=>R d M) (by unfold aj;unfold aj;rfl) (hR _ (by unfold Flt.Ok;unfold Flt.Ok;exact ha) (by unfold Flt.dep;unfold Flt.dep;lia))
  ·refine br (by rw[f_ e7];decide) xf
 by_cases e6:w=6
 ·refine bD (d_ e6) ?_
  cases g with
  | true=>exact Ig
  | false =>
   and_intros
   first | refine sqo fun N2 hN2=>?_ | (dsimp only;refine sqo fun N2 hN2=>?_)
   exact eS (f:=.aH a b) (Q:=fun d=>R d M) (by unfold aj;rfl) (hR _ (by unfold Flt.Ok;exact⟨ha,hb⟩) (by unfold Flt.dep;lia))
 ·refine br (by rw[f_ e6];decide) Ig
noncomputable def Ql:List Str:=["whole","fault","most","answers","questions"]
noncomputable def dk (r:Rw) (f:Flt) (w:Int) (a b:Addr):Dt:=.obj 4 Ql [bf r,bu f,.int w,.j3 a,.j3 b]
def EK (g:GB Z) {f:Str} (h:VX 4 f=true):Z.at_ 4 f=true:=by rw[g.at_];exact h
def V5 (g:GB Z) {r:Rw}{f:Flt}{w:Int}{a b:Addr}{k:Dt->Prop} (h:k (bf r)):fq Z "whole" (dk r f w a b) k:=⟨EK g (1),_,zY,h⟩
def Yn (g:GB Z) {r:Rw}{f:Flt}{w:Int}{a b:Addr}{k:Dt->Prop} (h:k (bu f)):fq Z "fault" (dk r f w a b) k:=⟨EK g (1),_,(yD (1)).trans zY,h⟩
def Yo (g:GB Z) {r:Rw}{f:Flt}{w:Int}{a b:Addr}{k:Dt->Prop} (h:k (.int w)):fq Z "most" (dk r f w a b) k:=⟨EK g (1),_,(yD (1)).trans ((yD (1)).trans zY),h⟩
def UB (g:GB Z) {r:Rw}{f:Flt}{w:Int}{a b:Addr}{k:Dt->Prop} (h:k (.j3 a)):fq Z "answers" (dk r f w a b) k:=⟨EK g (1),_,(yD (1)).trans ((yD (1)).trans ((yD (1)).trans zY)),h⟩
def UC (g:GB Z) {r:Rw}{f:Flt}{w:Int}{a b:Addr}{k:Dt->Prop} (h:k (.j3 b)):fq Z "questions" (dk r f w a b) k:=⟨EK g (1),_,(yD (1)).trans ((yD (1)).trans ((yD (1)).trans ((yD (1)).trans zY))),h⟩
def z7 (p:EJ):Prop:=∀ (r:Rw) (f:Flt) (w:Int) M k,(∀ a b:Addr,M a=none->M b=none->a≠b->k (dk r f w a b) (cD (cD M a (.md [])) b (.ml [])))->p (.obj 4 [] []) [bf r,bu f,.int w] M k
def rE {f g:Str}{d e:Dt}{fs:List Str}{ds:List Dt} (h:¬ g=f):putD f d (g::fs) (e::ds)=(g::(putD f d fs ds).1,e::(putD f d fs ds).2):=by
 show (if g=f then _ else _)=_;rw[s_ h]
def uN (g:GB Z) {r:Rw}{f:Flt}{w:Int}{k:Dt->Mem->Prop} (h:∀ a b:Addr,M a=none->M b=none->a≠b->k (dk r f w a b) (cD (cD M a (.md [])) b (.ml []))):In Z gX [.ow (.obj 4 [] []),.sh (bf r),.sh (bu f),.sh (.int w)] M 4 k:=by
 unfold gX;symm;rw[putN];refine⟨EK g (1),(3),?_⟩;left;rw[rE (1),putN];refine⟨EK g (1),(3),?_⟩;left;rw[rE (1),rE (1),putN];refine⟨EK g (1),(3),?_⟩;left;intro a ha;rw[rE (1),rE (1),rE (1),putN];refine⟨EK g (1),(3),?_⟩;left;refine⟨sz (3),fun b hb=>?_⟩;rw[rE (1),rE (1),rE (1),rE (1),putN];refine⟨EK g (1),(3),?_⟩;subst hN;have ED:a≠b:=fun z=>by subst z;unfold cD at hb;rw[z_ rfl] at hb;cases hb
 have LO:M b=none:=by unfold cD at hb;rw[s_ (ZM ED)] at hb;exact hb
 exact⟨rfl,h a b ha LO ED⟩
def z8 (p:bH):Prop:=∀ (r:Rw) (f:Flt) (w:Int) (a b:Addr) (qs:List Dt) M R,M b=some (.ml qs)->R (.int qs.length) M->p [dk r f w a b] M R
def rF (g:GB Z) {r:Rw}{f:Flt}{w:Int}{a b:Addr}{qs:List Dt} (hb:M b=some (.ml qs)) (hR:R (.int qs.length) M):Fn Z fJ [.sh (dk r f w a b)] M R:=by
 unfold fJ;symm;refine UC g ?_;show (match M b with | some (.ml xs)=>_ | some (.mo c fs xs)=>_ | _=>False);rw[hb];exact hR
def uO (p:bH):Prop:=∀ (r:Rw) (f:Flt) (w:Int) (a b:Addr) M R,R (bf r) M->p [dk r f w a b] M R
def rG (g:GB Z) {r:Rw}{f:Flt}{w:Int}{a b:Addr} (hR:R (bf r) M):Fn Z fK [.sh (dk r f w a b)] M R:=by
 unfold fK;symm;exact V5 g hR
noncomputable def gB (zs:List Str):P_:=.tuple '1'
noncomputable def cT:Rw->P_
 | .row zs=>.tuple [.str "row",gB zs]
 | .ae ns=>.tuple [.str "forest",.tuple (jJ ns)]
 | .table w ls=>.tuple [.str "table",.int w,.tuple (ls.map gB)]
theorem toPs_strs:∀ zs:List Str,toPs (zs.map Dt.str)=some (zs.map acy)
 | []=>rfl
 | z::zs=>by
  rw[r_];unfold toPs;rw[toPs_strs zs];rfl
theorem toPs_nodes:∀ ns:List Nd,toPs (ns.map aC)=some (jJ ns)
 | []=>rfl
 | n::ns=>by
  rw[r_];unfold toPs;rw[toPs_nodes ns];rfl
theorem toPs_tups:∀ ls:List (List Str),toPs (ls.map cW)=some (ls.map gB)
 | []=>rfl
 | l::ls=>by
  rw[r_];unfold toPs;rw[toPs_tups ls]
  have e:toP (cW l)=some (gB l):=by
   show (toPs (l.map Dt.str)).map aav=_;rw[toPs_strs];rfl
  rw[e];rfl
def toP_form (r:Rw):toP (pW r)=some (cT r):=by
 cases r with
 | row zs =>
  have e:toP (.fS (zs.map Dt.str))=some (gB zs):=by
   show (toPs (zs.map Dt.str)).map aav=_;rw[toPs_strs];rfl
  show (toPs [.str "row",.fS (zs.map Dt.str)]).map aav=_;unfold toPs toPs toPs;rw[e];rfl
 | ae ns =>
  have e:toP (.tup (ns.map aC))=some (.tuple (jJ ns)):=by
   show (toPs (ns.map aC)).map aav=_;rw[toPs_nodes];rfl
  show (toPs [.str "forest",.tup (ns.map aC)]).map aav=_;unfold toPs toPs toPs;rw[e];rfl
 | table w ls =>
  have e:toP (.tup (ls.map cW))=some (.tuple (ls.map gB)):=by
   show (toPs (ls.map cW)).map aav=_;rw[toPs_tups];rfl
  show (toPs [.str "table",.int w,.tup (ls.map cW)]).map aav=_;unfold toPs toPs toPs toPs;rw[e];rfl
theorem ju:∀ {zs:List Str},(∀ z∈zs,ax z=true)->Zl (zs.map acy)=true
 | [],_=>by simp [Zl]
 | z::zs,h=>by
  rw[r_];simp only[Zl,Z1,v_];exact⟨gA (h z (3)),ju fun y hy=>h y (by simp [hy])⟩
theorem jv:∀ zs:List Str,Zr (zs.map acy)=0
 | []=>by simp [Zr]
 | z::zs=>by
  rw[r_];simp only[Zr,aar,jv zs];rfl
theorem sW:∀ {ls:List (List Str)},(∀ l∈ls,∀ z∈l,ax z=true)->Zl (ls.map gB)=true
 | [],_=>by simp [Zl]
 | l::ls,h=>by
  rw[r_];unfold gB;simp only[Zl,Z1,v_];exact⟨ju (h l (3)),sW fun y hy=>h y (by simp [hy])⟩
theorem sX:∀ ls:List (List Str),Zr (ls.map gB)<=1
 | []=>by simp [Zr]
 | l::ls=>by
  have:=sX ls;rw[r_];have e:(gB l).depth=1:=by unfold gB;simp only[aar,jv]
  simp only[Zr,e]
  lia
def Bx {r:Rw} (o:r.Ok):qR (cT r):=by
 cases r with
 | row zs =>
  refine⟨?_,?_⟩
  ·show ([acy "row",gB zs]:List P_).all (mv 6)=true;simp only[ZX,aee,ZS,v_];refine⟨rfl,?_⟩;show (zs.map acy).all (mv 5)=true;rw[aaY];exact Zn.mpr fun _ _=>rfl
  ·unfold L_ cT gB;simp only[Z1,Zl,aar,Zr,jv,ju o.1,ZS];rw[v_];exact⟨(1),(2)⟩
 | ae ns =>
  have c:=dZ fun n hn=>gA (iN o.1 n hn).1
  have d:=eX ns;refine⟨?_,?_⟩
  ·show ([acy "forest",.tuple (jJ ns)]:List P_).all (mv 6)=true;simp only[ZX,aee,ZS,v_];refine⟨rfl,?_⟩;show (jJ ns).all (mv 5)=true;unfold jJ;rw[aaY];exact Zn.mpr fun _ _=>rfl
  ·unfold L_ cT;simp only[Z1,Zl,aar,Zr,c,ZS];rw[v_];exact⟨(1),d_ ∅⟩
 | table w ls =>
  have o:aD w ls:=o;have c:=sW o.P0;have d:=sX ls;refine⟨?_,?_⟩
  ·show ([acy "table",.int w,.tuple (ls.map gB)]:List P_).all (mv 6)=true;simp only[ZX,aee,ZS,v_];refine⟨rfl,rfl,?_⟩;show (ls.map gB).all (mv 5)=true;rw[aaY];refine Zn.mpr fun l _=>?_
   show (l.map acy).all (mv 4)=true;rw[aaY];exact Zn.mpr fun _ _=>rfl
  ·unfold L_ cT;simp only[Z1,Zl,aar,Zr,c,ZS];rw[v_];exact⟨(1),d_ ∅⟩
def xg (r:Rw):∃ ps,cT r=.tuple ps:=by cases r<;>exact⟨_,rfl⟩
theorem map_inj {α β:Type}{f:α->β} (hf:∀ a b,f a=f b->a=b):∀ {xs ys:List α},xs.map f=ys.map f->xs=ys
 | [],[],_=>rfl
 | [],_::_,h=>by cases h
 | _::_,[],h=>by cases h
 | x::xs,y::ys,h=>by
  rw[r_,r_] at h;injection h with h1 h2
  rw[hf x y h1,map_inj hf h2]
def xh {a b:List Str} (h:gB a=gB b):a=b:=by
 unfold gB at h;injection h with h
 exact map_inj (fun x y e=>by injection e) h
def sY {r s:Rw} (h:cT r=cT s):r=s:=by
 cases r with
 | row a =>
  cases s with
  | row b =>
   injection h with h;injection h with h1 h2;injection h2 with h2
   rw[xh h2]
  | ae b =>
   injection h with h;injection h with h1 h2;injection h1 with h1
   exact absurd h1 (1)
  | table w b =>
   injection h with h;injection h with h1 h2;injection h1 with h1
   exact absurd h1 (1)
 | ae a =>
  cases s with
  | row b =>
   injection h with h;injection h with h1 h2;injection h1 with h1
   exact absurd h1 (1)
  | ae b =>
   injection h with h;injection h with h1 h2;injection h2 with h2
   injection h2 with h2
   have:a=b:=map_inj (fun x y e=>by
    injection e with e;injection e with e1 e2;injection e1 with e1;injection e2 with e2;injection e2 with e2
    exact Prod.ext e1 e2) h2
   rw[this]
  | table w b =>
   injection h with h;injection h with h1 h2;injection h1 with h1
   exact absurd h1 (1)
 | table w a =>
  cases s with
  | row b =>
   injection h with h;injection h with h1 h2;injection h1 with h1
   exact absurd h1 (1)
  | ae b =>
   injection h with h;injection h with h1 h2;injection h1 with h1
   exact absurd h1 (1)
  | table v b =>
   injection h with h;injection h with h1 h2;injection h2 with h2 h3;injection h2 with h2;injection h3 with h3;injection h3 with h3
   have:a=b:=map_inj (fun x y e=>xh e) h3;rw[this,show w=v by lia]
noncomputable def qp (f:Flt) (rs:List Rw):List (P_×Dt):=rs.map fun r=>(cT r,.bl (bP (f.holds r)))
noncomputable def qD (r:Rw) (f:Flt) (ps:List Int):Dt:=.tup [.tup (ps.map .int),.bl (bP (f.holds (r.left ps)))]
def iF (M:Mem) (r:Rw) (f:Flt)  (a b:Addr) (qs:List (List Int)):Prop:=a≠b/\M a=some (.md (qp f (qs.map r.left)))/\M b=some (.ml (qs.map (qD r f)))
noncomputable def rH (M:Mem) (r:Rw) (f:Flt)  (a b:Addr) (qs:List (List Int)):Mem:=cD (cD M a (.md (qp f (qs.map r.left)))) b (.ml (qs.map (qD r f)))
def ic {r:Rw}{f:Flt}{w:Int}{a b:Addr}{k:Nat->List Str->Prop}:fY M (dk r f w a b) k=k 4 Ql:=rfl
theorem qr {f:Flt}{r:Rw}:∀ {rs:List Rw},r∉rs->iW (qp f rs) (cT r)=none
 | [],_=>rfl
 | s::rs,h=>by
  show iW ((cT s,_)::qp f rs) (cT r)=none;rw[mE,s_ fun z=>h (by rw[sY z];simp),qr fun z=>h (by simp [z])]
theorem qt {f:Flt}{r:Rw}:∀ {rs:List Rw},r∈rs->iW (qp f rs) (cT r)=some (.bl (bP (f.holds r)))
 | [],h=>nomatch h
 | s::rs,h=>by
  show iW ((cT s,_)::qp f rs) (cT r)=_;rw[mE];by_cases e:cT s=cT r
  ·rw[z_ e,sY e]
  ·rw[s_ e];rcases C_.mp h with rfl | h
   ·exact absurd rfl e
   ·exact qt h
def qu {r:Rw} (o:r.Ok) {Q:P_->Prop} (h:Q (cT r)):FW (pW r) Q:=by
 obtain⟨ps,e⟩:=xg r;exact⟨ps,by rw[toP_form,e],by rw[<-e];exact Bx o,by rw[<-e];exact h⟩
def D7 {a:Addr}{kvs:List (P_×Dt)}{k:Addr->List (P_×Dt)->Prop} (h:M a=some (.md kvs)) (q:k a kvs):NC M (.j3 a) k:=by
 show (match M a with | some (.md kvs)=>k a kvs | _=>False);rw[h];exact q
def D8 {a:Addr}{ds:List Dt}{k:Addr->List Dt->Prop} (h:M a=some (.ml ds)) (q:k a ds):FV M (.j3 a) k:=by
 show (match M a with | some (.ml ds)=>k a ds | _=>False);rw[h];exact q
def sZ {a:Addr}{o:MO}:cD M a o a=some o:=by unfold cD;rw[z_ rfl]
def Aa {a b:Addr}{o:MO} (h:b≠a):cD M a o b=M b:=by unfold cD;rw[s_ h]
def oA {r:Rw}{f:Flt}  {a b:Addr}{qs:List (List Int)} (h:a≠b):iF (rH M r f a b qs) r f a b qs:=⟨h,by unfold rH;rw[Aa h,sZ],by unfold rH;rw[sZ]⟩
def Ih (n:Nat) (p:bH):Prop:=∀ (r:Rw) (f:Flt) (w:Int) (a b:Addr) (ps:List Int) (qs:List (List Int)) M R,iF M r f a b qs->qs.length<=30000->(qs.length:Int)<w->r.left ps∉qs.map r.left->(r.left ps).Ok->f.Ok->f.dep<=n->R .az (rH M r f a b (qs++[ps]))->p [dk r f w a b,.lst (ps.map .int),bf (r.left ps)] M R
def xi (g:GB Z) (h:Z.hm=uI) {n:Nat} (p2:z8 (Z.me 2)) (p5:lL n (Z.me 5)) (Li:yF (Z.me 11)) {r:Rw}{f:Flt}{w:Int}{a b:Addr}{ps:List Int}{qs:List (List Int)} (st:iF M r f a b qs) (h9:qs.length<=30000) (hw:(qs.length:Int)<w) (hn:r.left ps∉qs.map r.left) (o:(r.left ps).Ok) (of:f.Ok) (hd:f.dep<=n) (hR:R .az (rH M r f a b (qs++[ps]))):Fn Z i8 [.sh (dk r f w a b),.sh (.lst (ps.map .int)),.sh (bf (r.left ps)),.no] M R:=by
 unfold i8;obtain⟨ED,ha,hb⟩:=st;symm;rw[ic];refine⟨by rw[h];rfl,p2 _ _ _ _ _ _ _ _ hb (Yo g ?_)⟩;and_intros;refine br (by rw[a_,f_ ∅];decide) ?_;left;refine Yn g ?_;rw[oz];refine⟨GF h _,p5 f _ _ _ of o hd fun c hc=>?_⟩;left;refine UB g ?_;and_intros;rw[b7];refine⟨dX h ∅ _,Li _ _ _ (qu o (D7 ha ⟨qr hn,?_,?_⟩))⟩
 ·unfold qp;rw[a_,a_];exact wX ∅
 have e1:qp f (qs.map r.left)++[(cT (r.left ps),.bl c)]=qp f ((qs++[ps]).map r.left):=by
  unfold qp;rw[F_,F_,sR hc];rfl
 rw[e1];have LO:cD M a (.md (qp f ((qs++[ps]).map r.left))) b=some (.ml (qs.map (qD r f))):=by rw[Aa (ZM ED)];exact hb
 left;refine UC g (D8 LO ⟨sz (3),D8 LO ⟨by rw[a_];exact wX ∅,?_⟩⟩);subst hN
 have e2:qs.map (qD r f)++[Dt.tup [.tup (ps.map .int),.bl c]]=(qs++[ps]).map (qD r f):=by
  rw[F_,sR hc];rfl
 rw[e2];exact hR
def oB (n:Nat) (p:bH):Prop:=∀ (r:Rw) (f:Flt) (w:Int) (a b:Addr) (ps:List Int) (qs:List (List Int)) M R,iF M r f a b qs->r.Ok->placesOk 0 r.many ps->f.Ok->f.dep<=n->(r.left ps∈qs.map r.left->R (.bl (bP (f.holds (r.left ps)))) M)->(r.left ps∉qs.map r.left->(qs.length<=30000/\(qs.length:Int)<w)/\R (.bl (bP (f.holds (r.left ps)))) (rH M r f a b (qs++[ps])))->p [dk r f w a b,.lst (ps.map .int)] M R
def rJ (g:GB Z) (h:Z.hm=uI) {n:Nat} (p1:Ih n (Z.me 1)) (Lh:yI (Z.me 10)) (Li:yF (Z.me 11)) {r:Rw}{f:Flt}{w:Int}{a b:Addr}{ps:List Int}{qs:List (List Int)} (st:iF M r f a b qs) (o:r.Ok) (hp:placesOk 0 r.many ps) (of:f.Ok) (hd:f.dep<=n) (Yp:r.left ps∈qs.map r.left->R (.bl (bP (f.holds (r.left ps)))) M) (UD:r.left ps∉qs.map r.left->(qs.length<=30000/\(qs.length:Int)<w)/\R (.bl (bP (f.holds (r.left ps)))) (rH M r f a b (qs++[ps]))):Fn Z fI [.sh (dk r f w a b),.sh (.lst (ps.map .int)),.no,.no] M R:=by
 unfold fI;have ol:=dq o hp;symm;refine V5 g ?_;rw[b7];refine⟨dX h ∅ _,Lh r ps _ _ o hp ?_⟩;left;rw[b7];refine⟨dX h ∅ _,Li _ _ _ ?_⟩;left;refine UB g (qu ol (D7 st.2.1 ?_))
 have fin:∀ M' L7,iF M' r f a b L7->r.left ps∈L7.map r.left->R (.bl (bP (f.holds (r.left ps)))) M'->N [.sh (dk r f w a b),.sh (.lst (ps.map .int)),.sh (bf (r.left ps)),.sh (pW (r.left ps))] M':=fun M' L7 nE hm h1=>by
  rw[hN];right;exact UB g (qu ol (D7 nE.2.1 ⟨_,qt hm,h1⟩))
 by_cases hm:r.left ps∈qs.map r.left
 ·rw[qt hm];exact br (3) (fin M qs st hm (Yp hm))
 ·rw[qr hm];refine bD (3) ?_;right;rw[ic];refine⟨by rw[h];rfl,p1 r f w a b ps qs _ _ st (UD hm).1.1 (UD hm).1.2 hm ol of hd ?_⟩;subst hN2;exact fin _ _ (oA st.1) (3) (UD hm).2
noncomputable def ie (zs:List Str):P_:=.list '1'
noncomputable def nM:Rw->P_
 | .row zs=>.tuple [.str "row",ie zs]
 | .ae ns=>.tuple [.str "forest",.list (jJ ns)]
 | .table w ls=>.tuple [.str "table",.int w,.list (ls.map ie)]
theorem toPs_lines:∀ ls:List (List Str),toPs (ls.map aR)=some (ls.map ie)
 | []=>rfl
 | l::ls=>by
  rw[r_];unfold toPs;rw[toPs_lines ls]
  have e:toP (aR l)=some (ie l):=by
   show (toPs (l.map Dt.str)).map adK=_;rw[toPs_strs];rfl
  rw[e];rfl
def toP_raw (r:Rw):toP (aF r)=some (nM r):=by
 cases r with
 | row zs =>
  have e:toP (.lst (zs.map Dt.str))=some (ie zs):=by
   show (toPs (zs.map Dt.str)).map adK=_;rw[toPs_strs];rfl
  show (toPs [.str "row",.lst (zs.map Dt.str)]).map aav=_;unfold toPs toPs toPs;rw[e];rfl
 | ae ns =>
  have e:toP (.lst (ns.map aC))=some (.list (jJ ns)):=by
   show (toPs (ns.map aC)).map adK=_;rw[toPs_nodes];rfl
  show (toPs [.str "forest",.lst (ns.map aC)]).map aav=_;unfold toPs toPs toPs;rw[e];rfl
 | table w ls =>
  have e:toP (.lst (ls.map aR))=some (.list (ls.map ie)):=by
   show (toPs (ls.map aR)).map adK=_;rw[toPs_lines];rfl
  show (toPs [.str "table",.int w,.lst (ls.map aR)]).map aav=_;unfold toPs toPs toPs toPs;rw[e];rfl
theorem toPs_raws:∀ rs:List Rw,toPs (rs.map aF)=some (rs.map nM)
 | []=>rfl
 | r::rs=>by rw[r_];unfold toPs;rw[toPs_raws rs,toP_raw];rfl
theorem ig {α:Type}{g:α->P_} (hg:∀ x y,V_ (g x) (g y)=true↔x=y):∀ {xs ys:List α},abT (xs.map g) (ys.map g)=true↔xs=ys
 | [],[]=>by simp [abT]
 | [],_::_=>by simp [abT]
 | _::_,[]=>by simp [abT]
 | x::xs,y::ys=>by
  rw[r_,r_,ZI,v_,hg x y,ig hg];simp
def lS {x y:Str}:V_ (.str x) (.str y)=true↔x=y:=by rw[age,aap]
def xj {x y:List Str}:V_ (ie x) (ie y)=true↔x=y:=by
 unfold ie;rw[aep];exact ig fun _ _=>lS
def Lv {x y:Nd}:V_ (.tuple [.str x.1,.int x.2]) (.tuple [.str y.1,.int y.2])=true↔x=y:=by
 rw[wI,Zp]
def Ab {r s:Rw}:V_ (nM r) (nM s)=true↔r=s:=by
 have no:∀ {w v:Str}{a b:List P_},w≠v->(V_ (.tuple (.str w::a)) (.tuple (.str v::b))=true↔False):=fun {w v a b} h=>by
  rw[abQ,ZI,v_,lS];exact⟨fun z=>h z.1,ZG⟩
 cases r with
 | row a =>
  cases s with
  | row b =>
   show V_ (.tuple [.str "row",ie a]) (.tuple [.str "row",ie b])=true↔_;rw[abQ,ZI,ZI,acv,ZS,v_,lS,xj];exact⟨fun z=>by rw[z.2],fun z=>⟨rfl,by injection z⟩⟩
  | ae b=>exact (no (1)).trans ⟨ZG,fun z=>nomatch z⟩
  | table w b=>exact (no (1)).trans ⟨ZG,fun z=>nomatch z⟩
 | ae a =>
  cases s with
  | row b=>exact (no (1)).trans ⟨ZG,fun z=>nomatch z⟩
  | ae b =>
   show V_ (.tuple [.str "forest",.list (jJ a)]) (.tuple [.str "forest",.list (jJ b)])=true↔_;rw[abQ,ZI,ZI,acv,ZS,v_,lS,aep];unfold jJ;rw[ig fun _ _=>Lv];exact⟨fun z=>by rw[z.2],fun z=>⟨rfl,by injection z⟩⟩
  | table w b=>exact (no (1)).trans ⟨ZG,fun z=>nomatch z⟩
 | table w a =>
  cases s with
  | row b=>exact (no (1)).trans ⟨ZG,fun z=>nomatch z⟩
  | ae b=>exact (no (1)).trans ⟨ZG,fun z=>nomatch z⟩
  | table v b =>
   show V_ (.tuple [.str "table",.int w,.list (a.map ie)]) (.tuple [.str "table",.int v,.list (b.map ie)])=true↔_;rw[abQ,ZI,ZI,ZI,acv,ZS,v_,v_,lS,agf,aap,aep,ig fun _ _=>xj];exact⟨fun z=>by rw[z.2.2,show w=v by have:=z.2.1;lia],fun z=>⟨rfl,by injection z with z1 z2;rw[z1],by injection z⟩⟩
theorem s9:∀ {ls:List (List Str)},(∀ l∈ls,∀ z∈l,ax z=true)->Zl (ls.map ie)=true
 | [],_=>by simp [Zl]
 | l::ls,h=>by
  rw[r_];unfold ie;simp only[Zl,Z1,v_];exact⟨ju (h l (3)),s9 fun y hy=>h y (by simp [hy])⟩
theorem tj:∀ ls:List (List Str),Zr (ls.map ie)<=1
 | []=>by simp [Zr]
 | l::ls=>by
  have:=tj ls;rw[r_];have e:(ie l).depth=1:=by unfold ie;simp only[aar,jv]
  simp only[Zr,e]
  lia
def ny {r:Rw} (o:r.Ok):L_ (nM r)=true:=by
 cases r with
 | row zs =>
  unfold L_ nM ie;simp only[Z1,Zl,aar,Zr,jv,ju o.1,ZS];rw[v_];exact⟨(1),(2)⟩
 | ae ns =>
  have c:=dZ fun n hn=>gA (iN o.1 n hn).1
  have d:=eX ns;unfold L_ nM;simp only[Z1,Zl,aar,Zr,c,ZS];rw[v_];exact⟨(1),d_ ∅⟩
 | table w ls =>
  have o:aD w ls:=o;have c:=s9 o.P0;have d:=tj ls;unfold L_ nM;simp only[Z1,Zl,aar,Zr,c,ZS];rw[v_];exact⟨(1),d_ ∅⟩
def D9 {r:Rw}{rs:List Rw} (o:r.Ok) (os:∀ s∈rs,s.Ok) {Q:Bool->Prop} (h:Q (bP (r∈rs))):Bg (aF r) (.lst (rs.map aF)) Q:=by
 refine .inr ⟨rs.map aF,nM r,rs.map nM,rfl,toP_raw r,toPs_raws rs,ny o,fun e he=>?_,?_⟩
 ·obtain⟨s,hs,rfl⟩:=n_.mp he;exact ny (os s hs)
 ·have e:((rs.map nM).any fun e=>V_ e (nM r))=bP (r∈rs):=by
   refine sR ?_;rw[ab8,aan];constructor
   ·rintro⟨s,hs,q⟩;rw[<-Ab.mp q];exact hs
   ·exact fun hr=>⟨r,hr,Ab.mpr rfl⟩
  rw[e];exact h
def qv (p:bH):Prop:=∀ (r:Rw) (ps:List Int) M R,r.Ok->placesOk 0 r.many ps->R (aF (r.left ps)) M->p [aF r,.lst (ps.map .int)] M R
def qw (p:bH):Prop:=∀ (ns:List Int) (k:Nat) (zs:List Str) (r:Rw) (g:Bool),gi zs->r.Ok->z6 p [nr ns,.int k,.lst '1',aF r,.bl g] 6
theorem toPs_ints:∀ ps:List Int,toPs (ps.map Dt.int)=some (ps.map acr)
 | []=>rfl
 | p::ps=>by rw[r_];unfold toPs;rw[toPs_ints ps];rfl
def Ac (p:bH):Prop:=∀ (r:Rw) (c:Int),r.Ok->0<r.names.length->z6 p [aF r,.lst (bC r),.int c] 1
def yR {r:Rw} (o:r.Ok):∀ z∈r.names,ax z=true:=by
 cases r with
 | row zs=>exact o.1
 | ae ns =>
  intro z hz;obtain⟨n,hn,rfl⟩:=n_.mp hz;exact (iN o.1 n hn).1
 | table w ls =>
  have o:aD w ls:=o;intro z hz;obtain⟨l,hl,hz⟩:=afX.mp hz;exact o.P0 l hl z hz
def mQ {r:Rw} (o:r.Ok) {i:Nat} (hi:i<r.names.length):ax (r.names.getD i "")=true:=yR o _ (getD_mem hi)
theorem mR {g:Dt->Mem->(Dt->Mem->Prop)->Prop}{K:List Dt->Mem->Prop}:∀ (is:List Nat),(∀ i∈is,∀ k:Dt->Mem->Prop,(∀ c:Bool,k (.bl c) M)->g (.int i) M k)->(∀ js:List Nat,(∀ j∈js,j∈is)->K (js.map fun j:Nat=>.int j) M) ->
  eE (fun x M K=>g x M fun d M2=>cy d fun c=>if c=true then K (some x) M2 else K none M2) (is.map fun j:Nat=>Dt.int j) M K
 | [],_,h=>h [] (fun _ z=>nomatch z)
 | i::is,hg,h=>by
  refine hg i (3) _ fun c=>?_
  show if c=true then _ else _
  cases c with
  | true=>exact bD rfl (mR is (fun j hj=>hg j (by simp [hj])) fun js UE=>h (i::js) fun j hj=>by rcases C_.mp hj with rfl | hj;simp;simp [UE j hj])
  | false=>exact br (2) (mR is (fun j hj=>hg j (by simp [hj])) fun js UE=>h js fun j hj=>by simp [UE j hj])
def GI {n:Nat}:bO 0 n=(Zo n).map fun j:Nat=>Dt.int j:=by
 unfold bO;refine Zs fun k _=>?_
 rw[Zu]
def uP (Ux:ia (Z.fn 24)) {r:Rw}{c:Int} (o:r.Ok) (hn:0<r.names.length) (hR:∀ f:Flt,f.Ok->f.dep<=1->R (aj f) M):Fn Z g9 [.sh (aF r),.sh (.lst (bC r)),.sh (.int c),.no,.no,.no,.no] M R:=by
 unfold g9;have Lu:=cC o;have sl:(bC r).length=r.names.length:=by unfold bC;rw[a_,K_]
 obtain⟨i,ei,hi⟩:=aU c (show (0:Int)<(r.names.length:Nat) by lia);have hi:i<r.names.length:=by lia
 have ma:=mQ o hi;symm;rw[sl,ei];refine⟨∅,?_⟩;left;refine cS hi (w9 ?_);generalize ea:r.names.getD i "" = a at ma;left;refine⟨⟨(2),(2)⟩,(2),?_⟩;generalize c / 40 % 4=w;left;rw[sl];refine⟨⟨∅,∅⟩,by rw[ah];exact sz ∅,?_⟩;rw[p_,GI];refine mR (g:=fun x M k=>Z.fn 24 [aF r,.lst (bC r),.int i,x] M k) _ (fun j hj k hk=>Ux r i j _ _ o hi (Zv.mp hj) fun c _=>hk c) fun lows Qm=>?_
 left
 have xf:∀ N0,N0=(fun ρ' M'=>ex Z ((S.ite ((C.cmp qU.gt (C.v 5) (C.i 0)).and (C.cmp qU.lt (C.bin t6.add (C.v 3) (C.i 1)) (C.v 1).len).one) ((S.ret ((C.s "before").cons ((C.v 4).cons ((((C.v 1).ix (C.bin t6.add (C.bin t6.add (C.v 3) (C.i 1)) (C.bin t6.mod (C.bin t6.fdiv (C.v 2) (C.i 160)) (C.bin t6.sub (C.bin t6.sub (C.v 1).len (C.v 3)) (C.i 1))))).ix (C.i 0)).cons C.nil))).tup).seq S.skip) S.skip).seq ((S.ret ((C.s "has").cons ((C.v 4).cons C.nil)).tup).seq S.skip)) ρ' M' { nx:=fun _ M'=>R .az M',rt:=R })->N0 [.sh (aF r),.sh (.lst (bC r)),.sh (.int c),.sh (.int i),.sh (.str a),.sh (.int w),.sh (.lst (lows.map fun j:Nat=>Dt.int j))] M:=fun N0 e0=>by
  rw[e0]
  first | refine sqo fun N hN=>?_ | (dsimp only;refine sqo fun N hN=>?_)
  have has:N [.sh (aF r),.sh (.lst (bC r)),.sh (.int c),.sh (.int i),.sh (.str a),.sh (.int w),.sh (.lst (lows.map fun j:Nat=>Dt.int j))] M:=by
   rw[hN]
   first | refine sqo fun N2 hN2=>?_ | (dsimp only;refine sqo fun N2 hN2=>?_)
   exact dz (f:=.has a) (Q:=fun d=>R d M) (by unfold aj;rfl) (hR _ (by unfold Flt.Ok;exact ma) (by unfold Flt.dep;lia))
  and_intros;by_cases w0:0<w
  ·refine bD (d_ w0) ?_;rw[sl];by_cases li:(i:Int)+1<(r.names.length:Nat)
   ·refine bD (d_ li) ?_;right;rw[sl];obtain⟨q,eq,hq⟩:=aU (c / 160) (show (0:Int)<((r.names.length:Nat):Int)-(i:Int)-1 by lia);rw[eq,show (i:Int)+1+(q:Int)=((i+1+q:Nat):Int) by lia];refine⟨⟨(2),(2)⟩,∅,cS ∅ (w9 ?_)⟩;exact eS (f:=.before a (r.names.getD (i+1+q) "")) (Q:=fun d=>R d M) (by unfold aj;rfl) (hR _ (by unfold Flt.Ok;exact⟨ma,mQ o ∅⟩) (by unfold Flt.dep;lia))
   ·exact br (by rw[f_ li];decide) has
  ·exact br (by rw[f_ w0];decide) has
 by_cases w1:w=1
 ·refine bD (d_ w1) ?_;right;refine⟨⟨(2),(2)⟩,by rw[sl];exact sz ∅,bz (xb a) (4) ?_⟩
  ·obtain⟨k',hk,rfl⟩:=n_.mp hx;refine w9 ?_;have hK:K (if r.names.getD k' "" = a then some (rB r k') else none) M:=hK;rw[show we (.str (r.names.getD k' "")) (.str a)=fun Q=>Q (decide (r.names.getD k' "" = a)) from rfl];by_cases h:r.names.getD k' "" = a
   ·rw[z_ h] at hK;exact bD (d_ h) hK
   ·rw[s_ h] at hK;exact br (by rw[f_ h];decide) hK
  ·rw[sV];have cp:0<r.names.count a:=afm.mpr (by rw[<-ea];exact getD_mem hi);refine⟨∅,?_⟩;exact eS (f:=.many (1+c / 160 % ((r.names.count a:Nat):Int)) a) (Q:=fun d=>R d M) (by unfold aj;rfl) (hR _ (by unfold Flt.Ok;exact ma) (by unfold Flt.dep;lia))
 refine br (by rw[f_ w1];decide) ?_;left;by_cases w2:w=2
 ·refine bD (d_ w2) ?_;rw[a_];by_cases l0:(0:Int)<(lows.length:Nat)
  ·refine bD (d_ l0) ?_;right;rw[a_];obtain⟨q,eq,hq⟩:=aU (c / 160) l0;rw[eq];have hl:=b_ (show q<lows.length by lia);have hj:=Zv.mp (Qm _ (y_ hl));refine⟨⟨(2),(2)⟩,l0,.int ((lows[q]'∅:Nat):Int),aI (by rw[g_,hl];rfl),cS hj (w9 ?_)⟩;exact eS (f:=.under a (r.names.getD (lows[q]'∅) "")) (Q:=fun d=>R d M) (by unfold aj;rfl) (hR _ (by unfold Flt.Ok;exact⟨ma,mQ o hj⟩) (by unfold Flt.dep;lia))
  ·exact br (by rw[f_ l0];decide) (xf _ hN)
 ·exact br (by rw[f_ w2];decide) (xf _ hN)
theorem qx {n:Nat}:∀ {fs:List Flt},(∀ f∈fs,f.dep<=n)->uH fs<=n
 | [],_=>aal _
 | f::fs,h=>by
  unfold uH;have:=h f (3);have:=qx (fs:=fs) fun g hg=>h g (by simp [hg])
  lia
def xk (n m:Nat) (fs:List Flt):Prop:=fs.length<=m/\(∀ f∈fs,f.Ok)/\∀ f∈fs,f.dep<=n
def mS {n m:Nat}{fs:List Flt} (h:xk n m fs) (hm:m<=100):(Flt.all fs).Ok/\(Flt.all fs).dep<=n+1:=by
 unfold Flt.Ok Flt.dep;have:=qx h.2.2;exact⟨⟨by have:=h.1;lia,d9.mpr h.2.1⟩,∅⟩
def uQ {n m:Nat}{fs:List Flt} (h:xk n m fs) (hm:m<=100):(Flt.any fs).Ok/\(Flt.any fs).dep<=n+1:=by
 unfold Flt.Ok Flt.dep;have:=qx h.2.2;exact⟨⟨by have:=h.1;lia,d9.mpr h.2.1⟩,∅⟩
def lT {fs:List Flt}:aj (.all fs)=.tup [.str "all",.lst (fs.map aj)]:=by unfold aj;rw[di]
def Ad {fs:List Flt}:aj (.any fs)=.tup [.str "any",.lst (fs.map aj)]:=by unfold aj;rw[di]
def jT (p:bH):Prop:=∀ (ns:List Int) (k:Nat) (zs:List Str) (g:Bool),gi zs->z6 p [nr ns,.int k,.lst '1',.bl g] 4
def kH (qa:dj (Z.fn 12)) (Uv:DX (Z.fn 17)) (V6:xc (Z.fn 29)) {ns:List Int}{k:Nat}{zs:List Str}{g:Bool} (hz:gi zs) (hR:∀ f:Flt,f.Ok->f.dep<=4->R (aj f) M):Fn Z cu [.sh (nr ns),.sh (.int k),.sh (.lst '1'),.sh (.bl g),.no,.no,.no,.no,.no,.no,.no] M R:=by
 unfold cu;symm;refine qa _ _ _ _ ∅ fun h=>?_
 left;refine⟨sz (3),?_⟩;left;refine qa _ _ _ _ ∅ fun c1=>Uv _ _ _ fun rest=>?_
 obtain⟨t,et,ht⟩:=aU h (show (0:Int)<3 by decide);left;rw[et];refine⟨(2),⟨∅,∅⟩,?_⟩;refine aw (fun i ρ M'=>M'=M/\∃ fs:List Flt,fs.length=i/\(∀ f∈fs,f.Ok)/\(∀ f∈fs,f.dep<=3)/\∃ (rs:Int) (o7 o8 o9 GJ:Sl),ρ=[.sh (nr ns),.sh (.int k),.sh (.lst '1'),.sh (.bl g),.sh (.int h),.ow (.lst (fs.map aj)),.sh (.int rs),o7,o8,o9,GJ]) ⟨rfl,[],rfl,fun _ z=>(nomatch z),fun _ z=>(nomatch z),_,_,_,_,_,rfl⟩ ?_ ?_
 ·rintro i x ρ M' N' hx ⟨rfl,fs,hl,aW,L8,rs,o7,o8,o9,GJ,rfl⟩ eP;obtain⟨hi,rfl⟩:=aE hx;rw[Zu];have hi:i<4:=by lia
  and_intros;right;refine⟨.inl ⟨(2),(2)⟩,qa _ _ _ _ ∅ fun ca=>?_⟩;subst hN2;right;refine⟨.inl ⟨(2),(2)⟩,qa _ _ _ _ ∅ fun cb=>?_⟩;subst hN2
  first | refine sqo fun N2 hN2=>?_ | (dsimp only;refine sqo fun N2 hN2=>?_)
  have tail:∀ (ca cb rs:Int),N2 [.sh (nr ns),.sh (.int k),.sh (.lst '1'),.sh (.bl g),.sh (.int h),.ow (.lst (fs.map aj)),.sh (.int rs),.sh (.int i),.sh (.int ca),.sh (.int cb),GJ] M':=fun ca cb rs=>by
   rw[hN2]
   first | refine sqo fun N3 bw=>?_ | (dsimp only;refine sqo fun N3 bw=>?_)
   and_intros;refine V6 ca zs g hz _ _ fun f1 k1 d1=>?_
   subst bw
   first | refine sqo fun N3 bw=>?_ | (dsimp only;refine sqo fun N3 bw=>?_)
   have last:∀ f,f.Ok->f.dep<=3->N3 [.sh (nr ns),.sh (.int k),.sh (.lst '1'),.sh (.bl g),.sh (.int h),.ow (.lst (fs.map aj)),.sh (.int rs),.sh (.int i),.sh (.int ca),.sh (.int cb),.sh (aj f)] M':=fun f fo fd=>by
    rw[bw]
    first | refine sqo fun N4 dY=>?_ | (dsimp only;refine sqo fun N4 dY=>?_)
    and_intros;refine⟨by rw[a_];exact wX ∅,?_⟩;subst dY;rw[show fs.map aj++[aj f]=(fs++[f]).map aj by rw[F_];rfl];refine eP _ _ ⟨rfl,fs++[f],by simp [hl],fun x hx=>?_,fun x hx=>?_,_,_,_,_,_,rfl⟩
    ·rcases U_.mp hx with h | h
     ·exact aW x h
     ·rw[D_.mp h];exact fo
    ·rcases U_.mp hx with h | h
     ·exact L8 x h
     ·rw[D_.mp h];exact fd
   and_intros;refine⟨⟨(2),(2)⟩,(2),?_⟩;by_cases e:ca / 256 % 3=1
   ·refine bD (d_ e) ?_
    first | refine sqo fun N4 dY=>?_ | (dsimp only;refine sqo fun N4 dY=>?_)
    and_intros;refine V6 cb zs g hz _ _ fun f2 k2 d2=>⟨sz (3),sz (3),?_⟩
    subst dY;have ak:=uQ (n:=2) (m:=2) (fs:=[f1,f2]) ⟨(3),fun x hx=>by simp only[C_,ZW,ab2] at hx;rcases hx with rfl | rfl;exact k1;exact k2,fun x hx=>by simp only[C_,ZW,ab2] at hx;rcases hx with rfl | rfl;exact d1;exact d2⟩ ∅;have:=last (.any [f1,f2]) ak.1 ak.2;rw[Ad] at this;exact this
   ·exact br (7) (last f1 k1 ∅)
  and_intros;refine⟨⟨(2),(2)⟩,(2),?_⟩;by_cases e:h / 216 % 2=1
  ·refine bD (d_ e) ?_
   first | refine sqo fun N3 bw=>?_ | (dsimp only;refine sqo fun N3 bw=>?_)
   and_intros;refine⟨(2),?_⟩;subst bw
   first | refine sqo fun N3 bw=>?_ | (dsimp only;refine sqo fun N3 bw=>?_)
   and_intros;refine⟨⟨(2),(2)⟩,(2),?_⟩;subst bw
   first | refine sqo fun N3 bw=>?_ | (dsimp only;refine sqo fun N3 bw=>?_)
   and_intros;refine⟨⟨(2),(2)⟩,⟨(2),(2)⟩,?_⟩;subst bw;exact tail _ _ _
  ·exact br (7) (tail _ _ _)
 ·rintro ρ M' ⟨rfl,fs,hl,aW,L8,rs,o7,o8,o9,GJ,rfl⟩;rw[ah] at hl;have Yq:1<=fs.length/\fs.length<=3:=by lia
  left;rw[a_];by_cases e:((fs.length:Nat):Int)=1
  ·refine bD (d_ e) ?_;right;have hg:=b_ (show 0<fs.length by lia);have hm:=y_ hg;exact⟨aj (fs[0]'∅),aI (j:=0) (by rw[g_,hg];rfl),hR _ (aW _ hm) (by have:=L8 _ hm;lia)⟩
  ·refine br (7) ?_;left;left;obtain⟨v,hv,_,ev⟩:=n9 (xs:=([.str "all",.str "all",.str "any"]:List Dt)) (i:=h / 3) (m:=3) (2) (2);refine⟨sz (3),⟨(2),(2)⟩,(2),v,ev,sz (3),?_⟩;have ok:xk 3 3 fs:=⟨Yq.2,aW,L8⟩;simp only[C_,ZW,ab2] at hv;rcases hv with rfl | rfl | rfl
   ·have ak:=mS ok ∅;have:=hR (.all fs) ak.1 ak.2;rw[lT] at this;exact this
   ·have ak:=mS ok ∅;have:=hR (.all fs) ak.1 ak.2;rw[lT] at this;exact this
   ·have ak:=uQ ok ∅;have:=hR (.any fs) ak.1 ak.2;rw[Ad] at this;exact this
def Qn {f:Flt}:aj (.not f)=.tup [.str "not",aj f]:=by rw[aj]
def uR {n:Nat}{f h:Flt} (f1:f.Ok) (f2:f.dep<=n) (h1:h.Ok) (h2:h.dep<=n):xk n 2 [f,h] :=
 ⟨(3),fun x hx=>by simp only[C_,ZW,ab2] at hx;rcases hx with rfl | rfl;exact f1;exact h1,fun x hx=>by simp only[C_,ZW,ab2] at hx;rcases hx with rfl | rfl;exact f2;exact h2⟩
def nN (qa:dj (Z.fn 12)) (Ib:cB (Z.fn 23)) (Ie:fe 4 (Z.fn 27)) (Yr:jT (Z.fn 30)) (V7:Ac (Z.fn 31)) {ns:List Int}{k:Nat}{zs:List Str}{r:Rw}{g:Bool} (hz:gi zs) (o:r.Ok) (hR:∀ f:Flt,f.Ok->f.dep<=6->R (aj f) M):Fn Z dQ [.sh (nr ns),.sh (.int k),.sh (.lst '1'),.sh (aF r),.sh (.bl g),.no,.no,.no,.no,.no,.no,.no] M R:=by
 unfold dQ;have Lu:=cC o;have sl:(bC r).length=r.names.length:=by unfold bC;rw[a_,K_]
 symm;refine qa _ _ _ _ ∅ fun h=>?_
 left;refine Yr ns k zs g hz _ _ fun f of fd=>?_
 left;refine Ib r _ _ o ?_;left;refine⟨⟨(2),(2)⟩,(2),?_⟩;generalize h / 9 % 8=w;left;rw[sl];by_cases e0:((r.names.length:Nat):Int)=0
 ·refine bD (d_ e0) ?_
  first | refine sqo fun N2 hN2=>?_ | (dsimp only;refine sqo fun N2 hN2=>?_)
  exact hR f of ∅
 have hn:0<r.names.length:=by lia
 refine br (by rw[f_ e0];decide) ?_;by_cases e7:w=7
 ·refine bD (d_ e7) ?_
  first | refine sqo fun N2 hN2=>?_ | (dsimp only;refine sqo fun N2 hN2=>?_)
  exact hR f of ∅
 refine br (by rw[f_ e7];decide) ?_;left;refine⟨sz (3),?_⟩;obtain⟨t,et,ht⟩:=aU (h / 72) (show (0:Int)<5 by decide);left;rw[et];refine⟨⟨(2),(2)⟩,(2),⟨∅,∅⟩,?_⟩;refine aw (fun i ρ M'=>M'=M/\∃ fs:List Flt,xk 1 i fs/\∃ GJ:Sl,ρ=[.sh (nr ns),.sh (.int k),.sh (.lst '1'),.sh (aF r),.sh (.bl g),.sh (.int h),.sh (aj f),.sh (.lst (bC r)),.sh (.int w),.ow (.lst (fs.map aj)),GJ,.no]) ⟨rfl,[],⟨(3),fun _ z=>(nomatch z),fun _ z=>(nomatch z)⟩,_,rfl⟩ ?_ ?_
 ·rintro i x ρ M' N' hx ⟨rfl,fs,⟨hl,aW,L8⟩,GJ,rfl⟩ eP;obtain⟨hi,rfl⟩:=aE hx;rw[Zu];have hi:i<7:=by lia
  and_intros;right;refine qa _ _ _ _ ∅ fun ca=>?_
  and_intros;refine⟨.inl ⟨(2),(2)⟩,V7 r _ o hn _ _ fun f' UG Q9=>⟨by rw[a_];exact wX ∅,?_⟩⟩;subst hN2;rw[show fs.map aj++[aj f']=(fs++[f']).map aj by rw[F_];rfl];refine eP _ _ ⟨rfl,fs++[f'],⟨by simp;lia,fun x hx=>?_,fun x hx=>?_⟩,_,rfl⟩
  ·rcases U_.mp hx with h | h
   ·exact aW x h
   ·rw[D_.mp h];exact UG
  ·rcases U_.mp hx with h | h
   ·exact L8 x h
   ·rw[D_.mp h];exact Q9
 ·rintro ρ M' ⟨rfl,fs,Lw,GJ,rfl⟩;rw[ah] at Lw;have Lw:xk 1 10 fs:=⟨by have:=Lw.1;lia,Lw.2⟩;have ak:=mS Lw ∅;subst hN
  first | refine sqo fun N hN=>?_ | (dsimp only;refine sqo fun N hN=>?_)
  have rest:N [.sh (nr ns),.sh (.int k),.sh (.lst '1'),.sh (aF r),.sh (.bl g),.sh (.int h),.sh (aj f),.sh (.lst (bC r)),.sh (.int w),.ow (.lst (fs.map aj)),GJ,.no] M':=by
   rw[hN];symm;by_cases e4:w<4
   ·refine bD (d_ e4) ?_;right;subst hN2
    first | refine sqo fun N2 hN2=>?_ | (dsimp only;refine sqo fun N2 hN2=>?_)
    exact dz (f:=.all fs) (Q:=fun d=>R d M') lT (hR _ ak.1 (by have:=ak.2;lia))
   refine br (by rw[f_ e4];decide) ?_;left;by_cases e5:w=4
   ·refine bD (d_ e5) ?_;right;subst hN2;right;refine⟨sz (3),sz (3),?_⟩;have bk:=uQ (uR (n:=4) of fd ak.1 (by have:=ak.2;lia)) ∅;exact dz (f:=.any [f,.all fs]) (Q:=fun d=>R d M') (by rw[Ad,r_,r_,Z_,lT]) (hR _ bk.1 (by have:=bk.2;lia))
   refine br (by rw[f_ e5];decide) ?_;left;by_cases e6:w=5
   ·refine bD (d_ e6) ?_;right;subst hN2;right;refine⟨sz (3),sz (3),?_⟩;have bk:=mS (uR (n:=4) ak.1 (by have:=ak.2;lia) of fd) ∅;exact dz (f:=.all [.all fs,f]) (Q:=fun d=>R d M') (by rw[lT,r_,r_,Z_,lT]) (hR _ bk.1 (by have:=bk.2;lia))
   refine br (by rw[f_ e6];decide) ?_;left;refine⟨⟨(2),(2)⟩,by rw[ah];exact sz (2),?_⟩;refine jr (P:=fun d=>∃ f':Flt,d=aj f'/\f'.Ok/\f'.dep<=1) (4) fun ds Bv hP=>?_
   ·obtain⟨q,Ys⟩:=Y_.mp hx;obtain⟨hq,rfl⟩:=aE Ys;rw[Zu];and_intros;refine qa _ _ _ _ ∅ fun ca=>?_
    and_intros;exact⟨.inl ⟨(2),(2)⟩,V7 r _ o hn _ _ fun f' UG Q9=>hK _ ⟨f',rfl,UG,Q9⟩⟩
   ·obtain⟨gs,rfl,Yt⟩:∃ gs:List Flt,ds=gs.map aj/\xk 1 2 gs:=by
     rw[ah] at Bv
     have:∀ {es:List Dt},(∀ d∈es,∃ f':Flt,d=aj f'/\f'.Ok/\f'.dep<=1)->∃ gs:List Flt,es=gs.map aj/\(∀ f'∈gs,f'.Ok)/\∀ f'∈gs,f'.dep<=1:=fun {es}=>by
      induction es with
      | nil=>exact fun _=>⟨[],rfl,fun _ z=>(nomatch z),fun _ z=>nomatch z⟩
      | cons d es ih =>
       intro hP;obtain⟨f',rfl,q1,q2⟩:=hP d (3);obtain⟨gs,rfl,q3,q4⟩:=ih fun e he=>hP e (by simp [he])
       refine⟨f'::gs,rfl,fun x hx=>?_,fun x hx=>?_⟩
       ·rcases C_.mp hx with rfl | hx;exact q1;exact q3 x hx
       ·rcases C_.mp hx with rfl | hx;exact q2;exact q4 x hx
     obtain⟨gs,rfl,q3,q4⟩:=this hP;rw[a_] at Bv;exact⟨gs,rfl,by rw[Bv];decide,q3,q4⟩
    have gk:=mS Yt ∅;left;left;refine⟨sz (3),sz (3),sz (3),?_⟩;have bk:=uQ (uR (n:=2) ak.1 ak.2 gk.1 gk.2) ∅;exact dz (f:=.any [.all fs,.all gs]) (Q:=fun d=>R d M') (by rw[Ad,r_,r_,Z_,lT,lT]) (hR _ bk.1 (by have:=bk.2;lia))
  and_intros
  cases g with
  | true=>exact rest
  | false =>
   refine bD rfl ?_;by_cases e1:w=1
   ·refine bD (d_ e1) (Ie f r _ _ of o fd fun c hc=>?_)
    cases c with
    | true=>exact rest
    | false =>
     and_intros;right;refine⟨sz (3),sz (3),?_⟩;rw[wJ (n:=5) (i:=5) rfl,<-abS];refine⟨by rw[a_];refine sz ?_;have:=ac_ 5 fs;simp;lia,?_⟩
     have nk:xk 5 11 (fs.take 5++[.not f]):=⟨by have:=ac_ 5 fs;simp;lia,fun x hx=>by
      rcases U_.mp hx with h | h
      ·exact Lw.2.1 x (ZE h)
      ·rw[D_.mp h];unfold Flt.Ok;exact of,fun x hx=>by
      rcases U_.mp hx with h | h
      ·have:=Lw.2.2 x (ZE h);lia
      ·rw[D_.mp h];unfold Flt.dep;lia⟩
     have bk:=mS nk ∅;exact dz (f:=.all (fs.take 5++[.not f])) (Q:=fun d=>R d M') (by rw[lT,F_,r_,Z_,Qn]) (hR _ bk.1 bk.2)
   ·exact br (by rw[f_ e1];decide) rest
noncomputable def UH (zs:List Str):Dt->Dt | .int q=>.str (atS zs q) | _=>.az
noncomputable def tm (ls:List (List Str)):Dt->m_ Dt
 | .int q=>if q<(ls.length:Int) then some (aR (ls.getD q.toNat [])) else none
 | _=>none
theorem tu {ls:List (List Str)}:∀ {ps:List Int},(ps.map Dt.int).filterMap (tm ls)=(linesOf ls.length ps).map fun q=>aR (ls.getD q.toNat [])
 | []=>rfl
 | q::ps=>by
  have ih:=tu (ls:=ls) (ps:=ps);unfold SH.linesOf at ih ⊢;rw[r_,Zw,Zz,ih];by_cases h:q<(ls.length:Int)
  ·rw[show tm ls (.int q)=some (aR (ls.getD q.toNat [])) from z_ h,z_ (by simpa using h)];rfl
  ·rw[show tm ls (.int q)=none from s_ h,s_ (by simpa using h)]
noncomputable def markL (qs:List Int):Dt->Dt
 | .lst ds=>.lst (qs.map fun q=>ds.getD q.toNat .az)
 | _=>.az
def qy {qs:List Int}{l:List Str} (h:∀ j∈qs,0<=j/\j<(l.length:Int)):markL qs (aR l)=aR (qs.map (atS l)):=mM (l:=l) h
def jw {r:Rw}{ps:List Int} (o:r.Ok) (hp:placesOk 0 r.many ps) (Yu:∀ ns,r≠.ae ns) (hR:R (aF (r.left ps)) M):Fn Z cA [.sh (aF r),.sh (.lst (ps.map .int)),.no,.no,.no,.no,.no,.no,.no] M R:=by
 unfold cA
 cases r with
 | ae ns=>exact absurd rfl (Yu ns)
 | row zs =>
  have pa:=ao hp;have pl:((ps.length:Nat):Int)<=(zs.length:Nat)-0:=places_len hp ∅;have o2:=o.2;symm;refine dU rfl ?_;right;refine⟨by rw[a_];exact sz ∅,comp_map (UH zs) (4) ⟨sz (3),?_⟩⟩
  ·obtain⟨q,hq,rfl⟩:=n_.mp hx;obtain⟨h0,h1⟩:=pa q hq;exact⟨_,rfl,_,K18.dC h0 h1,hK⟩
  ·rw[G_];show R (.tup [.str "row",.lst (ps.map fun q=>.str (atS zs q))]) M
   have e:aF ((Rw.row zs).left ps)=.tup [.str "row",.lst (ps.map fun q=>.str (atS zs q))]:=by
    show Dt.tup [.str "row",.lst ((ps.map (atS zs)).map .str)]=_;rw[G_];rfl
   rw[e] at hR;exact hR
 | table w ls =>
  have iM:placesOk 0 ((ls.length:Int)+(w:Int)) ps:=by have:=hp;rwa [show ((Rw.table w ls).many:Int)=(ls.length:Int)+(w:Int) from ZA _ _] at this
  have pl:=places_len iM ∅;have la:=iO (n:=ls.length) iM;have ca:=j2 iM;have o:aD w ls:=o;have o1:=o.len;have o2:=o.DJ;have l1:=dr (n:=ls.length) iM;have l2:=eC (n:=ls.length) iM;symm;refine cR 2 (1) rfl ?_;left;refine dU rfl ?_;right;refine⟨by rw[a_];exact sz ∅,bz (uE ls.length) (4) ?_⟩
  ·obtain⟨q,hq,rfl⟩:=n_.mp hx;refine⟨_,rfl,?_⟩;and_intros;rw[a_];by_cases h:(ls.length:Int)<=q
   ·refine bD (d_ h) ⟨_,rfl,?_⟩;and_intros;rw[a_];rw[show uE ls.length (.int q)=some (.int (q-ls.length)) from z_ h] at hK;exact hK
   ·refine br (by rw[f_ h];decide) ?_;rw[show uE ls.length (.int q)=none from s_ h] at hK;exact hK
  rw[qc];subst hN2;right;refine⟨by rw[a_];exact sz ∅,bz (tm ls) (4) ?_⟩
  ·obtain⟨q,hq,rfl⟩:=n_.mp hx;have:=ao iM q hq;refine⟨_,rfl,?_⟩;and_intros;rw[a_];by_cases h:q<(ls.length:Int)
   ·refine bD (d_ h) ⟨_,rfl,aR (ls.getD q.toNat []),?_,?_⟩
    ·obtain⟨n,rfl⟩:=Zy this.1;rw[p_];refine aI ?_;rw[g_,b_ (show n<ls.length by lia),getD_some (b_ (show n<ls.length by lia))];rfl
    ·rw[show tm ls (.int q)=some (aR (ls.getD q.toNat [])) from z_ h] at hK;exact hK
   ·refine br (by rw[f_ h];decide) ?_;rw[show tm ls (.int q)=none from s_ h] at hK;exact hK
  rw[tu];subst hN2;right;refine⟨by rw[a_];exact sz ∅,comp_map (markL (bh ls.length ps)) (4) ⟨sz (3),?_⟩⟩
  ·obtain⟨q,hq,rfl⟩:=n_.mp hx;have:=la q hq;have hm:=getD_mem (xs:=ls) (i:=q.toNat) (a:=[]) ∅;have hw:=o.jM _ hm;refine⟨by rw[a_];exact sz ∅,comp_map (UH (ls.getD q.toNat [])) (fun y hy K' Yv=>?_) ?_⟩
   ·obtain⟨j,hj,rfl⟩:=n_.mp hy;have:=ca j hj;exact⟨_,K18.dC (zs:=ls.getD q.toNat []) ∅ ∅,Yv⟩
   ·rw[qy fun j hj=>by have:=ca j hj;lia] at hK
    have e:((bh ls.length ps).map Dt.int).map (UH (ls.getD q.toNat []))=((bh ls.length ps).map (atS (ls.getD q.toNat []))).map .str:=by
     rw[G_,G_];rfl
    rw[e];exact hK
  ·have e:((linesOf ls.length ps).map fun q=>aR (ls.getD q.toNat [])).map (markL (bh ls.length ps))=(iD ls ps).map aR:=by
    unfold iD;rw[G_,G_];refine Zs fun q hq=>qy fun j hj=>?_
    have:=la q hq;have:=ca j hj;have hw:=o.jM _ (getD_mem (xs:=ls) (i:=q.toNat) (a:=[]) ∅)
    lia
   rw[e,a_];exact hR
def Ae {ns:List Nd} (hd:aN 0 ns):∀ i,i<=ns.length->(∀ t j:Nat,(way (ns.take i))[t]? = some (j:Int)->(ns.getD j ("",0)).2=(t:Int))/\∀ j:Nat,(j:Int)∈way (ns.take i)↔j<i/\∀ x,j<x->x<i->(ns.getD j ("",0)).2<(ns.getD x ("",0)).2:=by
 intro i
 induction i with
 | zero =>
  intro _;rw[aat];exact⟨fun t j h=>(nomatch h),fun j=>⟨fun h=>(nomatch h),fun h=>absurd h.1 (Nat.not_lt_zero _)⟩⟩
 | succ i ih =>
  intro hi;obtain⟨Na,QK⟩:=ih ∅;have hn:ns[i]? = some ns[i]:=b_ ∅;have hf:=vY hd hn;have ge:ns.getD i ("",0)=ns[i]:=by rw[B_,hn];rfl
  rw[iQ hn] at hf;rw[du hn];refine⟨fun t j h=>?_,fun j=>?_⟩
  ·rw[List.getElem?_append] at h;by_cases ht:t<((way (ns.take i)).take ns[i].2.toNat).length
   ·rw[z_ ht,acu] at h;split at h
    ·exact Na t j h
    ·exact nomatch h
   ·rw[s_ ht] at h
    have h0:t-((way (ns.take i)).take ns[i].2.toNat).length=0:=by
     rcases acx (t-((way (ns.take i)).take ns[i].2.toNat).length) with h1 | h1
     ·exact h1
     ·rw[ZT (by rw[X_];lia)] at h;exact nomatch h
    rw[h0] at h;have ej:(i:Int)=(j:Int):=by simpa using h
    have:j=i:=by lia
    subst this;rw[ge]
    lia
  ·rw[U_,D_];constructor
   ·rintro (h | h)
    ·obtain⟨t,ht,e⟩:=aaF.mp h
     have e1:(way (ns.take i))[t]? = some (j:Int):=by
      rw[afM] at e;rw[Zm] at ht;rw[b_ ∅,e]
     have d1:=Na t j e1;obtain⟨h1,h2⟩:=(QK j).mp (ZE h);refine⟨∅,fun x hx Zj=>?_⟩;rcases aai x i with Ra | Ra
     ·exact h2 x hx Ra
     ·have:x=i:=by lia
      subst this;rw[ge,d1];rw[Zm] at ht
      lia
    ·have:j=i:=by lia
     subst this;exact⟨∅,fun x h1 h2=>by lia⟩
   ·rintro⟨h1,h2⟩;rcases aai j i with hj | hj
    ·refine .inl ?_;have hm:=(QK j).mpr ⟨hj,fun x a b=>h2 x a ∅⟩;obtain⟨t,ht,e⟩:=aaF.mp hm;have e1:(way (ns.take i))[t]? = some (j:Int):=by rw[b_ ht,e]
     have d1:=Na t j e1;have d2:=h2 i hj ∅;rw[ge,d1] at d2;refine aaF.mpr ⟨t,by rw[Zm];lia,?_⟩;rw[afM];exact e
    ·refine .inr ?_;have:j=i:=by lia
     rw[this]
def GK {ns:List Nd} (hd:aN 0 ns) {k:Nat} (hk:k<ns.length) (j:Nat):(j:Int)∈oW ns k↔j<k/\∀ x,j<x->x<=k->(ns.getD j ("",0)).2<(ns.getD x ("",0)).2:=by
 have hn:ns[k]? = some ns[k]:=b_ hk;have h1:=(Ae hd (k+1) ∅).2 j;rw[du hn,U_,D_,<-iQ hn] at h1;constructor
 ·intro h;have hj:=(((Ae hd k (Z8 hk)).2 j).mp (ZE (by rw[iQ hn] at h;exact h))).1;exact⟨hj,fun x a b=>(h1.mp (.inl h)).2 x a ∅⟩
 ·rintro⟨a,b⟩;rcases h1.mpr ⟨∅,fun x c d=>b x c ∅⟩ with h | h
  ·exact h
  ·lia
def yS {ns:List Nd}:∀ i,i<=ns.length->(way (ns.take i)).Pairwise (·<·):=by
 intro i
 induction i with
 | zero=>intro _;rw[aat];exact acH
 | succ i ih =>
  intro hi;rw[du (b_ (by lia:i<ns.length)),aeO];refine⟨(ih ∅).sublist (adD _ _),List.pairwise_singleton _ _,fun x hx y hy=>?_⟩;rw[D_.mp hy];exact (zA i ∅ x (ZE hx)).2
def yT {ns:List Nd}{k:Nat} (hk:k<ns.length):(oW ns k).Pairwise (·<·):=by
 rw[iQ (b_ hk)];exact (yS k ∅).sublist (adD _ _)
theorem xl {P:Int->Bool}{j:Int}:∀ {l:List Int},l.Pairwise (·<·)->(l.filter fun q=>P q&&decide (j<=q)).length=(l.filter fun q=>P q&&decide (j+1<=q)).length+(if j∈l/\P j=true then 1 else 0)
 | [],_=>by simp
 | x::l,h=>by
  obtain⟨h1,h2⟩:=acs.mp h;have ih:=xl (P:=P) (j:=j) h2;rw[Zz,Zz];rcases Int.lt_trichotomy x j with hx | hx | hx
  ·rw[s_ (by rw[f_ ∅];simp),s_ (by rw[f_ ∅];simp),ih];congr 1;by_cases e:j∈l/\P j=true
   ·rw[z_ e,z_ ⟨by simp [e.1],e.2⟩]
   ·rw[s_ e,s_ fun z=>e ⟨by rcases C_.mp z.1 with q | q;lia;exact q,z.2⟩]
  ·subst hx;have nm:x∉l:=fun z=>by have:=h1 x z;lia
   have f1:(P x&&decide (x<=x))=P x:=by simp
   have f2:(P x&&decide (x+1<=x))=false:=by rw[f_ ∅];simp
   have g1:(if x∈l/\P x=true then 1 else 0)=0:=s_ fun z=>nm z.1
   rw[g1] at ih;rw[f1,f2,s_ u_]
   cases e:P x with
   | true =>
    have g2:(if x∈x::l/\true=true then 1 else 0)=1:=z_ ⟨(3),rfl⟩;rw[g2,z_ rfl,x_,ih]
   | false =>
    have g2:(if x∈x::l/\false=true then 1 else 0)=0:=s_ fun z=>nomatch z.2
    rw[g2,s_ u_,ih]
  ·have f1:(P x&&decide (j<=x))=P x:=by rw[d_ ∅];simp
   have f2:(P x&&decide (j+1<=x))=P x:=by rw[d_ ∅];simp
   have nm:j∉x::l:=fun z=>by rcases C_.mp z with q | q;lia;have:=h1 j q;lia
   have g1:(if j∈l/\P j=true then 1 else 0)=0:=s_ fun z=>nm (by simp [z.1])
   have g2:(if j∈x::l/\P j=true then 1 else 0)=0:=s_ fun z=>nm z.1
   rw[g1] at ih;rw[f1,f2,g2]
   cases e:P x with
   | true=>rw[z_ rfl,z_ rfl,x_,x_,ih]
   | false=>rw[s_ u_,s_ u_,ih]
def qz {x:Int}{zs:List Int}{Q:Bool->Prop} (h:Q (decide (x∈zs))):Bg (.int x) (.lst (zs.map .int)) Q:=by
 refine .inl ⟨zs.map .int,rfl,rfl,by rw[aaY];exact Zn.mpr fun _ _=>rfl,?_⟩;rw[ab8]
 have e:(zs.any ((fun z=>FT z (.int x)) ∘ Dt.int))=decide (x∈zs):=by
  rw[Z6,aan,Zp];constructor
  ·rintro⟨z,h1,h2⟩;have h2:(z==x)=true:=h2;rw[<-aap.mp h2];exact h1
  ·intro h1;exact⟨x,h1,show (x==x)=true from abx x⟩
 rw[e];exact h
def rK {ns:List Nd}{ps:List Int} (o:(Rw.ae ns).Ok) (hp:placesOk 0 (Rw.ae ns).many ps) (hR:R (aF ((Rw.ae ns).left ps)) M):Fn Z cA [.sh (aF (.ae ns)),.sh (.lst (ps.map .int)),.no,.no,.no,.no,.no,.no,.no] M R:=by
 unfold cA;have hp:placesOk 0 (ns.length:Nat) ps:=hp;have pa:=ao hp;have pl:=places_len hp ∅;have HU:ns.length<=40:=o.2;symm;refine cR 1 (1) rfl ?_;left;refine cR 1 (1) rfl ?_;left;refine⟨sz (3),?_⟩;left;refine aw (fun i ρ M'=>M'=M/\∃ o5 o6 o7 o8,ρ=[.sh (aF (.ae ns)),.sh (.lst (ps.map .int)),.no,.no,.ow (.lst (((ps.take i).map (dW ns ps)).map aC)),o5,o6,o7,o8]) ⟨rfl,_,_,_,_,rfl⟩ ?_ ?_
 ·rintro i x ρ M' N' hx ⟨rfl,o5,o6,o7,o8,rfl⟩ eP;rw[g_] at hx;obtain⟨p,V8,rfl⟩:=o_.mp hx;have pm:=y_ V8;obtain⟨p0,p1⟩:=pa p pm;obtain⟨m,rfl⟩:=Zy p0;have hm:m<ns.length:=by lia
  have yP:∀ {q:Nat},q<ns.length->∀ {k:Dt->Prop},k (aC (ns.getD q ("",0)))->ly (.lst (ns.map aC)) q k:=fun {q} hq {k} h=>⟨_,aI (by rw[g_,b_ hq,getD_some (b_ hq)];rfl),h⟩
  and_intros;right;refine⟨_,rfl,yP hm (wG ?_)⟩;subst hN2;right;subst hN2;right;refine⟨∅,∅,?_⟩;rw[p_];have dep:∀ q,(ns.getD q ("",0)).2=(ns.getD q ("",0)).2:=fun _=>rfl
  refine aw (fun t ρ D4=>D4=M'/\t<=m/\∃ (D:Int) (o8:Sl),(∀ x,m-t<=x->x<=m->D<=(ns.getD x ("",0)).2)/\(∃ x,m-t<=x/\x<=m/\(ns.getD x ("",0)).2=D)/\ρ=[.sh (aF (.ae ns)),.sh (.lst (ps.map .int)),.no,.no,.ow (.lst (((ps.take i).map (dW ns ps)).map aC)),.sh (.int m),.sh (.int D),.sh (.int (((oW ns m).filter fun q=>decide (q∈ps)&&decide (((m-t:Nat):Int)<=q)).length:Nat)),o8]) ⟨rfl,aal _,(ns.getD m ("",0)).2,o8,?_,⟨m,∅,t_ _,rfl⟩,?_⟩ ?_ ?_
  ·intro x h1 h2;have:x=m:=by lia
   subst this;exact af1 _
  ·have e:(oW ns m).filter (fun q=>decide (q∈ps)&&decide (((m-0:Nat):Int)<=q))=[]:=by
    rw[aac];intro q hq;have:=tT (Z8 hm) q hq;rw[f_ (show ¬ ((m-0:Nat):Int)<=q by lia)];simp
   rw[e];rfl
  ·rintro t x ρ D4 N3 vR ⟨rfl,ht,D,o8,d1,⟨y,y1,y2,y3⟩,rfl⟩ bw;have Yw:t<m:=by have:=(i_.mp vR).1;rwa [ac9,ah] at this
   have ex:x=.int ((m-t-1:Nat):Int):=by
    rw[aeu (by rw[ah];exact Yw),ah] at vR;obtain⟨_,e⟩:=aE vR;rw[e,Zu,show m-1-t=m-t-1 by lia]
   subst ex;generalize hj:m-t-1=j at *;have V9:j<ns.length:=by lia
   have Qo:(j:Int)∈oW ns m↔(ns.getD j ("",0)).2<D:=by
    rw[GK o.1 hm];constructor
    ·rintro⟨_,q⟩;rw[<-y3];exact q y ∅ y2
    ·intro q;exact⟨∅,fun x x1 x2=>by have:=d1 x ∅ x2;lia⟩
   have st:=xl (P:=fun q=>decide (q∈ps)) (j:=(j:Int)) (yT hm);rw[show (j:Int)+1=((m-t:Nat):Int) by lia] at st;and_intros
   first | refine sqo fun N4 dY=>?_ | (dsimp only;refine sqo fun N4 dY=>?_)
   and_intros;refine⟨_,rfl,yP V9 (wG ?_)⟩;and_intros;have e1:m-(t+1)=j:=by lia
   by_cases lt:(ns.getD j ("",0)).2<D
   ·refine bD (d_ lt) ?_
    first | refine sqo fun N5 Ic=>?_ | (dsimp only;refine sqo fun N5 Ic=>?_)
    and_intros;refine⟨_,rfl,yP V9 (wG ?_)⟩;subst Ic
    first | refine sqo fun N5 Ic=>?_ | (dsimp only;refine sqo fun N5 Ic=>?_)
    and_intros;refine qz ?_;and_intros;subst Ic;subst dY;refine bw _ _ ⟨rfl,∅,_,.sh (.int j),fun x x1 x2=>?_,⟨j,∅,∅,rfl⟩,?_⟩
    ·rcases aai j x with q | q
     ·have:=d1 x ∅ x2;lia
     ·have:x=j:=by lia
      subst this;exact af1 _
    ·rw[st];have q:=Qo.mpr lt;by_cases hk:(j:Int)∈ps
     ·rw[z_ (d_ hk),z_ ⟨q,d_ hk⟩];rfl
     ·rw[s_ (by rw[f_ hk];decide),s_ fun z=>by rw[f_ hk] at z;exact nomatch z.2];simp
   ·refine br (by rw[f_ lt];decide) ?_;subst dY;refine bw _ _ ⟨rfl,∅,D,.sh (.int j),fun x x1 x2=>?_,⟨y,∅,y2,y3⟩,?_⟩
    ·rcases aai j x with q | q
     ·exact d1 x ∅ x2
     ·have:x=j:=by lia
      subst this;lia
    ·rw[st,s_ fun z=>lt (Qo.mp z.1),aca]
  ·rintro ρ D4 ⟨rfl,_,D,o8,_,_,rfl⟩;rw[ac9,ah];subst hN2
   first | refine sqo fun N4 dY=>?_ | (dsimp only;refine sqo fun N4 dY=>?_)
   and_intros;refine⟨_,rfl,yP hm (Gz ⟨sz (3),by rw[a_,a_,Zm];exact wX ∅,?_⟩)⟩;subst dY
   have e2:(oW ns m).filter (fun q=>decide (q∈ps)&&decide (((m-m:Nat):Int)<=q))=kept ps (oW ns m):=by
    unfold kept;refine List.filter_congr fun q hq=>?_
    have:=tT (Z8 hm) q hq;rw[d_ (show ((m-m:Nat):Int)<=q by lia),ZS]
   rw[e2]
   have e3:((ps.take i).map (dW ns ps)).map aC++[.tup [.str (ns.getD m ("",0)).1,.int ((kept ps (oW ns m)).length:Nat)]]=((ps.take (i+1)).map (dW ns ps)).map aC:=by
    rw[eQ V8,F_,F_];rfl
   rw[e3];exact eP _ _ ⟨rfl,_,_,_,_,rfl⟩
 ·rintro ρ M' ⟨rfl,o5,o6,o7,o8,rfl⟩;rw[a_,aa1];left;left;exact⟨sz (3),hR⟩
def xm {r:Rw}{ps:List Int} (o:r.Ok) (hp:placesOk 0 r.many ps) (hR:R (aF (r.left ps)) M):Fn Z cA [.sh (aF r),.sh (.lst (ps.map .int)),.no,.no,.no,.no,.no,.no,.no] M R:=by
 cases r with
 | ae ns=>exact rK o hp hR
 | row zs=>exact jw o hp (fun _ z=>nomatch z) hR
 | table w ls=>exact jw o hp (fun _ z=>nomatch z) hR
noncomputable def cX:List Str:=["halves","trees","ones","marks"]
noncomputable def bY (l:List Int):Dt:=.lst (l.map .int)
def ij (p:bH):Prop:=∀ (z:Str) M R,z∈cX->R .az M->p [.str z] M R
def lU {x:Str}{zs:List Str}:((zs.map Dt.str).any fun z=>FT z (.str x))=decide (x∈zs):=by
 rw[ab8,Z6,aan,Zp];constructor
 ·rintro⟨z,hz,q⟩;have:z=x:=by simpa [FT,Ka,AK] using q
  rw[<-this];exact hz
 ·exact fun h=>⟨x,h,by simp [FT,Ka,AK]⟩
def uS (g:GB Z) {z:Str} (hz:z∈cX) (hR:R .az M):Fn Z gV [.sh (.str z)] M R:=by
 unfold gV;symm;rw[g.cs];refine .inl ⟨cX.map .str,rfl,rfl,by rw[aaY];exact Zn.mpr fun _ _=>rfl,?_⟩;rw[lU,d_ hz];refine br (2) ?_;subst hN;exact hR
def uT:∀ {zs:List Str},zs.Nodup->bM zs=zs:=by
 intro zs;suffices ∀ (zs acc:List Str),(acc++zs).Nodup->zs.foldl iS acc=acc++zs from fun h=>this zs [] (by simpa using h)
 intro zs
 induction zs with
 | nil=>intro acc _;simp
 | cons z zs ih =>
  intro acc h
  have nm:z∉acc:=fun q=>by
   rw[adF] at h;exact (h.2.2 z q z (3)) rfl
  have e:iS acc z=acc++[z]:=by unfold iS;rw[s_ (by simpa using nm)]
  rw[abP,e,ih _ (by simpa using h)];simp
def jU (p:bH):Prop:=∀ (zs:List Str) M R,zs≠[]->zs.Nodup->zs.length<64->(∀ z∈zs,z∈cX)->R .az M->p [.lst '1'] M R
def rL (UI:ij (Z.fn 42)) {zs:List Str} (h0:zs≠[]) (hn:zs.Nodup) (hl:zs.length<64) (hz:∀ z∈zs,z∈cX) (hR:R .az M):Fn Z fH [.sh (.lst '1'),.no] M R:=by
 unfold fH;have e0:(zs.map Dt.str).isEmpty=false:=by cases zs with | nil=>exact absurd rfl h0 | cons _ _=>rfl
 symm;rw[e0];left;refine aw (fun i ρ M'=>M'=M/\∃ o,ρ=[.sh (.lst '1'),o]) ⟨rfl,_,rfl⟩ ?_ ?_
 ·rintro i x ρ M' N' hx ⟨rfl,o,rfl⟩ eP;rw[g_] at hx;obtain⟨z,Yx,rfl⟩:=o_.mp hx;and_intros;right;refine UI z _ _ (hz z (y_ Yx)) ?_;subst hN2;exact eP _ _ ⟨rfl,_,rfl⟩
 ·rintro ρ M' ⟨rfl,o,rfl⟩;left;refine⟨zs,rfl,hl,?_⟩;and_intros;rw[uT hn,a_];refine br (by rw[f_ ∅];decide) ?_;subst hN;exact hR
def nz (p:bH):Prop:=∀ (ps:List Int) (s:Nat) M R,ps.length<=40->1<=s->s<=40->R (.lst ((cG s ps).map bY)) M->p [bY ps,.int s] M R
def vJ {xs:List Dt}{a s:Nat}:cutD xs (some (a:Int)) (some ((a:Int)+(s:Int)))=(xs.drop a).take s:=by
 rw[<-ZA];unfold cutD;rw[HT.jB,HT.jB];rcases aef a xs.length with h | h
 ·rw[aax h];rcases aef (a+s) xs.length with h2 | h2
  ·rw[aax h2,adZ]
  ·rw[acU h2,ZR (by rw[Z9];exact t_ _),ZR (by rw[Z9];lia)]
 ·rw[acU h,acJ h,acJ (t_ _),List.take_nil,List.take_nil]
def xn {ps:List Int}{s:Nat} (hl:ps.length<=40) (h1:1<=s) (h2:s<=40) (hR:R (.lst ((cG s ps).map bY)) M):Fn Z i6 [.sh (bY ps),.sh (.int s)] M R:=by
 unfold i6 bY;symm;rw[a_];refine⟨ps.length,s,rfl,⟨∅,∅,∅,∅⟩,fun n hn=>?_⟩
 have en:n=jO s ps.length:=by
  have this:∀ i:Nat,i<n↔i<jO s ps.length:=fun i=>(hn i).trans ((by rw[<-ZV,Int.ofNat_lt]:(i:Int)*(s:Int)<(ps.length:Int)↔i*s<ps.length).trans (pe h1).symm)
  rcases Nat.lt_trichotomy n (jO s ps.length) with h | h | h
  ·exact absurd ((this n).mpr h) (ZK _)
  ·exact h
  ·exact absurd ((this _).mp h) (ZK _)
 subst en;have hc:=tY (n:=ps.length) h1;refine⟨by rw[a_,K_];exact sz ∅,comp_map (fun d=>match d with | .int q=>bY ((ps.drop q.toNat).take s) | _=>.az) (4) ?_⟩
 ·obtain⟨i,hi,rfl⟩:=n_.mp hx;and_intros;rw[show (i:Int)*(s:Int)=((i*s:Nat):Int) by rw[ZV]] at hK ⊢;rw[vJ,<-acX,<-abS];dsimp only at hK;rw[p_] at hK;exact hK
 ·unfold cG at hR;rw[G_] at hR ⊢;refine (congrArg (fun l=>R (.lst l) M) (Zs fun i _=>?_)).mp hR;show bY _=bY _;rw[show (i:Int)*(s:Int)=((i*s:Nat):Int) by rw[ZV],p_]
noncomputable def Rk (ps:List Int) (b:Bool):Dt->m_ Dt
 | .int q=>if (b ^^ decide (q∈ps))=true then some (.int q) else none
 | _=>none
def yU {ps:List Int}{b:Bool}{q:Int}:Rk ps b (.int q)=if (b ^^ decide (q∈ps))=true then some (.int q) else none:=rfl
theorem uU {ps:List Int}{b:Bool}:∀ qs:List Int,(qs.map Dt.int).filterMap (Rk ps b)=(qs.filter fun q=>b ^^ decide (q∈ps)).map Dt.int
 | []=>rfl
 | q::qs=>by
  rw[r_,Zw,uU qs,Zz,yU];by_cases e:(b ^^ decide (q∈ps))=true
  ·rw[z_ e,z_ e];rfl
  ·rw[s_ e,s_ e]
def tw (p:bH):Prop:=∀ (qs ps:List Int) M R,qs.length<=1000->R (bY (qs.filter fun q=>decide (q∈ps))) M->p [bY qs,bY ps] M R
def By {qs ps:List Int} (hl:qs.length<=1000) (hR:R (bY (qs.filter fun q=>decide (q∈ps))) M):Fn Z mH [.sh (bY qs),.sh (bY ps)] M R:=by
 unfold mH bY;symm;refine⟨by rw[a_];exact sz hl,bz (Rk ps false) (4) ?_⟩
 ·obtain⟨q,hq,rfl⟩:=n_.mp hx;and_intros;refine qz ?_;rw[yU,agz] at hK;by_cases e:q∈ps
  ·rw[d_ e] at hK;exact bD (d_ e) hK
  ·rw[f_ e] at hK;exact br (7) hK
 ·rw[uU];simp only[agz];exact hR
def mT (p:bH):Prop:=∀ (qs ps:List Int) M R,qs.length<=1000->R (bY (qs.filter fun q => !decide (q∈ps))) M->p [bY qs,bY ps] M R
def Bz {qs ps:List Int} (hl:qs.length<=1000) (hR:R (bY (qs.filter fun q => !decide (q∈ps))) M):Fn Z mJ [.sh (bY qs),.sh (bY ps)] M R:=by
 unfold mJ bY;symm;refine⟨by rw[a_];exact sz hl,bz (Rk ps true) (4) ?_⟩
 ·obtain⟨q,hq,rfl⟩:=n_.mp hx;and_intros;refine qz ?_;rw[yU,Bool.true_xor] at hK;by_cases e:q∈ps
  ·rw[d_ e] at hK;exact br (by rw[d_ e];decide) hK
  ·rw[f_ e] at hK;exact bD (7) hK
 ·rw[uU];simp only[Bool.true_xor];exact hR
def tx (p:bH):Prop:=∀ (ps:List Int) M R,ps.length<=1000->R (.lst ((ps.map fun p=>[p]).map bY)) M->p [bY ps] M R
def BA {ps:List Int} (hl:ps.length<=1000) (hR:R (.lst ((ps.map fun p=>[p]).map bY)) M):Fn Z mI [.sh (bY ps)] M R:=by
 unfold mI bY;symm;refine⟨by rw[a_];exact sz hl,comp_map (fun d=>.lst [d]) (4) ?_⟩
 ·exact⟨sz (3),hK⟩
 ·rw[G_] at hR ⊢;exact hR
def Af {xs:List Dt}{x:Dt}:n6 (xs++[x]) (-1)=some x:=by
 unfold n6 EC;rw[s_ (2),z_ (by rw[A_,X_];lia),Option.bind_some];rw[show ((-1:Int)+((xs++[x]).length:Nat)).toNat=xs.length by rw[A_,X_];lia,Zx (t_ _),Nat.sub_self];rfl
def Ag (p:bH):Prop:=∀ (n:Nat) M R,n<=40->R (.lst ((fm n).map dN)) M->p [.int n] M R
def uV {n:Nat} (hn:n<=40) (hR:R (.lst ((fm n).map dN)) M):Fn Z gW [.sh (.int n),.no] M R:=by
 unfold gW;symm;by_cases e:(n:Int)=0
 ·refine bD (d_ e) ?_
  first | refine sqo fun N2 hN2=>?_ | (dsimp only;refine sqo fun N2 hN2=>?_)
  have:n=0:=by lia
  subst this;exact⟨sz (3),hR⟩
 refine br (7) ?_;left;refine⟨sz (3),?_⟩;left;refine⟨fun m ρ M'=>M'=M/\∃ (B:List Nat) (k f:Nat),m=k/\1<=k/\k<=f/\B.length+k<=50/\fm n=B++v5 f k/\ρ=[.sh (.int n),.ow (.lst (B.map dN++[dN k]))],⟨n,rfl,[],n,n,rfl,∅,t_ _,by simp;lia,rfl,rfl⟩,?_⟩;rintro m ρ M' ⟨rfl,B,k,f,rfl,h1,hf,hB,hs,rfl⟩;obtain⟨f',q1,q2⟩:=Bc (f:=f) (n:=m) ∅ hf;and_intros;refine⟨_,Af,?_⟩;show if decide ((1:Int)<(m:Int))=true then _ else _
 by_cases e1:1<m
 ·refine bD (d_ ∅) ?_;right;refine⟨_,Af,?_⟩;show B3 _ _/\_;refine⟨⟨(2),(2)⟩,by rw[A_,a_,X_];exact wX ∅,?_⟩;subst hN2;rw[s_ (by lia:¬ m=1)] at q1 q2;have e2:((m:Int)+1) / 2=(((m+1) / 2:Nat):Int):=by lia
  refine⟨(m+1) / 2,∅,rfl,B++[m],(m+1) / 2,f',rfl,∅,q1,by rw[A_,X_];lia,by rw[hs,q2,abk];rfl,?_⟩;rw[e2,F_];rfl
 ·refine br (by rw[f_ ∅];decide) ?_;have e2:m=1:=by lia
  subst e2;rw[z_ rfl] at q2;left;left;rw[hs,q2,F_] at hR;exact hR
def nA (p:bH):Prop:=∀ (ps:List Int) M R,ps.length<=40->R (.lst ((jE ps).map bY)) M->p [bY ps] M R
def xo (Yy:Ag (Z.fn 44)) (Yz:nz (Z.fn 45)) {ps:List Int} (hl:ps.length<=40) (hR:R (.lst ((jE ps).map bY)) M):Fn Z i7 [.sh (bY ps),.no,.no] M R:=by
 unfold i7;obtain⟨s7,sk⟩:=sy _ hl;symm;refine⟨sz (3),?_⟩;left;unfold bY;and_intros;rw[a_];refine Yy _ _ _ hl ?_;and_intros;refine aw (fun i ρ M'=>M'=M/\∃ o,ρ=[.sh (bY ps),.ow (.lst ((((fm ps.length).take i).flatMap fun s=>cG s ps).map bY)),o]) ⟨rfl,_,rfl⟩ ?_ ?_
 ·rintro i x ρ M' N' hx ⟨rfl,o,rfl⟩ eP;rw[g_] at hx;obtain⟨s,hs,rfl⟩:=o_.mp hx;have hm:=sk s (y_ hs);have hi:=(i_.mp hs).1;unfold dN;and_intros;right;refine Yz ps s _ _ hl hm.1 hm.2 ?_;and_intros;have fw:=v7 hl ((fm ps.length).take i) fun s hs=>(sk s (ZE hs)).1
  have cl:=tY (n:=ps.length) hm.1;refine⟨by rw[a_,a_,iT];refine sz ?_;have:=ac_ i (fm ps.length);lia,?_⟩;subst hN2;rw[<-F_];refine eP _ _ ⟨rfl,.sh (.int s),?_⟩;rw[List.take_succ,hs,List.flatMap_append,Option.toList_some,List.flatMap_singleton]
 ·rintro ρ M' ⟨rfl,o,rfl⟩;rw[a_,aa1];left;left;exact hR
noncomputable def GL (ps:List Int) (q:Int):Int:=ps.getD q.toNat 0
def Lx {ps:List Int}{q:Int} (h0:0<=q) (h1:q<ps.length):n6 (ps.map Dt.int) q=some (.int (GL ps q)):=by
 obtain⟨n,rfl⟩:=Zy h0;refine aI ?_;unfold GL;have hn:n<ps.length:=by lia
 rw[g_,p_,B_,b_ hn];rfl
def iG (p:bH):Prop:=∀ (qs ps:List Int) M R,(∀ q∈qs,0<=q/\q<ps.length)->qs.length<=1000->R (bY (qs.map (GL ps))) M->p [bY qs,bY ps] M R
def nO {qs ps:List Int} (hp:∀ q∈qs,0<=q/\q<ps.length) (hl:qs.length<=1000) (hR:R (bY (qs.map (GL ps))) M):Fn Z dI [.sh (bY qs),.sh (bY ps)] M R:=by
 unfold dI bY;symm;refine⟨by rw[a_];exact sz hl,comp_map (fun d=>match d with | .int q=>.int (GL ps q) | _=>.az) (4) ?_⟩
 ·obtain⟨q,hq,rfl⟩:=n_.mp hx;obtain⟨h0,h1⟩:=hp q hq;and_intros;exact⟨_,Lx h0 h1,hK⟩
 ·unfold bY at hR;rw[G_] at hR ⊢;exact hR
def iH (p:bH):Prop:=∀ (zs:List Str) M R,zs.length<=900->R (.lst ((bM zs).map .str)) M->p [.lst '1'] M R
def nP {zs:List Str} (hl:zs.length<=900) (hR:R (.lst ((bM zs).map .str)) M):Fn Z dH [.sh (.lst '1')] M R:=by
 unfold dH;symm;refine⟨by rw[a_];exact sz ∅,comp_map (fun d=>.tup [d,.bl true]) (4) ?_⟩
 ·exact⟨sz (3),hK⟩
 ·refine⟨zs,by rw[G_];rfl,hl,hR⟩
noncomputable def Ah:Rw->Nat->List Int
 | .ae ns,i=>jo i (aT ns i+1)
 | _,i=>[(i:Int)]
def Ly {i n:Nat}:(jo i n).map Dt.int=bO i n:=by
 unfold jo bO;rw[G_];refine Zs fun k _=>?_
 show Dt.int ((i+k:Nat):Int)=Dt.int ((i:Int)+(k:Int));rw[ZA]
def Ea (p:bH):Prop:=∀ (r:Rw) (i:Nat) M R,r.Ok->i<r.many->R (bY (Ah r i)) M->p [bf r,.int i] M R
def rM {d:Dt}{i:Nat} (hR:R (bY [(i:Int)]) M):Fn Z fC [.sh d,.sh (.int i)] M R:=by
 unfold fC;symm;exact⟨sz (3),hR⟩
def nQ {d:Dt}{i:Nat} (hR:R (bY [(i:Int)]) M):Fn Z dG [.sh d,.sh (.int i)] M R:=by
 unfold dG;symm;exact⟨sz (3),hR⟩
noncomputable def mU (ls:List (List Str)) (m:Str):List Int:=(ls.zipIdx.filter fun p=>decide (m∈p.1)).map fun p=>(p.2:Int)
noncomputable def kI:Rw->Str->List Int
 | .table _ ls,m=>mU ls m
 | r,m=>jS r.names m
def xp (p:bH):Prop:=∀ (r:Rw) (m:Str) M R,r.Ok->R (bY (kI r m)) M->p [bf r,.str m] M R
noncomputable def Eb (f:Dt->Bool):Dt->m_ Dt
 | .tup [i,l]=>if f l=true then some i else none
 | _=>none
def xq {f:Dt->Bool}{i l:Dt}:Eb f (.tup [i,l])=if f l=true then some i else none:=rfl
noncomputable def GN (m:Str):Dt->Bool
 | .tup ds=>ds.any fun z=>FT z (.str m)
 | _=>false
theorem nB {m:Str}:∀ (ls:List (List Str)) (k:Nat),(((ls.map cW).zipIdx k).map fun p=>Dt.tup [.int (p.2:Int),p.1]).filterMap (Eb (GN m))=(((ls.zipIdx k).filter fun p=>decide (m∈p.1)).map fun p=>(p.2:Int)).map Dt.int
 | [],k=>rfl
 | l::ls,k=>by
  have e0:GN m (cW l)=decide (m∈l):=lU;rw[r_,abB,r_,Zw,nB ls (k+1),abB,Zz,xq,e0];by_cases e:m∈l
  ·rw[d_ e];rfl
  ·rw[f_ e];rfl
def mV (g:GB Z) {w:Nat}{ls:List (List Str)}{m:Str} (hl:ls.length<=1000) (hR:R (bY (mU ls m)) M):Fn Z cZ [.sh (bf (.table w ls)),.sh (.str m)] M R:=by
 unfold cZ bf;symm;refine Gy g ?_;and_intros;refine⟨by rw[a_,aa6,a_];exact sz hl,bz (Eb (GN m)) (4) ?_⟩
 ·obtain⟨⟨d,k⟩,hp,rfl⟩:=n_.mp hx;have hd:=(agd hp).2.2
  obtain⟨l,hz,rfl⟩:∃ l,l∈ls/\d=cW l:=by
   have:=n_.mp (show d∈ls.map cW by rw[hd];exact aaC _);obtain⟨z,h1,h2⟩:=this;exact⟨z,h1,h2.symm⟩
  and_intros;refine .inl ⟨l.map .str,rfl,rfl,by rw[aaY];exact Zn.mpr fun _ _=>rfl,?_⟩;dsimp only at hK;rw[xq,show GN m (cW l)=decide (m∈l) from lU] at hK;rw[lU];by_cases e:m∈l
  ·rw[d_ e] at hK ⊢;exact hK
  ·rw[f_ e] at hK ⊢;exact hK
 ·rw[nB];exact hR
noncomputable def qA (r:Rw) (ps:List Int):List (List Int):=ps.map fun p=>(Ah r p.toNat).filter fun q=>decide (q∈ps)
noncomputable def qB (r:Rw) (ps:List Int):List (List Int):=(bM (r.left ps).names).map fun m=>(kI (r.left ps) m).map (GL ps)
noncomputable def cU (r:Rw) (ps:List Int) (z:Str):List (List Int):=if z = "halves" then jE ps else if z = "trees" then qA r ps else if z = "ones" then ps.map fun p=>[p] else qB r ps
def fg {r:Rw} (o:r.Ok):r.many<=40:=by
 cases r with
 | row zs=>exact o.2
 | ae ns=>exact o.2
 | table w ls=>have o:aD w ls:=o;show ls.length+w<=40;have:=o.len;have:=o.DJ;lia
def Ec {r:Rw}{i:Nat} (o:r.Ok) (hi:i<r.many):(Ah r i).length<=1000:=by
 cases r with
 | row zs=>show 1<=1000;decide
 | table w ls=>show 1<=1000;decide
 | ae ns =>
  have:=jG ns i;have:=o.2;show (jo i (aT ns i+1)).length<=1000;unfold jo;rw[a_,K_]
  lia
def qC (p:bH):Prop:=∀ (r:Rw) (ps:List Int) M R,r.Ok->placesOk 0 r.many ps->R (.lst ((qA r ps).map bY)) M->p [bf r,bY ps] M R
def yV (h:Z.hm=uI) (GA:Ea (Z.me 15)) (YA:tw (Z.fn 47)) {r:Rw}{ps:List Int} (o:r.Ok) (hp:placesOk 0 r.many ps) (hR:R (.lst ((qA r ps).map bY)) M):Fn Z km [.sh (bf r),.sh (bY ps)] M R:=by
 have pa:=ao hp;have pl:=places_len hp ∅;have Lz:=fg o;unfold km;rw[bY];symm;refine⟨by rw[a_];exact sz ∅,comp_map (fun d=>match d with | .int q=>bY ((Ah r q.toNat).filter fun q=>decide (q∈ps)) | _=>.az) (4) ?_⟩
 ·obtain⟨q,hq,rfl⟩:=n_.mp hx;obtain⟨i,rfl⟩:=Zy (pa q hq).1;have hi:i<r.many:=by have:=(pa _ hq).2;lia
  dsimp only at hK;rw[p_] at hK;and_intros;rw[b7];exact⟨dX h ∅ _,GA r i _ _ o hi (YA _ ps _ _ (Ec o hi) hK)⟩
 ·unfold qA at hR;rw[G_] at hR ⊢;exact hR
def xt {r:Rw}{ps:List Int}{m:Str} (o:r.Ok) (hp:placesOk 0 r.many ps):∀ q∈kI (r.left ps) m,0<=q/\q<ps.length:=fun q hq=>by
 cases r with
 | row zs =>
  obtain⟨i,rfl,h⟩:=bI.mp hq;have hi:=(i_.mp h).1;change i<(ps.map (atS zs)).length at hi;rw[a_] at hi
  lia
 | ae ns =>
  obtain⟨i,rfl,h⟩:=bI.mp hq;have hi:=(i_.mp h).1;change i<((nh ns ps).map (·.1)).length at hi;rw[a_,show (nh ns ps).length=ps.length from a_ _] at hi
  lia
 | table w ls =>
  change q∈mU (iD ls ps) m at hq;unfold mU at hq;obtain⟨⟨l,i⟩,h,rfl⟩:=n_.mp hq;have h1:=aaP.mp (Z5.mp h).1;have hi:=(i_.mp h1).1;dsimp only at hi ⊢;rw[show (iD ls ps).length=(linesOf ls.length ps).length from a_ _] at hi;have:=vK (n:=ls.length) ps
  lia
def yW {r:Rw}{m:Str}:(kI r m).length<=r.names.length+(match r with | .table _ ls=>ls.length | _=>0):=by
 cases r with
 | row zs=>exact sM
 | ae ns=>exact sM
 | table w ls =>
  show (mU ls m).length<=_+ls.length;unfold mU;rw[a_];refine R_ (abU _ _) ?_;rw[aa6]
  lia
def BB {r:Rw}{m:Str} (o:r.Ok):(kI r m).length<=1000:=by
 have h:=yW (r:=r) (m:=m);have n:=cC o
 cases r with
 | row zs=>dsimp only at h;lia
 | ae ns=>dsimp only at h;lia
 | table w ls=>have o:aD w ls:=o;have:=o.len;dsimp only at h;lia
def pd (acc:List Str) (z:Str):(iS acc z).length<=acc.length+1:=by
 unfold iS;split
 ·lia
 ·rw[A_];exact t_ _
def gC (zs:List Str):(bM zs).length<=zs.length:=by
 unfold bM;suffices ∀ acc:List Str,(zs.foldl iS acc).length<=acc.length+zs.length by simpa using this []
 induction zs with
 | nil=>intro acc;exact t_ _
 | cons z zs ih =>
  intro acc;have:=ih (iS acc z);have:=pd acc z;rw[abP,x_]
  lia
def qE (p:bH):Prop:=∀ (r:Rw) (ps:List Int) M R,r.Ok->placesOk 0 r.many ps->R (.lst ((qB r ps).map bY)) M->p [bf r,bY ps] M R
def yX (h:Z.hm=uI) (p6:uz (Z.me 6)) (Lh:yI (Z.me 10)) (qa:xp (Z.me 12)) (YB:iH (Z.fn 50)) (YC:iG (Z.fn 51)) {r:Rw}{ps:List Int} (o:r.Ok) (hp:placesOk 0 r.many ps) (hR:R (.lst ((qB r ps).map bY)) M):Fn Z kn [.sh (bf r),.sh (bY ps),.no] M R:=by
 have ol:=dq o hp;have nl:=cC ol;unfold kn;symm;rw[b7];refine⟨dX h ∅ _,Lh r ps _ _ o hp ?_⟩;left;rw[b7];refine⟨dX h ∅ _,p6 _ _ _ (YB _ _ _ ∅ ?_)⟩;and_intros;refine⟨by rw[a_];have:=gC (r.left ps).names;exact sz ∅,comp_map (fun d=>match d with | .str m=>bY ((kI (r.left ps) m).map (GL ps)) | _=>.az) (4) ?_⟩
 ·obtain⟨m,_,rfl⟩:=n_.mp hx;and_intros;rw[b7];exact⟨dX h ∅ _,qa _ m _ _ ol (YC _ ps _ _ (xt o hp) (BB ol) hK)⟩
 ·unfold qB at hR;rw[G_] at hR ⊢;exact hR
def xu (p:bH):Prop:=∀ (z:Str) (r:Rw) (ps:List Int) M R,z∈cX->r.Ok->placesOk 0 r.many ps->R (.lst ((cU r ps z).map bY)) M->p [.str z,bf r,bY ps] M R
def Ed (h:Z.hm=uI) (p7:bW (Z.fn 7)) (p9:hJ (Z.me 9)) (UI:ij (Z.fn 42)) (YD:nA (Z.fn 46)) (YE:qC (Z.fn 48)) (YF:tx (Z.fn 49)) (YG:qE (Z.fn 52)) {z:Str}{r:Rw}{ps:List Int} (hz:z∈cX) (o:r.Ok) (hp:placesOk 0 r.many ps) (hR:R (.lst ((cU r ps z).map bY)) M):Fn Z pO [.sh (.str z),.sh (bf r),.sh (bY ps)] M R:=by
 have pl:=places_len hp ∅;have Lz:=fg o;unfold pO;unfold cU at hR;symm;refine UI z _ _ hz ?_;left;rw[b7];refine⟨dX h ∅ _,p9 _ _ _ (p7 ps _ _ _ hp ?_)⟩;left;by_cases e1:z = "halves"
 ·refine bD (d_ e1) ?_
  first | refine sqo fun N2 hN2=>?_ | (dsimp only;refine sqo fun N2 hN2=>?_)
  rw[z_ e1] at hR;exact YD ps _ _ ∅ hR
 refine br (by rw[f_ e1];decide) ?_;rw[s_ e1] at hR;left;by_cases e2:z = "trees"
 ·refine bD (d_ e2) ?_
  first | refine sqo fun N2 hN2=>?_ | (dsimp only;refine sqo fun N2 hN2=>?_)
  rw[z_ e2] at hR;exact YE r ps _ _ o hp hR
 refine br (by rw[f_ e2];decide) ?_;rw[s_ e2] at hR;left;by_cases e3:z = "ones"
 ·refine bD (d_ e3) ?_
  first | refine sqo fun N2 hN2=>?_ | (dsimp only;refine sqo fun N2 hN2=>?_)
  rw[z_ e3] at hR;exact YF ps _ _ ∅ hR
 refine br (by rw[f_ e3];decide) ?_;rw[s_ e3] at hR;left;exact YG r ps _ _ o hp hR
noncomputable def minus (ps g:List Int):List Int:=ps.filter fun q => !decide (q∈g)
def BD {ps g:List Int}{q:Int}:q∈minus ps g↔q∈ps/\q∉g:=by
 unfold minus;rw[Z5];simp
def xw {ps g:List Int}{m:Int} (h:placesOk 0 m ps):placesOk 0 m (minus ps g):=by
 rw[d7] at h ⊢;exact⟨fun p hp=>h.1 p (BD.mp hp).1,h.2.sublist aeZ⟩
def Ee {ps g:List Int}{p:Int} (h:p∈ps) (hg:p∈g):(minus ps g).length<ps.length:=by
 unfold minus;exact List.length_filter_lt_length_iff_exists.mpr ⟨p,h,by simpa using hg⟩
def GO {ps:List Int}{q:Int} (h0:0<=q) (h1:q<ps.length):GL ps q∈ps:=by
 unfold GL;exact getD_mem ∅
def yY {z:Str}{zs:List Str} (h:z∈bM zs):z∈zs:=by
 unfold bM at h
 have:∀ (zs acc:List Str),z∈zs.foldl iS acc->z∈acc∨z∈zs:=fun zs=>by
  induction zs with
  | nil=>exact fun acc h=>.inl h
  | cons y zs ih =>
   intro acc h;rw[abP] at h;rcases ih _ h with h | h
   ·unfold iS at h;split at h
    ·exact .inl h
    ·rcases U_.mp h with h | h
     ·exact .inl h
     ·exact .inr (by rw[D_.mp h];simp)
   ·exact .inr (by simp [h])
 rcases this zs [] h with h | h
 ·exact nomatch h
 ·exact h
def BE {r:Rw}{ps:List Int}{z:Str} (o:r.Ok) (hp:placesOk 0 r.many ps):∀ g∈cU r ps z,∃ p∈ps,p∈g:=fun g hg=>by
 have pa:=ao hp;have pl:=places_len hp ∅;have Lz:=fg o;unfold cU at hg;split at hg
 ·unfold jE at hg;obtain⟨s,hs,hg⟩:=afY.mp hg;have h1:=((sy _ (show ps.length<=40 by lia)).2 s hs).1;unfold cG at hg;obtain⟨i,hi,rfl⟩:=n_.mp hg;have hi:=(pe h1).mp (Zv.mp hi)
  have e:((ps.drop (i*s)).take s)[0]? = some ps[i*s]:=by
   rw[acu,z_ ∅,aak,aca,b_ hi]
  exact⟨_,aaC hi,y_ e⟩
 ·split at hg
  ·obtain⟨p,iM,rfl⟩:=n_.mp hg;refine⟨p,iM,Z5.mpr ⟨?_,d_ iM⟩⟩;have h0:=(pa p iM).1
   cases r with
   | row zs=>show p∈[((p.toNat:Nat):Int)];rw[ae0 h0];simp
   | table w ls=>show p∈[((p.toNat:Nat):Int)];rw[ae0 h0];simp
   | ae ns =>
    show p∈jo p.toNat (aT ns p.toNat+1);unfold jo;exact n_.mpr ⟨0,Zv.mpr ∅,∅⟩
  ·split at hg
   ·obtain⟨p,iM,rfl⟩:=n_.mp hg;exact⟨p,iM,(3)⟩
   ·obtain⟨m,hm,rfl⟩:=n_.mp hg;have hm:=yY hm
    obtain⟨q,hq⟩:∃ q,q∈kI (r.left ps) m:=by
     cases hr:r.left ps with
     | row zs =>
      rw[hr] at hm;obtain⟨i,h⟩:=Y_.mp hm;exact⟨_,bI.mpr ⟨i,rfl,h⟩⟩
     | ae ns =>
      rw[hr] at hm;obtain⟨i,h⟩:=Y_.mp hm;exact⟨_,bI.mpr ⟨i,rfl,h⟩⟩
     | table w ls =>
      rw[hr] at hm;obtain⟨l,hl,hm⟩:=afX.mp hm;obtain⟨i,h⟩:=Y_.mp hl;exact⟨_,n_.mpr ⟨(l,i),Z5.mpr ⟨aaP.mpr h,d_ hm⟩,rfl⟩⟩
    obtain⟨h0,h1⟩:=xt o hp q hq;exact⟨_,GO h0 h1,n_.mpr ⟨q,hq,rfl⟩⟩
theorem lW {α:Type}:∀ {xs L:List α},xs.Nodup->(∀ x∈xs,x∈L)->xs.length<=L.length
 | [],_,_,_=>aal _
 | x::xs,L,hn,h=>by
  haveI:DecidableEq α:=fun _ _=>abD _
  obtain⟨h1,h2⟩:=abM.mp hn;have hx:=h x (3);have:=lW (L:=L.erase x) h2 fun y hy=>(List.mem_erase_of_ne (a:=y) (b:=x) fun z=>h1 (by rw[<-z];exact hy)).mpr (h y (by simp [hy]))
  have l1:=List.length_erase_of_mem hx;have l2:=abL hx;rw[x_]
  lia
def Ef:∀ n≤40,((fm n).map fun s=>jO s n).sum<=3*n:=by decide
def yZ {ps:List Int} (h:ps.length<=40):(jE ps).length<=3*ps.length:=by
 unfold jE;rw[List.length_flatMap];simp only[iT];exact Ef _ h
def Eg {r:Rw}{ps:List Int} (o:r.Ok) (hp:placesOk 0 r.many ps):(r.left ps).names.length<=r.names.length:=by
 have pl:=places_len hp ∅
 cases r with
 | row zs =>
  show (ps.map (atS zs)).length<=zs.length;change (ps.length:Int)<=(zs.length:Nat)-0 at pl;rw[a_];lia
 | ae ns =>
  show ((nh ns ps).map (·.1)).length<=(ns.map (·.1)).length;change (ps.length:Int)<=(ns.length:Nat)-0 at pl;rw[a_,a_,show (nh ns ps).length=ps.length from a_ _];lia
 | table w ls =>
  have iM:placesOk 0 ((ls.length:Int)+(w:Int)) ps:=by have:=hp;rwa [show ((Rw.table w ls).many:Int)=(ls.length:Int)+(w:Int) from ZA _ _] at this
  have l1:=dr (n:=ls.length) iM;have l2:=eC (n:=ls.length) iM;have ol:aD _ (iD ls ps):=dq o hp;have o:aD w ls:=o;show (iD ls ps).flatten.length<=ls.flatten.length;rw[fV ol.jM,fV o.jM,show (iD ls ps).length=(linesOf ls.length ps).length from a_ _];exact aa7 ∅ ∅
noncomputable def y4 (r:Rw):Nat:=3*r.many+r.names.length
def y6 {r:Rw}{ps:List Int}{z:Str} (o:r.Ok) (hp:placesOk 0 r.many ps):(cU r ps z).length<=y4 r:=by
 have pl:=places_len hp ∅;have Lz:=fg o;have hh:=yZ (show ps.length<=40 by lia);have fl:=gC (r.left ps).names;have nl:=Eg o hp;unfold cU y4;split
 ·lia
 ·split
  ·unfold qA;rw[a_];lia
  ·split
   ·rw[a_];lia
   ·unfold qB;rw[a_];lia
noncomputable def xx (r:Rw) (zs:List Str) (ps:List Int):List Rw:=(zs.flatMap (cU r ps)).map fun g=>r.left (minus ps g)
theorem qF {r:Rw}{ps:List Int} (o:r.Ok) (hp:placesOk 0 r.many ps):∀ zs:List Str,(xx r zs ps).length<=zs.length*y4 r
 | []=>aal _
 | z::zs=>by
  have h1:=y6 (z:=z) o hp;have h2:=qF o hp zs;unfold xx at h2 ⊢;rw[a_] at h2 ⊢;rw[afF,A_,x_,adI,adJ]
  lia
def Eh {r:Rw}{ps g:List Int}{z:Str}{zs:List Str} (hz:z∈zs) (hg:g∈cU r ps z):r.left (minus ps g)∈xx r zs ps :=
 n_.mpr ⟨g,afY.mpr ⟨z,hz,hg⟩,rfl⟩
structure mW (M:Mem) (r:Rw) (f:Flt) (a b:Addr) (L:List Rw) (qs:List (List Int)):Prop where
 at_:iF M r f a b (SH.upTo r.many::qs)
 nd:((SH.upTo r.many::qs).map r.left).Nodup
 ok:∀ ps∈SH.upTo r.many::qs,placesOk 0 r.many ps
 mem:∀ x∈(SH.upTo r.many::qs).map r.left,x∈L
def LA {p:bH}{n:Nat} (p0:oB n p) {r:Rw}{f:Flt}{w:Int}{a b:Addr}{ps:List Int}{L:List Rw}{qs:List (List Int)} (st:mW M r f a b L qs) (hL:(L.length:Int)<=w) (hw:w<=30000) (hm:r.left ps∈L) (o:r.Ok) (hp:placesOk 0 r.many ps) (of:f.Ok) (hd:f.dep<=n)
  (hR:∀ M' qs,mW M' r f a b L qs->R (.bl (bP (f.holds (r.left ps)))) M'):p [dk r f w a b,bY ps] M R:=by
 refine p0 r f w a b ps _ M R st.at_ o hp of hd (fun _=>hR M qs st) fun e=>?_
 have nd:((SH.upTo r.many::(qs++[ps])).map r.left).Nodup:=by
  rw[<-aa0,F_,adF];exact⟨st.nd,(3),fun x hx y hy z=>e (by rw[show y=r.left ps by simpa using hy] at z;rw[<-z];exact hx)⟩
 have mem:∀ x∈(SH.upTo r.many::(qs++[ps])).map r.left,x∈L:=fun x hx=>by
  rw[<-aa0,F_] at hx;rcases U_.mp hx with h | h
  ·exact st.mem x h
  ·rw[show x=r.left ps by simpa using h];exact hm
 have:=lW nd mem;rw[a_,x_,A_,X_] at this;refine⟨⟨by rw[x_];lia,by rw[x_];lia⟩,hR _ (qs++[ps]) ⟨oA st.at_.1,nd,fun x hx=>?_,mem⟩⟩;rw[<-aa0] at hx;rcases U_.mp hx with h | h
 ·exact st.ok x h
 ·rw[D_.mp h];exact hp
def Ei (n:Nat) (p:bH):Prop:=∀ (r:Rw) (f:Flt) (w:Int) (a b:Addr) (z:Str) (ps:List Int) (zs:List Str) (L:List Rw) (qs:List (List Int)) M R,mW M r f a b L qs->(L.length:Int)<=w->w<=30000->(∀ x∈xx r zs ps,x∈L)->z∈zs->z∈cX->r.Ok->placesOk 0 r.many ps->f.Ok->f.dep<=n->(∀ M' qs,mW M' r f a b L qs->R .az M')->(∀ g M' qs,mW M' r f a b L qs->g∈cU r ps z->R (bY g) M')->p [dk r f w a b,.str z,bY ps] M R
def nR (h:Z.hm=uI) {n:Nat} (p0:oB n (Z.me 0)) (p3:uO (Z.me 3)) (YH:xu (Z.fn 53)) (UJ:mT (Z.fn 54)) {r:Rw}{f:Flt}{w:Int}{a b:Addr}{z:Str}{ps:List Int}{zs:List Str}{L:List Rw}{qs:List (List Int)} (st:mW M r f a b L qs) (hL:(L.length:Int)<=w) (hw:w<=30000) (hA:∀ x∈xx r zs ps,x∈L) (hz:z∈zs) (FE:z∈cX) (o:r.Ok) (hp:placesOk 0 r.many ps) (of:f.Ok) (hd:f.dep<=n) (hR:∀ M' qs,mW M' r f a b L qs->R .az M') (hS:∀ g M' qs,mW M' r f a b L qs->g∈cU r ps z->R (bY g) M'):Fn Z dJ [.sh (dk r f w a b),.sh (.str z),.sh (bY ps),.no] M R:=by
 have pl:=places_len hp ∅;have Lz:=fg o;unfold dJ;symm;rw[ic];refine⟨by rw[h];rfl,p3 _ _ _ _ _ _ _ (YH z r ps _ _ FE o hp ?_)⟩;and_intros;refine aw (fun i ρ M'=>(∃ qs,mW M' r f a b L qs)/\∃ o',ρ=[.sh (dk r f w a b),.sh (.str z),.sh (bY ps),o']) ⟨⟨_,st⟩,_,rfl⟩ ?_ ?_
 ·rintro i x ρ M' N' hx ⟨⟨L7,nE⟩,o',rfl⟩ eP;rw[g_] at hx;obtain⟨g,hg,rfl⟩:=o_.mp hx;have LN:=y_ hg;and_intros;right;rw[ic];refine⟨by rw[h];rfl,UJ ps g _ _ ∅ (LA p0 nE hL hw (hA _ (Eh hz LN)) o (xw hp) of hd fun M2 q2 xI=>?_)⟩;show cy (Dt.bl (bP (f.holds (r.left (minus ps g))))) _
  cases e:bP (f.holds (r.left (minus ps g))) with
  | true =>
   and_intros
   first | refine sqo fun N3 bw=>?_ | (dsimp only;refine sqo fun N3 bw=>?_)
   exact hS g M2 q2 xI LN
  | false =>
   and_intros;subst hN2;exact eP _ _ ⟨⟨_,xI⟩,_,rfl⟩
 ·rintro ρ M' ⟨⟨L7,nE⟩,o',rfl⟩;left;exact hR M' L7 nE
def Ej {r:Rw} (o:r.Ok) (fl:r.Full):r.left (SH.upTo r.many)=r:=by
 have rg:∀ zs:List Str,(SH.upTo zs.length).map (atS zs)=zs:=fun zs=>by
  rw[pb];exact range_getD zs ""
 cases r with
 | row zs=>show Rw.row _=_;rw[show (Rw.row zs).many=zs.length from rfl,rg]
 | ae ns=>show Rw.ae _=_;rw[show (Rw.ae ns).many=ns.length from rfl,A3 o.1]
 | table w ls =>
  have o:aD w ls:=o;show Rw.table (bh ls.length (SH.upTo (ls.length+w))).length (iD ls (SH.upTo (ls.length+w)))=_;unfold iD;rw[A4,yf]
  have e:((SH.upTo ls.length).map fun i=>(SH.upTo w).map fun j=>atS (ls.getD i.toNat []) j)=ls:=by
   rw[pb];refine Eq.trans (Zs fun i hi=>?_) (range_getD ls []);rw[p_];have hl:(ls.getD i []).length=w:=o.jM _ (getD_mem (Zv.mp hi));rw[<-hl];exact rg _
  rw[e,show (SH.upTo w).length=w by unfold SH.upTo;rw[a_,K_]]
noncomputable def mX (r:Rw) (l:Nat):Nat:=1+(r.many+1)*l*y4 r
def Ek {r:Rw}{l:Nat} (o:r.Ok) (h:l<=4):mX r l<=30000:=by
 have m:∀ a b c d:Nat,a<=c->b<=d->(a+1)*l*b<=(c+1)*4*d:=fun a b c d h1 h2=>aa7 (aa7 ∅ h) h2
 have nl:=cC o
 cases r with
 | row zs=>have:=m zs.length (3*zs.length+zs.length) 40 160 o.2 (by have:=o.2;lia);show 1+(zs.length+1)*l*(3*zs.length+zs.length)<=30000;lia
 | ae ns=>have:=m ns.length (3*ns.length+(ns.map (·.1)).length) 40 160 o.2 (by rw[a_];have:=o.2;lia);show 1+(ns.length+1)*l*(3*ns.length+(ns.map (·.1)).length)<=30000;lia
 | table w ls =>
  have o:aD w ls:=o;have o1:=o.len;have o2:=o.DJ;have:=m (ls.length+w) (3*(ls.length+w)+(Rw.table w ls).names.length) 24 216 ∅ ∅;show 1+(ls.length+w+1)*l*(3*(ls.length+w)+(Rw.table w ls).names.length)<=30000
  lia
def xy (n:Nat) (p:bH):Prop:=∀ (r:Rw) (f:Flt) (a b:Addr) (zs:List Str) M R,iF M r f a b []->zs≠[]->zs.Nodup->(∀ z∈zs,z∈cX)->r.Ok->r.Full->f.Ok->f.dep<=n->f.holds r->(∀ d e M' qs L,mW M' r f a b L qs->L.length<=mX r zs.length->R (.tup [.str "small",d,e]) M')->p [dk r f (mX r zs.length) a b,.lst '1'] M R
def El (h:Z.hm=uI) {n:Nat} (p0:oB n (Z.me 0)) (p3:uO (Z.me 3)) (p9:hJ (Z.me 9)) (YI:jU (Z.fn 43)) (UJ:mT (Z.fn 54)) (YJ:Ei n (Z.fn 55)) {r:Rw}{f:Flt}{a b:Addr}{zs:List Str} (st:iF M r f a b []) (z0:zs≠[]) (hn:zs.Nodup) (hz:∀ z∈zs,z∈cX) (o:r.Ok) (fl:r.Full) (of:f.Ok) (hd:f.dep<=n) (hh:f.holds r) (hR:∀ d e M' qs L,mW M' r f a b L qs->L.length<=mX r zs.length->R (.tup [.str "small",d,e]) M'):Fn Z pP [.sh (dk r f (mX r zs.length) a b),.sh (.lst '1'),.no,.no,.no,.no,.no,.no] M R:=by
 have Lz:=fg o;have z4:zs.length<=4:=lW hn hz;have z1:1<=zs.length:=by cases zs with | nil=>exact absurd rfl z0 | cons _ _=>rw[x_];lia
 have bl:=Ek o z4;have lf:=Ej o fl;have be:mX r zs.length=1+(r.many+1)*(zs.length*y4 r):=by unfold mX;rw[Nat.mul_assoc]
 rw[be] at bl hR;rw[be];unfold pP;symm;refine YI zs _ _ z0 hn ∅ hz ?_;left;rw[ic];refine⟨by rw[h];rfl,p3 _ _ _ _ _ _ _ ?_⟩;and_intros;rw[b7];refine⟨dX h ∅ _,p9 _ _ _ ?_⟩;and_intros;refine⟨⟨∅,∅⟩,∅,?_⟩;rw[p_,show bO 0 r.many=(SH.upTo r.many).map Dt.int by unfold bO SH.upTo;rw[G_];rfl];have uo:=k9 r.many;have ul:(SH.upTo r.many).length=r.many:=by unfold SH.upTo;rw[a_,K_]
 have l0:=qF o uo zs;generalize hc:zs.length*y4 r=b0 at be bl hR l0 ⊢;left;rw[ic];refine⟨by rw[h];rfl,p0 r f _ a b (SH.upTo r.many) [] _ _ st o uo of hd (6) fun _=>⟨⟨aal _,by rw[abO];lia⟩,?_⟩⟩;have s1:mW (rH M r f a b ([]++[SH.upTo r.many])) r f a b (r.left (SH.upTo r.many)::xx r zs (SH.upTo r.many)) []:=⟨oA st.1,(3),fun x hx=>by rw[D_.mp hx];exact uo,fun x hx=>by rw[show x=_ from D_.mp hx];simp⟩;generalize rH M r f a b ([]++[SH.upTo r.many])=M1 at s1 ⊢;rw[lf,<-sR (c:=true) ⟨fun _=>hh,fun _=>rfl⟩];and_intros;left;refine⟨sz (3),?_⟩;left;left;left
 refine⟨fun m ρ M'=>∃ (ps:List Int) (ds:List Dt) (t v:Nat) (L:List Rw) (qs:List (List Int)) (o6 o7:Sl),m=ps.length*10+(zs.length-v)/\placesOk 0 r.many ps/\t<zs.length/\v<=zs.length/\mW M' r f a b L qs/\(∀ x∈xx r zs ps,x∈L)/\L.length<=1+(r.many+1-ps.length)*b0/\ds.length+ps.length<=r.many/\ρ=[.sh (dk r f ((1+(r.many+1)*b0:Nat):Int) a b),.sh (.lst '1'),.sh (bY ps),.ow (.lst ds),.sh (.int t),.sh (.int v),o6,o7],
  ⟨_,SH.upTo r.many,[],0,0,_,_,_,_,rfl,uo,∅,∅,s1,fun x hx=>by simp [hx],?_,by rw[ul];simp,rfl⟩,?_⟩
 ·rw[ul,x_,show r.many+1-r.many=1 by lia];lia
 rintro m ρ M' ⟨ps,ds,t,v,L,qs,o6,o7,rfl,hp,ht,hv,sA,hA,hL,AJ,rfl⟩;have pl:=places_len hp ∅
 have L9:L.length<=1+(r.many+1)*b0:=by
  have:(r.many+1-ps.length)*b0<=(r.many+1)*b0:=aeP _ ∅
  lia
 and_intros;rw[a_];by_cases e:v<zs.length
 ·refine bD (d_ ∅) ?_;obtain⟨z,Wa⟩:∃ z,zs[t]? = some z:=⟨_,b_ ht⟩;symm;refine⟨.str z,aI (by rw[g_,Wa];rfl),?_⟩;left;have zm:=y_ Wa;right;refine YJ r f _ a b z ps zs L qs _ _ sA ∅ ∅ hA zm (hz z zm) o hp of hd (fun M2 q2 s2=>?_) fun g M2 q2 s2 hg=>?_
  ·subst hN2;and_intros;left;refine⟨rfl,?_⟩;refine bD rfl ?_;right;subst hN2;right;rw[a_];refine⟨∅,?_⟩;subst hN2;subst hN;have et:((t:Int)+1) % (zs.length:Int)=(((t+1) % zs.length:Nat):Int):=by rw[adY];rfl
   exact⟨ps.length*10+(zs.length-(v+1)),∅,ps,ds,(t+1) % zs.length,v+1,L,q2,_,_,rfl,hp,adu _ z1,∅,s2,hA,hL,AJ,by rw[et,ZA];rfl⟩
  ·subst hN2;and_intros;left;refine⟨rfl,?_⟩;refine br (show ¬ false=true by decide) ?_;right;subst hN2;right;refine UJ ps g _ _ ∅ ?_;and_intros;subst hN2;right;refine⟨sz (3),wX ∅,?_⟩;subst hN2;subst hN;obtain⟨p,q1,S9⟩:=BE o hp g hg;have lt:=Ee q1 S9;have mo:=xw (g:=g) hp;have al:=qF o mo zs;rw[hc] at al;refine⟨(minus ps g).length*10+(zs.length-0),∅,minus ps g,_,t,0,L++xx r zs (minus ps g),q2,_,_,rfl,mo,ht,∅,⟨s2.at_,s2.nd,s2.ok,fun x hx=>abY _ (s2.mem x hx)⟩,fun x hx=>T_ _ hx,?_,?_,rfl⟩
   ·rw[A_];have e1:(r.many+1-ps.length+1)*b0<=(r.many+1-(minus ps g).length)*b0:=aeP _ ∅;rw[adI,adJ] at e1
    lia
   ·rw[A_,X_];lia
 ·refine br (by rw[f_ ∅];decide) ?_;left;left;exact⟨sz (3),hR _ _ _ qs L sA L9⟩
noncomputable def nC (f s i:Nat):List Str:=(Zo i).map fun k=>cX.getD ((f+k*s) % 4) ""
def xA:∀ f<4,∀ i≤4,(nC f 1 i).Nodup/\(nC f 3 i).Nodup:=by decide +kernel
def BF {f s i:Nat}:∀ z∈nC f s i,z∈cX:=fun z hz=>by
 obtain⟨k,_,rfl⟩:=n_.mp hz;exact getD_mem (adu _ (2))
def qG (p:bH):Prop:=∀ (c:Int) M R,(∀ zs:List Str,zs≠[]->zs.Nodup->zs.length<=4->(∀ z∈zs,z∈cX)->R (.lst '1') M)->p [.int c] M R
def nS {c:Int} (hR:∀ zs:List Str,zs≠[]->zs.Nodup->zs.length<=4->(∀ z∈zs,z∈cX)->R (.lst '1') M):Fn Z dR [.sh (.int c),.no,.no,.no,.no] M R:=by
 unfold dR;obtain⟨f,ef,hf⟩:=aU c (show (0:Int)<4 by decide);obtain⟨n,en,hn⟩:=aU (c / 4) (show (0:Int)<4 by decide);obtain⟨b,eb,hb⟩:=aU (c / 16) (show (0:Int)<2 by decide);symm;refine⟨sz (3),?_⟩;left;refine⟨(2),?_⟩;rw[ef];left;refine⟨sz (3),?_⟩;left;rw[en];refine⟨⟨(2),(2)⟩,(2),⟨∅,∅⟩,?_⟩;refine aw (fun i ρ M'=>M'=M/\∃ o,ρ=[.sh (.int c),.sh (.lst (cX.map .str)),.sh (.int f),.ow (.lst ((nC f (1+2*b) i).map .str)),o]) ⟨rfl,_,rfl⟩ ?_ ?_
 ·rintro i x ρ M' N' hx ⟨rfl,o,rfl⟩ eP;obtain⟨hi,rfl⟩:=aE hx;rw[Zu];have hi:i<4:=by lia
  and_intros;right;rw[eb]
  have e1:((f:Int)+(i:Int)*(1+2*(b:Int))) % 4=(((f+i*(1+2*b)) % 4:Nat):Int):=by
   rw[adY,ZA,ZV,ZA,ZV];rfl
  refine⟨⟨(2),(2)⟩,(2),.inl ⟨∅,∅⟩,.inl ⟨∅,∅⟩,(2),.str (cX.getD ((f+i*(1+2*b)) % 4) ""),?_,?_⟩
  ·rw[e1];refine aI ?_;have hl:(f+i*(1+2*b)) % 4<cX.length:=adu _ (2);rw[g_,B_,b_ hl];rfl
  ·refine⟨by rw[a_];unfold nC;rw[a_,K_];exact wX ∅,?_⟩;subst hN2;refine eP _ _ ⟨rfl,.sh (.int i),?_⟩;unfold nC;rw[acp,F_,F_];rfl
 ·rintro ρ M' ⟨rfl,o,rfl⟩;rw[ah];left;left;have Wb:(1+(n:Int)).toNat<=4:=by lia
  have nd:=xA f ∅ _ Wb;refine hR _ (fun z=>?_) ?_ (by unfold nC;rw[a_,K_];exact Wb) BF
  ·have:=congrArg aeD z;unfold nC at this;rw[a_,K_,abO] at this
   lia
  have:b=0∨b=1:=by lia
  rcases this with rfl | rfl
  ·exact nd.1
  ·exact nd.2
def Ai (p:bH):Prop:=∀ (r:Rw) (zs:List Str) M R,r.Ok->zs.length<=4->R (.int (mX r zs.length)) M->p [bf r,.lst '1'] M R
def Aj {r:Rw}{l:Nat} (o:r.Ok) (h:l<=4):tK ((r.many:Int)+1) l/\tK 3 r.many/\tK (((r.many:Int)+1)*l) (3*(r.many:Int)+r.names.length)/\1+((r.many:Int)+1)*l*(3*r.many+r.names.length)=(mX r l:Nat):=by
 have Lz:=fg o;have nl:=cC o;have:(r.many+1)*l<=41*4:=aa7 ∅ h;have e:((r.many:Int)+1)*l=(((r.many+1)*l:Nat):Int):=by rw[ZV];rfl
 refine⟨.inl ⟨∅,∅⟩,.inl ⟨∅,∅⟩,.inl ⟨∅,∅⟩,?_⟩;unfold mX y4;rw[ZA,ZV,ZV,ZA,ZA,ZV];rfl
def GP (h:Z.hm=uI) (p9:hJ (Z.me 9)) (p6:uz (Z.me 6)) {r:Rw}{zs:List Str} (o:r.Ok) (hl:zs.length<=4) (hR:R (.int (mX r zs.length)) M):Fn Z ur [.sh (bf r),.sh (.lst '1'),.no] M R:=by
 unfold ur;obtain⟨b1,b2,b3,b4⟩:=Aj o hl;symm;rw[b7];refine⟨dX h ∅ _,p9 _ _ _ ?_⟩;left;rw[b7,a_];refine⟨b1,b2,dX h ∅ _,p6 _ _ _ ?_⟩;and_intros;rw[a_,b4];exact⟨b3,hR⟩
noncomputable def BG (r:Rw) (f:Flt) (ps:List Int):Dt:=.tup [bY ps,.bl (bP (f.holds (r.left ps)))]
def Ii (p:bH):Prop:=∀ (r:Rw) (f:Flt) (w:Int) (a b:Addr) (qs:List (List Int)) M R,iF M r f a b qs->qs.length<=30000->R (.lst (qs.map (BG r f))) M->p [dk r f w a b] M R
noncomputable def YK:Dt->Dt
 | .tup [.tup ps,c]=>.tup [.lst ps,c]
 | _=>.az
def xB (g:GB Z) {r:Rw}{f:Flt}{w:Int}{a b:Addr}{qs:List (List Int)} (st:iF M r f a b qs) (h9:qs.length<=30000) (hR:R (.lst (qs.map (BG r f))) M):Fn Z i9 [.sh (dk r f w a b)] M R:=by
 unfold i9;obtain⟨ED,ha,hb⟩:=st;symm;refine UC g (D8 hb ⟨by rw[a_];exact Z8 (wX h9),?_⟩);refine comp_map YK (4) ⟨hb,?_⟩
 ·obtain⟨ps,_,rfl⟩:=n_.mp hx;exact⟨hb,sz (3),hK⟩
 ·rw[G_];exact hR
def GQ {ps:List Int}{Q:Bool->Prop} (h:Q true):we (.lst (ps.map .int)) (.lst (ps.map .int)) Q:=by
 have e:toP (.lst (ps.map Dt.int))=some (.list (ps.map acr)):=by
  show (toPs (ps.map Dt.int)).map adK=_;rw[toPs_ints];rfl
 refine (show ∃ p q,toP (.lst (ps.map Dt.int))=some p/\toP (.lst (ps.map Dt.int))=some q/\L_ p=true/\L_ q=true/\Q (V_ p q) from ⟨_,_,e,e,shaped_ints ps,shaped_ints ps,?_⟩);rw[Cz];exact h
def Qp (h_:Z.hm=uI) (qa:dj (Z.fn 12)) (Us:qj (Z.fn 13)) (YL:w6 (Z.fn 19)) (YM:qw (Z.fn 32)) (YN:lO (Z.fn 20)) (YO:qv (Z.fn 21)) (Wc:D0 (Z.fn 22)) (Ib:cB (Z.fn 23)) (Ie:fe 6 (Z.fn 27)) (Rh:hZ 6 (Z.fn 28)) (q4:z7 (Z.bp 4)) (V3:Ii (Z.me 16)) (YQ:xy 6 (Z.fn 56)) (YR:qG (Z.fn 57)) (YS:Ai (Z.fn 68)) {ns:List Int} (hR:∀ M',R (.bl true) M'):Fn Z DI [.sh (nr ns),.no,.no,.no,.no,.no,.no,.no,.no,.no,.no,.no,.no,.no] M R:=by
 unfold DI;symm;refine qa _ _ _ _ ∅ fun c0=>Us _ _ _ fun zs z4 Ri hz=>?_
 have mk:gi zs:=⟨z4,Ri,hz⟩;left;refine YL ns 15 zs mk _ _ fun r o hf=>?_
 left;refine YM ns 8 zs r false mk o _ _ fun f of hd=>?_
 left;refine qa _ _ _ _ ∅ fun c1=>YR c1 _ _ fun ws w0 wn w4 wr=>?_
 left;refine YN r _ _ ?_;have Lz:=fg o;obtain⟨b1,b2,b3,b4⟩:=Aj (l:=ws.length) o w4;left;refine Wc r _ _ o hf ?_;refine YS r ws _ _ o w4 ?_;left;left;rw[a_];refine⟨b1,b2,Ib r _ _ o ?_⟩;and_intros;rw[show (bC r).length=r.names.length by unfold bC;rw[a_,K_],b4];refine⟨b3,br (3) ?_⟩;left;refine Ie f r _ _ of o hd fun c hc=>?_
 cases c with
 | false =>
  and_intros
  first | refine sqo fun N2 hN2=>?_ | (dsimp only;refine sqo fun N2 hN2=>?_)
  exact hR _
 | true =>
  have hh:=hc.mp rfl;and_intros;left;refine Wc r _ _ o hf (Rh f _ _ of hd (q4 r f _ _ _ fun a b ha hb ED=>?_));left;refine YQ r f a b ws _ _ (show iF (rH M r f a b []) r f a b [] from oA ED) w0 wn wr o hf of hd hh fun d e M1 qs L s1 hL=>?_
  left;rw[ic];have bl:=Ek o w4;have ln:=lW s1.nd s1.mem;rw[a_] at ln;have lq:(SH.upTo r.many::qs).length<=30000:=by lia
  refine⟨by rw[h_];rfl,V3 r f _ a b _ _ _ s1.at_ ∅ ?_⟩;left;refine⟨_,aI (j:=0) rfl,?_⟩;and_intros;refine br (3) ?_;rw[x_] at ln;refine br (by rw[x_,a_,f_ ∅];decide) ⟨_,aI (j:=0) rfl,?_⟩;unfold BG;refine⟨_,aI (j:=0) rfl,⟨∅,∅⟩,∅,?_⟩;rw[p_,D3];refine GQ (br (2) ?_);rw[hN];symm;refine⟨sz (3),?_⟩;left;refine (show eY _ _ ((SH.upTo r.many::qs).map (BG r f)) _ M1 from ?_);obtain⟨Zk,nd,ok,_⟩:=s1;refine aw (fun i ρ M'=>M'=M1/\∃ UK UL UM,ρ=[.sh (nr ns),.sh (.lst '1'),.sh (aF r),.sh (aj f),.sh (.lst (ws.map .str)),.sh (.int r.many),.sh (.int (mX r ws.length)),.sh (dk r f (mX r ws.length) a b),.sh (.tup [.str "small",d,e]),.sh (.lst ((SH.upTo r.many::qs).map (BG r f))),.ow (.lst ((((SH.upTo r.many::qs).map r.left).take i).map aF)),UK,UL,UM]) ⟨rfl,_,_,_,rfl⟩ ?_ ?_
  ·rintro i x ρ M' N' hx ⟨rfl,UK,UL,UM,rfl⟩ eP;rw[g_] at hx;obtain⟨ps,hy,rfl⟩:=o_.mp hx;have hm:=y_ hy;generalize SH.upTo r.many::qs=qq at *;unfold BG;have ol:=dq o (ok _ hm);have hi:=(i_.mp hy).1;have e1:(qq.map r.left)[i]? = some (r.left ps):=by rw[g_,hy];rfl
   symm;refine YO r ps _ _ o (ok _ hm) ?_;left;refine D9 ol (fun s hs=>?_) ?_
   ·obtain⟨QX,iM,rfl⟩:=n_.mp (ZE hs);exact dq o (ok _ iM)
   have hn:r.left ps∉(qq.map r.left).take i:=fun z=>by
    obtain⟨j,hj⟩:=Y_.mp z;rw[acu] at hj;split at hj
    ·have:=(List.getElem?_inj (by rw[a_];lia) nd).mp (hj.trans e1.symm)
     lia
    ·cases hj
   rw[show bP (r.left ps∈(qq.map r.left).take i)=false from afI.mpr fun z=>hn (uG.mp z)];refine br (2) (Ie f _ _ _ of ol hd fun c hc=>?_);rw[sR hc];refine (show (fun c:Bool=>_) (decide (bP (f.holds (r.left ps))=bP (f.holds (r.left ps)))) from ?_);refine br (3) ?_;left;refine⟨by rw[a_,Zm];exact wX ∅,?_⟩;subst hN;rw[show ((qq.map r.left).take i).map aF++[aF (r.left ps)]=((qq.map r.left).take (i+1)).map aF by rw[aaL,e1,F_];rfl];exact eP _ _ ⟨rfl,_,_,_,rfl⟩
  ·rintro ρ M' ⟨rfl,UK,UL,UM,rfl⟩;left;exact hR _
end
def gb {n:Nat}:GB (Pr.Z n):=⟨Pg.PQ n,Pg.K6 n⟩
def jV {n m c:Nat}{fs:List Str} (h:Pr.hm m c fs=true):(Pr.Z n).hm m c fs=true:=by rw[Pg.gM];exact h
def tD {n k:Nat}{d:Dt} (h:Pr.cs k=d):(Pr.Z n).cs k=d:=by rw[Pg.K6];exact h
def at_ {F:Gm->Prop}{l N:Nat} (h:l<=N) (p:∀ {n},F (Pr.Z (n+l))):F (Pr.Z N):=by have q:=p (n:=N-l);rwa [Nat.sub_add_cancel h] at q
def uW (f:Flt):0<f.dep:=by cases f<;>(unfold Flt.dep;lia)
def qH {n:Nat}:kA ((Pr.Z (n+1)).fn 0):=fun i M R h1=>⟨_,rfl,rfl,yB h1⟩
def tE {n:Nat}:mK ((Pr.Z (n+1)).fn 1):=fun z M R h1 h2=>⟨_,rfl,rfl,Bt (tD (by kernel_rfl)) (tD (by kernel_rfl)) h1 h2⟩
def ip {n:Nat}:d8 ((Pr.Z (n+1)).fn 2):=fun ds m M R h1 h2=>⟨_,rfl,rfl,uu h1 h2⟩
def jW {n:Nat}:fQ ((Pr.Z (n+2)).fn 3):=fun zs m M R h1 h2 h3=>⟨_,rfl,rfl,qW tE ip h1 h2 h3⟩
def uX {n:Nat}:lG ((Pr.Z (n+2)).fn 4):=fun n d M R h1 h2 h3 h4=>⟨_,rfl,rfl,uv qH tE h1 h2 h3 h4⟩
def rN {n:Nat}:jQ ((Pr.Z (n+3)).fn 5):=fun ns M R h1 h2 h3=>⟨_,rfl,rfl,qX ip uX (tD (by kernel_rfl)) (tD (by kernel_rfl)) h1 h2 h3⟩
def rO {n:Nat}:jR ((Pr.Z (n+3)).fn 6):=fun w ls M R h1 h2=>⟨_,rfl,rfl,qY ip jW (tD (by kernel_rfl)) (tD (by kernel_rfl)) h1 h2⟩
def cV {n:Nat}:bW ((Pr.Z (n+2)).fn 7):=fun ps m M R h1 h2=>⟨_,rfl,rfl,pQ qH h1 h2⟩
def kJ {n:Nat}:hG ((Pr.Z (n+1)).fn 8):=fun t zs ps M R h1 h2 h3 h4=>⟨_,rfl,rfl,yC h1 h2 h3 h4⟩
def fh {n:Nat}:ji ((Pr.Z (n+1)).fn 9):=fun zs m M R h1 h2=>⟨_,rfl,rfl,wD h1 h2⟩
def jx {n:Nat}:eR ((Pr.Z (n+1)).fn 10):=fun t zs a b M R h1 h2=>⟨_,rfl,rfl,pU h1 h2⟩
def dA {n:Nat}:bX ((Pr.Z (n+1)).fn 11):=fun t zs a b M R h1 h2 h3=>⟨_,rfl,rfl,jj h1 h2 h3⟩
def uY {n:Nat}:ox ((Pr.Z (n+2)).bp 16):=fun c zs M k h1 h2=>⟨_,_,_,_,_,rfl,rfl,rfl,rfl,uB gb h1 h2⟩
def Ij {n:Nat}:DO ((Pr.Z (n+4)).bp 17):=fun zs M k h1 h2=>⟨_,_,_,_,_,rfl,rfl,rfl,rfl,yH gb jW uY h1 h2⟩
def xC {n:Nat}:qb ((Pr.Z (n+5)).bp 18):=fun ns M k h1 h2=>⟨_,_,_,_,_,rfl,rfl,rfl,rfl,ri gb rN uY h1 h2⟩
def Ak {n:Nat}:uC ((Pr.Z (n+5)).bp 19):=fun w ls M k h1 h2=>⟨_,_,_,_,_,rfl,rfl,rfl,rfl,uD gb rO uY h1 h2⟩
def iq {n:Nat}:hJ ((Pr.Z (n+1)).me 9):=by
 intro r M R h1
 cases r with
 | row zs=>exact⟨_,_,_,_,_,rfl,⟨rfl,rfl⟩,rfl,rfl,yE gb h1⟩
 | ae ns=>exact⟨_,_,_,_,_,rfl,⟨rfl,rfl⟩,rfl,rfl,qZ gb h1⟩
 | table w ls=>exact⟨_,_,_,_,_,rfl,⟨rfl,rfl⟩,rfl,rfl,ux gb h1⟩
def Em {n:Nat}:yF ((Pr.Z (n+1)).me 11):=by
 intro r M R h1
 cases r with
 | row zs=>exact⟨_,_,_,_,_,rfl,⟨rfl,rfl⟩,rfl,rfl,yG gb h1⟩
 | ae ns=>exact⟨_,_,_,_,_,rfl,⟨rfl,rfl⟩,rfl,rfl,q8 gb h1⟩
 | table w ls=>exact⟨_,_,_,_,_,rfl,⟨rfl,rfl⟩,rfl,rfl,uy gb h1⟩
def Al {n:Nat}:uz ((Pr.Z (n+1)).me 6):=by
 intro r M R h1;have q:=rh (Z:=Pr.Z (n+0)) (r:=r) gb h1
 cases r<;>exact⟨_,_,_,_,_,rfl,⟨rfl,rfl⟩,rfl,rfl,q⟩
def xD {n:Nat}:jl ((Pr.Z (n+2)).me 8):=by
 intro r a b M R h1;have q:=lH (Z:=Pr.Z (n+1)) (r:=r) gb jx h1
 cases r<;>exact⟨_,_,_,_,_,rfl,⟨rfl,rfl⟩,rfl,rfl,q⟩
def tF {n:Nat}:f7 ((Pr.Z (n+1)).me 7):=by
 intro r m M R h1;have q:=nI (Z:=Pr.Z (n+0)) (r:=r) gb h1
 cases r<;>exact⟨_,_,_,_,_,rfl,⟨rfl,rfl⟩,rfl,rfl,q⟩
def qI {n:Nat}:kD ((Pr.Z (n+2)).me 12):=by
 intro r m M R h1 h2 h3
 cases r with
 | row zs=>exact⟨_,_,_,_,_,rfl,⟨rfl,rfl⟩,rfl,rfl,jm gb fh h1 h3⟩
 | ae ns=>exact⟨_,_,_,_,_,rfl,⟨rfl,rfl⟩,rfl,rfl,e9 gb fh h1 h3⟩
 | table w ls=>exact absurd rfl (h2 _ _)
def tG {n:Nat}:mL ((Pr.Z (n+2)).me 15):=fun ns i M R h1 h2 h3=>⟨_,_,_,_,_,rfl,⟨rfl,rfl⟩,rfl,rfl,f9 gb iq (jV (by kernel_rfl)) h1 h2 h3⟩
def y7 {n:Nat}:kE ((Pr.Z (n+3)).me 13):=by
 intro r a b M R h1 h2
 cases r with
 | row zs=>exact⟨_,_,_,_,_,rfl,⟨rfl,rfl⟩,rfl,rfl,pX h2⟩
 | ae ns=>exact⟨_,_,_,_,_,rfl,⟨rfl,rfl⟩,rfl,rfl,lJ gb kJ qI tG (jV (by kernel_rfl)) (jV (by kernel_rfl)) h1 h2⟩
 | table w ls=>exact⟨_,_,_,_,_,rfl,⟨rfl,rfl⟩,rfl,rfl,mN gb jx h1 h2⟩
def xE {n:Nat}:jn ((Pr.Z (n+3)).me 14):=by
 intro r a b M R h1 h2 h3
 cases r with
 | row zs=>exact⟨_,_,_,_,_,rfl,⟨rfl,rfl⟩,rfl,rfl,nJ gb dA h1 h3⟩
 | ae ns=>exact⟨_,_,_,_,_,rfl,⟨rfl,rfl⟩,rfl,rfl,kF gb iq qI tG (jV (by kernel_rfl)) (jV (by kernel_rfl)) (jV (by kernel_rfl)) h2 h1 h3⟩
 | table w ls=>exact⟨_,_,_,_,_,rfl,⟨rfl,rfl⟩,rfl,rfl,lK gb dA h1 h3⟩
def Eo {n:Nat}:yI ((Pr.Z (n+6)).me 10):=by
 intro r ps M R h1 h2 h3
 cases r with
 | row zs=>exact⟨_,_,_,_,_,rfl,⟨rfl,rfl⟩,rfl,rfl,yJ gb cV kJ iq (jV (by kernel_rfl)) Ij h1 h2 h3⟩
 | ae ns=>exact⟨_,_,_,_,_,rfl,⟨rfl,rfl⟩,rfl,rfl,rj gb cV iq (jV (by kernel_rfl)) xC h1 h2 h3⟩
 | table w ls=>exact⟨_,_,_,_,_,rfl,⟨rfl,rfl⟩,rfl,rfl,uF gb cV kJ iq (jV (by kernel_rfl)) Ak h1 h2 h3⟩
theorem oE:∀ {k n:Nat},lL k ((Pr.Z (n+4+k)).me 5)
 | 0,n=>fun f r M R h1 h2 h3 h4=>absurd (uW f) ∅
 | k+1,n=>fun f r M R h1 h2 h3 h4=>by
  cases f<;>(unfold Flt.Ok at h1;unfold Flt.dep at h3)
  ·exact⟨_,_,_,_,_,rfl,⟨rfl,rfl⟩,rfl,rfl,wN (Z:=Pr.Z (n+4+k)) gb (Pg.gM _) (at_ (F:=fun Z=>f7 (Z.me 7)) ∅ tF) h4⟩
  ·exact⟨_,_,_,_,_,rfl,⟨rfl,rfl⟩,rfl,rfl,uJ (Z:=Pr.Z (n+4+k)) gb (Pg.gM _) (at_ (F:=fun Z=>f7 (Z.me 7)) ∅ tF) h4⟩
  ·exact⟨_,_,_,_,_,rfl,⟨rfl,rfl⟩,rfl,rfl,qf (Z:=Pr.Z (n+4+k)) gb (Pg.gM _) (at_ (F:=fun Z=>jl (Z.me 8)) ∅ xD) h4⟩
  ·exact⟨_,_,_,_,_,rfl,⟨rfl,rfl⟩,rfl,rfl,rn (Z:=Pr.Z (n+4+k)) gb (Pg.gM _) (at_ (F:=fun Z=>kE (Z.me 13)) ∅ y7) h2 h4⟩
  ·exact⟨_,_,_,_,_,rfl,⟨rfl,rfl⟩,rfl,rfl,qg (Z:=Pr.Z (n+4+k)) gb (Pg.gM _) (at_ (F:=fun Z=>jn (Z.me 14)) ∅ xE) h2 h1.2 h4⟩
  ·exact⟨_,_,_,_,_,rfl,⟨rfl,rfl⟩,rfl,rfl,wO gb (Pg.gM _) (oE (k:=k) (n:=n)) h1 h2 ∅ h4⟩
  ·exact⟨_,_,_,_,_,rfl,⟨rfl,rfl⟩,rfl,rfl,wQ gb (Pg.gM _) (oE (k:=k) (n:=n)) h1.2 h2 ∅ h4⟩
  ·exact⟨_,_,_,_,_,rfl,⟨rfl,rfl⟩,rfl,rfl,wR gb (Pg.gM _) (oE (k:=k) (n:=n)) h1.2 h2 ∅ h4⟩
def Qq {n:Nat}:DU ((Pr.Z (n+2)).bp 6):=fun m M k h1=>⟨_,_,_,_,_,rfl,rfl,rfl,rfl,yK gb h1⟩
def LB {n:Nat}:yL ((Pr.Z (n+2)).bp 7):=fun n m M k h1=>⟨_,_,_,_,_,rfl,rfl,rfl,rfl,wU gb h1⟩
def Ep {n:Nat}:hX 9 ((Pr.Z (n+2)).bp 9):=fun a b M k h1=>⟨_,_,_,_,_,rfl,rfl,rfl,rfl,jq gb (.inl rfl) h1⟩
def BH {n:Nat}:hX 10 ((Pr.Z (n+2)).bp 10):=fun a b M k h1=>⟨_,_,_,_,_,rfl,rfl,rfl,rfl,jq gb (.inr (.inl rfl)) h1⟩
def BI {n:Nat}:hX 11 ((Pr.Z (n+2)).bp 11):=fun a b M k h1=>⟨_,_,_,_,_,rfl,rfl,rfl,rfl,jq gb (.inr (.inr rfl)) h1⟩
def y8 {n:Nat}:jH 13 ((Pr.Z (n+2)).bp 13):=fun ds M k h1=>⟨_,_,_,_,_,rfl,rfl,rfl,rfl,lM gb (.inl rfl) h1⟩
def y9 {n:Nat}:jH 14 ((Pr.Z (n+2)).bp 14):=fun ds M k h1=>⟨_,_,_,_,_,rfl,rfl,rfl,rfl,lM gb (.inr rfl) h1⟩
def Qr {n:Nat}:DV ((Pr.Z (n+2)).bp 15):=fun d M k h1=>⟨_,_,_,_,_,rfl,rfl,rfl,rfl,yM gb h1⟩
theorem lX:∀ {k n:Nat},hZ k ((Pr.Z (n+3+k)).fn 28)
 | 0,n=>fun f M R h1 h2 h3=>absurd (uW f) ∅
 | k+1,n=>fun f M R h1 h2 h3=>⟨_,rfl,rfl,lN (Z:=Pr.Z (n+3+k)) (lX (k:=k) (n:=n)) (at_ (F:=fun Z=>DU (Z.bp 6)) ∅ Qq) (at_ (F:=fun Z=>yL (Z.bp 7)) ∅ LB) (at_ (F:=fun Z=>hX 9 (Z.bp 9)) ∅ Ep) (at_ (F:=fun Z=>hX 10 (Z.bp 10)) ∅ BH) (at_ (F:=fun Z=>hX 11 (Z.bp 11)) ∅ BI) (at_ (F:=fun Z=>jH 13 (Z.bp 13)) ∅ y8) (at_ (F:=fun Z=>jH 14 (Z.bp 14)) ∅ y9) (at_ (F:=fun Z=>DV (Z.bp 15)) ∅ Qr) h1 h2 h3⟩
def eh {n:Nat}:dj ((Pr.Z (n+1)).fn 12):=fun ns k M R h1 h2=>⟨_,rfl,rfl,qi h1 h2⟩
def za {n:Nat}:qj ((Pr.Z (n+1)).fn 13):=fun c M R h1=>⟨_,rfl,rfl,nK h1⟩
def BJ {n:Nat}:sU ((Pr.Z (n+1)).fn 14):=fun c M R h1=>⟨_,rfl,rfl,qk h1⟩
def Er {n:Nat}:wY ((Pr.Z (n+2)).fn 15):=fun ns f m zs M R h1 h2 h3=>⟨_,rfl,rfl,rz eh h1 h2 h3⟩
def xF {n:Nat}:nu ((Pr.Z (n+2)).fn 16):=fun ns f zs M R h1 h2 h3=>⟨_,rfl,rfl,mO eh h1 h2 h3⟩
def Ik {n:Nat}:DX ((Pr.Z (n+1)).fn 17):=fun r M R h1=>⟨_,rfl,rfl,yO h1⟩
def uZ {n:Nat}:lP ((Pr.Z (n+1)).fn 18):=fun c zs h1 M R hR=>⟨_,rfl,rfl,lQ h1 hR⟩
def Es {n:Nat}:w6 ((Pr.Z (n+3)).fn 19):=fun ns f zs h1 M R hR=>⟨_,rfl,rfl,rA eh BJ Er xF Ik uZ h1 hR⟩
def u6 {n:Nat}:lO ((Pr.Z (n+1)).fn 20):=fun r M R h1=>⟨_,rfl,rfl,mP h1⟩
def zb {n:Nat}:qv ((Pr.Z (n+1)).fn 21):=fun r ps M R h1 h2 h3=>⟨_,rfl,rfl,xm h1 h2 h3⟩
def LC {n:Nat}:D0 ((Pr.Z (n+6)).fn 22):=fun r M R h1 h2 h3=>⟨_,rfl,rfl,wZ Ij xC Ak h1 h2 h3⟩
def fj {n:Nat}:cB ((Pr.Z (n+1)).fn 23):=fun r M R h1 h2=>⟨_,rfl,rfl,uK h1 h2⟩
def lY {n:Nat}:ia ((Pr.Z (n+1)).fn 24):=fun r i j M R h1 h2 h3 h4=>⟨_,rfl,rfl,lR h1 h2 h3 h4⟩
def nU {n:Nat}:iE ((Pr.Z (n+1)).fn 25):=fun r i j M R h1 h2 h3 h4=>⟨_,rfl,rfl,jt h1 h2 h3 h4⟩
def zc {n:Nat}:kG ((Pr.Z (n+2)).fn 26):=fun f a b r M R h1 h2 h3=>⟨_,rfl,rfl,nL fj lY nU h1 h2 h3⟩
theorem jy:∀ {k n:Nat},fe k ((Pr.Z (n+3+k)).fn 27)
 | 0,n=>fun f r M R h1 h2 h3 h4=>absurd (uW f) ∅
 | k+1,n=>fun f r M R h1 h2 h3 h4=>⟨_,rfl,rfl,uM (Z:=Pr.Z (n+3+k)) (at_ (F:=fun Z=>cB (Z.fn 23)) ∅ fj) (at_ (F:=fun Z=>kG (Z.fn 26)) ∅ zc) (jy (k:=k) (n:=n)) h1 h2 h3 h4⟩
def Et {n:Nat}:xc ((Pr.Z (n+1)).fn 29):=fun c zs g h1 M R hR=>⟨_,rfl,rfl,rD h1 hR⟩
def rP {n:Nat}:jT ((Pr.Z (n+2)).fn 30):=fun ns k zs g h1 M R hR=>⟨_,rfl,rfl,kH eh Ik Et h1 hR⟩
def GR {n:Nat}:Ac ((Pr.Z (n+2)).fn 31):=fun r c h1 h2 M R hR=>⟨_,rfl,rfl,uP lY h1 h2 hR⟩
def zd {n:Nat}:qw ((Pr.Z (n+8)).fn 32):=fun ns k zs r g h1 h2 M R hR=>⟨_,rfl,rfl,nN eh fj (jy (k:=4)) rP GR h1 h2 hR⟩
def GS {n:Nat}:z7 ((Pr.Z (n+2)).bp 4):=fun r f w M k h1=>⟨_,_,_,_,_,rfl,rfl,rfl,rfl,uN gb h1⟩
def GU {n:Nat}:z8 ((Pr.Z (n+1)).me 2):=fun r f w a b qs M R h1 h2=>⟨_,_,_,_,_,rfl,⟨rfl,rfl⟩,rfl,rfl,rF gb h1 h2⟩
def Am {n:Nat}:uO ((Pr.Z (n+1)).me 3):=fun r f w a b M R h1=>⟨_,_,_,_,_,rfl,⟨rfl,rfl⟩,rfl,rfl,rG gb h1⟩
def Qs {n:Nat}:Ih 6 ((Pr.Z (n+11)).me 1):=fun r f w a b ps qs M R h1 h2 h3 h4 h5 h6 h7 h8=>⟨_,_,_,_,_,rfl,⟨rfl,rfl⟩,rfl,rfl,xi gb (Pg.gM _) GU (oE (k:=6)) Em h1 h2 h3 h4 h5 h6 h7 h8⟩
def An {n:Nat}:oB 6 ((Pr.Z (n+12)).me 0):=fun r f w a b ps qs M R h1 h2 h3 h4 h5 h6 h7=>⟨_,_,_,_,_,rfl,⟨rfl,rfl⟩,rfl,rfl,rJ gb (Pg.gM _) Qs Eo Em h1 h2 h3 h4 h5 h6 h7⟩
def Qt {n:Nat}:Ii ((Pr.Z (n+1)).me 16):=fun r f w a b qs M R h1 h2 h3=>⟨_,_,_,_,_,rfl,⟨rfl,rfl⟩,rfl,rfl,xB gb h1 h2 h3⟩
def LD {n:Nat}:Ea ((Pr.Z (n+2)).me 15):=by
 intro r i M R h1 h2 h3
 cases r with
 | row zs=>exact⟨_,_,_,_,_,rfl,⟨rfl,rfl⟩,rfl,rfl,rM h3⟩
 | ae ns=>exact⟨_,_,_,_,_,rfl,⟨rfl,rfl⟩,rfl,rfl,f9 gb iq (jV (by kernel_rfl)) h1 h2 (by rw[<-Ly];exact h3)⟩
 | table w ls=>exact⟨_,_,_,_,_,rfl,⟨rfl,rfl⟩,rfl,rfl,nQ h3⟩
def Eu {n:Nat}:xp ((Pr.Z (n+2)).me 12):=by
 intro r m M R h1 h2
 cases r with
 | row zs=>exact⟨_,_,_,_,_,rfl,⟨rfl,rfl⟩,rfl,rfl,jm gb fh (R_ h1.2 (2)) h2⟩
 | ae ns=>exact⟨_,_,_,_,_,rfl,⟨rfl,rfl⟩,rfl,rfl,e9 gb fh (by rw[a_];exact R_ h1.2 (2)) h2⟩
 | table w ls=>exact⟨_,_,_,_,_,rfl,⟨rfl,rfl⟩,rfl,rfl,mV gb (by have o:aD _ _:=h1;have:=o.len;lia) h2⟩
def lZ {n:Nat}:ij ((Pr.Z (n+1)).fn 42):=fun z M R h1 h2=>⟨_,rfl,rfl,uS gb h1 h2⟩
def rQ {n:Nat}:jU ((Pr.Z (n+2)).fn 43):=fun zs M R h1 h2 h3 h4 h5=>⟨_,rfl,rfl,rL lZ h1 h2 h3 h4 h5⟩
def GV {n:Nat}:Ag ((Pr.Z (n+1)).fn 44):=fun n M R h1 h2=>⟨_,rfl,rfl,uV h1 h2⟩
def xG {n:Nat}:nz ((Pr.Z (n+1)).fn 45):=fun ps s M R h1 h2 h3 h4=>⟨_,rfl,rfl,xn h1 h2 h3 h4⟩
def xH {n:Nat}:nA ((Pr.Z (n+2)).fn 46):=fun ps M R h1 h2=>⟨_,rfl,rfl,xo GV xG h1 h2⟩
def BK {n:Nat}:tw ((Pr.Z (n+1)).fn 47):=fun qs ps M R h1 h2=>⟨_,rfl,rfl,By h1 h2⟩
def ze {n:Nat}:qC ((Pr.Z (n+3)).fn 48):=fun r ps M R h1 h2 h3=>⟨_,rfl,rfl,yV (Pg.gM _) LD BK h1 h2 h3⟩
def BL {n:Nat}:tx ((Pr.Z (n+1)).fn 49):=fun ps M R h1 h2=>⟨_,rfl,rfl,BA h1 h2⟩
def nV {n:Nat}:iH ((Pr.Z (n+1)).fn 50):=fun zs M R h1 h2=>⟨_,rfl,rfl,nP h1 h2⟩
def nW {n:Nat}:iG ((Pr.Z (n+1)).fn 51):=fun qs ps M R h1 h2 h3=>⟨_,rfl,rfl,nO h1 h2 h3⟩
def zf {n:Nat}:qE ((Pr.Z (n+7)).fn 52):=fun r ps M R h1 h2 h3=>⟨_,rfl,rfl,yX (Pg.gM _) Al Eo Eu nV nW h1 h2 h3⟩
def Ew {n:Nat}:xu ((Pr.Z (n+8)).fn 53):=fun z r ps M R h1 h2 h3 h4=>⟨_,rfl,rfl,Ed (Pg.gM _) cV iq lZ xH ze BL zf h1 h2 h3 h4⟩
def tH {n:Nat}:mT ((Pr.Z (n+1)).fn 54):=fun qs ps M R h1 h2=>⟨_,rfl,rfl,Bz h1 h2⟩
def LF {n:Nat}:Ei 6 ((Pr.Z (n+13)).fn 55):=fun r f w a b z ps zs L qs M R h1 h2 h3 h4 h5 h6 h7 h8 h9 HD YT YU=>⟨_,rfl,rfl,nR (Pg.gM _) An Am Ew tH h1 h2 h3 h4 h5 h6 h7 h8 h9 HD YT YU⟩
def Ex {n:Nat}:xy 6 ((Pr.Z (n+14)).fn 56):=fun r f a b zs M R h1 h2 h3 h4 h5 h6 h7 h8 h9 HD=>⟨_,rfl,rfl,El (Pg.gM _) An Am iq rQ tH LF h1 h2 h3 h4 h5 h6 h7 h8 h9 HD⟩
def zg {n:Nat}:qG ((Pr.Z (n+1)).fn 57):=fun c M R h1=>⟨_,rfl,rfl,nS h1⟩
def GW {n:Nat}:Ai ((Pr.Z (n+2)).fn 68):=fun r zs M R h1 h2 h3=>⟨_,rfl,rfl,GP (Pg.gM _) iq Al h1 h2 h3⟩
def LG:∀ (ns:List Int) k,ns.length<=63->(∀ M',k (.bl true) M')->(Pr.Z 15).fn 36 [.og (ns.map .int)] (fun _=>none) k:=fun ns k h1 h2=>⟨_,rfl,rfl,Qp (Z:=Pr.Z (0+14)) (Pg.gM _) eh za Es zd u6 zb LC fj (jy (k:=6)) (lX (k:=6)) GS Qt Ex zg GW h2⟩
end K18
namespace PySem.W.Fast
def tw9980647476458350435:Nat:=0
def tw5035375588681606924:Nat:=0
def tw3338235487669111512:Nat:=0
def tw6474087724332851110:Nat:=0
def tw1173193231669629994:Nat:=0
def tw17505888541222209806:Nat:=0
def tw7759004671881984894:Nat:=0
def tw10906709800188942961:Nat:=0
def tw15913940461762587509:Nat:=0
def tw17806190618889212109:Nat:=0
def tw1526570389205140668:Nat:=0
def tw7599848976878962726:Nat:=0
def tw749126660918080419:Nat:=0
def tw17198635519665992985:Nat:=0
def tw1728441036505607215:Nat:=0
def tw10959431273386221971:Nat:=0
def tw5928651372551541945:Nat:=0
def tw14173789858299956369:Nat:=0
def tw14016546798892224470:Nat:=0
def tw11208985632951079353:Nat:=0
def tw6746951821682225581:Nat:=0
def tw2407083985890156291:Nat:=0
def tw105066582615738760:Nat:=0
def tw779145895210274533:Nat:=0
def tw2403509557084661515:Nat:=0
def tw5788288752935157730:Nat:=0
def tw5501676611382395523:Nat:=0
def tw16913625691698425861:Nat:=0
def tw631785612520266988:Nat:=0
def tw9258226883643828475:Nat:=0
def tw6667699308267137173:Nat:=0
def tw1214488913945060886:Nat:=0
def tw8994504530859954910:Nat:=0
def tw14138721497039319156:Nat:=0
def tw14122235760805196702:Nat:=0
def tw9404477815358205476:Nat:=0
def tw4889259929464009564:Nat:=0
def tw3864599117608419455:Nat:=0
def tw4673951338561566476:Nat:=0
def tw293595297722317002:Nat:=0
def tw9434475131895520968:Nat:=0
def tw15878413867670222191:Nat:=0
def tw11426511254263279948:Nat:=0
def tw4599104354967158150:Nat:=0
def tw2612745832515147735:Nat:=0
def tw13248144681039179039:Nat:=0
def tw3419378506218035952:Nat:=0
def tw3866502454613477585:Nat:=0
def tw12914362700455532092:Nat:=0
def tw16359320443761266355:Nat:=0
def tw4867864639597824857:Nat:=0
def tw5934538374342871210:Nat:=0
def tw928238999939386112:Nat:=0
def tw17192682522471740117:Nat:=0
def tw5918723032445204947:Nat:=0
def tw7944255203506970938:Nat:=0
def tw14010347264662970207:Nat:=0
def tw1196296159355843477:Nat:=0
def tw3810149527306978313:Nat:=0
def tw4128948502313961588:Nat:=0
def tw14742012299273876051:Nat:=0
def tw15953721225079806125:Nat:=0
def tw3029846926703716340:Nat:=0
def tw13499353350465906196:Nat:=0
def tw15734659640105347704:Nat:=0
def tw1130282569001091883:Nat:=0
def tw8614647975791287828:Nat:=0
def tw13635058994993460953:Nat:=0
def tw3647157533443660449:Nat:=0
def tw13933741226004784576:Nat:=0
def tw9262496291113225017:Nat:=0
def tw11990743675216433322:Nat:=0
def tw4378041731053680879:Nat:=0
def tw16512604789308113980:Nat:=0
def tw11315103631637846274:Nat:=0
def tw13856268788563046661:Nat:=0
def tw12091689757104563698:Nat:=0
def tw14302361585729922206:Nat:=0
def tw7435293836550969342:Nat:=0
def tw7610808119390096894:Nat:=0
def tw8355119958059033489:Nat:=0
def tw13919551063447260831:Nat:=0
def tw5198907101222557239:Nat:=0
def tw17284130599316583107:Nat:=0
def tw8018699552173915845:Nat:=0
def tw2138907171375778422:Nat:=0
def tw7400520058476916660:Nat:=0
def tw9752064959110143763:Nat:=0
def tw16432107922336450673:Nat:=0
def tw10735919804392888997:Nat:=0
def tw13178526335589402679:Nat:=0
def tw11348717400822382497:Nat:=0
def tw9059474646367577207:Nat:=0
def tw4868328238926525759:Nat:=0
def tw12876425205971035060:Nat:=0
def tw17856599231294190571:Nat:=0
def tw10886542314510745708:Nat:=0
def tw4636646833697663771:Nat:=0
def tw14227134797565073243:Nat:=0
def tw11974341133963173196:Nat:=0
def tw6559836996003759635:Nat:=0
def tw4866711997375650624:Nat:=0
def tw6550139004928216633:Nat:=0
def tw9890262741843134781:Nat:=0
def tw9821711929428564378:Nat:=0
def tw3155382643812740039:Nat:=0
def tw8433531376835463208:Nat:=0
def tw5241238152414891402:Nat:=0
def tw10126455859781604359:Nat:=0
def tw4799865797185837793:Nat:=0
def tw16291235427316572708:Nat:=0
def tw8918238446369086879:Nat:=0
def tw12063616871295539136:Nat:=0
def tw9012876508306270262:Nat:=0
def tw16007567034087055450:Nat:=0
def tw18007547710948683928:Nat:=0
def tw692825891762236990:Nat:=0
def tw9079388259660251698:Nat:=0
def tw13448563105647533771:Nat:=0
def tw16444857427847053319:Nat:=0
def tw3924073681678764428:Nat:=0
def tw17331134089621332885:Nat:=0
def tw8626937489931319494:Nat:=0
def tw17605059919721669123:Nat:=0
def tw6711327334652987988:Nat:=0
def tw12318128180701872591:Nat:=0
def tw8891916514991986963:Nat:=0
def tw3160174809682142116:Nat:=0
def tw6957527404865367426:Nat:=0
def tw12962161203385639156:Nat:=0
def tw9770577635733519566:Nat:=0
def tw15112170308865723775:Nat:=0
def tw1397125544536096063:Nat:=0
def tw4376531433395890405:Nat:=0
def tw7349481581511028573:Nat:=0
def tw14329318515106982295:Nat:=0
def tw12884252155336099416:Nat:=0
def tw11986594113457654249:Nat:=0
def tw3521362423105902494:Nat:=0
def tw17059814135257462669:Nat:=0
def tw505990896187642433:Nat:=0
def tw10897696184466401987:Nat:=0
def tw2351883241086542726:Nat:=0
def tw2176445275003654559:Nat:=0
def tw5442158822442841585:Nat:=0
def tw14821294641950192375:Nat:=0
def tw10774712311906292472:Nat:=0
def tw12222358083009831492:Nat:=0
def tw7113466478620249381:Nat:=0
def tw17469984992865035572:Nat:=0
def tw7268358826107995461:Nat:=0
def tw5613586802897247013:Nat:=0
def tw14915117428381745383:Nat:=0
def tw1366448217497382321:Nat:=0
def tw11461995292917997883:Nat:=0
def tw10929524442293390140:Nat:=0
def tw8075004377845968565:Nat:=0
def tw13817948457730030113:Nat:=0
def tw3765199501194434950:Nat:=0
def tw9725535202419159207:Nat:=0
def tw1439980597640351942:Nat:=0
def tw14533302115288387787:Nat:=0
def tw4725531172151129657:Nat:=0
def tw4621922823040585183:Nat:=0
def tw8871927429492097737:Nat:=0
def tw7879147180368352981:Nat:=0
def tw2572244096406719923:Nat:=0
def tw10392568302971863757:Nat:=0
def tw12416162966975537953:Nat:=0
def tw8250901827143832720:Nat:=0
def tw6846444918124046985:Nat:=0
def tw12693891750290270275:Nat:=0
def tw970344440335212343:Nat:=0
def tw2022695435533373612:Nat:=0
def tw2777482777468184555:Nat:=0
def tw2755329626698880639:Nat:=0
def tw7065648984778661014:Nat:=0
def tw8148677938988170:Nat:=0
def tw5326455751268343080:Nat:=0
def tw2262644880571772164:Nat:=0
def tw12747094106009397843:Nat:=0
def tw2442467496467907007:Nat:=0
def tw16399027502052047190:Nat:=0
def tw7786846562227104201:Nat:=0
def tw14304272098310071432:Nat:=0
def tw10106001055597984685:Nat:=0
def tw23144649257247947:Nat:=0
def tw17979430638916970910:Nat:=0
def tw14443783130933343098:Nat:=0
def tw9067817590326350659:Nat:=0
def tw15873462890357556195:Nat:=0
def tw10889010268762873275:Nat:=0
def tw8472696208171470016:Nat:=0
def tw11222626106353263380:Nat:=0
def tw14896623590568910900:Nat:=0
def tw15145836101308789900:Nat:=0
def tw15700187380535492849:Nat:=0
def tw6339640197021374271:Nat:=0
def tw8501143187627972890:Nat:=0
def tw9575846027740609405:Nat:=0
def tw15854512154679657430:Nat:=0
def tw5837389204529527250:Nat:=0
def tw2993472096727521711:Nat:=0
def tw8009180277231149187:Nat:=0
def tw802516224718631637:Nat:=0
def tw6717083142295431681:Nat:=0
def tw6204138842907812353:Nat:=0
def tw18129850317922964492:Nat:=0
def tw1092037896454915905:Nat:=0
def tw11222956563555981682:Nat:=0
def tw15204064458758290775:Nat:=0
def tw4079103880712215279:Nat:=0
def tw7685993385360443508:Nat:=0
def tw13401913404732358921:Nat:=0
def tw13759899571002744067:Nat:=0
def tw3941419449264172107:Nat:=0
def tw13866402203220672218:Nat:=0
def tw1094858945362660935:Nat:=0
def tw13943552786183450140:Nat:=0
def tw5355222218940871829:Nat:=0
def tw9336849946839077937:Nat:=0
def tw11002906344992529317:Nat:=0
def tw3219604439462427223:Nat:=0
def tw13670606282745675105:Nat:=0
def tw4987160647650821832:Nat:=0
def tw5919432295085141762:Nat:=0
def tw4390157178889200265:Nat:=0
def tw1613430971042606790:Nat:=0
def tw10224248375724605614:Nat:=0
def tw17945388364905780277:Nat:=0
def tw8981468734321454833:Nat:=0
def tw18262861055879272960:Nat:=0
def tw10433412363684854046:Nat:=0
def tw16870002874572833304:Nat:=0
def tw13546457177921975294:Nat:=0
def tw5844586028758957165:Nat:=0
def tw10441715294707384714:Nat:=0
def tw139133421864011741:Nat:=0
def tw1131028939561598295:Nat:=0
def tw8908440164356466678:Nat:=0
def tw5382430755229768172:Nat:=0
def tw12377817137352683755:Nat:=0
def tw7193846130178640803:Nat:=0
def tw515368710875094380:Nat:=0
def tw16478265645679065577:Nat:=0
def tw16475586661623445495:Nat:=0
def tw788163724779316874:Nat:=0
def tw10855532432957967754:Nat:=0
def tw16841339959521613202:Nat:=0
def tw7605995134291992389:Nat:=0
def tw9061649495669325973:Nat:=0
def tw17159977974912477947:Nat:=0
def tw11993021871489444683:Nat:=0
def tw14694044538286403341:Nat:=0
def tw96714747035655044:Nat:=0
def tw7236550083414395545:Nat:=0
def tw12225732349131664028:Nat:=0
def tw8425398513138333898:Nat:=0
def tw3927143091030340398:Nat:=0
def tw17794781845484717933:Nat:=0
def tw11633593189036141035:Nat:=0
def tw7889133747218440887:Nat:=0
def tw6779568148323676426:Nat:=0
def tw13515105995442641544:Nat:=0
def tw3739978954423490004:Nat:=0
def tw16234086389352391594:Nat:=0
def tw15978158455198593117:Nat:=0
def tw18068695834798386125:Nat:=0
def tw9287039557621750080:Nat:=0
def tw15703783626854602422:Nat:=0
def tw17777392200352429320:Nat:=0
def tw4838529589042110714:Nat:=0
def tw17357316970162251066:Nat:=0
def tw18086775489266904041:Nat:=0
def tw12067912620396369595:Nat:=0
def tw2454316531064330102:Nat:=0
def tw17836599077077244256:Nat:=0
def tw5292376969137653779:Nat:=0
def tw7780510852985421226:Nat:=0
def tw14183603445073854539:Nat:=0
def tw4542450574902017237:Nat:=0
def tw17226187174097671226:Nat:=0
def tw5696572054732646372:Nat:=0
def tw7081669704860327883:Nat:=0
def tw14859374265372139768:Nat:=0
def tw17630219320551278334:Nat:=0
def tw9713712637670789481:Nat:=0
def tw5601682227421754581:Nat:=0
def tw7308434568402483530:Nat:=0
def tw4178577340208372602:Nat:=0
def tw9483103826733270001:Nat:=0
def tw15613877426262015993:Nat:=0
def tw11458387588992077409:Nat:=0
def tw17837942943850489561:Nat:=0
def tw72281529110361887:Nat:=0
def tw2378172309494635498:Nat:=0
def tw16519557560206488515:Nat:=0
def tw8367998620101538875:Nat:=0
def tw16767199963091827734:Nat:=0
def tw15377722703604032586:Nat:=0
def tw14360529512264408464:Nat:=0
def tw2227493323760406814:Nat:=0
def tw4291231103834853952:Nat:=0
def tw17462458141064469200:Nat:=0
def tw1250779615482430099:Nat:=0
def tw13513514141393489218:Nat:=0
def tw14087588521332383850:Nat:=0
def tw276707349012862254:Nat:=0
def tw7490680284979930270:Nat:=0
def tw2014303338799601141:Nat:=0
def tw15130983148522685567:Nat:=0
def tw6768382182939248628:Nat:=0
def tw12923005428386457509:Nat:=0
def tw7217291739774347647:Nat:=0
def tw10232546644784139967:Nat:=0
def tw4693726444531126020:Nat:=0
def tw17990087502648685596:Nat:=0
def tw6074418963083596345:Nat:=0
def tw15099648382039170643:Nat:=0
def tw14369835055432485841:Nat:=0
def tw1985602918924431293:Nat:=0
def tw12834210149715673436:Nat:=0
def tw17202079691580574635:Nat:=0
def tw8524439971792387483:Nat:=0
def tw741061334061928901:Nat:=0
def tw11799950456992508812:Nat:=0
def tw14535496709114527071:Nat:=0
def tw9484830418726080910:Nat:=0
def tw10223929287695662451:Nat:=0
def tw4210046139630579536:Nat:=0
def tw865964930693873300:Nat:=0
def tw11001469068523028562:Nat:=0
def tw3427820696398884979:Nat:=0
def tw7675522196163590888:Nat:=0
def tw18176249062357735266:Nat:=0
def tw14570347254139650633:Nat:=0
def tw14870904735437977106:Nat:=0
def tw6603724876327227372:Nat:=0
def tw15172363478093603644:Nat:=0
def tw7184116317834624856:Nat:=0
def tw3431458239389944116:Nat:=0
def tw14770711425092630026:Nat:=0
def tw16285052208516519205:Nat:=0
def tw7499487290159067297:Nat:=0
def tw4272336095130009317:Nat:=0
def tw7207221762503670524:Nat:=0
def tw18091331309431377453:Nat:=0
def tw14983350679971963071:Nat:=0
def tw15261217444671695570:Nat:=0
def tw14060150429031292143:Nat:=0
def tw18423617031616037753:Nat:=0
def tw450581125294729922:Nat:=0
def tw13414720577576468822:Nat:=0
def tw15738537004417461605:Nat:=0
def tw11407883005072051418:Nat:=0
def tw6450387033802093480:Nat:=0
def tw12437081565527220606:Nat:=0
def tw10150203015426959918:Nat:=0
def tw16288416574249290721:Nat:=0
def tw2991464967402065019:Nat:=0
def tw11512360107254672987:Nat:=0
def tw8186370010416946437:Nat:=0
def tw8887386537019666090:Nat:=0
def tw10668066539109033706:Nat:=0
def tw3018215612711528092:Nat:=0
def tw10545148610369545415:Nat:=0
def tw13412965273710136655:Nat:=0
def tw16366600240975492633:Nat:=0
def tw9489492636015737503:Nat:=0
def tw4656324435797837588:Nat:=0
def tw5118975054116668651:Nat:=0
def tw13729412184063957996:Nat:=0
def tw8871246472404978262:Nat:=0
def tw18362748640659312493:Nat:=0
def tw6567509427311527908:Nat:=0
def tw1610706392059182793:Nat:=0
def tw13225119341120726183:Nat:=0
def tw5130558297353399939:Nat:=0
def tw13731480438526461296:Nat:=0
def tw14641404832300590066:Nat:=0
def tw18315689832218051218:Nat:=0
def tw861968141891966222:Nat:=0
def tw2553711855777986664:Nat:=0
def tw8209073023727838810:Nat:=0
def tw13515479525908140038:Nat:=0
def tw17089625274965363210:Nat:=0
def tw16691034223960243869:Nat:=0
def tw11697509725922738860:Nat:=0
def tw7761831924709746798:Nat:=0
def tw826942467044255598:Nat:=0
def tw10928045566242963743:Nat:=0
def tw11684518565106458937:Nat:=0
def tw1032049080293444510:Nat:=0
def tw9856411291040996957:Nat:=0
def tw17694436768547580482:Nat:=0
def tw13086798694332407500:Nat:=0
def tw2760988324783144860:Nat:=0
def tw4453354227466371443:Nat:=0
def tw14755432894308298964:Nat:=0
def tw10401669123044724615:Nat:=0
def tw5502462734309594643:Nat:=0
def tw14673724340194016241:Nat:=0
def tw1722991481357648387:Nat:=0
def tw15647288896888143210:Nat:=0
def tw9265878521665607115:Nat:=0
def tw13817698986654040633:Nat:=0
def tw1909247170900726640:Nat:=0
def tw15438941511721091025:Nat:=0
def tw1144298649375087021:Nat:=0
def tw16488697628393244403:Nat:=0
def tw17833922756274630966:Nat:=0
def tw5120893192589423676:Nat:=0
def tw13565939514369538186:Nat:=0
def tw16416013456157049804:Nat:=0
def tw7759355277611653984:Nat:=0
def tw15508041306644417089:Nat:=0
def tw5825571530528097126:Nat:=0
def tw11811666487262551704:Nat:=0
def tw10881334252521783197:Nat:=0
def tw17319234276842777348:Nat:=0
def tw8823495450905063647:Nat:=0
def tw17612114302131938548:Nat:=0
def tw15906720851987808149:Nat:=0
def tw14379964885333162873:Nat:=0
def tw16357576135023853701:Nat:=0
def tw13229370551720186306:Nat:=0
def tw9322882286339317899:Nat:=0
def tw16958476182603702679:Nat:=0
def tw16827435475729575224:Nat:=0
def tw9651114836080015510:Nat:=0
def tw11492137667604493677:Nat:=0
def tw4868935047547610619:Nat:=0
def tw217352401021718922:Nat:=0
def tw10051311704004491775:Nat:=0
def tw2365383153077242898:Nat:=0
def tw3284596748359903034:Nat:=0
def tw3095313864266486249:Nat:=0
def tw1425002483336943992:Nat:=0
def tw13205479768737447129:Nat:=0
def tw770207302402985815:Nat:=0
def tw13757595817436917765:Nat:=0
def tw14413932107310074235:Nat:=0
def tw12339434034681607167:Nat:=0
def tw4232942892055539095:Nat:=0
def tw10248340473171704331:Nat:=0
def tw16423411586487515352:Nat:=0
def tw14256200681892656510:Nat:=0
def tw7574594425157250429:Nat:=0
def tw8291671752616547324:Nat:=0
def tw11259709088606052288:Nat:=0
def tw12613952474400664123:Nat:=0
def tw9209126483126905273:Nat:=0
def tw5039906522475041895:Nat:=0
def tw16201348410475667914:Nat:=0
def tw6444288199676081085:Nat:=0
def tw5210528100693525269:Nat:=0
def tw11861936796259405295:Nat:=0
def tw6797892788459553007:Nat:=0
def tw15381404137974269241:Nat:=0
def tw2512255684644895045:Nat:=0
def tw9458902880886901235:Nat:=0
def tw2049942726870957783:Nat:=0
def tw1579793842240315843:Nat:=0
def tw855987369161761850:Nat:=0
def tw10516889248880514248:Nat:=0
def tw15771534064382925686:Nat:=0
def tw10717618700564185964:Nat:=0
def tw2852600636298090401:Nat:=0
def tw12874716670616019108:Nat:=0
def tw12767253838234447707:Nat:=0
def tw17242078318345786865:Nat:=0
def tw12719390216844600634:Nat:=0
def tw747231498893859250:Nat:=0
def tw1335992736332759521:Nat:=0
def tw8701938889034459494:Nat:=0
def tw5370832042498302466:Nat:=0
def tw5823148138992046237:Nat:=0
def tw17991813553053429790:Nat:=0
def tw13251731593761303002:Nat:=0
def tw14317337771642336545:Nat:=0
def tw9756756251232872616:Nat:=0
def tw14973535642391933918:Nat:=0
def tw10336897116985793683:Nat:=0
def tw13723625787266853279:Nat:=0
def tw5135818125424511871:Nat:=0
def tw7940547229799769547:Nat:=0
def tw6975283109388639691:Nat:=0
def tw3740393903601092777:Nat:=0
def tw17210172253892168800:Nat:=0
def tw18129027648363672498:Nat:=0
def tw3244642774566678876:Nat:=0
def tw3550691675610791628:Nat:=0
def tw12870641987674822085:Nat:=0
def tw13828951303978704449:Nat:=0
def tw13783218400359069490:Nat:=0
def tw525726788817408576:Nat:=0
def tw15394030992989535302:Nat:=0
def tw14060266851760801891:Nat:=0
def tw5449214514674795782:Nat:=0
def tw14911702700538109221:Nat:=0
def tw14671757992214283525:Nat:=0
def tw5551906117766267657:Nat:=0
def tw17739808012847775137:Nat:=0
def tw8641655775065218314:Nat:=0
def tw4337285999392358797:Nat:=0
def tw14676172899255510053:Nat:=0
def tw7956989314119228417:Nat:=0
def tw2378722414741230150:Nat:=0
def tw2581464131007335311:Nat:=0
def tw4777264552792737195:Nat:=0
def tw878401859027645137:Nat:=0
def tw15108351839649291781:Nat:=0
def tw8420663540881741611:Nat:=0
def tw2948381339552627597:Nat:=0
def tw9607011484000912337:Nat:=0
def tw13379532026742197633:Nat:=0
def tw1086052534578985480:Nat:=0
def tw1432423258011682744:Nat:=0
def tw12088778813742110013:Nat:=0
def tw18066391186522484798:Nat:=0
def tw11721590432935515262:Nat:=0
def tw16975842813846079295:Nat:=0
def tw7550050524259171182:Nat:=0
def tw3646420679990073662:Nat:=0
def tw16475885500380183084:Nat:=0
def tw10360611921367479582:Nat:=0
def tw4261948448163143017:Nat:=0
def tw2625318403202692953:Nat:=0
def tw4160845784976617817:Nat:=0
def tw11878331811903671071:Nat:=0
def tw8974724641815633948:Nat:=0
def tw11017964093283852085:Nat:=0
def tw17605103158865438248:Nat:=0
def tw4007891461957977950:Nat:=0
def tw12703546503636923122:Nat:=0
def tw9869957487357270836:Nat:=0
def tw10528175119556679992:Nat:=0
def tw8827606433228394173:Nat:=0
def tw6027283977363942493:Nat:=0
def tw16694678718509395634:Nat:=0
def tw17996149564065438350:Nat:=0
def tw4922591988312329560:Nat:=0
def tw10164423826408126716:Nat:=0
def tw2890288978502918460:Nat:=0
def tw16476852870017976516:Nat:=0
def tw673071161929136680:Nat:=0
def tw12826900225564780365:Nat:=0
def tw12838099992916717016:Nat:=0
def tw3896180455287321318:Nat:=0
def tw9333388722889610882:Nat:=0
def tw12824296582497276132:Nat:=0
def tw13309862354282180454:Nat:=0
def tw12959830847437646853:Nat:=0
def tw13918742867664280294:Nat:=0
def tw4041529434635239138:Nat:=0
def tw14550232995566259558:Nat:=0
def tw16489415494482453223:Nat:=0
def tw4353831945881335173:Nat:=0
def tw10515435493809161548:Nat:=0
def tw6752057772877791151:Nat:=0
def tw3209031627381989456:Nat:=0
def tw13697513723811346828:Nat:=0
def tw18037175766140407657:Nat:=0
def tw4427073919130015954:Nat:=0
def tw11369884174988352079:Nat:=0
def tw10375136504738366598:Nat:=0
def tw9185003797292488834:Nat:=0
def tw12912686687538740658:Nat:=0
def tw10763477414416305199:Nat:=0
def tw14588521705424333906:Nat:=0
def tw5289335020371513474:Nat:=0
def tw6089025258459925743:Nat:=0
def tw16062073023478910772:Nat:=0
def tw12928548108315240207:Nat:=0
def tw850650026563732438:Nat:=0
def tw466681354568374468:Nat:=0
def tw7391828415226105316:Nat:=0
def tw6475466230886266788:Nat:=0
def tw3865339945853032721:Nat:=0
def tw6276652114502730588:Nat:=0
def tw576466536954994362:Nat:=0
def tw5737773191966890991:Nat:=0
def tw5662541776951133020:Nat:=0
def tw9464686169072105780:Nat:=0
def tw12013265554582065708:Nat:=0
def tw10685853556439838585:Nat:=0
def tw3996833471574595583:Nat:=0
def tw3912145651427903823:Nat:=0
def tw6234280909986241887:Nat:=0
def tw9785707908238116465:Nat:=0
def tw17424332730898070014:Nat:=0
def tw281243206921483347:Nat:=0
def tw7073200580919007701:Nat:=0
def tw12805144903100504727:Nat:=0
def tw6565442752531869962:Nat:=0
def tw15731720408006454951:Nat:=0
def tw10566117367569052039:Nat:=0
def tw24379059209403668:Nat:=0
def tw8701868445438227196:Nat:=0
def tw16014278712104263942:Nat:=0
def tw2888213917777711682:Nat:=0
def tw14581791400881339629:Nat:=0
def tw1694353956335784216:Nat:=0
def tw48387207840215519:Nat:=0
def tw12895872031668081950:Nat:=0
def tw11636562220197882324:Nat:=0
def tw8740034695314748239:Nat:=0
def tw1354058513222823289:Nat:=0
def tw14420555080431596112:Nat:=0
def tw11918551247950681514:Nat:=0
end PySem.W.Fast
open PySem PySem.W PyProof.Rows
set_option maxRecDepth 100000 in
set_option maxHeartbeats 0 in
theorem PySem.Challenge.cw_shrinkhouse_k25_no_more_than_told_holds : PySem.Challenge.rw_shrinkhouse_k25_no_more_than_told.Holds := by
 w_on;o_law;k_head;(case hw=>w_witness2)
 k_fill
 exact PV.Gw (p:=K18.Pr) (l:=PySem.Challenge.rw_shrinkhouse_k25_no_more_than_told) (lw:=36) (n:=15) rfl rfl rfl ⟨rfl,by decide,by decide⟩ (fun w h Y=>PySem.W.kIn_of Y) (fun w=>by kernel_rfl) (fun w=>⟨by kernel_rfl,by kernel_rfl,by kernel_rfl,by kernel_rfl⟩) rfl rfl rfl K18.LG
#print axioms PySem.Challenge.cw_shrinkhouse_k25_no_more_than_told_holds
