import PyProof.Rows.All
import Wide.All
import OpenK.AllK
import Wide.FinOn
import Lean
import PyProof.EqAt
import PyProof.EqKinds
import PyProof.TupleCall
import PyProof.StrLawsIn
import KE.KTryMore
import KE.KDictOf
import PyProof.Draws
import PyProof.EnumMake
import PyProof.Rows.EnumRows
import PyProof.ZipIter
import KE.KRevIter
import KE.KDictList
import PyProof.ListRange
import PyProof.RulesTry
import PyProof.SetKind
import PyProof.SetRoads
import PyProof.CollectWalk
import PyProof.Rows.SetFrom
import PyProof.Rows.SortStr
import PySem.Challenge.RW_shrinkhouse_k27_whole_no_part_fails
set_option autoImplicit false
set_option Elab.async false
set_option linter.all false
set_option maxRecDepth 100000
set_option maxHeartbeats 4000000
set_option compiler.extract_closed false
open List renaming length_map→a_, getElem?_eq_getElem→b_, getElem?_map→f_, getElem?_eq_some_iff→j_, mem_map→m_, map_cons→p_, mem_of_getElem?→q_, length_append→u_, getD_eq_getElem?_getD→v_, mem_cons→w_, mem_singleton→x_, length_cons→z_, map_map→C_, map_append→E_, mem_cons_of_mem→F_, length_range→H_, size_toArray→I_, mem_append_right→L_, mem_append→N_, mem_cons_self→Q_, length_singleton→R_, mem_iff_getElem?→S_, all_eq_true→V_, map_congr_left→W_, range→Xa, filterMap_cons→Xb, length_take→Xc, lookup_cons→Xf, mem_range→Xi, getElem?_append_right→Xj, filter_cons→Xm, getElem?_append_left→Xq, mem_filter→Xr, append_nil→Xs, take_of_length_le→Xv, all_cons→Xx, getElem?_eq_none→XE, mem_iff_getElem→XG, mem_of_mem_take→XH, drop_eq_getElem_cons→XM, getElem?_range→XO, take_zero→XS, length_drop→XZ, map_nil→X2, filter_eq_nil_iff→X3, not_mem_nil→X_, flatten_cons→Yh, getElem?_cons_succ→Yi, find?_cons→Yk, length_set→Yl, mem_zipIdx_iff_getElem?→Ym, getElem?_set_self→Yp, all_map→Yt, getElem_mem→Yv, take_length→Yx, pairwise_cons→YA, zip_cons_cons→YB, length_zipIdx→YC, getElem?_drop→YD, take_append_drop→YF, lookup→YO, append_assoc→YQ, take_add_one→YU, map_take→Y0, filter_cons_of_pos→Y6, filter_cons_of_neg→Y7, length_pos_of_mem→Zf, nodup_cons→Zg, foldl_cons→Zi, any_cons→Zj, length_filter_le→Zk, mem_append_left→Zm, getElem?_set_ne→Zn, filter_eq_self→Zx, filter_sublist→ZA, length_nil→ZI, nodup_append→ZY, drop_eq_nil_of_le→Z2, length_replicate→Z7, contains_iff_mem→Z_, any_eq_true→aaf, isEmpty_iff→aag, zipIdx_cons→aah, range_succ→aas, length_reverse→aaw, filter_append→aaL, getElem?_take→aaM, getElem?_zip_eq_some→aaP, take_sublist→aaX, ext_getElem?→aaZ, map_drop→aa3, getElem?_replicate→aa7, cons_append→aa9, length_eq_zero_iff→abj, mem_flatMap→abk, pairwise_lt_range→abx, any_map→aby, all_nil→abA, of_mem_zip→abE, getElem?_reverse→abM, getElem?_zipIdx→ab2, mem_of_mem_drop→ab3, pairwise_append→ab4, takeWhile_cons→acb, contains→ack, mem_filterMap→aco, getElem_range→acx, count_pos_iff→acA, flatMap_cons→acR, getElem_take→acV, take_prefix→ac2, countP_cons→ac3, drop_length→ac5, mem_flatten→ac7, nil_append→adg, countP_map→adj, mem_zipIdx→adl, replicate→adv, forIn_nil→adA, nodup_nil→adE, take_succ→adG
open PySem.W renaming Frag→e_, keepIn→Xn, findIn→Xu, kia_one→XI, emptyDict→XQ, instObj→Yj, fnOf→Yr, callWith_K→Zc, codeIn→Zo, plainGet→Zs, nsIn→Zv, hasDictIn→ZU, isFn→ZV, kitOne→ZW, methodCall_KW→Z8, mg_of→aam, plainGet_of→aav, lookIn→aaF, methodObj→aaQ, plainOver→aaU, specialIn→aaV, cellsFrom_some→abr, takerIn→abC, makesIn→abD, kitx_list→acF, kitx_dict→acG, handedIn→acY, OpenLaw→adc, readsIn→ade, findCls→adf, CFound→adF, WalkO→adI
open PySem renaming wpAny_bind→g_, Shared→h_, wpAny_pure→y_, Program→K_, starEach→M_, PyData→P_, compareOp→Xl, wpAny_truthy_bool→Xt, Around→Xw, cellsFrom→XB, FuncData→XF, behindInMarks→XR, wpAny_mono→XW, strKind→X0, bootBuiltins→X1, wpAny_Call_Name_kw→X9, strIterType→Yc, mem_of_lookup→Ye, swapsWith→Yf, foldedSetIterable→Yg, NameKind→Yn, backTo→Yq, rawInt→YG, wpAny_passesOwn→YK, codeAny_builtin→YM, wpAny_of_eq→YT, sysModules→YX, attributeBase→YZ, wpAny_getItem_str_slice→Y5, keywordEach→Zp, codeAny→Zt, codeAny_mono→Zu, binaryOp→ZB, ReadsAll→ZD, wpAny_holding→ZF, wpAny_specialOf→ZJ, sliceBounds→ZO, wpAny_field→ZP, Operator→ZS, wpAny_pyIter_rangeiter→ZT, wpAny_newObj_type→ZZ, wpAny_pyIter_list→Z0, eqIsQuiet_byValue→Z4, wpAny_call_entry→aae, Keyword→aal, wpAny_execs_nil→aao, letOwnedTupleGo→aap, post_val_or_str→aaq, pyHashByItsType→aat, Builtin→aaz, backToKw→aaH, wpAny_seqItems→aaI, wpAny_pyIter_tuple→aaK, holding→aaR, IsRangeIter→aaS, wpAny_comprehension_free→aa2, wpAny_pyHash_int→aa5, wpAny_pyHash_str→aa6, wpAny_callSpecial?_slot→abb, SetTable→abd, Paired→abl, builtinsNs→abm, assignEach→abn, wpAny_pyNext_list_item→abo, wpAny_pyNext_range_end→abp, wpAny_Call_method_late→abu, callerA→abw, wpAny_loadPart'→abG, codeAny_of_tree→abH, wpAny_isTrue_Compare1→abI, wpAny_pyNext_list_end→abJ, isTrue→abP, wpAny_loadName_local→abQ, recursionLimit→abR, subscripted→abT, compEnvC→abV, newFunctionEnv→abW, standAt→ab6, PassesOwn→ab7, scanBound→ab8, wpAny_loadName_cell→ab_, rangeSize_one→ace, plainId_quiet→aci, wpAny_call→acp, call_meets→acs, Within→acC, BindsTo→acJ, bindArgs→acK, valueAt→acO, tupleKind→acW, assign→acX, getMethod→acZ, Arguments→ac0, sizeLine_eq→ac_, UnaryOp→ado, getItem→adp, IsRange→adr, call→adz
open Int renaming toNat_natCast→i_, zero_add→Xd, eq_ofNat_of_zero_le→Xh, natCast_add→XV, natCast_mul→X8, emod_nonneg→YL, emod_lt_of_pos→Zd, fdiv_eq_ediv_of_nonneg→aaE, mul_one→aaT, toNat→abg, natCast_emod→abh, mul_nonneg→abX, toNat_of_nonneg→acd, mul_zero→acU, le_refl→ada
open Option renaming map_eq_some_iff→k_, map_some→ZH, isSome_iff_exists→aa1, getD_none→aa8, isSome_some→acu, getD_some→ac1
open PySem.Heap renaming get?_push_of_some→o_, get?_push_size→A_, lt_size→B_, size_push→Ya, SameBut→Zb, get?_update_self→abK
open Bool renaming false_ne_true→r_, and_eq_true→G_, eq_iff_iff→X6, and_true→Y1, false_xor→Zr, true_xor→ZG, or_eq_true→abF, false_or→ach, false_eq_true→act
open Nat renaming le_refl→t_, lt_of_lt_of_le→D_, ne_of_lt→T_, le_trans→U_, lt_irrefl→Xp, le_of_lt→XT, lt_or_ge→XU, min_eq_left→X7, zero_le→Yb, lt_succ_self→Y3, mul_le_mul_left→Zy, lt_of_le_of_lt→ZL, eq_zero_or_pos→ZM, add_zero→Z5, min_eq_right→aai, mod_lt→aaj, le_succ→aan, div_add_mod→aau, ne_of_gt→aay, mul_le_mul→aaO, lt_succ_of_lt→aaY, div_eq_of_lt→abe, mod_eq_of_lt→abf, add_sub_cancel_left→abi, le_total→abB, add_mul→ab0, one_mul→ab1, mul_le_mul_right→ab5, le_of_eq→acE, lt_trans→acM, mul_add_mod'→ac6, mul_add_div→adn
open PySem.Builtin.Range renaming rangeSize→J_, rangeFitsLong→Zl, small→aca
open Option.some renaming inj→O_
open PySem.Value renaming ref→Xe, type→Yy, none→Za, int→aac, str→aaB, bool→aaC, isStrOf_shape→ab9, float→ac8, isStrOf→adH, builtin→adJ
open PySem.SeqAt renaming shaped→Xg, canLay_of_shaped→X4, room_of_shaped→abY, notIn_listAt→acr, eqAt_reads→ac4, in_listAt→adb
open PySem.PyData renaming eqv→Xo, canLayAll0→XA, depthAll→XJ, tuple→YV, canLay0→Zq, str→ZN, depth→Z1, eqvAll→acj, strOk→acN
open PyProof.Rows renaming callWith_type1→Xy, boot_list→Ys, boot_range→Y2, boot_tuple→ZQ, callWith_builtin1→aad, AllBare→aax, subscriptTail_builtinR→abt, boot_dict→abz, boot_int→abL, envOfC→abS, subscriptTail→acf, rangeSize_pos→acg, IntsAre→adq
open Array renaming length_toList→Xz, forIn_toList→acz
open PySem.NameKind renaming free→XC, cell→Yu
open True renaming intro→XD
open False renaming elim→XN
open PySem.Builtin.Str renaming occurrences→XX
open PySem.Str renaming empty→XY, ofString→YS, length_append→YW, length→acq
open PySem.Around renaming under_plainId→Yd, under→acH
open PyProof.Rows.F renaming plain_set_update_loop→Yo, entry_set_update_loop→Zz
open PySem.Txt renaming slice→Yw
open PySem.F renaming slot_tuple_iterator_next→Yz, called_set→Ze, slot_list_getattribute→ZE, plainAttrs_list→ZR, slot_tuple_hash→Z3, slot_list_append→Z6, slot_range_reversed→Z9, args_tuple_iterator_next_1→aar, entry_tuple_iterator_next→aaA, type_list_append→aa4, slot_tuple_count→abN, slot_list_extend→abO, plain_reversed_new→abZ
open Ne renaming symm→YE
open PySem.Builtin.SmallTypes renaming nextOf→YH
open PySem.Builtin.Tuple renaming tupleHashOf→YI
open Classical renaming byContradiction→YJ, propDecidable→Y9
open Sum renaming inr→YN, inl→Y_
open PySem.SetTable renaming grown→Y8
open ForInStep renaming yield→Zh
open PySem.Heap.SameBut renaming update→Zw
open PySem.Builtin.List renaming listTooLong→ZC
open List.Pairwise renaming nil→ZX
open PySem.Calls renaming Name_function_global→aaD, spliced_cons→aaG, spliced_nil→aaW, callWith_builtin→abv, evalArgs_plain→abU
open PySem.Code renaming quiet_builtin→aaJ, isFrame→acI
open PySem.Paired renaming length→aa0
open PySem.Builtin.Dict renaming updateFrom→aa_
open PyProof renaming noPylong_small→abq
open PySem.SeqAt.EqAt renaming int_str→acl, str_int→acm
open PySem.Obj renaming data_mapFields→acw, putSet→adB
open PySem.SeqAt.Reads renaming unique→acy
open List.Sublist renaming slnil→acB
open PySem.WalksT renaming enumerateD→acP
open PySem.Data renaming fields→ac9, cell→adM
open PySem.Builtin.Frozenset renaming updateFrom→adi, newClass→adC
open PySem.PassesOwn renaming never→adk
open Sum.inl renaming inj→adT
open PySem.IsRange renaming new→adX
noncomputable abbrev c_:=@decide_eq_true
noncomputable abbrev d_:=@decide_eq_false
noncomputable abbrev l_:=@Option
noncomputable abbrev n_:=@if_neg
noncomputable abbrev s_:=@if_pos
noncomputable abbrev Xk:=@decide_eq_true_iff
noncomputable abbrev X5:=@beq_eq_false_iff_ne
noncomputable abbrev YR:=@decide_eq_true_eq
noncomputable abbrev YY:=@beq_iff_eq
noncomputable abbrev Y4:=@beq_self_eq_true
noncomputable abbrev ZK:=@String
noncomputable abbrev aak:=@if_true
noncomputable abbrev aaN:=@or_false
namespace L2
open PySem PySem.Spec PyProof.Rows
noncomputable abbrev Key:=Sum Int Str
noncomputable def mS:Key->Value->Bool
 | .inl k,v=>Value.isInt k v
 | .inr x,v=>adH x v
noncomputable def Ps (w:World):Key->Int
 | .inl k=>hashInt k
 | .inr x=>hashStr w x
theorem aX:∀ {k:Key}{v:Value},mS k v=true->(∃ i t,k=Y_ i/\v=aac i t)∨(∃ x t,k=YN x/\v=aaB x t)
 | .inl i,v,h=>by
  obtain⟨t,e⟩:=Value.isInt_shape (k:=i) (v:=v) h;exact .inl ⟨i,t,rfl,e⟩
 | .inr x,v,h=>by
  obtain⟨t,e⟩:=ab9 (x:=x) (v:=v) h;exact .inr ⟨x,t,rfl,e⟩
theorem yj (i:Int) (t:Tok):mS (.inl i) (.int i t)=true:=by simp [mS,Value.isInt]
theorem yk (x:Str) (t:Tok):mS (.inr x) (.str x t)=true:=by simp [mS,adH]
theorem FH (a b:Int):decide ((Y_ a:Key)=Y_ b)=(a==b):=by
 by_cases e:a=b
 ·subst e;simp
 ·have h:¬ (Y_ a:Key)=Y_ b:=fun q=>e (adT q)
  rw[d_ h];exact (X5.mpr e).symm
theorem FI (a b:Str):decide ((YN a:Key)=YN b)=decide (a=b):=by
 by_cases e:a=b
 ·subst e;simp
 ·have h:¬ (YN a:Key)=YN b:=fun q=>e (Sum.inr.inj q)
  rw[d_ h,d_ e]
theorem FJ (a:Int) (b:Str):decide ((Y_ a:Key)=YN b)=false:=d_ (fun q=>nomatch q)
theorem FK (a:Str) (b:Int):decide ((YN a:Key)=Y_ b)=false:=d_ (fun q=>nomatch q)
noncomputable def aK (prog:K_) (w:World):PySem.KeyKind prog w Key where
 is:=mS
 hash:=Ps w
 inj:=fun v a b ha hb=>by
  rcases aX ha with ⟨i,t,rfl,rfl⟩ | ⟨x,t,rfl,rfl⟩
  ·rcases aX hb with ⟨j,u,rfl,e⟩ | ⟨y,u,rfl,e⟩
   ·injection e with e1 _;rw[e1]
   ·exact nomatch e
  ·rcases aX hb with ⟨j,u,rfl,e⟩ | ⟨y,u,rfl,e⟩
   ·exact nomatch e
   ·injection e with e1 _;rw[e1]
 byValue:=fun k v h=>by
  rcases aX h with ⟨i,t,rfl,rfl⟩ | ⟨x,t,rfl,rfl⟩<;>rfl
 pyHash:=fun hv h=>by
  rcases aX hv with ⟨i,t,rfl,rfl⟩ | ⟨x,t,rfl,rfl⟩
  ·exact aa5 h
  ·exact aa6 h
 eqBool:=fun hu hv h=>by
  rcases aX hu with ⟨i,t,rfl,rfl⟩ | ⟨x,t,rfl,rfl⟩
  ·rcases aX hv with ⟨j,u,rfl,rfl⟩ | ⟨y,u,rfl,rfl⟩
   ·rw[FH] at h;exact wpAny_eqBool_int h
   ·rw[FJ] at h;exact acl i t y u _ _ _ _ h
  ·rcases aX hv with ⟨j,u,rfl,rfl⟩ | ⟨y,u,rfl,rfl⟩
   ·rw[FK] at h;exact acm x t j u _ _ _ _ h
   ·rw[FI] at h;exact wpAny_eqBool_str h
 «strs»:=fun k x t v h=>by
  rcases aX h with ⟨i,u,rfl,e⟩ | ⟨y,u,rfl,e⟩
  ·exact nomatch e
  ·injection e with e1 _
   subst e1
   cases v<;>rfl
theorem tj (prog:K_) (w:World) (i:Int) (t:Tok):(aK prog w).is (.inl i) (.int i t)=true:=yj i t
theorem tm (prog:K_) (w:World) (x:Str) (t:Tok):(aK prog w).is (.inr x) (.str x t)=true:=yk x t
end L2
namespace L2
open PySem PySem.Spec PyProof.Rows
inductive V where
 | az | bl (b:Bool) | int (i:Int) | str (x:Str) | xf (b:Array UInt8) | FL (b:UInt64) | ref (a:Addr) | ty (n:ZK)
 deriving DecidableEq
def RelV:V->Value->Prop
 | .az,u=>u=Za
 | .bl b,u=>u=aaC b
 | .int i,u=>∃ t,u=aac i t
 | .str x,u=>∃ t,u=aaB x t
 | .xf b,u=>∃ t,u=Value.bytes b t
 | .FL b,u=>∃ t,u=ac8 b t
 | .ref a,u=>u=Xe a
 | .ty n,u=>u=Yy n
abbrev Vals:List V->List Value->Prop:=abl RelV
theorem Vals.length {xs:List V}{us:List Value} (r:Vals xs us):xs.length=us.length:=aa0 r
theorem Vals.get:∀ {xs:List V}{us:List Value}{i:Nat}{x:V},Vals xs us->xs[i]? = some x->∃ u,us[i]? = some u/\RelV x u
 | _,_,_,_,.nil,e=>by simp at e
 | _,_,0,_,.cons r _,e=>by simp at e;subst e;exact⟨_,rfl,r⟩
 | _,_,i+1,x,.cons _ t,e=>by
  obtain⟨u,h1,h2⟩:=Vals.get (i:=i) (x:=x) t (by simpa using e);exact⟨u,by simpa using h1,h2⟩
theorem Vals.append:∀ {xs ys:List V}{us ws:List Value},Vals xs us->Vals ys ws->Vals (xs++ys) (us++ws)
 | _,_,_,_,.nil,s=>s
 | _,_,_,_,.cons r t,s=>.cons r (Vals.append t s)
theorem Vals.take:∀ {xs:List V}{us:List Value} (n:Nat),Vals xs us->Vals (xs.take n) (us.take n)
 | _,_,0,_=>.nil
 | _,_,_+1,.nil=>.nil
 | _,_,n+1,.cons r t=>.cons r (Vals.take n t)
theorem Vals.drop:∀ {xs:List V}{us:List Value} (n:Nat),Vals xs us->Vals (xs.drop n) (us.drop n)
 | _,_,0,r=>r
 | _,_,_+1,.nil=>.nil
 | _,_,n+1,.cons _ t=>Vals.drop n t
def jC:l_ V->l_ Value->Prop
 | some v,some u=>RelV v u
 | none,none=>True
 | _,_=>False
def KV {κ:Type}:List (κ×V)->List (κ×Value)->Prop:=abl fun (p:κ×V) (q:κ×Value)=>p.1=q.1/\RelV p.2 q.2
noncomputable def kV:Key->V
 | .inl i=>.int i
 | .inr x=>.str x
inductive HO where
 | lst (xs:List V)
 | tup (xs:List V)
 | dK (kvs:List (Key×V)) | dT (kvs:List (List Key×V))
 | set (S:Int->Bool) (n:Nat)
 | ins (C dx:Addr) (fs:List (Str×V))
 | own (x:Addr)
 | xd (fs:List (Str×V))
 | met (f x:Addr)
 | yl (lo hi:Int)
 | du (o:Obj) (u:HO)
 | FM (ps:Array Value)
 | ext (φ:Heap->Prop)
noncomputable abbrev Hp:=Addr->l_ HO
noncomputable def upd (H:Hp) (a:Addr) (o:HO):Hp:=fun b=>if b=a then some o else H b
theorem ay {H:Hp}{a:Addr}{o:HO}:upd H a o a=some o:=by unfold upd;rw[s_ rfl]
theorem aw {H:Hp}{a b:Addr}{o:HO} (h:b≠a):upd H a o b=H b:=by unfold upd;rw[n_ h]
theorem aA {H:Hp}{a b:Addr}{o:HO} (h:H a=some o) (h':H b=none):a≠b:=by
 intro e;subst e;rw[h] at h';cases h'
section
variable (P:K_) (w:World)
def aS (H:Hp) (h:Heap) (a:Addr):HO->Prop
 | .lst xs=>xs.length<=sizeLine/\∃ (aj:List Value) (n:Nat),Vals xs aj/\h.get? a=some { cls:=.type "list",data:=.seq aj.toArray n }
 | .tup xs=>xs.length<=sizeLine/\∃ aj:List Value,Vals xs aj/\IsTup h a aj.toArray
 | .dK kvs=>kvs.length<=sizeLine/\(a==YX)=false/\∃ vs,KV kvs vs/\h.DictOf (aK P w) a vs
 | .dT kvs=>kvs.length<=sizeLine/\(a==YX)=false/\∃ xs:List (List Key×Addr×Value),
   abl (fun (p:List Key×V) (q:List Key×Addr×Value)=>p.1=q.1/\H q.2.1=some (.tup (p.1.map kV))/\RelV p.2 q.2.2) kvs xs /\
   ∃ o es ep,h.get? a=some o/\o.ExactDict/\o.data=.dict es ep/\es.toList=xs.map (entryOfKey (acW (aK P w)))/\(xs.map (·.1)).Nodup
 | .set S n=>h.SetOf (intKind P w) a S n
 | .ins C dx fs=>H dx=some (.own a)/\fs.length<=1000/\dx≠a/\h.get? a=some (Yj C dx) /\
   ∃ mA,h.Ns1 dx mA/\(∀ f,jC (fs.lookup f) (mA f))/\acC mA (fs.map (·.1))
 | .own _=>∃ o,h.get? a=some o
 | .xd fs=>∃ mA,h.Ns1 a mA/\∀ f,jC (fs.lookup f) (mA f)
 | .yl lo hi=>∃ t u v,h.get? a=some { cls:=.type "range",data:=.fields #[.int lo t,.int hi u,.int 1 v] }
 | .du o u=>h.get? a=some o/\aS H h a u
 | .FM ps=>h.get? a=some { cls:=.none,data:=.fields ps }
 | .met f x=>h.get? a=some (aaQ (.ref f) (.ref x))
 | .ext φ=>φ h/\(∃ o,h.get? a=some o)/\∀ h1 h2:Heap,φ h1->(∀ o,h1.get? a=some o->h2.get? a=some o)->φ h2
def iG (H:Hp) (h:Heap):Prop:=∀ a o,H a=some o->aS P w H h a o
end
section
variable {P:K_}{w:World}{H H':Hp}{h h':Heap}{a:Addr}{o:HO}
theorem aS.lt (x:aS P w H h a o):a<h.objs.size:=by
 cases o with
 | lst xs=>obtain⟨_,_,_,_,e⟩:=x;exact B_ e
 | tup xs=>obtain⟨_,_,_,p⟩:=x;exact p.lt
 | dK kvs=>obtain⟨_,_,_,_,o,_,_,e,_⟩:=x;exact B_ e
 | dT kvs=>obtain⟨_,_,_,_,o,_,_,e,_⟩:=x;exact B_ e
 | set S n=>obtain⟨o,_,_,_,e,_⟩:=x;exact B_ e
 | ins C dx fs=>obtain⟨_,_,_,e,_⟩:=x;exact B_ e
 | own y=>obtain⟨_,e⟩:=x;exact B_ e
 | xd fs=>obtain⟨_,⟨_,_,_,e,_⟩,_⟩:=x;exact B_ e
 | yl lo hi=>obtain⟨_,_,_,e⟩:=x;exact B_ e
 | du ob u=>obtain⟨e,_⟩:=x;exact B_ e
 | FM ps=>exact B_ (show h.get? a=some _ from x)
 | met f y=>exact B_ (show h.get? a=some _ from x)
 | ext φ=>obtain⟨_,⟨_,e⟩,_⟩:=x;exact B_ e
theorem abl.KR {α β:Type}{F G:α->β->Prop}:∀ {l₁:List α}{l₂:List β},abl F l₁ l₂->(∀ a b,F a b->G a b)->abl G l₁ l₂
 | _,_,.nil,_=>.nil
 | _,_,.cons r t,f=>.cons (f _ _ r) (abl.KR t f)
theorem aS.tu (x:aS P w H h a o) (k:∀ b u,(b=a∨H b=some (.own a))->h.get? b=some u->h'.get? b=some u)
  (ho:∀ b,H b=some (.own a)->H' b=some (.own a)) (ht:∀ b xs,H b=some (.tup xs)->H' b=some (.tup xs)):aS P w H' h' a o:=by
 induction o with
 | lst xs=>obtain⟨z,aj,n,r,e⟩:=x;exact⟨z,aj,n,r,k _ _ (.inl rfl) e⟩
 | tup xs=>obtain⟨z,aj,r,ob,e,c⟩:=x;exact⟨z,aj,r,ob,k _ _ (.inl rfl) e,c⟩
 | dK kvs=>obtain⟨z,y,vs,r,ob,es,ep,e,c⟩:=x;exact⟨z,y,vs,r,ob,es,ep,k _ _ (.inl rfl) e,c⟩
 | dT kvs =>
  obtain⟨z,y,xs,r,ob,es,ep,e,c⟩:=x;exact⟨z,y,xs,abl.KR r fun p q z=>⟨z.1,ht _ _ z.2.1,z.2.2⟩,ob,es,ep,k _ _ (.inl rfl) e,c⟩
 | set S n=>obtain⟨ob,es,ep,t,e,c⟩:=x;exact⟨ob,es,ep,t,k _ _ (.inl rfl) e,c⟩
 | ins C dx fs =>
  obtain⟨d,z,ne,e,mA,⟨od,es,ep,e2,c⟩,r⟩:=x;exact⟨ho _ d,z,ne,k _ _ (.inl rfl) e,mA,⟨od,es,ep,k _ _ (.inr d) e2,c⟩,r⟩
 | own y=>obtain⟨ob,e⟩:=x;exact⟨ob,k _ _ (.inl rfl) e⟩
 | xd fs=>obtain⟨mA,⟨od,es,ep,e,c⟩,r⟩:=x;exact⟨mA,⟨od,es,ep,k _ _ (.inl rfl) e,c⟩,r⟩
 | yl lo hi=>obtain⟨t,u,v,e⟩:=x;exact⟨t,u,v,k _ _ (.inl rfl) e⟩
 | du ob u ih=>obtain⟨e,q⟩:=x;exact⟨k _ _ (.inl rfl) e,ih q⟩
 | FM ps =>
  have e:h.get? a=some { cls:=.none,data:=.fields ps }:=x;show h'.get? a=some { cls:=.none,data:=.fields ps };exact k a _ (.inl rfl) e
 | met f y =>
  have e:h.get? a=some (aaQ (.ref f) (.ref y)):=x;show h'.get? a=some (aaQ (.ref f) (.ref y));exact k a _ (.inl rfl) e
 | ext φ=>obtain⟨p,⟨o,e⟩,st⟩:=x;exact⟨st _ _ p fun o q=>k _ _ (.inl rfl) q,⟨o,k _ _ (.inl rfl) e⟩,st⟩
theorem iG.lt (x:iG P w H h) (e:H a=some o):a<h.objs.size:=(x a o e).lt
theorem iG.fresh (x:iG P w H h) (e:h.objs.size<=a):H a=none:=by
 cases q:H a with
 | none=>rfl
 | some u=>exact absurd (D_ (x.lt q) e) (Xp _)
theorem iG.kept (x:iG P w H h) (k:∀ b u,h.get? b=some u->h'.get? b=some u):iG P w H h':=fun a o e =>
 (x a o e).tu (fun b u _ q=>k b u q) (fun _ q=>q) fun _ _ q=>q
theorem iG.laid (x:iG P w H h) (k:∀ b u,h.get? b=some u->h'.get? b=some u) (hp:h.objs.size<=a) (new:aS P w (upd H a o) h' a o):iG P w (upd H a o) h':=fun b u e=>by
 have hn:=x.fresh hp;by_cases hb:b=a
 ·subst hb;rw[ay] at e;cases e;exact new
 ·rw[aw hb] at e;exact (x b u e).tu (fun c v _ q=>k c v q) (fun c q=>by rw[aw (aA q hn)];exact q) fun c xs q=>by rw[aw (aA q hn)];exact q
end
def Rd (H:Hp) (a:Addr) (u:HO):Prop:=H a=some u∨∃ o,H a=some (.du o u)
theorem Rd.ok {P:K_}{w:World}{H:Hp}{h:Heap}{a:Addr}{u:HO} (r:Rd H a u) (x:iG P w H h):aS P w H h a u:=by
 rcases r with r | ⟨o,r⟩
 ·exact x a u r
 ·obtain⟨_,q⟩:=x a _ r;exact q
def KS:l_ HO->Prop
 | some (.lst _)=>True
 | some (.dK _)=>True
 | some (.dT _)=>True
 | some (.set _ _)=>True
 | some (.ins _ _ _)=>True
 | some (.ext _)=>True
 | _=>False
section
variable {P:K_}{w:World}{H:Hp}{h h':Heap}{x e:Addr}{o':HO}
theorem iG.write (ok:iG P w H h) (mu:KS (H x)) (he:e=x∨H e=some (.own x)) (k:∀ b u,b≠e->h.get? b=some u->h'.get? b=some u) (Kr:∃ u,h'.get? e=some u)
  (new:aS P w (upd H x o') h' x o'):iG P w (upd H x o') h':=fun b u q=>by
 have KU:∀ c y,H c=some (.own y)->c≠x:=fun c y r z=>by subst z;rw[r] at mu;exact mu
 have Pt:∀ c xs,H c=some (.tup xs)->c≠x:=fun c xs r z=>by subst z;rw[r] at mu;exact mu
 by_cases hb:b=x
 ·subst hb;rw[ay] at q;cases q;exact new
 ·rw[aw hb] at q;by_cases FN:b=e
  ·have q':H b=some (.own x):=by
    rcases he with z | z
    ·exact absurd (FN.trans z) hb
    ·rw[FN];exact z
   rw[q] at q';cases q';obtain⟨v,hv⟩:=Kr;exact⟨v,by rw[FN];exact hv⟩
  ·refine (ok b u q).tu (fun c v hc r=>k c v ?_ r) (fun c r=>by rw[aw (KU c b r)];exact r) fun c xs r=>by rw[aw (Pt c xs r)];exact r
   rcases hc with rfl | hc
   ·exact FN
   ·rintro rfl;rcases he with z | z
    ·exact KU c b hc z
    ·rw[hc] at z;cases z;exact hb rfl
end
structure Un (fs ex:List Addr) (H H':Hp) (h h':Heap):Prop where
 keep:∀ b o,h.get? b=some o->H b=none->b∉fs->b∉ex->h'.get? b=some o
 slot:∀ b o,h.get? b=some o->H b=none->b∈fs->b∉ex->∃ sl,h'.get? b=some { o with slots:=sl }
 free:∀ b o,h.get? b=some o->H b=none->b∉ex->H' b=none
 there:∀ b o,h.get? b=some o->b∉ex->∃ o',h'.get? b=some o'
 oY:∀ b xs,H b=some (.tup xs)->H' b=some (.tup xs)
 mT:∀ b o u,H b=some (.du o u)->H' b=some (.du o u)
 re:∀ b ps,H b=some (.FM ps)->∃ more,H' b=some (.FM (ps++more))
section
variable {fs e8 ex WI:List Addr}{H H1 H2:Hp}{h h1 h2 h':Heap}{a x e:Addr}{o:HO}
theorem Un.any (u:Un fs ex H H1 h h1) {b:Addr}{ob:Obj} (q:h.get? b=some ob) (n:H b=none) (hx:b∉ex):∃ sl,h1.get? b=some { ob with slots:=sl }:=by
 by_cases hb:b∈fs
 ·exact u.slot b ob q n hb hx
 ·exact⟨ob.slots,u.keep b ob q n hb hx⟩
theorem Un.kept (k:∀ b u,h.get? b=some u->h'.get? b=some u):Un fs ex H H h h' :=
 ⟨fun b ob q _ _ _=>k b ob q,fun b ob q _ _ _=>⟨ob.slots,k b ob q⟩,fun _ _ _ n _=>n,fun b ob q _=>⟨ob,k b ob q⟩,fun _ _ q=>q,fun _ _ _ q=>q,fun _ ps q=>⟨#[],by rw[q];simp⟩⟩
theorem Un.refl:Un fs ex H H h h:=Un.kept fun _ _ q=>q
theorem Un.laid (k:∀ b u,h.get? b=some u->h'.get? b=some u) (hp:h.objs.size<=a) (hn:H a=none):Un fs ex H (upd H a o) h h' where
 keep:=fun b u q _ _ _=>k b u q
 slot:=fun b u q _ _ _=>⟨u.slots,k b u q⟩
 free:=fun b u q n _=>by rw[aw (T_ (D_ (B_ q) hp))];exact n
 there:=fun b u q _=>⟨u,k b u q⟩
 oY:=fun b xs q=>by rw[aw (aA q hn)];exact q
 mT:=fun b u xs q=>by rw[aw (aA q hn)];exact q
 re:=fun b ps q=>⟨#[],by rw[aw (aA q hn),q];simp⟩
theorem Un.write (mu:KS (H x)) (he:e=x∨H e=some (.own x)) (k:∀ b u,b≠e->h.get? b=some u->h'.get? b=some u) (Kr:∃ u,h'.get? e=some u):Un fs ex H (upd H x o) h h':=by
 have hx:∀ b,H b=none->b≠x:=fun b n z=>by subst z;rw[n] at mu;exact mu
 have hb:∀ b,H b=none->b≠e:=fun b n z=>by
  subst z;rcases he with r | r
  ·exact hx b n r
  ·rw[n] at r;cases r
 have hm:∀ b u,H b=some u->¬ KS (some u)->b≠x:=fun b u q nm z=>by subst z;rw[q] at mu;exact nm mu
 refine⟨fun b u q n _ _=>k b u (hb b n) q,fun b u q n _ _=>⟨u.slots,k b u (hb b n) q⟩,fun b u q n _=>by rw[aw (hx b n)];exact n,fun b u q _=>?_,
  fun b xs q=>by rw[aw (hm b _ q fun z=>z)];exact q,fun b u xs q=>by rw[aw (hm b _ q fun z=>z)];exact q,fun b ps q=>⟨#[],by rw[aw (hm b _ q fun z=>z),q];simp⟩⟩
 by_cases FN:b=e
 ·subst FN;exact Kr
 ·exact⟨u,k b u FN q⟩
end
noncomputable def OR (h:Heap) (H:Hp):List Addr:=(Xa h.objs.size).filter fun a=>(H a).isSome
noncomputable def rh (h:Heap) (H:Hp):Heap:=PySem.W.hideAll h (OR h H)
theorem ym (h:Heap) (H:Hp):(rh h H).objs.size=h.objs.size:=PySem.W.hideAll_size _ _
theorem zP {h:Heap}{H:Hp}{b:Addr}{o:Obj} (e:h.get? b=some o) (n:H b=none):(rh h H).get? b=some o :=
 PySem.W.hideAll_get _ e fun hm=>by
  have q:(H b).isSome=true:=(Xr.mp hm).2;rw[n] at q;simp at q
theorem CN {h:Heap}{H:Hp}{b:Addr}{o:Obj} (e:(rh h H).get? b=some o):h.get? b=some o/\H b=none:=by
 have e':h.get? b=some o:=PySem.W.of_hideAll (OR h H) e;refine⟨e',?_⟩
 cases q:H b with
 | none=>rfl
 | some x =>
  have hm:b∈OR h H:=Xr.mpr ⟨Xi.mpr (B_ e'),by simp [q]⟩;have z:(rh h H).get? b=none:=PySem.W.hideAll_none (OR h H) hm;rw[z] at e;cases e
noncomputable def CO (g h:Heap) (L:Addr):List (Addr×Obj):=(Xa h.objs.size).filterMap fun a=>if a=L∨(g.get? a).isSome=true then none else (h.get? a).map fun o=>(a,o)
noncomputable def rest (g h:Heap) (L d:Addr):List (Addr×Obj):=(CO g h L).filter fun p=>decide (p.1≠d)
end L2
namespace L2
open PySem PySem.Spec PyProof.Rows
structure Mod (K:e_) (mg:Str->l_ Value) (base:Heap):Prop where
 FO:K.In base
 glob:base.Ns mainGlobals mg
 blt:∃ mb,base.Ns abm mb/\∀ x:Str,x ≠ "__name__" ->mb x=X1 x
 nolimit:base.NoLimit
structure Cx where
 prog:K_
 w:World
 K:e_
 mg:Str->l_ Value
 base:Heap
 A:Xw
 N:List Str
 s₀:h_
 H₀:Hp
 env:Env
 outer:List Env
 stack:List Env
 ex:List Addr
 fn:Str->Bool
 calm:Bool
 pn:List (Addr×Obj)
 xe:Value->h_->Prop
noncomputable def sX (l:List Env):List Addr:=l.filterMap (·.frame)
noncomputable abbrev Cx.fs (X:Cx):List Addr:=sX X.outer
def zH (sc:Scope) (x:Str):Prop:=sc.names.lookup x=some .local∨sc.names.lookup x=some .cell∨sc.names.lookup x=some .free
def Loc (sc:Scope) (x:Str):Prop:=sc.names.lookup x=some .local∨sc.names.lookup x=some .cell
def Look (env:Env) (h:Heap) (m:Str->l_ Value) (x:Str) (u:Value):Prop :=
 (env.kindOf x=some .local/\m x=some u)∨((env.kindOf x=some .cell∨env.kindOf x=some .free)/\∃ c,env.cells.lookup x=some c/\h.IsCell c (some u))
structure Cx.Ok (X:Cx):Prop where
 mod:Mod X.K X.mg X.base
 kind:X.env.scope.kind=.function
 glob:X.env.globals=mainGlobals
 blt:X.env.builtins=abm
 above:X.s₀.heap.objs.size<=X.env.locals
 inj:∀ x y c,X.env.cells.lookup x=some c->X.env.cells.lookup y=some c->x=y
 has:∀ x,(X.env.kindOf x=some .cell∨X.env.kindOf x=some .free)->∃ c,X.env.cells.lookup x=some c
 FP:∀ x c,X.fn x=true->X.env.cells.lookup x=some c->X.s₀.heap.objs.size<=c
 hd:X.calm=true->X.A.handled=none
 frames:X.A.frames=some X.stack
 Ks:X.stack=X.outer∨(X.stack=X.env::X.outer/\X.env.frame=some X.env.locals)
 OS:∀ b∈X.ex,b≠X.env.locals/\∀ x c,X.env.cells.lookup x=some c->c≠b
 bs:∀ b o,X.base.get? b=some o->X.s₀.heap.get? b=some o/\X.H₀ b=none
 zQ:X.base.objs.size<=X.s₀.heap.objs.size
 vw:∀ b o,X.base.get? b=some o->b∉X.ex
 yn:∀ b∈X.ex,b∉X.fs
 iP:X.s₀.heap.FunFrames X.base X.outer
 CP:∀ b∈X.fs,X.H₀ b=none
structure Inv (X:Cx) (pins:List (Addr×Obj)) (σ:List (l_ V)) (H:Hp) (s:h_):Prop where
 ok:X.Ok
 os:s.os=X.s₀.os
 bare:aax s.gens
 base:Un X.fs X.ex X.H₀ H X.s₀.heap s.heap
 loc:∃ m,s.heap.Ns X.env.locals m/\∀ (i:Nat) (x:Str) (v:V),X.N[i]? = some x->σ[i]? = some (some v)->zH X.env.scope x->∃ u,RelV v u/\Look X.env s.heap m x u
 cell:∀ x c,X.env.cells.lookup x=some c->∃ v,s.heap.IsCell c v
 free:H X.env.locals=none
 gQ:∀ x c,X.env.cells.lookup x=some c->H c=none
 pin:∀ p∈X.pn++pins,s.heap.get? p.1=some p.2/\H p.1=none/\p.1≠X.env.locals/\p.1∉X.fs/\∀ v,p.2.data≠.cell v
 aY:iG X.prog X.w H s.heap
 len:σ.length=X.N.length
section
variable {X:Cx}{pins:List (Addr×Obj)}{σ:List (l_ V)}{H H':Hp}{s:h_}{h':Heap}
theorem Cx.Ok.Pu (ok:X.Ok) {b:Addr}{o:Obj} (e:X.base.get? b=some o):b∉X.fs:=fun hb=>by
 have:=(ok.iP.mem hb).1;rw[e] at this;cases this
theorem Inv.bs (I:Inv X pins σ H s):∀ b o,X.base.get? b=some o->s.heap.get? b=some o/\H b=none:=fun b o e =>
 ⟨I.base.keep b o (I.ok.bs b o e).1 (I.ok.bs b o e).2 (I.ok.Pu e) (I.ok.vw b o e),I.base.free b o (I.ok.bs b o e).1 (I.ok.bs b o e).2 (I.ok.vw b o e)⟩
theorem Inv.bk (I:Inv X pins σ H s):∀ b o,X.base.get? b=some o->s.heap.get? b=some o:=fun b o e=>(I.bs b o e).1
theorem Inv.mod (I:Inv X pins σ H s):Mod X.K X.mg X.base:=I.ok.mod
theorem Inv.jx (I:Inv X pins σ H s):X.K.In s.heap:=I.ok.mod.FO.keeps I.bk
theorem Inv.lt (I:Inv X pins σ H s):X.env.locals<s.heap.objs.size:=let ⟨_,hn,_⟩:=I.loc;hn.lt
theorem Inv.sz (I:Inv X pins σ H s):X.s₀.heap.objs.size<=s.heap.objs.size:=U_ I.ok.above (XT I.lt)
theorem Inv.Pw (I:Inv X pins σ H s) {a:Addr} (h:s.heap.objs.size<=a):a∉X.fs:=fun hb=>by
 obtain⟨_,o,ho,_⟩:=I.ok.iP.mem hb;exact absurd (D_ (B_ ho) (U_ I.sz h)) (Xp _)
theorem Inv.FQ (I:Inv X pins σ H s):∀ x c,X.env.cells.lookup x=some c->c≠X.env.locals:=fun x c e z=>by
 obtain⟨v,o,ho,hd⟩:=I.cell x c e;obtain⟨m,⟨o',es,ep,kA,oZ,_⟩,_⟩:=I.loc;rw[z,kA] at ho;cases ho;rw[oZ] at hd;cases hd
theorem Inv.iP (I:Inv X pins σ H s):s.heap.FunFrames X.base X.outer:=by
 have all:∀ (l:List Env),(∀ b∈sX l,b∈X.fs)->X.s₀.heap.FunFrames X.base l->s.heap.FunFrames X.base l:=by
  intro l
  induction l with
  | nil=>intro _ _;trivial
  | cons env r ih =>
   intro hs hl;obtain⟨hk,⟨L,o,hf,hn,ho,hd⟩,hr⟩:=hl;have hL:L∈X.fs:=hs L (by unfold sX;rw[Xb,hf];exact Q_);obtain⟨sl,e⟩:=I.base.slot L o ho (I.ok.CP L hL) hL fun z=>I.ok.yn L z hL
   exact⟨hk,⟨L,_,hf,hn,e,hd⟩,ih (fun b hb=>hs b (by unfold sX;rw[Xb,hf];exact F_ _ hb)) hr⟩
 exact all X.outer (fun _ hb=>hb) I.ok.iP
theorem Inv.stack (I:Inv X pins σ H s):s.heap.FunFrames X.base X.stack:=by
 rcases I.ok.Ks with e | ⟨e,hf⟩
 ·rw[e];exact I.iP
 ·rw[e];obtain⟨m,hn,_⟩:=I.loc;refine .cons (by rw[I.ok.kind];decide) hf hn ?_ I.iP;exact Heap.get?_none_of_le (U_ I.ok.zQ I.ok.above)
theorem Inv.mU (I:Inv X pins σ H s):∀ b∈sX X.stack,b∈X.env.locals::X.fs:=fun b hb=>by
 rcases I.ok.Ks with e | ⟨e,hf⟩
 ·rw[e] at hb;exact F_ _ hb
 ·rw[e] at hb;unfold sX at hb;rw[Xb,hf] at hb;exact hb
theorem Inv.xg (I:Inv X pins σ H s):∀ b∈sX X.stack,H b=none:=fun b hb=>by
 rcases w_.mp (I.mU b hb) with e | hb
 ·rw[e];exact I.free
 ·obtain⟨_,o,ho,_⟩:=I.ok.iP.mem hb;exact I.base.free b o ho (I.ok.CP b hb) fun z=>I.ok.yn b z hb
theorem Inv.step {g':Array GenState}{t':Nat}{d':Drawn}{ch:List Addr} (I:Inv X pins σ H s)
  (sY:∀ b∈ch,(b∈X.ex∨X.s₀.heap.objs.size<=b)/\b≠X.env.locals/\(∀ x c,X.env.cells.lookup x=some c->c≠b)/\∀ p∈X.pn++pins,p.1≠b)
  (keep:∀ b o,b≠X.env.locals->b∉X.fs->b∉ch->s.heap.get? b=some o->H b=none->h'.get? b=some o)
  (slot:∀ b o,b≠X.env.locals->b∈X.fs->b∉ch->s.heap.get? b=some o->H b=none->∃ sl,h'.get? b=some { o with slots:=sl }) (free:∀ b o,b∉ch->s.heap.get? b=some o->H b=none->H' b=none)
  (there:∀ b o,b∉ch->s.heap.get? b=some o->∃ o',h'.get? b=some o')
  (oY:∀ b xs,H b=some (.tup xs)->H' b=some (.tup xs)) (mT:∀ b o u,H b=some (.du o u)->H' b=some (.du o u)) (re:∀ b ps,H b=some (.FM ps)->∃ more,H' b=some (.FM (ps++more)))
  (ns:∀ m,s.heap.Ns X.env.locals m->h'.Ns X.env.locals m) (aY:iG X.prog X.w H' h') (hg:aax g') :
  Inv X pins σ H' { s with heap:=h',gens:=g',drawn:=d',toks:=t' }:=by
 have R9:∀ b o,X.s₀.heap.get? b=some o->b≠X.env.locals:=fun b o e=>T_ (D_ (B_ e) I.ok.above)
 have OT:∀ b o,X.s₀.heap.get? b=some o->b∉X.ex->b∉ch:=fun b o e hx hb=>by
  rcases (sY b hb).1 with z | z
  ·exact hx z
  ·exact absurd (D_ (B_ e) z) (Xp _)
 have cellK:∀ x c,X.env.cells.lookup x=some c->∀ v,s.heap.IsCell c v->h'.IsCell c v:=fun x c e v ⟨o,ho,hd⟩=>by
  have KW:c∉ch:=fun z=>(sY c z).2.2.1 x c e rfl
  by_cases hc:c∈X.fs
  ·obtain⟨sl,q⟩:=slot c o (I.FQ x c e) hc KW ho (I.gQ x c e);exact⟨_,q,hd⟩
  ·exact⟨o,keep c o (I.FQ x c e) hc KW ho (I.gQ x c e),hd⟩
 refine⟨I.ok,I.os,hg,⟨fun b o e n hb hx=>?_,fun b o e n hb hx=>?_,fun b o e n hx=>?_,fun b o e hx=>?_,fun b xs e=>oY b xs (I.base.oY b xs e),fun b o xs e=>mT b o xs (I.base.mT b o xs e),fun b ps e=>?_⟩,?_,fun x c e=>?_,?_,fun x c e=>?_,fun p hp=>?_,aY,I.len⟩
 ·exact keep b o (R9 b o e) hb (OT b o e hx) (I.base.keep b o e n hb hx) (I.base.free b o e n hx)
 ·obtain⟨sl,e1⟩:=I.base.slot b o e n hb hx;obtain⟨TL,e2⟩:=slot b _ (R9 b o e) hb (OT b o e hx) e1 (I.base.free b o e n hx);exact⟨TL,e2⟩
 ·obtain⟨o',e1⟩:=I.base.there b o e hx;exact free b o' (OT b o e hx) e1 (I.base.free b o e n hx)
 ·obtain⟨o',e1⟩:=I.base.there b o e hx;exact there b o' (OT b o e hx) e1
 ·obtain⟨m1,e1⟩:=I.base.re b ps e;obtain⟨m2,e2⟩:=re b _ e1;exact⟨m1++m2,by rw[e2,Array.append_assoc]⟩
 ·obtain⟨m,hn,hl⟩:=I.loc;refine⟨m,ns m hn,fun i x v e1 e2 e3=>?_⟩;obtain⟨u,r,l⟩:=hl i x v e1 e2 e3;refine⟨u,r,?_⟩;rcases l with l | ⟨k,c,e,z⟩
  ·exact .inl l
  ·exact .inr ⟨k,c,e,cellK x c e _ z⟩
 ·obtain⟨v,z⟩:=I.cell x c e;exact⟨v,cellK x c e v z⟩
 ·obtain⟨m,⟨o,_,_,ho,_⟩,_⟩:=I.loc;exact free _ o (fun z=>(sY _ z).2.1 rfl) ho I.free
 ·obtain⟨v,o,ho,hd⟩:=I.cell x c e;exact free c o (fun z=>(sY c z).2.2.1 x c e rfl) ho (I.gQ x c e)
 ·obtain⟨e,n,ne,nf,d⟩:=I.pin p hp;have KW:p.1∉ch:=fun z=>(sY p.1 z).2.2.2 p hp rfl
  exact⟨keep p.1 p.2 ne nf KW e n,free p.1 p.2 KW e n,ne,nf,d⟩
theorem Inv.un {t':Nat} (I:Inv X pins σ H s) (u:Un X.fs [] H H' s.heap h') (aY:iG X.prog X.w H' h'):Inv X pins σ H' { s with heap:=h',toks:=t' }:=by
 obtain⟨m,⟨o,es,ep,ho,r⟩,_⟩:=id I.loc;obtain⟨sl,hL⟩:=u.any ho I.free (by simp)
 exact I.step (g':=s.gens) (d':=s.drawn) (ch:=[]) (fun _ z=>nomatch z) (fun b o _ hb _ e n=>u.keep b o e n hb (by simp)) (fun b o _ hb _ e n=>u.slot b o e n hb (by simp)) (fun b o _ e n=>u.free b o e n (by simp)) (fun b o _ e=>u.there b o e (by simp)) u.oY u.mT u.re (fun m' hm=>by
  obtain⟨o',Px,Py,kA,r'⟩:=hm;rw[ho] at kA;cases kA;exact⟨_,Px,Py,hL,r'⟩) aY I.bare
theorem Inv.call {g':Array GenState}{t':Nat}{d':Drawn}{ch:List Addr} (I:Inv X pins σ H s) (u:Un (sX X.stack) ch H H' s.heap h') (aY:iG X.prog X.w H' h') (hg:aax g')
  (sY:∀ b∈ch,(b∈X.ex∨X.s₀.heap.objs.size<=b)/\b≠X.env.locals/\(∀ x c,X.env.cells.lookup x=some c->c≠b)/\∀ p∈X.pn++pins,p.1≠b) :
  Inv X pins σ H' { s with heap:=h',gens:=g',drawn:=d',toks:=t' }:=by
 obtain⟨m,⟨o,es,ep,ho,r⟩,_⟩:=id I.loc;obtain⟨sl,hL⟩:=u.any ho I.free fun z=>(sY _ z).2.1 rfl
 exact I.step (ch:=ch) sY (fun b o hL hb hc e n=>u.keep b o e n (fun z=>(w_.mp (I.mU b z)).elim hL hb) hc) (fun b o _ _ hc e n=>u.any e n hc) (fun b o hc e n=>u.free b o e n hc) (fun b o hc e=>u.there b o e hc) u.oY u.mT u.re (fun m' hm=>by
  obtain⟨o',Px,Py,kA,r'⟩:=hm;rw[ho] at kA;cases kA;exact⟨_,Px,Py,hL,r'⟩) aY hg
theorem Inv.turned {t':Nat}{it:Addr} (I:Inv X pins σ H s) (k:∀ b o,b≠it->s.heap.get? b=some o->h'.get? b=some o) (hn:H it=none) (hL:it≠X.env.locals)
  (h1:it∈X.ex∨X.s₀.heap.objs.size<=it) (h2:∀ x c,X.env.cells.lookup x=some c->c≠it) (h3:∀ p∈X.pn++pins,p.1≠it):Inv X pins σ H { s with heap:=h',toks:=t' }:=by
 have EM:∀ b u,H b=some u->b≠it:=fun b u e z=>by rw[z,hn] at e;cases e
 refine I.step (g':=s.gens) (d':=s.drawn) (ch:=[it]) (fun b hb=>?_) (fun b o _ _ hc e _=>k b o (fun z=>hc (by simp [z])) e) (fun b o _ _ hc e _=>⟨o.slots,k b o (fun z=>hc (by simp [z])) e⟩) (fun _ _ _ _ n=>n)
  (fun b o hc e=>⟨o,k b o (fun z=>hc (by simp [z])) e⟩) (fun _ _ e=>e) (fun _ _ _ e=>e) (fun b ps e=>⟨#[],by rw[e];simp⟩) (fun m hm=>?_) (fun b u e=>?_) I.bare
 ·have e:b=it:=by simpa using hb
  subst e;exact⟨h1,hL,h2,h3⟩
 ·obtain⟨o,es,ep,ho,r⟩:=hm;exact⟨o,es,ep,k _ o (YE hL) ho,r⟩
 ·refine (I.aY b u e).tu (fun c v hc q=>k c v ?_ q) (fun _ q=>q) fun _ _ q=>q
  rcases hc with z | z
  ·rw[z];exact EM b u e
  ·exact EM c _ z
theorem Inv.tok (I:Inv X pins σ H s) (t:Nat):Inv X pins σ H { s with toks:=t }:=I.un (h':=s.heap) (t':=t) Un.refl I.aY
theorem Inv.kept {t':Nat} (I:Inv X pins σ H s) (k:∀ b u,s.heap.get? b=some u->h'.get? b=some u):Inv X pins σ H { s with heap:=h',toks:=t' }:=I.un (Un.kept k) (I.aY.kept k)
theorem Inv.laid {a:Addr}{o:HO}{t':Nat} (I:Inv X pins σ H s) (k:∀ b u,s.heap.get? b=some u->h'.get? b=some u) (hp:s.heap.objs.size<=a) (new:aS X.prog X.w (upd H a o) h' a o) :
  Inv X pins σ (upd H a o) { s with heap:=h',toks:=t' }:=I.un (Un.laid k hp (I.aY.fresh hp)) (I.aY.laid k hp new)
theorem Inv.write {x e:Addr}{o:HO}{t':Nat} (I:Inv X pins σ H s) (mu:KS (H x)) (he:e=x∨H e=some (.own x)) (k:∀ b u,b≠e->s.heap.get? b=some u->h'.get? b=some u) (Kr:∃ u,h'.get? e=some u)
  (new:aS X.prog X.w (upd H x o) h' x o):Inv X pins σ (upd H x o) { s with heap:=h',toks:=t' }:=I.un (Un.write mu he k Kr) (I.aY.write mu he k Kr new)
theorem Inv.iH {pins':List (Addr×Obj)} (I:Inv X pins σ H s) (h:∀ p∈pins',s.heap.get? p.1=some p.2/\H p.1=none/\p.1≠X.env.locals/\p.1∉X.fs/\∀ v,p.2.data≠.cell v):Inv X pins' σ H s :=
 ⟨I.ok,I.os,I.bare,I.base,I.loc,I.cell,I.free,I.gQ,fun p hp=>(N_.mp hp).elim (fun z=>I.pin p (Zm _ z)) (h p),I.aY,I.len⟩
theorem tw {N:List Str} (hN:N.Nodup) {i j:Nat}{x:Str} (a:N[i]? = some x) (b:N[j]? = some x):i=j:=by
 obtain⟨h1,e1⟩:=j_.mp a;obtain⟨h2,e2⟩:=j_.mp b;exact (List.getElem_inj hN).mp (e1.trans e2.symm)
theorem yo {M:Model}{A:Xw}{E:Value->h_->Prop}{i:Nat}{x:Str}{v:V}{u:Value}{Q:Unit->h_->Prop} (I:Inv X pins σ H s) (hN:X.N.Nodup) (hi:X.N[i]? = some x) (hx:Loc X.env.scope x) (r:RelV v u)
  (h : ∀ s', Inv X pins (σ.set i (some v)) H s' ->(∃ a, Zb a s.heap s'.heap /\ (a = X.env.locals ∨ X.env.cells.lookup x = some a)) ->Q () s') (hf : X.fn x = true ∨ X.env.scope.names.lookup x = some .local := by first | exact .inl rfl | exact .inr rfl | assumption) : wpAny M A (storeName X.env x u) Q E s := by
 obtain⟨m,hn,hl⟩:=id I.loc;have Pz:(X.env.scope.kind==.class||(X.env.scope.kind==.module&&X.env.locals != X.env.globals))=false:=by rw[I.ok.kind];rfl
 have Sb:i<σ.length:=by rw[I.len];exact (j_.mp hi).1
 have FQ:=I.FQ
 have tracked:∀ {a:Addr}{h':Heap},(∃ o,s.heap.get? a=some o/\H a=none)->Zb a s.heap h'->iG X.prog X.w H h':=fun {a h'} ha hs b ob e=>by
  obtain⟨_,_,EN⟩:=ha;refine (I.aY b ob e).tu (fun c w' hc q=>(hs.2 c ?_).trans q) (fun _ q=>q) fun _ _ q=>q
  rintro rfl;rcases hc with rfl | hc
  ·rw[EN] at e;cases e
  ·rw[EN] at hc;cases hc
 rcases hx with hk | hk
 ·refine wpAny_storeName_local hk hn (fun h' EO hs=>?_) Pz;obtain⟨oL,_,_,TM,_⟩:=id hn;refine h _ ⟨I.ok,I.os,I.bare,⟨fun b o e n hb hx=>?_,fun b o e n hb hx=>?_,I.base.free,fun b o e hx=>?_,I.base.oY,I.base.mT,I.base.re⟩,⟨_,EO,fun j y v' e1 e2 e3=>?_⟩,fun y c e=>?_,I.free,I.gQ,fun p hp=>?_,tracked ⟨oL,TM,I.free⟩ hs,by simpa using I.len⟩ ⟨_,hs,.inl rfl⟩
  ·exact (hs.2 b (T_ (D_ (B_ e) I.ok.above))).trans (I.base.keep b o e n hb hx)
  ·obtain⟨sl,e1⟩:=I.base.slot b o e n hb hx;exact⟨sl,(hs.2 b (T_ (D_ (B_ e) I.ok.above))).trans e1⟩
  ·obtain⟨o',e1⟩:=I.base.there b o e hx;exact⟨o',(hs.2 b (T_ (D_ (B_ e) I.ok.above))).trans e1⟩
  ·by_cases hj:j=i
   ·subst hj;rw[hi] at e1;cases e1;rw[Yp Sb] at e2
    cases e2
    exact⟨u,r,.inl ⟨hk,by simp⟩⟩
   ·rw[Zn (YE hj)] at e2;obtain⟨u',r',q⟩:=hl j y v' e1 e2 e3;refine⟨u',r',?_⟩;rcases q with ⟨k,e⟩ | ⟨k,c,e,z⟩
    ·refine .inl ⟨k,?_⟩;have:y≠x:=fun e=>hj (tw hN e1 (e▸hi))
     simp [this,e]
    ·exact .inr ⟨k,c,e,z.sameBut hs (FQ y c e)⟩
  ·obtain⟨w',z⟩:=I.cell y c e;exact⟨w',z.sameBut hs (FQ y c e)⟩
  ·obtain⟨e,n,ne,nf,d⟩:=I.pin p hp;exact⟨(hs.2 p.1 ne).trans e,n,ne,nf,d⟩
 ·have PB:X.fn x=true:=by
   rcases hf with z | z
   ·exact z
   ·rw[z] at hk;cases hk
  obtain⟨c,hc⟩:=I.ok.has x (.inl hk);obtain⟨w',z⟩:=I.cell x c hc;refine wpAny_storeName_cell I.ok.kind hk hc z (fun h' FR hs=>?_);obtain⟨oc,Kt,PD⟩:=id z;refine h { s with heap:=h' } ⟨I.ok,I.os,I.bare,⟨fun b o e n hb hx=>?_,fun b o e n hb hx=>?_,I.base.free,fun b o e hx=>?_,I.base.oY,I.base.mT,I.base.re⟩,⟨m,hn.sameBut hs (YE (FQ x c hc)),fun j y v' e1 e2 e3=>?_⟩,fun y c' e=>?_,I.free,I.gQ,fun p hp=>?_,tracked ⟨oc,Kt,I.gQ x c hc⟩ hs,by simpa using I.len⟩ ⟨c,hs,.inr hc⟩
  ·exact (hs.2 b (T_ (D_ (B_ e) (I.ok.FP x c PB hc)))).trans (I.base.keep b o e n hb hx)
  ·obtain⟨sl,e1⟩:=I.base.slot b o e n hb hx;exact⟨sl,(hs.2 b (T_ (D_ (B_ e) (I.ok.FP x c PB hc)))).trans e1⟩
  ·obtain⟨o',e1⟩:=I.base.there b o e hx;exact⟨o',(hs.2 b (T_ (D_ (B_ e) (I.ok.FP x c PB hc)))).trans e1⟩
  ·by_cases hj:j=i
   ·subst hj;rw[hi] at e1;cases e1;rw[Yp Sb] at e2
    cases e2
    exact⟨u,r,.inr ⟨.inl hk,c,hc,FR⟩⟩
   ·rw[Zn (YE hj)] at e2;obtain⟨u',r',q⟩:=hl j y v' e1 e2 e3;refine⟨u',r',?_⟩;rcases q with q | ⟨k,c',e,z'⟩
    ·exact .inl q
    ·refine .inr ⟨k,c',e,z'.sameBut hs ?_⟩;rintro rfl;exact hj (tw hN e1 (I.ok.inj _ _ _ e hc▸hi))
  ·by_cases Sc:c'=c
   ·subst Sc;exact⟨_,FR⟩
   ·obtain⟨w2,z2⟩:=I.cell y c' e;exact⟨w2,z2.sameBut hs Sc⟩
  ·obtain⟨e,n,ne,nf,d⟩:=I.pin p hp;refine⟨(hs.2 p.1 ?_).trans e,n,ne,nf,d⟩;intro q;rw[q,Kt] at e;have q':oc=p.2:=O_ e;exact d w' (by rw[←q'];exact PD)
theorem jD {M:Model}{A:Xw}{E:Value->h_->Prop}{i:Nat}{x:Str}{v:V}{u:Value}{Q:Unit->h_->Prop} (I:Inv X pins σ H s) (hN:X.N.Nodup) (hi:X.N[i]? = some x) (hx:Loc X.env.scope x) (r:RelV v u)
  (h : ∀ s', Inv X pins (σ.set i (some v)) H s' ->Q () s') (hf : X.fn x = true ∨ X.env.scope.names.lookup x = some .local := by first | exact .inl rfl | exact .inr rfl | assumption) : wpAny M A (storeName X.env x u) Q E s :=
 yo I hN hi hx r (fun s' I' _=>h s' I') hf
theorem Inv.KY {s':h_}{ch:List Addr} (I:Inv X pins σ H s) (ho:s'.os=s.os) (u:Un (sX X.stack) ch H H' s.heap s'.heap) (aY:iG X.prog X.w H' s'.heap) (hg:aax s'.gens)
  (sY:∀ b∈ch,(b∈X.ex∨X.s₀.heap.objs.size<=b)/\b≠X.env.locals/\(∀ x c,X.env.cells.lookup x=some c->c≠b)/\∀ p∈X.pn++pins,p.1≠b):Inv X pins σ H' s':=by
 obtain⟨h',g',d',t',o'⟩:=s';have e:o'=s.os:=ho;subst e;exact I.call (g':=g') (t':=t') (d':=d') u aY hg sY
end
noncomputable abbrev XK:=Value->l_ Addr->Hp->Prop
noncomputable abbrev St:=List (l_ V)
noncomputable abbrev VK:=V->Hp->Prop
noncomputable abbrev TE:=St->Hp->VK->Prop
noncomputable abbrev TT:=St->Hp->(Bool->Hp->Prop)->Prop
noncomputable abbrev TA:=St->Hp->(List V->Hp->Prop)->Prop
structure Ends where
 nx:St->Hp->Prop
 rt:VK
 bk:St->Hp->Prop:=fun _ _=>False
 ct:St->Hp->Prop:=fun _ _=>False
noncomputable abbrev TS:=Ends->St->Hp->Prop
def EP (X:Cx) (pins:List (Addr×Obj)) (σ:St) (Q:VK) (u:Value) (s':h_):Prop:=∃ v H',Inv X pins σ H' s'/\RelV v u/\Q v H'
def TP (X:Cx) (pins:List (Addr×Obj)) (σ:St) (Q:Bool->Hp->Prop) (b:Bool) (s':h_):Prop:=∃ H',Inv X pins σ H' s'/\Q b H'
def AP (X:Cx) (pins:List (Addr×Obj)) (σ:St) (Q:List V->Hp->Prop) (us:List Value) (s':h_):Prop:=∃ vs H',Inv X pins σ H' s'/\Vals vs us/\Q vs H'
def SP (X:Cx) (pins:List (Addr×Obj)) (D:Ends) (f:Flow) (s':h_):Prop :=
 match f with
 | .next=>∃ σ' H',Inv X pins σ' H' s'/\D.nx σ' H'
 | .brk=>∃ σ' H',Inv X pins σ' H' s'/\D.bk σ' H'
 | .cont=>∃ σ' H',Inv X pins σ' H' s'/\D.ct σ' H'
 | .ret u=>∃ v σ' H',Inv X pins σ' H' s'/\RelV v u/\D.rt v H'
def PE (X:Cx) (e:Expr) (t:TE):Prop :=
 ∀ (pins:List (Addr×Obj)) (s:h_) (σ:St) (H:Hp) (Q:VK),Inv X pins σ H s->t σ H Q->wpAny (model X.prog X.w) X.A (eval e X.env) (EP X pins σ Q) X.xe s
def PT (X:Cx) (e:Expr) (t:TT):Prop :=
 ∀ (pins:List (Addr×Obj)) (s:h_) (σ:St) (H:Hp) (Q:Bool->Hp->Prop),Inv X pins σ H s->t σ H Q->wpAny (model X.prog X.w) X.A (abP e X.env (eval e X.env)) (TP X pins σ Q) X.xe s
def PW (X:Cx) (e:Expr) (t:TT):Prop :=
 ∀ (whole:Sem Value) (pins:List (Addr×Obj)) (s:h_) (σ:St) (H:Hp) (Q:Bool->Hp->Prop),Inv X pins σ H s->t σ H Q->wpAny (model X.prog X.w) X.A (abP e X.env whole) (TP X pins σ Q) X.xe s
theorem PW.pt {X:Cx}{e:Expr}{t:TT} (h:PW X e t):PT X e t:=h _
def PA (X:Cx) (es:List Expr) (t:TA):Prop :=
 ∀ (pos:Pos) (pins:List (Addr×Obj)) (s:h_) (σ:St) (H:Hp) (Q:List V->Hp->Prop),Inv X pins σ H s->t σ H Q->wpAny (model X.prog X.w) X.A (spliced (Yq pos (M_ es X.env))) (AP X pins σ Q) X.xe s
def PS (X:Cx) (st:Stmt) (t:TS):Prop :=
 ∀ (pins:List (Addr×Obj)) (s:h_) (σ:St) (H:Hp) (D:Ends),Inv X pins σ H s->t D σ H->wpAny (model X.prog X.w) X.A (exec st X.env) (SP X pins D) X.xe s
def kC (X:Cx) (st:List Stmt) (t:TS):Prop :=
 ∀ (pins:List (Addr×Obj)) (s:h_) (σ:St) (H:Hp) (D:Ends),Inv X pins σ H s->t D σ H->wpAny (model X.prog X.w) X.A (execs st X.env) (SP X pins D) X.xe s
theorem aZ {α:Type}{t:Sem α}{Q Q':α->h_->Prop}{M:Model}{A:Xw}{E:Value->h_->Prop}{s:h_} (h:wpAny M A t Q E s) (hQ:∀ a s,Q a s->Q' a s):wpAny M A t Q' E s:=XW h hQ fun _ _ x=>x
end L2
namespace L2
open PySem PySem.Spec PyProof.Rows
section
variable {X:Cx}
theorem bin {a b:Expr}{ta tb:TE} (ha:PE X a ta) (hb:PE X b tb) {pins:List (Addr×Obj)}{s:h_}{σ:St}{H:Hp}{R:V->V->Hp->Prop} (I:Inv X pins σ H s) (h:ta σ H fun x H1=>tb σ H1 fun y H2=>R x y H2)
  {α:Type}{Q:α->h_->Prop}{f:Value->Value->Sem α}
  (hf:∀ v u s2 x y H2,Inv X pins σ H2 s2->RelV x v->RelV y u->R x y H2->wpAny (model X.prog X.w) X.A (f v u) Q X.xe s2) :
  wpAny (model X.prog X.w) X.A (eval a X.env) (fun v s₁=>wpAny (model X.prog X.w) X.A (eval b X.env) (fun u s₂=>wpAny (model X.prog X.w) X.A (f v u) Q X.xe s₂) X.xe s₁) X.xe s:=by
 refine aZ (ha pins s σ H _ I h) fun v s1 ⟨x,H1,I1,r1,q1⟩=>?_
 refine aZ (hb pins s1 σ H1 _ I1 q1) fun u s2 ⟨y,H2,I2,r2,q2⟩=>?_
 exact hf v u s2 x y H2 I2 r1 r2 q2
def PF (i:Nat):TE:=fun σ H Q=>∃ v,σ[i]? = some (some v)/\Q v H
def tC (v:V):TE:=fun _ H Q=>Q v H
theorem i6 {i:Nat}{x:Str}{pos:Pos} (hN:X.N[i]? = some x) (hv:zH X.env.scope x) (hd:(x==("__debug__" : Str))=false:=by decide) (jE:(x==("__classdict__" : Str))=false:=by decide):PE X (.Name x pos) (PF i):=by
 intro pins s σ H Q I h;obtain⟨v,e,h⟩:=h;obtain⟨m,hn,hl⟩:=I.loc;obtain⟨u,r,l⟩:=hl i x v hN e hv;have fin:EP X pins σ Q u s:=⟨v,H,I,r,h⟩;rcases l with ⟨hk,hm⟩ | ⟨hk,c,hc,qf⟩
 ·exact wpAny_Name (abQ I.ok.kind hk hn hm fin) hd
 ·rcases hk with hk | hk
  ·exact wpAny_Name (ab_ I.ok.kind hk hc qf fin) hd
  ·exact wpAny_Name (wpAny_loadName_free I.ok.kind hk hc qf fin jE) hd
theorem FS {i j pos}:PE X (.Constant (.int i) j pos) (tC (.int i)):=fun _ _ _ H _ I h=>wpAny_Constant_int ⟨.int i,H,I.tok _,⟨_,rfl⟩,h⟩
theorem KZ {b j pos}:PE X (.Constant (.bool b) j pos) (tC (.bl b)):=fun _ _ _ H _ I h=>Constant_bool ⟨.bl b,H,I,rfl,h⟩
theorem FT {j pos}:PE X (.Constant .none j pos) (tC .az):=fun _ _ _ H _ I h=>Constant_none ⟨.az,H,I,rfl,h⟩
theorem FU {x j pos}:PE X (.Constant (.str x) j pos) (tC (.str x)):=fun _ _ _ H _ I h=>Calls.Constant_str ⟨.str x,H,I.tok _,⟨_,rfl⟩,h⟩
def Gl (X:Cx) (x:Str):Prop:=X.env.kindOf x=some .globalImplicit
theorem jF {E:Value->h_->Prop}{pins:List (Addr×Obj)}{s:h_}{σ:St}{H:Hp}{x:Str}{u:Value}{pos:Pos}{Q:Value->h_->Prop} (I:Inv X pins σ H s) (hg:Gl X x) (hm:X.mg x=some u) (h:Q u s)
  (hd:(x==("__debug__" : Str))=false:=by decide):wpAny (model X.prog X.w) X.A (eval (.Name x pos) X.env) Q E s :=
 aaD I.ok.kind hg (Calls.loadGlobal_global (by rw[I.ok.glob];exact I.mod.glob.keeps I.bk) hm h) hd
theorem eB {E:Value->h_->Prop}{pins:List (Addr×Obj)}{s:h_}{σ:St}{H:Hp}{x:Str}{u:Value}{pos:Pos}{Q:Value->h_->Prop} (I:Inv X pins σ H s) (hg:Gl X x) (hm:X.mg x=none) (hv:X1 x=some u) (h:Q u s)
  (hn:x ≠ "__name__" := by decide) (hd:(x==("__debug__" : Str))=false:=by decide):wpAny (model X.prog X.w) X.A (eval (.Name x pos) X.env) Q E s:=by
 obtain⟨mb,h1,h2⟩:=I.mod.blt;exact aaD I.ok.kind hg (Calls.loadGlobal_builtin (by rw[I.ok.glob];exact I.mod.glob.keeps I.bk) hm (by rw[I.ok.blt];exact h1.keeps I.bk) ((h2 x hn).trans hv) h) hd
theorem CQ {x:Str}{v:V}{u:Value}{pos:Pos} (hg:Gl X x) (hm:X.mg x=some u) (r:RelV v u) (hd:(x==("__debug__" : Str))=false:=by decide):PE X (.Name x pos) (tC v) :=
 fun _ _ _ H _ I h=>jF I hg hm ⟨v,H,I,r,h⟩ hd
theorem CS {x:Str}{v:V}{u:Value}{pos:Pos} (hg:Gl X x) (hm:X.mg x=none) (hv:X1 x=some u) (r:RelV v u) (hn:x ≠ "__name__" := by decide) (hd:(x==("__debug__" : Str))=false:=by decide):PE X (.Name x pos) (tC v) :=
 fun _ _ _ H _ I h=>eB I hg hm hv ⟨v,H,I,r,h⟩ hn hd
variable {a b:Expr}{ta tb:TE}{pos:Pos}
def PC (X:Cx) (op:CmpOp) (a b:Expr) (t:TE):Prop :=
 ∀ (pins:List (Addr×Obj)) (s:h_) (σ:St) (H:Hp) (Q:VK),Inv X pins σ H s->t σ H Q ->
  wpAny (model X.prog X.w) X.A (eval a X.env) (fun v s₁=>wpAny (model X.prog X.w) X.A (eval b X.env) (fun u s₂=>wpAny (model X.prog X.w) X.A (Xl op v u) (EP X pins σ Q) X.xe s₂) X.xe s₁) X.xe s
theorem tx (b:Expr) {op:CmpOp} (h:op≠.In) (h2:op≠.NotIn):XR op b=false:=by
 have e1:(op==CmpOp.In)=false:=by cases op<;>first | rfl | exact absurd rfl h
 have e2:(op==CmpOp.NotIn)=false:=by cases op<;>first | rfl | exact absurd rfl h2
 cases b<;>simp [XR,e1,e2]
def tB (t:TE):TT:=fun σ H Q=>t σ H fun x H1=>∃ c,x=.bl c/\Q c H1
theorem zR {op:CmpOp}{t:TE} (h:PC X op a b t) (h1:XR op b=false:=by first | exact tx _ (by decide) (by decide) | rfl):PE X (.Compare a [op] [b] pos) t:=fun pins s σ H Q I hw=>wpAny_Compare1 (h pins s σ H Q I hw) h1
theorem zS {op:CmpOp}{t:TE} (h:PC X op a b t) (h1:XR op b=false:=by first | exact tx _ (by decide) (by decide) | rfl):PT X (.Compare a [op] [b] pos) (tB t):=by
 intro pins s σ H Q I hw;refine abI (aZ (h pins s σ H _ I hw) fun v s1 h1=>aZ h1 fun u s2 h2=>aZ h2 fun c s3 ⟨x,H1,I1,r1,q1⟩=>?_) h1;obtain⟨d,rfl,q⟩:=q1
 cases r1
 exact Xt ⟨H1,I1,q⟩
theorem FV {e:Expr}{t:TE} (h:PE X e t) (he:∀ whole,abP e X.env whole=(do let v ←whole;ab6 e.pos;aaR [v] (truthy v)):=by intro _;rfl):PT X e (tB t):=by
 intro pins s σ H Q I hw;refine isTrue_plain (aZ (h pins s σ H _ I hw) fun v s1 ⟨x,H1,I1,r1,q1⟩=>?_) (he _);obtain⟨d,rfl,q⟩:=q1
 cases r1
 exact Xt ⟨H1,I1,q⟩
variable {tA OU:TT}{rest:List Expr}
def PH (t u:TT):TT:=fun σ H Q=>t σ H fun c H1=>if c=true then u σ H1 Q else Q false H1
def TN (t u:TT):TT:=fun σ H Q=>t σ H fun c H1=>if c=true then Q true H1 else u σ H1 Q
def PJ (t:TT):TT:=fun σ H Q=>t σ H fun c H1=>Q (!c) H1
theorem CT (ha:PT X a tA):PW X (.BoolOp .And [a] pos) tA:=by
 intro wh pins s σ H Q I h;refine isTrue_and (aZ (ha pins s σ H Q I h) fun c s1 e=>?_)
 cases c with
 | true=>exact isTrue_and_nil e
 | false=>exact e
theorem FW (ha:PT X a tA):PW X (.BoolOp .Or [a] pos) tA:=by
 intro wh pins s σ H Q I h;refine isTrue_or (aZ (ha pins s σ H Q I h) fun c s1 e=>?_)
 cases c with
 | false=>exact isTrue_or_nil e
 | true=>exact e
theorem FY (ha:PT X a tA) (hb:PW X (.BoolOp .And (b::rest) pos) OU):PW X (.BoolOp .And (a::b::rest) pos) (PH tA OU):=by
 intro wh pins s σ H Q I h;refine isTrue_and (aZ (ha pins s σ H _ I h) fun c s1 ⟨H1,I1,q1⟩=>?_)
 cases c with
 | true=>exact hb wh pins s1 σ H1 Q I1 q1
 | false=>exact⟨H1,I1,q1⟩
theorem K0 (ha:PT X a tA) (hb:PW X (.BoolOp .Or (b::rest) pos) OU):PW X (.BoolOp .Or (a::b::rest) pos) (TN tA OU):=by
 intro wh pins s σ H Q I h;refine isTrue_or (aZ (ha pins s σ H _ I h) fun c s1 ⟨H1,I1,q1⟩=>?_)
 cases c with
 | true=>exact⟨H1,I1,q1⟩
 | false=>exact hb wh pins s1 σ H1 Q I1 q1
theorem FZ (ha:PT X a tA):PT X (.UnaryOp .Not a pos) (PJ tA):=by
 intro pins s σ H Q I h;exact isTrue_not (ha pins s σ H (fun c H1=>Q (!c) H1) I h)
def K1 (ta tb:TE):TE:=fun σ H Q=>ta σ H fun x H1=>∃ c,x=.bl c/\if c=true then tb σ H1 Q else Q (.bl false) H1
def PK (ta tb:TE):TE:=fun σ H Q=>ta σ H fun x H1=>∃ c,x=.bl c/\if c=true then Q (.bl true) H1 else tb σ H1 Q
def K3 (ta:TE):TE:=fun σ H Q=>ta σ H fun x H1=>∃ c,x=.bl c/\Q (.bl (!c)) H1
theorem F0 {op}{t:TE} (h:PE X a t):PE X (.BoolOp op [a] pos) t:=fun pins s σ H Q I hw=>BoolOp_one (h pins s σ H Q I hw)
theorem F3 (ha:PE X a ta) (hb:PE X (.BoolOp .And (b::rest) pos) tb):PE X (.BoolOp .And (a::b::rest) pos) (K1 ta tb):=by
 intro pins s σ H Q I h;refine BoolOp_and (aZ (ha pins s σ H _ I h) fun v s1 ⟨x,H1,I1,r1,q1⟩=>?_);obtain⟨c,rfl,q1⟩:=q1
 cases r1
 refine Xt ?_
 cases c with
 | true=>exact hb pins s1 σ H1 Q I1 q1
 | false=>exact⟨.bl false,H1,I1,rfl,q1⟩
theorem K4 (ha:PE X a ta) (hb:PE X (.BoolOp .Or (b::rest) pos) tb):PE X (.BoolOp .Or (a::b::rest) pos) (PK ta tb):=by
 intro pins s σ H Q I h;refine BoolOp_or (aZ (ha pins s σ H _ I h) fun v s1 ⟨x,H1,I1,r1,q1⟩=>?_);obtain⟨c,rfl,q1⟩:=q1
 cases r1
 refine Xt ?_
 cases c with
 | false=>exact hb pins s1 σ H1 Q I1 q1
 | true=>exact⟨.bl true,H1,I1,rfl,q1⟩
theorem F4 (ha:PE X a ta):PE X (.UnaryOp .Not a pos) (K3 ta):=by
 intro pins s σ H Q I h;refine UnaryOp_ (aZ (ha pins s σ H _ I h) fun v s1 ⟨x,H1,I1,r1,q1⟩=>?_);obtain⟨c,rfl,q1⟩:=q1
 cases r1
 exact not_of (Xt ⟨.bl (!c),H1,I1,rfl,q1⟩)
def TQ (t:TT) (ta tb:TE):TE:=fun σ H Q=>t σ H fun c H1=>if c=true then ta σ H1 Q else tb σ H1 Q
theorem zT {c:Expr} (hc:PT X c tA) (ha:PE X a ta) (hb:PE X b tb):PE X (.IfExp c a b pos) (TQ tA ta tb):=by
 intro pins s σ H Q I h;refine wpAny_IfExp (aZ (hc pins s σ H _ I h) fun d s1 ⟨H1,I1,q1⟩=>?_)
 cases d with
 | true=>exact ha pins s1 σ H1 Q I1 q1
 | false=>exact hb pins s1 σ H1 Q I1 q1
end
end L2
namespace L2
open PySem PySem.Spec PyProof.Rows
def cS (K:e_) (H:Hp) (a:Addr) (xs:List V):Prop :=
 Rd H a (.lst xs) ∨
  ∃ (o:Obj) (aj:Array Value) (n:Nat),K.lookup a=some o/\o.cls=.type "list" /\ o.dict=none/\o.data=.seq aj n/\aj.size<=sizeLine/\Vals xs aj.toList
def eC (K:e_) (H:Hp) (a:Addr) (xs:List V):Prop :=
 Rd H a (.tup xs) ∨
  ∃ (o:Obj) (aj:Array Value) (n:Nat),K.lookup a=some o/\o.cls=.type "tuple" /\ o.data=.seq aj n/\aj.size<=sizeLine/\Vals xs aj.toList
noncomputable def PL:Value->l_ V
 | .none=>some .az
 | .bool b=>some (.bl b)
 | .int i _=>some (.int i)
 | .str x _=>some (.str x)
 | .bytes b _=>some (.xf b)
 | .float b _=>some (.FL b)
 | .ref a=>some (.ref a)
 | .type n=>some (.ty n)
 | _=>none
theorem RelV.abs {x:V}{u:Value} (r:RelV x u):PL u=some x:=by
 cases x with
 | az=>cases r;rfl
 | bl _=>cases r;rfl
 | int _=>obtain⟨t,rfl⟩:=r;rfl
 | str _=>obtain⟨t,rfl⟩:=r;rfl
 | xf _=>obtain⟨t,rfl⟩:=r;rfl
 | FL _=>obtain⟨t,rfl⟩:=r;rfl
 | ref _=>cases r;rfl
 | ty _=>cases r;rfl
theorem RelV.inj {x y:V}{u:Value} (r:RelV x u) (q:RelV y u):x=y:=O_ (r.abs.symm.trans q.abs)
theorem Vals.inj:∀ {xs ys:List V}{us:List Value},Vals xs us->Vals ys us->xs=ys
 | _,_,_,.nil,.nil=>rfl
 | _,_,_,.cons r t,.cons r' t'=>by rw[r.inj r',Vals.inj t t']
section
variable {X:Cx}{pins:List (Addr×Obj)}{σ:St}{H:Hp}{s:h_}{a:Addr}{xs ys:List V}
theorem cS.of {K:e_} (h:H a=some (.lst xs)):cS K H a xs:=.inl (.inl h)
theorem eC.of {K:e_} (h:H a=some (.tup xs)):eC K H a xs:=.inl (.inl h)
theorem Inv.list (I:Inv X pins σ H s) (h:cS X.K H a xs):∃ aj:List Value,Vals xs aj/\PlainL s.heap a aj.toArray/\xs.length<=sizeLine:=by
 rcases h with h | ⟨o,aj,n,hk,hc,hd,hs,hz,r⟩
 ·obtain⟨z,aj,n,r,e⟩:=h.ok I.aY;exact⟨aj,r,⟨_,n,e,rfl,rfl,rfl⟩,z⟩
 ·refine⟨aj.toList,r,⟨o,n,I.jx a o hk,hc,hd,by simpa using hs⟩,?_⟩;have e:=r.length;simp only[Xz] at e;omega
theorem Inv.tuple (I:Inv X pins σ H s) (h:eC X.K H a xs):∃ aj:List Value,Vals xs aj/\IsTup s.heap a aj.toArray/\xs.length<=sizeLine:=by
 rcases h with h | ⟨o,aj,n,hk,hc,hs,hz,r⟩
 ·obtain⟨z,aj,r,p⟩:=h.ok I.aY;exact⟨aj,r,p,z⟩
 ·refine⟨aj.toList,r,⟨o,I.jx a o hk,hc,n,by simpa using hs⟩,?_⟩;have e:=r.length;simp only[Xz] at e;omega
theorem Inv.zU (I:Inv X pins σ H s) (h:cS X.K H a xs) (h':cS X.K H a ys):xs=ys:=by
 obtain⟨aj,r,⟨o,n,e,_,_,d⟩,_⟩:=I.list h;obtain⟨its',r',⟨o',n',e',_,_,d'⟩,_⟩:=I.list h';rw[e] at e';cases e';rw[d] at d';injection d' with d1 _
 have:aj=its':=by simpa using congrArg Array.toList d1
 subst this;exact r.inj r'
theorem Inv.qg (I:Inv X pins σ H s) (h:eC X.K H a xs) (h':eC X.K H a ys):xs=ys:=by
 obtain⟨aj,r,⟨o,e,_,n,d⟩,_⟩:=I.tuple h;obtain⟨its',r',⟨o',e',_,n',d'⟩,_⟩:=I.tuple h';rw[e] at e';cases e';rw[d] at d';injection d' with d1 _
 have:aj=its':=by simpa using congrArg Array.toList d1
 subst this;exact r.inj r'
end
noncomputable abbrev Cx.o0 (X:Cx) (E:Value->h_->Prop):Cx:={ X with xe:=E }
noncomputable abbrev Cx.K5 (X:Cx):Cx:=X.o0 fun _ _=>False
theorem Cx.Ok.o0 {X:Cx} (ok:X.Ok) (E:Value->h_->Prop):(X.o0 E).Ok :=
 ⟨ok.mod,ok.kind,ok.glob,ok.blt,ok.above,ok.inj,ok.has,ok.FP,ok.hd,ok.frames,ok.Ks,ok.OS,ok.bs,ok.zQ,ok.vw,ok.yn,ok.iP,ok.CP⟩
theorem Cx.Ok.g9 {X:Cx}{E:Value->h_->Prop} (ok:(X.o0 E).Ok):X.Ok :=
 ⟨ok.mod,ok.kind,ok.glob,ok.blt,ok.above,ok.inj,ok.has,ok.FP,ok.hd,ok.frames,ok.Ks,ok.OS,ok.bs,ok.zQ,ok.vw,ok.yn,ok.iP,ok.CP⟩
section
variable {X:Cx}{pins:List (Addr×Obj)}{σ:St}{H:Hp}{s:h_}{E:Value->h_->Prop}
theorem Inv.o0 (I:Inv X pins σ H s) (E:Value->h_->Prop):Inv (X.o0 E) pins σ H s:=⟨I.ok.o0 E,I.os,I.bare,I.base,I.loc,I.cell,I.free,I.gQ,I.pin,I.aY,I.len⟩
theorem Inv.g9 (I:Inv (X.o0 E) pins σ H s):Inv X pins σ H s:=⟨I.ok.g9,I.os,I.bare,I.base,I.loc,I.cell,I.free,I.gQ,I.pin,I.aY,I.len⟩
theorem SP.g9 {D:Ends}{f:Flow}{s':h_} (h:SP (X.o0 E) pins D f s'):SP X pins D f s':=by
 cases f with
 | next=>obtain⟨σ',H',I,q⟩:=h;exact⟨σ',H',I.g9,q⟩
 | brk=>obtain⟨σ',H',I,q⟩:=h;exact⟨σ',H',I.g9,q⟩
 | cont=>obtain⟨σ',H',I,q⟩:=h;exact⟨σ',H',I.g9,q⟩
 | ret u=>obtain⟨v,σ',H',I,r,q⟩:=h;exact⟨v,σ',H',I.g9,r,q⟩
theorem kC.K5 {st:List Stmt}{t:TS} (h:kC X.K5 st t):kC X st t:=fun pins s σ H D I hw =>
 XW (h pins s σ H D (I.o0 _) hw) (fun _ _ q=>q.g9) fun _ _ z=>XN z
end
section
variable {X:Cx}{st:Stmt}{rest:List Stmt}{t u:TS}{e:Expr}{te:TE}{pos:Pos}
def EQ:TS:=fun D σ H=>D.nx σ H
def PN (t u:TS):TS:=fun D σ H=>t { D with nx:=u D } σ H
theorem CU:kC X [] EQ:=fun _ _ σ H _ I h=>aao ⟨σ,H,I,h⟩
theorem zV (h1:PS X st t) (h2:kC X rest u):kC X (st::rest) (PN t u):=by
 intro pins s σ H D I h;refine wpAny_execs_cons (aZ (h1 pins s σ H { D with nx:=u D } I h) fun f s1 q=>?_)
 cases f with
 | next =>
  obtain⟨σ',H',I',q⟩:=q;exact h2 pins s1 σ' H' D I' q
 | ret v=>exact q
 | brk=>exact q
 | cont=>exact q
theorem CV:PS X (.Pass pos) EQ:=fun _ _ σ H _ I h=>wpAny_Pass ⟨σ,H,I,h⟩
theorem Inv.quiet {pins:List (Addr×Obj)}{σ:St}{H:Hp}{s:h_} (I:Inv X pins σ H s):interactive X.env=false:=by simp [interactive,I.ok.kind]
def K6 (te:TE):TS:=fun D σ H=>te σ H fun _ H1=>D.nx σ H1
theorem jG (he:PE X e te) (hs:Yf e none pos.line X.env=pure false:=by rfl):PS X (.Expr e pos) (K6 te):=by
 intro pins s σ H D I h;exact wpAny_Expr_any (aZ (he pins s σ H _ I h) fun v s1 ⟨x,H1,I1,r1,q1⟩=>⟨σ,H1,I1,q1⟩) I.quiet hs
def PP (te:TE):TS:=fun D σ H=>te σ H D.rt
theorem zW (he:PE X e te):PS X (.Return (some e) pos) (PP te):=by
 intro pins s σ H D I h;exact wpAny_Return_some (aZ (he pins s σ H _ I h) fun v s1 ⟨x,H1,I1,r1,q1⟩=>⟨x,σ,H1,I1,r1,q1⟩)
def PQ (c:TT) (t u:TS):TS:=fun D σ H=>c σ H fun b H1=>if b=true then t D σ H1 else u D σ H1
theorem K7 {c:Expr}{a b:List Stmt}{tc:TT} (hc:PT X c tc) (ha:kC X a t) (hb:kC X b u):PS X (.If c a b pos) (PQ tc t u):=by
 intro pins s σ H D I h;refine wpAny_If (aZ (hc pins s σ H _ I h) fun d s1 ⟨H1,I1,q1⟩=>?_)
 cases d with
 | true=>exact ha pins s1 σ H1 D I1 q1
 | false=>exact hb pins s1 σ H1 D I1 q1
def F5:TS:=fun _ _ _=>False
theorem zX:PS X st F5:=fun _ _ _ _ _ _ h=>h.elim
end
noncomputable abbrev TG:=V->St->Hp->(St->Hp->Prop)->Prop
noncomputable abbrev F6:=List V->St->Hp->(St->Hp->Prop)->Prop
def PG (X:Cx) (target:Expr) (t:TG):Prop :=
 ∀ (pins:List (Addr×Obj)) (s:h_) (σ:St) (H:Hp) (v:V) (u:Value) (Q:St->Hp->Prop),Inv X pins σ H s->RelV v u->t v σ H Q ->
  wpAny (model X.prog X.w) X.A (acX target X.env u) (fun _ s'=>∃ σ' H',Inv X pins σ' H' s'/\Q σ' H') X.xe s
def OV (X:Cx) (ts:List Expr) (t:F6):Prop :=
 ∀ (pins:List (Addr×Obj)) (s:h_) (σ:St) (H:Hp) (vs:List V) (us:List Value) (Q:St->Hp->Prop),Inv X pins σ H s->Vals vs us->t vs σ H Q ->
  wpAny (model X.prog X.w) X.A (assignInOrder ((abn ts X.env).map (·.2)) us) (fun _ s'=>∃ σ' H',Inv X pins σ' H' s'/\Q σ' H') X.xe s
noncomputable abbrev pb:=V->V->V->Hp->(Hp->Prop)->Prop
noncomputable abbrev OW:=V->V->Hp->VK->Prop
def OX (X:Cx) (op:ZS) (t:OW):Prop :=
 ∀ (pins:List (Addr×Obj)) (s:h_) (σ:St) (H:Hp) (x y:V) (v u:Value) (Q:VK),Inv X pins σ H s->RelV x v->RelV y u->t x y H Q ->
  wpAny (model X.prog X.w) X.A (inplaceOp op v u) (EP X pins σ Q) X.xe s
section
variable {X:Cx}{pos:Pos}
def dE (i:Nat):TG:=fun v σ H Q=>Q (σ.set i (some v)) H
theorem mq {i : Nat} {x : Str} (hN : X.N.Nodup) (hi : X.N[i]? = some x) (hx : Loc X.env.scope x) (hf : X.fn x = true ∨ X.env.scope.names.lookup x = some .local := by first | exact .inl rfl | exact .inr rfl | assumption) : PG X (.Name x pos) (dE i) := by
 intro pins s σ H v u Q I r h;exact wpAny_assign_Name (jD I hN hi hx r (fun s' I'=>⟨_,H,I',h⟩) hf)
def zY:F6:=fun vs σ H Q=>vs=[]/\Q σ H
def jH (t:TG) (u:F6):F6:=fun vs σ H Q=>∃ v r,vs=v::r/\t v σ H fun σ' H'=>u r σ' H' Q
theorem CW:OV X [] zY:=by
 intro pins s σ H vs us Q I r h;obtain⟨e,h⟩:=h;subst e
 cases r
 exact assignInOrder_nil ⟨σ,H,I,h⟩
theorem tz {e:Expr}{es:List Expr}{t:TG}{u:F6} (h1:PG X e t) (h2:OV X es u)
  (hs:(abn (e::es) X.env).map (·.2)=acX e X.env::(abn es X.env).map (·.2):=by rfl):OV X (e::es) (jH t u):=by
 intro pins s σ H vs us Q I r h;obtain⟨v,vr,e1,h⟩:=h;subst e1
 cases r with
 | cons r rr =>
  rw[hs];refine assignInOrder_cons (aZ (h1 pins s σ H _ _ _ I r h) fun _ s1 ⟨σ1,H1,I1,q1⟩=>?_);exact h2 pins s1 σ1 H1 _ _ Q I1 rr q1
def zZ (K:e_) (n:Nat) (t:F6):TG:=fun v σ H Q=>∃ a xs,v=.ref a/\eC K H a xs/\xs.length=n/\t xs σ H Q
theorem F7 {es:List Expr}{k:Nat}{t:F6}{n:Nat} (hc:X.calm=true) (h:OV X es t)
  (hn:(abn es X.env).length=n:=by rfl) (PR:(abn es X.env).findIdx? (·.1)=none:=by rfl):PG X (.Tuple es k pos) (zZ X.K n t):=by
 intro pins s σ H v u Q I r hw;obtain⟨a,xs,e1,hq,hl,hw⟩:=hw;subst e1
 cases r
 obtain⟨aj,rv,ht,hz⟩:=I.tuple hq;refine assign_Tuple_tuple (I.ok.hd hc) ht (by simp [hn,←hl,rv.length]) PR fun h' hx=>?_
 have I1:Inv X pins σ H { s with heap:=h' }:=I.kept (t':=s.toks) fun b o e=>hx b o (T_ (B_ e)) e
 exact h pins _ σ H xs _ Q I1 (by simpa using rv) hw
def K8 (te:TE) (g:TG):TS:=fun D σ H=>te σ H fun x H1=>g x σ H1 D.nx
theorem vA {i : Nat} {x : Str} {e : Expr} {te : TE} {pos' : Pos} (hN : X.N.Nodup) (hi : X.N[i]? = some x) (hx : Loc X.env.scope x) (he : PE X e te) (hs : Yf e (some (.Name x pos')) pos.line X.env = pure false := by rfl) (hf : X.fn x = true ∨ X.env.scope.names.lookup x = some .local := by first | exact .inl rfl | exact .inr rfl | assumption) :
  PS X (.Assign [.Name x pos'] e pos) (K8 te (dE i)):=by
 intro pins s σ H D I h;refine wpAny_Assign_Name (aZ (he pins s σ H _ I h) fun v s1 ⟨y,H1,I1,r1,q1⟩=>?_) hs;exact jD I1 hN hi hx r1 (fun s2 I2=>⟨_,H1,I2,q1⟩) hf
def PU (i:Nat) (te:TE) (ti:OW):TS:=fun D σ H=>∃ x,σ[i]? = some (some x)/\te σ H fun y H1=>ti x y H1 fun z H2=>D.nx (σ.set i (some z)) H2
theorem F8 {i : Nat} {x : Str} {e : Expr} {te : TE} {op : ZS} {ti : OW} {pos' : Pos} (hN : X.N.Nodup) (hi : X.N[i]? = some x) (hx : Loc X.env.scope x) (he : PE X e te) (ho : OX X op ti) (hf : X.fn x = true ∨ X.env.scope.names.lookup x = some .local := by first | exact .inl rfl | exact .inr rfl | assumption) :
  PS X (.AugAssign (.Name x pos') op e pos) (PU i te ti):=by
 intro pins s σ H D I h;obtain⟨v,e1,h⟩:=h;obtain⟨m,hn,hl⟩:=I.loc;have Ku:zH X.env.scope x:=by rcases hx with k | k;exact .inl k;exact .inr (.inl k)
 obtain⟨u,r,l⟩:=hl i x v hi e1 Ku;refine wpAny_AugAssign_Name ?_
 have go:wpAny (model X.prog X.w) X.A (eval e X.env) (fun w s₂=>wpAny (model X.prog X.w) X.A (inplaceOp op u w) (fun r s₃=>wpAny (model X.prog X.w) X.A (storeName X.env x r) (fun _=>SP X pins D .next) X.xe s₃) X.xe s₂) X.xe s:=by
  refine aZ (he pins s σ H _ I h) fun w s1 ⟨y,H1,I1,r1,q1⟩=>?_
  refine aZ (ho pins s1 σ H1 v y u w _ I1 r r1 q1) fun z s2 ⟨zv,H2,I2,r2,q2⟩=>?_
  exact jD I2 hN hi hx r2 (fun s3 I3=>⟨_,H2,I3,q2⟩) hf
 rcases l with ⟨hk,hm⟩ | ⟨hk,c,hc,qf⟩
 ·exact abQ I.ok.kind hk hn hm go
 ·rcases hk with hk | hk
  ·exact ab_ I.ok.kind hk hc qf go
  ·rcases hx with k | k
   ·have:X.env.scope.names.lookup x=some .free:=hk;rw[k] at this;cases this
   ·have:X.env.scope.names.lookup x=some .free:=hk;rw[k] at this;cases this
def PX (f:Int->Int->Int):OW:=fun x y H Q=>∃ i j,x=.int i/\y=.int j/\Q (.int (f i j)) H
theorem F9:OX X .Add (PX fun i j=>i+j):=by
 intro pins s σ H x y v u Q I r1 r2 h;obtain⟨i,j,e1,e2,q⟩:=h;subst e1;subst e2;obtain⟨t,rfl⟩:=r1;obtain⟨t',rfl⟩:=r2;exact iadd_int ⟨.int _,H,I.tok _,⟨_,rfl⟩,q⟩
theorem Ga:OX X .Sub (PX fun i j=>i-j):=by
 intro pins s σ H x y v u Q I r1 r2 h;obtain⟨i,j,e1,e2,q⟩:=h;subst e1;subst e2;obtain⟨t,rfl⟩:=r1;obtain⟨t',rfl⟩:=r2;exact isub_int ⟨.int _,H,I.tok _,⟨_,rfl⟩,q⟩
end
section
variable {X:Cx}{pos:Pos}
def Gb (c:TT) (tb:TS):TS:=fun D σ H=>∃ W:Nat->St->Hp->Prop,(∃ m,W m σ H)/\∀ m σ H,W m σ H ->
 c σ H fun b H1=>if b=true then ∃ N:St->Hp->Prop,(∀ σ' H',N σ' H'->∃ m',m'<m/\W m' σ' H')/\tb { D with nx:=N,ct:=N,bk:=D.nx } σ H1 else D.nx σ H1
theorem z6 {c:Expr}{body:List Stmt}{tc:TT}{tb:TS} (hp:ab7 (model X.prog X.w) X.A X.env X.xe) (hc:PT X c tc) (hb:kC X body tb):PS X (.While c body [] pos) (Gb tc tb):=by
 intro pins s σ H D I h;obtain⟨W,⟨m0,w0⟩,turn⟩:=h;refine wpAny_While (codeAny_whileLoop (fun n s'=>∃ σ' H',Inv X pins σ' H' s'/\W n σ' H') ?_ m0 ⟨σ,H,I,w0⟩);rintro n s1 ⟨σ1,H1,I1,w1⟩;refine YK hp (aZ (hc pins s1 σ1 H1 _ I1 (turn n σ1 H1 w1)) fun b s2 ⟨H2,I2,q2⟩=>?_)
 cases b with
 | true =>
  obtain⟨N,hN,q2⟩:=q2;rw[s_ rfl];refine YK hp (aZ (hb pins s2 σ1 H2 _ I2 q2) fun f s3 q3=>?_)
  cases f with
  | next =>
   obtain⟨σ3,H3,I3,n3⟩:=q3;obtain⟨m',hm,w3⟩:=hN σ3 H3 n3;exact⟨m',hm,σ3,H3,I3,w3⟩
  | cont =>
   obtain⟨σ3,H3,I3,n3⟩:=q3;obtain⟨m',hm,w3⟩:=hN σ3 H3 n3;exact⟨m',hm,σ3,H3,I3,w3⟩
  | brk=>exact q3
  | ret v=>exact q3
 | false =>
  rw[n_ r_];exact aao ⟨σ1,H2,I2,q2⟩
end
structure It where
 go:Nat->Hp->Prop
 K9:Nat->Hp->V->Hp->Prop
 stop:Nat->Hp->Prop
def lP (X:Cx) (pins:List (Addr×Obj)) (H:Hp) (b:Addr):Prop :=
 H b=none/\b≠X.env.locals/\b∉X.fs/\(b∈X.ex∨X.s₀.heap.objs.size<=b)/\(∀ x c,X.env.cells.lookup x=some c->c≠b)/\∀ p∈X.pn++pins,p.1≠b
theorem Inv.yp {X:Cx}{pins:List (Addr×Obj)}{σ:St}{H H':Hp}{s:h_}{b:Addr} (I:Inv X pins σ H s) (hb:s.heap.objs.size<=b) (hn:H' b=none):lP X pins H' b:=by
 refine⟨hn,aay (D_ I.lt hb),I.Pw hb,.inr (U_ I.sz hb),fun x c e z=>?_,fun p hp z=>?_⟩
 ·obtain⟨v,q⟩:=I.cell x c e;exact absurd (D_ q.lt (by rw[z];exact hb)) (Xp _)
 ·exact absurd (D_ (B_ (I.pin p hp).1) (by rw[z];exact hb)) (Xp _)
structure Turn (P:K_) (w:World) (K:e_) (tg:Expr) (J:It) (fp:List Addr) (it:Addr) (tn:Nat->Heap->Prop):Prop where
 mem:it∈fp
 obj:∀ i h,tn i h->∀ b∈fp,∃ o,h.get? b=some o/\∀ v,o.data≠.cell v
 keep:∀ i h h',tn i h->(∀ b∈fp,∀ o,h.get? b=some o->h'.get? b=some o)->tn i h'
 item:∀ (X:Cx),X.prog=P->X.w=w->X.K=K->X.calm=true->∀ (i:Nat) (pins:List (Addr×Obj)) (s:h_) (σ:St) (H:Hp) (E:Value->h_->Prop),Inv X pins σ H s->(∀ b∈fp,lP X pins H b)->tn i s.heap->J.go i H ->
  wpAny (model P w) X.A (pyNext (.ref it)) (fun r s1=>∃ u,r=some u /\
   wpAny (model P w) X.A (aap tg (.ref it) u) (fun _ s2=>∃ x H',Inv X pins σ H' s2/\RelV x u/\J.K9 i H x H'/\tn (i+1) s2.heap/\∀ b∈fp,H' b=none) E s1) E s
 done:∀ (X:Cx),X.prog=P->X.w=w->X.K=K->X.calm=true->∀ (i:Nat) (pins:List (Addr×Obj)) (s:h_) (σ:St) (H:Hp) (E:Value->h_->Prop),Inv X pins σ H s->(∀ b∈fp,lP X pins H b)->tn i s.heap->J.stop i H ->
  wpAny (model P w) X.A (pyNext (.ref it)) (fun r s1=>r=none/\Inv X pins σ H s1) E s
 self:∀ (A:Xw) (i:Nat) (s:h_) (Q:Value->h_->Prop) (E:Value->h_->Prop),tn i s.heap->Q (.ref it) s->wpAny (model P w) A (pyIter (.ref it)) Q E s
noncomputable abbrev TI:=St->Hp->(It->Hp->Prop)->Prop
def Sd (X:Cx) (pins:List (Addr×Obj)) (σ:St) (tg:Expr) (R:It->Hp->Prop) (OY:Value) (s2:h_):Prop :=
 ∃ (it:Addr) (fp:List Addr) (tn:Nat->Heap->Prop) (J:It) (H':Hp),OY=.ref it/\Inv X pins σ H' s2/\Turn X.prog X.w X.K tg J fp it tn/\tn 0 s2.heap/\(∀ b∈fp,lP X pins H' b)/\R J H'
def PI (X:Cx) (tg iter:Expr) (wi:TI):Prop :=
 ∀ (pins:List (Addr×Obj)) (s:h_) (σ:St) (H:Hp) (R:It->Hp->Prop),Inv X pins σ H s->wi σ H R ->
  wpAny (model X.prog X.w) X.A (eval iter X.env) (fun v s1=>wpAny (model X.prog X.w) X.A (pyIter v) (Sd X pins σ tg R) X.xe s1) X.xe s
theorem tD {M:Model}{A:Xw}{E:Value->h_->Prop}{s:h_}{tg:Expr}{it:Addr}{u:Value}{o:Obj}{n:ZK}{vs:Array Value}{Q:Unit->h_->Prop} (ho:s.heap.get? it=some o) (hc:o.cls=.type n) (hd:o.data=.fields vs)
  (hn:["enumerate","zip","dict_itemiterator","dict_reverseitemiterator","odict_iterator","itertools.zip_longest","itertools.pairwise"].contains n=false) (hQ:Q () s):wpAny M A (aap tg (.ref it) u) Q E s:=by
 unfold aap
 cases tg<;>first
  | exact y_ hQ
  | (cases u<;>first
    | exact y_ hQ
    | (refine g_ (wpAny_load ho ?_)
       rw[hc,hd];show wpAny M A (if (["enumerate","zip","dict_itemiterator","dict_reverseitemiterator","odict_iterator","itertools.zip_longest","itertools.pairwise"].contains n&&vs[0]? == some (YG _))=true then _ else _) Q E s;rw[n_ (by intro h;rw[hn,Bool.false_and] at h;cases h)];exact y_ hQ))
noncomputable def OZ (K:e_) (a:Addr):It :=
 ⟨fun i H=>∃ xs x,cS K H a xs/\xs[i]? = some x,fun i H x H'=>H'=H/\∀ xs,cS K H a xs->xs[i]? = some x,fun i H=>∃ xs,cS K H a xs/\xs.length<=i⟩
noncomputable def O0 (K:e_) (a:Addr):It :=
 ⟨fun i H=>∃ xs x,eC K H a xs/\xs[i]? = some x,fun i H x H'=>H'=H/\∀ xs,eC K H a xs->xs[i]? = some x,fun i H=>∃ xs,eC K H a xs/\xs.length<=i⟩
noncomputable def La (lo:Int) (n:Nat):It:=⟨fun i _=>i<n,fun i H x H'=>H'=H/\x=.int (lo+i),fun i _=>n<=i⟩
theorem yq {P:K_}{w:World}{K:e_}{tg:Expr} (a it:Addr):Turn P w K tg (OZ K a) [it] it (fun i h=>h.IsListIter it a i) where
 mem:=by simp
 obj:=fun i h st b hb=>by
  have e:b=it:=by simpa using hb
  subst e;obtain⟨o,e,c,d⟩:=st;exact⟨o,e,fun v z=>by rw[d] at z;cases z⟩
 keep:=fun i h h' st k=>st.at fun o e=>k it (by simp) o e
 item:=by
  intro X hP hw hK hc i pins s σ H E I hf st hg;subst hP hw hK;obtain⟨xs,x,hq,hx⟩:=hg;obtain⟨aj,rv,p,hz⟩:=I.list hq;obtain⟨u,hu,ru⟩:=rv.get hx;obtain⟨f0,f1,f2,f3,f4,f5⟩:=hf it (by simp);refine abo st p.isList (x:=u) (by simpa using hu) fun h' kn sb=>?_
  have I1:Inv X pins σ H { s with heap:=h' }:=I.turned (t':=s.toks) (fun b o hb e=>(sb.2 b hb).trans e) f0 f1 f3 f4 f5;obtain⟨o,e,c,d⟩:=id kn;exact⟨u,rfl,tD (s:={ s with heap:=h' }) e c d (by decide) ⟨x,H,I1,ru,⟨rfl,fun ys hy=>by rw[I.zU hy hq];exact hx⟩,kn,fun b hb=>(hf b hb).1⟩⟩
 done:=by
  intro X hP hw hK hc i pins s σ H E I hf st hg;subst hP hw hK;obtain⟨xs,hq,hx⟩:=hg;obtain⟨aj,rv,p,hz⟩:=I.list hq;obtain⟨f0,f1,f2,f3,f4,f5⟩:=hf it (by simp);have hl:=rv.length;exact abJ (I.ok.hd hc) st p.isList (by simp;omega) fun h' eb=>⟨rfl,I.turned (t':=s.toks) (fun b o hb e=>eb b o hb e) f0 f1 f3 f4 f5⟩
 self:=fun _ _ _ _ _ st h=>wpAny_pyIter_listiter st h
theorem vB {P:K_}{w:World}{K:e_}{tg:Expr} (a it:Addr):Turn P w K tg (O0 K a) [it] it (fun i h=>h.IsTupleIter it a i) where
 mem:=by simp
 obj:=fun i h st b hb=>by
  have e:b=it:=by simpa using hb
  subst e;obtain⟨o,e,c,d⟩:=st;exact⟨o,e,fun v z=>by rw[d] at z;cases z⟩
 keep:=fun i h h' st k=>st.at fun o e=>k it (by simp) o e
 item:=by
  intro X hP hw hK hc i pins s σ H E I hf st hg;subst hP hw hK;obtain⟨xs,x,hq,hx⟩:=hg;obtain⟨aj,rv,p,hz⟩:=I.tuple hq;obtain⟨u,hu,ru⟩:=rv.get hx;obtain⟨f0,f1,f2,f3,f4,f5⟩:=hf it (by simp);refine wpAny_pyNext_tuple_item st (show s.heap.IsTuple a aj.toArray from p) (x:=u) (by simpa using hu) fun h' kn sb=>?_
  have I1:Inv X pins σ H { s with heap:=h' }:=I.turned (t':=s.toks) (fun b o hb e=>(sb.2 b hb).trans e) f0 f1 f3 f4 f5;obtain⟨o,e,c,d⟩:=id kn;exact⟨u,rfl,tD (s:={ s with heap:=h' }) e c d (by decide) ⟨x,H,I1,ru,⟨rfl,fun ys hy=>by rw[I.qg hy hq];exact hx⟩,kn,fun b hb=>(hf b hb).1⟩⟩
 done:=by
  intro X hP hw hK hc i pins s σ H E I hf st hg;subst hP hw hK;obtain⟨xs,hq,hx⟩:=hg;obtain⟨aj,rv,p,hz⟩:=I.tuple hq;obtain⟨f0,f1,f2,f3,f4,f5⟩:=hf it (by simp);have hl:=rv.length;exact wpAny_pyNext_tuple_end (I.ok.hd hc) st (show s.heap.IsTuple a aj.toArray from p) (by simp;omega) fun h' eb=>⟨rfl,I.turned (t':=s.toks) (fun b o hb e=>eb b o hb e) f0 f1 f3 f4 f5⟩
 self:=fun _ _ _ _ _ st h=>wpAny_pyIter_tupleiter st h
theorem vC {P:K_}{w:World}{K:e_}{tg:Expr} (it:Addr) (lo:Int) (n:Nat):Turn P w K tg (La lo n) [it] it (fun i h=>aaS h it (lo+(i:Nat)*1) ((n:Int)-(i:Nat)) 1) where
 mem:=by simp
 obj:=fun i h st b hb=>by
  have e:b=it:=by simpa using hb
  subst e
  exact⟨_,st,fun v z=>by
   have z':ac9 _=adM v:=z
   cases z'⟩
 keep:=fun i h h' st k=>k it (by simp) _ st
 item:=by
  intro X hP hw hK hc i pins s σ H E I hf st hg;subst hP hw hK;obtain⟨f0,f1,f2,f3,f4,f5⟩:=hf it (by simp);have W:=Walks.range (prog:=X.prog) (w:=X.w) (I.ok.hd hc) it lo 1 n;refine W.item i s _ _ hg st fun v h' tk hv kn kk=>?_
  obtain⟨t,rfl⟩:=hv;have I1:Inv X pins σ H { s with heap:=h',toks:=tk }:=I.turned (fun b o hb e=>kk b o (by simpa using hb) e) f0 f1 f3 f4 f5;refine⟨_,rfl,tD (s:={ s with heap:=h',toks:=tk }) (n := "range_iterator") kn rfl rfl (by decide) ⟨.int (lo+i),H,I1,⟨t,?_⟩,⟨rfl,rfl⟩,kn,fun b hb=>(hf b hb).1⟩⟩;rw[aaT]
 done:=by
  intro X hP hw hK hc i pins s σ H E I hf st hg;subst hP hw hK;obtain⟨f0,f1,f2,f3,f4,f5⟩:=hf it (by simp);exact abp (I.ok.hd hc) st (by have:n<=i:=hg;omega) fun h' eb=>⟨rfl,I.turned (t':=s.toks) (fun b o hb e=>eb b o hb e) f0 f1 f3 f4 f5⟩
 self:=fun _ _ _ _ _ st h=>ZT st h
end L2
namespace L2
open PySem PySem.Spec PyProof.Rows
section
variable {X:Cx}{tg:Expr}
theorem tE {pins:List (Addr×Obj)}{σ:St}{H:Hp}{s:h_}{R:It->Hp->Prop}{E:Value->h_->Prop}{lo hi:Int}{t u v:Tok}{tk:Nat} (I:Inv X pins σ H s) (h1 : -(2 ^ 62)<=lo) (h2:lo<2 ^ 62) (h3 : -(2 ^ 62)<=hi) (h4:hi<2 ^ 62)
  (q:R (La lo (hi-lo).toNat) H):wpAny (model X.prog X.w) X.A (pyIter (.ref s.heap.objs.size)) (Sd X pins σ tg R) E { s with heap:=s.heap.push { cls:=.type "range",data:=.fields #[.int lo t,.int hi u,.int 1 v] },toks:=tk }:=by
 refine wpAny_pyIter_range (adX ..) (small_one h1 h2 h3 h4) ?_;have I1:Inv X pins σ H { s with heap:=s.heap.push { cls:=.type "range",data:=.fields #[.int lo t,.int hi u,.int 1 v] },toks:=tk }:=I.kept fun b o e=>o_ _ e
 refine⟨(s.heap.push { cls:=.type "range",data:=.fields #[.int lo t,.int hi u,.int 1 v] }).objs.size,[(s.heap.push { cls:=.type "range",data:=.fields #[.int lo t,.int hi u,.int 1 v] }).objs.size],_,_,H,rfl,
  I1.kept (t':=tk) fun b o e=>o_ _ e,vC _ lo (hi-lo).toNat,?_,fun b hb=>?_,q⟩
 ·have e1:lo+((0:Nat):Int)*1=lo:=by simp
  have e2:(((hi-lo).toNat:Nat):Int)-((0:Nat):Int)=J_ lo hi 1:=by rw[ace];split<;>omega
  show aaS _ _ (lo+((0:Nat):Int)*1) ((((hi-lo).toNat:Nat):Int)-((0:Nat):Int)) 1;rw[e1,e2];exact A_ _ rfl
 ·have e:b=(s.heap.push { cls:=.type "range",data:=.fields #[.int lo t,.int hi u,.int 1 v] }).objs.size:=by simpa using hb
  subst e;exact I1.yp (t_ _) (I1.aY.fresh (t_ _))
def Lb (ta:TA):TI:=fun σ H R=>ta σ H fun vs H1=>∃ j:Int,vs=[.int j] /\ -(2 ^ 62)<=j/\j<2 ^ 62/\R (La 0 j.toNat) H1
def Lc (ta:TA):TI:=fun σ H R=>ta σ H fun vs H1=>∃ i j:Int,vs=[.int i,.int j]/\(-(2 ^ 62)<=i/\i<2 ^ 62 /\ -(2 ^ 62)<=j/\j<2 ^ 62)/\R (La i (j-i).toNat) H1
theorem yr {a:Expr}{ta:TA}{p pos:Pos} (hg:Gl X "range") (hm:X.mg "range" = none) (ha:PA X [a] ta) (hs:M_ [a] X.env=[(false,eval a X.env)]:=by rfl):PI X tg (.Call (.Name "range" p) [a] [] pos) (Lb ta):=by
 intro pins s σ H R I h;refine Call_ (eB I hg hm Y2 (Xy (aZ (ha pos pins s σ H _ I h) fun us s1 ⟨vs,H1,I1,r1,q1⟩=>?_) hs rfl));obtain⟨j,e,q1,q2,q⟩:=q1;subst e
 cases r1 with
 | cons r rr =>
  cases rr
  obtain⟨t,rfl⟩:=r;exact call_range_1 (tE I1 (by omega) (by omega) q1 q2 (by simpa using q))
theorem yt {a b:Expr}{ta:TA}{p pos:Pos} (hg:Gl X "range") (hm:X.mg "range" = none) (ha:PA X [a,b] ta) (hs:M_ [a,b] X.env=[(false,eval a X.env),(false,eval b X.env)]:=by rfl) (qh:M_ [b] X.env=[(false,eval b X.env)]:=by rfl) :
  PI X tg (.Call (.Name "range" p) [a,b] [] pos) (Lc ta):=by
 intro pins s σ H R I h;refine Call_ (eB I hg hm Y2 (Xy (aZ (ha pos pins s σ H _ I h) fun us s1 ⟨vs,H1,I1,r1,q1⟩=>?_) (by rw[hs,qh]) (by rw[qh];rfl)));obtain⟨i,j,e,⟨q1,q2,q3,q4⟩,q⟩:=q1;subst e
 cases r1 with
 | cons r rr =>
  cases rr with
  | cons r' rr =>
   cases rr
   obtain⟨t,rfl⟩:=r;obtain⟨t',rfl⟩:=r';exact call_range_2 (tE I1 q1 q2 q3 q4 q)
def PY (wi:TI) (g:TG) (tb:TS):TS:=fun D σ H=>wi σ H fun J H1=>∃ W:Nat->Nat->St->Hp->Prop,(∃ m,W 0 m σ H1)/\∀ i m σ H,W i m σ H ->
 (J.stop i H/\D.nx σ H)∨(J.go i H/\∃ N:St->Hp->Prop,(∀ σ' H',N σ' H'->∃ m',m'<m/\W (i+1) m' σ' H')/\∀ x H',J.K9 i H x H'->g x σ H' fun σ2 H2=>tb { D with nx:=N,ct:=N,bk:=D.nx } σ2 H2)
noncomputable def kD (fp:List Addr) (h:Heap):List (Addr×Obj):=fp.filterMap fun b=>(h.get? b).map fun o=>(b,o)
theorem fF {fp:List Addr}{h:Heap}{b:Addr}{o:Obj} (hb:b∈fp) (e:h.get? b=some o):(b,o)∈kD fp h:=aco.mpr ⟨b,hb,by rw[e];rfl⟩
theorem yu {fp:List Addr}{h:Heap}{p:Addr×Obj} (hp:p∈kD fp h):p.1∈fp/\h.get? p.1=some p.2:=by
 obtain⟨b,hb,e⟩:=aco.mp hp
 cases q:h.get? b with
 | none=>rw[q] at e;cases e
 | some o =>
  rw[q] at e;have e':(b,o)=p:=O_ e;subst e';exact⟨hb,q⟩
theorem Inv.pinned {pins:List (Addr×Obj)}{σ:St}{H:Hp}{s:h_}{fp:List Addr} (I:Inv X pins σ H s) (hf:∀ b∈fp,lP X pins H b) (ho:∀ b∈fp,∃ o,s.heap.get? b=some o/\∀ v,o.data≠.cell v):Inv X (pins++kD fp s.heap) σ H s :=
 I.iH fun p hp=>(N_.mp hp).elim (fun z=>I.pin p (L_ _ z)) fun z=>by
  obtain⟨hb,e⟩:=yu z;obtain⟨f0,f1,f2,_⟩:=hf p.1 hb;obtain⟨o,e',d⟩:=ho p.1 hb;rw[e] at e';cases e';exact⟨e,f0,f1,f2,d⟩
theorem Inv.jI {pins pl:List (Addr×Obj)}{σ:St}{H:Hp}{s:h_} (I:Inv X (pins++pl) σ H s):Inv X pins σ H s:=I.iH fun p hp=>I.pin p (L_ _ (Zm _ hp))
theorem Gd {iter:Expr}{body:List Stmt}{wi:TI}{g:TG}{tb:TS}{pos:Pos} (hp:ab7 (model X.prog X.w) X.A X.env X.xe) (hc:X.calm=true) (hi:PI X tg iter wi) (hg:PG X tg g) (hb:kC X body tb)
  (hs:∀ x,Yg iter X.env x=pure x:=by intro _;rfl):PS X (.For tg iter body [] pos) (PY wi g tb):=by
 intro pins s σ H D I h;refine wpAny_For (aZ (hi pins s σ H _ I h) fun v s1 h1=>aZ h1 fun OY s2 h2=>?_) hs;obtain⟨it,fp,tn,J,H2,e,I2,T,ER,f2,W,⟨m0,w0⟩,turn⟩:=h2;subst e;have Ge:∀ {H':Hp},(∀ b∈fp,H' b=none)->∀ b∈fp,lP X pins H' b:=fun hn b hb=>⟨hn b hb,(f2 b hb).2⟩
 refine codeAny_forLoop_any (fun n s'=>∃ i σ' H',Inv X pins σ' H' s'/\tn i s'.heap/\(∀ b∈fp,H' b=none)/\W i n σ' H') ?_ m0 ⟨0,σ,H2,I2,ER,fun b hb=>(f2 b hb).1,w0⟩;rintro n s3 ⟨i,σ3,H3,I3,Se,Sf,w3⟩;rcases turn i n σ3 H3 w3 with ⟨stop,qn⟩ | ⟨go,N,hN,step⟩
 ·refine YK hp (aZ (T.done X rfl rfl rfl hc i pins s3 σ3 H3 X.xe I3 (Ge Sf) Se stop) fun r s4 ⟨hr,I4⟩=>?_);subst hr;exact aao ⟨σ3,H3,I4,qn⟩
 ·refine YK hp (aZ (T.item X rfl rfl rfl hc i pins s3 σ3 H3 X.xe I3 (Ge Sf) Se go) fun r s4 ⟨u,hr,h4⟩=>?_);subst hr;refine YK hp (aZ h4 fun _ s5 ⟨x,H5,I5,r5,y5,Gf,PZ⟩=>?_);have P0:=I5.pinned (Ge PZ) (T.obj _ _ Gf);refine YK hp (aZ (hg _ s5 σ3 H5 x u _ P0 r5 (step x H5 y5)) fun _ s6 ⟨σ6,H6,I6,q6⟩=>?_);refine YK hp (aZ (hb _ s6 σ6 H6 _ I6 q6) fun f s7 q7=>?_)
  have again:∀ {σ7:St}{H7:Hp},Inv X (pins++kD fp s5.heap) σ7 H7 s7->N σ7 H7->∃ m,m<n/\∃ i σ' H',Inv X pins σ' H' s7/\tn i s7.heap/\(∀ b∈fp,H' b=none)/\W i m σ' H':=fun {σ7 H7} I7 n7=>by
   obtain⟨m',hm,w7⟩:=hN σ7 H7 n7;refine⟨m',hm,i+1,σ7,H7,I7.jI,T.keep _ _ _ Gf fun b hb o e=>(I7.pin (b,o) (L_ _ (L_ _ (fF hb e)))).1,fun b hb=>?_,w7⟩;obtain⟨o,e,d⟩:=T.obj _ _ Gf b hb;exact (I7.pin (b,o) (L_ _ (L_ _ (fF hb e)))).2.1
  cases f with
  | next=>obtain⟨σ7,H7,I7,n7⟩:=q7;exact again I7 n7
  | cont=>obtain⟨σ7,H7,I7,n7⟩:=q7;exact again I7 n7
  | brk=>obtain⟨σ7,H7,I7,q7⟩:=q7;exact⟨σ7,H7,I7.jI,q7⟩
  | ret v=>obtain⟨x7,σ7,H7,I7,r7,q7⟩:=q7;exact⟨x7,σ7,H7,I7.jI,r7,q7⟩
end
end L2
namespace L2
open PySem PySem.Spec PyProof.Rows
noncomputable abbrev R2:=V->V->Hp->VK->Prop
def eD (X:Cx) (f:Value->Value->Sem Value) (r:R2):Prop :=
 ∀ (pins:List (Addr×Obj)) (s:h_) (σ:St) (H:Hp) (x y:V) (v u:Value) (Q:VK),Inv X pins σ H s->RelV x v->RelV y u->r x y H Q ->
  wpAny (model X.prog X.w) X.A (f v u) (EP X pins σ Q) X.xe s
def P1 (X:Cx) (f:Value->Sem Value) (r:V->Hp->VK->Prop):Prop :=
 ∀ (pins:List (Addr×Obj)) (s:h_) (σ:St) (H:Hp) (x:V) (v:Value) (Q:VK),Inv X pins σ H s->RelV x v->r x H Q ->
  wpAny (model X.prog X.w) X.A (f v) (EP X pins σ Q) X.xe s
def bj (X:Cx) (f:Value) (r:List V->Hp->VK->Prop):Prop :=
 ∀ (pins:List (Addr×Obj)) (s:h_) (σ:St) (H:Hp) (xs:List V) (us:List Value) (Q:VK),Inv X pins σ H s->Vals xs us->r xs H Q ->
  wpAny (model X.prog X.w) X.A (call f us) (EP X pins σ Q) X.xe s
def P2 (X:Cx) (r:V->Hp->(Bool->Hp->Prop)->Prop):Prop :=
 ∀ (pins:List (Addr×Obj)) (s:h_) (σ:St) (H:Hp) (x:V) (v:Value) (Q:Bool->Hp->Prop),Inv X pins σ H s->RelV x v->r x H Q ->
  wpAny (model X.prog X.w) X.A (truthy v) (TP X pins σ Q) X.xe s
def z7 (r:R2) (ta tb:TE):TE:=fun σ H Q=>ta σ H fun x H1=>tb σ H1 fun y H2=>r x y H2 Q
def TR (r:V->Hp->VK->Prop) (ta:TE):TE:=fun σ H Q=>ta σ H fun x H1=>r x H1 Q
def rI (C:Int->Int->Prop) (g:Int->Int->V):R2:=fun x y H Q=>∃ i j,x=.int i/\y=.int j/\C i j/\Q (g i j) H
def xh (g:Int->Int->V):R2:=fun x y H Q=>∃ i j,x=.int i/\y=.int j/\Q (g i j) H
def rU (g:Int->V):V->Hp->VK->Prop:=fun x H Q=>∃ i,x=.int i/\Q (g i) H
section
variable {X:Cx}{a b c:Expr}{ta tb tc:TE}{pos:Pos}
theorem Gg (ha:PE X a ta) (hb:PE X b tb) {pins:List (Addr×Obj)}{s:h_}{σ:St}{H:Hp}{R:V->V->Hp->Prop} (I:Inv X pins σ H s)
  (h:ta σ H fun x H1=>tb σ H1 fun y H2=>R x y H2) {Q:Value->h_->Prop}{f:Value->Value->Sem Value}
  (hf:∀ v u s2 x y H2,Inv X pins σ H2 s2->RelV x v->RelV y u->R x y H2->wpAny (model X.prog X.w) X.A (f v u) Q X.xe s2) :
  wpAny (model X.prog X.w) X.A (eval a X.env) (fun v s₁=>wpAny (model X.prog X.w) X.A (eval b X.env) (fun u s₂=>wpAny (model X.prog X.w) X.A (f v u) Q X.xe s₂) X.xe s₁) X.xe s:=by
 refine aZ (ha pins s σ H _ I h) fun v s1 ⟨x,H1,I1,r1,q1⟩=>?_
 refine aZ (hb pins s1 σ H1 _ I1 q1) fun u s2 ⟨y,H2,I2,r2,q2⟩=>?_
 exact hf v u s2 x y H2 I2 r1 r2 q2
theorem ES {op:ZS}{r:R2} (ho:eD X (ZB op) r) (ha:PE X a ta) (hb:PE X b tb):PE X (.BinOp a op b pos) (z7 r ta tb):=by
 intro pins s σ H Q I h;exact wpAny_BinOp (Gg ha hb I h fun v u s2 x y H2 I2 rx ry q=>ho pins s2 σ H2 x y v u Q I2 rx ry q)
theorem Ld {op:ado}{r:V->Hp->VK->Prop} (ho:P1 X (unaryOp op) r) (ha:PE X a ta):PE X (.UnaryOp op a pos) (TR r ta):=by
 intro pins s σ H Q I h;exact UnaryOp_ (aZ (ha pins s σ H _ I h) fun v s1 ⟨x,H1,I1,r1,q1⟩=>ho pins s1 σ H1 x v Q I1 r1 q1)
theorem Cz {f:Value->Value->Sem Value}{C:Int->Int->Prop}{g:Int->Int->Int}
  (rule:∀ (i j:Int) (t u:Tok) (s:h_) (Q:Value->h_->Prop) (E:Value->h_->Prop),C i j->Q (.int (g i j) s.toks) { s with toks:=s.toks+1 }->wpAny (model X.prog X.w) X.A (f (.int i t) (.int j u)) Q E s) :
  eD X f (rI C fun i j=>.int (g i j)):=by
 intro pins s σ H x y v u Q I rx ry h;obtain⟨i,j,rfl,rfl,hc,q⟩:=h;obtain⟨t,rfl⟩:=rx;obtain⟨t',rfl⟩:=ry;exact rule i j t t' s _ _ hc ⟨.int (g i j),H,I.tok _,⟨_,rfl⟩,q⟩
theorem Le {f:Value->Value->Sem Value}{g:Int->Int->Int}
  (rule:∀ (i j:Int) (t u:Tok) (s:h_) (Q:Value->h_->Prop) (E:Value->h_->Prop),Q (.int (g i j) s.toks) { s with toks:=s.toks+1 }->wpAny (model X.prog X.w) X.A (f (.int i t) (.int j u)) Q E s) :
  eD X f (xh fun i j=>.int (g i j)):=by
 intro pins s σ H x y v u Q I rx ry h;obtain⟨i,j,rfl,rfl,q⟩:=h;obtain⟨t,rfl⟩:=rx;obtain⟨t',rfl⟩:=ry;exact rule i j t t' s _ _ ⟨.int (g i j),H,I.tok _,⟨_,rfl⟩,q⟩
theorem CY {f:Value->Value->Sem Value}{g:Int->Int->Bool}
  (rule:∀ (i j:Int) (t u:Tok) (s:h_) (Q:Value->h_->Prop) (E:Value->h_->Prop),Q (.bool (g i j)) s->wpAny (model X.prog X.w) X.A (f (.int i t) (.int j u)) Q E s) :
  eD X f (xh fun i j=>.bl (g i j)):=by
 intro pins s σ H x y v u Q I rx ry h;obtain⟨i,j,rfl,rfl,q⟩:=h;obtain⟨t,rfl⟩:=rx;obtain⟨t',rfl⟩:=ry;exact rule i j t t' s _ _ ⟨.bl (g i j),H,I,rfl,q⟩
def z8 (i j:Int):Prop:=0<j/\j<1073741824
def CZ (i j:Int):Prop:=0<=j/\j<=1000000/\i.natAbs<2 ^ 64
def yv (i j:Int):Prop:=(-(2 ^ 64)<i/\i<2 ^ 64)∨(-(2 ^ 64)<j/\j<2 ^ 64)
theorem yv.ok {i j:Int} (h:yv i j):IntMulOk i j:=by
 rcases h with ⟨h1,h2⟩ | ⟨h1,h2⟩
 ·exact .of_left (intBits_le_64 h1 h2)
 ·exact .of_right (intBits_le_64 h1 h2)
theorem vD (k:Nat):(0:Int)<=2 ^ k:=by
 rw[two_pow_cast];exact Int.natCast_nonneg _
theorem Gh:eD X (ZB .Add) (xh fun i j=>.int (i+j)):=Le fun _ _ _ _ _ _ _ q=>add_int q
theorem Gi:eD X (ZB .Sub) (xh fun i j=>.int (i-j)):=Le fun _ _ _ _ _ _ _ q=>sub_int q
theorem Gj:eD X (ZB .Mult) (rI yv fun i j=>.int (i*j)):=Cz fun _ _ _ _ _ _ _ hc q=>mul_int q hc.ok
theorem C0:eD X (ZB .FloorDiv) (rI z8 fun i j=>.int (i / j)):=Cz fun i j _ _ _ _ _ hc q=>by
 have h1:(0:Int)<j:=hc.1;have h2:j<1073741824:=hc.2;exact floordiv_int (by omega) (by rw[aaE i (by omega)];exact q) (.inl (abq (by omega)))
theorem Gk:eD X (ZB .Mod) (rI (fun _ j=>0<j) fun i j=>.int (i % j)):=Cz fun i j _ _ _ _ _ hc q=>by
 have h1:(0:Int)<j:=hc;exact mod_int' (by omega) (by rw[Int.fmod_eq_emod_of_nonneg i (by omega)];exact q)
theorem Gn:eD X (ZB .Pow) (rI CZ fun i j=>.int (i ^ j.toNat)):=Cz fun _ _ _ _ _ _ _ hc q=>pow_int_small hc.1 hc.2.1 hc.2.2 q
theorem Go:eD X (ZB .RShift) (rI (fun _ j=>0<=j) fun i j=>.int (i / 2 ^ j.toNat)):=Cz fun i j _ _ _ _ _ hc q =>
 rshift_int hc (by rw[aaE i (vD _)];exact q)
theorem TU {f:Value->Sem Value}{g:Int->Int}
  (rule:∀ (i:Int) (t:Tok) (s:h_) (Q:Value->h_->Prop) (E:Value->h_->Prop),Q (.int (g i) s.toks) { s with toks:=s.toks+1 }->wpAny (model X.prog X.w) X.A (f (.int i t)) Q E s) :
  P1 X f (rU fun i=>.int (g i)):=by
 intro pins s σ H x v Q I rx h;obtain⟨i,rfl,q⟩:=h;obtain⟨t,rfl⟩:=rx;exact rule i t s _ _ ⟨.int (g i),H,I.tok _,⟨_,rfl⟩,q⟩
theorem Gp:P1 X (unaryOp .USub) (rU fun i=>.int (-i)):=TU fun _ _ _ _ _ q=>neg_int q
end
noncomputable def Gq:V->V->Bool
 | .az,.az=>true | .az,.int _=>true | .int _,.az=>true | .az,.bl _=>true | .bl _,.az=>true | .az,.str _=>true | .str _,.az=>true
 | .int _,.int _=>true | .bl _,.bl _=>true | .str _,.str _=>true | .xf _,.xf _=>true
 | .int _,.str _=>true | .str _,.int _=>true | .bl _,.str _=>true | .str _,.bl _=>true
 | _,_=>false
def Sg:R2:=fun x y H Q=>Gq x y=true/\Q (.bl (decide (x=y))) H
def Sh:R2:=fun x y H Q=>Gq x y=true/\Q (.bl (!decide (x=y))) H
theorem xi {i j:Int}:decide (V.int i=V.int j)=(i==j):=by
 rw[X6];simp
theorem Aa {i j:Bool}:decide (V.bl i=V.bl j)=(i==j):=by
 rw[X6];simp
theorem xj {i j:Str}:decide (V.str i=V.str j)=(i==j):=by
 rw[X6];simp
theorem xk {i j:Array UInt8}:decide (V.xf i=V.xf j)=(i.toList==j.toList):=by
 rw[X6]
 cases i
 cases j
 simp
section
variable {X:Cx}{a b c:Expr}{ta tb tc:TE}{pos:Pos}
theorem aD {pins:List (Addr×Obj)}{σ:St}{H:Hp}{s:h_}{Q:VK}{k k':Bool} (I:Inv X pins σ H s) (q:Q (.bl k) H) (e:k=k'):EP X pins σ Q (.bool k') s:=by
 subst e;exact⟨.bl k,H,I,rfl,q⟩
theorem Lf:eD X (Xl .Eq) Sg:=by
 intro pins s σ H x y v u Q I rx ry h;obtain⟨hs,q⟩:=h
 cases x with
 | az =>
  cases rx
  cases y with
  | az=>cases ry;exact PySem.EqNone.eq_none_none (aD I q (by simp))
  | bl j=>cases ry;exact PySem.EqNone.eq_none_bool (aD I q (by simp))
  | int j=>obtain⟨t',rfl⟩:=ry;exact PySem.EqNone.eq_none_int (aD I q (by simp))
  | str j=>obtain⟨t',rfl⟩:=ry;exact PySem.EqNone.eq_none_str (aD I q (by simp))
  | _=>exact absurd (show false=true from hs) r_
 | bl i =>
  cases rx
  cases y with
  | az=>cases ry;exact PySem.EqNone.eq_bool_none (aD I q (by simp))
  | bl j=>cases ry;exact eq_bool (aD I q Aa)
  | str j=>obtain⟨t',rfl⟩:=ry;exact PySem.EqMixed.eq_bool_str (aD I q (by simp))
  | _=>exact absurd (show false=true from hs) r_
 | int i =>
  obtain⟨t,rfl⟩:=rx
  cases y with
  | az=>cases ry;exact PySem.EqNone.eq_int_none (aD I q (by simp))
  | int j=>obtain⟨t',rfl⟩:=ry;exact eq_int (aD I q xi)
  | str j=>obtain⟨t',rfl⟩:=ry;exact PySem.EqMixed.eq_int_str (aD I q (by simp))
  | _=>exact absurd (show false=true from hs) r_
 | str i =>
  obtain⟨t,rfl⟩:=rx
  cases y with
  | az=>cases ry;exact PySem.EqNone.eq_str_none (aD I q (by simp))
  | bl j=>cases ry;exact PySem.EqMixed.eq_str_bool (aD I q (by simp))
  | int j=>obtain⟨t',rfl⟩:=ry;exact PySem.EqMixed.eq_str_int (aD I q (by simp))
  | str j=>obtain⟨t',rfl⟩:=ry;exact eq_str (aD I q xj)
  | _=>exact absurd (show false=true from hs) r_
 | xf i =>
  obtain⟨t,rfl⟩:=rx
  cases y with
  | xf j=>obtain⟨t',rfl⟩:=ry;exact PySem.W.eq_bytes (aD I q xk)
  | _=>exact absurd (show false=true from hs) r_
 | _=>cases y<;>exact absurd (show false=true from hs) r_
theorem Lg:eD X (Xl .NotEq) Sh:=by
 intro pins s σ H x y v u Q I rx ry h;obtain⟨hs,q⟩:=h
 cases x with
 | az =>
  cases rx
  cases y with
  | az=>cases ry;exact PySem.EqNone.ne_none_none (aD I q (by simp))
  | bl j=>cases ry;exact PySem.EqNone.ne_none_bool (aD I q (by simp))
  | int j=>obtain⟨t',rfl⟩:=ry;exact PySem.EqNone.ne_none_int (aD I q (by simp))
  | str j=>obtain⟨t',rfl⟩:=ry;exact PySem.EqNone.ne_none_str (aD I q (by simp))
  | _=>exact absurd (show false=true from hs) r_
 | bl i =>
  cases rx
  cases y with
  | az=>cases ry;exact PySem.EqNone.ne_bool_none (aD I q (by simp))
  | bl j=>cases ry;exact ne_bool (aD I q (congrArg not Aa))
  | str j=>obtain⟨t',rfl⟩:=ry;exact PySem.EqMixed.ne_bool_str (aD I q (by simp))
  | _=>exact absurd (show false=true from hs) r_
 | int i =>
  obtain⟨t,rfl⟩:=rx
  cases y with
  | az=>cases ry;exact PySem.EqNone.ne_int_none (aD I q (by simp))
  | int j=>obtain⟨t',rfl⟩:=ry;exact ne_int (aD I q (congrArg not xi))
  | str j=>obtain⟨t',rfl⟩:=ry;exact PySem.EqMixed.ne_int_str (aD I q (by simp))
  | _=>exact absurd (show false=true from hs) r_
 | str i =>
  obtain⟨t,rfl⟩:=rx
  cases y with
  | az=>cases ry;exact PySem.EqNone.ne_str_none (aD I q (by simp))
  | bl j=>cases ry;exact PySem.EqMixed.ne_str_bool (aD I q (by simp))
  | int j=>obtain⟨t',rfl⟩:=ry;exact PySem.EqMixed.ne_str_int (aD I q (by simp))
  | str j=>obtain⟨t',rfl⟩:=ry;exact ne_str (aD I q (congrArg not xj))
  | _=>exact absurd (show false=true from hs) r_
 | xf i =>
  obtain⟨t,rfl⟩:=rx
  cases y with
  | xf j=>obtain⟨t',rfl⟩:=ry;exact PySem.W.ne_bytes (aD I q (congrArg not xk))
  | _=>exact absurd (show false=true from hs) r_
 | _=>cases y<;>exact absurd (show false=true from hs) r_
theorem Lh:eD X (Xl .Lt) (xh fun i j=>.bl (decide (i<j))):=CY fun _ _ _ _ _ _ _ q=>lt_int q
theorem Li:eD X (Xl .LtE) (xh fun i j=>.bl (decide (i<=j))):=CY fun _ _ _ _ _ _ _ q=>le_int q
theorem Lj:eD X (Xl .Gt) (xh fun i j=>.bl (decide (j<i))):=CY fun _ _ _ _ _ _ _ q=>gt_int q
theorem Ll:eD X (Xl .GtE) (xh fun i j=>.bl (decide (j<=i))):=CY fun _ _ _ _ _ _ _ q=>ge_int q
theorem qi:eD X (Xl .In) (fun x y H Q=>∃ i j,x=.str i/\y=.str j/\Q (.bl (!(XX j i 0 j.length 1).isEmpty)) H):=by
 intro pins s σ H x y v u Q I rx ry h;obtain⟨i,j,rfl,rfl,q⟩:=h;obtain⟨t,rfl⟩:=rx;obtain⟨t',rfl⟩:=ry;exact in_str (aD I q rfl)
theorem Gr:eD X (Xl .Is) (fun x y H Q=>y=.az/\Q (.bl (decide (x=.az))) H):=by
 intro pins s σ H x y v u Q I rx ry h;obtain⟨rfl,q⟩:=h
 cases ry
 refine is_none_gen (aD I q ?_)
 cases x<;>first
  | (cases rx;rfl)
  | (obtain⟨t,rfl⟩:=rx;rfl)
theorem C1:eD X (Xl .IsNot) (fun x y H Q=>y=.az/\Q (.bl (!decide (x=.az))) H):=by
 intro pins s σ H x y v u Q I rx ry h;obtain⟨rfl,q⟩:=h
 cases ry
 refine isnot_none_gen (aD I q ?_)
 cases x<;>first
  | (cases rx;rfl)
  | (obtain⟨t,rfl⟩:=rx;rfl)
theorem eD.or {f:Value->Value->Sem Value}{r r':R2} (h:eD X f r) (h':eD X f r'):eD X f (fun x y H Q=>r x y H Q∨r' x y H Q):=by
 intro pins s σ H x y v u Q I rx ry q;rcases q with q | q
 ·exact h pins s σ H x y v u Q I rx ry q
 ·exact h' pins s σ H x y v u Q I rx ry q
theorem Ab (b:Expr) {op:CmpOp} (h:op≠.In:=by decide) (h2:op≠.NotIn:=by decide):XR op b=false:=by
 have e1:(op==CmpOp.In)=false:=by cases op<;>first | rfl | exact absurd rfl h
 have e2:(op==CmpOp.NotIn)=false:=by cases op<;>first | rfl | exact absurd rfl h2
 cases b<;>simp [XR,e1,e2]
theorem mr {op:CmpOp}{r:R2} (ho:eD X (Xl op) r) (ha:PE X a ta) (hb:PE X b tb) (hm:XR op b=false):PE X (.Compare a [op] [b] pos) (z7 r ta tb):=by
 intro pins s σ H Q I h;exact wpAny_Compare1 (Gg ha hb I h fun v u s2 x y H2 I2 rx ry q=>ho pins s2 σ H2 x y v u Q I2 rx ry q) hm
def ET (t:TE):TT:=fun σ H Q=>t σ H fun x H'=>∃ k,x=.bl k/\Q k H'
theorem C2 {op:CmpOp}{r:R2} (ho:eD X (Xl op) r) (ha:PE X a ta) (hb:PE X b tb) (hm:XR op b=false):PT X (.Compare a [op] [b] pos) (ET (z7 r ta tb)):=by
 intro pins s σ H Q I h
 refine abI (aZ (ha pins s σ H _ I h) fun v s1 ⟨x,H1,I1,r1,q1⟩=>aZ (hb pins s1 σ H1 _ I1 q1) fun u s2 ⟨y,H2,I2,r2,q2⟩ =>
  aZ (ho pins s2 σ H2 x y v u _ I2 r1 r2 q2) fun c s3 ⟨z,H3,I3,r3,k,e,q3⟩=>?_) hm
 subst e
 cases r3
 exact Xt ⟨H3,I3,q3⟩
def vF (r r':R2) (ta tb tc:TE):TE:=fun σ H Q=>ta σ H fun x H1=>tb σ H1 fun y H2=>r x y H2 fun z H3=>∃ k,z=.bl k /\
 (if k=true then tc σ H3 fun w' H4=>r' y w' H4 Q else Q (.bl false) H3)
theorem Ac {op Gu:CmpOp}{r r':R2} (ho:eD X (Xl op) r) (kA:eD X (Xl Gu) r') (ha:PE X a ta) (hb:PE X b tb) (hc:PE X c tc)
  (hm:lastMarks [op,Gu] [b,c]=false:=by with_unfolding_all rfl):PE X (.Compare a [op,Gu] [b,c] pos) (vF r r' ta tb tc):=by
 intro pins s σ H Q I h
 refine Compare_chain (aZ (ha pins s σ H _ I h) fun v s1 ⟨x,H1,I1,r1,q1⟩=>chain_link (aZ (hb pins s1 σ H1 _ I1 q1) fun u s2 ⟨y,H2,I2,r2,q2⟩ =>
  aZ (ho pins s2 σ H2 x y v u _ I2 r1 r2 q2) fun d s3 ⟨z,H3,I3,r3,k,e,q3⟩=>?_)) hm
 subst e
 cases r3
 refine Xt ?_
 cases k with
 | false=>exact ite_ff ⟨.bl false,H3,I3,rfl,q3⟩
 | true=>exact ite_tt (chain_last (aZ (hc pins s3 σ H3 _ I3 q3) fun w' s4 ⟨z',H4,I4,r4,q4⟩=>kA pins s4 σ H4 y z' u w' Q I4 r2 r4 q4))
theorem Ad {op Gu:CmpOp}{r r':R2} (ho:eD X (Xl op) r) (kA:eD X (Xl Gu) r') (ha:PE X a ta) (hb:PE X b tb) (hc:PE X c tc)
  (hm:lastMarks [op,Gu] [b,c]=false:=by with_unfolding_all rfl):PT X (.Compare a [op,Gu] [b,c] pos) (ET (vF r r' ta tb tc)):=by
 intro pins s σ H Q I h
 refine isTrue_chain (aZ (ha pins s σ H _ I h) fun v s1 ⟨x,H1,I1,r1,q1⟩=>test_link (aZ (hb pins s1 σ H1 _ I1 q1) fun u s2 ⟨y,H2,I2,r2,q2⟩ =>
  aZ (ho pins s2 σ H2 x y v u _ I2 r1 r2 q2) fun d s3 ⟨z,H3,I3,r3,k,e,q3⟩=>?_)) hm
 subst e
 cases r3
 refine Xt ?_
 cases k with
 | false =>
  obtain⟨k',e',q'⟩:=q3
  cases e'
  exact ite_ff ⟨H3,I3,q'⟩
 | true =>
  refine ite_tt (test_last (aZ (hc pins s3 σ H3 _ I3 q3) fun w' s4 ⟨z',H4,I4,r4,q4⟩=>aZ (kA pins s4 σ H4 y z' u w' _ I4 r2 r4 q4) fun d' s5 ⟨z2,H5,I5,r5,k2,e2,q5⟩=>?_));subst e2
  cases r5
  exact Xt ⟨H5,I5,q5⟩
def Lm (K:e_) (x:V) (H:Hp) (k:Bool):Prop :=
 match x with
 | .az=>k=false
 | .bl b=>k=b
 | .int i=>k=(i != 0)
 | .str y=>y.length<=sizeLine/\k=((y.length:Int) != 0)
 | .xf y=>y.size<=sizeLine/\k=((y.size:Int) != 0)
 | .ref p=>(∃ xs,cS K H p xs/\k = !xs.isEmpty)∨(∃ xs,eC K H p xs/\k = !xs.isEmpty)∨∃ kvs,H p=some (.dK kvs)/\k = !kvs.isEmpty
 | _=>False
theorem vG {κ:Type}{kvs:List (κ×V)}{vs:List (κ×Value)} (r:KV kvs vs):(!vs.isEmpty) = !kvs.isEmpty:=by
 cases r<;>rfl
theorem mV {xs:List V}{aj:List Value} (r:Vals xs aj):(!aj.toArray.isEmpty) = !xs.isEmpty:=by
 cases r<;>simp
theorem kE:(sizeLine:Nat)<2 ^ 63:=by rw[ac_];decide
theorem Gv:P2 X (fun x H Q=>∃ k,Lm X.K x H k/\Q k H):=by
 intro pins s σ H x v Q I rx h;obtain⟨k,e,q⟩:=h;have hl:=kE;have hs:sizeLine=16777216:=ac_
 cases x with
 | az =>
  cases rx
  have e':k=false:=e;subst e';exact truthy_none ⟨H,I,q⟩
 | bl b =>
  cases rx
  have e':k=b:=e;subst e';exact Xt ⟨H,I,q⟩
 | int i =>
  obtain⟨t,rfl⟩:=rx;have e':k=(i != 0):=e;subst e';exact PySem.P.truthy_int ⟨H,I,q⟩
 | str y =>
  obtain⟨t,rfl⟩:=rx;obtain⟨hy,e'⟩:y.length<=sizeLine/\k=((y.length:Int) != 0):=e;subst e';exact PySem.P.truthy_str (by omega) ⟨H,I.tok _,q⟩
 | xf y =>
  obtain⟨t,rfl⟩:=rx;obtain⟨hy,e'⟩:y.size<=sizeLine/\k=((y.size:Int) != 0):=e;subst e';exact PySem.W.truthy_bytes (by omega) ⟨H,I.tok _,q⟩
 | ref p =>
  cases rx
  have e':(∃ xs,cS X.K H p xs/\k = !xs.isEmpty)∨(∃ xs,eC X.K H p xs/\k = !xs.isEmpty)∨∃ kvs,H p=some (.dK kvs)/\k = !kvs.isEmpty:=e;rcases e' with ⟨xs,hx,e'⟩ | ⟨xs,hx,e'⟩ | ⟨kvs,hx,e'⟩
  ·subst e';obtain⟨aj,r,pl,hz⟩:=I.list hx;have hlen:=r.length;exact wpAny_truthy_list pl.isList (by simp only[I_];omega) ⟨H,I.tok _,by rw[mV r];exact q⟩
  ·subst e';obtain⟨aj,r,pl,hz⟩:=I.tuple hx;have hlen:=r.length;exact truthy_tuple pl (by simp only[I_];omega) ⟨H,I.tok _,by rw[mV r];exact q⟩
  ·subst e';obtain⟨hz,hS,vs,r,m⟩:kvs.length<=sizeLine/\(p==YX)=false/\∃ vs,KV kvs vs/\s.heap.DictOf (aK X.prog X.w) p vs:=I.aY p _ hx;have hlen:kvs.length=vs.length:=aa0 r;exact wpAny_truthy_dict hS m (by omega) ⟨H,I.tok _,by rw[vG r];exact q⟩
 | _=>exact (show False from e).elim
theorem Ae (ha:PE X a ta) (he:∀ whole,abP a X.env whole=(do let v ←whole;ab6 a.pos;aaR [v] (truthy v))) :
  PT X a (fun σ H Q=>ta σ H fun x H'=>∃ k,Lm X.K x H' k/\Q k H'):=by
 intro pins s σ H Q I h;exact isTrue_plain (aZ (ha pins s σ H _ I h) fun v s1 ⟨x,H1,I1,r1,q1⟩=>Gv pins s1 σ H1 x v Q I1 r1 q1) (he _)
theorem vH:eD X (ZB .Add) (fun x y H Q=>∃ i j,x=.str i/\y=.str j/\i.length+j.length<=sizeLine/\Q (.str (i++j)) H):=by
 intro pins s σ H x y v u Q I rx ry h;obtain⟨i,j,rfl,rfl,hz,q⟩:=h;obtain⟨t,rfl⟩:=rx;obtain⟨t',rfl⟩:=ry;exact add_str (fun t' tk=>⟨.str (i++j),H,I.tok _,⟨_,rfl⟩,q⟩) hz
theorem vals1 {x:V}{us:List Value} (r:Vals [x] us):∃ u,us=[u]/\RelV x u:=by
 cases r with
 | cons r1 r2=>cases r2;exact⟨_,rfl,r1⟩
theorem vals2 {x y:V}{us:List Value} (r:Vals [x,y] us):∃ u w',us=[u,w']/\RelV x u/\RelV y w':=by
 cases r with
 | cons r1 r2 =>
  cases r2 with
  | cons r3 r4=>cases r4;exact⟨_,_,rfl,r1,r3⟩
theorem yw (hc:X.calm=true):bj X (.builtin "min") (fun xs H Q=>∃ i j,xs=[.int i,.int j]/\Q (.int (if j<i then j else i)) H):=by
 intro pins s σ H xs us Q I r h;obtain⟨i,j,rfl,q⟩:=h;obtain⟨u,w',rfl,⟨t,rfl⟩,⟨t',rfl⟩⟩:=vals2 r;refine min_two_ints (I.ok.hd hc) fun h' tk k=>⟨_,H,I.kept k,?_,q⟩
 by_cases hj:j<i
 ·rw[s_ hj,s_ hj];exact⟨_,rfl⟩
 ·rw[n_ hj,n_ hj];exact⟨_,rfl⟩
theorem yx:bj X (.type "int") (fun xs H Q=>(∃ i,xs=[.int i]/\Q (.int i) H)∨∃ k,xs=[.bl k]/\Q (.int (if k then 1 else 0)) H):=by
 intro pins s σ H xs us Q I r h;rcases h with ⟨i,rfl,q⟩ | ⟨k,rfl,q⟩
 ·obtain⟨u,rfl,t,rfl⟩:=vals1 r;exact call_int_int ⟨.int i,H,I,⟨_,rfl⟩,q⟩
 ·obtain⟨u,rfl,r1⟩:=vals1 r
  cases r1
  exact call_int_bool ⟨.int (if k then 1 else 0),H,I.tok _,⟨_,rfl⟩,q⟩
end
end L2
namespace L2
open PySem PySem.Spec PyProof.Rows
structure vJ (h:Heap) (x dx C:Addr) (mA:Str->l_ Value):Prop where
 obj:h.get? x=some (Yj C dx)
 ns:h.Ns1 dx mA
 ne:dx≠x
theorem yy {h:Heap}{dx:Addr}{mA:Str->l_ Value} (n:h.Ns1 dx mA):∃ od,h.get? dx=some od/\∀ name,aaF name od=some (mA name):=by
 obtain⟨o,es,ep,ho,hd,hk,_,hm⟩:=n;refine⟨o,ho,fun name=>?_⟩;have e:=hm name;unfold nsFind findBy at e;rw[←Array.find?_toList] at e;unfold aaF;rw[hd];dsimp only;split
 ·rename_i y q;rw[q] at e;exact congrArg some e
 ·rename_i q;rw[q] at e
  have a:es.toList.any (·.refKey)=false:=by
   rw[List.any_eq_false];intro y hy;obtain⟨z,t,Gw⟩:=hk y (Array.mem_toList_iff.mp hy);simp [DictEntry.refKey,Gw]
  have a':¬ es.toList.any (·.refKey)=true:=by rw[a];exact r_
  rw[n_ a'];exact congrArg some e
theorem vJ.look {h:Heap}{x dx C:Addr}{mA:Str->l_ Value} (I:vJ h x dx C mA):∃ od,PySem.W.InstAt h x (Yj C dx) C (some od)/\∀ name,aaF name od=some (mA name) :=
 let ⟨od,ho,hl⟩:=yy I.ns
 ⟨od,⟨I.obj,rfl,rfl,ho⟩,hl⟩
section
variable {prog:K_}{w:World}{A:Xw}{E:Value->h_->Prop}{s:h_}{K:e_}{x dx C f:Addr}{mA:Str->l_ Value}{name:Str}{v:Value}
theorem get_map {expr:Bool}{Q:Value->h_->Prop} (X:K.In s.heap) (I:vJ s.heap x dx C mA) (hg:Zs K C name=true) (hh:ZU K C=true)
  (ha:Xu K (.ref C) name=some none) (hv:mA name=some v) (EU:acY v=true) (h:Q v { s with toks:=s.toks+1 }) :
  wpAny (model prog w) A (getAttr (.ref x) name expr) Q E s:=by
 obtain⟨od,J,hl⟩:=I.look;exact PySem.W.get_value X J (aav hg).1 (PySem.W.findObj_own hh ha rfl (by rw[hl,hv])) EU h
theorem Af {pl:Sem Bool}{Q:Value×List Value->h_->Prop} (X:K.In s.heap) (I:vJ s.heap x dx C mA) (hg:Zs K C name=true)
  (hf:Xu K (.ref C) name=some (some (.ref f))) (ht:ZV K (.ref f)=true) (hv:mA name=none) (h:Q (.ref f,[.ref x]) s) :
  wpAny (model prog w) A (acZ (.ref x) name pl) Q E s:=by
 obtain⟨od,J,hl⟩:=I.look;exact PySem.W.method_fn X J (aav hg).1 (aav hg).2 hf (YY.mp ht) (by show (aaF name od).map (·.isSome)=some false;rw[hl,hv];rfl) h
theorem C3 {ns:List Str}{Q:Unit->h_->Prop} (X:K.In s.heap) (I:vJ s.heap x dx C mA)
  (hs:Xu K (.ref C) "__setattr__" = some (some (.builtin "object.__setattr__"))) (hp:aaU K C=true) (ht:abC K C name=some none) (hh:ZU K C=true)
  (hw:acC mA ns) (hsz:ns.length<=sizeLine)
  (h:∀ h',vJ h' x dx C (fun y=>if y=name then some v else mA y)->Zb dx s.heap h'->Q () { s with heap:=h',toks:=s.toks+2 }) :
  wpAny (model prog w) A (setAttr (.ref x) name v) Q E s:=by
 obtain⟨od,J,hl⟩:=I.look;refine PySem.W.set_plain X J hs (PySem.W.osa_open (s:={ s with toks:=s.toks+1 }) (r:=none) X J hp ht fun b=>?_);obtain⟨cd,hc,oZ⟩:=PySem.W.any_some hh;have hx:s.heap.get? x=some ⟨.ref C,some dx,.plain,#[]⟩:=I.obj;refine g_ (y_ (g_ (g_ (wpAny_loadPart hx (g_ (PySem.W.Looks.here (s:={ s with toks:=s.toks+1 }) (PySem.W.looks_clsIn X hc) ?_))))));rw[oZ];refine y_ (a:=some dx) (g_ (y_ (g_ ?_)));refine wpAny_nsSet1 (s:={ s with toks:=s.toks+1 }) I.ns fun h' Gy qh=>?_
 obtain⟨oD,WJ,WK,TV,TW,TY⟩:=Gy.count (PySem.Within.cons name v hw);refine g_ (wpAny_lookBehind TV (by rw[TW];exact pastItsLine_dict (U_ TY (by rw[z_];omega))) ?_);exact y_ (h _ ⟨(qh.2 _ (YE I.ne)).trans I.obj,Gy,I.ne⟩ qh)
theorem Ag {R:Result->h_->Prop}{vs:List Value}{kw:List (Str×Value)} (X:K.In s.heap) (hm:abD K C=true)
  (hi:Xu K (.ref C) "__init__" = some (some (.ref f))) (hf:PySem.W.typeIn K (.ref f)=some (.type "function"))
  (h:Zt (model prog w) (A.under (.builtin "type.__call__" ⟨.ref C::vs,kw⟩)) (.call (.ref f) ⟨.ref (s.heap.objs.size+1)::vs,kw⟩) (PySem.W.InitBack (s.heap.objs.size+1) R)
   { s with heap:=(s.heap.push XQ).push (Yj C s.heap.objs.size) }) :
  Zt (model prog w) A (.call (.ref C) ⟨vs,kw⟩) R s:=by
 obtain⟨hh,g,d,t,os⟩:=s;exact PySem.W.make_core (PySem.W.makes_of X hm) (PySem.W.looks_findIn X hi) (fun self=>PySem.W.bind_fn X self hf) (.inl rfl) h
end
noncomputable def fG (f:Str) (v:V):List (Str×V)->List (Str×V)
 | []=>[(f,v)]
 | (g,x)::r=>if g=f then (g,v)::r else (g,x)::fG f v r
theorem lr (f g:Str) (v:V):∀ fs:List (Str×V),(fG f v fs).lookup g=if g=f then some v else fs.lookup g
 | []=>by
  show YO g [(f,v)]=_;by_cases h:g=f
  ·have hb:(g==f)=true:=YY.mpr h;simp only[YO,hb,s_ h]
  ·have hb:(g==f)=false:=X5.mpr h;simp only[YO,hb,n_ h]
 | (k,x)::r=>by
  have ih:=lr f g v r;rw[show fG f v ((k,x)::r)=(if k=f then (k,v)::r else (k,x)::fG f v r) from rfl];by_cases hk:k=f
  ·rw[s_ hk];by_cases h:g=k
   ·have hb:(g==k)=true:=YY.mpr h;simp only[YO,hb,s_ (h.trans hk)]
   ·have hb:(g==k)=false:=X5.mpr h;simp only[YO,hb,n_ (fun e:g=f=>h (e.trans hk.symm))]
  ·rw[n_ hk];by_cases h:g=k
   ·have hb:(g==k)=true:=YY.mpr h;simp only[YO,hb,n_ (fun e:g=f=>hk (h.symm.trans e))]
   ·have hb:(g==k)=false:=X5.mpr h;simp only[YO,hb];exact ih
theorem kF (f:Str) (v:V):∀ fs:List (Str×V),f∈(fG f v fs).map (·.1)/\∀ g,g∈fs.map (·.1)->g∈(fG f v fs).map (·.1)
 | []=>⟨by simp [fG],fun g h=>by simp at h⟩
 | (k,x)::r=>by
  obtain⟨i1,i2⟩:=kF f v r;rw[show fG f v ((k,x)::r)=(if k=f then (k,v)::r else (k,x)::fG f v r) from rfl];by_cases hk:k=f
  ·rw[s_ hk];subst hk;exact⟨by simp,fun g h=>by simpa using h⟩
  ·rw[n_ hk];refine⟨?_,fun g h=>?_⟩
   ·rw[p_];exact F_ _ i1
   ·rw[p_] at h ⊢;rcases w_.mp h with e | e
    ·exact w_.mpr (.inl e)
    ·exact F_ _ (i2 g e)
theorem lv (f:Str) (v:V):∀ fs:List (Str×V),(fG f v fs).length<=fs.length+1
 | []=>by simp [fG]
 | (k,x)::r=>by
  have ih:=lv f v r;rw[show fG f v ((k,x)::r)=(if k=f then (k,v)::r else (k,x)::fG f v r) from rfl];by_cases hk:k=f
  ·rw[s_ hk,z_,z_];omega
  ·rw[n_ hk,z_,z_];omega
theorem jC.some_of {v:V}{o:l_ Value} (r:jC (some v) o):∃ u,o=some u/\RelV v u:=by
 cases o with
 | none=>exact (show False from r).elim
 | some u=>exact⟨u,rfl,r⟩
theorem jC.none_of {o:l_ Value} (r:jC none o):o=none:=by
 cases o with
 | none=>rfl
 | some u=>exact (show False from r).elim
theorem yz {v:V}{u:Value} (r:RelV v u):acY u=true:=by
 cases v with
 | az=>cases (show u=Za from r);rfl
 | bl b=>cases (show u=aaC b from r);rfl
 | int i=>obtain⟨t,e⟩:=(show ∃ t,u=aac i t from r);cases e;rfl
 | str x=>obtain⟨t,e⟩:=(show ∃ t,u=aaB x t from r);cases e;rfl
 | xf b=>obtain⟨t,e⟩:=(show ∃ t,u=Value.bytes b t from r);cases e;rfl
 | FL b=>obtain⟨t,e⟩:=(show ∃ t,u=ac8 b t from r);cases e;rfl
 | ref a=>cases (show u=Xe a from r);rfl
 | ty n=>cases (show u=Yy n from r);rfl
section
variable {P:K_}{w:World}{H H':Hp}{h h':Heap}{a C dx:Addr}{fs e8:List (Str×V)}
theorem mv (aY:iG P w H h) (e:H a=some (.ins C dx fs)):∃ mA,vJ h a dx C mA/\(∀ f,jC (fs.lookup f) (mA f))/\acC mA (fs.map (·.1))/\fs.length<=1000/\H dx=some (.own a):=by
 obtain⟨d,z,ne,ob,mA,n,r,q⟩:=(show aS P w H h a (.ins C dx fs) from aY a _ e);exact⟨mA,⟨ob,n,ne⟩,r,q,z,d⟩
end
structure tF (K:e_) (C:Addr):Prop where
 pg:Zs K C XY=true
 hd:ZU K C=true
 po:aaU K C=true
 sa:Xu K (.ref C) "__setattr__" = some (some (.builtin "object.__setattr__"))
theorem tF.get {K:e_}{C:Addr} (c:tF K C) (f:Str):Zs K C f=true:=c.pg
def dF (K:e_) (C:Addr) (f:Str):Prop:=Xu K (.ref C) f=some none
theorem dF.Ln {K:e_}{C:Addr}{f:Str} (n:dF K C f):abC K C f=some none:=by
 unfold abC;rw[show Xu K (.ref C) f=some none from n];rfl
structure Meth (K:e_) (C:Addr) (m:Str) (f:Addr):Prop where
 at_:Xu K (.ref C) m=some (some (.ref f))
 fn:ZV K (.ref f)=true
 kp:Xn K (.ref f)=true
section
variable {X:Cx}{pins:List (Addr×Obj)}{σ:St}{H:Hp}{s:h_}{a C dx:Addr}{fs:List (Str×V)}{f:Str}{v:V}{A:Xw}{E:Value->h_->Prop}
theorem vK {b:Bool}{Q:Value->h_->Prop} (I:Inv X pins σ H s) (e:H a=some (.ins C dx fs)) (c:tF X.K C) (n:dF X.K C f) (l:fs.lookup f=some v)
  (h:∀ u s',Inv X pins σ H s'->RelV v u->Q u s'):wpAny (model X.prog X.w) A (getAttr (.ref a) f b) Q E s:=by
 obtain⟨mA,O,r,_,_,_⟩:=mv I.aY e;obtain⟨u,hu,ru⟩:=jC.some_of (v:=v) (o:=mA f) (by rw[←l];exact r f);exact get_map I.jx O (c.get f) c.hd n hu (yz ru) (h u _ (I.tok _) ru)
theorem mW {m:Str}{g:Addr}{pl:Sem Bool}{Q:Value×List Value->h_->Prop} (I:Inv X pins σ H s) (e:H a=some (.ins C dx fs)) (c:tF X.K C) (k:Meth X.K C m g) (l:fs.lookup m=none)
  (h:Q (.ref g,[.ref a]) s):wpAny (model X.prog X.w) A (acZ (.ref a) m pl) Q E s:=by
 obtain⟨mA,O,r,_,_,_⟩:=mv I.aY e;have hn:mA m=none:=jC.none_of (by rw[←l];exact r m);exact Af I.jx O (c.get m) k.at_ k.fn hn h
theorem vL {y:V}{u:Value}{Q:Unit->h_->Prop} (I:Inv X pins σ H s) (e:H a=some (.ins C dx fs)) (c:tF X.K C) (n:dF X.K C f) (hl:fs.length<1000) (ry:RelV y u)
  (h:∀ s',Inv X pins σ (upd H a (.ins C dx (fG f y fs))) s'->Q () s'):wpAny (model X.prog X.w) A (setAttr (.ref a) f u) Q E s:=by
 obtain⟨mA,O,r,wi,_,ho⟩:=mv I.aY e;have hz:(fs.map (·.1)).length<=sizeLine:=by rw[a_,ac_];omega
 refine C3 I.jx O c.sa c.po n.Ln c.hd wi hz fun h' O' sb=>h _ ?_
 have hd:∃ o,h'.get? dx=some o:=let ⟨o,_,_,e',_⟩:=O'.ns;⟨o,e'⟩;refine I.write (x:=a) (e:=dx) (by rw[e];exact XD) (.inr ho) (fun b q hb z=>(sb.2 b hb).trans z) hd ?_;refine⟨by rw[aw O.ne];exact ho,?_,O.ne,O'.obj,_,O'.ns,fun g=>?_,fun g hg=>?_⟩
 ·have:=lv f y fs;omega
 ·show jC ((fG f y fs).lookup g) (if g=f then some u else mA g);rw[lr];by_cases q:g=f
  ·rw[s_ q,s_ q];exact ry
  ·rw[n_ q,n_ q];exact r g
 ·by_cases q:g=f
  ·rw[q];exact (kF f y fs).1
  ·refine (kF f y fs).2 g (wi g fun z=>hg ?_);show (if g=f then some u else mA g)=none;rw[n_ q];exact z
theorem Inv.made (I:Inv X pins σ H s):Inv X pins σ (upd (upd H s.heap.objs.size (.own (s.heap.objs.size+1))) (s.heap.objs.size+1) (.ins C s.heap.objs.size []))
  { s with heap:=(s.heap.push XQ).push (Yj C s.heap.objs.size) }:=by
 have e1:(s.heap.push XQ).get? s.heap.objs.size=some XQ:=A_ s.heap rfl
 have e2:((s.heap.push XQ).push (Yj C s.heap.objs.size)).get? (s.heap.objs.size+1)=some (Yj C s.heap.objs.size):=by
  have:=A_ (s.heap.push XQ) (o:=Yj C s.heap.objs.size) rfl;rwa [Ya] at this
 have e3:(s.heap.push XQ).Ns s.heap.objs.size (fun _=>none):=⟨XQ,#[],_,e1,rfl,(fun e he=>absurd he (by simp)),fun _=>rfl⟩;have I1:=I.laid (a:=s.heap.objs.size) (o:=.own (s.heap.objs.size+1)) (h':=s.heap.push XQ) (t':=s.toks) (fun b u q=>o_ _ q) (t_ _) ⟨_,e1⟩;refine I1.laid (a:=s.heap.objs.size+1) (o:=.ins C s.heap.objs.size []) (t':=s.toks) (fun b u q=>o_ _ q) (acE (Ya _ _)) ?_;have ne:s.heap.objs.size≠s.heap.objs.size+1:=T_ (Y3 _);refine⟨by rw[aw ne,ay],Yb _,ne,e2,fun _=>none,(Heap.Ns1.of_empty e3).at fun o q=>o_ _ q,fun _=>XD,fun y hy=>absurd rfl hy⟩
theorem C4 {prog:K_}{w:World}{env:Env}{e:Expr}{f:Str}{pos:Pos}{s:h_}{Q:Value->h_->Prop} (hb:YZ e f env (eval e env)=eval e env)
  (h:wpAny (model prog w) A (eval e env) (fun o s₁=>wpAny (model prog w) A (getAttr o f true) Q E s₁) E s):wpAny (model prog w) A (eval (.Attribute e f pos) env) Q E s :=
 Attribute_any_ h (by rw[arm_eval_Attribute,hb])
end
def P4 (K:e_) (ta:TE) (f:Str):TE:=fun σ H Q=>ta σ H fun x H1=>∃ a C dx fs v,x=.ref a/\H1 a=some (.ins C dx fs)/\tF K C/\dF K C f/\fs.lookup f=some v/\Q v H1
def P5 (K:e_) (ta tv:TE) (f:Str):TS:=fun D σ H=>tv σ H fun y H1=>ta σ H1 fun x H2=>∃ a C dx fs,x=.ref a/\H2 a=some (.ins C dx fs)/\tF K C/\dF K C f/\fs.length<1000 /\
 D.nx σ (upd H2 a (.ins C dx (fG f y fs)))
section
variable {X:Cx}{o e value:Expr}{f:Str}{pos pos' Lo:Pos}{ta tv:TE}
theorem Gz (he:PE X e ta) (hb:YZ e f X.env (eval e X.env)=eval e X.env):PE X (.Attribute e f pos) (P4 X.K ta f):=by
 intro pins s σ H Q I h;refine C4 hb (aZ (he pins s σ H _ I h) fun u s1 ⟨x,H1,I1,rx,a,C,dx,fs,v,ex,ea,c,n,l,q⟩=>?_);subst ex;obtain rfl:u=Xe a:=rx;exact vK I1 ea c n l fun u' s2 I2 ru=>⟨v,H1,I2,ru,q⟩
theorem GA (ha:PE X o ta) (hv:PE X value tv) (hs:Yf value (some (.Attribute o f pos')) pos.line X.env=pure false):PS X (.Assign [.Attribute o f pos'] value pos) (P5 X.K ta tv f):=by
 intro pins s σ H D I h;refine plainObj_wpAny_Assign_Attribute (aZ (hv pins s σ H _ I h) fun u s1 ⟨y,H1,I1,ry,q⟩=>aZ (ha pins s1 σ H1 _ I1 q) fun ov s2 ⟨x,H2,I2,rx,a,C,dx,fs,ex,ea,c,n,l,q2⟩=>?_) hs;subst ex;obtain rfl:ov=Xe a:=rx;exact vL I2 ea c n l ry fun s3 I3=>⟨σ,_,I3,q2⟩
end
section
variable {X:Cx}{pins:List (Addr×Obj)}{σ:St}{H:Hp}{s:h_}{A:Xw}{E:Value->h_->Prop}{Q:Value->h_->Prop}{c:Value}{b:Bool}
inductive i7 (K:e_) (H:Hp):V->Value->Prop where
 | az:i7 K H .az (.type "NoneType")
 | bl (x:Bool):i7 K H (.bl x) (.type "bool")
 | int (i:Int):i7 K H (.int i) (.type "int")
 | str (x:Str):i7 K H (.str x) (.type "str")
 | FL (x:UInt64):i7 K H (.FL x) (.type "float")
 | lst {a:Addr}{xs:List V} (e:H a=some (.lst xs)):i7 K H (.ref a) (.type "list")
 | du {a:Addr}{o:Obj}{xs:List V} (e:H a=some (.du o (.lst xs))):i7 K H (.ref a) (.type "list")
 | tup {a:Addr}{xs:List V} (e:H a=some (.tup xs)):i7 K H (.ref a) (.type "tuple")
 | dK {a:Addr}{kvs:List (Key×V)} (e:H a=some (.dK kvs)):i7 K H (.ref a) (.type "dict")
 | dT {a:Addr}{kvs:List (List Key×V)} (e:H a=some (.dT kvs)):i7 K H (.ref a) (.type "dict")
 | ins {a C dx:Addr}{fs:List (Str×V)} (e:H a=some (.ins C dx fs)) (cl:tF K C) (ha:Xu K (.ref C) "__class__" = some (some (.builtin "object.__class__")))
   (hn:aaV K (.builtin "object.__class__") "__get__" = some (some (.builtin "getset_descriptor.__get__"))) (Si:PySem.W.takesIn K (.builtin "object.__class__")=some true)
   (hm:PySem.W.mroIn K C (.type "object")=some true):i7 K H (.ref a) (.ref C)
theorem yA {x:V}{u t:Value} (I:Inv X pins σ H s) (rx:RelV x u) (ty:i7 X.K H x t) (e:ZW X.K t c=some b) (h:∀ tk,Q (.bool b) { s with toks:=tk }) :
  wpAny (model X.prog X.w) A (call (.builtin "isinstance") [u,c]) Q E s:=by
 cases ty with
 | az=>cases (show u=Za from rx);exact XI PySem.W.kitx_none I.jx XD e (fun z=>nomatch z) h
 | bl y=>cases (show u=aaC y from rx);exact XI PySem.W.kitx_bool I.jx XD e (fun z=>nomatch z) h
 | int i=>obtain⟨t,q⟩:=(show ∃ t,u=aac i t from rx);cases q;exact XI PySem.W.kitx_int I.jx XD e (fun z=>nomatch z) h
 | str y=>obtain⟨t,q⟩:=(show ∃ t,u=aaB y t from rx);cases q;exact XI PySem.W.kitx_str I.jx XD e (fun z=>nomatch z) h
 | FL y=>obtain⟨t,q⟩:=(show ∃ t,u=ac8 y t from rx);cases q;exact XI PySem.W.kitx_float I.jx XD e (fun z=>nomatch z) h
 | @lst a xs ea =>
  cases (show u=Xe a from rx)
  obtain⟨_,_,n,_,h1⟩:=(show aS X.prog X.w H s.heap a (.lst xs) from I.aY a _ ea);exact XI acF I.jx ⟨_,h1,rfl⟩ e (fun z=>nomatch z) h
 | @du a ob xs ea =>
  cases (show u=Xe a from rx)
  obtain⟨_,_,_,n,_,h1⟩:=(show aS X.prog X.w H s.heap a (.du ob (.lst xs)) from I.aY a _ ea);exact XI acF I.jx ⟨_,h1,rfl⟩ e (fun z=>nomatch z) h
 | @tup a xs ea =>
  cases (show u=Xe a from rx)
  obtain⟨_,_,_,p⟩:=(show aS X.prog X.w H s.heap a (.tup xs) from I.aY a _ ea);obtain⟨o,h1,h2,_⟩:=p;exact XI PySem.W.kitx_tuple I.jx ⟨o,h1,h2⟩ e (fun z=>nomatch z) h
 | @dK a kvs ea =>
  cases (show u=Xe a from rx)
  obtain⟨_,_,vs,_,p⟩:=(show aS X.prog X.w H s.heap a (.dK kvs) from I.aY a _ ea);obtain⟨o,es,ep,h1,h2,_⟩:=p;exact XI acG I.jx ⟨o,h1,h2.1⟩ e (fun z=>nomatch z) h
 | @dT a kvs ea =>
  cases (show u=Xe a from rx)
  obtain⟨_,_,xs,_,o,es,ep,h1,h2,_⟩:=(show aS X.prog X.w H s.heap a (.dT kvs) from I.aY a _ ea);exact XI acG I.jx ⟨o,h1,h2.1⟩ e (fun z=>nomatch z) h
 | @ins a C dx fs ea cl ha hn Si hm =>
  cases (show u=Xe a from rx)
  obtain⟨mA,O,_⟩:=mv I.aY ea;obtain⟨od,J,_⟩:=O.look;exact XI (PySem.W.kitx_own (cl.get _) cl.hd ha hn Si hm) I.jx J e (fun z=>nomatch z) h
end
end L2
namespace L2
open PySem PySem.Spec PyProof.Rows
structure bT (k:Nat) (A:Xw):Prop where
 hd:A.handled=none
 dp:A.depth+3*k+5<abR
 un:A.units+16*k+200<cLine
theorem bT.mono {j k:Nat}{A:Xw} (r:bT k A) (h:j<=k):bT j A:=⟨r.hd,by have:=r.dp;omega,by have:=r.un;omega⟩
theorem bT.deeper {k:Nat}{A:Xw} (r:bT (k+1) A) (env:Env):bT k (A.deeper env) :=
 ⟨r.hd,by have:=r.dp;show A.depth+1+3*k+5<_;omega,by have:=r.un;show A.units+3+16*k+200<_;omega⟩
theorem vM {A:Xw}{C:Addr}{us:List Value}{kw:List (Str×Value)}:(A.under (.builtin "type.__call__" ⟨.ref C::us,kw⟩)).depth=A.depth+1:=by
 first | rfl | simp [acH,Code.weight,Code.isCreation,Code.isGuard,Code.isCaller,Code.frames,acI,guardIds]
theorem vN {A:Xw}{C:Addr}{us:List Value}{kw:List (Str×Value)}:(A.under (.builtin "type.__call__" ⟨.ref C::us,kw⟩)).units=A.units+1:=by
 first | rfl | simp [acH,Code.cUnits,Code.frames,acI]
theorem bT.make {k:Nat}{A:Xw} (r:bT (k+1) A) (C:Addr) (us:List Value) (kw:List (Str×Value)):bT k (A.under (.builtin "type.__call__" ⟨.ref C::us,kw⟩)) :=
 ⟨r.hd,by have:=r.dp;rw[vM];omega,by have:=r.un;rw[vN];omega⟩
theorem bT.depth {k:Nat}{A:Xw} (r:bT k A):A.depth<abR:=by have:=r.dp;omega
theorem bT.units {k:Nat}{A:Xw} (r:bT k A):A.units+64<cLine:=by have:=r.un;omega
def Lp:TA:=fun _ H Q=>Q [] H
def Lq (ta:TE) (tr:TA):TA:=fun σ H Q=>ta σ H fun x H1=>tr σ H1 fun xs H2=>Q (x::xs) H2
section
variable {X:Cx}{e:Expr}{es:List Expr}{te:TE}{t:TA}{pos:Pos}
theorem bh:PA X [] Lp:=fun _ _ _ _ H Q I h=>aaW ⟨[],H,I,.nil,h⟩
theorem aE (ha:PE X e te) (hr:PA X es t) (hs:M_ (e::es) X.env=(false,eval e X.env)::M_ es X.env:=by rfl):PA X (e::es) (Lq te t):=by
 intro pos pins s σ H Q I h;rw[hs];show wpAny _ _ (spliced ((false,eval e X.env)::Yq pos (M_ es X.env))) _ _ s;refine aaG (aZ (ha pins s σ H _ I h) fun u s1 ⟨x,H1,I1,r1,q1⟩=>?_);exact aZ (hr pos pins s1 σ H1 _ I1 q1) fun us s2 ⟨xs,H2,I2,r2,q2⟩=>⟨x::xs,H2,I2,.cons r1 r2,q2⟩
def P6 (t:TA):TE:=fun σ H Q=>t σ H fun xs H1=>xs.length<=sizeLine/\∀ p,H1 p=none->Q (.ref p) (upd H1 p (.tup xs))
def P7 (t:TA):TE:=fun σ H Q=>t σ H fun xs H1=>xs.length<=sizeLine/\∀ p,H1 p=none->Q (.ref p) (upd H1 p (.lst xs))
theorem GF {x1} (h:PA X es t):PE X (.Tuple es x1 pos) (P6 t):=by
 intro pins s σ H Q I hq;refine wpAny_Tuple_spliced (aZ (h pos pins s σ H _ I hq) fun us s1 ⟨xs,H1,I1,r,z,q⟩=>⟨by rw[←r.length];exact z,?_⟩);have hf:H1 s1.heap.objs.size=none:=I1.aY.fresh (t_ _);refine⟨.ref s1.heap.objs.size,upd H1 s1.heap.objs.size (.tup xs),I1.laid (t':=s1.toks) (fun b u e=>o_ _ e) (t_ _) ?_,rfl,q _ hf⟩;exact⟨z,us,r,⟨_,A_ _ rfl,rfl,_,rfl⟩⟩
theorem GG (h:PA X es t):PE X (.List es pos) (P7 t):=by
 intro pins s σ H Q I hq;refine wpAny_List_spliced (aZ (h pos pins s σ H _ I hq) fun us s1 ⟨xs,H1,I1,r,z,q⟩=>⟨by rw[←r.length];exact z,?_⟩);have hf:H1 s1.heap.objs.size=none:=I1.aY.fresh (t_ _);refine⟨.ref s1.heap.objs.size,upd H1 s1.heap.objs.size (.lst xs),I1.laid (t':=s1.toks) (fun b u e=>o_ _ e) (t_ _) ?_,rfl,q _ hf⟩;exact⟨z,us,0,r,A_ _ rfl⟩
end
noncomputable abbrev Sp:=List V->Hp->VK->XK->Prop
noncomputable abbrev vP:=List Env->Hp->h_->XK->Value->h_->Prop
structure tG (P:K_) (w:World) (K:e_) (mg:Str->l_ Value) (base:Heap) (A:Xw) (outer:List Env) (s:h_) (H:Hp):Prop where
 frames:A.frames=some outer
 mod:Mod K mg base
 bs:∀ b o,base.get? b=some o->s.heap.get? b=some o/\H b=none
 zQ:base.objs.size<=s.heap.objs.size
 iP:s.heap.FunFrames base outer
 CP:∀ b∈sX outer,H b=none
 aY:iG P w H s.heap
 bare:aax s.gens
def CE (outer:List Env) (P:K_) (w:World) (H:Hp) (s:h_) (Q:VK) (u:Value) (s':h_):Prop :=
 ∃ v H',s'.os=s.os/\aax s'.gens/\Un (sX outer) [] H H' s.heap s'.heap/\iG P w H' s'.heap/\RelV v u/\Q v H'
def CR (CX:vP) (outer:List Env) (P:K_) (w:World) (H:Hp) (s:h_) (Q:VK) (E:XK) (r:Result) (s':h_):Prop :=
 match r with
 | .ok (.ret u)=>CE outer P w H s Q u s'
 | .ok _=>False
 | .error e=>CX outer H s E e s'
structure bH (P:K_) (w:World) (K:e_) (mg:Str->l_ Value) (base:Heap) (CX:vP) (k:Nat) (f:Addr) (fd:XF) (ps:List Str) (sp:Sp):Prop where
 len:∀ vs H Q E,sp vs H Q E->vs.length=ps.length
 run:∀ (A:Xw) (outer:List Env) (s:h_) (H:Hp) (args:Args) (us:List Value) (vs:List V) (Q:VK) (E:XK),bT k A->tG P w K mg base A outer s H->acJ s fd args (ps.zip us)->Vals vs us->sp vs H Q E ->
  Zt (model P w) A (.call (.ref f) args) (CR CX outer P w H s Q E) s
theorem bH.mono {P:K_}{w:World}{K:e_}{mg:Str->l_ Value}{base:Heap}{CX:vP}{j k:Nat}{f:Addr}{fd:XF}{ps:List Str}{sp:Sp} (F:bH P w K mg base CX j f fd ps sp) (h:j<=k) :
  bH P w K mg base CX k f fd ps sp:=⟨F.len,fun A outer s H args us vs Q E hr=>F.run A outer s H args us vs Q E (hr.mono h)⟩
theorem bH.imp {P:K_}{w:World}{K:e_}{mg:Str->l_ Value}{base:Heap}{CX:vP}{k:Nat}{f:Addr}{fd:XF}{ps:List Str}{sp Sj:Sp} (F:bH P w K mg base CX k f fd ps sp)
  (h:∀ vs H Q E,Sj vs H Q E->sp vs H Q E):bH P w K mg base CX k f fd ps Sj :=
 ⟨fun vs H Q E q=>F.len vs H Q E (h _ _ _ _ q),fun A outer s H args us vs Q E hr he hb hv hs=>F.run A outer s H args us vs Q E hr he hb hv (h _ _ _ _ hs)⟩
theorem tG.make {P:K_}{w:World}{K:e_}{mg:Str->l_ Value}{base:Heap}{A:Xw}{outer:List Env}{s:h_}{H:Hp} (e:tG P w K mg base A outer s H) (C:Addr) (us:List Value) (kw:List (Str×Value)) :
  tG P w K mg base (A.under (.builtin "type.__call__" ⟨.ref C::us,kw⟩)) outer s H:=⟨by first | exact e.frames | (simpa [acH,Code.envs,acI,pushEnvs] using e.frames),e.mod,e.bs,e.zQ,e.iP,e.CP,e.aY,e.bare⟩
section
variable {X:Cx}{pins:List (Addr×Obj)}{σ:St}{H:Hp}{s s':h_}
theorem Inv.GH (I:Inv X pins σ H s):tG X.prog X.w X.K X.mg X.base X.A X.stack s H :=
 ⟨I.ok.frames,I.ok.mod,I.bs,U_ I.ok.zQ I.sz,I.stack,I.xg,I.aY,I.bare⟩
theorem Inv.after {Q:VK}{u:Value} (I:Inv X pins σ H s) (h:CE X.stack X.prog X.w H s Q u s'):EP X pins σ Q u s':=by
 obtain⟨v,H',os,bare,un,aY,r,q⟩:=h;obtain⟨hh,g,d,t,P8⟩:=s';obtain rfl:P8=s.os:=os;exact⟨v,H',I.call (h':=hh) (g':=g) (d':=d) (t':=t) (ch:=[]) un aY bare (fun b z=>absurd z (by simp)),r,q⟩
end
def Ah (sp:Sp) (dvs:List V) (E:XK) (t:TA):TE:=fun σ H Q=>t σ H fun vs H1=>sp (vs++dvs) H1 Q E
def Binds (K:e_) (fd:XF) (ps:List Str) (ds:List Value):Prop :=
 ∀ (s:h_) (us:List Value),K.In s.heap->(us++ds).length=ps.length->acJ s fd ⟨us,[]⟩ (ps.zip (us++ds))
theorem Binds.all {K:e_}{fd:XF}{ps:List Str} (h:∀ us:List Value,us.length=ps.length->acK fd ⟨us,[]⟩=pure (ps.zip us)):Binds K fd ps []:=fun s us _ hl=>by
 rw[Xs] at hl ⊢;exact .of_eq (h us hl)
def Passes (CX:vP) (X:Cx) (E:XK):Prop:=∀ (pins:List (Addr×Obj)) (σ:St) (H:Hp) (s:h_) (e:Value) (s':h_),Inv X pins σ H s->CX X.stack H s E e s'->X.xe e s'
section
variable {X:Cx}{CX:vP}{k:Nat}{f C:Addr}{fd:XF}{ps:List Str}{sp:Sp}{dvs:List V}{ds:List Value}{E:XK}{x m:Str}{p pos apos:Pos}{e o:Expr}{es:List Expr}{ta:TE}{t:TA}
theorem ri {pins:List (Addr×Obj)}{σ:St}{H:Hp}{s:h_}{Q:VK}{us:List Value}{vs:List V} (F:bH X.prog X.w X.K X.mg X.base CX k f fd ps sp) (hr:bT k X.A) (hb:Binds X.K fd ps ds) (hd:Vals dvs ds) (hx:Passes CX X E)
  (I:Inv X pins σ H s) (r:Vals vs us) (h:sp (vs++dvs) H Q E):wpAny (model X.prog X.w) X.A (call (.ref f) us) (EP X pins σ Q) X.xe s:=by
 have r2:Vals (vs++dvs) (us++ds):=r.append hd;have hl:(us++ds).length=ps.length:=by rw[←r2.length];exact F.len _ _ _ _ h
 refine acp (Zu (F.run X.A X.stack s H ⟨us,[]⟩ (us++ds) (vs++dvs) Q E hr I.GH (hb s us I.jx hl) r2 h) fun r s' hq=>?_)
 cases r with
 | error e=>exact hx pins σ H s e s' I hq
 | ok fl =>
  cases fl with
  | ret u=>exact I.after hq
  | next=>exact XN hq
  | brk=>exact XN hq
  | cont=>exact XN hq
theorem xl (F:bH X.prog X.w X.K X.mg X.base CX k f fd ps sp) (hr:bT k X.A) (hg:Gl X x) (hm:X.mg x=some (.ref f)) (hk:Xn X.K (.ref f)=true) (hb:Binds X.K fd ps ds) (hd:Vals dvs ds) (hx:Passes CX X E)
  (ha:PA X (e::es) t) (jJ:(x==("__debug__" : Str))=false:=by decide) (he:M_ (e::es) X.env=(false,eval e X.env)::M_ es X.env:=by rfl) (CA:(Yq pos (M_ es X.env)).any (·.1)=false:=by rfl) :
  PE X (.Call (.Name x p) (e::es) [] pos) (Ah sp dvs E t):=by
 intro pins s σ H Q I h;refine X9 (jF I hg hm ?_ jJ);refine Zc (h₀:=X.base) I.ok.mod.FO hk (aZ (ha pos pins s σ H _ I h) fun us s1 ⟨vs,H1,I1,r,q⟩=>⟨I1.jx,?_⟩) he CA;exact ri F hr hb hd hx I1 r q
structure Mk (K:e_) (C f:Addr):Prop where
 makes:abD K C=true
 init:Xu K (.ref C) "__init__" = some (some (.ref f))
 fn:ZV K (.ref f)=true
 kp:Xn K (.ref C)=true
theorem Ai {pins:List (Addr×Obj)}{σ:St}{H:Hp}{s:h_}{Q:VK}{us:List Value}{vs:List V} (M:Mk X.K C f) (F:bH X.prog X.w X.K X.mg X.base CX k f fd ps sp) (hr:bT (k+1) X.A) (hb:Binds X.K fd ps ds) (hd:Vals dvs ds)
  (hx:Passes CX X E) (I:Inv X pins σ H s) (r:Vals vs us)
  (h:∀ x dx,H x=none->H dx=none->dx≠x->sp (.ref x::(vs++dvs)) (upd (upd H dx (.own x)) x (.ins C dx [])) (fun v H2=>v=.az/\Q (.ref x) H2) E) :
  wpAny (model X.prog X.w) X.A (call (.ref C) us) (EP X pins σ Q) X.xe s:=by
 have hq:=h (s.heap.objs.size+1) s.heap.objs.size (I.aY.fresh (aan _)) (I.aY.fresh (t_ _)) (T_ (Y3 _));have I2:=Inv.made (C:=C) I;have r2:Vals (V.ref (s.heap.objs.size+1)::(vs++dvs)) (Xe (s.heap.objs.size+1)::(us++ds)):=.cons rfl (r.append hd)
 have hl:(Xe (s.heap.objs.size+1)::us++ds).length=ps.length:=by
  have e:=r2.length;rw[F.len _ _ _ _ hq] at e;exact e.symm
 refine acp (Ag (f:=f) I.jx M.makes M.init (YY.mp M.fn) (Zu (F.run _ X.stack _ _ ⟨Xe (s.heap.objs.size+1)::us,[]⟩ (Xe (s.heap.objs.size+1)::(us++ds)) _ _ E (hr.make C us [])
  (I2.GH.make C us []) (hb _ (Xe (s.heap.objs.size+1)::us) I2.jx hl) r2 hq) fun r s' C5=>?_))
 cases r with
 | error e=>exact hx pins σ _ _ e s' I2 C5
 | ok fl =>
  cases fl with
  | ret u =>
   obtain⟨v,H',I3,rv,ev,q3⟩:=I2.after C5;subst ev;exact⟨rv,⟨V.ref (s.heap.objs.size+1),H',I3,rfl,q3⟩⟩
  | next=>exact XN C5
  | brk=>exact XN C5
  | cont=>exact XN C5
end
structure mw (N P:List Str) (sc:Scope):Prop where
 kind:sc.kind=.function
 co:sc.isCoroutine=false
 gen:sc.isGenerator=false
 nd:N.Nodup
 pre:N.take P.length=P
 par:∀ x∈P,sc.names.lookup x=some .local∨sc.names.lookup x=some .cell
 GI:∀ y∈sc.names,y.2≠.free
theorem qj {kindOf:Str->l_ Yn}{x:Str}:∀ {binds:List (Str×Value)}{m:Str->l_ Value},(∀ v,(x,v)∉binds)->bindL kindOf binds m x=m x
 | [],_,_=>rfl
 | (n,v)::r,m,h=>by
  unfold bindL;rw[qj fun w hw=>h w (F_ _ hw)];split
  ·have:x≠n:=by rintro rfl;exact h v Q_
   simp [this]
  ·rfl
theorem qk {kindOf:Str->l_ Yn}{x:Str}:∀ {binds:List (Str×Value)}{m:Str->l_ Value},(∀ v,(x,v)∉binds)->bindC kindOf binds m x=m x
 | [],_,_=>rfl
 | (n,v)::r,m,h=>by
  unfold bindC;rw[qk fun w hw=>h w (F_ _ hw)];split
  ·rfl
  ·have:x≠n:=by rintro rfl;exact h v Q_
   simp [this]
theorem ql {kindOf:Str->l_ Yn}{x:Str}{v:Value}:∀ {P:List Str}{vs:List Value}{i:Nat}{m:Str->l_ Value},P.Nodup->P[i]? = some x->vs[i]? = some v->kindOf x=some .local ->
  bindL kindOf (P.zip vs) m x=some v
 | [],_,_,_,_,h,_,_=>by simp at h
 | _::_,[],_,_,_,_,h,_=>by simp at h
 | p::P,w::vs,0,m,nd,h1,h2,hk=>by
  simp at h1 h2;subst h1;subst h2;show bindL kindOf ((p,w)::P.zip vs) m p=_;unfold bindL;rw[qj fun v hv=>(Zg.mp nd).1 (abE hv).1,s_ hk];simp
 | p::P,w::vs,i+1,m,nd,h1,h2,hk=>by
  show bindL kindOf ((p,w)::P.zip vs) m x=_;unfold bindL;exact ql (i:=i) (Zg.mp nd).2 (by simpa using h1) (by simpa using h2) hk
theorem qm {kindOf:Str->l_ Yn}{x:Str}{v:Value}:∀ {P:List Str}{vs:List Value}{i:Nat}{m:Str->l_ Value},P.Nodup->P[i]? = some x->vs[i]? = some v->kindOf x≠some .local ->
  bindC kindOf (P.zip vs) m x=some v
 | [],_,_,_,_,h,_,_=>by simp at h
 | _::_,[],_,_,_,_,h,_=>by simp at h
 | p::P,w::vs,0,m,nd,h1,h2,hk=>by
  simp at h1 h2;subst h1;subst h2;show bindC kindOf ((p,w)::P.zip vs) m p=_;unfold bindC;rw[qk fun v hv=>(Zg.mp nd).1 (abE hv).1,n_ hk];simp
 | p::P,w::vs,i+1,m,nd,h1,h2,hk=>by
  show bindC kindOf ((p,w)::P.zip vs) m x=_;unfold bindC;exact qm (i:=i) (Zg.mp nd).2 (by simpa using h1) (by simpa using h2) hk
noncomputable def start (N:List Str) (vs:List V):St:=vs.map some++adv (N.length-vs.length) none
noncomputable def vQ (CX:vP) (P:K_) (w:World) (K:e_) (mg:Str->l_ Value) (base:Heap) (N:List Str) (qual:Str) (scope:Scope) (f:Addr) (cd:Value) (A:Xw) (outer:List Env) (s:h_) (H:Hp) (E:XK):Cx where
 prog:=P
 w:=w
 K:=K
 mg:=mg
 base:=base
 A:=A.deeper (abS qual scope s.heap.objs.size f cd)
 N:=N
 s₀:=s
 H₀:=H
 env:=abS qual scope s.heap.objs.size f cd
 outer:=outer
 stack:=abS qual scope s.heap.objs.size f cd::outer
 ex:=[]
 calm:=true
 fn:=fun _=>true
 pn:=[]
 xe:=fun e s'=>wpAny (model P w) (A.deeper (abS qual scope s.heap.objs.size f cd)) (leaving (abS qual scope s.heap.objs.size f cd) e) (fun _ Aj=>CX outer H s E e Aj) (fun e' Aj=>CX outer H s E e' Aj) s'
theorem tH {sc:Scope}{n:Nat}{x:Str} (h:sc.names.lookup x=some .cell):∃ c,(XB n sc.names []).lookup x=some c:=by
 have q:=abr sc.names n [] (.inl h);exact aa1.mp q
theorem yB {CX:vP}{P:K_}{w:World}{K:e_}{mg:Str->l_ Value}{base:Heap}{N ps:List Str}{qual:Str}{scope:Scope}{f:Addr}{cd:Value}{A:Xw}{outer:List Env}{s s1:h_}{H:Hp}{E:XK}{us:List Value}{vs:List V}
  (S:mw N ps scope) (hd:A.handled=none) (e0:tG P w K mg base A outer s H) (hl:vs.length=ps.length) (r:Vals vs us)
  (x:InCallC s s.heap.objs.size (bindL (abS qual scope s.heap.objs.size f cd).kindOf (ps.zip us) fun _=>none) (XB (s.heap.objs.size+1) scope.names []) (bindC (abS qual scope s.heap.objs.size f cd).kindOf (ps.zip us) fun _=>none) s1) :
  Inv (vQ CX P w K mg base N qual scope f cd A outer s H E) [] (start N vs) H s1:=by
 have CA:ps.length<=N.length:=by have:=congrArg List.length S.pre;rw[Xc] at this;omega
 obtain⟨h1,tk,rfl,hk⟩:=x.done;have Lr:∀ b:Addr,b∉(vQ CX P w K mg base N qual scope f cd A outer s H E).ex:=fun b z=>absurd (show b∈([]:List Addr) from z) (by simp)
 refine⟨⟨e0.mod,S.kind,rfl,rfl,t_ _,fun y z c h1 h2=>?_,fun y hy=>?_,fun y c _ h=>?_,fun _=>hd,Around.frames_deeper e0.frames,.inr ⟨rfl,rfl⟩,fun b z=>absurd z (Lr b),e0.bs,e0.zQ,fun b _ _=>Lr b,fun b z=>absurd z (Lr b),e0.iP,e0.CP⟩,
  rfl,e0.bare,Un.kept hk,⟨_,x.toInCall.ns,fun i y v h1 h2 h3=>?_⟩,fun y c h=>⟨_,x.cell y c h⟩,e0.aY.fresh (t_ _),fun y c h=>?_,fun p hp=>absurd (show p∈([]:List (Addr×Obj)) from hp) (by simp),e0.aY.kept hk,?_⟩
 ·exact name_of_addr x.apart (Ye h1) (Ye h2)
 ·have hy:scope.names.lookup y=some .cell∨scope.names.lookup y=some .free:=hy;rcases hy with hy | hy
  ·exact tH hy
  ·exact absurd rfl (S.GI _ (Ye hy))
 ·exact XT (x.above y c (Ye h))
 ·have hi:i<vs.length:=by
   unfold start at h2;by_cases hi:i<vs.length
   ·exact hi
   ·rw[Xj (by simpa using hi)] at h2;rw[aa7] at h2;split at h2<;>cases h2
  have ha:vs[i]? = some v:=by
   unfold start at h2;rw[Xq (by simpa using hi),f_] at h2
   cases e:vs[i]? with
   | none=>rw[e] at h2;cases h2
   | some a=>rw[e] at h2;cases h2;rfl
  obtain⟨u,hu,rv⟩:=r.get ha
  have hp:ps[i]? = some y:=by
   rw[←S.pre,List.getElem?_take_of_lt (by omega)];exact h1
  have Sk:ps.Nodup:=by rw[←S.pre];exact S.nd.sublist (aaX _ _)
  refine⟨u,rv,?_⟩;rcases S.par y (q_ hp) with k | k
  ·exact .inl ⟨k,ql Sk hp hu k⟩
  ·obtain⟨c,e⟩:=tH (n:=s.heap.objs.size+1) k;refine .inr ⟨.inl k,c,e,?_⟩;have q:=x.cell y c e;rw[qm Sk hp hu (by show scope.names.lookup y≠_;rw[k];decide)] at q;exact q
 ·exact e0.aY.fresh (XT (x.above y c (Ye h)))
 ·unfold start;show _=N.length;rw[u_,a_,Z7];omega
theorem Ls {CX:vP}{P:K_}{w:World}{K:e_}{mg:Str->l_ Value}{base:Heap}{k:Nat}{f:Addr}{name qual:Str}{params:ac0}{body:List Stmt}{scope:Scope}{dV kV doc pm i8 ct oc:Value}{an od:l_ Addr}
  {yC:Array (l_ Value)}{N ps:List Str}{sp:Sp} (lk:K.lookup f=some ⟨oc,od,.func (Yr name qual params body scope dV kV doc pm an i8 ct),yC⟩) (jE:Zo K i8 qual=true) (S:mw N ps scope)
  (len:∀ vs H Q E,sp vs H Q E->vs.length=ps.length)
  (Ak:∀ (A:Xw) (outer:List Env) (s:h_) (H:Hp) (vs:List V) (Q:VK) (E:XK),bT k (A.deeper (abS qual scope s.heap.objs.size f i8))->sp vs H Q E ->
   ∃ t,kC (vQ CX P w K mg base N qual scope f i8 A outer s H E) body t/\t { nx:=fun _ H'=>Q .az H',rt:=Q } (start N vs) H) :
  bH P w K mg base CX (k+1) f (Yr name qual params body scope dV kV doc pm an i8 ct) ps sp:=by
 refine⟨len,fun A outer s H args us vs Q E hr e0 hb r CB=>?_⟩;have hl:=len _ _ _ _ CB;have KX:K.In s.heap:=e0.mod.FO.keeps fun b o e=>(e0.bs b o e).1
 have lim:s.heap.NoLimit:=e0.mod.nolimit.keeps fun b o e=>(e0.bs b o e).1
 have Lu:∀ y∈ps.zip us,scope.names.lookup y.1=some .local∨(scope.names.lookup y.1=some .cell/\((XB (s.heap.objs.size+1) scope.names []).lookup y.1).isSome=true):=fun⟨n,v⟩ hy=>by
  rcases S.par n (abE hy).1 with q | q
  ·exact .inl q
  ·exact .inr ⟨q,abr _ _ _ (.inl q)⟩
 refine codeAny_call_function hr.depth (KX _ _ lk) rfl S.co S.gen rfl (PySem.W.codeRec_of KX jE) (hb _ _ _ _ ?_);refine wpAny_newFunctionEnv_cells S.kind Lu fun env he s1 x=>?_
 subst he;refine⟨lim.keeps x.toInCall.keep,codeAny_func ?_⟩;obtain⟨t,ht,hq⟩:=Ak A outer s H vs Q E (hr.deeper _) CB;have I:Inv (vQ CX P w K mg base N qual scope f i8 A outer s H E) [] (start N vs) H s1:=yB S hr.hd e0 hl r x;refine XW (ht [] s1 (start N vs) H _ I hq) (fun fl s' hs=>?_) fun e s' hs=>hs
 have fin:∀ {σ':St}{H':Hp}{v:V}{u:Value},Inv (vQ CX P w K mg base N qual scope f i8 A outer s H E) [] σ' H' s'->RelV v u->Q v H'->CE outer P w H s Q u s' :=
  fun {σ' H' v u} J rv q=>⟨v,H',J.os,J.bare,J.base,J.aY,rv,q⟩
 cases fl with
 | ret u =>
  obtain⟨v,σ',H',J,rv,q⟩:=hs;exact fin J rv q
 | next =>
  obtain⟨σ',H',J,q⟩:=hs;exact fin (v:=V.az) (u:=Za) J rfl q
 | brk =>
  obtain⟨_,_,_,q⟩:=hs;exact XN q
 | cont =>
  obtain⟨_,_,_,q⟩:=hs;exact XN q
end L2
namespace L2
open PySem PySem.Spec PyProof.Rows
section
variable {X:Cx}{x:Str}{p pos:Pos}{e:Expr}{es:List Expr}{t:TA}{id T:ZK}{r:List V->Hp->VK->Prop}
def Sm (r:List V->Hp->VK->Prop) (t:TA):TE:=fun σ H Q=>t σ H fun vs H1=>r vs H1 Q
theorem mX (hc:bj X (.builtin id) r) (hg:Gl X x) (hm:X.mg x=none) (hv:X1 x=some (.builtin id)) (ha:PA X (e::es) t) (hn:x ≠ "__name__" := by decide) (jJ:(x==("__debug__" : Str))=false:=by decide)
  (he:M_ (e::es) X.env=(false,eval e X.env)::M_ es X.env:=by rfl) (CA:(Yq pos (M_ es X.env)).any (·.1)=false:=by rfl):PE X (.Call (.Name x p) (e::es) [] pos) (Sm r t):=by
 intro pins s σ H Q I h;refine X9 (eB I hg hm hv ?_ hn jJ);exact aad (aZ (ha pos pins s σ H _ I h) fun us s1 ⟨vs,H1,I1,r1,q1⟩=>hc pins s1 σ H1 vs us Q I1 r1 q1) he CA
theorem bQ (hc:bj X (.type T) r) (hg:Gl X x) (hm:X.mg x=none) (hv:X1 x=some (.type T)) (ha:PA X (e::es) t) (hn:x ≠ "__name__" := by decide) (jJ:(x==("__debug__" : Str))=false:=by decide)
  (he:M_ (e::es) X.env=(false,eval e X.env)::M_ es X.env:=by rfl) (CA:(Yq pos (M_ es X.env)).any (·.1)=false:=by rfl):PE X (.Call (.Name x p) (e::es) [] pos) (Sm r t):=by
 intro pins s σ H Q I h;refine X9 (eB I hg hm hv ?_ hn jJ);exact Xy (aZ (ha pos pins s σ H _ I h) fun us s1 ⟨vs,H1,I1,r1,q1⟩=>hc pins s1 σ H1 vs us Q I1 r1 q1) he CA
end
end L2
namespace HT
open PySem PyProof.Rows
section
variable {prog:K_}{w:World}{A:Xw}{E:Value->h_->Prop}{s:h_}
noncomputable def mY (n d:Nat):l_ Int->Nat
 | none=>d
 | some v=>if v<0 then (v+(n:Int)).toNat else min v.toNat n
theorem tI (n d:Nat):mY n d none=d:=rfl
theorem iI (n d k:Nat):mY n d (some (k:Int))=min k n:=by
 show (if (k:Int)<0 then ((k:Int)+(n:Int)).toNat else min (k:Int).toNat n)=min k n;rw[n_ (by omega),i_]
end
end HT
namespace L2
open PySem PySem.Spec PyProof.Rows
noncomputable abbrev TO:=St->Hp->(l_ Int->Hp->Prop)->Prop
def PO (X:Cx) (e:l_ Expr) (t:TO):Prop :=
 ∀ (pins:List (Addr×Obj)) (s:h_) (σ:St) (H:Hp) (Q:l_ Int->Hp->Prop),Inv X pins σ H s->t σ H Q ->
  wpAny (model X.prog X.w) X.A (evalPart e X.env) (fun u s'=>∃ o H',Inv X pins σ H' s'/\IsPart u o/\Q o H') X.xe s
def C6:TO:=fun _ H Q=>Q none H
def Lv (t:TE):TO:=fun σ H Q=>t σ H fun x H1=>∃ i,x=.int i/\Q (some i) H1
section
variable {X:Cx}{e:Expr}{te:TE}{lo hi:l_ Expr}{tl th:TO}{pos p2:Pos}
theorem C7:PO X none C6:=by
 intro pins s σ H Q I h;rw[evalPart_none];exact y_ ⟨none,H,I,.none,h⟩
theorem C8 (h:PE X e te):PO X (some e) (Lv te):=by
 intro pins s σ H Q I hw;rw[evalPart_some];refine aZ (h pins s σ H _ I hw) fun u s1 ⟨x,H1,I1,r1,q1⟩=>?_
 obtain⟨i,rfl,q⟩:=q1;obtain⟨t,rfl⟩:=r1;exact⟨some i,H1,I1,.int i t,q⟩
def P9 (X:Cx) (r:V->l_ Int->l_ Int->Hp->VK->Prop):Prop :=
 ∀ (pins:List (Addr×Obj)) (s:h_) (σ:St) (H:Hp) (x:V) (v vl vu:Value) (lo hi:l_ Int) (sl:Addr) (Q:VK),Inv X pins σ H s->RelV x v->s.heap.IsSliceOf sl vl vu .none->IsPart vl lo->IsPart vu hi->r x lo hi H Q ->
  ∃ T id,typeLookup (.type T) "__getitem__" = pure (some (.builtin id))/\s.TypeIs v T/\wpAny (model X.prog X.w) X.A (adp v (.ref sl)) (EP X pins σ Q) X.xe s
def Sn (r:V->l_ Int->l_ Int->Hp->VK->Prop) (te:TE) (tl th:TO):TE:=fun σ H Q=>te σ H fun x H1=>tl σ H1 fun l H2=>th σ H2 fun u H3=>r x l u H3 Q
theorem tJ {r:V->l_ Int->l_ Int->Hp->VK->Prop} (hr:P9 X r) (he:PE X e te) (hl:PO X lo tl) (hu:PO X hi th):PE X (.Subscript e (.Slice lo hi none p2) pos) (Sn r te tl th):=by
 intro pins s σ H Q I h;refine Subscript_ (aZ (he pins s σ H _ I h) fun v s1 ⟨x,H1,I1,r1,q1⟩=>?_);refine wpAny_Slice (aZ (hl pins s1 σ H1 _ I1 q1) fun vl s2 ⟨l,H2,I2,pl,q2⟩=>aZ (hu pins s2 σ H2 _ I2 q2) fun vu s3 ⟨u,H3,I3,pu,q3⟩=>?_);rw[evalPart_none];refine y_ ?_;have I4:Inv X pins σ H3 { s3 with heap:=s3.heap.push { cls:=.type "slice",data:=.fields #[vl,vu,.none] } }:=I3.kept (t':=s3.toks) fun b ob q=>o_ _ q
 obtain⟨T,id,hT,ht,hg⟩:=hr pins { s3 with heap:=s3.heap.push { cls:=.type "slice",data:=.fields #[vl,vu,.none] } } σ H3 x v vl vu l u s3.heap.objs.size Q I4 r1 (Heap.IsSliceOf.new ..) pl pu q3;show wpAny (model X.prog X.w) X.A (acf e (.Slice lo hi none p2) v (.ref s3.heap.objs.size)) (EP X pins σ Q) X.xe { s3 with heap:=s3.heap.push { cls:=.type "slice",data:=.fields #[vl,vu,.none] } };exact tail_any (ops:=[.ref s3.heap.objs.size,v]) ht hT hg (by with_unfolding_all rfl)
noncomputable def tK (xs:List V) (lo hi:l_ Int):List V:=(xs.drop (HT.mY xs.length 0 lo)).take (HT.mY xs.length xs.length hi-HT.mY xs.length 0 lo)
theorem tL (xs:List V) (lo hi:l_ Int):(tK xs lo hi).length<=xs.length:=by
 unfold tK;rw[Xc,XZ];omega
end
end L2
namespace L2
open PySem PySem.Spec PyProof.Rows
noncomputable def CC (n:Nat) (i:Int):l_ Nat:=if 0<=i then (if i<n then some i.toNat else none) else if -(n:Int)<=i then some (i+n).toNat else none
noncomputable def mz {α:Type} (xs:List α) (i:Int):l_ α:=(CC xs.length i).bind fun j=>xs[j]?
theorem C9 {n:Nat}{i:Int}{j:Nat} (h:CC n i=some j):seqIndex? i n=some j/\j<n /\ -(n:Int)<=i/\i<n:=by
 unfold CC at h;by_cases h0:0<=i
 ·rw[s_ h0] at h;by_cases h1:i<n
  ·rw[s_ h1] at h;have e:i.toNat=j:=O_ h;exact⟨by rw[seqIndex_of h0 h1,e],by omega,by omega,h1⟩
  ·rw[n_ h1] at h;cases h
 ·rw[n_ h0] at h;by_cases h1 : -(n:Int)<=i
  ·rw[s_ h1] at h;have e:(i+n).toNat=j:=O_ h;exact⟨by rw[seqIndex_neg (by omega) h1,e],by omega,h1,by omega⟩
  ·rw[n_ h1] at h;cases h
theorem rj {α:Type}{xs:List α}{i:Int}{v:α} (h:mz xs i=some v):∃ j,seqIndex? i xs.length=some j/\xs[j]? = some v/\j<xs.length /\ -(xs.length:Int)<=i/\i<xs.length:=by
 unfold mz at h
 cases e:CC xs.length i with
 | none=>rw[e] at h;cases h
 | some j =>
  rw[e] at h;obtain⟨h1,h2,h3,h4⟩:=C9 e;exact⟨j,h1,h,h2,h3,h4⟩
theorem aP {α:Type}{xs:List α}{j:Nat}{v:α} (h:xs[j]? = some v):mz xs (j:Int)=some v:=by
 have hj:j<xs.length:=(j_.mp h).1
 have e:CC xs.length (j:Int)=some j:=by
  unfold CC;rw[s_ (by omega),s_ (by omega)];simp
 unfold mz;rw[e];exact h
theorem mZ {α:Type} (xs:List α) (v:α):mz (xs++[v]) (-1)=some v:=by
 have hl:(xs++[v]).length=xs.length+1:=by simp
 have e:CC (xs++[v]).length (-1)=some xs.length:=by
  unfold CC;rw[hl,n_ (by decide),s_ (by omega)];congr 1;omega
 unfold mz;rw[e];show (xs++[v])[xs.length]? = some v;simp
def xm (b:Expr):Prop:=∀ o i,abT b false o i=operate [o,i] (adp o i)
def Db (X:Cx) (r:R2):Prop :=
 ∀ (value slice:Expr) (pins:List (Addr×Obj)) (s:h_) (σ:St) (H:Hp) (x y:V) (v u:Value) (Q:VK),Inv X pins σ H s->RelV x v->RelV y u->r x y H Q ->
  abT slice false v u=operate [v,u] (adp v u)->wpAny (model X.prog X.w) X.A (acf value slice v u) (EP X pins σ Q) X.xe s
def T0 (X:Cx) (id:ZK) (r:V->List V->Hp->VK->Prop):Prop :=
 ∀ (pins:List (Addr×Obj)) (s:h_) (σ:St) (H:Hp) (x:V) (xs:List V) (v:Value) (us:List Value) (Q:VK),Inv X pins σ H s->RelV x v->Vals xs us->r x xs H Q ->
  wpAny (model X.prog X.w) X.A (call (.builtin id) (v::us)) (EP X pins σ Q) X.xe s
section
variable {X:Cx}{a b:Expr}{ta tb:TE}{pos:Pos}
theorem Db.or {r r':R2} (h:Db X r) (h':Db X r'):Db X (fun x y H Q=>r x y H Q∨r' x y H Q):=by
 intro value slice pins s σ H x y v u Q I rx ry q hs;rcases q with q | q
 ·exact h value slice pins s σ H x y v u Q I rx ry q hs
 ·exact h' value slice pins s σ H x y v u Q I rx ry q hs
theorem Lw {r:R2} (hr:Db X r) (ha:PE X a ta) (hb:PE X b tb) (hs:xm b):PE X (.Subscript a b pos) (z7 r ta tb):=by
 intro pins s σ H Q I h;exact Subscript_ (Gg ha hb I h fun v u s2 x y H2 I2 rx ry q=>hr a b pins s2 σ H2 x y v u Q I2 rx ry q (hs _ _))
def Lx (K:e_):R2:=fun x y H Q=>∃ p xs i v,x=.ref p/\y=.int i/\cS K H p xs/\mz xs i=some v/\Q v H
def Ly (K:e_):R2:=fun x y H Q=>∃ p xs i v,x=.ref p/\y=.int i/\eC K H p xs/\mz xs i=some v/\Q v H
def Lz:R2:=fun x y H Q=>∃ z i c,x=.str z/\y=.int i/\z.length<=sizeLine/\mz z.cps.toList i=some c/\Q (.str ⟨#[c]⟩) H
theorem Dc:Db X (Lx X.K):=by
 intro value slice pins s σ H x y v u Q I rx ry h hs;obtain⟨p,xs,i,z,rfl,rfl,hq,he,q⟩:=h
 cases rx
 obtain⟨t,rfl⟩:=ry;obtain⟨aj,r,pl,hz⟩:=I.list hq;obtain⟨j,h1,h2,h3,h4,h5⟩:=rj he;obtain⟨w,ew,Qa⟩:=r.get h2;have hl:=r.length;have hn:=kE;have fin:EP X pins σ Q w s:=⟨z,H,I,Qa,q⟩;by_cases h0:0<=i
 ·have hj:i.toNat=j:=by
   rw[seqIndex_of h0 h5] at h1;exact O_ h1
  exact item_listR pl.isList h0 (by omega) (by rw[hj];simpa using ew) fin hs
 ·have hj:(i+(aj.toArray.size:Int)).toNat=j:=by
   rw[seqIndex_neg (by omega) h4] at h1;rw[I_,←hl];exact O_ h1
  exact abt (x:=w) pl.isList.typeIs slot_list_getitem.lookup
   (wpAny_getItem_list_neg (Q:=fun r s'=>r=w/\EP X pins σ Q r s') pl.isList (by omega) (by rw[I_]<;>omega) (by omega) (by rw[hj];simpa using ew) ⟨rfl,fin⟩) hs
theorem Al:Db X (Ly X.K):=by
 intro value slice pins s σ H x y v u Q I rx ry h hs;obtain⟨p,xs,i,z,rfl,rfl,hq,he,q⟩:=h
 cases rx
 obtain⟨t,rfl⟩:=ry;obtain⟨aj,r,pl,hz⟩:=I.tuple hq;obtain⟨j,h1,h2,h3,h4,h5⟩:=rj he;obtain⟨w,ew,Qa⟩:=r.get h2;have hl:=r.length;have hn:=kE;have fin:EP X pins σ Q w s:=⟨z,H,I,Qa,q⟩
 exact abt (x:=w) pl.typeIs slot_tuple_getitem.lookup
  (getItem_tuple (j:=j) (Q:=fun r s'=>r=w/\EP X pins σ Q r s') pl (by omega) (by omega) (by rw[I_,←hl];exact h1) (by simpa using ew) ⟨rfl,fin⟩) hs
theorem GJ:Db X Lz:=by
 intro value slice pins s σ H x y v u Q I rx ry h hs;obtain⟨z,i,c,rfl,rfl,hz,he,q⟩:=h;obtain⟨t,rfl⟩:=rx;obtain⟨t',rfl⟩:=ry;obtain⟨j,h1,h2,h3,h4,h5⟩:=rj he;have hl:z.cps.toList.length=z.length:=by simp [acq]
 rw[hl] at h1 h4 h5;have hn:=kE
 exact tail_any (typeIs_str s z t) slot_str_getitem.lookup (getItem_str (c:=c) (by
  have e1:decide (i < -(2 ^ 63:Int))=false:=d_ (by omega);have e2:decide (i>=2 ^ 63)=false:=d_ (by omega);rw[e1,e2,Bool.or_false]) (by rw[h1];simpa using h2) ⟨.str ⟨#[c]⟩,H,I.tok _,⟨_,rfl⟩,q⟩) hs
def Qb (K:e_):R2:=fun x y H Q=>Lx K x y H Q∨Ly K x y H Q∨Lz x y H Q
theorem GK:Db X (Qb X.K):=Dc.or (Al.or GJ)
theorem rn (lo hi:l_ Int) (n:Nat):(ZO lo hi none n).1=((HT.mY n 0 lo:Nat):Int)/\(ZO lo hi none n).2.1=((HT.mY n n hi:Nat):Int)/\(ZO lo hi none n).2.2=1:=by
 refine⟨?_,?_,rfl⟩
 ·cases lo with
  | none=>simp [ZO,HT.mY]
  | some i =>
   simp only[ZO,HT.mY,aa8,show (1:Int)>0 by decide,aak];by_cases h:i<0
   ·simp only[h,aak]<;>omega
   ·simp only[h,if_false]<;>omega
 ·cases hi with
  | none=>simp [ZO,HT.mY]
  | some i =>
   simp only[ZO,HT.mY,aa8,show (1:Int)>0 by decide,aak];by_cases h:i<0
   ·simp only[h,aak]<;>omega
   ·simp only[h,if_false]<;>omega
theorem pd (aj:List Value) (lo hi:l_ Int):slicePick aj.toArray lo hi none=((aj.drop (HT.mY aj.length 0 lo)).take (HT.mY aj.length aj.length hi-HT.mY aj.length 0 lo)).toArray:=by
 obtain⟨h1,h2,h3⟩:=rn lo hi aj.toArray.size;unfold slicePick;rw[h1,h2,h3];simp only[sliceRange_one,pick_run,I_]<;>rfl
def Qc (K:e_):V->l_ Int->l_ Int->Hp->VK->Prop:=fun x lo hi H Q=>∃ a xs,x=.ref a/\cS K H a xs/\∀ p,H p=none->Q (.ref p) (upd H p (.lst (tK xs lo hi)))
theorem Dd:P9 X (Qc X.K):=by
 intro pins s σ H x v vl vu lo hi sl Q I rx hs pl pu h;obtain⟨a,xs,rfl,hx,q⟩:=h
 cases rx
 obtain⟨aj,r,ht,hz⟩:=I.list hx;have hlen:=r.length;refine⟨"list",_,slot_list_getitem.lookup,ht.isList.typeIs,?_⟩;refine wpAny_getItem_list_slice ht.isList hs pl pu .none (by simp) ?_ (by rw[I_]<;>omega);rw[pd,←hlen];refine⟨.ref s.heap.objs.size,_,I.laid (t':=s.toks) (o:=.lst (tK xs lo hi)) (fun b ob q=>o_ _ q) (t_ _) ?_,rfl,q _ (I.aY.fresh (t_ _))⟩;exact⟨U_ (tL xs lo hi) hz,_,0,(r.drop (HT.mY xs.length 0 lo)).take (HT.mY xs.length xs.length hi-HT.mY xs.length 0 lo),A_ _ rfl⟩
noncomputable def d8:V->Bool
 | .az=>true
 | .bl _=>true
 | .int _=>true
 | .str _=>true
 | _=>false
noncomputable def yD:V->V->Bool
 | .az,.az=>true
 | .bl a,.bl b=>a==b
 | .bl a,.int b=>(if a then 1 else 0)==b
 | .int a,.bl b=>a==(if b then 1 else 0)
 | .int a,.int b=>a==b
 | .str a,.str b=>a==b
 | _,_=>false
theorem GL {A:Xw}{s:h_}{y x:V}{u v:Value} (ry:RelV y u) (rx:RelV x v) (fy:d8 y=true) (fx:d8 x=true):SeqAt.EqAt A s u v (yD y x):=by
 cases y with
 | az =>
  cases ry
  cases x with
  | az=>cases rx;exact SeqAt.EqAt.same _
  | bl b=>cases rx;exact SeqAt.EqAt.none_bool b
  | int b=>obtain⟨t,rfl⟩:=rx;exact SeqAt.EqAt.none_int b t
  | str b=>obtain⟨t,rfl⟩:=rx;exact SeqAt.EqAt.none_str b t
  | _=>exact absurd (show false=true from fx) r_
 | bl a =>
  cases ry
  cases x with
  | az=>cases rx;exact SeqAt.EqAt.bool_none a
  | bl b=>cases rx;exact SeqAt.EqAt.bool_bool a b
  | int b=>obtain⟨t,rfl⟩:=rx;exact SeqAt.EqAt.bool_int a b t
  | str b=>obtain⟨t,rfl⟩:=rx;exact SeqAt.EqAt.bool_str a b t
  | _=>exact absurd (show false=true from fx) r_
 | int a =>
  obtain⟨t',rfl⟩:=ry
  cases x with
  | az=>cases rx;exact SeqAt.EqAt.int_none a t'
  | bl b=>cases rx;exact SeqAt.EqAt.int_bool a t' b
  | int b=>obtain⟨t,rfl⟩:=rx;exact SeqAt.EqAt.int_int a t' b t
  | str b=>obtain⟨t,rfl⟩:=rx;exact acl a t' b t
  | _=>exact absurd (show false=true from fx) r_
 | str a =>
  obtain⟨t',rfl⟩:=ry
  cases x with
  | az=>cases rx;exact SeqAt.EqAt.str_none a t'
  | bl b=>cases rx;exact SeqAt.EqAt.str_bool a t' b
  | int b=>obtain⟨t,rfl⟩:=rx;exact acm a t' b t
  | str b=>obtain⟨t,rfl⟩:=rx;exact SeqAt.EqAt.str_str a t' b t
  | _=>exact absurd (show false=true from fx) r_
 | _=>exact absurd (show false=true from fy) r_
noncomputable def tM (x:V) (u:Value):Bool:=match u with
 | .none=>yD .az x
 | .bool b=>yD (.bl b) x
 | .int i _=>yD (.int i) x
 | .str z _=>yD (.str z) x
 | _=>false
theorem vR {x y:V}{u:Value} (r:RelV y u) (f:d8 y=true):tM x u=yD y x:=by
 cases y with
 | az=>cases r;rfl
 | bl b=>cases r;rfl
 | int i=>obtain⟨t,rfl⟩:=r;rfl
 | str z=>obtain⟨t,rfl⟩:=r;rfl
 | _=>exact absurd (show false=true from f) r_
theorem jK {x:V}:∀ {xs:List V}{us:List Value},Vals xs us->xs.all d8=true->us.any (tM x)=xs.any fun y=>yD y x
 | _,_,.nil,_=>rfl
 | y::xs,u::us,.cons r t,f=>by
  rw[Xx,G_] at f;rw[Zj,Zj,vR r f.1,jK t f.2]
theorem fb {A:Xw}{s:h_}{x:V}{v:Value} (rx:RelV x v) (fx:d8 x=true):∀ {xs:List V}{us:List Value},Vals xs us->xs.all d8=true->∀ u∈us,SeqAt.EqAt A s u v (tM x u)
 | _,_,.nil,_=>fun u hu=>by cases hu
 | y::xs,u::us,.cons r t,f=>fun u' hu=>by
  rw[Xx,G_] at f;rcases w_.mp hu with rfl | hu
  ·rw[vR r f.1];exact GL r rx f.1 fx
  ·exact fb rx fx t f.2 u' hu
noncomputable def O1 (x:V) (xs:List V):Bool:=xs.any fun y=>yD y x
def O2 (K:e_) (neg:Bool):R2:=fun x y H Q=>∃ p xs,y=.ref p/\(cS K H p xs∨eC K H p xs)/\d8 x=true/\xs.all d8=true/\Q (.bl (if neg then !O1 x xs else O1 x xs)) H
theorem yE:eD X (Xl .In) (O2 X.K false):=by
 intro pins s σ H x y v u Q I rx ry h;obtain⟨p,xs,rfl,hq,fx,fs,q⟩:=h
 cases ry
 rcases hq with hq | hq
 ·obtain⟨aj,r,pl,hz⟩:=I.list hq;refine adb (tM x) pl.isList (fun w hw=>fb rx fx r fs w (by simpa using hw)) ⟨.bl _,H,I,rfl,?_⟩;rw[show aj.toArray.any (tM x)=aj.any (tM x) by simp,jK r fs];exact q
 ·obtain⟨aj,r,pl,hz⟩:=I.tuple hq;refine SeqAt.in_tupleAt (tM x) pl (fun w hw=>fb rx fx r fs w (by simpa using hw)) ⟨.bl _,H,I,rfl,?_⟩;rw[show aj.toArray.any (tM x)=aj.any (tM x) by simp,jK r fs];exact q
theorem rz:eD X (Xl .NotIn) (O2 X.K true):=by
 intro pins s σ H x y v u Q I rx ry h;obtain⟨p,xs,rfl,hq,fx,fs,q⟩:=h
 cases ry
 rcases hq with hq | hq
 ·obtain⟨aj,r,pl,hz⟩:=I.list hq;refine acr (tM x) pl.isList (fun w hw=>fb rx fx r fs w (by simpa using hw)) ⟨.bl _,H,I,rfl,?_⟩;rw[show aj.toArray.any (tM x)=aj.any (tM x) by simp,jK r fs];exact q
 ·obtain⟨aj,r,pl,hz⟩:=I.tuple hq;refine SeqAt.notIn_tupleAt (tM x) pl (fun w hw=>fb rx fx r fs w (by simpa using hw)) ⟨.bl _,H,I,rfl,?_⟩;rw[show aj.toArray.any (tM x)=aj.any (tM x) by simp,jK r fs];exact q
theorem rA:bj X (.builtin "len") (fun xs H Q=>∃ p ys,xs=[.ref p]/\(cS X.K H p ys∨eC X.K H p ys)/\Q (.int ys.length) H):=by
 intro pins s σ H xs us Q I r h;obtain⟨p,ys,rfl,hq,q⟩:=h;obtain⟨u,rfl,rx⟩:=vals1 r
 cases rx
 have hn:=kE;rcases hq with hq | hq
 ·obtain⟨aj,r',pl,hz⟩:=I.list hq;have hlen:=r'.length;exact Calls.call_len_list pl.isList (by simp only[I_]<;>omega) ⟨.int ys.length,H,I.tok _,⟨s.toks+1,by rw[I_,hlen]⟩,q⟩
 ·obtain⟨aj,r',pl,hz⟩:=I.tuple hq;have hlen:=r'.length;exact len_tuple pl (by simp only[I_]<;>omega) ⟨.int ys.length,H,I.tok _,⟨s.toks+1,by rw[I_,hlen]⟩,q⟩
theorem rB:bj X (.builtin "len") (fun xs H Q=>∃ z,xs=[.str z]/\z.length<=sizeLine/\Q (.int z.length) H):=by
 intro pins s σ H xs us Q I r h;obtain⟨z,rfl,hz,q⟩:=h;obtain⟨u,rfl,t,rfl⟩:=vals1 r;have hn:=kE;exact len_str (by omega) ⟨.int z.length,H,I.tok _,⟨_,rfl⟩,q⟩
theorem bj.or {f:Value}{r r':List V->Hp->VK->Prop} (h:bj X f r) (h':bj X f r'):bj X f (fun xs H Q=>r xs H Q∨r' xs H Q):=by
 intro pins s σ H xs us Q I rs q;rcases q with q | q
 ·exact h pins s σ H xs us Q I rs q
 ·exact h' pins s σ H xs us Q I rs q
theorem rC:bj X (.type "list") (fun xs H Q=>∃ p ys,xs=[.ref p]/\(cS X.K H p ys∨eC X.K H p ys)/\∀ l,H l=none->Q (.ref l) (upd H l (.lst ys))):=by
 intro pins s σ H xs us Q I r h;obtain⟨p,ys,rfl,hq,q⟩:=h;obtain⟨u,rfl,rx⟩:=vals1 r
 cases rx
 have fin:∀ (aj:List Value),Vals ys aj->ys.length<=sizeLine->∀ (h':Heap) (c':Nat),(∀ b o',s.heap.get? b=some o'->h'.get? b=some o') ->
   h'.get? s.heap.objs.size=some { cls:=.type "list",dict:=none,data:=.seq aj.toArray c',slots:=#[] }->EP X pins σ Q (.ref s.heap.objs.size) { s with heap:=h' }:=fun aj r' hz h' c' kp e =>
  ⟨.ref s.heap.objs.size,_,I.laid (t':=s.toks) kp (t_ _) (show aS X.prog X.w _ h' _ (.lst ys) from ⟨hz,aj,c',r',e⟩),rfl,q _ (I.aY.fresh (t_ _))⟩
 rcases hq with hq | hq
 ·obtain⟨aj,r',pl,hz⟩:=I.list hq;have hlen:=r'.length;obtain⟨o,ho,hc,n,hd⟩:=pl.isList;exact call_list_seq p (.inl rfl) ho hc hd (fun h' c' kp e=>fin aj r' hz h' c' kp e) (by simp only[I_]<;>omega)
 ·obtain⟨aj,r',pl,hz⟩:=I.tuple hq;have hlen:=r'.length;obtain⟨o,ho,hc,n,hd⟩:=pl;exact call_list_seq p (.inr rfl) ho hc hd (fun h' c' kp e=>fin aj r' hz h' c' kp e) (by simp only[I_]<;>omega)
theorem pe:bj X (.type "tuple") (fun xs H Q=>∃ p ys,xs=[.ref p]/\((cS X.K H p ys/\∀ l,H l=none->Q (.ref l) (upd H l (.tup ys)))∨(eC X.K H p ys/\Q (.ref p) H))):=by
 intro pins s σ H xs us Q I r h;obtain⟨p,ys,rfl,h⟩:=h;obtain⟨u,rfl,rx⟩:=vals1 r
 cases rx
 rcases h with ⟨hq,q⟩ | ⟨hq,q⟩
 ·obtain⟨aj,r',pl,hz⟩:=I.list hq;have hlen:=r'.length;refine call_tuple_list pl.isList (fun h' kp=>?_) (by simp only[I_]<;>omega);have I1:Inv X pins σ H { s with heap:=h' }:=I.kept (t':=s.toks) kp
  have I2:Inv X pins σ (upd H h'.objs.size (.tup ys)) { s with heap:=h'.push { cls:=.type "tuple",data:=.seq aj.toArray } } :=
   I1.laid (t':=s.toks) (fun b o e=>o_ _ e) (t_ _) (show aS X.prog X.w _ _ _ (.tup ys) from ⟨hz,aj,r',IsTup.new _ _⟩)
  exact⟨.ref h'.objs.size,_,I2,rfl,q _ (I1.aY.fresh (t_ _))⟩
 ·obtain⟨aj,r',pl,hz⟩:=I.tuple hq;exact call_tuple_same pl ⟨.ref p,H,I,rfl,q⟩
def Qd (K:e_) (T:ZK) (x:V) (H:Hp):Prop:=match x with
 | .str _=>T = "str"
 | .int _=>T = "int"
 | .ref p=>(T = "list" /\ ∃ xs,cS K H p xs)∨(T = "tuple" /\ ∃ o,K.lookup p=some o/\o.cls=.type "tuple" /\ o.dict=none) ∨
   (T = "dict" /\ ((∃ kvs,H p=some (.dK kvs))∨∃ kvs,H p=some (.dT kvs)))∨(T = "set" /\ ∃ S n,H p=some (.set S n))
 | _=>False
theorem GN {pins:List (Addr×Obj)}{σ:St}{H:Hp}{s:h_}{T:ZK}{x:V}{v:Value} (I:Inv X pins σ H s) (r:RelV x v) (ty:Qd X.K T x H) :
  s.TypeIs v T/\∀ a,v=.ref a->∃ ob,s.heap.get? a=some ob/\ob.dict=none:=by
 cases x with
 | str z =>
  obtain⟨t,rfl⟩:=r
  cases (show T = "str" from ty)
  exact⟨typeIs_str s z t,fun _ e=>nomatch e⟩
 | int i =>
  obtain⟨t,rfl⟩:=r
  cases (show T = "int" from ty)
  exact⟨typeIs_int s i t,fun _ e=>nomatch e⟩
 | ref p =>
  cases r
  rcases ty with ⟨rfl,xs,hq⟩ | ⟨rfl,o,hk,hc,hd⟩ | ⟨rfl,hk⟩ | ⟨rfl,S,n,hk⟩
  ·obtain⟨aj,_,pl,_⟩:=I.list hq;refine⟨pl.isList.typeIs,fun a e=>?_⟩
   cases e
   obtain⟨o,n,e,c,hd,_⟩:=pl;exact⟨o,e,hd⟩
  ·refine⟨⟨o,I.jx p o hk,hc⟩,fun a e=>?_⟩
   cases e
   exact⟨o,I.jx _ o hk,hd⟩
  ·have z:∃ o,s.heap.get? p=some o/\o.ExactDict:=by
    rcases hk with ⟨kvs,hk⟩ | ⟨kvs,hk⟩
    ·obtain⟨_,_,_,_,o,_,_,e,ex,_⟩:=I.aY p _ hk;exact⟨o,e,ex⟩
    ·obtain⟨_,_,_,_,o,_,_,e,ex,_⟩:=I.aY p _ hk;exact⟨o,e,ex⟩
   obtain⟨o,e,ex⟩:=z;refine⟨⟨o,e,ex.1⟩,fun a e2=>?_⟩
   cases e2
   exact⟨o,e,ex.2.1⟩
  ·obtain⟨o,_,_,_,e,ex,_⟩:=I.aY p _ hk;refine⟨⟨o,e,ex.1⟩,fun a e2=>?_⟩
   cases e2
   exact⟨o,e,ex.2.1⟩
 | _=>exact XN ty
def T1 (K:e_) (T:ZK) (r:V->List V->Hp->VK->Prop) (to:TE) (t:TA):TE:=fun σ H Q=>to σ H fun x H1=>Qd K T x H1/\t σ H1 fun xs H2=>r x xs H2 Q
variable {o e:Expr}{es:List Expr}{to:TE}{t:TA}{name:Str}{apos bC:Pos}{T id:ZK}{r:V->List V->Hp->VK->Prop}
theorem Am (pa:PlainAttrs T) (slot:Slot T name id) (T3:typeOf (.builtin id)=pure (.type "method_descriptor")) (hm:T0 X id r) (ho:PE X o to) (ha:PA X (e::es) t)
  (m4:YZ o name X.env (eval o X.env)=eval o X.env:=by rfl)
  (GO:((Yq bC (M_ (e::es) X.env)).all (fun x => !x.1)&&(aaH bC (Zp [] X.env)).all (fun x=>x.1.isSome)
   && decide ((e::es).length+([]:List aal).length+(if ([]:List aal).isEmpty then 0 else 1)<30))=true:=by rfl)
  (bK:(apos.endLine==bC.line)=true:=by rfl) (hs:M_ (e::es) X.env=(false,eval e X.env)::M_ es X.env:=by rfl) (vS:(Yq bC (M_ es X.env)).any (·.1)=false:=by rfl) :
  PE X (.Call (.Attribute o name apos) (e::es) [] bC) (T1 X.K T r to t):=by
 intro pins s σ H Q I h;refine abu m4 GO bK rfl (aZ (ho pins s σ H _ I h) fun v s1 ⟨x,H1,I1,r1,ty,q1⟩=>?_);obtain⟨h1,h2⟩:=GN I1 r1 ty;refine⟨T,id,pa,slot,T3,h1,h2,?_⟩;have hA:=ha bC pins s1 σ H1 _ I1 q1;rw[hs] at hA ⊢;refine abv (by show (false||(Yq bC (M_ es X.env)).any (·.1))=false;rw[vS]<;>rfl) (abU ?_);exact aZ hA fun us s2 ⟨vs,H2,I2,r2,q2⟩=>hm pins s2 σ H2 x vs v us Q I2 r1 r2 q2
end
end L2
namespace L2
open PySem PySem.Spec PyProof.Rows
def Qe (X:Cx) (id:ZK) (r:V->List V->Hp->VK->Prop):Prop :=
 ∀ (pins:List (Addr×Obj)) (s:h_) (σ:St) (H:Hp) (x:V) (xs:List V) (v:Value) (us:List Value) (Q:VK),Inv X pins σ H s->RelV x v->Vals xs us->r x xs H Q ->
  wpAny (model X.prog X.w) X.A (call (.builtin id) (v::us)) (EP X pins σ Q) X.xe s
theorem Vals.one:∀ {x:V}{us:List Value},Vals [x] us->∃ u,us=[u]/\RelV x u
 | _,_,.cons r .nil=>⟨_,rfl,r⟩
section
variable {X:Cx}{pins:List (Addr×Obj)}{σ:St}{H:Hp}{s:h_}{l b:Addr}{xs ys zs:List V}
theorem Inv.LA {aj its':List Value}{n:Nat}{f:Array Value->Array Value}{t':Nat} (I:Inv X pins σ H s) (hH:H l=some (.lst xs))
  (e:s.heap.get? l=some { cls:=.type "list",data:=.seq aj.toArray n }) (hf:f aj.toArray=its'.toArray) (hv:Vals ys its') (hz:ys.length<=sizeLine) :
  Inv X pins σ (upd H l (.lst ys)) { s with heap:=s.heap.update l (Obj.mapSeq f),toks:=t' }:=by
 have q:=PySem.IsL.update e f;rw[hf] at q;refine I.write (x:=l) (e:=l) (by rw[hH];exact trivial) (.inl rfl) (fun b' u hb hu=>(Heap.get?_update_other s.heap (Obj.mapSeq f) (YE hb)).trans hu) ⟨_,q⟩ ?_;exact⟨hz,its',_,hv,q⟩
theorem Inv.Qf {aj:List Value}{t':Nat} (I:Inv X pins σ H s) (hv:Vals ys aj) (hz:ys.length<=sizeLine) :
  Inv X pins σ (upd H s.heap.objs.size (.lst ys)) { s with heap:=s.heap.push { cls:=.type "list",data:=.seq aj.toArray },toks:=t' } :=
 I.laid (fun _ _ q=>o_ _ q) (t_ _) ⟨hz,aj,0,hv,A_ _ rfl⟩
theorem Inv.fresh (I:Inv X pins σ H s):H s.heap.objs.size=none:=I.aY.fresh (t_ _)
theorem Inv.An (I:Inv X pins σ H s) (hH:H l=some (.lst xs)):xs.length<=sizeLine/\∃ (aj:List Value) (n:Nat),Vals xs aj/\xs.length=aj.length/\s.heap.get? l=some { cls:=.type "list",data:=.seq aj.toArray n }:=by
 obtain⟨z,aj,n,r,e⟩:=I.aY l _ hH;exact⟨z,aj,n,r,r.length,e⟩
theorem Ao {n:Nat} (h:n<=sizeLine):ZC n=false:=by
 unfold ZC;exact d_ (by omega)
end
section
variable {X:Cx}
def De:V->List V->Hp->VK->Prop:=fun x vs H Q=>∃ l xs y,x=.ref l/\vs=[y]/\H l=some (.lst xs)/\xs.length<sizeLine/\Q .az (upd H l (.lst (xs++[y])))
theorem qo:Qe X "list.append" De:=by
 intro pins s σ H x vs v us Q I rx rv h;obtain⟨l,xs,y,rfl,rfl,hH,hz,q⟩:=h
 cases rx
 obtain⟨u,rfl,ru⟩:=rv.one;obtain⟨z,aj,n,r,hl,e⟩:=I.An hH;refine acs Z6 ⟨_,e,rfl⟩ F.entry_list_append (F.args_list_append_2 _ _) (PySem.list_append l aj.toArray n u (by rw[I_];omega)) ⟨e,?_⟩;refine⟨.az,_,I.LA (its':=aj++[u]) hH e (by simp) (r.append (.cons ru .nil)) ?_,rfl,q⟩;rw[u_,R_];omega
def Dg:V->List V->Hp->VK->Prop:=fun x vs H Q=>∃ l b xs zs,x=.ref l/\vs=[.ref b]/\H l=some (.lst xs)/\H b=some (.lst zs)/\xs.length+zs.length<=sizeLine/\Q .az (upd H l (.lst (xs++zs)))
theorem yF:Qe X "list.extend" Dg:=by
 intro pins s σ H x vs v us Q I rx rv h;obtain⟨l,b,xs,zs,rfl,rfl,hH,hB,hz,q⟩:=h
 cases rx
 obtain⟨u,rfl,ru⟩:=rv.one
 cases ru
 obtain⟨z,aj,n,r,hl,e⟩:=I.An hH;obtain⟨z2,vT,n2,r2,Dh,e2⟩:=I.An hB;have hsz:aj.toArray.size+vT.toArray.size<=sizeLine:=by rw[I_,I_];omega
 have LB:¬ (!aj.toArray.isEmpty&&ZC (aj.toArray.size+vT.toArray.size))=true:=by
  rw[Ao hsz,Bool.and_false];exact r_
 refine acs abO ⟨_,e,rfl⟩ F.entry_list_extend (F.args_list_extend_2 _ _)
  (AutoSeq1.list_extend_list_list_0 l aj.toArray n b vT.toArray n2 LB (by rw[I_];omega) (by omega)) ⟨e,e2,?_⟩
 refine⟨.az,_,I.LA (its':=aj++vT) hH e (by simp) (r.append r2) ?_,rfl,q⟩;rw[u_];omega
def Qg:R2:=fun x y H Q=>∃ l b xs zs,x=.ref l/\y=.ref b/\H l=some (.lst xs)/\H b=some (.lst zs)/\xs.length+zs.length<=sizeLine/\∀ p,H p=none->Q (.ref p) (upd H p (.lst (xs++zs)))
theorem GP:eD X (ZB .Add) Qg:=by
 intro pins s σ H x y v u Q I rx ry h;obtain⟨l,b,xs,zs,rfl,rfl,hH,hB,hz,q⟩:=h
 cases rx
 cases ry
 obtain⟨z,aj,n,r,hl,e⟩:=I.An hH;obtain⟨z2,vT,n2,r2,Dh,e2⟩:=I.An hB;refine PySem.P.add_list e e2 ?_ (by rw[I_,I_];omega);have ea:aj.toArray++vT.toArray=(aj++vT).toArray:=by simp
 rw[ea];exact⟨.ref _,_,I.Qf (t':=s.toks) (r.append r2) (by rw[u_];omega),rfl,q _ I.fresh⟩
end
end L2
namespace Att
open PySem PySem.W PySem.Calls PyProof.Rows
theorem lQ {P:Params}{h:Heap}:∀ (ns:List Int) (vs:List Value),WellAll P h vs (ns.map WData.int)->adq vs ns:=by
 intro ns
 induction ns with
 | nil =>
  intro vs w;rw[X2] at w
  cases w
  exact .nil
 | cons n ns ih =>
  intro vs w;rw[p_] at w
  cases w with
  | cons a b =>
   cases a
   exact .cons _ _ (ih _ b)
theorem yG {l:OpenLaw}{n:Nat} (hn:l.most=some n) {P:Params}{h:Heap}{args:List WData}{vals:List Value}
  (ph:l.row.toRowW.claim.pre args=true) (Qh:WellAll P h vals args) :
  ∃ a vs ns,vals=[Xe a]/\args=[WData.list (ns.map WData.int)]/\h.get? a=some { cls:=.type "list",data:=.seq vs.toArray }/\adq vs ns/\ns.length<=n:=by
 have T4:WShape.hasAll [] args [.list .int]=true:=(pre_splitW ph).1;have hc:l.pre.holds [] { args:=args }=true:=(pre_splitW ph).2;obtain⟨d,r,rfl,h1,h2⟩:=hasAllW_cons T4;obtain rfl:=hasAllW_nil h2;obtain⟨xs,rfl,h3⟩:=hasW_list h1;obtain⟨ns,rfl⟩:=items_int h3
 have hlen:ns.length<=n:=by
  unfold OpenLaw.pre at hc
  have h4:(WTm.not (.lt (.lit (.int (n:Int))) (.len (.arg 0)))).holds [] { args:=[.list (ns.map .int)] }=true:=by
   have h4:=(holds_andW hc).1;rw[hn] at h4;exact h4
  have h5:=condW_of h4 (w_not (w_lt w_lit (w_len_list (w_arg rfl))));rw[a_] at h5;refine Nat.le_of_not_lt fun q=>?_
  have q':(n:Int)<((ns.length:Nat):Int):=by omega
  first
   | (rw[c_ q'] at h5;exact absurd h5 (by decide))
   | (simp at h5;omega)
 cases Qh with
 | cons w1 w2 =>
  cases w2
  cases w1 with
  | list ho Qi=>exact⟨_,_,ns,rfl,rfl,ho,lQ ns _ Qi,hlen⟩
theorem yH (l:OpenLaw) (args:List WData):l.row.toRowW.claim.post args (.bool true) args=true :=
 postW_of (r:=l.row.toRowW) (X:=(true==true))
  (show WShape.has [] (.bool true) .bool=true by first | rfl | decide | simp [WShape.has,WShape.arms,WShape.armsAll])
  (show (WTm.eq .res (.lit (.bool true))).value [] { args:=args,res:=some (.bool true),after:=args }=some (.bool (true==true)) from w_eq_bool (w_res rfl) w_lit) rfl
theorem tN {l:OpenLaw}{n:Nat}{q:K_}{loose:List Str}{XP:(Str->l_ Value)->Heap->Prop}{YP:World->Heap->Prop}{d:DefRec}
  (hn:l.most=some n) (LC:d.params.defaults=[])
  (call:∀ (w:World) (s₀ s₁:h_) (mg mb:Str->l_ Value) (fa:Addr) (o:Obj) (pm cd doc:Value) (a:Addr) (vs:List Value) (ns:List Int),
   Ground q loose [] XP w s₀ mg mb s₁.heap->YP w s₁.heap ->
   s₁.heap.get? fa=some o->o.data=.func (docDef d.name d.params d.body d.scope pm cd doc)->s₁.heap.CodeRec cd d.name->mg d.name=some (.ref fa) ->
   s₁.heap.get? a=some { cls:=.type "list",data:=.seq vs.toArray }->adq vs ns->ns.length<=n->s₁.gens=#[] ->
   Zt (model l.prog w) abw (.call (.ref fa) ⟨[.ref a],[]⟩) (fun r s'=>r=.ok (.ret (.bool true))/\OldK s₁.heap s'.heap/\s'.os=s₁.os/\aax s'.gens) s₁) :
  WalkO q loose XP YP l.row.toRowW d [] (fun f vs=>adz f vs):=by
 intro w s₀ s₁ mg mb G Y fa o pm cd doc dV kV ho hd jE hD GQ hg args vals as ph T5 WL Qh WM;obtain rfl:dV=.none:=Dflts.none hD LC;obtain rfl:kV=.none:=Dflts.noKw hD;obtain⟨a,vs,ns,rfl,rfl,GR,hints,hlen⟩:=yG hn ph Qh;refine enter_call (Zu (call w s₀ s₁ mg mb fa o pm cd doc a vs ns G Y ho (fd_plain hd) jE GQ GR hints hlen hg) fun r s' hq=>?_);obtain⟨rfl,h2,h3,h4⟩:=hq;exact⟨.inl ⟨.bool true,.bool true,[],rfl,fun _=>rfl,.bool true,yH l _,fun _=>⟨ZX,fun _ hm=>(nomatch hm)⟩⟩,h2,h3,h4⟩
end Att
namespace L2
open PySem PySem.Spec PyProof.Rows
theorem qp:∀ {vs:List Value}{ns:List Int},adq vs ns->Vals (ns.map V.int) vs
 | _,_,.nil=>.nil
 | _,_,.cons n t h=>.cons ⟨t,rfl⟩ (qp h)
def GS (H:Hp):Prop:=∀ b,H b=none∨∃ o xs,H b=some (.du o (.lst xs))
theorem Ap {P:K_}{w:World}{K:e_}{mg mb:Str->l_ Value}{CX:vP}{k:Nat}{fa a:Addr}{fd:XF}{x:Str}{sp:Sp}{s₁:h_}{vs:List Value}{ns:List Int}
  (KX:K.In s₁.heap) (O3:s₁.heap.Ns mainGlobals mg) (hb:s₁.heap.Ns abm mb) (T6:∀ x:Str,x ≠ "__name__" ->mb x=X1 x) (Qj:s₁.heap.NoLimit) (hg:s₁.gens=#[])
  (ha:s₁.heap.get? a=some { cls:=.type "list",data:=.seq vs.toArray }) (hi:adq vs ns) (hl:ns.length<=sizeLine) (hr:bT k abw)
  (F:∀ base:Heap,K.In base->base.Ns mainGlobals mg->bH P w K mg base CX k fa fd [x] sp) (LD:∀ (s:h_) (u:Value),acJ s fd ⟨[u],[]⟩ [(x,u)])
  (CB:∀ H:Hp,GS H->cS K H a (ns.map V.int)->sp [.ref a] H (fun v _=>v=.bl true) fun _ _ _=>False)
  (Qk:∀ H e s',CX [] H s₁ (fun _ _ _=>False) e s'->False) :
  Zt (model P w) abw (.call (.ref fa) ⟨[.ref a],[]⟩) (fun r s'=>r=.ok (.ret (.bool true))/\OldK s₁.heap s'.heap/\s'.os=s₁.os/\aax s'.gens) s₁:=by
 have rv:=qp hi;have Ql:=hi.length
 have core:∀ H:Hp,GS H->cS K H a (ns.map V.int)->iG P w H s₁.heap->(∀ b,H b≠none->b=a)->(H a≠none->K.lookup a=none) ->
   Zt (model P w) abw (.call (.ref fa) ⟨[.ref a],[]⟩) (fun r s'=>r=.ok (.ret (.bool true))/\OldK s₁.heap s'.heap/\s'.os=s₁.os/\aax s'.gens) s₁:=by
  intro H hO hS aY hA hK;have fH:∀ {b:Addr}{o:Obj},s₁.heap.get? b=some o->H b=none->(rh s₁.heap H).get? b=some o:=fun e n=>zP e n
  have Lr:∀ {b:Addr}{o:Obj}{es:Array DictEntry}{ep:Nat},s₁.heap.get? b=some o->o.data=.dict es ep->H b=none:=fun {b o es ep} e d=>by
   cases q:H b with
   | none=>rfl
   | some u =>
    have e':b=a:=hA b (by rw[q];simp);subst e';rw[ha] at e;cases e;have d':Data.seq vs.toArray _=Data.dict es ep:=d
    cases d'
  have O4:∀ {b:Addr}{m:Str->l_ Value},s₁.heap.Ns b m->(rh s₁.heap H).Ns b m:=fun {b m} ⟨o,es,ep,e,d,r⟩=>⟨o,es,ep,fH e (Lr e d),d,r⟩
  have So:K.In (rh s₁.heap H):=fun b o e=>fH (KX b o e) (by
   cases q:H b with
   | none=>rfl
   | some u =>
    have e':b=a:=hA b (by rw[q];simp);subst e';rw[hK (by rw[q];simp)] at e;cases e)
  have hM:Mod K mg (rh s₁.heap H):=⟨So,O4 O3,⟨mb,O4 hb,T6⟩,let ⟨mc,h1,h2⟩:=Qj;⟨mc,O4 h1,h2⟩⟩;have e0:tG P w K mg (rh s₁.heap H) abw [] s₁ H:=⟨rfl,hM,fun b o e=>CN e,acE (ym _ _),trivial,fun b hb=>absurd (show b∈([]:List Addr) from hb) (by simp),aY,.of_eq hg⟩;refine Zu ((F _ So (O4 O3)).run abw [] s₁ H ⟨[.ref a],[]⟩ [.ref a] [.ref a] _ _ hr e0 (LD s₁ (.ref a)) (.cons rfl .nil) (CB H hO hS)) fun r s' h=>?_
  cases r with
  | error e=>exact (Qk H e s' h).elim
  | ok fl =>
   cases fl with
   | next=>exact XN h
   | brk=>exact XN h
   | cont=>exact XN h
   | ret u =>
    obtain⟨v,H',os,bare,un,Qm,r',q⟩:=h;have q':v=.bl true:=q;subst q';obtain rfl:u=aaC true:=r';refine⟨rfl,OldK.of_keep fun b o e=>?_,os,bare⟩
    cases q:H b with
    | none=>exact un.keep b o e q (by intro z;exact absurd (show b∈([]:List Addr) from z) (by simp)) (by simp)
    | some u =>
     rcases hO b with z | ⟨ob,xs,z⟩
     ·rw[q] at z;cases z
     ·have z2:=un.mT b ob _ z;obtain⟨e1,_⟩:=aY b _ z;obtain⟨e2,_⟩:=Qm b _ z2;rw[e] at e1;cases e1;exact e2
 cases hk:K.lookup a with
 | some o =>
  have e:=KX a o hk;rw[ha] at e
  cases e
  refine core (fun _=>none) (fun _=>.inl rfl) (.inr ⟨_,vs.toArray,_,hk,rfl,rfl,rfl,by rw[I_,Ql];exact hl,by simpa using rv⟩) (fun b u z=>by have z':(none:l_ HO)=some u:=z;cases z') (fun b z=>absurd rfl z) fun z=>absurd rfl z
 | none =>
  refine core (fun b=>if b=a then some (.du { cls:=.type "list",data:=.seq vs.toArray } (.lst (ns.map V.int))) else none) (fun b=>?_) (.inl (.inr ⟨{ cls:=.type "list",data:=.seq vs.toArray },s_ rfl⟩)) (fun b u z=>?_) (fun b z=>?_) fun _=>hk
  ·by_cases hb:b=a
   ·exact .inr ⟨_,_,s_ hb⟩
   ·exact .inl (n_ hb)
  ·by_cases hb:b=a
   ·have z':=(s_ hb).symm.trans z
    cases z'
    subst hb;exact⟨ha,by rw[a_];exact hl,vs,_,rv,ha⟩
   ·have z':=(n_ hb).symm.trans z
    cases z'
  ·by_cases hb:b=a
   ·exact hb
   ·exact absurd (n_ hb) z
end L2
namespace L2
open PySem PySem.Spec PyProof.Rows
theorem Di {l:adc}{n k:Nat}{q:K_}{loose:List Str}{XP:(Str->l_ Value)->Heap->Prop}{YP:World->Heap->Prop}{d:DefRec}{K:Params->e_}{CX:World->vP}{sp:World->Sp}{x:Str}
  (hn:l.most=some n) (Gy:n<=sizeLine) (LC:d.params.defaults=[]) (hr:bT k abw)
  (hY:∀ (w:World) (h:Heap),YP w h->(K w.params).In h)
  (F:∀ (w:World) (mg:Str->l_ Value) (fa:Addr) (h:Heap),(K w.params).In h->h.Ns mainGlobals mg->mg d.name=some (.ref fa) ->
   ∃ fd:XF,(∀ (s:h_) (u:Value),acJ s fd ⟨[u],[]⟩ [(x,u)]) /\
    ∀ base:Heap,(K w.params).In base->base.Ns mainGlobals mg->bH l.prog w (K w.params) mg base (CX w) k fa fd [x] (sp w))
  (CB:∀ (w:World) (H:Hp) (a:Addr) (ns:List Int),ns.length<=n->GS H->cS (K w.params) H a (ns.map V.int)->sp w [.ref a] H (fun v _=>v=.bl true) fun _ _ _=>False)
  (Qk:∀ (w:World) (H:Hp) (s:h_) (e:Value) (s':h_),CX w [] H s (fun _ _ _=>False) e s'->False) :
  adI q loose XP YP l.row.toRowW d [] (fun f vs=>adz f vs):=by
 refine Att.tN hn LC fun w s₀ s₁ mg mb fa o pm cd doc a vs ns G Y ho hd jE GQ GR hints hlen hg=>?_
 have KX:=hY w _ Y;obtain⟨fd,hb,hF⟩:=F w mg fa _ KX G.T.g GQ;exact Ap KX G.T.g G.T.b G.T.builtins G.T.nolimit hg GR hints (U_ hlen Gy) hr hF hb (fun H hO hS=>CB w H a ns hlen hO hS) fun H e s'=>Qk w H s₁ e s'
end L2
namespace L2
open PySem PySem.Spec PyProof.Rows
noncomputable def mB (s:Stmt):ac0:=match s with
 | .FunctionDef _ a _ _ _ _ _ _ _ _=>a
 | _=>{ posonlyargs:=[],args:=[],vararg:=none,kwonlyargs:=[],kw_defaults:=[],kwarg:=none,defaults:=[] }
noncomputable def iJ (s:Stmt):List Stmt:=match s with
 | .FunctionDef _ _ b _ _ _ _ _ _ _=>b
 | _=>[]
noncomputable def bw (s:Stmt):Scope:=match s with
 | .FunctionDef _ _ _ _ _ _ sc _ _ _=>sc
 | _=>{ kind:=.function,names:=[],isGenerator:=false,isCoroutine:=false }
abbrev kG:vP:=fun _ _ _ _ _ _=>False
abbrev E0:XK:=fun _ _ _=>False
theorem qq {X:Cx}:Passes kG X E0:=fun _ _ _ _ _ _ _ h=>h.elim
structure Aq (K:e_) (x qual:Str) (st:Stmt) (f:Addr) (fd:XF):Prop where
 ex:∃ (oc:Value) (od:l_ Addr) (kV doc pm:Value) (an:l_ Addr) (i8 ct:Value) (yC:Array (l_ Value)),
  fd=Yr x qual (mB st) (iJ st) (bw st) .none kV doc pm an i8 ct/\K.lookup f=some ⟨oc,od,.func fd,yC⟩/\Zo K i8 qual=true
 kp:Xn K (.ref f)=true
section
variable {P:K_}{w:World}{K:e_}{mg:Str->l_ Value}{base:Heap}
theorem Aq.ok {x qual:Str}{st:Stmt}{f:Addr}{fd:XF}{N ps:List Str}{k:Nat}{sp:Sp} (F:Aq K x qual st f fd) (S:mw N ps (bw st)) (len:∀ vs H Q E,sp vs H Q E->vs.length=ps.length)
  (Ak:∀ (i8:Value) (A:Xw) (outer:List Env) (s:h_) (H:Hp) (vs:List V) (Q:VK) (E:XK),bT k (A.deeper (abS qual (bw st) s.heap.objs.size f i8))->sp vs H Q E ->
   ∃ t,kC (vQ kG P w K mg base N qual (bw st) f i8 A outer s H E).K5 (iJ st) t/\t { nx:=fun _ H'=>Q .az H',rt:=Q } (start N vs) H):bH P w K mg base kG (k+1) f fd ps sp:=by
 obtain⟨oc,od,kV,doc,pm,an,i8,ct,yC,rfl,lk,jE⟩:=F.ex;refine Ls lk jE S len fun A outer s H vs Q E hr CB=>?_
 obtain⟨t,h,q⟩:=Ak i8 A outer s H vs Q E hr CB;exact⟨t,h.K5,q⟩
theorem Aq.binds {x qual:Str}{st:Stmt}{f:Addr}{fd:XF}{ps:List Str} (F:Aq K x qual st f fd)
  (h:∀ (kV doc pm:Value) (an:l_ Addr) (i8 ct:Value) (us:List Value),us.length=ps.length->acK (Yr x qual (mB st) (iJ st) (bw st) .none kV doc pm an i8 ct) ⟨us,[]⟩=pure (ps.zip us)):Binds K fd ps []:=by
 obtain⟨oc,od,kV,doc,pm,an,i8,ct,yC,rfl,lk,jE⟩:=F.ex;exact .all (h kV doc pm an i8 ct)
theorem GU {x qual:Str}{st:Stmt}{f:Addr}{oc:Value}{od an:l_ Addr}{yC:Array (l_ Value)}{kV doc pm i8 ct:Value} (l:K.lookup f=some ⟨oc,od,.func (Yr x qual (mB st) (iJ st) (bw st) .none kV doc pm an i8 ct),yC⟩)
  (c:Zo K i8 qual=true) (k:Xn K (.ref f)=true):Aq K x qual st f (Yr x qual (mB st) (iJ st) (bw st) .none kV doc pm an i8 ct):=⟨⟨oc,od,kV,doc,pm,an,i8,ct,yC,rfl,l,c⟩,k⟩
end
def ah (H H':Hp):Prop:=∀ b o,H b=some o->H' b=some o
theorem ah.refl (H:Hp):ah H H:=fun _ _ h=>h
theorem ah.trans {H H1 H2:Hp} (a:ah H H1) (b:ah H1 H2):ah H H2:=fun c o h=>b c o (a c o h)
theorem ah.free {H H':Hp} (e:ah H H') {l:Addr} (h:H' l=Option.none):H l=Option.none:=by
 cases q:H l with
 | none=>rfl
 | some o =>
  rw[e l o q] at h
  cases h
theorem ah.seq {K:e_}{H H':Hp}{a:Addr}{xs:List V} (e:ah H H') (h:cS K H a xs):cS K H' a xs:=by
 rcases h with (h | ⟨o,h⟩) | h
 ·exact .inl (.inl (e _ _ h))
 ·exact .inl (.inr ⟨o,e _ _ h⟩)
 ·exact .inr h
end L2
namespace L2
open PySem PySem.Spec PyProof.Rows
section
variable {P:K_}{w:World}{H:Hp}{h:Heap}{a:Addr}{o:HO}
theorem iG.LF (x:iG P w H h) (hn:H a=none) (new:aS P w (upd H a o) h a o):iG P w (upd H a o) h:=fun b u e=>by
 by_cases hb:b=a
 ·subst hb;rw[ay] at e;cases e;exact new
 ·rw[aw hb] at e;exact (x b u e).tu (fun c v _ q=>q) (fun c q=>by rw[aw (aA q hn)];exact q) fun c xs q=>by rw[aw (aA q hn)];exact q
end
noncomputable def Qn (x:Str):It:=⟨fun i _=>i<x.cps.size,fun i H v H'=>H'=H/\∃ c,x.cps[i]? = some c/\v=.str ⟨#[c]⟩,fun i _=>i=x.cps.size⟩
theorem qr {prog:K_}{w:World}{A:Xw} (hh:A.handled=none) (I:Addr) (x:Str) (t:Tok):Walks prog w A I [I] [I] x.cps.size (SignAt x) (fun i h=>h.IsStrIter I (Yc x) x t i):=by
 cases ha:x.cps.all (·<128)
 ·have e:Yc x = "str_iterator" := by simp [Yc,ha]
  rw[e];exact Walks.strWide hh I x t
 ·have e:Yc x = "str_ascii_iterator" := by simp [Yc,ha]
  rw[e];exact Walks.strAscii hh I x t
theorem Ar {P:K_}{w:World}{K:e_}{tg:Expr} (it:Addr) (x:Str) (t:Tok):Turn P w K tg (Qn x) [it] it (fun i h=>h.IsStrIter it (Yc x) x t i) where
 mem:=by simp
 obj:=fun i h st b hb=>by
  have e:b=it:=by simpa using hb
  subst e;obtain⟨o,ho,_,hd⟩:=st;exact⟨o,ho,fun v q=>by rw[hd] at q;cases q⟩
 keep:=fun i h h' st k=>by
  obtain⟨o,ho,r⟩:=st;exact⟨o,k it (by simp) o ho,r⟩
 item:=by
  intro X hP hw hK hc i pins s σ H E I hf st hg;subst hP hw hK;obtain⟨f0,f1,f2,f3,f4,f5⟩:=hf it (by simp);refine (qr (I.ok.hd hc) it x t).item i s _ _ hg st fun v h' tk hv kn kk=>?_
  obtain⟨c,u,hx,rfl⟩:=hv;have I1:Inv X pins σ H { s with heap:=h',toks:=tk }:=I.turned (fun b o hb e=>kk b o (by simpa using hb) e) f0 f1 f3 f4 f5;obtain⟨o,ho,Kv,hd⟩:=id kn;refine⟨_,rfl,tD (s:={ s with heap:=h',toks:=tk }) (n:=Yc x) ho Kv hd ?_ ⟨.str ⟨#[c]⟩,H,I1,⟨u,rfl⟩,⟨rfl,c,hx,rfl⟩,kn,fun b hb=>(hf b hb).1⟩⟩;unfold Yc;split<;>decide
 done:=by
  intro X hP hw hK hc i pins s σ H E I hf st hg;subst hP hw hK;obtain⟨f0,f1,f2,f3,f4,f5⟩:=hf it (by simp);have EV:i=x.cps.size:=hg;subst EV;exact (qr (I.ok.hd hc) it x t).done s _ _ st fun h' tk kk=>⟨rfl,I.turned (fun b o hb e=>kk b o (by simpa using hb) e) f0 f1 f3 f4 f5⟩
 self:=fun A i s Q E st h=>by
  cases ha:x.cps.all (·<128)
  ·have e:Yc x = "str_iterator" := by simp [Yc,ha]
   rw[e] at st;exact wpAny_pyIter_striter_wide st h
  ·have e:Yc x = "str_ascii_iterator" := by simp [Yc,ha]
   rw[e] at st;exact wpAny_pyIter_striter_ascii st h
section
variable {prog:K_}{w:World}{A:Xw}{R:Result->h_->Prop}{s:h_}
theorem tO {elt target iter:Expr}{ifs:List Expr}{scope:Scope}{pos:Pos}{it acc:Value}{env:Env} (I:Nat->h_->Prop)
  (turn:∀ n s,I n s->wpAny (model prog w) A (pyNext it) (fun r s₁=>match r with
   | none=>R (.ok .next) s₁
   | some v=>wpAny (model prog w) A (aap target it v) (fun _ Sq=>wpAny (model prog w) A (acX target env v) (fun _ s₂ =>
     wpAny (model prog w) A (forIn ifs true fun c r=>if r=true then do let ok ←abP c env (eval c env);pure (Zh ok) else pure (Zh r)) (fun ok s₃ =>
      if ok=true then wpAny (model prog w) A (eval elt env) (fun x s₄ =>
       wpAny (model prog w) A (call (.builtin "list.append") [acc,x]) (fun _ s₅=>∃ m,m<n/\I m s₅) (fun _ _=>False) s₄) (fun _ _=>False) s₃
      else ∃ m,m<n/\I m s₃) (fun _ _=>False) s₂) (fun _ _=>False) Sq) (fun _ _=>False) s₁) (fun _ _=>False) s)
  (n:Nat) (h:I n s) :
  Zt (model prog w) A (.compLoop (.ListComp elt [⟨target,iter,ifs,0⟩] scope pos) 0 it acc env) R s:=by
 refine codeAny_loop rfl I (fun n s hI=>?_) n h;show wpAny _ A ((compTurn (.ListComp elt [⟨target,iter,ifs,0⟩] scope pos) 0 it acc env).onRaise (fun x=>do noteFrame x env;theTreesLotGoes x)) _ _ s;refine wpAny_noted ?_;rw[compTurn_list];refine g_ (wpAny_standAt (g_ (XW (turn n s hI) (fun r s₁ h₁=>?_) fun _ _ h'=>h'.elim)))
 cases r with
 | none=>exact y_ h₁
 | some v =>
  refine g_ (XW h₁ (fun _ Sq T7=>g_ (XW T7 (fun _ s₂ h₂=>g_ (XW h₂ (fun ok s₃ h₃=>?_) fun _ _ h'=>h'.elim)) fun _ _ h'=>h'.elim)) fun _ _ h'=>h'.elim)
  cases ok with
  | false=>exact y_ ⟨rfl,h₃⟩
  | true =>
   exact g_ (g_ (XW h₃ (fun x s₄ h₄=>g_ (XW h₄ (fun _ s₅ h₅=>y_ (y_ ⟨rfl,h₅⟩)) fun _ _ h'=>h'.elim)) fun _ _ h'=>h'.elim))
end
noncomputable def hG (env:Env):List (Str×Yn)->List (Str×Addr)->List (Str×Addr)
 | [],acc=>acc
 | (n,k)::r,acc=>hG env r (if k==.free then (n,(env.cells.lookup n).getD 0)::acc else acc)
theorem gR {scope:Scope}{env:Env} (h:∀ y∈scope.names,y.2=.free->∃ c,env.cells.lookup y.1=some c):closureFor scope env=pure (hG env scope.names []):=by
 simp only[closureFor]
 suffices hh:∀ (l:List (Str×Yn)) (acc:List (Str×Addr)),(∀ y∈l,y.2=.free->∃ c,env.cells.lookup y.1=some c) ->
   (forIn l acc fun x r=>if (x.2==XC)=true then do let a ←cellOf env x.1;pure (Zh ((x.1,a)::r)) else pure (Zh r):Sem (List (Str×Addr)))=pure (hG env l acc) by
  have:=hh scope.names [] h;simp only[bind_pure];exact this
 intro l
 induction l with
 | nil=>intro acc _;rfl
 | cons y r ih =>
  intro acc hy;obtain⟨n,k⟩:=y;rw[List.forIn_cons]
  cases hk:(k==XC) with
  | true =>
   obtain⟨c,hc⟩:=hy (n,k) Q_ (by simpa using hk);have e1:cellOf env n=pure c:=by unfold cellOf;rw[hc]
   simp only[hk,aak,e1,pure_bind];rw[ih _ fun z hz=>hy z (F_ _ hz)];simp only[hG,hk,aak,hc,ac1]
  | false =>
   simp only[hk,act,if_false,pure_bind];rw[ih _ fun z hz=>hy z (F_ _ hz)];simp only[hG,hk,act,if_false]
theorem tP {env:Env}{x:Str}{c:Addr}:∀ {l:List (Str×Yn)}{acc:List (Str×Addr)},(∀ y∈l,y.2=.free->∃ c,env.cells.lookup y.1=some c)->(acc.lookup x=some c->env.cells.lookup x=some c)->(hG env l acc).lookup x=some c->env.cells.lookup x=some c
 | [],_,_,ha,e=>ha e
 | (n,k)::r,acc,hl,ha,e=>by
  refine tP (l:=r) (fun z hz=>hl z (F_ _ hz)) (fun q=>?_) e
  cases hk:(k==XC) with
  | false=>rw[hk] at q;exact ha q
  | true =>
   rw[hk] at q;obtain⟨c',hc⟩:=hl (n,k) Q_ (by simpa using hk);simp only[aak,hc,ac1,Xf] at q
   cases hx:(x==n) with
   | true=>rw[hx] at q;cases q;rw[show x=n from by simpa using hx];exact hc
   | false=>rw[hx] at q;exact ha q
theorem tQ {env:Env}{x:Str}{c:Addr}:∀ {l:List (Str×Yn)}{acc:List (Str×Addr)},(hG env l acc).lookup x=some c->acc.lookup x=some c∨(x,XC)∈l
 | [],_,e=>.inl e
 | (n,k)::r,acc,e=>by
  rcases tQ (l:=r) e with q | q
  ·cases hk:(k==XC) with
   | false=>rw[hk] at q;exact .inl q
   | true =>
    rw[hk] at q;simp only[aak,Xf] at q
    cases hx:(x==n) with
    | true =>
     have e1:x=n:=by simpa using hx
     have e2:k=XC:=by simpa using hk
     subst e1 e2;exact .inr Q_
    | false=>rw[hx] at q;exact .inl q
  ·exact .inr (F_ _ q)
theorem m5 {env:Env}{x:Str}:∀ {l:List (Str×Yn)}{acc:List (Str×Addr)},(∃ c,acc.lookup x=some c)∨(x,XC)∈l->∃ c,(hG env l acc).lookup x=some c
 | [],_,h=>h.elim (fun z=>z) fun z=>nomatch z
 | (n,k)::r,acc,h=>by
  refine m5 (l:=r) ?_;rcases h with ⟨c,h⟩ | h
  ·refine .inl ?_
   cases hk:(k==XC) with
   | false=>exact⟨c,h⟩
   | true =>
    simp only[aak,Xf]
    cases hx:(x==n) with
    | true=>exact⟨_,rfl⟩
    | false=>exact⟨c,h⟩
  ·rcases w_.mp h with h | h
   ·cases h
    refine .inl ?_;rw[s_ (by rfl),Xf];exact⟨_,by rw[show (x==x)=true from by simp]⟩
   ·exact .inr h
theorem lookup_mem {α:Type}{x:Str}{k:α}:∀ {l:List (Str×α)},l.lookup x=some k->(x,k)∈l
 | (n,z)::r,e=>by
  rw[Xf] at e
  cases hx:(x==n) with
  | true=>rw[hx] at e;cases e;rw[show x=n from by simpa using hx];exact Q_
  | false=>rw[hx] at e;exact F_ _ (lookup_mem e)
theorem qt (env:Env) (n:Str) (z:Yn):∃ z',(if (z==XC&&env.scope.kind==.function&&env.kindOf n==some .cell)=true then (n,Yu) else (n,z))=(n,z')/\(z'=z∨(z=.free/\z'=.cell)):=by
 by_cases hc:(z==XC&&env.scope.kind==.function&&env.kindOf n==some .cell)=true
 ·rw[s_ hc];simp only[G_] at hc;exact⟨_,rfl,.inr ⟨by simpa using hc.1.1,rfl⟩⟩
 ·rw[n_ hc];exact⟨_,rfl,.inl rfl⟩
theorem bc {env:Env}{x:Str}:∀ {l:List (Str×Yn)}{k:Yn},l.lookup x=some k ->
  ((l.map fun (n,k)=>if (k==XC&&env.scope.kind==.function&&env.kindOf n==some .cell) then (n,Yu) else (n,k)).lookup x=some k) ∨
  (k=.free/\(l.map fun (n,k)=>if (k==XC&&env.scope.kind==.function&&env.kindOf n==some .cell) then (n,Yu) else (n,k)).lookup x=some .cell)
 | (n,z)::r,k,e=>by
  obtain⟨z',e1,e2⟩:=qt env n z;have ih:=fun h=>bc (env:=env) (x:=x) (l:=r) (k:=k) h
  rw[Xf] at e;rw[p_];dsimp only;rw[e1,Xf]
  cases hx:(x==n) with
  | true =>
   rw[hx] at e
   cases e
   rcases e2 with e2 | ⟨e2,e3⟩
   ·rw[e2];exact .inl rfl
   ·rw[e3];exact .inr ⟨e2,rfl⟩
  | false=>rw[hx] at e;exact ih e
theorem jL {env:Env}{x:Str}:∀ {l:List (Str×Yn)},l.lookup x=none ->
  (l.map fun (n,k)=>if (k==XC&&env.scope.kind==.function&&env.kindOf n==some .cell) then (n,Yu) else (n,k)).lookup x=none
 | [],_=>rfl
 | (n,z)::r,e=>by
  obtain⟨z',e1,e2⟩:=qt env n z;have ih:=fun h=>jL (env:=env) (x:=x) (l:=r) h
  rw[Xf] at e;rw[p_];dsimp only;rw[e1,Xf]
  cases hx:(x==n) with
  | true=>rw[hx] at e;cases e
  | false=>rw[hx] at e;exact ih e
structure a8 (N:List Str) (Sr scope:Scope) (own b7:List Str) (ix:List Nat):Prop where
 kind:scope.kind=.function
 cell:∀ y∈scope.names,y.2=.cell->scope.names.lookup y.1=some .cell
 names:∀ y∈scope.names,y.2=.local->scope.names.lookup y.1=some .local
 free:∀ y∈scope.names,y.2=.free->y.1∈b7
 GV:∀ x∈own,Loc scope x
 GW:∀ x∈b7,scope.names.lookup x=some .free
 out:∀ x∈b7,Sr.names.lookup x=some .cell∨Sr.names.lookup x=some .free
 Ss:ix.map (fun i=>N[i]?)=b7.map some
 nd:(own++b7).Nodup
noncomputable def Cx.comp (X:Cx) (scope:Scope) (own b7:List Str) (C:Addr) (s₀:h_) (H₀:Hp) (ex:List Addr) (pn:List (Addr×Obj)):Cx :=
 { X with N:=own++b7,s₀:=s₀,H₀:=H₀,env:=abV scope (XB (C+1) scope.names (hG X.env scope.names [])) C X.env,outer:=X.stack,ex:=ex,fn:=fun x=>own.contains x,pn:=pn,xe:=fun _ _=>False }
noncomputable def rD (σ:St) (own:List Str) (ix:List Nat):St:=own.map (fun _=>none)++ix.map (fun i=>(σ[i]?).join)
theorem bU:∀ (l:List (Str×Yn)) (n:Nat) (acc:List (Str×Addr)),XB n l acc=XB n l []++acc
 | [],_,_=>rfl
 | (x,k)::r,n,acc=>by
  unfold XB;split
  ·rw[bU r (n+1) (_::acc),bU r (n+1) [_],YQ];rfl
  ·exact bU r n acc
theorem dG {x:Str}{c:Addr}:∀ {l:List (Str×Yn)}{n:Nat},(x,c)∈XB n l []->(x,Yu)∈l
 | (y,k)::r,n,h=>by
  unfold XB at h;split at h
  ·rename_i hk;rw[bU] at h;rcases N_.mp h with q | q
   ·exact F_ _ (dG q)
   ·cases x_.mp q
    rw[show k=.cell by simpa using hk];exact Q_
  ·exact F_ _ (dG h)
theorem cQ {x:Str}:∀ {l:List (Str×Yn)}{n:Nat}{acc:List (Str×Addr)},(∃ c,acc.lookup x=some c)∨(x,Yu)∈l->∃ c,(XB n l acc).lookup x=some c
 | [],_,_,h=>h.elim (fun z=>z) fun z=>nomatch z
 | (y,k)::r,n,acc,h=>by
  unfold XB;split
  ·refine cQ ?_
   cases hx:(x==y) with
   | true=>exact .inl ⟨n,by rw[Xf,hx]⟩
   | false =>
    rw[Xf,hx];refine h.imp id fun q=>?_
    rcases w_.mp q with z | z
    ·cases z;rw[Y4] at hx;cases hx
    ·exact z
  ·rename_i hk;refine cQ (h.imp id fun q=>?_);rcases w_.mp q with z | z
   ·cases z;exact absurd rfl hk
   ·exact z
theorem gZ {M:Model}{A:Xw}{E:Value->h_->Prop}{s:h_}{scope:Scope}{globals:Addr}{closure:List (Str×Addr)}{qual:Str}{func:l_ Addr}{code:Value}{outer:Env}{builtins:Addr}{Q:Env->h_->Prop}
  (hQ:∀ h',(∀ b o,s.heap.get? b=some o->h'.get? b=some o)->h'.Ns s.heap.objs.size (fun _=>none)->CellsOk h' (s.heap.objs.size+1) (XB (s.heap.objs.size+1) scope.names []) ->
   Q (newEnv scope s.heap.objs.size globals (XB (s.heap.objs.size+1) scope.names closure) qual func code (some outer) builtins) { s with heap:=h' }) :
  wpAny M A (abW scope globals closure [] qual func code (some outer) builtins) Q E s:=by
 simp only[abW,acu,aak];refine g_ (wpAny_alloc (g_ (wpAny_layCells _ (fun name kind cells=>by cases T8:kind==Yu<;>simp [T8]) _ _ _ _ ?_)));have ok:=cellsFrom_ok scope.names (s.heap.push { cls:=.type "dict",data:=.dict #[] }) (s.heap.objs.size+1) [] ⟨fun _ _ hm=>(nomatch hm),ZX⟩ (by rw[Ya];exact t_ _);rw[Ya] at ok;rw[show ({ s with heap:=s.heap.push { cls:=.type "dict",data:=.dict #[] } }:h_).heap.objs.size=s.heap.objs.size+1 from Ya ..,adA];exact g_ (y_ (y_ (hQ _ (fun b o e=>pushCells_keeps _ _ b o (o_ _ e)) ((Heap.Ns.new s.heap (.type "dict")).keeps (pushCells_keeps _ _)) ok)))
section
variable {X:Cx}{pins:List (Addr×Obj)}{σ:St}{H:Hp}{s:h_}{scope:Scope}{own b7:List Str}{ix:List Nat}
theorem a8.has (S:a8 X.N X.env.scope scope own b7 ix) (ok:X.Ok):∀ y∈scope.names,y.2=.free->∃ c,X.env.cells.lookup y.1=some c:=fun y hy hf=>ok.has y.1 (S.out y.1 (S.free y hy hf))
theorem a8.cv {C:Addr}{h₁:Heap} (S:a8 X.N X.env.scope scope own b7 ix) (ok:X.Ok) (oc:CellsOk h₁ (C+1) (XB (C+1) scope.names [])) {x:Str}{c:Addr} (e:(XB (C+1) scope.names (hG X.env scope.names [])).lookup x=some c) :
  ((x,c)∈XB (C+1) scope.names []/\C<c/\h₁.IsCell c none)∨(X.env.cells.lookup x=some c/\x∈b7):=by
 rw[bU,List.lookup_append,Option.or_eq_some_iff] at e;rcases e with e | ⟨_,e⟩
 ·have:=oc.empty x c (Ye e);exact .inl ⟨Ye e,this.2,this.1⟩
 ·refine .inr ⟨tP (S.has ok) (fun q=>by simp at q) e,?_⟩;rcases tQ e with q | q
  ·cases q
  ·exact S.free _ q rfl
theorem Inv.comp (I:Inv X pins σ H s) (S:a8 X.N X.env.scope scope own b7 ix) {fp:List Addr} (hf:∀ b∈fp,lP X pins H b) (ho:∀ b∈fp,∃ o,s.heap.get? b=some o)
  {h₁:Heap}{tk:Nat}{C:Addr}{m:Str->l_ Value} (hC:s.heap.objs.size<=C) (old:∀ b o,s.heap.get? b=some o->h₁.get? b=some o) (O3:h₁.Ns C m) (oc:CellsOk h₁ (C+1) (XB (C+1) scope.names [])) :
  Inv (X.comp scope own b7 C s H fp (X.pn++pins)) [] (rD σ own ix) H { s with heap:=h₁,toks:=tk }:=by
 have cv:=fun x c e=>S.cv I.ok oc (x:=x) (c:=c) e
 have T9:∀ {x c},X.env.cells.lookup x=some c->c<s.heap.objs.size:=fun {x c} e=>by obtain⟨v,q⟩:=I.cell x c e;exact q.lt
 have ap:∀ {x c y},C<c->X.env.cells.lookup y=some c->x=y:=fun h e=>absurd (D_ (T9 e) hC) (Nat.not_lt.mpr (XT h))
 have kc:∀ {x},x∈b7->(x,Yu)∉scope.names:=fun {x} hx z=>nomatch (S.GW x hx).symm.trans (S.cell _ z rfl)
 have lc:∀ {x c},x∈b7->(XB (C+1) scope.names (hG X.env scope.names [])).lookup x=some c->X.env.cells.lookup x=some c:=fun {x c} hx e=>by
  rcases cv x c e with ⟨z,_⟩ | ⟨z,_⟩
  ·exact absurd (dG z) (kc hx)
  ·exact z
 have kk:∀ x,((abV scope (XB (C+1) scope.names (hG X.env scope.names [])) C X.env).kindOf x=some .cell∨(abV scope (XB (C+1) scope.names (hG X.env scope.names [])) C X.env).kindOf x=some .free)->(x,Yu)∈scope.names∨(x,XC)∈scope.names:=fun x hx=>by
  cases e:scope.names.lookup x with
  | none =>
   have q:=jL (env:=X.env) e;rcases hx with hx | hx<;>exact nomatch q.symm.trans (show _=some _ from hx)
  | some k =>
   rcases bc (env:=X.env) e with q | ⟨q,_⟩
   ·rcases hx with hx | hx<;>cases O_ (q.symm.trans (show _=some _ from hx))
    ·exact .inl (lookup_mem e)
    ·exact .inr (lookup_mem e)
   ·exact .inr (by rw[←q];exact lookup_mem e)
 have Qo:∀ x∈b7,(abV scope (XB (C+1) scope.names (hG X.env scope.names [])) C X.env).kindOf x=some .cell∨(abV scope (XB (C+1) scope.names (hG X.env scope.names [])) C X.env).kindOf x=some .free:=fun x hx=>by
  rcases bc (env:=X.env) (S.GW x hx) with q | ⟨_,q⟩
  ·exact .inr q
  ·exact .inl q
 have lt:∀ {b:Addr}{o:Obj},s.heap.get? b=some o->b<C:=fun e=>D_ (B_ e) hC
 have Sv:∀ b,b∈sX X.stack->b∈X.env.locals::X.fs:=I.mU
 refine⟨⟨I.ok.mod,S.kind,I.ok.glob,I.ok.blt,hC,fun x y c e1 e2=>?_,fun x hx=>cQ ((kk x hx).symm.imp (fun z=>m5 (.inr z)) id),fun x c hx e=>?_,I.ok.hd,I.ok.frames,.inl rfl,fun b hb=>?_,
  I.bs,U_ I.ok.zQ I.sz,fun b o e hb=>?_,fun b hb GX=>?_,I.stack,I.xg⟩,rfl,I.bare,Un.kept old,?_,fun x c e=>?_,I.aY.fresh hC,fun x c e=>?_,fun p hp=>?_,I.aY.kept old,?_⟩
 ·rcases cv x c e1 with ⟨a1,b1,_⟩ | ⟨a1,_⟩<;>rcases cv y c e2 with ⟨a2,b2,_⟩ | ⟨a2,_⟩
  ·exact name_of_addr oc.apart a1 a2
  ·exact ap b1 a2
  ·exact (ap b2 a1).symm
  ·exact I.ok.inj x y c a1 a2
 ·rcases cv x c e with ⟨_,z,_⟩ | ⟨_,z⟩
  ·exact U_ hC (XT z)
  ·have h1:x∈own:=by simpa [Cx.comp] using hx
   exact absurd rfl ((ZY.mp S.nd).2.2 x h1 x z)
 ·obtain⟨o,e⟩:=ho b hb;refine⟨T_ (lt e),fun x c q=>?_⟩;rcases cv x c q with ⟨_,z,_⟩ | ⟨z,_⟩
  ·exact aay (acM (lt e) z)
  ·exact (hf b hb).2.2.2.2.1 x c z
 ·rcases (hf b hb).2.2.2.1 with z | z
  ·exact I.ok.vw b o e z
  ·exact absurd (D_ (B_ e) (U_ I.ok.zQ z)) (Xp _)
 ·rcases w_.mp (Sv b GX) with z | z
  ·exact (hf b hb).2.1 z
  ·exact (hf b hb).2.2.1 z
 ·refine⟨m,O3,fun i x v e1 e2 _=>?_⟩;by_cases hi:i<own.length
  ·have e3:(rD σ own ix)[i]? = some none:=by
    unfold rD;rw[Xq (by simpa using hi),f_];rw[b_ hi];rfl
   rw[e3] at e2;cases e2
  ·have hj:own.length<=i:=Nat.not_lt.mp hi
   have Sw:b7[i-own.length]? = some x:=by
    have:(own++b7)[i]? = some x:=e1;rwa [Xj hj] at this
   have e4:(ix.map (fun i=>X.N[i]?))[i-own.length]? = some (some x):=by rw[S.Ss,f_,Sw];rfl
   rw[f_] at e4
   cases q:ix[i-own.length]? with
   | none=>rw[q] at e4;cases e4
   | some j =>
    rw[q] at e4;have Ua:X.N[j]? = some x:=O_ e4
    have e5:(σ[j]?).join=some v:=by
     unfold rD at e2;rw[Xj (by simpa using hj),f_,a_,q] at e2;exact O_ e2
    have e6:σ[j]? = some (some v):=by
     cases r:σ[j]? with
     | none=>rw[r] at e5;cases e5
     | some z=>rw[r] at e5;exact congrArg some e5
    have hx:x∈b7:=q_ Sw;obtain⟨mo,hn,hl⟩:=I.loc;obtain⟨u,ru,lu⟩:=hl j x v Ua e6 (.inr (S.out x hx));refine⟨u,ru,.inr ⟨Qo x hx,?_⟩⟩;rcases lu with ⟨kx,_⟩ | ⟨_,c,hc,qf⟩
    ·have Ub : X.env.scope.names.lookup x = some .local := kx;rcases S.out x hx with z | z<;>exact nomatch Ub.symm.trans z
    ·obtain⟨c',FR⟩:=cQ (n:=C+1) (.inl (m5 (env:=X.env) (acc:=[]) (.inr (lookup_mem (S.GW x hx)))));have:c'=c:=O_ ((lc hx FR).symm.trans hc);subst this;obtain⟨oc,Kt,LG⟩:=qf;exact⟨c',FR,oc,old _ _ Kt,LG⟩
 ·rcases cv x c e with ⟨_,_,z⟩ | ⟨z,_⟩
  ·exact⟨_,z⟩
  ·obtain⟨v,oc,Kt,LG⟩:=I.cell x c z;exact⟨v,oc,old _ _ Kt,LG⟩
 ·rcases cv x c e with ⟨_,z,_⟩ | ⟨z,_⟩
  ·exact I.aY.fresh (U_ hC (XT z))
  ·exact I.gQ x c z
 ·have jy:p∈X.pn++pins:=by simpa [Cx.comp] using hp
  obtain⟨q1,q2,q3,q4,q5⟩:=I.pin p jy;refine⟨old _ _ q1,q2,T_ (lt q1),fun z=>?_,q5⟩;rcases w_.mp (Sv p.1 z) with y | y
  ·exact q3 y
  ·exact q4 y
 ·show (rD σ own ix).length=(own++b7).length;have:=congrArg List.length S.Ss;rw[a_,a_] at this;unfold rD;rw[u_,u_,a_,a_,this]
end
def vU (X:Cx) (ifs:List Expr) (t:TT):Prop :=
 ∀ (pins:List (Addr×Obj)) (s:h_) (σ:St) (H:Hp) (Q:Bool->Hp->Prop),Inv X pins σ H s->t σ H Q ->
  wpAny (model X.prog X.w) X.A (forIn ifs true fun c r=>if r=true then do let ok ←abP c X.env (eval c X.env);pure (Zh ok) else pure (Zh r)) (TP X pins σ Q) X.xe s
def LH:TT:=fun _ H Q=>Q true H
theorem As {X:Cx}:vU X [] LH:=fun _ _ _ H _ I h=>wpAny_tests_nil ⟨H,I,h⟩
theorem At {X:Cx}{c:Expr}{t:TT} (h:PT X c t):vU X [c] t:=fun pins s σ H Q I q=>wpAny_tests_one (h pins s σ H Q I q)
def Au (own:List Str) (ix:List Nat) (wi:TI) (g:TG) (ti:TT) (te:TE):TE:=fun σ H Q=>wi σ H fun J H1 =>
 ∃ W:Nat->Nat->List V->St->Hp->Prop,(∃ m,W 0 m [] (rD σ own ix) H1)/\∀ i m ys σ' H,W i m ys σ' H ->
  (J.stop i H/\ys.length<=sizeLine/\∀ D,H D=none->Q (.ref D) (upd H D (.lst ys))) ∨
  (J.go i H/\∀ x H',J.K9 i H x H'->g x σ' H' fun σ2 H2=>ti σ2 H2 fun b H3=>if b=true then te σ2 H3 fun y H4=>ys.length<sizeLine/\∃ m',m'<m/\W (i+1) m' (ys++[y]) σ2 H4 else ∃ m',m'<m/\W (i+1) m' ys σ2 H3)
section
variable {X:Cx}{pins:List (Addr×Obj)}{σ:St}{scope:Scope}{own b7:List Str}{ix:List Nat}{tg iter elt:Expr}{ifs:List Expr}{pos:Pos}
set_option maxHeartbeats 4000000 in
theorem m6 {s:h_}{H:Hp}{it:Addr}{fp:List Addr}{tn:Nat->Heap->Prop}{J:It}{g:TG}{ti:TT}{te:TE}{Q:VK}{W:Nat->Nat->List V->St->Hp->Prop}{E:Value->h_->Prop}{RR:Value->Addr->Result->h_->Prop} (hc:X.calm=true)
  (I:Inv X pins σ H s) (S:a8 X.N X.env.scope scope own b7 ix) (T:Turn X.prog X.w X.K tg J fp it tn) (st:tn 0 s.heap) (hf:∀ b∈fp,lP X pins H b)
  (hb:∀ (C:Addr) (s₀:h_) (H₀:Hp) (ex:List Addr) (pn:List (Addr×Obj)),PG (X.comp scope own b7 C s₀ H₀ ex pn) tg g/\vU (X.comp scope own b7 C s₀ H₀ ex pn) ifs ti/\PE (X.comp scope own b7 C s₀ H₀ ex pn) elt te)
  (h0:∃ m,W 0 m [] (rD σ own ix) H)
  (turn:∀ i m ys σ' H,W i m ys σ' H->(J.stop i H/\ys.length<=sizeLine/\∀ D,H D=none->Q (.ref D) (upd H D (.lst ys))) ∨
   (J.go i H/\∀ x H',J.K9 i H x H'->g x σ' H' fun σ2 H2=>ti σ2 H2 fun b H3=>if b=true then te σ2 H3 fun y H4=>ys.length<sizeLine/\∃ m',m'<m/\W (i+1) m' (ys++[y]) σ2 H4 else ∃ m',m'<m/\W (i+1) m' ys σ2 H3))
  (Uc:∀ (D C:Addr) (oC:Obj) (m:Str->l_ Value) (H':Hp) (s':h_),s'.heap.get? C=some oC->s'.heap.Ns C m->C≠X.env.locals->(X.s₀.heap.objs.size<=C)->(∀ x c,X.env.cells.lookup x=some c->c≠C)->(∀ p∈X.pn++pins,p.1≠C)->C∉X.fs->H' C=none ->
   Inv X pins σ H' s'->Q (.ref D) H'->RR (.ref D) C (.ok .next) s') :
  wpAny (model X.prog X.w) X.A (newList []) (fun acc s₃=>wpAny (model X.prog X.w) X.A (abW scope X.env.globals (hG X.env scope.names []) [] X.env.qual none .none (some X.env)) (fun LI s₄ =>
   Zt (model X.prog X.w) X.A (.compStart (.ListComp elt [⟨tg,iter,ifs,0⟩] scope pos) 0 (.ref it) acc { LI with scope:=relabel scope X.env }) (RR acc LI.locals) s₄) E s₃) E s:=by
 refine ZZ (gZ fun h₁ O5 Dj LJ=>?_);dsimp only at O5 Dj LJ ⊢;generalize Qp:s.heap.push { cls:=.type "list",dict:=none,data:=.seq ([]:List Value).toArray }=HH at O5 Dj LJ ⊢;generalize Ud:HH.objs.size=C at Dj LJ ⊢;generalize LK:s.heap.objs.size=D;have hC:C=D+1:=by rw[←Ud,←Qp,Ya,LK]
 have Qq:D≠C:=by rw[hC];exact T_ (Y3 _)
 have below:∀ b,b<s.heap.objs.size->b≠C/\b≠D:=fun b hb=>by rw[LK] at hb;exact⟨by rw[hC];exact T_ (aaY hb),T_ hb⟩
 have old:∀ b o,s.heap.get? b=some o->h₁.get? b=some o:=fun b o e=>O5 b o (Qp▸o_ _ e)
 have Qr:h₁.get? D=some { cls:=.type "list",data:=.seq ([]:List Value).toArray 0 }:=O5 _ _ (by rw[←Qp,←LK];exact A_ _ rfl);have GY:s.heap.objs.size<=C:=by rw[LK,hC];exact aan _
 have LL:s.heap.objs.size<=D:=acE LK
 have Sx:D∉fp:=fun hm=>by
  obtain⟨o,e,_⟩:=T.obj _ _ st D hm;exact (below D (B_ e)).2 rfl
 have Ue:H D=none:=I.aY.fresh LL;obtain⟨gG,gI,gE⟩:=hb C s H fp (X.pn++pins);have I0:∀ tk,Inv (X.comp scope own b7 C s H fp (X.pn++pins)) [] (rD σ own ix) H { s with heap:=h₁,toks:=tk }:=fun tk=>I.comp S hf (fun b hb=>(T.obj _ _ st b hb).imp fun o e=>e.1) GY old Dj LJ
 have Sy:∀ x c,(X.comp scope own b7 C s H fp (X.pn++pins)).env.cells.lookup x=some c->X.env.cells.lookup x=some c∨C<c:=fun x c e=>(S.cv I.ok LJ e).symm.imp (·.1) (·.2.1)
 have Av:∀ x c,X.env.cells.lookup x=some c->c<s.heap.objs.size:=fun x c e=>by obtain⟨v,q⟩:=I.cell x c e;exact q.lt
 have LM:∀ b∈sX X.stack,b<s.heap.objs.size:=fun b hb=>by
  rcases w_.mp (I.mU b hb) with z | z
  ·rw[z];exact I.lt
  ·obtain⟨_,o,ho,_⟩:=I.iP.mem z;exact B_ ho
 have Qs:∀ (H':Hp) (ps:List (Addr×Obj)),(∀ p∈ps,p.1=D)->(∀ b∈fp,H' b=none)->∀ b∈fp,lP (X.comp scope own b7 C s H fp (X.pn++pins)) ps H' b:=fun H' ps Uf hn b hb=>by
  obtain⟨o,e,_⟩:=T.obj _ _ st b hb;obtain⟨f0,f1,f2,f3,f4,f5⟩:=hf b hb;refine⟨hn b hb,(below b (B_ e)).1,fun z=>?_,.inl hb,fun x c q=>(Sy x c q).elim (f4 x c) fun z=>aay (D_ (B_ e) (U_ GY (XT z))),fun p hp=>?_⟩
  ·rcases w_.mp (I.mU b z) with y | y
   ·exact f1 y
   ·exact f2 y
  ·rcases N_.mp hp with z | z
   ·exact f5 p z
   ·intro y;exact Sx (by rw[←Uf p z,y];exact hb)
 have Qt:∀ {H':Hp}{σ':St}{s':h_}{o:Obj},Inv (X.comp scope own b7 C s H fp (X.pn++pins)) [] σ' H' s'->s'.heap.get? D=some o->(∀ v,o.data≠.cell v)->H' D=none->Inv (X.comp scope own b7 C s H fp (X.pn++pins)) [(D,o)] σ' H' s':=fun {H' σ' s' o} I' e hd hn =>
  I'.iH fun p hp=>by
   have e1:p=(D,o):=by simpa using hp
   subst e1;exact⟨e,hn,Qq,fun z=>Xp _ (D_ (LM D z) LL),hd⟩
 have loop:∀ s₃:h_,s₃={ s with heap:=h₁ } ->
   Zt (model X.prog X.w) X.A (.compLoop (.ListComp elt [⟨tg,iter,ifs,0⟩] scope pos) 0 (.ref it) (.ref D) (abV scope (XB (C+1) scope.names (hG X.env scope.names [])) C X.env)) (RR (.ref D) C) s₃:=by
  rintro s₃ rfl;obtain⟨m0,w0⟩:=h0
  refine tO (fun n s'=>∃ i ys σ' H',Inv (X.comp scope own b7 C s H fp (X.pn++pins)) [] σ' H' s'/\tn i s'.heap/\(∀ b∈fp,H' b=none)/\H' D=none /\
   (∃ (aj:List Value) (k:Nat),Vals ys aj/\s'.heap.get? D=some { cls:=.type "list",data:=.seq aj.toArray k })/\ys.length<=sizeLine/\W i n ys σ' H') ?_ m0
   ⟨0,[],_,H,I0 s.toks,T.keep _ _ _ st fun b _ o e=>old b o e,fun b hb=>(hf b hb).1,Ue,⟨[],0,.nil,Qr⟩,Yb _,w0⟩
  rintro n s' ⟨i,ys,σ',H',I',kn,Sz,Kw,⟨aj,k,hv,Ug⟩,SA,w'⟩;have ID:=Qt I' Ug (fun v q=>nomatch q) Kw;rcases turn i n ys σ' H' w' with ⟨stop,hz,q⟩ | ⟨go,step⟩
  ·refine aZ (T.done (X.comp scope own b7 C s H fp (X.pn++pins)) rfl rfl rfl hc i [(D,_)] s' σ' H' _ ID (Qs H' _ (fun p hp=>by rw[x_.mp hp]) Sz) kn stop) fun r Aj ⟨hr,I2⟩=>?_
   subst hr;show RR (.ref D) C (.ok .next) Aj;have Qu:Aj.heap.get? D=some { cls:=.type "list",data:=.seq aj.toArray k }:=(I2.pin (D,_) (L_ _ (x_.mpr rfl))).1;obtain⟨m2,Gy,_⟩:=I2.loc;obtain⟨oC,es,ep,Kx,_⟩:=id Gy;have Qv:iG X.prog X.w (upd H' D (.lst ys)) Aj.heap:=I2.aY.LF Kw ⟨SA,aj,k,hv,Qu⟩
   have un:Un (sX X.stack) fp H (upd H' D (.lst ys)) s.heap Aj.heap:=by
    have u0:Un (sX X.stack) fp H H' s.heap Aj.heap:=I2.base;refine⟨u0.keep,u0.slot,fun b o e hn hx=>?_,u0.there,fun b xs e=>?_,fun b o u e=>?_,fun b ps e=>?_⟩
    ·rw[aw (below b (B_ e)).2];exact u0.free b o e hn hx
    ·rw[aw (aA (u0.oY b xs e) Kw)];exact u0.oY b xs e
    ·rw[aw (aA (u0.mT b o u e) Kw)];exact u0.mT b o u e
    ·obtain⟨more,e'⟩:=u0.re b ps e;exact⟨more,by rw[aw (aA e' Kw)];exact e'⟩
   have IX:Inv X pins σ (upd H' D (.lst ys)) Aj:=I.KY (ch:=fp) I2.os un Qv I2.bare fun b hb=>⟨(hf b hb).2.2.2.1,(hf b hb).2.1,(hf b hb).2.2.2.2.1,(hf b hb).2.2.2.2.2⟩
   refine Uc D C oC m2 _ Aj Kx Gy ?_ ?_ (fun x c e z=>?_) (fun p hp z=>?_) (fun z=>?_) ?_ IX (q D Kw)
   ·exact fun z=>Xp _ (D_ I.lt (by rw[←z];exact GY))
   ·exact U_ I.sz GY
   ·exact Xp _ (D_ (Av x c e) (by rw[z];exact GY))
   ·exact Xp _ (D_ (B_ (I.pin p hp).1) (by rw[z];exact GY))
   ·obtain⟨_,o,ho,_⟩:=I.iP.mem z;exact Xp _ (D_ (B_ ho) GY)
   ·rw[aw Qq.symm];exact I2.free
  ·refine aZ (T.item (X.comp scope own b7 C s H fp (X.pn++pins)) rfl rfl rfl hc i [(D,_)] s' σ' H' _ ID (Qs H' _ (fun p hp=>by rw[x_.mp hp]) Sz) kn go) fun r s4 ⟨u,hr,h4⟩=>?_
   subst hr;refine aZ h4 fun _ s5 ⟨x,H5,I5,r5,y5,Gf,PZ⟩=>?_
   have Uh:=I5.pin (D,_) (L_ _ (x_.mpr rfl));have P0:=I5.pinned (Qs H5 _ (fun p hp=>by rw[x_.mp hp]) PZ) (T.obj _ _ Gf);refine aZ (gG _ s5 σ' H5 x u _ P0 r5 (step x H5 y5)) fun _ s6 ⟨σ6,H6,I6,q6⟩=>?_
   refine aZ (gI _ s6 σ6 H6 _ I6 q6) fun ok s7 ⟨H7,I7,q7⟩=>?_
   have SD:∀ {σ8:St}{H8:Hp}{s8:h_},Inv (X.comp scope own b7 C s H fp (X.pn++pins)) ([(D,({ cls:=.type "list",data:=.seq aj.toArray k }:Obj))]++kD fp s5.heap) σ8 H8 s8->tn (i+1) s8.heap/\(∀ b∈fp,H8 b=none):=fun {σ8 H8 s8} I8=>by
    refine⟨T.keep _ _ _ Gf fun b hb o e=>(I8.pin (b,o) (L_ _ (L_ _ (fF hb e)))).1,fun b hb=>?_⟩;obtain⟨o,e,d⟩:=T.obj _ _ Gf b hb;exact (I8.pin (b,o) (L_ _ (L_ _ (fF hb e)))).2.1
   have dK:∀ {σ8:St}{H8:Hp}{s8:h_},Inv (X.comp scope own b7 C s H fp (X.pn++pins)) ([(D,({ cls:=.type "list",data:=.seq aj.toArray k }:Obj))]++kD fp s5.heap) σ8 H8 s8->s8.heap.get? D=some { cls:=.type "list",data:=.seq aj.toArray k }/\H8 D=none:=fun {σ8 H8 s8} I8=>by
    have z:=I8.pin (D,_) (L_ _ (Zm _ (x_.mpr rfl)));exact⟨z.1,z.2.1⟩
   cases ok with
   | false =>
    obtain⟨m',hm,w7⟩:=q7;obtain⟨Ui,Uj⟩:=SD I7;obtain⟨Uk,Ul⟩:=dK I7;exact⟨m',hm,i+1,ys,σ6,H7,I7.iH (fun p hp=>nomatch hp),Ui,Uj,Ul,⟨aj,k,hv,Uk⟩,SA,w7⟩
   | true =>
    refine aZ (gE _ s7 σ6 H7 _ I7 q7) fun xv s8 ⟨y,H8,I8,r8,SE,m',hm,w8⟩=>?_
    obtain⟨Um,Uo⟩:=SD I8;obtain⟨Up,SF⟩:=dK I8;refine append_at (hsz:=by rw[I_,←hv.length];exact XT SE) Up fun h9 SG Uq=>?_
    have I9:Inv (X.comp scope own b7 C s H fp (X.pn++pins)) [] σ6 H8 { s8 with heap:=h9 }:=by
     refine (I8.iH (pins':=[]) fun p hp=>nomatch hp).turned (t':=s8.toks) (it:=D) (fun b o hb e=>SG.extBut b o hb e) SF Qq (.inr LL) (fun x c e z=>?_) (fun p hp z=>?_)
     ·rcases Sy x c e with q | q
      ·exact Xp _ (D_ (Av x c q) (by rw[z];exact LL))
      ·rw[z,hC] at q;exact Xp _ (acM q (Y3 _))
     ·have jy:p∈X.pn++pins:=by simpa [Cx.comp] using hp
      exact Xp _ (D_ (B_ (I.pin p jy).1) (by rw[z];exact LL))
    refine⟨m',hm,i+1,ys++[y],σ6,H8,I9,T.keep _ _ _ Um fun b hb o e=>SG.extBut b o (fun z=>Sx (by rw[←z];exact hb)) e,Uo,SF,⟨aj++[xv],k+1,hv.append (.cons r8 .nil),?_⟩,by rw[u_,R_];exact SE,w8⟩;rw[Uq,List.push_toArray]
 exact codeAny_compStart_list (loop _ rfl) (T.self _ 0 _ _ _ (T.keep _ _ _ st fun b _ o e=>old b o e) (loop _ rfl))
theorem Dk {wi:TI}{g:TG}{ti:TT}{te:TE} (hc:X.calm=true) (S:a8 X.N X.env.scope scope own b7 ix) (hi:PI X tg iter wi)
  (hb:∀ (C:Addr) (s₀:h_) (H₀:Hp) (ex:List Addr) (pn:List (Addr×Obj)),PG (X.comp scope own b7 C s₀ H₀ ex pn) tg g/\vU (X.comp scope own b7 C s₀ H₀ ex pn) ifs ti/\PE (X.comp scope own b7 C s₀ H₀ ex pn) elt te)
  (hs:∀ x,Yg iter X.env x=pure x:=by intro _;rfl):PE X (.ListComp elt [⟨tg,iter,ifs,0⟩] scope pos) (Au own ix wi g ti te):=by
 intro pins s σ H Q I h;rw[eval_ListComp];refine aa2 (use:=none) rfl hs (gR (S.has I.ok)) S.kind S.names (aZ (hi pins s σ H _ I h) fun xv s₁ h₁=>aZ h₁ fun OY s₂ h₂=>?_);obtain⟨it,fp,tn,J,H2,e,I2,T,ER,f2,W,h0,turn⟩:=h₂;subst e;refine m6 (Q:=Q) (RR:=fun acc C=>compPost (model X.prog X.w) X.A X.xe none (EP X pins σ Q) acc C) hc I2 S T ER f2 hb h0 turn ?_;intro D C oC m H' s' Kx hn h1 h2 h3 h4 h5 h6 I' q;refine⟨m,hn,fun h' CD=>⟨.ref D,H',I'.turned (t':=s'.toks) (it:=C) (fun b o hb e=>CD.extBut b o hb e) h6 (YE h1.symm) (.inr h2) h3 h4,rfl,q⟩⟩
theorem Dl {wi:TI}{g:TG}{ti:TT}{te:TE}{i:Nat}{y:Str}{py yI:Pos} (hc:X.calm=true) (hN:X.N.Nodup) (hy:X.N[i]? = some y) (hx:Loc X.env.scope y) (S:a8 X.N X.env.scope scope own b7 ix) (hi:PI X tg iter wi)
  (hb:∀ (C:Addr) (s₀:h_) (H₀:Hp) (ex:List Addr) (pn:List (Addr×Obj)),PG (X.comp scope own b7 C s₀ H₀ ex pn) tg g/\vU (X.comp scope own b7 C s₀ H₀ ex pn) ifs ti/\PE (X.comp scope own b7 C s₀ H₀ ex pn) elt te)
  (Qw:Yf (.ListComp elt [⟨tg,iter,ifs,0⟩] scope pos) (some (.Name y py)) yI.line X.env=pure true:=by rfl)
  (hs : ∀ x, Yg iter X.env x = pure x := by intro _; rfl) (hf : X.fn y = true ∨ X.env.scope.names.lookup y = some .local := by first | exact .inl rfl | exact .inr rfl | assumption) :
  PS X (.Assign [.Name y py] (.ListComp elt [⟨tg,iter,ifs,0⟩] scope pos) yI) (K8 (Au own ix wi g ti te) (dE i)):=by
 intro pins s σ H D I h;rw[exec_Assign_Name_used _ _ _ _ Qw];refine g_ (wpAny_standAt (g_ ?_));show wpAny _ X.A (do let _ ←comprehension (.ListComp elt [⟨tg,iter,ifs,0⟩] scope pos) scope X.env _ (newList []) false (eval iter X.env) (some (acX (.Name y py) X.env))) _ _ s
 refine g_ (XW (aa2 (use:=some (acX (.Name y py) X.env)) (Q:=fun _ s'=>SP X pins D .next s') rfl hs (gR (S.has I.ok)) S.kind S.names
  (aZ (hi pins s σ H _ I h) fun xv s₁ h₁=>aZ h₁ fun OY s₂ h₂=>?_)) (fun _ s' hq=>y_ (y_ hq)) fun _ _ e=>e)
 obtain⟨it,fp,tn,J,H2,e,I2,T,ER,f2,W,h0,turn⟩:=h₂;subst e;refine m6 (Q:=fun x H1=>dE i x σ H1 D.nx) (RR:=fun acc C=>compPost (model X.prog X.w) X.A X.xe (some (acX (.Name y py) X.env)) (fun _ s'=>SP X pins D .next s') acc C) hc I2 S T ER f2 hb h0 turn ?_;intro Da C oC m H' s' Kx hn h1 h2 h3 h4 h5 h6 I' q
 have LG:∀ v,oC.data≠.cell v:=fun v z=>by
  obtain⟨o',es,ep,kA,oZ,_⟩:=hn;rw[Kx] at kA;cases kA;rw[oZ] at z;cases z
 have Ip:Inv X (pins++[(C,oC)]) σ H' s':=I'.iH fun p hp=>by
  rcases N_.mp hp with z | z
  ·exact I'.pin p (L_ _ z)
  ·have e1:p=(C,oC):=by simpa using z
   subst e1;exact⟨Kx,h6,h1,h5,LG⟩
 show wpAny _ X.A (acX (.Name y py) X.env (.ref Da)) _ _ _;refine wpAny_assign_Name (jD (v:=.ref Da) Ip hN hy hx rfl (fun s2 I3=>?_) hf);have pc:=I3.pin (C,oC) (L_ _ (L_ _ (by simp)));obtain⟨o',es,ep,kA,r'⟩:=hn;rw[Kx] at kA;cases kA;refine⟨m,⟨oC,es,ep,pc.1,r'⟩,fun h' CD=>⟨_,H',(Inv.jI I3).turned (t':=s2.toks) (it:=C) (fun b o hb e=>CD.extBut b o hb e) h6 h1 (.inr h2) h3 h4,q⟩⟩
end
end L2
namespace L2
open PySem PySem.Spec PyProof.Rows
section
variable {X:Cx}
theorem yJ:bj X (.builtin "isinstance") (fun xs H Q=>∃ x n t b,xs=[x,.ty n]/\i7 X.K H x t/\ZW X.K t (.type n)=some b/\Q (.bl b) H):=by
 intro pins s σ H xs us Q I r h;obtain⟨x,n,t,b,rfl,ty,e,q⟩:=h;obtain⟨u,w',rfl,rx,rc⟩:=vals2 r
 cases (show w'=Yy n from rc)
 exact yA I rx ty e fun tk=>⟨.bl b,H,I.tok tk,rfl,q⟩
theorem LN {x:Str}{n:ZK}{pos:Pos} (hg:Gl X x) (hm:X.mg x=none) (hv:X1 x=some (.type n)) (hn:x ≠ "__name__" := by decide) (hd:(x==("__debug__" : Str))=false:=by decide):PE X (.Name x pos) (tC (.ty n)) :=
 CS (v:=.ty n) hg hm hv rfl hn hd
theorem tR {prog:K_}{w:World}{A:Xw}{bs:List Bool}{aj:List Value} (r:Vals (bs.map V.bl) aj):TruthOf prog w A (fun i v=>aj.toArray[i]? = some v) (fun i=>bs.getD i false):=by
 intro i v s Q E hv q;have EU:aj[i]? = some v:=by simpa using hv
 have hl:=r.length;rw[a_] at hl;have hi:i<aj.length:=(j_.mp EU).1
 have hb:(bs.map V.bl)[i]? = some (.bl (bs.getD i false)):=by
  rw[f_,v_,b_ (show i<bs.length by omega)];rfl
 obtain⟨u,hu,ru⟩:=Vals.get r hb;rw[EU] at hu
 cases hu
 cases (show v=aaC _ from ru)
 exact Xt q
theorem range_all (bs:List Bool):(Xa bs.length).all (fun i=>bs.getD i false)=bs.all id:=by
 rw[X6,V_,V_];constructor
 ·intro h b hb;obtain⟨i,hi,e⟩:=XG.mp hb;have:=h i (Xi.mpr hi);rw[v_,b_ hi,e] at this;exact this
 ·intro h i hi;have EW:=Xi.mp hi;rw[v_,b_ EW];exact h _ (Yv EW)
theorem Aw (hc:X.calm=true):bj X (.builtin "all") (fun xs H Q=>∃ (p:Addr) (bs:List Bool),xs=[.ref p]/\cS X.K H p (bs.map V.bl)/\Q (.bl (bs.all id)) H):=by
 intro pins s σ H xs us Q I r h;obtain⟨p,bs,rfl,hq,q⟩:=h;obtain⟨u,rfl,rx⟩:=vals1 r
 cases (show u=Xe p from rx)
 obtain⟨aj,rv,pl,hz⟩:=I.list hq;have lR:p<s.heap.objs.size:=by obtain⟨_,e,_⟩:=pl.isList;exact B_ e
 have hl:=rv.length;rw[a_] at hl;refine call_all_walk (Z0 pl.isList ⟨s.heap.objs.size,_,_,_,_,_,_,rfl,Walks.list (A:=X.A.in1) (show X.A.in1.handled=none from I.ok.hd hc) s.heap.objs.size p (T_ lR) aj.toArray,⟨⟨_,A_ _ rfl,rfl,rfl⟩,pl.isList.push _⟩,tR rv,fun h' tk hk=>?_⟩);rw[I_,←hl,range_all];exact⟨.bl _,H,I.kept fun b o e=>hk b o (by simpa using T_ (B_ e)) (o_ _ e),rfl,q⟩
def Qx:V->l_ Int->l_ Int->Hp->VK->Prop:=fun x lo hi H Q=>∃ z,x=.str z/\z.length<=sizeLine/\Q (.str (Yw z lo hi)) H
theorem GZ:P9 X Qx:=by
 intro pins s σ H x v vl vu lo hi sl Q I rx hs pl pu h;obtain⟨z,rfl,hz,q⟩:=h;obtain⟨t,rfl⟩:=rx;refine⟨"str",_,F.slot_str_getitem.lookup,typeIs_str _ _ _,?_⟩;have fin:(Yw z lo hi).length<=sizeLine/\∀ t' k,EP X pins σ Q (.str (Yw z lo hi) t') { s with toks:=k }:=⟨U_ (Txt.slice_le z _ _) hz,fun t' k=>⟨.str _,H,I.tok k,⟨t',rfl⟩,q⟩⟩;obtain⟨o,ho,hc,hd⟩:=hs
 cases pl with
 | none =>
  cases pu with
  | none=>exact Y5 (l:=none) (u:=none) (st:=none) ⟨o,ho,hc,hd⟩ rfl (aaq fin)
  | int j uj=>exact Y5 (l:=none) (u:=some (j,uj)) (st:=none) ⟨o,ho,hc,hd⟩ rfl (aaq fin)
 | int i ui =>
  cases pu with
  | none=>exact Y5 (l:=some (i,ui)) (u:=none) (st:=none) ⟨o,ho,hc,hd⟩ rfl (aaq fin)
  | int j uj=>exact Y5 (l:=some (i,ui)) (u:=some (j,uj)) (st:=none) ⟨o,ho,hc,hd⟩ rfl (aaq fin)
end
theorem Dm {α:Type}{xs:List α}{i:Int} (h0:0<=i) (h1:i<xs.length):∃ v,v∈xs/\xs[i.toNat]? = some v/\mz xs i=some v:=by
 obtain⟨n,rfl⟩:=Xh h0;have hn:n<xs.length:=by omega
 exact⟨xs[n],Yv hn,by simp [hn],aP (b_ hn)⟩
theorem jM {α:Type}{xs:List α}{i m:Int} (h0:0<m) (h1:m<=xs.length):∃ v,v∈xs/\xs[(i % m).toNat]? = some v/\mz xs (i % m)=some v :=
 Dm (YL _ (by omega)) (by have:=Zd i h0;omega)
end L2
namespace L2
open PySem PySem.Spec PyProof.Rows
mutual
inductive b8 (K:e_) (H:Hp):V->P_->Prop
 | az:b8 K H .az .none
 | bl (b:Bool):b8 K H (.bl b) (.bool b)
 | int (i:Int):b8 K H (.int i) (.int i)
 | str (x:Str):b8 K H (.str x) (.str x)
 | lst {a:Addr}{xs:List V}{ds:List P_}:cS K H a xs->dH K H xs ds->b8 K H (.ref a) (.list ds)
 | tup {a:Addr}{xs:List V}{ds:List P_}:eC K H a xs->dH K H xs ds->b8 K H (.ref a) (.tuple ds)
inductive dH (K:e_) (H:Hp):List V->List P_->Prop
 | nil:dH K H [] []
 | cons {x:V}{d:P_}{xs:List V}{ds:List P_}:b8 K H x d->dH K H xs ds->dH K H (x::xs) (d::ds)
end
theorem b8.reads {X:Cx}{pins:List (Addr×Obj)}{σ:St}{H:Hp}{s:h_} (I:Inv X pins σ H s) {v:V}{d:P_} (h:b8 X.K H v d):∀ u,RelV v u->∃ as,Reads s.heap u d as :=
 b8.rec (motive_1:=fun v d _=>∀ u,RelV v u->∃ as,Reads s.heap u d as) (motive_2:=fun xs ds _=>∀ us,Vals xs us->∃ as,ZD s.heap us ds as)
  (fun u r=>by cases (show u=Za from r);exact⟨_,.none⟩)
  (fun b u r=>by cases (show u=aaC b from r);exact⟨_,.bool b⟩)
  (fun i u r=>by obtain⟨t,rfl⟩:=(show ∃ t,u=aac i t from r);exact⟨_,.int i t⟩)
  (fun x u r=>by obtain⟨t,rfl⟩:=(show ∃ t,u=aaB x t from r);exact⟨_,.str x t⟩)
  (fun {a xs ds} hq _ ih u r=>by
   cases (show u=Xe a from r)
   obtain⟨aj,rv,pl,_⟩:=I.list hq;obtain⟨o,ho,hc,n,hd⟩:=pl.isList;obtain⟨as,ra⟩:=ih aj rv;exact⟨_,.list ho hc hd (by simpa using ra)⟩)
  (fun {a xs ds} hq _ ih u r=>by
   cases (show u=Xe a from r)
   obtain⟨aj,rv,pl,_⟩:=I.tuple hq;obtain⟨o,ho,hc,n,hd⟩:=pl;obtain⟨as,ra⟩:=ih aj rv;exact⟨_,.tuple ho hc hd (by simpa using ra)⟩)
  (fun us r=>by cases r;exact⟨_,.nil⟩)
  (fun {x d xs ds} _ _ LO O6 us r=>by
   cases r with
   | cons r1 r2 =>
    obtain⟨as,ra⟩:=LO _ r1;obtain⟨bs,rb⟩:=O6 _ r2;exact⟨_,.cons ra rb⟩) h
theorem cS.same {K:e_}{H H':Hp}{a:Addr}{xs:List V} (e:ah H H') (h:cS K H a xs):cS K H' a xs:=e.seq h
theorem eC.same {K:e_}{H H':Hp}{a:Addr}{xs:List V} (e:ah H H') (h:eC K H a xs):eC K H' a xs:=by
 rcases h with (h | ⟨o,h⟩) | h
 ·exact .inl (.inl (e _ _ h))
 ·exact .inl (.inr ⟨o,e _ _ h⟩)
 ·exact .inr h
theorem b8.same {K:e_}{H H':Hp} (e:ah H H') {v:V}{d:P_} (h:b8 K H v d):b8 K H' v d :=
 b8.rec (motive_1:=fun v d _=>b8 K H' v d) (motive_2:=fun xs ds _=>dH K H' xs ds) .az .bl .int .str (fun q _ ih=>.lst (q.same e) ih) (fun q _ ih=>.tup (q.same e) ih) .nil (fun _ _ a b=>.cons a b) h
section
variable {X:Cx}
def Dn (K:e_) (neg:Bool):R2:=fun x y H Q=>∃ d e,b8 K H x d/\b8 K H y e/\Xg d=true/\Xg e=true/\Q (.bl (if neg then !PyData.eqv d e else Xo d e)) H
theorem G0 (hu:X.A.units+64<cLine):eD X (Xl .Eq) (Dn X.K false):=by
 intro pins s σ H x y v u Q I rx ry h;obtain⟨d,e,hd,he,s1,s2,q⟩:=h;obtain⟨as,ra⟩:=hd.reads I v rx;obtain⟨bs,rb⟩:=he.reads I u ry;exact eq_dataH ra rb s1 s2 hu ⟨.bl _,H,I,rfl,q⟩
theorem G4 (hu:X.A.units+64<cLine):eD X (Xl .NotEq) (Dn X.K true):=by
 intro pins s σ H x y v u Q I rx ry h;obtain⟨d,e,hd,he,s1,s2,q⟩:=h;obtain⟨as,ra⟩:=hd.reads I v rx;obtain⟨bs,rb⟩:=he.reads I u ry;exact ne_dataH ra rb s1 s2 hu ⟨.bl _,H,I,rfl,q⟩
end
end L2
namespace L2
open PySem PySem.Spec PyProof.Rows
def Qy (φ:l_ Value->Prop) (e:Addr) (h:Heap):Prop:=∃ o fs,h.get? e=some o/\o.data=.fields fs/\φ fs[2]?
end L2
namespace L2
open PySem PySem.Spec PyProof.Rows
noncomputable abbrev G5:=Hp->l_ Value->Prop
structure Ur (φ:G5) (P:K_) (w:World) (outer:List Env) (H H':Hp) (s:h_) (ea:Addr) (cls:Value) (s':h_):Prop where
 os:s'.os=s.os
 bare:aax s'.gens
 cx:Qy (φ H') ea s'.heap
 un:Un (sX outer) [] H H' s.heap s'.heap
 WN:∃ B a0,Heap.FlyingW B outer ea cls a0 s'.heap/\iG P w H' B/\(∀ b o,s.heap.get? b=some o->H b=none->b∉sX outer->B.get? b=some o)/\(∀ b o,s.heap.get? b=some o->b∉sX outer->∃ o',B.get? b=some o')
def Us (φ:G5) (P:K_) (w:World):vP:=fun outer H s E e s'=>∃ ea cls H',e=.ref ea/\Ur φ P w outer H H' s ea cls s'/\E cls none H'
end L2
namespace L2
open PySem PySem.Spec PyProof.Rows
def XP (φ:G5) (X:Cx) (pins:List (Addr×Obj)) (σ:St) (E:XK) (ev:Value) (s':h_):Prop:=∃ H s0,Inv X pins σ H s0/\Us φ X.prog X.w X.stack H s0 E ev s'
noncomputable abbrev TX:=St->Hp->VK->XK->Prop
end L2
namespace L2
open PySem PySem.Spec PyProof.Rows
structure EX (k:Nat) (A:Xw):Prop where
 dp:A.depth+3*k+5<abR
 un:A.units+16*k+200<cLine
structure LP (P:K_) (w:World) (K:e_) (mg:Str->l_ Value) (base:Heap) (k:Nat) (f:Addr) (fd:XF) (ps:List Str) (sp:Sp):Prop where
 len:∀ vs H Q E,sp vs H Q E->vs.length=ps.length
 run:∀ (A:Xw) (outer:List Env) (s:h_) (H:Hp) (args:Args) (us:List Value) (vs:List V) (Q:VK) (E:XK),EX k A->tG P w K mg base A outer s H->acJ s fd args (ps.zip us)->Vals vs us->sp vs H Q E ->
  Zt (model P w) A (.call (.ref f) args) (CR kG outer P w H s Q E) s
section
variable {X:Cx}{k:Nat}{f:Addr}{fd:XF}{ps:List Str}{sp:Sp}{dvs:List V}{ds:List Value}{x:Str}{p pos:Pos}{e:Expr}{es:List Expr}{t:TA}{E:XK}
theorem LQ (F:LP X.prog X.w X.K X.mg X.base k f fd ps sp) (hr:EX k X.A) (hg:Gl X x) (hm:X.mg x=some (.ref f)) (hk:Xn X.K (.ref f)=true) (hb:Binds X.K fd ps ds) (hd:Vals dvs ds)
  (ha:PA X (e::es) t) (jJ:(x==("__debug__" : Str))=false:=by decide) (he:M_ (e::es) X.env=(false,eval e X.env)::M_ es X.env:=by rfl) (CA:(Yq pos (M_ es X.env)).any (·.1)=false:=by rfl) :
  PE X (.Call (.Name x p) (e::es) [] pos) (Ah sp dvs E t):=by
 intro pins s σ H Q I h;refine X9 (jF I hg hm ?_ jJ);refine Zc (h₀:=X.base) I.ok.mod.FO hk (aZ (ha pos pins s σ H _ I h) fun us s1 ⟨vs,H1,I1,r,q⟩=>⟨I1.jx,?_⟩) he CA;have r2:Vals (vs++dvs) (us++ds):=r.append hd;have hl:(us++ds).length=ps.length:=by rw[←r2.length];exact F.len _ _ _ _ q
 refine acp (Zu (F.run X.A X.stack s1 H1 ⟨us,[]⟩ (us++ds) (vs++dvs) Q E hr I1.GH (hb s1 us I1.jx hl) r2 q) fun r s' hq=>?_)
 cases r with
 | error e=>exact XN hq
 | ok fl =>
  cases fl with
  | ret u=>exact I1.after hq
  | next=>exact XN hq
  | brk=>exact XN hq
  | cont=>exact XN hq
end
structure G6 (K:e_) (B:Addr) (m:Str) (f:Addr):Prop where
 sp:aaV K (.ref B) "__getattribute__" = some (some (.builtin "type.__getattribute__"))
 rd:ade K B (.type "type")=true
 fd:adf K (.ref B) (.type "type") m=some (.val (.ref f))
 kp:Xn K (.ref f)=true
section
variable {X:Cx}{CX:vP}{k:Nat}{f B:Addr}{fd:XF}{ps:List Str}{sp:Sp}{dvs:List V}{ds:List Value}{E:XK}{x m:Str}{p pos apos:Pos}{e:Expr}{es:List Expr}{t:TA}
theorem Do {pl:Sem Bool} (hg:Gl X x) (GQ:X.mg x=some (.ref B)) (c:G6 X.K B m f) (F:bH X.prog X.w X.K X.mg X.base CX k f fd ps sp) (hr:bT k X.A) (hb:Binds X.K fd ps ds) (hd:Vals dvs ds) (hx:Passes CX X E) (ha:PA X (e::es) t)
  (jJ:(x==("__debug__" : Str))=false:=by decide) (PR:M_ (e::es) X.env=(false,eval e X.env)::M_ es X.env:=by rfl) (CA:(Yq pos (M_ es X.env)).any (·.1)=false:=by rfl)
  (ht:eval (.Call (.Attribute (.Name x p) m apos) (e::es) [] pos) X.env=(do
   let ov ←eval (.Name x p) X.env
   ab6 apos.atName
   let (f,first) ←aaR [ov] (acZ ov m pl)
   callWith pos f first (Yq pos (M_ (e::es) X.env)) (aaH pos (Zp [] X.env))):=by rfl) :
  PE X (.Call (.Attribute (.Name x p) m apos) (e::es) [] pos) (Ah sp dvs E t):=by
 intro pins s σ H Q I h;refine Z8 (pl:=pl) (jF I hg GQ ?_ jJ) ht;refine PySem.W.method_cls I.jx c.sp (PySem.W.cls_value I.jx c.rd c.fd rfl ?_);have I':=I.tok (s.toks+1);refine Zc (first:=[]) (h₀:=X.base) I.ok.mod.FO c.kp (aZ (ha pos pins { s with toks:=s.toks+1 } σ H _ I' h) fun us s2 ⟨vs,H2,I2,r,q2⟩=>⟨I2.jx,?_⟩) PR CA;exact ri F hr hb hd hx I2 r q2
end
end L2
namespace L2
open PySem PySem.Spec PyProof.Rows
section
variable {X:Cx}
theorem bj.imp {f:Value}{r r':List V->Hp->VK->Prop} (h:bj X f r) (hi:∀ xs H Q,r' xs H Q->r xs H Q):bj X f r':=fun pins s σ H xs us Q I rs q=>h pins s σ H xs us Q I rs (hi _ _ _ q)
def LR (K:e_):List V->Hp->VK->Prop:=fun xs H Q=>∃ p ys,xs=[.ref p]/\cS K H p ys/\∀ l,H l=none->Q (.ref l) (upd H l (.tup ys))
theorem yK:bj X (.type "tuple") (LR X.K):=pe.imp fun _ _ _ ⟨p,ys,e,h,q⟩=>⟨p,ys,e,.inl ⟨h,q⟩⟩
end
theorem ah.upd {H H':Hp}{l:Addr}{o:HO} (s:ah H H') (h:H' l=none):ah H (upd H' l o):=fun b u e=>by
 have e':=s b u e;rw[aw (aA e' h)];exact e'
theorem ah.put {H:Hp}{l:Addr}{o:HO} (h:H l=none):ah H (L2.upd H l o):=(ah.refl H).upd h
end L2
namespace SH
open PySem L2
noncomputable abbrev Ay:Str := "abcdefghijklmnopqrstuvwxyz"
noncomputable def vV (c:Nat):Bool := !(XX Ay ⟨#[c]⟩ 0 Ay.length 1).isEmpty
noncomputable def aC (x:Str):Bool:=decide (1<=x.length)&&decide (x.length<=8)&&x.cps.toList.all vV
theorem cY {z:Str}{i m:Int} (h0:0<m) (h1:m<=z.length):∃ c,c∈z.cps.toList/\mz z.cps.toList (i % m)=some c:=by
 obtain⟨v,hm,_,e⟩:=jM (xs:=z.cps.toList) (i:=i) h0 (by simpa [acq] using h1);exact⟨v,hm,e⟩
theorem iK (c:Nat):(⟨#[c]⟩:Str).length=1:=rfl
theorem app_list (a y:Str):(a++y).cps.toList=a.cps.toList++y.cps.toList:=by
 rw[PySem.Str.cps_append,Array.toList_append]
theorem tT {c:Nat}:vV c=true↔c∈Ay.cps.toList:=by
 unfold vV;rw[PySem.StrLaws.found_one,YR]
theorem Dp {c:Nat} (h:vV c=true):c<0x110000:=by
 have h1:∀ d∈Ay.cps.toList,d<0x110000:=by decide +kernel
 exact h1 c (tT.mp h)
theorem tU {z:Str} (h:aC z=true):1<=z.length/\z.length<=8/\∀ c∈z.cps.toList,vV c=true:=by
 unfold aC at h;simp only[G_,YR,V_] at h;exact⟨h.1.1,h.1.2,h.2⟩
theorem m7 {z:Str} (h:aC z=true):acN z=true:=by
 unfold acN;rw[←Array.all_toList,V_];intro c hc;exact c_ (Dp ((tU h).2.2 c hc))
theorem Dq {z:Str} (h1:1<=z.length) (h2:z.length<=8) (h3:∀ c∈z.cps.toList,vV c=true):aC z=true:=by
 unfold aC;simp only[G_,YR,V_];exact⟨⟨h1,h2⟩,h3⟩
end SH
namespace SH
open PySem L2
noncomputable abbrev Nd:=Str×Int
noncomputable def xn (n:Nd):Int:=min (n.2+1) 12
def aG:Int->List Nd->Prop
 | _,[]=>True
 | d,n::r=>aC n.1=true/\0<=n.2/\n.2<=d/\aG (xn n) r
noncomputable def aI:Int->List Nd->Int
 | d,[]=>d
 | _,n::r=>aI (xn n) r
theorem aT:∀ {d:Int}{a b:List Nd},aG d (a++b)↔aG d a/\aG (aI d a) b
 | d,[],b=>by simp [aG,aI]
 | d,n::r,b=>by
  have ih:=aT (d:=xn n) (a:=r) (b:=b);simp only[aa9,aG,aI,ih];constructor
  ·rintro⟨h1,h2,h3,h4,h5⟩;exact⟨⟨h1,h2,h3,h4⟩,h5⟩
  ·rintro⟨⟨h1,h2,h3,h4⟩,h5⟩;exact⟨h1,h2,h3,h4,h5⟩
theorem a5:∀ {d:Int}{a b:List Nd},aI d (a++b)=aI (aI d a) b
 | _,[],_=>rfl
 | _,n::r,b=>a5 (d:=xn n) (a:=r) (b:=b)
theorem lx {d:Int}{ns:List Nd}:aG d ns->∀ n∈ns,aC n.1=true/\0<=n.2:=by
 induction ns generalizing d with
 | nil=>intro _ n h;exact nomatch h
 | cons m r ih =>
  rintro⟨h1,h2,_,h4⟩ n hn;rcases w_.mp hn with e | e
  ·rw[e];exact⟨h1,h2⟩
  ·exact ih h4 n e
noncomputable def pi (ns:List Nd):List P_:=ns.map fun n=>.tuple [.str n.1,.int n.2]
theorem jN:∀ {ns:List Nd},(∀ n∈ns,acN n.1=true)->XA (pi ns)=true
 | [],_=>rfl
 | n::r,h=>by
  have h1:=h n Q_;have h2:=jN (ns:=r) fun y hy=>h y (F_ _ hy)
  unfold pi at h2 ⊢;simp only[p_,XA,Zq,h1,h2,Bool.and_self]
theorem ly:∀ ns:List Nd,XJ (pi ns)<=1
 | []=>Yb _
 | n::r=>by
  have h2:=ly r;unfold pi at h2 ⊢;simp only[p_,XJ,Z1];omega
end SH
namespace L2
open PySem PySem.Spec PyProof.Rows
noncomputable def Az (lo st:Int) (n:Nat):It:=⟨fun i _=>i<n,fun i H x H'=>H'=H/\x=.int (lo+i*st),fun i _=>n<=i⟩
theorem lz {P:K_}{w:World}{K:e_}{tg:Expr} (it:Addr) (lo c:Int) (n:Nat):Turn P w K tg (Az lo c n) [it] it (fun i h=>aaS h it (lo+(i:Nat)*c) ((n:Int)-(i:Nat)) c) where
 mem:=by simp
 obj:=fun i h st b hb=>by
  have e:b=it:=by simpa using hb
  subst e
  exact⟨_,st,fun v z=>by
   have z':ac9 _=adM v:=z
   cases z'⟩
 keep:=fun i h h' st k=>k it (by simp) _ st
 item:=by
  intro X hP hw hK hc i pins s σ H E I hf st hg;subst hP hw hK;obtain⟨f0,f1,f2,f3,f4,f5⟩:=hf it (by simp);have W:=Walks.range (prog:=X.prog) (w:=X.w) (I.ok.hd hc) it lo c n;refine W.item i s _ _ hg st fun v h' tk hv kn kk=>?_
  obtain⟨t,rfl⟩:=hv;have I1:Inv X pins σ H { s with heap:=h',toks:=tk }:=I.turned (fun b o hb e=>kk b o (by simpa using hb) e) f0 f1 f3 f4 f5;exact⟨_,rfl,tD (s:={ s with heap:=h',toks:=tk }) (n := "range_iterator") kn rfl rfl (by decide) ⟨.int (lo+i*c),H,I1,⟨t,rfl⟩,⟨rfl,rfl⟩,kn,fun b hb=>(hf b hb).1⟩⟩
 done:=by
  intro X hP hw hK hc i pins s σ H E I hf st hg;subst hP hw hK;obtain⟨f0,f1,f2,f3,f4,f5⟩:=hf it (by simp);exact abp (I.ok.hd hc) st (by have:n<=i:=hg;omega) fun h' eb=>⟨rfl,I.turned (t':=s.toks) (fun b o hb e=>eb b o hb e) f0 f1 f3 f4 f5⟩
 self:=fun _ _ _ _ _ st h=>ZT st h
theorem AA {j c:Int} (hc:1<=c):0<=J_ 0 j c/\(J_ 0 j c<=j∨J_ 0 j c=0)/\∀ i:Nat,(i:Int)<J_ 0 j c->(i:Int)*c<j:=by
 by_cases hj:0<j
 ·refine⟨?_,.inl ?_,fun i hi=>(start_inside hc (by omega) (by omega) hi).2⟩
  ·rw[acg hc (by omega)];exact Int.ediv_nonneg (by omega) (by omega)
  ·rw[acg hc (by omega)];refine Int.ediv_le_of_le_mul (by omega) ?_;have h:0<=(j-1)*(c-1):=abX (by omega) (by omega)
   have e:(j-1)*(c-1)=j*c-j-c+1:=by
    rw[Int.sub_mul,Int.mul_sub,Int.mul_sub];omega
   omega
 ·have e:J_ 0 j c=0:=by
   unfold J_;rw[s_ (by omega),n_ (by omega)]
  rw[e];exact⟨ada _,.inr rfl,fun i hi=>absurd hi (by omega)⟩
theorem G7 {j c:Int} (h1 : -1000<=j) (h2:j<=1000) (hc:1<=c) (Ut:c<=1000):aca 0 j c=true:=by
 obtain⟨h3,h4,_⟩:=AA (j:=j) hc;have h5:J_ 0 j c<=1000:=by omega
 unfold aca;generalize J_ 0 j c=n at h3 h5;have h6:n*c<=1000*1000:=Int.mul_le_mul h5 Ut (by omega) (by omega);have h7:0<=n*c:=abX h3 (by omega);simp only[Zl,G_,abF,YR,YY,show c>0 from by omega,aak];omega
end L2
namespace SH
open PySem L2
noncomputable def fI:V->P_
 | .str z=>.str z
 | _=>.none
theorem jO {ls:List (List V)} (h:∀ l∈ls,l.length<=12):ls.flatten.length<=12*ls.length:=by
 induction ls with
 | nil=>exact t_ _
 | cons l r ih =>
  have h1:=h l Q_;have h2:=ih fun y hy=>h y (F_ _ hy)
  rw[Yh,u_,z_];omega
theorem tV {ns:List Int}{lo hi:l_ Int}:∃ ms:List Int,tK (ns.map V.int) lo hi=ms.map V.int/\ms.length<=ns.length:=by
 refine⟨(ns.drop (HT.mY (ns.map V.int).length 0 lo)).take (HT.mY (ns.map V.int).length (ns.map V.int).length hi-HT.mY (ns.map V.int).length 0 lo),?_,?_⟩
 ·unfold tK;rw[Y0,aa3]
 ·rw[Xc,XZ];omega
end SH
namespace SH
open PySem L2
def placesOk:Int->Int->List Int->Prop
 | _,_,[]=>True
 | lo,m,p::r=>lo<=p/\p<m/\placesOk (p+1) m r
noncomputable def bV:Int->List Int->Int
 | lo,[]=>lo
 | _,p::r=>bV (p+1) r
theorem gT:∀ {lo m:Int}{a b:List Int},placesOk lo m (a++b)↔placesOk lo m a/\placesOk (bV lo a) m b
 | lo,m,[],b=>by simp [placesOk,bV]
 | lo,m,p::r,b=>by
  have ih:=gT (lo:=p+1) (m:=m) (a:=r) (b:=b);simp only[aa9,placesOk,bV,ih];constructor
  ·rintro⟨h1,h2,h3,h4⟩;exact⟨⟨h1,h2,h3⟩,h4⟩
  ·rintro⟨⟨h1,h2,h3⟩,h4⟩;exact⟨h1,h2,h3,h4⟩
theorem gU:∀ {lo:Int}{a b:List Int},bV lo (a++b)=bV (bV lo a) b
 | _,[],_=>rfl
 | _,p::r,b=>gU (lo:=p+1) (a:=r) (b:=b)
theorem ao:∀ {lo m:Int}{ps:List Int},placesOk lo m ps->∀ p∈ps,lo<=p/\p<m
 | _,_,[],_,_,hp=>nomatch hp
 | lo,m,q::r,h,p,hp=>by
  rcases w_.mp hp with e | e
  ·rw[e];exact⟨h.1,h.2.1⟩
  ·have:=ao h.2.2 p e;have:=h.1;omega
theorem places_len:∀ {lo m:Int}{ps:List Int},placesOk lo m ps->lo<=m->(ps.length:Int)<=m-lo
 | _,_,[],_,h=>by simp;omega
 | lo,m,p::r,k,h=>by
  have ih:=places_len k.2.2 (by have:=k.2.1;omega);have:=k.1;rw[z_];omega
noncomputable def aM (n:Nat) (ps:List Int):List Int:=(ps.filter fun i=>decide ((n:Int)<=i)).map fun i=>i-n
noncomputable def linesOf (n:Nat) (ps:List Int):List Int:=ps.filter fun i=>decide (i<(n:Int))
theorem d9 {n:Nat}:∀ {lo m:Int}{ps:List Int},placesOk lo m ps->((linesOf n ps).length:Int)<=max ((n:Int)-lo) 0
 | lo,m,[],_=>by simp [linesOf];omega
 | lo,m,p::r,k=>by
  have ih:=d9 (n:=n) k.2.2;have h1:=k.1;unfold linesOf at ih ⊢;by_cases h:p<(n:Int)
  ·rw[Y6 (by simpa using h),z_];omega
  ·rw[Y7 (by simpa using h)];omega
theorem fJ {n:Nat}:∀ {lo m:Int}{ps:List Int},placesOk lo m ps->((aM n ps).length:Int)<=max (m-max (n:Int) lo) 0
 | lo,m,[],_=>by simp [aM];omega
 | lo,m,p::r,k=>by
  have ih:=fJ (n:=n) k.2.2;have h1:=k.1;have h2:=k.2.1;unfold aM at ih ⊢;rw[a_] at ih ⊢;by_cases h:(n:Int)<=p
  ·rw[Y6 (by simpa using h),z_];omega
  ·rw[Y7 (by simpa using h)];omega
theorem hJ {n:Nat}{m:Int}{ps:List Int} (k:placesOk 0 m ps):∀ i∈linesOf n ps,0<=i/\i<(n:Int):=fun i hi=>by
 obtain⟨h1,h2⟩:=Xr.mp hi;exact⟨(ao k i h1).1,by simpa using h2⟩
theorem i9 {n w:Nat}{ps:List Int} (k:placesOk 0 ((n:Int)+(w:Int)) ps):∀ i∈aM n ps,0<=i/\i<(w:Int):=fun i hi=>by
 obtain⟨j,hj,rfl⟩:=m_.mp hi;obtain⟨h1,h2⟩:=Xr.mp hj;have h3:(n:Int)<=j:=by simpa using h2
 have:=(ao k j h1).2;omega
theorem vW {K:e_}{H:Hp}:∀ (ps:List Int),dH K H (ps.map V.int) (ps.map PyData.int)
 | []=>.nil
 | p::r=>.cons (.int _) (vW r)
theorem tW {n:Nat}:∀ (ps:List Int),(linesOf n ps).length+(aM n ps).length=ps.length
 | []=>rfl
 | p::r=>by
  have ih:=tW (n:=n) r;unfold linesOf aM at ih ⊢;rw[a_] at ih ⊢;by_cases h:p<(n:Int)
  ·rw[Y6 (by simpa using h),Y7 (by simp;omega),z_,z_];omega
  ·rw[Y7 (by simpa using h),Y6 (by simp;omega),z_,z_];omega
end SH
namespace L2
open PySem PySem.Spec PyProof.Rows
section
variable {κ:Type} [DecidableEq κ]
noncomputable def dv (kvs:List (κ×V)) (k:κ):l_ V:=(kvs.find? fun kv=>decide (kv.1=k)).map (·.2)
noncomputable def putK (kvs:List (κ×V)) (k:κ) (v:V):List (κ×V) :=
 if (kvs.any fun kv=>decide (kv.1=k))=true then kvs.map (fun kv=>if kv.1=k then (kv.1,v) else kv) else kvs++[(k,v)]
theorem bL {p:κ×V}{r:List (κ×V)}{k:κ} (e:p.1=k):dv (p::r) k=some p.2:=by simp [dv,Yk,e]
theorem bM {p:κ×V}{r:List (κ×V)}{k:κ} (e:¬ p.1=k):dv (p::r) k=dv r k:=by simp [dv,Yk,e]
theorem m8 (k:κ):∀ kvs:List (κ×V),(kvs.any fun kv=>decide (kv.1=k))=(dv kvs k).isSome
 | []=>rfl
 | p::r=>by
  rw[Zj];by_cases e:p.1=k
  ·simp only[bL e,c_ e,Bool.true_or,acu]
  ·rw[bM e,d_ e,ach];exact m8 k r
theorem tX (k j:κ) (y:V):∀ kvs:List (κ×V),dv (kvs.map fun kv=>if kv.1=k then (kv.1,y) else kv) j=(dv kvs j).map fun x=>if j=k then y else x
 | []=>rfl
 | p::r=>by
  have ih:=tX k j y r;rw[p_];by_cases h:p.1=k
  ·rw[s_ h];by_cases e:p.1=j
   ·rw[bL (p:=(p.1,y)) e,bL e,ZH,s_ (e.symm.trans h)]
   ·rw[bM (p:=(p.1,y)) e,bM e,ih]
  ·rw[n_ h];by_cases e:p.1=j
   ·rw[bL (p:=p) e,bL e,ZH,n_ (fun z=>h (e.trans z))]
   ·rw[bM (p:=p) e,bM e,ih]
theorem qu (k j:κ) (y:V):∀ kvs:List (κ×V),dv kvs k=none->dv (kvs++[(k,y)]) j=if j=k then some y else dv kvs j
 | [],_=>by
  by_cases e:k=j
  ·rw[s_ e.symm];exact bL (p:=(k,y)) e
  ·rw[n_ (fun z=>e z.symm)];exact bM (p:=(k,y)) e
 | p::r,hn=>by
  rw[aa9];have hk:¬ p.1=k:=fun z=>by rw[bL z] at hn;cases hn
  rw[bM hk] at hn;have ih:=qu k j y r hn;by_cases e:p.1=j
  ·rw[bL e,bL e,n_ (fun z=>hk (e.trans z))]
  ·rw[bM e,bM e,ih]
theorem AB (kvs:List (κ×V)) (k j:κ) (y:V):dv (putK kvs k y) j=if j=k then some y else dv kvs j:=by
 unfold putK;by_cases a:(kvs.any fun kv=>decide (kv.1=k))=true
 ·rw[s_ a,tX];rw[m8] at a;by_cases e:j=k
  ·obtain⟨x,hx⟩:=aa1.mp a;rw[s_ e,e,hx,ZH,s_ rfl]
  ·rw[n_ e]
   cases dv kvs j with
   | none=>rfl
   | some x=>rw[ZH,n_ e]
 ·rw[n_ a];refine qu k j y kvs ?_;rw[m8] at a
  cases q:dv kvs k with
  | none=>rfl
  | some x=>rw[q] at a;exact (a rfl).elim
theorem tY (kvs:List (κ×V)) (k:κ) (v:V):(putK kvs k v).length<=kvs.length+1:=by
 unfold putK;split
 ·rw[a_];omega
 ·rw[u_,z_,ZI];omega
theorem jC.qv {o:l_ V}{u:l_ Value} (r:jC o u):o.isSome=u.isSome:=by
 cases o with
 | none=>cases u with
  | none=>rfl
  | some _=>exact (show False from r).elim
 | some _=>cases u with
  | none=>exact (show False from r).elim
  | some _=>rfl
theorem KV.val {kvs:List (κ×V)}{vs:List (κ×Value)} (r:KV kvs vs) (k:κ):jC (dv kvs k) (acO vs k):=by
 unfold KV at r
 induction r with
 | nil=>exact XD
 | @cons p q ps qs h t ih =>
  obtain⟨h1,h2⟩:=h;by_cases e:p.1=k
  ·have e':q.1=k:=h1.symm.trans e;have b:acO (q::qs) k=some q.2:=by simp [acO,Yk,e']
   rw[bL e,b];exact h2
  ·have e':¬ q.1=k:=fun z=>e (h1.trans z)
   have b:acO (q::qs) k=acO qs k:=by simp [acO,Yk,e']
   rw[bM e,b];exact ih
theorem KV.any {kvs:List (κ×V)}{vs:List (κ×Value)} (r:KV kvs vs) (k:κ):(kvs.any fun kv=>decide (kv.1=k))=vs.any fun kv=>decide (kv.1=k):=by
 unfold KV at r
 induction r with
 | nil=>rfl
 | cons h t ih=>rw[Zj,Zj,ih,h.1]
theorem KV.Qz {kvs:List (κ×V)}{vs:List (κ×Value)} (r:KV kvs vs) (k:κ) {y:V}{u:Value} (ry:RelV y u) :
  KV (kvs.map fun kv=>if kv.1=k then (kv.1,y) else kv) (vs.map fun kv=>if kv.1=k then (kv.1,u) else kv):=by
 unfold KV at r ⊢
 induction r with
 | nil=>exact .nil
 | @cons p q ps qs h t ih =>
  rw[p_,p_];refine .cons ?_ ih;obtain⟨h1,h2⟩:=h;by_cases e:p.1=k
  ·rw[s_ e,s_ (h1.symm.trans e)];exact⟨h1,ry⟩
  ·rw[n_ e,n_ (fun z=>e (h1.trans z))];exact⟨h1,h2⟩
theorem KV.put {kvs:List (κ×V)}{vs:List (κ×Value)} (r:KV kvs vs) (k:κ) {y:V}{u:Value} (ry:RelV y u):KV (putK kvs k y) (stored vs k u):=by
 unfold putK stored;rw[r.any k];by_cases e:(vs.any fun kv=>decide (kv.1=k))=true
 ·rw[s_ e,s_ e];exact r.Qz k ry
 ·rw[n_ e,n_ e];exact Paired.snoc r ⟨rfl,ry⟩
theorem KV.keys {kvs:List (κ×V)}{vs:List (κ×Value)} (r:KV kvs vs):kvs.map (·.1)=vs.map (·.1):=by
 unfold KV at r
 induction r with
 | nil=>rfl
 | cons h t ih=>rw[p_,p_,ih,h.1]
theorem KV.length {kvs:List (κ×V)}{vs:List (κ×Value)} (r:KV kvs vs):kvs.length=vs.length:=aa0 r
end
theorem AC {P:K_}{w:World}{k:Key}{u:Value} (r:RelV (kV k) u):(aK P w).is k u=true:=by
 cases k with
 | inl i=>obtain⟨t,e⟩:=(show ∃ t,u=aac i t from r);subst e;exact tj P w i t
 | inr x=>obtain⟨t,e⟩:=(show ∃ t,u=aaB x t from r);subst e;exact tm P w x t
theorem qw {P:K_}{w:World}:∀ {ks:List Key}{us:List Value},Vals (ks.map kV) us->ItemsAre (aK P w) ks us
 | [],_,r=>by rw[X2] at r;cases r;exact .nil
 | k::ks,_,r=>by
  rw[p_] at r
  cases r with
  | cons h t=>exact .cons (AC h) (qw t)
abbrev KT (H:Hp):List (List Key×V)->List (List Key×Addr×Value)->Prop:=abl fun p q=>p.1=q.1/\H q.2.1=some (.tup (p.1.map kV))/\RelV p.2 q.2.2
theorem KT.val {H:Hp}{kvs:List (List Key×V)}{xs:List (List Key×Addr×Value)} (r:KT H kvs xs) (k:List Key):jC (dv kvs k) ((atKey xs k).map (·.2)):=by
 induction r with
 | nil=>exact XD
 | @cons p q ps qs h t ih =>
  obtain⟨h1,_,h2⟩:=h;by_cases e:p.1=k
  ·have e':q.1=k:=h1.symm.trans e;have b:atKey (q::qs) k=some q.2:=by simp [atKey,Yk,e']
   rw[bL e,b];exact h2
  ·have e':¬ q.1=k:=fun z=>e (h1.trans z)
   have b:atKey (q::qs) k=atKey qs k:=by simp [atKey,Yk,e']
   rw[bM e,b];exact ih
section
variable {P:K_}{w:World}{H:Hp}{h:Heap}{a:Addr}
theorem EY {u:HO} (ok:iG P w H h) (e:Rd H a u):aS P w H h a u:=e.ok ok
theorem EZ {kvs:List (Key×V)} (ok:iG P w H h) (e:Rd H a (.dK kvs)):kvs.length<=sizeLine/\(a==YX)=false/\∃ vs,KV kvs vs/\h.DictOf (aK P w) a vs :=
 show aS P w H h a (.dK kvs) from EY ok e
theorem LU {kvs:List (Key×V)} (ok:iG P w H h) (e:H a=some (.dK kvs)):kvs.length<=sizeLine/\(a==YX)=false/\∃ vs,KV kvs vs/\h.DictOf (aK P w) a vs:=EZ ok (.inl e)
theorem AE {ks:List Key} (ok:iG P w H h) (e:H a=some (.tup (ks.map kV))):(acW (aK P w)).is h ks a:=by
 obtain⟨_,aj,r,o,h1,h2,n,h3⟩:=(show aS P w H h a (.tup (ks.map kV)) from ok a _ e);exact⟨o,aj.toArray,n,h1,h2,h3,by simpa using qw r⟩
theorem LV {kvs:List (List Key×V)} (ok:iG P w H h) (e:Rd H a (.dT kvs)):kvs.length<=sizeLine/\(a==YX)=false /\
  ∃ xs,KT H kvs xs/\h.DictOfH (acW (aK P w)) a xs:=by
 obtain⟨z,y,xs,r,o,es,ep,h1,h2,h3,h4,h5⟩:=(show aS P w H h a (.dT kvs) from EY ok e);refine⟨z,y,xs,r,o,es,ep,h1,h2,h3,h4,fun x hx=>?_,h5⟩
 have all:∀ {l:List (List Key×V)}{m:List (List Key×Addr×Value)},KT H l m->∀ x∈m,(acW (aK P w)).is h x.1 x.2.1:=by
  intro l m q
  induction q with
  | nil=>intro x hx;exact nomatch hx
  | @cons p q ps qs hq t ih =>
   intro x hx;rcases w_.mp hx with e | hx
   ·subst e;exact AE ok (by rw[←hq.1];exact hq.2.1)
   ·exact ih x hx
 exact all r x hx
end
def AF (H:Hp) (a:Addr) (y:V) (r:l_ V):Prop :=
 (∃ kvs k,Rd H a (.dK kvs)/\y=kV k/\r=dv kvs k)∨∃ kvs k b,Rd H a (.dT kvs)/\y=.ref b/\H b=some (.tup (k.map kV))/\r=dv kvs k
theorem AF.k {H:Hp}{a:Addr}{kvs:List (Key×V)}{k:Key} (e:H a=some (.dK kvs)):AF H a (kV k) (dv kvs k):=.inl ⟨kvs,k,.inl e,rfl,rfl⟩
section
variable {X:Cx}{pins:List (Addr×Obj)}{σ:St}{H:Hp}{s:h_}{a:Addr}{y v:V}{u r:Value}{o:l_ V}{A:Xw}{E:Value->h_->Prop}
theorem Inv.big (I:Inv X pins σ H s):YX<s.heap.objs.size:=by
 have h:mainGlobals<s.heap.objs.size:=(I.mod.glob.keeps I.bk).lt;exact acM (by decide) h
theorem QA {Q:Value->h_->Prop} (hu:A.units+1<cLine) (I:Inv X pins σ H s) (g:AF H a y o) (ry:RelV y u) (h:∀ s',Inv X pins σ H s'->Q (.bool o.isSome) s') :
  wpAny (model X.prog X.w) A (Xl .In u (.ref a)) Q E s:=by
 rcases g with ⟨kvs,k,e,ey,l⟩ | ⟨kvs,k,b,e,ey,eb,l⟩
 ·subst ey;obtain⟨z,hd,vs,rel,dd⟩:=EZ I.aY e;refine wpAny_in_of (AC ry) hd dd.mapOf ?_;rw[←(rel.val k).qv,←l];exact h _ (I.tok _)
 ·subst ey
  cases (show u=Xe b from ry)
  obtain⟨z,hd,xs,rel,dd⟩:=LV I.aY e;refine wpAny_in_heap (tupleKind_room_in1 hu) (AE I.aY eb) hd dd ?_;have q:=(rel.val k).qv;rw[Option.isSome_map] at q;rw[←q,←l];exact h _ (I.tok _)
theorem Dr {h':Heap}{t':Nat}{ob:HO} (I:Inv X pins σ H s) (mu:KS (H a)) (hs:Zb a s.heap h') (he:∃ q,h'.get? a=some q) (new:aS X.prog X.w (upd H a ob) h' a ob) :
  Inv X pins σ (upd H a ob) { s with heap:=h',toks:=t' } :=
 I.write (x:=a) (e:=a) mu (.inl rfl) (fun b q hb z=>(hs.2 b hb).trans z) he new
theorem G8 {P:K_}{w:World}{H':Hp}{h':Heap}{kvs:List (Key×V)}{vs:List (Key×Value)} (z:kvs.length<=sizeLine) (hd:(a==YX)=false) (rel:KV kvs vs) (dd:h'.DictOf (aK P w) a vs) :
  aS P w H' h' a (.dK kvs):=⟨z,hd,vs,rel,dd⟩
end
def G9 (i:Expr):Prop:=∀ ov iv,abT i false ov iv=operate [ov,iv] (adp ov iv)
theorem Ds {prog:K_}{w:World}{A:Xw}{E:Value->h_->Prop}{s:h_}{env:Env}{value slice:Expr}{pos:Pos}{T id:ZK}{Q:Value->h_->Prop}
  (hl:typeLookup (.type T) "__getitem__" = pure (some (.builtin id))) (hs:G9 slice)
  (h:wpAny (model prog w) A (eval value env) (fun o s₁=>wpAny (model prog w) A (eval slice env) (fun i s₂=>s₂.TypeIs o T/\wpAny (model prog w) A (adp o i) Q E s₂) E s₁) E s) :
  wpAny (model prog w) A (eval (.Subscript value slice pos) env) Q E s:=by
 refine Subscript_ (XW h (fun o s₁ h₁=>XW h₁ (fun i s₂ h₂=>?_) fun _ _ x=>x) fun _ _ x=>x);obtain⟨hT,h₂⟩:=h₂;unfold acf;refine g_ ?_;rw[getitemInPython_of_ne hT.not_modules];refine g_ (ZJ hT hl ?_)
 have fin:wpAny (model prog w) A (abT slice false o i) (fun r s₃=>wpAny (model prog w) A (letTemporaryGo value o r >>= fun _=>pure r) Q E s₃) E s₂:=by
  rw[hs o i];exact wpAny_operating (XW h₂ (fun r s₃ h₃=>g_ (wpAny_letTemporaryGo (y_ h₃))) fun _ _ x=>x)
 first
  | exact y_ (g_ fin)
  | exact g_ (y_ (g_ fin))
  | exact g_ fin
def LW (ty td:TE):TE:=fun σ H Q=>ty σ H fun y H1=>td σ H1 fun x H2=>∃ a o,x=.ref a/\AF H2 a y o/\Q (.bl o.isSome) H2
section
variable {X:Cx}{o i e value:Expr}{pos pos' Lo:Pos}{td ty tv:TE}
theorem AG (hu:X.A.units+1<cLine) (hi:PE X i ty) (ho:PE X o td):PC X .In i o (LW ty td):=by
 intro pins s σ H Q I h;refine aZ (hi pins s σ H _ I h) fun iv s1 ⟨y,H1,I1,ry,q1⟩=>aZ (ho pins s1 σ H1 _ I1 q1) fun u s2 ⟨x,H2,I2,rx,a,ov,ex,g,q2⟩=>?_
 subst ex;obtain rfl:u=Xe a:=rx;exact QA hu I2 g ry fun s3 I3=>⟨.bl ov.isSome,H2,I3,rfl,q2⟩
end
structure M1 (X:Cx) (o:Expr) (m:Str) (apos:Pos) (e:Expr) (bC:Pos):Prop where
 base:YZ o m X.env (eval o X.env)=eval o X.env
 Uu:((Yq bC (M_ [e] X.env)).all (fun x => !x.1)&&(aaH bC (Zp [] X.env)).all (fun x=>x.1.isSome)
  && decide (([e]:List Expr).length+([]:List aal).length+(if ([]:List aal).isEmpty then 0 else 1)<30))=true
 line:(apos.endLine==bC.line)=true
 trees:Yq bC (M_ [e] X.env)=[(false,eval e X.env)]
structure M2 (X:Cx) (o:Expr) (m:Str) (apos:Pos) (e f:Expr) (bC:Pos):Prop where
 base:YZ o m X.env (eval o X.env)=eval o X.env
 Uu:((Yq bC (M_ [e,f] X.env)).all (fun x => !x.1)&&(aaH bC (Zp [] X.env)).all (fun x=>x.1.isSome)
  && decide (([e,f]:List Expr).length+([]:List aal).length+(if ([]:List aal).isEmpty then 0 else 1)<30))=true
 line:(apos.endLine==bC.line)=true
 trees:Yq bC (M_ [e,f] X.env)=[(false,eval e X.env),(false,eval f X.env)]
end L2
namespace PySem
open Sem (wp)
theorem Du:typeLookup (.type "list") "keys" = pure none:=by rw[typeLookup_type,builtinLookup_eq_fast];kernel_rfl
theorem na {prog:K_}{w:World}{A:Xw}{E:Value->h_->Prop}{s:h_}{a:Addr}{o:Obj}{xs:Array Value}{k:Nat}{Q:l_ Value->h_->Prop}
  (hx:s.heap.get? a=some o) (hc:o.cls=.type "list") (tZ:o.data=.seq xs k) (hd:o.dict=none) (hA:A.handled=none)
  (h:∀ h' tk,(∀ b ob,s.heap.get? b=some ob->h'.get? b=some ob)->Q none { s with heap:=h',toks:=tk }) :
  wpAny (model prog w) A (getAttr? (.ref a) "keys") Q E s:=by
 obtain⟨c,yL,dat,sl⟩:=o;simp only at hc tZ hd;subst hc tZ hd;obtain⟨hp,g,d,tk,os⟩:=s;have hT:∀ LX,(⟨hp,g,d,LX,os⟩:h_).TypeIs (.ref a) "list" := fun _=>⟨_,hx,rfl⟩
 have f1:=sub_AttributeError;have f3:=ZE.lookup;have f4:=ZE.bind (.ref a);have f5:=am_list_getattr_none;unfold getAttr? getAttrBy? getAttrBy
 repeat (any_goals (first | assumption | exact hT _ | ((with_reducible show wpAny _ _ (call (adJ "list.__getattribute__") _ _) _ _ _);refine acs ZE (hT _) am_entry_list_getattribute (F.args_list_getattribute_2 _ _) (meets_getattribute_miss_list a xs k sl "keys" _ Du (by decide +kernel)) ⟨hx,hA,fun h' LX e t6=>?_⟩) | wp_step))
 obtain⟨t',u',he⟩:=t6.there;show wpAny _ _ (getattributeRaised _ _ _ _ _ _ _) _ _ _;unfold getattributeRaised
 repeat (any_goals (first | assumption | wp_step))
 exact h h' LX t6.keeps
end PySem
namespace L2
open PySem PySem.Spec PyProof.Rows
theorem lB:entryFor table "dict.update.loop" = some aaz.«dict.update.loop»:=entryFor_of_tree (by kernel_rfl)
theorem lC:plainId "dict.update.loop" = true:=by decide +kernel
section
variable {prog:K_}{w:World}{A:Xw}{E:Value->h_->Prop}
theorem yM {d it l:Addr}{Q:Value->h_->Prop} (hA:A.handled=none) (yN:d≠it) (jz:d≠l) (QB:it≠l) (items:List Value) (kH:List (Key×Value)) (hsz:kH.length<=900) :
  ∀ (m i:Nat) (s:h_) (kvs:List (Key×Value)),items.length=i+m->kvs.length<=i->s.heap.IsListIter it l i->s.heap.IsList l items.toArray ->
   (∀ (j:Nat) (x:Value) (p:Key×Value),items[j]? = some x->kH[j]? = some p->∃ (t:Addr) (ku:Value),x=Xe t/\t≠d/\t≠it/\s.heap.IsTuple t #[ku,p.2]/\(aK prog w).is p.1 ku=true) ->
   items.length=kH.length->s.heap.DictOf (aK prog w) d kvs ->
   (∀ h' tk,(∀ b o,b≠d->b≠it->s.heap.get? b=some o->h'.get? b=some o)->h'.DictOf (aK prog w) d ((kH.drop i).foldl (fun a p=>stored a p.1 p.2) kvs)->Q .none { s with heap:=h',toks:=tk }) ->
   Zt (model prog w) A (.builtin "dict.update.loop" ⟨[.ref d,.ref it,YG i,.none],[]⟩) (wants Q E) s:=by
 intro m
 induction m with
 | zero =>
  intro i s kvs hn hk hit hl hp hlen hd hQ;refine YM lB ?_;rw[Yd lC];unfold aaz.«dict.update.loop»;refine g_ (abJ (by exact hA) hit hl (by simp;omega) fun h' hx=>?_);refine g_ (y_ ?_);refine y_ ?_;have oZ:kH.drop i=[]:=Z2 (by omega);rw[oZ] at hQ;exact hQ h' s.toks (fun b o _ hb e=>hx b o hb e) (hd.extBut hx yN)
 | succ m ih =>
  intro i s kvs hn hk hit hl hp hlen hd hQ;have hi:i<items.length:=by omega
  have SI:i<kH.length:=by omega
  have ex:=b_ hi;have ep:=b_ SI;obtain⟨t,ku,et,WO,Uv,QC,Gw⟩:=hp i _ _ ex ep;refine YM lB ?_;rw[Yd lC];unfold aaz.«dict.update.loop»;refine g_ (abo hit hl (x:=items[i]) (by simpa using ex) fun h1 QD QE=>?_);rw[et]
  have LY:h1.IsTuple t #[ku,kH[i].2]:=by
   obtain⟨o,ho,r⟩:=QC;exact⟨o,(QE.2 t Uv).trans ho,r⟩
  have Uw:h1.DictOf (aK prog w) d kvs:=hd.sameBut QE yN
  have hT:(⟨h1,s.gens,s.drawn,s.toks,s.os⟩:h_).TypeIs (.ref t) "tuple" := by
   obtain⟨o,ho,hc,r⟩:=LY;exact⟨_,ho,hc⟩
  refine g_ (ZF (g_ (wpAny_tryCatch ?_)));unfold Builtin.Dict.pairItems;refine g_ (wpAny_typeOf hT ?_);rw[s_ (by decide +kernel)];obtain⟨o,ho,hc,n,tZ⟩:=id LY;refine g_ (aaI (s:=⟨h1,s.gens,s.drawn,s.toks,s.os⟩) ho tZ ?_);refine y_ ?_
  have hz:kvs.length<=sizeLine:=by
   have h9:(1000:Nat)<=sizeLine:=by decide
   omega
  show wpAny _ _ (aaR [ku,kH[i].2] (dictSet d ku kH[i].2)) _ _ _;refine ZF (wpAny_dictSet_pairs (s:=⟨h1,s.gens,s.drawn,s.toks,s.os⟩) Gw Uw (fun h2 hd2 SJ=>?_) hz);refine y_ ?_;refine⟨aaJ _ (by decide +kernel),?_⟩;have e1:YG ((i:Int)+1)=YG ((i+1:Nat):Int):=rfl;have kp:∀ b o,b≠d->b≠it->s.heap.get? b=some o->h2.get? b=some o:=fun b o Ky oX e=>(SJ.2 b Ky).trans ((QE.2 b oX).trans e)
  rw[e1];refine ih (i+1) ⟨h2,s.gens,s.drawn,s.toks+1,s.os⟩ (stored kvs kH[i].1 kH[i].2) (by omega) ?_ ?_ ?_ ?_ hlen hd2 ?_
  ·unfold stored;split
   ·rw[a_];omega
   ·rw[u_,R_];omega
  ·exact QD.at fun o e=>(SJ.2 it (YE yN)).trans e
  ·exact hl.at fun o e=>kp l o (YE jz) (YE QB) e
  ·intro j x p hx jy;obtain⟨t',Ux,e',a1,a2,⟨o',kA,r'⟩,a4⟩:=hp j x p hx jy;exact⟨t',Ux,e',a1,a2,⟨o',kp t' o' a1 a2 kA,r'⟩,a4⟩
  ·intro h' tk k2 oZ;refine hQ h' tk (fun b o Ky oX e=>k2 b o Ky oX (kp b o Ky oX e)) ?_;rw[XM SI];exact oZ
end
end L2
namespace L2
open PySem PySem.Spec PyProof.Rows
theorem KV.fold {ks:List (Key×V)}{us:List (Key×Value)} (r:KV ks us):∀ {a:List (Key×V)}{b:List (Key×Value)},KV a b->KV (ks.foldl (fun a p=>putK a p.1 p.2) a) (us.foldl (fun a p=>stored a p.1 p.2) b):=by
 induction r with
 | nil=>intro a b h;exact h
 | @cons p q ps qs h t ih =>
  intro a b zI;refine ih ?_;obtain⟨e,rv⟩:=h;show KV (putK a p.1 p.2) (stored b q.1 q.2);rw[←e];exact KV.put zI p.1 rv
theorem AH (ks:List (Key×V)):∀ a:List (Key×V),(ks.foldl (fun a p=>putK a p.1 p.2) a).length<=a.length+ks.length:=by
 induction ks with
 | nil=>intro a;exact t_ _
 | cons p ps ih =>
  intro a;have h1:=ih (putK a p.1 p.2);have h2:=tY a p.1 p.2;rw[Zi,z_];omega
section
variable {X:Cx}
def Ha (K:e_):List V->Hp->VK->Prop:=fun xs H Q=>∃ (l:Addr) (ys:List V) (kH:List (Key×V)),xs=[.ref l]/\cS K H l ys/\ys.length=kH.length/\kH.length<=900 /\
 (∀ (j:Nat) (y:V) (p:Key×V),ys[j]? = some y->kH[j]? = some p->∃ t,y=.ref t/\H t=some (.tup [kV p.1,p.2]))/\∀ d,H d=none->Q (.ref d) (upd H d (.dK (kH.foldl (fun a p=>putK a p.1 p.2) [])))
theorem nb (hc:X.calm=true):bj X (.type "dict") (Ha X.K):=by
 intro pins s σ H xs us Q I r h;obtain⟨l,ys,kH,rfl,hq,hlen,hsz,hp,q⟩:=h;obtain⟨u,rfl,rx⟩:=vals1 r
 cases rx
 obtain⟨aj,rv,pl,hz⟩:=I.list hq;have WP:=rv.length;have hA:X.A.handled=none:=I.ok.hd hc
 have Hb:∃ us:List (Key×Value),KV kH us/\∀ (j:Nat) (x:Value) (p:Key×Value),aj[j]? = some x->us[j]? = some p->∃ (t:Addr) (ku:Value),x=Xe t/\s.heap.IsTuple t #[ku,p.2]/\(aK X.prog X.w).is p.1 ku=true:=by
  clear hq pl hz q r
  have gen:∀ (kH:List (Key×V)) (ys:List V) (aj:List Value),Vals ys aj->ys.length=kH.length->(∀ (j:Nat) (y:V) (p:Key×V),ys[j]? = some y->kH[j]? = some p->∃ t,y=.ref t/\H t=some (.tup [kV p.1,p.2])) ->
    ∃ us:List (Key×Value),KV kH us/\∀ (j:Nat) (x:Value) (p:Key×Value),aj[j]? = some x->us[j]? = some p->∃ (t:Addr) (ku:Value),x=Xe t/\s.heap.IsTuple t #[ku,p.2]/\(aK X.prog X.w).is p.1 ku=true:=by
   intro kH
   induction kH with
   | nil=>intro ys aj rv hl _;exact⟨[],.nil,fun j x p _ e=>by simp at e⟩
   | cons p ps ih =>
    intro ys aj rv hl hp
    cases rv with
    | nil=>simp at hl
    | @cons y u ys Dv ru Uy =>
     obtain⟨us,k1,k2⟩:=ih ys Dv Uy (by simpa using hl) fun j y' p' h1 h2=>hp (j+1) y' p' h1 h2
     obtain⟨t,e,ht⟩:=hp 0 y p rfl rfl;subst e
     cases ru
     obtain⟨WQ,tv,tp,_⟩:=I.tuple (eC.of ht)
     cases tv with
     | cons rk Uz =>
      cases Uz with
      | cons UA UB =>
       cases UB
       rename_i ku vu;refine⟨(p.1,vu)::us,.cons ⟨rfl,UA⟩ k1,fun j x p' h1 h2=>?_⟩
       cases j with
       | zero =>
        simp at h1 h2;subst h1 h2;exact⟨t,ku,rfl,tp,AC rk⟩
       | succ j=>exact k2 j x p' h1 h2
  exact gen kH ys aj rv hlen hp
 obtain⟨us,kv,UC⟩:=Hb;have WR:=kv.length;obtain⟨o,n,ho,Kv,UD,tZ⟩:=pl;refine callType_codes (Q₁:=fun obj s₁=>obj=.ref s.heap.objs.size/\s₁={ s with heap:=s.heap.push { cls:=.type "dict",data:=.dict #[] } }) PySem.F.kt_called_dict (PySem.F.kt_typeCall_dict_1 _) PySem.F.entry_dict_init (kt_code_dict_new _ ⟨rfl,rfl⟩) ?_;rintro obj s₁ ⟨rfl,rfl⟩;have Hd:(s.heap.push { cls:=.type "dict",data:=.dict #[] }).DictOf (aK X.prog X.w) s.heap.objs.size []:=Heap.DictOf.new s.heap;have QF:∀ b o,s.heap.get? b=some o->(s.heap.push { cls:=.type "dict",data:=.dict #[] }).get? b=some o:=fun b o e=>o_ _ e
 refine⟨Hd.typeIs,PySem.F.args_dict_init_2 _ _,?_⟩;unfold aaz.«dict.__init__»;refine g_ ?_;unfold Builtin.Dict.selfAndRest;refine g_ (wpAny_notOrdered_dict Hd.typeIs ?_);show wpAny _ _ (pure (s.heap.objs.size,[Xe l])) _ _ _;refine y_ ?_;show wpAny _ _ (aa_ "dict.__init__" s.heap.objs.size (.ref l) [] .none) _ _ _;unfold aa_;generalize hP:s.heap.push { cls:=.type "dict",data:=.dict #[] }=SK at *;have UE:(⟨SK,s.gens,s.drawn,s.toks,s.os⟩:h_).TypeIs (.ref l) "list" := ⟨_,QF _ _ ho,Kv⟩;refine g_ (wpAny_typeOf UE ?_);rw[s_ (by decide +kernel)];refine g_ (na (s:=⟨SK,s.gens,s.drawn,s.toks,s.os⟩) (QF _ _ ho) Kv tZ UD hA fun h2 UF SM=>?_)
 rw[s_ (show (none:l_ Value).isNone=true from rfl)];refine g_ (wpAny_rule ?_);have AI:∀ b o,s.heap.get? b=some o->h2.get? b=some o:=fun b o e=>SM b o (QF b o e)
 have Dh:h2.IsList l aj.toArray:=⟨o,AI _ _ ho,Kv,n,tZ⟩;refine g_ (Z0 (s:=⟨h2,s.gens,s.drawn,UF,s.os⟩) Dh ?_);refine y_ ?_;refine⟨aaJ _ (by decide +kernel),?_⟩
 have hd2:h2.DictOf (aK X.prog X.w) s.heap.objs.size []:=by
  obtain⟨o',es,ep,kA,r'⟩:=Hd;exact⟨o',es,ep,SM _ _ kA,r'⟩
 have UG:s.heap.objs.size<h2.objs.size:=by
  obtain⟨o',es,ep,kA,r'⟩:=hd2;exact B_ kA
 have UH:l<h2.objs.size:=B_ (AI _ _ ho);have He:∀ b o,s.heap.get? b=some o->b≠s.heap.objs.size:=fun b o e=>T_ (B_ e)
 have QG:∀ b o,s.heap.get? b=some o->∀ x,(h2.push x).get? b=some o:=fun b o e x=>o_ _ (AI b o e)
 refine yM (d:=s.heap.objs.size) (it:=h2.objs.size) (l:=l) (by exact hA) (T_ UG) (YE (He _ _ ho)) (YE (T_ UH)) aj us (by omega) aj.length 0 _ [] (by omega) (Yb _) ⟨_,A_ _ rfl,rfl,rfl⟩ ⟨o,QG _ _ ho _,Kv,n,tZ⟩ ?_ (by omega) ?_ ?_
 ·intro j x p h1 UI;obtain⟨t,ku,e,⟨ot,Hf,rt⟩,hk⟩:=UC j x p h1 UI;exact⟨t,ku,e,He _ _ Hf,T_ (B_ (AI _ _ Hf)),⟨ot,QG _ _ Hf _,rt⟩,hk⟩
 ·obtain⟨o',es,ep,kA,r'⟩:=hd2;exact⟨o',es,ep,o_ _ kA,r'⟩
 ·intro h' tk k3 oZ;refine⟨rfl,.ref s.heap.objs.size,_,I.laid (a:=s.heap.objs.size) (o:=.dK (kH.foldl (fun a p=>putK a p.1 p.2) [])) (t':=tk) (fun b q C5=>?_) (t_ _) (G8 ?_ (X5.mpr (YE (T_ I.big))) (kv.fold .nil) oZ),rfl,q _ (I.aY.fresh (t_ _))⟩
  ·exact k3 b q (He _ _ C5) (T_ (B_ (AI _ _ C5))) (QG _ _ C5 _)
  ·have h9:(1000:Nat)<=sizeLine:=by decide
   have h8:=AH kH [];rw[ZI] at h8;omega
end
end L2
namespace PySem
open Sem (wp)
section
variable {prog:K_}{w:World}{A:Xw}{E:Value->h_->Prop}{s:h_}
theorem vX {it t:Addr}{i:Nat}{items:Array Value}{x:Value}{Q:Value->h_->Prop} (hI:s.heap.IsTupleIter it t i) (hT:s.heap.IsTuple t items) (hx:items[i]? = some x)
  (q:∀ h',h'.IsTupleIter it t (i+1)->Zb it s.heap h'->Q x { s with heap:=h' }):wpAny (model prog w) A (YH (.ref it)) Q E s:=by
 obtain⟨oi,E1,SN,yN⟩:=id hI;obtain⟨ot,Hf,_,nt,QH⟩:=hT;unfold YH;refine g_ (abb (name:=YS "__next__") hI.typeIs Yz (aae Yz hI.typeIs aaA ?_ (aar _)));refine g_ (m:=field (.ref it) 0) (ZP E1 yN (x:=.ref t) rfl ?_);dsimp only;rw[n_ (show ¬ ((Xe t==Za)=true) by exact r_)];refine g_ (m:=field (.ref it) 1) (ZP E1 yN (x:=.int i 0) rfl ?_);refine g_ (m:=seqItems? (.ref t)) (aaI Hf QH ?_);simp only[i_,hx];refine g_ (wpAny_setField E1 yN (by simp) (y_ ⟨x,rfl,y_ (q _ ⟨_,abK _ E1 (Obj.isFreed_of_fields (acw yN _)),(Obj.cls_mapFields ..).trans SN,?_⟩ (Zw ..))⟩));rw[acw yN];simp [YG]
theorem yO {it t:Addr}{i:Nat}{items:Array Value}{Q:Value->h_->Prop} (hh:A.handled=none) (hI:s.heap.IsTupleIter it t i) (hT:s.heap.IsTuple t items) (hx:items[i]? = none)
  (q:∀ h' e,Heap.ExtBut it s.heap h'->(∃ o,h'.get? e=some o/\o.cls=.type "StopIteration")->E (.ref e) { s with heap:=h' }):wpAny (model prog w) A (YH (.ref it)) Q E s:=by
 obtain⟨oi,E1,SN,yN⟩:=id hI;obtain⟨ot,Hf,_,nt,QH⟩:=hT;unfold YH;refine g_ (abb (name:=YS "__next__") hI.typeIs Yz (aae Yz hI.typeIs aaA ?_ (aar _)));refine g_ (m:=field (.ref it) 0) (ZP E1 yN (x:=.ref t) rfl ?_);dsimp only;rw[n_ (show ¬ ((Xe t==Za)=true) by exact r_)];refine g_ (m:=field (.ref it) 1) (ZP E1 yN (x:=.int i 0) rfl ?_);refine g_ (m:=seqItems? (.ref t)) (aaI Hf QH ?_);simp only[i_,hx];refine g_ (wpAny_rule (g_ (wpAny_setField E1 yN (by simp) (g_ (m:=newExc (.type "StopIteration") []) ?_))));simp only[newExc,newTuple];refine g_ (ZZ (g_ (m:=firstArgMember _ _) (YT (a:=Za) (by first | rfl | (simp only[firstArgMember];rfl)) (ZZ ?_ (by size_fits)))) (by size_fits))
 simp only[raiseNew];refine g_ (wpAny_handled ?_)
 first | rw[show A.in1.handled=none by exact hh] | rw[hh]
 exact g_ (y_ (wpAny_throw (q _ _ (((Zw ..).extBut.push _).push _) ⟨_,A_ _ rfl,rfl⟩)))
theorem Draws.tup (hh:A.handled=none) (it t:Addr) (LZ:t≠it) (items:Array Value):Draws prog w A it [it,t] items.size (fun i v=>items[i]? = some v) (fun i h=>h.IsTupleIter it t i/\h.IsTuple t items) where
 live:=fun _ _ st=>let ⟨o,ho,_⟩:=st.1;⟨o,ho⟩
 frame:=fun _ _ _ st hk=>⟨st.1.at fun o e=>hk it (by simp) o e,let ⟨o,ho,r⟩:=st.2;⟨o,hk t (by simp) o ho,r⟩⟩
 item:=fun i s Q E hi st hQ=>by
  refine vX st.1 st.2 (x:=items[i]) (by simp [hi]) fun h' QI CD=>hQ _ h' s.toks (by simp [hi]) ⟨QI,?_⟩ CD
  obtain⟨o,ho,r⟩:=st.2;exact⟨o,(CD.2 t LZ).trans ho,r⟩
 done:=fun s Q E st hE=>yO hh st.1 st.2 (by simp) hE
theorem t7 (l:Addr) (items:Array Value) (n:Nat) (yL:l_ Addr) (sl:Array (l_ Value)) :
  Meets (aaz.«enumerate.__new__» ⟨[.type "enumerate",.ref l],[]⟩) (fun _ R s=>s.heap.get? l=some { cls:=.type "tuple",dict:=yL,data:=.seq items n,slots:=sl } /\
   R (.ok (.ret (.ref (s.heap.push { cls:=.type "tuple_iterator",data:=.fields #[.ref l,.int 0 0] }).objs.size)))
    { s with heap:=(s.heap.push { cls:=.type "tuple_iterator",data:=.fields #[.ref l,.int 0 0] }).push { cls:=.type "enumerate",data:=.fields #[.none,.bool false,.ref s.heap.objs.size,YG 0,.none,.none] } }) :=
 .of_wp fun prog w A R s h=>by
  obtain⟨hp,g,d,tk,os⟩:=s;obtain⟨hl,h⟩:=h;have UJ:=sub_enumerate;have hL:Heap.IsTuple (Shared.heap ⟨hp,g,d,tk,os⟩) l items:=⟨_,hl,rfl,n,rfl⟩
  wp_walk using abG hl
  refine wpAny_stack_any fun st=>y_ ?_
  split
  ·rename_i c _ _ _ _ _
   cases (c==Yy "enumerate")<;>(wp_walk using abG hl,aaK hL;exact⟨_,rfl,h⟩)
  ·wp_walk using abG hl,aaK hL
   exact⟨_,rfl,h⟩
theorem vY {l:Addr}{items:Array Value}{Q:Value->h_->Prop} (hL:s.heap.IsTuple l items)
  (h:∀ h',IsEnum h' (s.heap.objs.size+1) s.heap.objs.size 0 .none->h'.IsTupleIter s.heap.objs.size l 0->h'.objs.size=s.heap.objs.size+2->(∀ b o,s.heap.get? b=some o->h'.get? b=some o)->Q (.ref (s.heap.objs.size+1)) { s with heap:=h' }) :
  wpAny (model prog w) A (call (.type "enumerate") [.ref l]) Q E s:=by
 obtain⟨⟨c,yL,dt,sl⟩,hl,hc,n,hd⟩:=hL
 replace hc:c=.type "tuple" := hc
 replace hd:dt=.seq items n:=hd
 subst hc hd;refine callType_new F.called_enumerate (by decide) (F.typeCall_enumerate_1 _) (F.newCall_enumerate_1 _) (fun obj=>F.args_object_init_2 obj _) F.entry_enumerate_new (t7 l items n yL sl) ⟨hl,?_⟩;generalize hI:({ cls:=.type "tuple_iterator",data:=.fields #[.ref l,.int 0 0] }:Obj)=oi;have hz:(s.heap.push oi).objs.size=s.heap.objs.size+1:=Ya ..;show _/\_;rw[hz]
 have he:IsEnum ((s.heap.push oi).push { cls:=.type "enumerate",data:=.fields #[.none,.bool false,.ref s.heap.objs.size,YG 0,.none,.none] }) (s.heap.objs.size+1) s.heap.objs.size 0 .none:=by
  have g:=A_ (s.heap.push oi) (o:={ cls:=.type "enumerate",data:=.fields #[.none,.bool false,.ref s.heap.objs.size,YG 0,.none,.none] }) rfl;rw[hz] at g;exact g
 subst hI;exact⟨⟨_,he,rfl⟩,h _ he ⟨_,o_ _ (A_ _ rfl),rfl,rfl⟩ (by rw[Ya,hz]) fun b o x=>o_ _ (o_ _ x)⟩
end
end PySem
namespace L2
open PySem PySem.Spec PyProof.Rows
theorem Inv.Dw {X:Cx}{pins:List (Addr×Obj)}{σ:St}{H:Hp}{s:h_}{h':Heap}{t':Nat}{ch:List Addr} (I:Inv X pins σ H s) (sY:∀ b∈ch,lP X pins H b) (k:∀ b o,b∉ch->s.heap.get? b=some o->h'.get? b=some o):Inv X pins σ H { s with heap:=h',toks:=t' }:=by
 have EM:∀ b u,H b=some u->b∉ch:=fun b u e z=>by rw[(sY b z).1] at e;cases e
 refine I.step (g':=s.gens) (d':=s.drawn) (ch:=ch) (fun b hb=>?_) (fun b o _ _ hc e _=>k b o hc e) (fun b o _ _ hc e _=>⟨o.slots,k b o hc e⟩) (fun _ _ _ _ n=>n) (fun b o hc e=>⟨o,k b o hc e⟩) (fun _ _ e=>e) (fun _ _ _ e=>e) (fun b ps e=>⟨#[],by rw[e];simp⟩) (fun m hm=>?_) (fun b u e=>?_) I.bare
 ·obtain⟨f0,f1,f2,f3,f4,f5⟩:=sY b hb;exact⟨f3,f1,f4,f5⟩
 ·obtain⟨o,es,ep,ho,r⟩:=hm;exact⟨o,es,ep,k _ o (fun z=>(sY _ z).2.1 rfl) ho,r⟩
 ·refine (I.aY b u e).tu (fun c v hc q=>k c v ?_ q) (fun _ q=>q) fun _ _ q=>q
  rcases hc with z | z
  ·rw[z];exact EM b u e
  ·exact EM c _ z
theorem Inv.vZ {X:Cx}{pins:List (Addr×Obj)}{σ:St}{H:Hp}{s:h_}{h':Heap}{t':Nat}{ch:List Addr}{T:Addr}{ob:HO} (I:Inv X pins σ H s) (sY:∀ b∈ch,lP X pins H b) (k:∀ b o,b∉ch->s.heap.get? b=some o->h'.get? b=some o)
  (hT:s.heap.objs.size<=T) (new:aS X.prog X.w (upd H T ob) h' T ob):Inv X pins σ (upd H T ob) { s with heap:=h',toks:=t' }:=by
 have hn:H T=none:=I.aY.fresh hT;have EM:∀ b u,H b=some u->b∉ch:=fun b u e z=>by rw[(sY b z).1] at e;cases e
 have up:∀ b u,H b=some u->(upd H T ob) b=some u:=fun b u e=>by rw[aw (aA e hn)];exact e
 refine I.step (g':=s.gens) (d':=s.drawn) (ch:=ch) (fun b hb=>?_) (fun b o _ _ hc e _=>k b o hc e) (fun b o _ _ hc e _=>⟨o.slots,k b o hc e⟩) (fun b o _ e n=>?_) (fun b o hc e=>⟨o,k b o hc e⟩) (fun b _ e=>up b _ e) (fun b _ _ e=>up b _ e) (fun b ps e=>⟨#[],by rw[up b _ e];simp⟩) (fun m hm=>?_) (fun b u e=>?_) I.bare
 ·obtain⟨f0,f1,f2,f3,f4,f5⟩:=sY b hb;exact⟨f3,f1,f4,f5⟩
 ·rw[aw (T_ (D_ (B_ e) hT))];exact n
 ·obtain⟨o,es,ep,ho,r⟩:=hm;exact⟨o,es,ep,k _ o (fun z=>(sY _ z).2.1 rfl) ho,r⟩
 ·by_cases hb:b=T
  ·subst hb;rw[ay] at e;cases e;exact new
  ·rw[aw hb] at e;refine (I.aY b u e).tu (fun c v hc q=>k c v ?_ q) (fun c q=>up c _ q) fun c _ q=>up c _ q
   rcases hc with z | z
   ·rw[z];exact EM b u e
   ·exact EM c _ z
noncomputable def Hg (K:e_) (a:Addr):It :=
 ⟨fun i H=>∃ xs x,eC K H a xs/\xs[i]? = some x,fun i H v H'=>∃ T x,H T=none/\v=.ref T/\(∀ xs,eC K H a xs->xs[i]? = some x)/\H'=upd H T (.tup [.int i,x]),fun i H=>∃ xs,eC K H a xs/\xs.length=i⟩
theorem v0 {P:K_}{w:World}{K:e_}{elts:List Expr}{kk:Nat}{tp:Pos} (e it a:Addr) (O7:e≠it):Turn P w K (.Tuple elts kk tp) (Hg K a) [e,it] e (fun i h=>(∃ old,IsEnum h e it i old)/\h.IsTupleIter it a i) where
 mem:=by simp
 obj:=fun i h st b hb=>by
  obtain⟨⟨old,he⟩,o,ho,hc,hd⟩:=st;rcases w_.mp hb with q | q
  ·subst q;exact⟨_,he,fun v z=>by have z':ac9 _=adM v:=z;cases z'⟩
  ·rw[x_.mp q];exact⟨o,ho,fun v z=>by rw[hd] at z;cases z⟩
 keep:=fun i h h' st k=>⟨st.1.imp fun old x=>k e (by simp) _ x,st.2.at fun o x=>k it (by simp) o x⟩
 item:=by
  intro X hP hw hK hc i pins s σ H E I hf st hg;subst hP hw hK;obtain⟨xs,x,hq,hx⟩:=hg;obtain⟨aj,rv,p,hz⟩:=I.tuple hq;obtain⟨u,hu,ru⟩:=rv.get hx;have hA:X.A.handled=none:=I.ok.hd hc;obtain⟨⟨old,he⟩,hI⟩:=id st
  have QJ:a≠it:=fun z=>by
   obtain⟨o1,g1,c1,_⟩:=p;obtain⟨o2,g2,c2,_⟩:=hI;rw[z,g2] at g1
   cases g1
   rw[c2] at c1;exact absurd c1 (by decide)
  have QK:e≠a:=fun z=>by
   obtain⟨o1,g1,c1,_⟩:=p;have g2:s.heap.get? e=_:=he;rw[←z,g2] at g1
   cases g1
   exact absurd (show Yy "enumerate" = Yy "tuple" from c1) (by decide)
  have W:=acP (prog:=X.prog) (w:=X.w) (A:=X.A) (Draws.tup (by exact hA) it a QJ aj.toArray) e O7 (by simp [O7,QK]) (by simp)
  have hi:i<aj.toArray.size:=by
   have:=(j_.mp hu).1;simpa using this
  refine W.item i s _ _ hi ⟨⟨old,he⟩,hI,p⟩ fun T vals h' tk hv hT UK L0 k1=>?_
  obtain⟨t',x',t6,rfl⟩:=hv
  have ex:x'=u:=by
   have h2:aj.toArray[i]? = some u:=by simpa using hu
   rw[h2] at t6;exact (O_ t6).symm
  subst ex;refine⟨_,rfl,W.go elts kk tp i T _ _ _ L0 fun h2 L1 k2=>?_⟩;have SO:=W.apart i T _ L0
  have new:aS X.prog X.w (upd H T (.tup [.int i,x])) h2 T (.tup [.int i,x]):=by
   obtain⟨ot,g1,r1⟩:=UK;exact⟨by show 2<=sizeLine;decide,[.int i t',x'],.cons ⟨t',rfl⟩ (.cons ru .nil),ot,k2 T ot SO g1,r1⟩
  refine⟨.ref T,_,I.vZ (ch:=[e,it]) (t':=tk) hf (fun b o hb g=>k2 b o hb (k1 b o hb g)) hT new,rfl,⟨T,x,I.aY.fresh hT,rfl,fun ys hy=>by rw[I.qg hy hq];exact hx,rfl⟩,⟨L1.1,L1.2.1⟩,fun b hb=>?_⟩;have UL:b≠T:=fun z=>SO (by rw[←z];exact hb)
  rw[aw UL];exact (hf b hb).1
 done:=by
  intro X hP hw hK hc i pins s σ H E I hf st hg;subst hP hw hK;obtain⟨xs,hq,hx⟩:=hg;obtain⟨aj,rv,p,hz⟩:=I.tuple hq;have hA:X.A.handled=none:=I.ok.hd hc;obtain⟨⟨old,he⟩,hI⟩:=id st
  have QJ:a≠it:=fun z=>by
   obtain⟨o1,g1,c1,_⟩:=p;obtain⟨o2,g2,c2,_⟩:=hI;rw[z,g2] at g1
   cases g1
   rw[c2] at c1;exact absurd c1 (by decide)
  have QK:e≠a:=fun z=>by
   obtain⟨o1,g1,c1,_⟩:=p;have g2:s.heap.get? e=_:=he;rw[←z,g2] at g1
   cases g1
   exact absurd (show Yy "enumerate" = Yy "tuple" from c1) (by decide)
  have W:=acP (prog:=X.prog) (w:=X.w) (A:=X.A) (Draws.tup (by exact hA) it a QJ aj.toArray) e O7 (by simp [O7,QK]) (by simp);have hl:=rv.length;have en:aj.toArray.size=i:=by simp;omega
  refine W.done s _ _ ?_ fun h' tk k1=>⟨rfl,I.Dw (ch:=[e,it]) (t':=tk) hf fun b o hb g=>k1 b o hb g⟩
  rw[en];exact⟨⟨old,he⟩,hI,p⟩
 self:=fun _ _ _ _ _ st h=>by
  obtain⟨⟨old,he⟩,_⟩:=st;exact wpAny_pyIter_enum he h
section
variable {X:Cx}
def Hh (K:e_) (ta:TA):TI:=fun σ H R=>ta σ H fun vs H1=>∃ a,vs=[.ref a]/\(∃ xs,eC K H1 a xs)/\R (Hg K a) H1
theorem AJ {a:Expr}{ta:TA}{p pos:Pos}{elts:List Expr}{kk:Nat}{tp:Pos} (hg:Gl X "enumerate") (hm:X.mg "enumerate" = none) (ha:PA X [a] ta) (hs:M_ [a] X.env=[(false,eval a X.env)]:=by rfl) :
  PI X (.Tuple elts kk tp) (.Call (.Name "enumerate" p) [a] [] pos) (Hh X.K ta):=by
 intro pins s σ H R I h;refine Call_ (eB I hg hm boot_enumerate (Xy (aZ (ha pos pins s σ H _ I h) fun us s1 ⟨vs,H1,I1,r1,q1⟩=>?_) hs rfl));obtain⟨l,e,⟨xs,hq⟩,q⟩:=q1;subst e
 cases r1 with
 | cons r rr =>
  cases rr
  cases r
  obtain⟨aj,rv,p,hz⟩:=I1.tuple hq;refine vY p fun h' he hi hsz kp=>wpAny_pyIter_enum he ⟨s1.heap.objs.size+1,[s1.heap.objs.size+1,s1.heap.objs.size],_,_,H1,rfl,I1.kept (t':=s1.toks) kp,v0 _ _ l (aay (Y3 _)),⟨⟨_,he⟩,hi⟩,fun b hb=>?_,q⟩
  rcases w_.mp hb with z | z
  ·subst z;exact I1.yp (aan _) (I1.aY.fresh (aan _))
  ·rw[x_.mp z];exact I1.yp (t_ _) (I1.aY.fresh (t_ _))
end
end L2
namespace SH
open PySem L2
noncomputable def fe:List Int->Int->List Nd->List Int
 | W,_,[]=>W
 | W,k,n::r=>fe (W.take n.2.toNat++[k]) (k+1) r
noncomputable def way (ns:List Nd):List Int:=fe [] 0 ns
theorem jP:∀ (a b:List Nd) (W:List Int) (k:Int),fe W k (a++b)=fe (fe W k a) (k+a.length) b
 | [],b,W,k=>by show fe W k b=fe W (k+((0:Nat):Int)) b;rw[show k+((0:Nat):Int)=k by omega]
 | n::a,b,W,k=>by
  show fe _ (k+1) (a++b)=_;rw[jP a b];show fe (fe _ (k+1) a) (k+1+a.length) b=fe (fe _ (k+1) a) (k+(n::a).length) b;rw[z_,show k+1+(a.length:Int)=k+((a.length+1:Nat):Int) by omega]
theorem t9 (ns:List Nd) (n:Nd):way (ns++[n])=(way ns).take n.2.toNat++[(ns.length:Int)]:=by
 unfold way;rw[jP];show (fe [] 0 ns).take n.2.toNat++[0+(ns.length:Int)]=_;rw[Xd]
theorem cT {ns:List Nd}{i:Nat}{n:Nd} (h:ns[i]? = some n):way (ns.take (i+1))=(way (ns.take i)).take n.2.toNat++[(i:Int)]:=by
 have hi:=(j_.mp h).1;rw[YU,h];show way (ns.take i++[n])=_;rw[t9,Xc,X7 (by omega)]
theorem xo {ns:List Nd}:∀ i,i<=ns.length->∀ j∈way (ns.take i),0<=j/\j<(i:Int):=by
 intro i
 induction i with
 | zero=>intro _ j hj;rw[XS] at hj;exact nomatch hj
 | succ i ih =>
  intro hi j hj;rw[cT (b_ (by omega:i<ns.length))] at hj;rcases N_.mp hj with h | h
  ·have:=ih (by omega) j (XH h);omega
  ·rw[x_.mp h];omega
theorem xp {ns:List Nd}:∀ i,i<=ns.length->(way (ns.take i)).length<=i:=by
 intro i
 induction i with
 | zero=>intro _;rw[XS];exact t_ _
 | succ i ih =>
  intro hi;rw[cT (b_ (by omega:i<ns.length)),u_,Xc,R_];have:=ih (by omega);omega
noncomputable def ja (ns:List Nd) (k:Nat):List Int:=(way (ns.take k)).take ((ns.getD k ("",0)).2.toNat)
theorem mC {ns:List Nd}{k:Nat} (hk:k<=ns.length):∀ j∈ja ns k,0<=j/\j<(k:Int):=fun j hj=>xo k hk j (XH hj)
theorem fK {ns:List Nd}{k:Nat}{n:Nd} (h:ns[k]? = some n):ja ns k=(way (ns.take k)).take n.2.toNat:=by
 unfold ja;rw[v_,h];rfl
theorem Dx {ns:List Nd}{k:Nat} (hk:k<=ns.length):(ja ns k).length<=k:=by
 unfold ja;rw[Xc];have:=xp (ns:=ns) k hk;omega
noncomputable def kept (ps W:List Int):List Int:=W.filter fun j=>decide (j∈ps)
theorem hU (ps a b:List Int):kept ps (a++b)=kept ps a++kept ps b:=aaL ..
theorem ua (ps:List Int) (k:Int):kept ps [k]=if k∈ps then [k] else []:=by
 unfold kept;by_cases h:k∈ps<;>simp [h]
theorem lD {ps a b:List Int} (h:a <+: b):kept ps a <+: kept ps b:=by
 obtain⟨c,rfl⟩:=h;exact⟨kept ps c,(hU ps a c).symm⟩
noncomputable def g0 (ps W:List Int):List Int:=(Xa (W.length+1)).map fun j=>((kept ps (W.take j)).length:Int)
theorem yP (ps W:List Int) (d:Nat):(g0 ps W).take (d+1)=g0 ps (W.take d):=by
 unfold g0;rw[←Y0,List.take_range,Xc,show min (d+1) (W.length+1)=min d W.length+1 by omega];apply W_;intro j hj;have:=Xi.mp hj;rw[List.take_take,X7 (by omega)]
theorem qx (ps W:List Int) (k:Int):g0 ps (W++[k])=g0 ps W++[((kept ps W).length:Int)+if k∈ps then 1 else 0]:=by
 unfold g0;rw[u_,R_,aas,E_];congr 1
 ·apply W_;intro j hj;have:=Xi.mp hj;rw[List.take_append_of_le_length (by omega)]
 ·rw[p_,X2,Xv (by rw[u_,R_];omega),hU,ua];by_cases h:k∈ps<;>simp [h]
theorem nc (ps W:List Int):(g0 ps W).length=W.length+1:=by unfold g0;rw[a_,H_]
theorem yQ (ps W:List Int):(g0 ps W)[W.length]? = some ((kept ps W).length:Int):=by
 unfold g0;rw[f_,XO (by omega)];show some (((kept ps (W.take W.length)).length:Nat):Int)=_;rw[Yx]
noncomputable def below (ps:List Int) (i:Nat):List Int:=ps.filter fun p=>decide (p<(i:Int))
theorem dI {i:Nat}:∀ {lo m:Int}{ps:List Int},placesOk lo m ps->(i:Int)<=lo->below ps i=[]:=fun {lo m ps} h hi=>by
 unfold below;rw[X3];intro p hp;have:=(ao h p hp).1;simp;omega
theorem jb {i:Nat}:∀ {lo m:Int}{ps:List Int},placesOk lo m ps->below ps (i+1)=below ps i++(if (i:Int)∈ps then [(i:Int)] else [])
 | _,_,[],_=>rfl
 | lo,m,p::r,h=>by
  obtain⟨h1,h2,h3⟩:=h;have ih:=jb (i:=i) h3
  have e1:∀ k:Nat,below (p::r) k=if p<(k:Int) then p::below r k else below r k:=fun k=>by
   unfold below;rw[Xm];by_cases h:p<(k:Int)<;>simp [h]
  rw[e1,e1];by_cases lR:p<(i:Int)
  ·rw[s_ lR,s_ (by omega),ih]
   have:((i:Int)∈p::r)↔(i:Int)∈r:=by
    rw[w_];exact⟨fun z=>z.elim (fun z=>by omega) id,.inr⟩
   by_cases hm:(i:Int)∈r
   ·rw[s_ hm,s_ (this.mpr hm)];rfl
   ·rw[n_ hm,n_ (fun z=>hm (this.mp z))];rfl
  ·rw[n_ lR,dI h3 (by omega)];by_cases he:p=(i:Int)
   ·rw[s_ (by omega),dI h3 (by omega),s_ (by rw[he];exact Q_),he];rfl
   ·rw[n_ (by omega),dI h3 (by omega),n_ ?_]
    ·rfl
    ·intro z;rcases w_.mp z with z | z
     ·exact he z.symm
     ·have:=(ao h3 _ z).1;omega
theorem qy {n:Nat}{lo:Int}{ps:List Int} (h:placesOk lo n ps):below ps n=ps:=by
 unfold below;rw[Zx];intro p hp;have:=(ao h p hp).2;simp;omega
theorem below_at:∀ {lo m:Int}{ps:List Int}{k:Nat}{p:Int},placesOk lo m ps->0<=lo->ps[k]? = some p->below ps p.toNat=ps.take k
 | _,_,[],k,p,_,_,hk=>by simp at hk
 | lo,m,q::r,0,p,h,h0,hk=>by
  obtain⟨h1,h2,h3⟩:=h;simp at hk;subst hk;rw[XS];unfold below;rw[X3];intro x hx;rcases w_.mp hx with z | z
  ·subst z;simp;omega
  ·have:=(ao h3 _ z).1;simp;omega
 | lo,m,q::r,k+1,p,h,h0,hk=>by
  obtain⟨h1,h2,h3⟩:=h;have L3:r[k]? = some p:=hk;have:=(ao h3 _ (q_ L3)).1;have ih:=below_at h3 (by omega) L3;unfold below at ih ⊢;rw[Xm,s_ (by simp;omega),List.take_succ_cons,ih]
theorem yR {lo m:Int}{ps:List Int}{i:Nat} (h:placesOk lo m ps) (h0:0<=lo) (hi:(i:Int)∈ps):ps[(below ps i).length]? = some (i:Int):=by
 obtain⟨k,hk⟩:=List.getElem?_of_mem hi;have e:=below_at h h0 hk;rw[i_] at e;have:=(j_.mp hk).1;rw[e,Xc,X7 (by omega)];exact hk
noncomputable def cD (ns:List Nd) (ps:List Int) (p:Int):Nd:=((ns.getD p.toNat ("",0)).1,((kept ps (ja ns p.toNat)).length:Int))
noncomputable def b0 (ns:List Nd) (ps:List Int):List Nd:=ps.map (cD ns ps)
theorem jQ:∀ {d:Int}{ns:List Nd},d<=12->aI d ns<=12
 | _,[],h=>h
 | _,n::r,_=>jQ (ns:=r) (by show min (n.2+1) 12<=12;omega)
theorem rE {ns:List Nd}{i:Nat}{n:Nd} (hd:aG 0 ns) (h:ns[i]? = some n):aC n.1=true/\0<=n.2/\n.2<=12:=by
 have e:ns=ns.take i++(n::ns.drop (i+1)):=by
  have q:=YF (i+1) ns;rw[YU,h,YQ] at q;exact q.symm
 rw[e] at hd;obtain⟨_,h1,h2,h3,_⟩:=aT.mp hd;have:=jQ (d:=0) (ns:=ns.take i) (by omega);exact⟨h1,h2,by omega⟩
theorem prefix_eq {a b:List Int} (h:a <+: b):b.take a.length=a:=by
 obtain⟨c,rfl⟩:=h;simp
theorem ub {ns:List Nd}{ps:List Int} (hd:aG 0 ns) (hp:placesOk 0 ns.length ps):∀ i,i<=ns.length ->
  kept ps (way (ns.take i)) <+: (way ((below ps i).map (cD ns ps))).map (fun j=>ps.getD j.toNat 0)/\aG 0 ((below ps i).map (cD ns ps))/\aI 0 ((below ps i).map (cD ns ps))=min ((way ((below ps i).map (cD ns ps))).length:Int) 12:=by
 intro i
 induction i with
 | zero =>
  intro _;rw[dI (i:=0) hp (by omega),XS];exact⟨⟨[],rfl⟩,trivial,rfl⟩
 | succ i ih =>
  intro hi;obtain⟨h1,h2,h3⟩:=ih (by omega);have hn:ns[i]? = some ns[i]:=b_ (by omega);obtain⟨hm,d0,SQ⟩:=rE hd hn;rw[cT hn,hU,ua,jb hp];have ph:kept ps ((way (ns.take i)).take ns[i].2.toNat) <+: kept ps (way (ns.take i)):=lD (ac2 ..);generalize hR:(below ps i).map (cD ns ps)=R at h1 h2 h3 ⊢;by_cases hk:(i:Int)∈ps
  ·rw[s_ hk,E_,hR];rw[p_,X2]
   have eN:cD ns ps (i:Int)=(ns[i].1,((kept ps ((way (ns.take i)).take ns[i].2.toNat)).length:Int)):=by
    unfold cD;rw[i_,fK hn,v_,hn];rfl
   rw[t9,eN,i_];generalize hA:kept ps ((way (ns.take i)).take ns[i].2.toNat)=A at ph ⊢
   have lA:A.length<=ns[i].2.toNat:=by
    rw[←hA];refine U_ (Zk ..) ?_;rw[Xc];omega
   have pV:A <+: (way R).map (fun j=>ps.getD j.toNat 0):=ph.trans h1;have lV:A.length<=(way R).length:=by have:=pV.length_le;rw[a_] at this;exact this
   have hl:R.length=(below ps i).length:=by rw[←hR,a_]
   have hg:ps.getD R.length 0=(i:Int):=by rw[hl,v_,yR hp (by omega) hk];rfl
   refine⟨?_,?_,?_⟩
   ·rw[E_,Y0,prefix_eq pV,p_,X2,i_,hg];exact⟨[],by simp⟩
   ·exact aT.mpr ⟨h2,hm,by omega,by rw[h3];show (A.length:Int)<=_;omega,trivial⟩
   ·rw[a5];show min ((A.length:Int)+1) 12=_;rw[u_,Xc,R_];omega
  ·rw[n_ hk,Xs,Xs,hR];exact⟨ph.trans h1,h2,h3⟩
theorem bR {ns:List Nd}{ps:List Int} (hd:aG 0 ns) (hp:placesOk 0 ns.length ps):aG 0 (b0 ns ps):=by
 have h:=(ub hd hp ns.length (t_ _)).2.1;rw[qy hp] at h;exact h
theorem uc {ns:List Nd}{ps:List Int} (hd:aG 0 ns) (hp:placesOk 0 ns.length ps) {k:Nat}{p:Int} (hk:ps[k]? = some p):(ja (b0 ns ps) k).map (fun j=>ps.getD j.toNat 0)=kept ps (ja ns p.toNat):=by
 obtain⟨p0,p1⟩:=ao hp p (q_ hk);have hi:p.toNat<ns.length:=by omega
 obtain⟨h1,_,_⟩:=ub hd hp p.toNat (by omega);rw[below_at hp (by omega) hk] at h1;have e1:(b0 ns ps)[k]? = some (cD ns ps p):=by unfold b0;rw[f_,hk];rfl
 rw[fK e1];have e2:(b0 ns ps).take k=(ps.take k).map (cD ns ps):=by unfold b0;rw[Y0]
 rw[e2,Y0];show List.take (((kept ps (ja ns p.toNat)).length:Int)).toNat _=_;rw[i_];refine prefix_eq (List.IsPrefix.trans (lD ?_) h1);unfold ja;exact ac2 ..
theorem AK (ps:List Int):∀ (acc:List (Key×V)) (j:Int),(dv ((ps.map fun q=>((Y_ q:Key),V.bl true)).foldl (fun a p=>putK a p.1 p.2) acc) (Y_ j)).isSome=(decide (j∈ps)||(dv acc (Y_ j)).isSome):=by
 induction ps with
 | nil=>intro acc j;simp
 | cons p r ih =>
  intro acc j;rw[p_,Zi,ih,AB];by_cases h:j=p
  ·subst h;simp
  ·have:¬ ((Y_ j:Key)=Y_ p):=fun z=>h (adT z)
   simp [this,h]
end SH
namespace L2
open PySem PySem.Spec PyProof.Rows
section
variable {X:Cx}
def Dy:List V->Hp->VK->Prop:=fun xs H Q=>∃ n:Int,xs=[.int n]/\∀ r,H r=none->Q (.ref r) (upd H r (.yl 0 n))
def Dz:List V->Hp->VK->Prop:=fun xs H Q=>∃ lo hi:Int,xs=[.int lo,.int hi]/\∀ r,H r=none->Q (.ref r) (upd H r (.yl lo hi))
theorem jR:bj X (.type "range") Dy:=by
 intro pins s σ H xs us Q I r h;obtain⟨n,rfl,q⟩:=h;obtain⟨u,rfl,t,rfl⟩:=vals1 r;refine call_range_1 ⟨.ref s.heap.objs.size,_,I.laid (a:=s.heap.objs.size) (o:=.yl 0 n) (t':=s.toks+1+1) (fun b o e=>o_ _ e) (t_ _) ?_,rfl,q _ (I.aY.fresh (t_ _))⟩;exact⟨_,_,_,A_ _ rfl⟩
theorem rF:bj X (.type "range") Dz:=by
 intro pins s σ H xs us Q I r h;obtain⟨lo,hi,rfl,q⟩:=h
 cases r with
 | cons r1 rr =>
  cases rr with
  | cons r2 rr =>
   cases rr
   obtain⟨t,rfl⟩:=r1;obtain⟨t',rfl⟩:=r2;refine call_range_2 ⟨.ref s.heap.objs.size,_,I.laid (a:=s.heap.objs.size) (o:=.yl lo hi) (fun b o e=>o_ _ e) (t_ _) ?_,rfl,q _ (I.aY.fresh (t_ _))⟩;exact⟨_,_,_,A_ _ rfl⟩
def Hi:List V->Hp->VK->Prop:=fun xs H Q=>∃ (r:Addr) (lo hi:Int),xs=[.ref r]/\H r=some (.yl lo hi)/\(-(2 ^ 62)<=lo/\lo<2 ^ 62 /\ -(2 ^ 62)<=hi/\hi<2 ^ 62)/\(hi-lo).toNat<=900/\∀ l,H l=none->Q (.ref l) (upd H l (.lst (((Xa (hi-lo).toNat).map fun i:Nat=>lo+(i:Int)).map V.int)))
theorem nh:∀ {ns:List Int}{vs:List Value},ns.length=vs.length->(∀ (i:Nat) (n:Int) (v:Value),ns[i]? = some n->vs[i]? = some v->∃ t,v=.int n t)->Vals (ns.map V.int) vs
 | [],[],_,_=>.nil
 | [],_::_,h,_=>by simp at h
 | _::_,[],h,_=>by simp at h
 | n::ns,v::vs,h,k=>by
  refine .cons ?_ (nh (by simpa using h) fun i n v h1 h2=>k (i+1) n v h1 h2);obtain⟨t,e⟩:=k 0 n v rfl rfl;exact⟨t,e⟩
theorem nj (hc:X.calm=true):bj X (.type "list") Hi:=by
 intro pins s σ H xs us Q I r h;obtain⟨ra,lo,hi,rfl,hr,⟨h1,h2,h3,h4⟩,hsz,q⟩:=h;obtain⟨u,rfl,rx⟩:=vals1 r
 cases rx
 have hA:X.A.handled=none:=I.ok.hd hc;obtain⟨t,u,v,e⟩:=(show aS X.prog X.w H s.heap ra (.yl lo hi) from I.aY ra _ hr);have en:J_ lo hi 1=(((hi-lo).toNat:Nat):Int):=by rw[ace];split<;>omega
 refine call_list_range hA (show adr s.heap ra lo hi 1 t u v from e) (small_one h1 h2 h3 h4) en (by omega) fun h' tk acc c kp he EW=>?_
 obtain⟨hz,AL⟩:=EW;have z9:(1000:Nat)<=sizeLine:=by decide
 refine⟨.ref s.heap.objs.size,_,I.laid (a:=s.heap.objs.size) (o:=.lst (((Xa (hi-lo).toNat).map fun i:Nat=>lo+(i:Int)).map V.int)) (t':=tk) kp (t_ _) ⟨?_,acc.toList,c,?_,?_⟩,rfl,q _ (I.aY.fresh (t_ _))⟩
 ·rw[a_,a_,H_];omega
 ·refine nh (by rw[a_,H_];simpa using hz.symm) fun i n w e1 e2=>?_
  rw[f_] at e1;obtain⟨j,ej,rfl⟩:=k_.mp e1;have hj:=(j_.mp ej);obtain⟨WS,L4⟩:=hj;rw[acx] at L4;subst L4;obtain⟨t',e'⟩:=AL i w (by simpa using e2);exact⟨t',by rw[e',aaT]⟩
 ·simpa using he
end
end L2
namespace SH
open PySem L2
theorem be:∀ {lo m:Int}{ps:List Int},placesOk lo m ps↔(∀ p∈ps,lo<=p/\p<m)/\ps.Pairwise (·<·)
 | _,_,[]=>⟨fun _=>⟨(fun _ h=>nomatch h),ZX⟩,fun _=>trivial⟩
 | lo,m,p::r=>by
  constructor
  ·rintro⟨h1,h2,h3⟩;obtain⟨a,b⟩:=be.mp h3;refine⟨fun q hq=>?_,YA.mpr ⟨fun q hq=>by have:=(a q hq).1;omega,b⟩⟩;rcases w_.mp hq with z | z
   ·subst z;exact⟨h1,h2⟩
   ·have:=a q z;omega
  ·rintro⟨a,b⟩;obtain⟨c,d⟩:=YA.mp b;have:=a p Q_;exact⟨this.1,this.2,be.mpr ⟨fun q hq=>⟨by have:=c q hq;omega,(a q (F_ _ hq)).2⟩,d⟩⟩
noncomputable def upTo (n:Nat):List Int:=(Xa n).map fun i:Nat=>(0:Int)+(i:Int)
theorem jS (n:Nat):placesOk 0 n (upTo n):=by
 refine be.mpr ⟨fun p h=>?_,?_⟩
 ·obtain⟨i,hi,rfl⟩:=m_.mp h;have:=Xi.mp hi;omega
 ·refine List.pairwise_map.mpr (abx.imp fun {x y} h=>?_);omega
theorem mem_upTo {n:Nat}{p:Int} (h0:0<=p) (h1:p<n):p∈upTo n:=m_.mpr ⟨p.toNat,Xi.mpr (by omega),by omega⟩
theorem nn {α:Type} (f:Int->α) (n:Nat):(upTo n).map f=(Xa n).map fun i:Nat=>f i:=by
 unfold upTo;rw[C_];apply W_;intro i _;show f (0+(i:Int))=f i;rw[Xd]
theorem range_getD {α:Type} (xs:List α) (d:α):(Xa xs.length).map (fun i=>xs.getD i d)=xs:=by
 apply aaZ;intro i;rw[f_];by_cases h:i<xs.length
 ·rw[XO h,b_ h];show some (xs.getD i d)=_;rw[v_,b_ h];rfl
 ·rw[XE (by rw[H_];omega),XE (by omega)];rfl
theorem AN {ns:List Nd} (hd:aG 0 ns):∀ i,i<=ns.length->aI 0 (ns.take i)=min ((way (ns.take i)).length:Int) 12:=by
 intro i
 induction i with
 | zero=>intro _;rw[XS];rfl
 | succ i ih =>
  intro hi;have hn:ns[i]? = some ns[i]:=b_ (by omega);have h:=ih (by omega);obtain⟨_,d0,SQ⟩:=rE hd hn
  have e:ns=ns.take i++(ns[i]::ns.drop (i+1)):=by
   have q:=YF (i+1) ns;rw[YU,hn,YQ] at q;exact q.symm
  have oZ:=hd;rw[e] at oZ;obtain⟨_,_,_,h3,_⟩:=aT.mp oZ;rw[cT hn,u_,Xc,R_];have e2:ns.take (i+1)=ns.take i++[ns[i]]:=by rw[YU,hn];rfl
  rw[e2,a5];show min (ns[i].2+1) 12=_;omega
theorem ud {ns:List Nd} (hd:aG 0 ns) {k:Nat}{n:Nd} (h:ns[k]? = some n):((ja ns k).length:Int)=n.2:=by
 have hk:=(j_.mp h).1;obtain⟨_,d0,SQ⟩:=rE hd h
 have e:ns=ns.take k++(n::ns.drop (k+1)):=by
  have q:=YF (k+1) ns;rw[YU,h,YQ] at q;exact q.symm
 have oZ:=hd;rw[e] at oZ;obtain⟨_,_,_,h3,_⟩:=aT.mp oZ;have w:=AN hd k (by omega);rw[fK h,Xc];omega
theorem yS {ns:List Nd} (hd:aG 0 ns):b0 ns (upTo ns.length)=ns:=by
 unfold b0;rw[nn];refine Eq.trans ?_ (range_getD ns ("",0));apply W_;intro i hi;have EW:=Xi.mp hi;have h:ns[i]? = some ns[i]:=b_ EW;unfold cD;rw[i_]
 have ek:kept (upTo ns.length) (ja ns i)=ja ns i:=by
  unfold kept;rw[Zx];intro j hj;obtain⟨j0,j1⟩:=mC (ns:=ns) (k:=i) (by omega) j hj;exact c_ (mem_upTo j0 (by omega))
 rw[ek,ud hd h,v_,h];rfl
theorem uf (n w:Nat):upTo (n+w)=upTo n++(upTo w).map fun j=>j+(n:Int):=by
 unfold upTo;rw[List.range_add,E_,C_,C_];congr 1;apply W_;intro i _;show (0:Int)+((n+i:Nat):Int)=0+(i:Int)+(n:Int);omega
theorem v3 (n w:Nat):linesOf n (upTo (n+w))=upTo n:=by
 unfold linesOf;rw[uf,aaL]
 have e1:(upTo n).filter (fun i=>decide (i<(n:Int)))=upTo n:=by
  rw[Zx];intro x hx;exact c_ (ao (jS n) x hx).2
 have e2:((upTo w).map fun j=>j+(n:Int)).filter (fun i=>decide (i<(n:Int)))=[]:=by
  rw[X3];intro x hx;obtain⟨j,hj,rfl⟩:=m_.mp hx;have:=(ao (jS w) j hj).1;simp;omega
 rw[e1,e2,Xs]
theorem yT (n w:Nat):aM n (upTo (n+w))=upTo w:=by
 unfold aM;rw[uf,aaL]
 have e1:(upTo n).filter (fun i=>decide ((n:Int)<=i))=[]:=by
  rw[X3];intro x hx;have:=(ao (jS n) x hx).2;simp;omega
 have e2:((upTo w).map fun j=>j+(n:Int)).filter (fun i=>decide ((n:Int)<=i))=(upTo w).map fun j=>j+(n:Int):=by
  rw[Zx];intro x hx;obtain⟨j,hj,rfl⟩:=m_.mp hx;have:=(ao (jS w) j hj).1;simp;omega
 rw[e1,e2,adg,C_];have:((fun i=>i-(n:Int)) ∘ fun j=>j+(n:Int))=(id:Int->Int):=by funext x;show x+(n:Int)-n=x;omega
 rw[this,List.map_id]
end SH
namespace L2
open PySem PySem.Spec PyProof.Rows
theorem qz {x:V}:∀ {xs:List V}{us:List Value},Vals xs us->xs.all d8=true->us.countP (tM x)=xs.countP fun y=>yD y x
 | _,_,.nil,_=>rfl
 | y::xs,u::us,.cons r t,f=>by
  rw[Xx,G_] at f;rw[ac3,ac3,vR r f.1,qz t f.2]
section
variable {X:Cx}
def xq (K:e_):V->List V->Hp->VK->Prop:=fun x vs H Q=>∃ t xs y,x=.ref t/\vs=[y]/\eC K H t xs/\d8 y=true/\xs.all d8=true/\Q (.int ((xs.countP fun z=>yD z y:Nat):Int)) H
theorem yU:Qe X "tuple.count" (xq X.K):=by
 intro pins s σ H x vs v us Q I rx rv h;obtain⟨t,xs,y,rfl,rfl,hq,fy,fs,q⟩:=h
 cases rx
 obtain⟨u,rfl,ru⟩:=rv.one;obtain⟨aj,r,p,hz⟩:=I.tuple hq;obtain⟨⟨oc,od,UM,yC⟩,ho,hc,n,hd⟩:=p
 replace hc:oc=.type "tuple" := hc
 replace hd:UM=.seq aj.toArray n:=hd
 subst hc hd;refine acs abN ⟨_,ho,rfl⟩ F.entry_tuple_count (F.args_tuple_count_2 _ _) (SeqAt.tuple_countAt t aj.toArray n od yC u (tM y)) ⟨ho,fun w hw=>fb ru fy r fs w (by simpa using hw),?_⟩;refine⟨.int _,H,I.tok _,⟨_,rfl⟩,?_⟩;rw[show aj.toArray.toList=aj by simp,qz r fs];exact q
end
def v4 (H:Hp) (t:Addr) (xs:List V):Prop:=∃ o:Obj,H t=some (.du o (.tup xs))/\o.cls=.type "tuple" /\ o.dict=none
theorem v4.sq {K:e_}{H:Hp}{t:Addr}{xs:List V} (h:v4 H t xs):eC K H t xs:=let ⟨o,e,_⟩:=h;.inl (.inr ⟨o,e⟩)
section
variable {X:Cx}
def L5 (K:e_):List V->Hp->VK->Prop:=fun xs H Q=>∃ p ys,xs=[.ref p]/\cS K H p ys/\∀ l (o:Obj),H l=none->o.cls=.type "tuple" ->o.dict=none->Q (.ref l) (upd H l (.du o (.tup ys)))
theorem yV:bj X (.type "tuple") (L5 X.K):=by
 intro pins s σ H xs us Q I r h;obtain⟨p,ys,rfl,hq,q⟩:=h;obtain⟨u,rfl,rx⟩:=vals1 r
 cases rx
 obtain⟨aj,r',pl,hz⟩:=I.list hq;have hlen:=r'.length;refine call_tuple_list pl.isList (fun h' kp=>?_) (by simp only[I_]<;>omega);have I1:Inv X pins σ H { s with heap:=h' }:=I.kept (t':=s.toks) kp
 have I2:Inv X pins σ (upd H h'.objs.size (.du { cls:=.type "tuple",data:=.seq aj.toArray } (.tup ys))) { s with heap:=h'.push { cls:=.type "tuple",data:=.seq aj.toArray } } :=
  I1.laid (t':=s.toks) (fun b o e=>o_ _ e) (t_ _) ⟨A_ _ rfl,hz,aj,r',IsTup.new _ _⟩
 exact⟨.ref h'.objs.size,_,I2,rfl,q _ _ (I1.aY.fresh (t_ _)) rfl rfl⟩
def DA (K:e_) (to:TE) (t:TA):TE:=fun σ H Q=>to σ H fun x H1=>∃ p zs,x=.ref p/\v4 H1 p zs/\t σ H1 fun xs H2=>xq K x xs H2 Q
theorem yW {o e:Expr}{to:TE}{t:TA}{apos bC:Pos} (ho:PE X o to) (ha:PA X [e] t)
  (m4:YZ o "count" X.env (eval o X.env)=eval o X.env:=by rfl)
  (GO:((Yq bC (M_ [e] X.env)).all (fun x => !x.1)&&(aaH bC (Zp [] X.env)).all (fun x=>x.1.isSome)
   && decide (([e]:List Expr).length+([]:List aal).length+(if ([]:List aal).isEmpty then 0 else 1)<30))=true:=by rfl)
  (bK:(apos.endLine==bC.line)=true:=by rfl) (hs:M_ [e] X.env=(false,eval e X.env)::M_ [] X.env:=by rfl) (vS:(Yq bC (M_ [] X.env)).any (·.1)=false:=by rfl) :
  PE X (.Call (.Attribute o "count" apos) [e] [] bC) (DA X.K to t):=by
 intro pins s σ H Q I h;refine abu m4 GO bK rfl (aZ (ho pins s σ H _ I h) fun v s1 ⟨x,H1,I1,r1,p,zs,ex,⟨ob,hf,hc,hd⟩,q1⟩=>?_);subst ex
 cases r1
 obtain⟨e1,_⟩:=(show aS X.prog X.w H1 s1.heap p (.du ob (.tup zs)) from I1.aY p _ hf);refine⟨"tuple","tuple.count",PySem.F.plainAttrs_tuple,abN,PySem.F.type_tuple_count,⟨ob,e1,hc⟩,fun a z=>by cases z;exact⟨ob,e1,hd⟩,?_⟩;have hA:=ha bC pins s1 σ H1 _ I1 q1;rw[hs] at hA ⊢;refine abv (by show (false||(Yq bC (M_ [] X.env)).any (·.1))=false;rw[vS]<;>rfl) (abU ?_);exact aZ hA fun us s2 ⟨vs,H2,I2,r2,q2⟩=>yU pins s2 σ H2 (.ref p) vs _ us Q I2 rfl r2 q2
end
theorem AO {X:Cx}{i j:Nat}{x y:Str}{p1 p2 pos:Pos}{kk:Nat} (hc:X.calm=true) (hN:X.N.Nodup) (hi:X.N[i]? = some x) (hj:X.N[j]? = some y) (hx:Loc X.env.scope x) (hy:Loc X.env.scope y)
  (UN : X.fn x = true ∨ X.env.scope.names.lookup x = some .local := by first | exact .inl rfl | exact .inr rfl | assumption) (UO : X.fn y = true ∨ X.env.scope.names.lookup y = some .local := by first | exact .inl rfl | exact .inr rfl | assumption) :
  PG X (.Tuple [.Name x p1,.Name y p2] kk pos) (zZ X.K 2 (jH (dE i) (jH (dE j) zY))):=F7 hc (tz (mq hN hi hx UN) (tz (mq hN hj hy UO) CW))
end L2
namespace SH
open PySem L2
theorem _root_.L2.v4.same {H H':Hp}{t:Addr}{xs:List V} (s:ah H H') (h:v4 H t xs):v4 H' t xs:=let ⟨o,e,r⟩:=h;⟨o,s _ _ e,r⟩
end SH
namespace L2
open PySem PySem.Spec PyProof.Rows
section
variable {X:Cx}
def L6 (K:e_):R2:=fun x y H Q=>∃ p xs d ds,y=.ref p/\cS K H p xs/\b8 K H x d/\dH K H xs ds/\Xg d=true/\(∀ e∈ds,Xg e=true)/\Q (.bl (ds.any fun e=>Xo e d)) H
inductive Kz {α β:Type} (R:α->β->Prop):List α->List β->Prop
 | nil:Kz R [] []
 | cons {a:α}{b:β}{as:List α}{bs:List β}:R a b->Kz R as bs->Kz R (a::as) (b::bs)
theorem dH.reads {pins:List (Addr×Obj)}{σ:St}{H:Hp}{s:h_} (I:Inv X pins σ H s):∀ {xs:List V}{ds:List P_},dH X.K H xs ds->(∀ e∈ds,Xg e=true)->∀ us,Vals xs us->Kz (fun u d=>(∃ as,Reads s.heap u d as)/\Xg d=true) us ds
 | _,_,.nil,_,_,.nil=>.nil
 | _,_,.cons h1 h2,f,_,.cons r1 r2=>.cons ⟨h1.reads I _ r1,f _ Q_⟩ (dH.reads I h2 (fun e he=>f e (F_ _ he)) _ r2)
theorem rG {d:P_}{e:Value->Bool}{R:Value->P_->Prop}:∀ {us:List Value}{ds:List P_},Kz R us ds->(∀ u d',R u d'->e u=Xo d' d)->us.any e=ds.any fun x=>Xo x d
 | _,_,.nil,_=>rfl
 | u::us,d'::ds,.cons r t,f=>by
  rw[Zj,Zj,f u d' r,rG t f]
theorem rH {α β:Type}{R:α->β->Prop}:∀ {us:List α}{ds:List β},Kz R us ds->∀ u∈us,∃ d,R u d
 | _,_,.nil,u,hu=>by cases hu
 | v::us,d::ds,.cons r t,u,hu=>by
  rcases w_.mp hu with rfl | hu
  ·exact⟨d,r⟩
  ·exact rH t u hu
theorem Hj (hu:X.A.units+66<cLine):eD X (Xl .In) (L6 X.K):=by
 intro pins s σ H x y v u Q I rx ry h;obtain⟨p,xs,d,ds,rfl,hq,hd,L7,s1,s2,q⟩:=h
 cases ry
 obtain⟨as,ra⟩:=hd.reads I v rx;obtain⟨aj,r,pl,hz⟩:=I.list hq;have F2:=dH.reads I L7 s2 aj r
 classical
 let e:Value->Bool:=fun w=>if h:∃ d',(∃ bs,Reads s.heap w d' bs)/\Xg d'=true then Xo h.choose d else false
 have he:∀ w d',((∃ bs,Reads s.heap w d' bs)/\Xg d'=true)->e w=Xo d' d:=fun w d' hx=>by
  have t6:∃ d',(∃ bs,Reads s.heap w d' bs)/\Xg d'=true:=⟨d',hx⟩;show (if h:∃ d',(∃ bs,Reads s.heap w d' bs)/\Xg d'=true then Xo h.choose d else false)=_;rw[dif_pos t6];obtain⟨⟨cs,rc⟩,sc⟩:=t6.choose_spec;obtain⟨⟨bs,rb⟩,sb⟩:=hx;rw[acy _ _ _ _ _ (X4 sc) rc rb]
 refine adb e pl.isList (fun w hw=>?_) ⟨.bl _,H,I,rfl,?_⟩
 ·obtain⟨d',hx⟩:=rH F2 w (by simpa using hw);rw[he w d' hx];obtain⟨⟨bs,rb⟩,sb⟩:=hx;exact ac4 d' d X.A.in1 s w v bs as rb ra (X4 sb) (X4 s1) (abY sb (by rw[show X.A.in1.units=X.A.units+1 from rfl];omega))
 ·rw[show aj.toArray.any e=aj.any e by simp,rG F2 he];exact q
end
end L2
namespace SH
open PySem L2
noncomputable def hV (acc:List Str) (z:Str):List Str:=if z∈acc then acc else acc++[z]
noncomputable def bf (zs:List Str):List Str:=zs.foldl hV []
theorem nq (acc:List Str) (z:Str):(hV acc z).length<=acc.length+1:=by
 unfold hV;split
 ·omega
 ·rw[u_];exact t_ _
theorem fL:∀ (zs acc:List Str),(zs.foldl hV acc).length<=acc.length+zs.length
 | [],acc=>by simp
 | z::zs,acc=>by
  have h1:=fL zs (hV acc z);have h2:=nq acc z;rw[Zi,z_];omega
end SH
namespace PySem
section
variable {prog:K_}{w:World}{A:Xw}{E:Value->h_->Prop}{s:h_}
theorem UP (n:Nat):J_ 0 (n:Int) 1=(n:Int):=by rw[ace];split<;>omega
theorem ug {i:Int} (h1 : -2000<=i) (h2:i<=2000):Zl i=true:=by
 unfold Zl;simp only[G_,YR];omega
theorem iQ {r:Addr}{n:Nat}{t u v:Tok}{Q:Value->h_->Prop} (hr:adr s.heap r 0 n 1 t u v) (hn:n<=1000)
  (h:Q (.ref s.heap.objs.size) { s with heap:=s.heap.push { cls:=.type "range_iterator",data:=.fields #[YG ((n:Int)-1),YG n,YG (-1)] } }) :
  wpAny (model prog w) A (call (.builtin "range.__reversed__") [.ref r]) Q E s:=by
 have hT:s.TypeIs (.ref r) "range" := ⟨_,hr,rfl⟩;refine aae Z9 hT F.entry_range_reversed ?_ (F.args_range_reversed_1 _);unfold aaz.«range.__reversed__»;refine g_ (YT (a:=Xe r) rfl ?_);have e1:=UP n;unfold Builtin.Range.rangeFields;refine g_ (g_ (ZP hr rfl rfl ?_));refine g_ (YT (a:=some 0) rfl ?_);refine g_ (ZP hr rfl rfl ?_);refine g_ (YT (a:=some (n:Int)) rfl ?_);refine g_ (ZP (x:=aac 1 v) (i:=2) hr rfl rfl ?_);have ea:asInt? (aac 1 v)=pure (some 1):=rfl;rw[ea,pure_bind];refine y_ ?_;dsimp only;rw[e1,ug (i:=0) (by decide) (by decide),ug (i:=(n:Int)) (by omega) (by omega),ug (i:=1) (by decide) (by decide),ug (i := -1) (by decide) (by decide),ug (i:=0-1) (by decide) (by decide)]
 rw[n_ (show ¬ ((!(true&&true&&true&&true&&true&&true))=true) by decide),s_ (show (true&&true&&true&&true&&true&&true)=true by decide)];refine g_ (ZZ (y_ ⟨_,rfl,?_⟩));rw[show (0:Int)+((n:Int)-1)*1=(n:Int)-1 by omega];exact h
theorem jc {r:Addr}{n:Nat}{t u v:Tok}{Q₁:Value->h_->Prop} (hr:adr s.heap r 0 n 1 t u v) (hn:n<=1000)
  (h:Q₁ (.ref s.heap.objs.size) { s with heap:=s.heap.push { cls:=.type "range_iterator",data:=.fields #[YG ((n:Int)-1),YG n,YG (-1)] } }) :
  Zt (model prog w) A (.call (.builtin "reversed.__new__") ⟨[.type "reversed",.ref r],[]⟩) (wants Q₁ E) s:=by
 have hT:s.TypeIs (.ref r) "range" := ⟨_,hr,rfl⟩;refine abH ?_;refine g_ (YT (F.newCall_reversed_1 _) (y_ ⟨aci abZ _,YM F.entry_reversed_new ?_⟩));rw[Yd abZ _];unfold aaz.«reversed.__new__»;refine g_ (YT (newClass_reversed _) ?_)
 try dsimp only
 refine g_ (YT (a:=()) (by first | rfl | kernel_rfl) ?_);refine g_ (YT (a:=()) (by first | rfl | kernel_rfl) ?_)
 try dsimp only
 refine g_ (ZJ hT Z9.lookup ?_)
 try dsimp only
 refine g_ (YT (Z9.bind _) ?_)
 try dsimp only
 rw[n_ (show ¬ ((adJ "range.__reversed__" == Za)=true) from r_)];refine g_ (wpAny_rule ?_);refine g_ (m:=runValue (.call (.builtin "range.__reversed__") ⟨[.ref r],[]⟩)) (show wpAny _ _ (call (.builtin "range.__reversed__") [.ref r]) _ _ _ from iQ hr hn ?_)
 first
 | exact y_ h
 | exact g_ (y_ (y_ h))
theorem lS:isSubtype (.type "range_iterator") (.type "reversed")=pure false:=by rw[isSubtype_type];kernel_rfl
theorem iR {r:Addr}{n:Nat}{t u v:Tok}{Q:Value->h_->Prop} (hr:adr s.heap r 0 n 1 t u v) (hn:n<=1000)
  (h:Q (.ref s.heap.objs.size) { s with heap:=s.heap.push { cls:=.type "range_iterator",data:=.fields #[YG ((n:Int)-1),YG n,YG (-1)] } }) :
  wpAny (model prog w) A (call (.type "reversed") [.ref r]) Q E s:=by
 refine callType_other (U := "range_iterator") (Q₁:=fun obj s₁=>obj=.ref s.heap.objs.size/\s₁={ s with heap:=s.heap.push { cls:=.type "range_iterator",data:=.fields #[YG ((n:Int)-1),YG n,YG (-1)] } }) (by decide +kernel) F.create_reversed ⟨_,_,F.mro_reversed⟩ F.made_reversed lS (F.typeCall_reversed_1 _) (jc hr hn ⟨rfl,rfl⟩) ?_;rintro obj s₁ ⟨rfl,rfl⟩;exact⟨⟨_,A_ _ rfl,rfl⟩,h⟩
end
end PySem
namespace L2
open PySem PySem.Spec PyProof.Rows
section
variable {X:Cx}{tg:Expr}
def QL (ta:TA):TI:=fun σ H R=>ta σ H fun vs H1=>∃ (r:Addr) (n:Nat),vs=[.ref r]/\H1 r=some (.yl 0 (n:Int))/\n<=1000/\R (Az ((n:Int)-1) (-1) n) H1
theorem Hk {a:Expr}{ta:TA}{p pos:Pos} (hg:Gl X "reversed") (hm:X.mg "reversed" = none) (ha:PA X [a] ta) (hs:M_ [a] X.env=[(false,eval a X.env)]:=by rfl) :
  PI X tg (.Call (.Name "reversed" p) [a] [] pos) (QL ta):=by
 intro pins s σ H R I h;refine Call_ (eB I hg hm boot_reversed (Xy (aZ (ha pos pins s σ H _ I h) fun us s1 ⟨vs,H1,I1,r1,q1⟩=>?_) (by rw[hs];rfl) (by rfl)));obtain⟨r,n,e,hr,hn,q⟩:=q1;subst e;obtain⟨u,rfl,rx⟩:=vals1 r1
 cases rx
 obtain⟨t,u,v,e⟩:=(show aS X.prog X.w H1 s1.heap r (.yl 0 (n:Int)) from I1.aY r _ hr);have L8:=I1.kept (t':=s1.toks) (fun b o e=>o_ { cls:=.type "range_iterator",data:=.fields #[YG ((n:Int)-1),YG n,YG (-1)] } e);refine iR (show adr s1.heap r 0 (n:Int) 1 t u v from e) hn ?_;refine ZT (it:=s1.heap.objs.size) (A_ _ rfl) ?_;refine⟨_,[_],_,_,H1,rfl,L8,lz _ ((n:Int)-1) (-1) n,?_,fun b hb=>?_,q⟩
 ·have e1:((n:Int)-1)+((0:Nat):Int)*(-1)=(n:Int)-1:=by omega
  have e2:((n:Nat):Int)-((0:Nat):Int)=(n:Int):=by omega
  show aaS _ _ (((n:Int)-1)+((0:Nat):Int)*(-1)) (((n:Nat):Int)-((0:Nat):Int)) (-1);rw[e1,e2];exact A_ _ rfl
 ·have e:=x_.mp hb;subst e;exact I1.yp (t_ _) (I1.aY.fresh (t_ _))
end
end L2
namespace L2
open PySem PySem.Spec PyProof.Rows
section
variable {X:Cx}
def Hl:List V->Hp->VK->Prop:=fun xs H Q=>∃ (d:Addr) (kvs:List (Key×V)),xs=[.ref d]/\H d=some (.dK kvs)/\∀ l,H l=none->Q (.ref l) (upd H l (.lst (kvs.map fun kv=>kV kv.1)))
theorem Ma {P:K_}{w:World}{k:Key}{u:Value} (h:(aK P w).is k u=true):RelV (kV k) u:=by
 rcases aX (show mS k u=true from h) with ⟨i,t,rfl,rfl⟩ | ⟨x,t,rfl,rfl⟩
 ·exact⟨t,rfl⟩
 ·exact⟨t,rfl⟩
theorem v5 (hc:X.calm=true):bj X (.type "list") Hl:=by
 intro pins s σ H xs us Q I r h;obtain⟨d,kvs,rfl,hd,q⟩:=h;obtain⟨u,rfl,rx⟩:=vals1 r
 cases rx
 have hA:X.A.handled=none:=I.ok.hd hc;obtain⟨hsz,lo,vs,rel,dd⟩:=LU I.aY hd;obtain⟨ep,O8⟩:=dd.dictAt;refine PySem.W.kdl_call (PySem.W.kdl_dict (knd:=aK X.prog X.w) (kvs:=vs) (ep:=ep) lo) hA O8 (by rw[←rel.length];exact hsz) fun h' tk acc c kp he hi=>?_
 obtain⟨hz,AL⟩:=hi;refine⟨.ref s.heap.objs.size,_,I.laid (a:=s.heap.objs.size) (o:=.lst (kvs.map fun kv=>kV kv.1)) (t':=tk) kp (t_ _) ⟨by rw[a_];exact hsz,acc.toList,c,?_,by simpa using he⟩,rfl,q _ (I.aY.fresh (t_ _))⟩;have ek:=rel.keys;have hl:=rel.length
 have gen:∀ (ks:List Key) (us:List Value),ks.length=us.length->(∀ (i:Nat) (k:Key) (v:Value),ks[i]? = some k->us[i]? = some v->(aK X.prog X.w).is k v=true)->Vals (ks.map kV) us:=by
  intro ks
  induction ks with
  | nil=>intro us h _;cases us with
   | nil=>exact .nil
   | cons u us=>simp at h
  | cons k ks ih=>intro us h hk;cases us with
   | nil=>simp at h
   | cons u us=>exact .cons (Ma (hk 0 k u rfl rfl)) (ih us (by simpa using h) fun i k' v h1 h2=>hk (i+1) k' v h1 h2)
 have e1:(kvs.map fun kv=>kV kv.1)=(kvs.map (·.1)).map kV:=by rw[C_];rfl
 rw[e1];refine gen _ _ (by rw[a_,hl];simpa using hz.symm) fun i k v h1 h2=>?_
 obtain⟨k',x,h3,h4⟩:=AL i v (by simpa using h2);rw[ek,f_,h3] at h1
 cases h1
 exact h4
end
end L2
namespace L2
open PySem PySem.Spec PyProof.Rows
theorem v6 {j c:Int}{i:Nat} (hc:1<=c) (h:(i:Int)*c<j):(i:Int)<J_ 0 j c:=by
 have h0:0<=(i:Int)*c:=abX (by omega) (by omega);rw[acg hc (by omega)]
 have:(i:Int)+1<=(j+c-1) / c:=by
  rw[Int.le_ediv_iff_mul_le (by omega),Int.add_mul,Int.one_mul];omega
 omega
section
variable {X:Cx}{tg:Expr}
def Hm (ta:TA):TI:=fun σ H R=>ta σ H fun vs H1=>∃ j c:Int,vs=[.int 0,.int j,.int c]/\(-1000<=j/\j<=1000/\1<=c/\c<=1000)/\∀ n:Nat,(∀ i:Nat,i<n↔(i:Int)*c<j)->R (Az 0 c n) H1
theorem v7 {a b d:Expr}{ta:TA}{p pos:Pos} (hg:Gl X "range") (hm:X.mg "range" = none) (ha:PA X [a,b,d] ta) (hs:M_ [a,b,d] X.env=[(false,eval a X.env),(false,eval b X.env),(false,eval d X.env)]:=by rfl) (qh:M_ [b,d] X.env=[(false,eval b X.env),(false,eval d X.env)]:=by rfl) (WT:M_ [d] X.env=[(false,eval d X.env)]:=by rfl) :
  PI X tg (.Call (.Name "range" p) [a,b,d] [] pos) (Hm ta):=by
 intro pins s σ H R I h;refine Call_ (eB I hg hm Y2 (Xy (aZ (ha pos pins s σ H _ I h) fun us s1 ⟨vs,H1,I1,r1,q1⟩=>?_) (by rw[hs,qh]) (by rw[qh];rfl)));obtain⟨j,c,e,⟨q1,q2,q3,q4⟩,q⟩:=q1;subst e
 cases r1 with
 | cons r rr =>
  cases rr with
  | cons r' rr =>
   cases rr with
   | cons UQ rr =>
    cases rr
    obtain⟨t,rfl⟩:=r;obtain⟨t',rfl⟩:=r';obtain⟨UR,rfl⟩:=UQ;obtain⟨h3,h4,h5⟩:=AA (j:=j) q3;have L8:=I1.kept (t':=s1.toks) (fun b o e=>o_ { cls:=.type "range",data:=.fields #[.int 0 t,.int j t',.int c UR] } e);refine call_range_3 (by omega) ?_ (.inl (abq (by omega)));refine wpAny_pyIter_range (adX ..) (G7 q1 q2 q3 q4) ?_;refine⟨_,[_],_,_,H1,rfl,L8.kept (t':=s1.toks) fun b o e=>o_ _ e,lz _ 0 c (J_ 0 j c).toNat,?_,fun b hb=>?_,q _ fun i=>⟨fun hi=>h5 i (by omega),fun hi=>by have:=v6 q3 hi;omega⟩⟩
    ·have e1:(0:Int)+((0:Nat):Int)*c=0:=by simp
     have e2:(((J_ 0 j c).toNat:Nat):Int)-((0:Nat):Int)=J_ 0 j c:=by omega
     show aaS _ _ ((0:Int)+((0:Nat):Int)*c) ((((J_ 0 j c).toNat:Nat):Int)-((0:Nat):Int)) c;rw[e1,e2];exact A_ _ rfl
    ·have e:=x_.mp hb;subst e;exact L8.yp (t_ _) (L8.aY.fresh (t_ _))
end
end L2
namespace SH
open PySem L2
noncomputable def AQ:Nat->Nat->List Nat
 | 0,_=>[]
 | f+1,n=>n::if 1<n then AQ f ((n+1) / 2) else []
noncomputable def uk (f n:Nat):List Nat:=if n=0 then [] else AQ f n
noncomputable def dJ (n:Nat):List Nat:=uk n n
noncomputable def iT (s n:Nat):Nat:=(n+s-1) / s
noncomputable def b9 (s:Nat) (ps:List Int):List (List Int):=(Xa (iT s ps.length)).map fun i=>(ps.drop (i*s)).take s
noncomputable def fM (ps:List Int):List (List Int):=(dJ ps.length).flatMap fun s=>b9 s ps
theorem yX {f n:Nat} (h0:0<n) (hf:n<=f):∃ f',(if n=1 then 0 else (n+1) / 2)<=f'/\uk f n=n::uk f' (if n=1 then 0 else (n+1) / 2):=by
 cases f with
 | zero=>omega
 | succ f =>
  refine⟨f,?_,?_⟩
  ·split<;>omega
  ·unfold uk;rw[n_ (by omega)];show n::(if 1<n then AQ f ((n+1) / 2) else [])=_;by_cases h:n=1
   ·rw[n_ (by omega),s_ (by rw[s_ h])]
   ·rw[s_ (by omega),n_ (by rw[n_ h];omega),n_ h]
theorem jT {s n i:Nat} (hs:1<=s):i<iT s n↔i*s<n:=by
 unfold iT;rw[Nat.lt_iff_add_one_le,Nat.le_div_iff_mul_le (by omega),ab0,ab1];omega
theorem rJ {s n:Nat} (hs:1<=s):iT s n<=n:=by
 cases h:iT s n with
 | zero=>omega
 | succ m =>
  have:=(jT (i:=m) (n:=n) hs).mp (by omega);have:m*1<=m*s:=Zy m hs;omega
theorem hW (s:Nat) (ps:List Int):(b9 s ps).length=iT s ps.length:=by
 unfold b9;rw[a_,H_]
theorem qA:∀ n≤40,(dJ n).length<=7/\∀ s∈dJ n,1<=s/\s<=40:=by decide
theorem um {ps:List Int} (hp:ps.length<=40):∀ (l:List Nat),(∀ s∈l,1<=s)->(l.flatMap fun s=>b9 s ps).length<=40*l.length
 | [],_=>by simp
 | s::l,h=>by
  have h1:=um hp l fun x hx=>h x (F_ _ hx)
  have h2:=rJ (n:=ps.length) (h s Q_);rw[acR,u_,hW,z_];omega
end SH
namespace L2
open PySem PySem.Spec PyProof.Rows
section
variable {X:Cx}
noncomputable def Cx.quiet (X:Cx):Cx:={ X with xe:=fun _ _=>False }
variable {pins:List (Addr×Obj)}{σ:St}{H:Hp}{s:h_}
theorem Inv.DB (I:Inv X pins σ H s):Inv X.quiet pins σ H s :=
 ⟨⟨I.ok.mod,I.ok.kind,I.ok.glob,I.ok.blt,I.ok.above,I.ok.inj,I.ok.has,I.ok.FP,I.ok.hd,I.ok.frames,I.ok.Ks,I.ok.OS,I.ok.bs,I.ok.zQ,I.ok.vw,I.ok.yn,I.ok.iP,I.ok.CP⟩,I.os,I.bare,I.base,I.loc,I.cell,I.free,I.gQ,I.pin,I.aY,I.len⟩
theorem Inv.xr (I:Inv X.quiet pins σ H s):Inv X pins σ H s :=
 ⟨⟨I.ok.mod,I.ok.kind,I.ok.glob,I.ok.blt,I.ok.above,I.ok.inj,I.ok.has,I.ok.FP,I.ok.hd,I.ok.frames,I.ok.Ks,I.ok.OS,I.ok.bs,I.ok.zQ,I.ok.vw,I.ok.yn,I.ok.iP,I.ok.CP⟩,I.os,I.bare,I.base,I.loc,I.cell,I.free,I.gQ,I.pin,I.aY,I.len⟩
theorem DC {body:List Stmt}{tb:TS}{h₀:ExceptHandler}{hs:List ExceptHandler}{pos:Pos} (hb:kC X.quiet body tb):PS X (.Try body (h₀::hs) [] [] pos) tb:=by
 intro pins s σ H D I h;refine wpAny_Try_except (XW (hb pins s σ H D I.DB h) (fun fw s1 q=>?_) fun _ _ z=>z.elim)
 cases fw with
 | next=>obtain⟨σ1,H1,I1,q1⟩:=q;exact aao ⟨σ1,H1,I1.xr,q1⟩
 | brk=>obtain⟨σ1,H1,I1,q1⟩:=q;exact⟨σ1,H1,I1.xr,q1⟩
 | cont=>obtain⟨σ1,H1,I1,q1⟩:=q;exact⟨σ1,H1,I1.xr,q1⟩
 | ret u=>obtain⟨v,σ1,H1,I1,r1,q1⟩:=q;exact⟨v,σ1,H1,I1.xr,r1,q1⟩
end
end L2
namespace SH
open PySem PySem.Spec PyProof.Rows
def Hn (w:World) (n:Nat) (t:abd):Prop:=(w.params.followText "set-order" = false->t.led=true)/\(0<n->t.plain=false)
def pb (prog:K_) (w:World) (h:Heap) (a:Addr) (zs:List Str):Prop :=
 ∃ o es ep t,h.get? a=some o/\o.ExactSet/\o.data=.set es ep t/\ElemsOf (X0 prog w) es.toList/\(es.toList.map fun e=>strOf e.2).Perm zs/\es.size<ab8/\t.fits es.size=true/\Hn w es.size t
theorem uq (u:abd) (n:Nat):(u.orStandIn n).led=u.led/\(u.plain=false->(u.orStandIn n).plain=false):=by
 unfold SetTable.orStandIn;split
 ·exact⟨rfl,id⟩
 ·exact⟨rfl,fun _=>rfl⟩
theorem DD (t:abd) (es:Array (Int×Value)) (h:Int) (x:Value):(layNew t es h x).2.1.led=t.led/\(t.plain=false->(layNew t es h x).2.1.plain=false):=by
 unfold layNew
 cases t.freeSlot h with
 | none=>exact⟨rfl,fun _=>rfl⟩
 | some p=>exact uq (t.put p.1).1 _
theorem yY (t:abd) (es:Array (Int×Value)) (n:Nat):(relayAll t es n).2.1.led=t.led/\(t.plain=false->(relayAll t es n).2.1.plain=false):=by
 unfold relayAll
 cases hr:t.relaid (es.map (·.1)) n with
 | none=>exact⟨rfl,fun _=>rfl⟩
 | some p =>
  obtain⟨t',order⟩:=p;dsimp only;split
  ·unfold SetTable.relaid SetTable.laid at hr
   cases hc:SetTable.layClean (SetTable.sizeAbove n-1) (es.map (·.1)) with
   | none=>rw[hc] at hr;exact nomatch hr
   | some ow =>
    rw[hc] at hr;have:=O_ hr;rw[Prod.mk.injEq] at this;rw[←this.1];exact⟨rfl,id⟩
  ·exact⟨rfl,fun _=>rfl⟩
section
variable {prog:K_}{w:World}{A:Xw}{E:Value->h_->Prop}{s:h_}
theorem AR {v:Value}{k:Str} (h:(X0 prog w).is k v=true):strOf v=k:=by
 obtain⟨t,rfl⟩:=ab9 h;rfl
theorem AS {a:Addr}{zs:List Str}{x:Str}{tk:Tok}{Q:Bool->h_->Prop} (T:pb prog w s.heap a zs) (room:zs.length+1<ab8)
  (h:∀ b h',Zb a s.heap h'->pb prog w h' a (if x∈zs then zs else zs++[x])->Q b { s with heap:=h' }) :
  wpAny (model prog w) A (setAddHashed a (.str x tk) ((X0 prog w).hash x)) Q E s:=by
 obtain⟨o,es,ep,t,ho,hx,hd,el,pm,sb,ft,ld⟩:=T;have ik:(X0 prog w).is x (.str x tk)=true:=strKind_is ..;have ln:es.size=zs.length:=by have:=pm.length_eq;rw[a_,Xz] at this;exact this
 unfold setAddHashed setAddHashedIn;refine ZF (g_ (wpAny_setState_of ho hd ft ?_));dsimp only;rw[byScan_of rfl sb el,s_ rfl];unfold setAddByScan;refine g_ (g_ (wpAny_rule (g_ (wpAny_setScan_of ik ho hd ft el ?_))))
 cases hr:List.findIdx? (fun e=>(X0 prog w).is x e.2) es.toList with
 | some j =>
  obtain⟨hj,hp,_⟩:=List.findIdx?_eq_some_iff_getElem.mp hr;have hm:x∈zs:=pm.mem_iff.mp (m_.mpr ⟨_,Yv hj,AR hp⟩);have:=h false s.heap (Heap.SameBut.refl a s.heap) (by rw[s_ hm];exact⟨o,es,ep,t,ho,hx,hd,el,pm,sb,ft,ld⟩);exact y_ (y_ this)
 | none =>
  have hm:x∉zs:=fun hz=>by
   obtain⟨e,he,ee⟩:=m_.mp (pm.mem_iff.mpr hz);obtain⟨⟨k,hk,_⟩,_⟩:=el e he;have:=List.findIdx?_eq_none_iff.mp hr e he;rw[←ee,AR hk,hk] at this;exact nomatch this
  have p1:=layNew_perm t es ((X0 prog w).hash x) (.str x tk);have f1:=layNew_fits t es ((X0 prog w).hash x) (.str x tk);have l1:=DD t es ((X0 prog w).hash x) (.str x tk);dsimp only;generalize layNew t es ((X0 prog w).hash x) (.str x tk)=L at p1 f1 l1 ⊢;obtain⟨e1,t1,wd,gv⟩:=L;dsimp only at p1 f1 l1 ⊢;rw[Array.toList_push] at p1;have US:ElemsOf (X0 prog w) e1.toList:=(el.push ik rfl).perm p1
  have UT:(e1.toList.map fun e=>strOf e.2).Perm (if x∈zs then zs else zs++[x]):=by
   rw[n_ hm];refine (p1.map _).trans ?_;rw[E_];exact pm.append_right _
  have z1:e1.size=zs.length+1:=by
   have:=p1.length_eq;rw[u_,Xz,Xz] at this;simp only[z_,ZI] at this;omega
  have gw:∀ (b:Bool) {s₁:h_}{Q':Unit->h_->Prop},Q' () s₁->wpAny (model prog w) A (match b with | true=>rule "set.scan.the-table-gave-way" | false=>pure ()) Q' E s₁:=fun b _ _ q=>by
   cases b
   ·exact y_ q
   ·exact wpAny_rule q
  have done:∀ (e2:Array (Int×Value)) (t2:abd) (g:Heap) (o1:Obj),Zb a s.heap g->g.get? a=some o1->o1.ExactSet->(∃ QM,o1.data=.set e2 QM t2)->List.Perm e2.toList e1.toList->t2.fits e2.size=true->Hn w e2.size t2->Q true { s with heap:=g }:=fun e2 t2 g o1 UU go gx ⟨QM,gd⟩ pp ff ll=>by
   have zz:e2.size=e1.size:=by have:=pp.length_eq;rw[Xz,Xz] at this;exact this
   exact h true g UU ⟨o1,e2,QM,t2,go,gx,gd,US.perm pp,(pp.map _).trans UT,by omega,ff,ll⟩
  have tail:∀ t2:abd,t2.fits e1.size=true->Hn w e1.size t2->wpAny (model prog w) A (do
    storeSet a e1 t2
    if (!wd && t2.tooFull) = true then do
        (match (relayAll t2 e1 (Y8 e1.size)).2.2 with | true=>rule "set.scan.the-table-gave-way" | false=>pure ())
        storeSet a (relayAll t2 e1 (Y8 e1.size)).1 (relayAll t2 e1 (Y8 e1.size)).2.1
        pure (some true)
     else pure (some true)) (fun r s'=>r=some true/\Q true s') E s:=fun t2 f2 l2=>by
   have ge:∀ (g:Heap) (o1:Obj) (e0 e2:Array (Int×Value)) (p0:Nat) (t0 t3:abd),g.get? a=some o1->o1.data=.set e0 p0 t0->(g.update a (adB e2 t3)).get? a=some { o1 with data:=.set e2 (p0+1) t3 }:=fun g o1 e0 e2 p0 t0 t3 hg h0=>by
    have:=abK (adB e2 t3) hg (by rw[putSet_of e2 t3 h0];rfl);rw[putSet_of e2 t3 h0] at this;exact this
   have g1:=ge _ _ _ e1 _ _ t2 ho hd;have s1:=Zw s.heap a (adB e1 t2);refine g_ (wpAny_storeSet_of ho hd ?_ (fits_of_scanBound (by omega)));split
   ·have rp:=relayAll_perm t2 e1 (Y8 e1.size);have rf:=relayAll_fits t2 e1 (Y8 e1.size);have rl:=yY t2 e1 (Y8 e1.size);generalize relayAll t2 e1 (Y8 e1.size)=Y at rp rf rl ⊢;obtain⟨e2,t3,gg⟩:=Y;dsimp only at rp rf rl ⊢;have zz:e2.size=e1.size:=by have:=rp.length_eq;rw[Xz,Xz] at this;exact this
    refine g_ (gw _ (g_ (wpAny_storeSet_of g1 rfl (y_ ⟨rfl,?_⟩) (fits_of_scanBound (by omega)))));exact done e2 t3 _ _ (s1.trans (Zw _ a _)) (ge _ _ _ e2 _ _ t3 g1 rfl) hx ⟨_,rfl⟩ rp rf ⟨fun e=>by rw[rl.1];exact l2.1 e,fun z=>rl.2 (l2.2 (by omega))⟩
   ·exact y_ ⟨rfl,done e1 t2 _ _ s1 g1 hx ⟨_,rfl⟩ .rfl f2 l2⟩
  refine g_ (gw _ ?_);split
  ·refine g_ ?_;rw[hashByValue_scannable 8 rfl];refine y_ ?_;refine XW (tail _ (SetTable.fits_plain_off f1) ⟨fun e=>by show t1.led=true;rw[l1.1];exact ld.1 e,fun _=>rfl⟩) ?_ fun _ _ e=>e
   rintro _ _ ⟨rfl,q⟩;exact y_ q
  ·rename_i np;refine g_ (y_ ?_);rw[s_ rfl];refine XW (tail _ f1 ⟨fun e=>by rw[l1.1];exact ld.1 e,fun _=>Bool.eq_false_iff.mpr np⟩) ?_ fun _ _ e=>e
   rintro _ _ ⟨rfl,q⟩;exact y_ q
end
noncomputable def AT (zs:List Str) (x:Str):List Str:=if x∈zs then zs else zs++[x]
noncomputable def hX (val:Nat->Str) (i:Nat):List Str:=((Xa i).map val).foldl AT []
theorem nr (val:Nat->Str) (i:Nat):hX val (i+1)=AT (hX val i) (val i):=by
 unfold hX;rw[aas,E_,List.foldl_append];rfl
theorem nu (val:Nat->Str):∀ i,(hX val i).length<=i
 | 0=>t_ _
 | i+1=>by
  have:=nu val i;rw[nr];unfold AT;split
  ·omega
  ·rw[u_];exact Nat.succ_le_succ this
section
variable {prog:K_}{w:World}{A:Xw}{R:Result->h_->Prop}{I:Addr}{fp wr:List Addr}{G:Array GenState->Array GenState->Prop}{n:Nat}{P:Nat->Value->Prop}{St:Nat->h_->Prop}
theorem pb.kept {h h':Heap}{a:Addr}{zs:List Str} (T:pb prog w h a zs) (k:∀ o,h.get? a=some o->h'.get? a=some o):pb prog w h' a zs:=by
 obtain⟨o,es,ep,t,ho,r⟩:=T;exact⟨o,es,ep,t,k o ho,r⟩
theorem yZ (W:WalksS prog w A.in1 I fp wr G n P St) (S:Addr) (hS:S∉fp) (val:Nat->Str) (hv:∀ i v,P i v->∃ t,v=.str (val i) t) (hb:n+1<ab8) :
  ∀ (k i:Nat) (s:h_),n-i=k->i<=n->St i s->pb prog w s.heap S (hX val i) ->
   (∀ s',Moved (S::wr) G s s'->pb prog w s'.heap S (hX val n)->R (.ok (.ret .none)) s') ->
   Zt (model prog w) A (.builtin "set.update.loop" ⟨[.ref S,.ref I],[]⟩) R s:=by
 have nw:S∉wr:=fun z=>hS (W.sub _ z)
 have sub:∀ b∈wr,b∈S::wr:=fun b z=>F_ _ z
 intro k
 induction k with
 | zero =>
  intro i s hk hi st T hR;obtain rfl:i=n:=by omega
  refine YM Zz ?_;rw[Yd Yo _];show wpAny _ A.in1 (pyNext (.ref I) >>= _) _ _ s;refine g_ (W.done s _ _ st fun s' m=>y_ ?_);exact hR s' (m.mono sub) (T.kept fun o e=>m.heap S _ nw e)
 | succ k ih =>
  intro i s hk hi st T hR;have lt:i<n:=by omega
  refine YM Zz ?_;rw[Yd Yo _];show wpAny _ A.in1 (pyNext (.ref I) >>= _) _ _ s;refine g_ (W.item i s _ _ lt st fun v s' hP kn m=>?_);obtain⟨t,rfl⟩:=hv i v hP;have T':=T.kept (h':=s'.heap) fun o e=>m.heap S _ nw e
  show wpAny _ A.in1 (aaR [aaB (val i) t] (setAdd S (.str (val i) t)) >>= _) _ _ s';refine g_ (ZF ?_);unfold setAdd;refine ZF (g_ ((X0 prog w).pyHash (k:=val i) (strKind_is _ _ _ _) ?_));have rm:(hX val i).length+1<ab8:=by have:=nu val i;omega
  refine AS (s:={ s' with toks:=s'.toks+1 }) T' rm fun b h' sb T2=>?_
  refine y_ ⟨aci Yo _,ih (i+1) _ (by omega) lt (W.frame _ s' _ _ kn (aan _) fun b hb o e=>?_) (by rw[nr];exact T2) fun s2 m2 TT=>?_⟩
  ·rw[sb.2 b fun z=>hS (z▸hb)];exact e
  ·refine hR s2 (Moved.trans W.gtrans ((m.mono sub).then_heap (aan _) fun b o hb e=>?_) m2) TT;rw[sb.2 b fun z=>hb (z▸Q_)];exact e
end
end SH
namespace SH
open PySem PySem.Spec PyProof.Rows
section
variable {prog:K_}{w:World}{A:Xw}{E:Value->h_->Prop}{s:h_}
noncomputable abbrev DE (led:Bool):Obj:={ cls:=.type "set",dict:=none,data:=.set #[] 0 (.fresh 0 0 led) }
theorem AU (a:Value) {Q:Value->h_->Prop} (h:Q (.ref s.heap.objs.size) { s with heap:=s.heap.push (DE (!w.params.followText "set-order")) }) :
  Zt (model prog w) A (.call (.builtin "set.__new__") ⟨[.type "set",a],[]⟩) (wants Q E) s:=by
 refine abH ?_;show wpAny _ A.in1 (do checkBuiltinCall "set.__new__" ⟨[.type "set",a],[]⟩;again (.builtin "set.__new__" ⟨[.type "set",a],[]⟩)) _ _ s;refine g_ (YT (PySem.F.newCall_set_1 a) (y_ ⟨aci F.plain_set_new _,YM F.entry_set_new ?_⟩));rw[Yd F.plain_set_new _];unfold aaz.«set.__new__» adC;have sub:=sub_set_self;obtain⟨hp,g,d,tk,os⟩:=s;dsimp only
 wp_walk
 refine wpAny_askSetting (y_ ?_);dsimp only;simp only[newObj];exact g_ (wpAny_alloc (y_ (y_ h)))
theorem DF:∀ {vs:List Value}{zs:List Str},StrsAre vs zs->∀ (i:Nat) (v:Value),vs[i]? = some v->∃ t,v=.str (zs.getD i default) t:=by
 intro vs zs hz
 induction hz with
 | nil=>intro i v h;exact nomatch h
 | cons x t _ ih =>
  intro i v h
  cases i with
  | zero=>exact⟨t,(O_ h).symm⟩
  | succ i=>exact ih i v h
set_option maxHeartbeats 4000000 in
theorem nv {l:Addr}{vs:List Value}{zs:List Str}{Q:Value->h_->Prop} (hh:A.handled=none) (hl:s.heap.IsList l vs.toArray) (hz:StrsAre vs zs) (hb:vs.length+1<ab8)
  (h:∀ (h':Heap) (tk:Nat),pb prog w h' s.heap.objs.size (hX (fun i=>zs.getD i default) vs.length)->(∀ b o,s.heap.get? b=some o->h'.get? b=some o)->Q (.ref s.heap.objs.size) { s with heap:=h',toks:=tk }) :
  wpAny (model prog w) A (call (.type "set") [.ref l]) Q E s:=by
 obtain⟨c,tl,mro⟩:=Ze.mro;have made:=Ze.made;have UV:=Ze.sub;refine acp (abH ?_);show wpAny _ _ (callAny (.type "set") _) _ _ _;refine y_ ⟨aaJ _ (by decide +kernel),YM F.entry_type_call ?_⟩;rw[Around.under_plain (weight_type_call_type "set" [.ref l] []) rfl];have n1:=Ze.notType;have n2:=Ze.canCreate;have n3:=PySem.F.typeCall_set_1 (.ref l)
 repeat any_goals first
  | assumption
  | wp_step
 generalize hO:(!w.params.followText "set-order")=led;refine Zu (AU (.ref l) (E:=E) (Q:=fun v s₁=>v=.ref s.heap.objs.size/\s₁={ s with heap:=s.heap.push { cls:=.type "set",dict:=none,data:=.set #[] 0 (.fresh 0 0 led) } }) ⟨rfl,by subst hO;rfl⟩) fun r s₁ hr=>?_
 cases r with
 | error e=>exact hr
 | ok fl =>
  cases fl with
  | ret obj =>
   obtain⟨rfl,rfl⟩:=hr;have gS:(s.heap.push { cls:=.type "set",dict:=none,data:=.set #[] 0 (.fresh 0 0 led) }).get? s.heap.objs.size=some { cls:=.type "set",dict:=none,data:=.set #[] 0 (.fresh 0 0 led) }:=A_ _ rfl;have hT:Shared.TypeIs { s with heap:=s.heap.push { cls:=.type "set",dict:=none,data:=.set #[] 0 (.fresh 0 0 led) } } (.ref s.heap.objs.size) "set" := ⟨_,gS,rfl⟩;have i1:=Ze.init.lookup;have i2:=Ze.init.bind (.ref s.heap.objs.size)
   repeat any_goals first
    | assumption
    | wp_step
   refine Zu (codeAny_call_builtin (R:=wants (fun r s₂=>r=.none/\∃ h' tk,s₂={ s with heap:=h',toks:=tk }/\pb prog w h' s.heap.objs.size (hX (fun i=>zs.getD i default) vs.length)/\∀ b o,s.heap.get? b=some o->h'.get? b=some o) E)
    Ze.init.plain F.entry_set_init (check_set_init_1 hT ?_)) fun r₂ s₂ QN=>?_
   ·obtain⟨ol,gl,cl,nl,dl⟩:=hl;obtain⟨oc,od,WU,yC⟩:=ol;dsimp only at cl dl;subst cl dl;have UW:(s.heap.push { cls:=.type "set",dict:=none,data:=.set #[] 0 (.fresh 0 0 led) }).get? l=some { cls:=.type "list",dict:=od,data:=.seq vs.toArray nl,slots:=yC }:=o_ _ gl;have q1:=PySem.F.sub_list_set;have q2:=PySem.F.sub_list_frozenset;have q3:(Yy "list" == Yy "dict")=false:=by decide
    have l1:(s.heap.push { cls:=.type "set",dict:=none,data:=.set #[] 0 (.fresh 0 0 led) }).IsList l vs.toArray:=⟨_,UW,rfl,nl,rfl⟩;unfold aaz.«set.__init__» noKeywords adi;generalize UX:pyIter=PI
    wp_walk
    subst UX;refine Z0 l1 ?_;refine g_ (wpAny_runValue ?_);have ls:l<s.heap.objs.size:=B_ gl;have sz:(s.heap.push { cls:=.type "set",dict:=none,data:=.set #[] 0 (.fresh 0 0 led) }).objs.size=s.heap.objs.size+1:=Ya _ _;have h3:A.in1.in1.in1.handled=none:=by simp [hh]
    have ni:l≠(s.heap.push { cls:=.type "set",dict:=none,data:=.set #[] 0 (.fresh 0 0 led) }).objs.size:=by rw[sz];exact T_ (aaY ls)
    have nf:s.heap.objs.size∉[(s.heap.push { cls:=.type "set",dict:=none,data:=.set #[] 0 (.fresh 0 0 led) }).objs.size,l]:=fun z=>by
     rw[sz] at z;rcases w_.mp z with z | z
     ·exact absurd z (T_ (Y3 _))
     ·exact absurd (x_.mp z) (aay ls)
    refine yZ ((Walks.list h3 _ l ni vs.toArray).toS) s.heap.objs.size nf (fun i=>zs.getD i default) (fun i v hv=>DF hz i v (by rw[←hv];simp)) hb _ 0 _ rfl (Yb _) ⟨⟨_,A_ _ rfl,rfl,rfl⟩,l1.push _⟩ ?_ ?_
    ·refine⟨_,#[],0,.fresh 0 0 led,o_ _ gS,⟨rfl,rfl,rfl⟩,rfl,(fun _ z=>nomatch z),.rfl,by decide,rfl,fun e=>?_,fun z=>absurd z (Xp 0)⟩;show led=true;rw[←hO,e];rfl
    ·intro s' m T;obtain⟨h',g',d',LX,P8⟩:=s';obtain rfl:g'=s.gens:=m.gens;obtain rfl:d'=s.drawn:=m.drawn;obtain rfl:P8=s.os:=m.os;refine y_ (y_ ⟨rfl,h',LX,rfl,T,fun b o e=>?_⟩);have bl:=B_ e;refine m.heap b o (fun z=>?_) (o_ _ (o_ _ e));rcases w_.mp z with z | z
     ·exact absurd z (T_ bl)
     ·have:=x_.mp z;rw[sz] at this;exact absurd this (T_ (aaY bl))
   ·cases r₂ with
    | error e=>exact QN
    | ok UY =>
     cases UY with
     | ret r =>
      obtain⟨rfl,h',tk,rfl,T,kp⟩:=QN
      repeat any_goals first
       | assumption
       | wp_step
      exact h _ _ T kp
     | _=>exact QN
  | _=>exact hr
end
end SH
namespace L2
open PySem PySem.Spec PyProof.Rows SH
theorem jU:∀ {zs:List Str}{us:List Value},Vals (zs.map V.str) us->StrsAre us zs
 | [],_,.nil=>.nil
 | _::_,_,.cons ⟨_,rfl⟩ t=>.cons _ _ (jU t)
theorem jV (zs:List Str):hX (fun i=>zs.getD i default) zs.length=bf zs:=by
 have e:(Xa zs.length).map (fun i=>zs.getD i default)=zs:=by
  apply List.ext_getElem
  ·simp
  ·intro i h1 h2;simp [v_,b_ h2]
 unfold hX;rw[e];rfl
section
variable {X:Cx}{p pos p' pos':Pos}{e:Expr}{te:TE}
def DG (K:e_) (te:TE):TE:=fun σ H Q=>te σ H fun x H1=>∃ (q:Addr) (zs:List Str),x=.ref q/\cS K H1 q (zs.map V.str)/\zs.length<64/\Q (.int (bf zs).length) H1
theorem y0 (Mb:X.calm=true) (hg:Gl X "len") (hm:X.mg "len" = none) (EV:Gl X "set") (UZ:X.mg "set" = none) (ha:PE X e te)
  (he:M_ [e] X.env=[(false,eval e X.env)]:=by rfl):PE X (.Call (.Name "len" p) [.Call (.Name "set" p') [e] [] pos'] [] pos) (DG X.K te):=by
 intro pins s σ H Q I h;have hh:=I.ok.hd Mb;refine X9 (eB (u:=.builtin "len") I hg hm (by kernel_rfl) ?_ (by decide) (by decide));refine aad (aaG (X9 (eB (u:=.type "set") I EV UZ (by kernel_rfl) ?_ (by decide) (by decide)))) rfl rfl;refine Xy ?_ he rfl;rw[he];show wpAny _ _ (spliced ((false,eval e X.env)::[])) _ _ s;refine aaG (aZ (ha pins s σ H _ I h) fun u s1 z=>aaW ?_);obtain⟨x,H1,I1,r1,q,zs,ev,hq,U0,k⟩:=z;subst ev
 cases r1
 obtain⟨aj,r,pl,hz⟩:=I1.list hq;have sa:StrsAre aj zs:=jU r;have li:aj.length=zs.length:=by rw[←r.length,a_]
 refine nv hh pl.isList sa (by rw[li];exact D_ (Nat.succ_lt_succ U0) (by decide)) fun h1 tk T kp=>aaW ?_
 rw[li,jV] at T;obtain⟨o,es,ep,t,ho,hx,hd,el,pm,sb,ft,ld⟩:=T;have ln:es.size=(bf zs).length:=by have:=pm.length_eq;rw[a_,Xz] at this;exact this
 have le:=nu (fun i=>zs.getD i default) zs.length;rw[jV] at le;refine call_len_set ho hx hd ft (by omega) ?_;rw[ln];exact⟨.int _,H1,I1.kept (t':=tk+1+1) kp,⟨_,rfl⟩,k⟩
end
end L2
namespace PV
open PySem PySem.Spec PyProof.Rows L2
noncomputable def kI:Nat->P_->Bool
 | _,.int _=>true
 | _,.str _=>true
 | n+1,.tuple xs=>xs.all (kI n)
 | _,_=>false
noncomputable def hP (w:World):Nat->P_->Int
 | _,.int i=>hashInt i
 | _,.str x=>hashStr w x
 | n+1,.tuple xs=>reduceHash (YI (xs.map (hP w n)))
 | _,_=>0
noncomputable def dP:Nat->P_->Nat
 | n+1,.tuple xs=>(xs.map (dP n)).sum+1
 | _,_=>1
noncomputable instance U1:DecidableEq P_:=fun _ _=>Y9 _
theorem aO {n:Nat}{d:P_} (h:kI n d=true):(∃ i,d=.int i)∨(∃ x,d=.str x)∨∃ m xs,n=m+1/\d=.tuple xs/\∀ x∈xs,kI m x=true:=by
 unfold kI at h;split at h
 ·exact .inl ⟨_,rfl⟩
 ·exact .inr (.inl ⟨_,rfl⟩)
 ·exact .inr (.inr ⟨_,_,rfl,rfl,V_.mp h⟩)
 ·cases h
theorem Ho:∀ (n:Nat) (d e:P_),kI n d=true->kI n e=true->(Xo d e=true↔d=e):=fun n=>by
 induction n with
 | zero =>
  intro d e hd he;rcases aO hd with ⟨i,rfl⟩ | ⟨x,rfl⟩ | ⟨m,_,z,_⟩
  ·rcases aO he with ⟨j,rfl⟩ | ⟨y,rfl⟩ | ⟨m,_,z,_⟩
   ·simp [Xo]
   ·simp [Xo]
   ·cases z
  ·rcases aO he with ⟨j,rfl⟩ | ⟨y,rfl⟩ | ⟨m,_,z,_⟩
   ·simp [Xo]
   ·simp [Xo]
   ·cases z
  ·cases z
 | succ n ih =>
  intro d e hd he;rcases aO hd with ⟨i,rfl⟩ | ⟨x,rfl⟩ | ⟨m,xs,z,rfl,hx⟩
  ·rcases aO he with ⟨j,rfl⟩ | ⟨y,rfl⟩ | ⟨m,ys,z,rfl,hy⟩<;>simp [Xo]
  ·rcases aO he with ⟨j,rfl⟩ | ⟨y,rfl⟩ | ⟨m,ys,z,rfl,hy⟩<;>simp [Xo]
  ·cases z
   rcases aO he with ⟨j,rfl⟩ | ⟨y,rfl⟩ | ⟨m,ys,z,rfl,hy⟩
   ·simp [Xo]
   ·simp [Xo]
   ·cases z
    have all:∀ xs ys:List P_,(∀ x∈xs,kI n x=true)->(∀ y∈ys,kI n y=true)->(acj xs ys=true↔xs=ys):=fun xs=>by
     induction xs with
     | nil=>intro ys _ _;cases ys<;>simp [acj]
     | cons x xs Me =>
      intro ys hx hy
      cases ys with
      | nil=>simp [acj]
      | cons y ys =>
       rw[PyData.eqvAll.eq_2,G_,ih x y (hx x (by simp)) (hy y (by simp)),Me ys (fun z q=>hx z (by simp [q])) (fun z q=>hy z (by simp [q]))];simp
    rw[PyData.eqv.eq_8,all xs ys hx hy];simp
theorem DH {n:Nat}{d e:P_} (hd:kI n d=true) (he:kI n e=true):Xo d e=decide (d=e):=by
 have h:=Ho n d e hd he
 cases q:Xo d e with
 | true=>rw[c_ (h.mp q)]
 | false=>rw[d_ fun z=>by rw[h.mpr z] at q;cases q]
theorem fN {h:Heap}{v:Value}{i:Int}{as:List Addr} (r:Reads h v (.int i) as):∃ t,v=.int i t:=by cases r;exact⟨_,rfl⟩
theorem fO {h:Heap}{v:Value}{x:Str}{as:List Addr} (r:Reads h v (.str x) as):∃ t,v=.str x t:=by cases r;exact⟨_,rfl⟩
theorem ny {h:Heap}{v:Value}{xs:List P_}{as:List Addr} (r:Reads h v (.tuple xs) as):∃ (a:Addr) (o:Obj) (vs:Array Value) (n:Nat),v=.ref a/\h.get? a=some o/\o.cls=Yy "tuple" /\ o.data=Data.seq vs n/\ZD h vs.toList xs as:=by
 cases r with
 | tuple h1 h2 h3 h4=>exact⟨_,_,_,_,rfl,h1,h2,h3,h4⟩
theorem fP {h:Heap}{vs:List Value}{d:P_}{ds:List P_}{as:List Addr} (r:ZD h vs (d::ds) as):∃ v us a b,vs=v::us/\Reads h v d a/\ZD h us ds b:=by
 cases r with
 | cons h1 h2=>exact⟨_,_,_,_,rfl,h1,h2⟩
theorem nz {h:Heap}{vs:List Value}{as:List Addr} (r:ZD h vs [] as):vs=[]:=by cases r;rfl
theorem AV {h:Heap}:∀ (n:Nat) (v:Value) (d e:P_) (as bs:List Addr),kI n d=true->kI n e=true->Reads h v d as->Reads h v e bs->d=e:=fun n=>by
 induction n with
 | zero =>
  intro v d e as bs hd he r1 r2;rcases aO hd with ⟨i,rfl⟩ | ⟨x,rfl⟩ | ⟨m,_,z,_⟩
  ·obtain⟨t,rfl⟩:=fN r1
   cases r2;rfl
  ·obtain⟨t,rfl⟩:=fO r1
   cases r2;rfl
  ·cases z
 | succ n ih =>
  intro v d e as bs hd he r1 r2;rcases aO hd with ⟨i,rfl⟩ | ⟨x,rfl⟩ | ⟨m,xs,z,rfl,hx⟩
  ·obtain⟨t,rfl⟩:=fN r1
   cases r2;rfl
  ·obtain⟨t,rfl⟩:=fO r1
   cases r2;rfl
  ·cases z
   obtain⟨a,o,vs,k,rfl,g1,g2,g3,g4⟩:=ny r1;rcases aO he with ⟨j,rfl⟩ | ⟨y,rfl⟩ | ⟨m,ys,z,rfl,hy⟩
   ·obtain⟨t,q⟩:=fN r2;cases q
   ·obtain⟨t,q⟩:=fO r2;cases q
   ·cases z
    obtain⟨a',o',WV,k',q,SR,WW,SS,U2⟩:=ny r2
    cases q
    rw[g1] at SR
    cases O_ SR
    rw[g3] at SS;injection SS with g5 g6
    subst g5
    have all:∀ (xs ys:List P_) (vs:List Value) (as bs:List Addr),(∀ x∈xs,kI n x=true)->(∀ y∈ys,kI n y=true)->ZD h vs xs as->ZD h vs ys bs->xs=ys:=fun xs=>by
     induction xs with
     | nil =>
      intro ys vs as bs _ _ q1 q2
      cases nz q1
      cases ys with
      | nil=>rfl
      | cons y ys=>obtain⟨_,_,_,_,z,_⟩:=fP q2;cases z
     | cons x xs Me =>
      intro ys vs as bs hx hy q1 q2;obtain⟨v,us,a1,b1,rfl,r1,r2⟩:=fP q1
      cases ys with
      | nil=>cases nz q2
      | cons y ys =>
       obtain⟨v',Dv,a2,b2,z,r3,r4⟩:=fP q2;injection z with z1 z2
       subst z1 z2;rw[ih v x y _ _ (hx x (by simp)) (hy y (by simp)) r1 r3,Me ys us _ _ (fun z q=>hx z (by simp [q])) (fun z q=>hy z (by simp [q])) r2 r4]
    rw[all xs ys _ _ _ hx hy g4 U2]
theorem DI {h h':Heap}{d:Addr}{o:Obj}{es:Array DictEntry}{ep:Nat} (ho:h.get? d=some o) (hd:o.data=Data.dict es ep) (hs:Zb d h h') :
  ∀ (n:Nat) (v:Value) (e:P_) (as:List Addr),kI n e=true->Reads h v e as->∃ bs,Reads h' v e bs:=fun n=>by
 induction n with
 | zero =>
  intro v e as he r;rcases aO he with ⟨i,rfl⟩ | ⟨x,rfl⟩ | ⟨m,_,z,_⟩
  ·obtain⟨t,rfl⟩:=fN r;exact⟨_,.int _ _⟩
  ·obtain⟨t,rfl⟩:=fO r;exact⟨_,.str _ _⟩
  ·cases z
 | succ n ih =>
  intro v e as he r;rcases aO he with ⟨i,rfl⟩ | ⟨x,rfl⟩ | ⟨m,xs,z,rfl,hx⟩
  ·obtain⟨t,rfl⟩:=fN r;exact⟨_,.int _ _⟩
  ·obtain⟨t,rfl⟩:=fO r;exact⟨_,.str _ _⟩
  ·cases z
   obtain⟨a,o',vs,k,rfl,g1,g2,g3,g4⟩:=ny r
   have all:∀ (xs:List P_) (vs:List Value) (as:List Addr),(∀ x∈xs,kI n x=true)->ZD h vs xs as->∃ bs,ZD h' vs xs bs:=fun xs=>by
    induction xs with
    | nil=>intro vs as _ q;cases nz q;exact⟨_,.nil⟩
    | cons x xs Me =>
     intro vs as hx q;obtain⟨v,us,a1,b1,rfl,r1,r2⟩:=fP q;obtain⟨_,p1⟩:=ih v x _ (hx x (by simp)) r1;obtain⟨_,p2⟩:=Me us _ (fun z q=>hx z (by simp [q])) r2;exact⟨_,.cons p1 p2⟩
   obtain⟨bs,q⟩:=all xs _ _ hx g4
   have ne:a≠d:=fun z=>by
    subst z;rw[ho] at g1
    cases O_ g1
    rw[hd] at g3;cases g3
   exact⟨_,.tuple ((hs.2 a ne).trans g1) g2 g3 q⟩
theorem ut {s:h_}{a:Addr}{o:Obj} (h1:s.heap.get? a=some o) (h2:o.cls=Yy "tuple"):s.TypeIs (.ref a) "tuple" := ⟨o,h1,h2⟩
theorem DJ {prog:K_}{w:World}{E:Value->h_->Prop}:∀ (n:Nat) (d:P_) (A:Xw) (s:h_) (v:Value) (as:List Addr) (Q:Int->h_->Prop),kI n d=true->Reads s.heap v d as->A.units+n<cLine ->
  Q (hP w n d) { s with toks:=s.toks+dP n d }->wpAny (model prog w) A (pyHash v) Q E s:=fun n=>by
 induction n with
 | zero =>
  intro d A s v as Q hd r hu h;rcases aO hd with ⟨i,rfl⟩ | ⟨x,rfl⟩ | ⟨m,_,z,_⟩
  ·obtain⟨t,rfl⟩:=fN r;exact aa5 h
  ·obtain⟨t,rfl⟩:=fO r;exact aa6 h
  ·cases z
 | succ n ih =>
  intro d A s v as Q hd r hu h;rcases aO hd with ⟨i,rfl⟩ | ⟨x,rfl⟩ | ⟨m,xs,z,rfl,hx⟩
  ·obtain⟨t,rfl⟩:=fN r;exact aa5 h
  ·obtain⟨t,rfl⟩:=fO r;exact aa6 h
  ·cases z
   obtain⟨a,o,vs,k,rfl,g1,g2,g3,g4⟩:=ny r;have ht:=ut g1 g2;show wpAny _ A (aat (.ref a)) Q E s;unfold aat;refine g_ (wpAny_cRoomFor_or (.inr (by omega)) ?_);refine g_ (ZJ ht Z3.lookup ?_);rw[beq_builtin_none];refine g_ (ZJ ht Z3.lookup ?_);refine g_ (wpAny_callSpecialIfBoundUnlessNone?_slot ht Z3 ?_);refine aae Z3 ht F.entry_tuple_hash ?_ (F.args_tuple_hash_1 _);unfold aaz.«tuple.__hash__»;refine g_ ?_;refine y_ (a:=(Xe a,([]:List Value))) ?_;refine g_ (wpAny_tupleItemsOf g1 g3 ?_);rw[←acz];refine g_ ?_;refine wpAny_forIn_list _ (fun us b t=>∃ done left cs,xs=done++left/\ZD s.heap us left cs/\b.toList=done.map (hP w n)/\t={ s with toks:=s.toks+(done.map (dP n)).sum }) _ ?_ ?_ _ _ ⟨[],xs,as,rfl,g4,rfl,by simp⟩
   ·rintro x rest b t ⟨done,left,cs,e1,e2,e3,e4⟩;subst e4
    cases left with
    | nil=>cases nz e2
    | cons d left =>
     obtain⟨v,us,a1,b1,z,r1,r2⟩:=fP e2
     cases z
     refine g_ (ih d _ _ _ a1 _ (hx d (by rw[e1];simp)) r1 (by show A.units+1+n<cLine;omega) ?_);refine y_ ⟨done++[d],left,b1,by rw[e1];simp,r2,by simp [e3],?_⟩;simp [Nat.add_assoc]
   ·rintro b t ⟨done,left,cs,e1,e2,e3,e4⟩;subst e4
    cases left with
    | cons d left=>obtain⟨_,_,_,_,z,_⟩:=fP e2;cases z
    | nil =>
     rw[Xs] at e1;subst e1;refine wpAny_ret_mkInt ?_;show wpAny _ A (aat.reduced _) Q E _;have hr:Q (reduceHash (YI b.toList)) { s with toks:=s.toks+((xs.map (dP n)).sum+1) }:=by rw[e3];exact h
     unfold reduceHash at hr;unfold aat.reduced;by_cases c:(decide (-2 ^ 63<=YI b.toList)&&decide (YI b.toList<2 ^ 63))=true
     ·rw[s_ c] at hr ⊢;exact y_ hr
     ·rw[n_ c] at hr ⊢;exact g_ (wpAny_rule (y_ hr))
theorem AW {prog:K_}{w:World}{E:Value->h_->Prop}{A:Xw}:∀ (n m:Nat) (d:P_) (s:h_) (v:Value) (as:List Addr) (Q:Bool->h_->Prop),kI n d=true->Reads s.heap v d as->n<=m ->
  Q true s->wpAny (model prog w) A (eqIsQuiet m v) Q E s:=fun n=>by
 induction n with
 | zero =>
  intro m d s v as Q hd r hm h;rcases aO hd with ⟨i,rfl⟩ | ⟨x,rfl⟩ | ⟨_,_,z,_⟩
  ·obtain⟨t,rfl⟩:=fN r;rw[Z4 m rfl];exact y_ h
  ·obtain⟨t,rfl⟩:=fO r;rw[Z4 m rfl];exact y_ h
  ·cases z
 | succ n ih =>
  intro m d s v as Q hd r hm h;rcases aO hd with ⟨i,rfl⟩ | ⟨x,rfl⟩ | ⟨k,xs,z,rfl,hx⟩
  ·obtain⟨t,rfl⟩:=fN r;rw[Z4 m rfl];exact y_ h
  ·obtain⟨t,rfl⟩:=fO r;rw[Z4 m rfl];exact y_ h
  ·cases z
   obtain⟨a,o,vs,k,rfl,g1,g2,g3,g4⟩:=ny r;obtain⟨m,rfl⟩:∃ j,m=j+1:=⟨m-1,by omega⟩;have ht:=ut g1 g2;rw[eqIsQuiet.eq_def];refine g_ (ZJ ht F.slot_tuple_eq.lookup ?_);refine g_ (wpAny_isInstance ht isSubtype_tuple_tuple ?_);refine g_ (aaI g1 g3 ?_);refine g_ ?_;rw[←acz];refine wpAny_forIn_list _ (fun us b t=>t=s/\b.1=none/\∃ left cs,ZD s.heap us left cs/\∀ d∈left,kI n d=true) _ ?_ ?_ _ _ ⟨rfl,rfl,xs,as,g4,hx⟩
   ·rintro x rest b t ⟨rfl,e1,left,cs,e2,e3⟩
    cases left with
    | nil=>cases nz e2
    | cons d left =>
     obtain⟨v,us,a1,b1,z,r1,r2⟩:=fP e2
     cases z
     refine g_ (ih m d _ _ a1 _ (e3 d (by simp)) r1 (by omega) ?_);exact y_ ⟨rfl,rfl,left,b1,r2,fun y hy=>e3 y (by simp [hy])⟩
   ·rintro b t ⟨rfl,e1,left,cs,e2,e3⟩;obtain⟨b1,b2⟩:=b
    cases e1
    exact y_ h
def pk (d:P_):Prop:=kI 7 d=true/\Xg d=true
noncomputable def fg (prog:K_) (w:World):HeapKind prog w P_ where
 is:=fun h d a=>pk d/\∃ as,Reads h (.ref a) d as
 hash:=hP w 7
 draws:=dP 7
 room:=fun A=>A.units+64<cLine
 inj:=fun⟨h1,_,r1⟩ ⟨h2,_,r2⟩=>AV 7 _ _ _ _ _ h1.1 h2.1 r1 r2
 keeps:=fun⟨h1,_,r1⟩ ho hd hs=>⟨h1,DI ho hd hs 7 _ _ _ h1.1 r1⟩
 pyHash:=fun hu ⟨h1,as,r1⟩ h=>DJ 7 _ _ _ _ as _ h1.1 r1 (by omega) h
 eqBool:=fun {A E s x y a b Q} hu ⟨h1,as,r1⟩ ⟨h2,bs,r2⟩ h=>by
  unfold eqBool;refine ZF ?_;by_cases e:a=b
  ·subst e;have:=AV 7 _ _ _ _ _ h1.1 h2.1 r1 r2;subst this;rw[s_ (by simp)];refine g_ (wpAny_rule (y_ ?_));rw[c_ rfl] at h;exact h
  ·rw[n_ (by simpa using e)];refine g_ ?_;refine (show wpAny _ _ (Xl .Eq (.ref a) (.ref b)) _ _ _ from eq_dataH r1 r2 h1.2 h2.2 hu ?_);refine Xt ?_;rw[DH h1.1 h2.1];exact h
 quiet:=fun⟨h1,as,r1⟩ h=>AW 7 8 _ _ _ as _ h1.1 r1 (by omega) h
end PV
namespace PV
open PySem L2 SH
inductive Dt where
 | az | bl (b:Bool) | int (i:Int) | str (x:Str)
 | lst (xs:List Dt) | tup (xs:List Dt) | fE (xs:List Dt) | nA (xs:List Dt) | rK (xs:List Dt) | sZ (xs:List Dt)
 | obj (c:Nat) (fs:List Str) (xs:List Dt)
 | CF (ks:List Int)
 | jz (a:Addr)
inductive MO where
 | ml (xs:List Dt)
 | mo (c:Nat) (fs:List Str) (xs:List Dt)
 | md (kvs:List (P_×Dt))
noncomputable abbrev Mem:=Addr->l_ MO
structure Cl where
 a:Nat->Addr
 w:World
noncomputable instance:CoeFun Cl (fun _=>Nat->Addr):=⟨Cl.a⟩
noncomputable def cf (M:Mem) (a:Addr) (o:MO):Mem:=fun b=>if b=a then some o else M b
section
variable (K:e_) (cl:Cl) (G:Hp)
mutual
def Is:Dt->V->Prop
 | .az,v=>v=.az
 | .bl b,v=>v=.bl b
 | .int i,v=>v=.int i
 | .str x,v=>v=.str x
 | .lst ds,v=>∃ a vs,v=.ref a/\G a=some (.lst vs)/\IsL ds vs
 | .tup ds,v=>∃ a vs,v=.ref a/\G a=some (.tup vs)/\IsL ds vs
 | .nA ds,v=>∃ a vs,v=.ref a/\cS K G a vs/\IsL ds vs
 | .rK ds,v=>∃ a vs,v=.ref a/\eC K G a vs/\IsL ds vs
 | .sZ ds,v=>∃ a vs,v=.ref a/\Rd G a (.tup vs)/\IsL ds vs
 | .fE ds,v=>∃ a vs,v=.ref a/\v4 G a vs/\IsL ds vs
 | .obj c fs ds,v=>∃ a dx vs,v=.ref a/\G a=some (.ins (cl c) dx (fs.zip vs))/\fs.length=ds.length/\IsL ds vs
 | .CF ks,v=>∃ a kvs,v=.ref a/\G a=some (.dK kvs)/\∀ j:Int,(dv kvs (Y_ j)).isSome=ks.contains j
 | .jz a,v=>v=.ref a
def IsL:List Dt->List V->Prop
 | [],vs=>vs=[]
 | d::ds,vs=>∃ v r,vs=v::r/\Is d v/\IsL ds r
end
end
section
variable {K:e_}{cl:Cl}{G G':Hp}
mutual
theorem Is.mono (s:ah G G'):∀ {d:Dt}{v:V},Is K cl G d v->Is K cl G' d v
 | .az,_,h=>h
 | .bl _,_,h=>h
 | .int _,_,h=>h
 | .str _,_,h=>h
 | .lst ds,v,h=>by
  unfold Is at h ⊢;obtain⟨a,vs,e,q,r⟩:=h;exact⟨a,vs,e,s _ _ q,IsL.mono s r⟩
 | .tup ds,v,h=>by
  unfold Is at h ⊢;obtain⟨a,vs,e,q,r⟩:=h;exact⟨a,vs,e,s _ _ q,IsL.mono s r⟩
 | .nA ds,v,h=>by
  unfold Is at h ⊢;obtain⟨a,vs,e,q,r⟩:=h;exact⟨a,vs,e,q.same s,IsL.mono s r⟩
 | .rK ds,v,h=>by
  unfold Is at h ⊢;obtain⟨a,vs,e,q,r⟩:=h;exact⟨a,vs,e,q.same s,IsL.mono s r⟩
 | .sZ ds,v,h=>by
  unfold Is at h ⊢;obtain⟨a,vs,e,q,r⟩:=h;exact⟨a,vs,e,q.elim (fun z=>.inl (s _ _ z)) (fun⟨o,z⟩=>.inr ⟨o,s _ _ z⟩),IsL.mono s r⟩
 | .fE ds,v,h=>by
  unfold Is at h ⊢;obtain⟨a,vs,e,q,r⟩:=h;exact⟨a,vs,e,q.same s,IsL.mono s r⟩
 | .obj c fs ds,v,h=>by
  unfold Is at h ⊢;obtain⟨a,dx,vs,e,q,l,r⟩:=h;exact⟨a,dx,vs,e,s _ _ q,l,IsL.mono s r⟩
 | .CF ks,v,h=>by
  unfold Is at h ⊢;obtain⟨a,kvs,e,q,r⟩:=h;exact⟨a,kvs,e,s _ _ q,r⟩
 | .jz _,_,h=>h
theorem IsL.mono (s:ah G G'):∀ {ds:List Dt}{vs:List V},IsL K cl G ds vs->IsL K cl G' ds vs
 | [],_,h=>h
 | d::ds,vs,h=>by
  unfold IsL at h ⊢;obtain⟨v,r,e,h1,h2⟩:=h;exact⟨v,r,e,Is.mono s h1,IsL.mono s h2⟩
end
theorem IsL.nil:IsL K cl G [] []:=by unfold IsL;rfl
theorem IsL.cons {d:Dt}{v:V}{ds:List Dt}{vs:List V} (h:Is K cl G d v) (t:IsL K cl G ds vs):IsL K cl G (d::ds) (v::vs):=by unfold IsL;exact⟨v,vs,rfl,h,t⟩
theorem IsL.length:∀ {ds:List Dt}{vs:List V},IsL K cl G ds vs->ds.length=vs.length
 | [],vs,h=>by unfold IsL at h;rw[h];rfl
 | d::ds,vs,h=>by
  unfold IsL at h;obtain⟨v,r,rfl,h1,h2⟩:=h;rw[z_,z_,IsL.length h2]
theorem IsL.get:∀ {ds:List Dt}{vs:List V}{i:Nat}{d:Dt},IsL K cl G ds vs->ds[i]? = some d->∃ v,vs[i]? = some v/\Is K cl G d v
 | [],vs,i,d,h,e=>by simp at e
 | d'::ds,vs,i,d,h,e=>by
  unfold IsL at h;obtain⟨v,r,rfl,h1,h2⟩:=h
  cases i with
  | zero=>simp at e;subst e;exact⟨v,rfl,h1⟩
  | succ i=>exact IsL.get (i:=i) h2 (by simpa using e)
theorem IsL.get':∀ {ds:List Dt}{vs:List V}{i:Nat}{v:V},IsL K cl G ds vs->vs[i]? = some v->∃ d,ds[i]? = some d/\Is K cl G d v
 | [],vs,i,v,h,e=>by unfold IsL at h;subst h;simp at e
 | d'::ds,vs,i,v,h,e=>by
  unfold IsL at h;obtain⟨v',r,rfl,h1,h2⟩:=h
  cases i with
  | zero=>simp at e;subst e;exact⟨d',rfl,h1⟩
  | succ i=>exact IsL.get' (i:=i) h2 (by simpa using e)
theorem IsL.append:∀ {ds es:List Dt}{vs us:List V},IsL K cl G ds vs->IsL K cl G es us->IsL K cl G (ds++es) (vs++us)
 | [],es,vs,us,h,t=>by unfold IsL at h;subst h;exact t
 | d::ds,es,vs,us,h,t=>by
  unfold IsL at h;obtain⟨v,r,rfl,h1,h2⟩:=h;exact IsL.cons h1 (IsL.append h2 t)
theorem IsL.take:∀ {ds:List Dt}{vs:List V} (n:Nat),IsL K cl G ds vs->IsL K cl G (ds.take n) (vs.take n)
 | ds,vs,0,h=>by rw[XS,XS];exact IsL.nil
 | [],vs,n+1,h=>by unfold IsL at h;subst h;exact IsL.nil
 | d::ds,vs,n+1,h=>by
  unfold IsL at h;obtain⟨v,r,rfl,h1,h2⟩:=h;exact IsL.cons h1 (IsL.take n h2)
theorem IsL.drop:∀ {ds:List Dt}{vs:List V} (n:Nat),IsL K cl G ds vs->IsL K cl G (ds.drop n) (vs.drop n)
 | ds,vs,0,h=>h
 | [],vs,n+1,h=>by unfold IsL at h;subst h;exact IsL.nil
 | d::ds,vs,n+1,h=>by
  unfold IsL at h;obtain⟨v,r,rfl,h1,h2⟩:=h;exact IsL.drop n h2
noncomputable def cutD (xs:List Dt) (lo hi:l_ Int):List Dt:=(xs.drop (HT.mY xs.length 0 lo)).take (HT.mY xs.length xs.length hi-HT.mY xs.length 0 lo)
theorem IsL.cut {ds:List Dt}{vs:List V} (lo hi:l_ Int) (h:IsL K cl G ds vs):IsL K cl G (cutD ds lo hi) (tK vs lo hi):=by
 unfold cutD tK;rw[h.length];exact (h.drop _).take _
theorem IsL.at {ds:List Dt}{vs:List V}{i:Int}{d:Dt} (h:IsL K cl G ds vs) (e:mz ds i=some d):∃ v,mz vs i=some v/\Is K cl G d v:=by
 unfold mz at e ⊢;rw[←h.length]
 cases q:CC ds.length i with
 | none=>rw[q] at e;cases e
 | some j=>rw[q] at e;exact h.get e
theorem IsL.ints:∀ (ns:List Int),IsL K cl G (ns.map Dt.int) (ns.map V.int)
 | []=>IsL.nil
 | n::ns=>IsL.cons (by unfold Is;rfl) (IsL.ints ns)
theorem IsL.xt:∀ {ns:List Int}{vs:List V},IsL K cl G (ns.map Dt.int) vs->vs=ns.map V.int
 | [],vs,h=>by simp only[X2] at h;unfold IsL at h;exact h
 | n::ns,vs,h=>by
  simp only[p_] at h;unfold IsL at h;obtain⟨v,r,rfl,h1,h2⟩:=h;unfold Is at h1;rw[p_,h1,IsL.xt h2]
theorem IsL.AX:∀ {ns:List Bool}{vs:List V},IsL K cl G (ns.map Dt.bl) vs->vs=ns.map V.bl
 | [],vs,h=>by simp only[X2] at h;unfold IsL at h;exact h
 | n::ns,vs,h=>by
  simp only[p_] at h;unfold IsL at h;obtain⟨v,r,rfl,h1,h2⟩:=h;unfold Is at h1;rw[p_,h1,IsL.AX h2]
theorem IsL.xu:∀ {ns:List Str}{vs:List V},IsL K cl G (ns.map Dt.str) vs->vs=ns.map V.str
 | [],vs,h=>by simp only[X2] at h;unfold IsL at h;exact h
 | n::ns,vs,h=>by
  simp only[p_] at h;unfold IsL at h;obtain⟨v,r,rfl,h1,h2⟩:=h;unfold Is at h1;rw[p_,h1,IsL.xu h2]
noncomputable def iS:Dt->l_ (List Dt)
 | .lst ds=>some ds
 | .nA ds=>some ds
 | _=>none
noncomputable def pq:Dt->l_ (List Dt)
 | .tup ds=>some ds
 | .fE ds=>some ds
 | .rK ds=>some ds
 | .sZ ds=>some ds
 | _=>none
theorem Is.CG {d:Dt}{v:V}{ds:List Dt} (h:Is K cl G d v) (e:iS d=some ds):∃ a vs,v=.ref a/\cS K G a vs/\IsL K cl G ds vs:=by
 cases d<;>first | (cases e;done) | skip
 ·cases e;unfold Is at h;obtain⟨a,vs,e,q,r⟩:=h;exact⟨a,vs,e,cS.of q,r⟩
 ·cases e;unfold Is at h;exact h
theorem Is.KA {d:Dt}{v:V}{ds:List Dt} (h:Is K cl G d v) (e:pq d=some ds):∃ a vs,v=.ref a/\eC K G a vs/\IsL K cl G ds vs:=by
 cases d<;>first | (cases e;done) | skip
 ·cases e;unfold Is at h;obtain⟨a,vs,e,q,r⟩:=h;exact⟨a,vs,e,eC.of q,r⟩
 ·cases e;unfold Is at h;obtain⟨a,vs,e,q,r⟩:=h;exact⟨a,vs,e,q.sq,r⟩
 ·cases e;unfold Is at h;exact h
 ·cases e;unfold Is at h;obtain⟨a,vs,e,q,r⟩:=h;exact⟨a,vs,e,.inl q,r⟩
end
end PV
namespace PV
open PySem L2 SH
section
variable (K:e_) (cl:Cl)
noncomputable def pv (w:World) (a:Addr) (xs:List (P_×Addr×Value)):HO:=.ext fun h=>∃ o es ep,h.get? a=some o/\o.ExactDict/\o.data=.dict es ep/\es.toList=xs.map fun x=>({ hash:=hP w 7 x.1,key:=.ref x.2.1,val:=x.2.2 }:DictEntry)
def DP (G:Hp):List (P_×Dt)->List (P_×Addr×Value)->Prop:=abl fun p q=>p.1=q.1/\pk q.1/\b8 K G (.ref q.2.1) q.1/\∃ v,RelV v q.2.2/\Is K cl G p.2 v
def lE (G H:Hp) (a:Addr) (kvs:List (P_×Dt)):Prop:=(a==YX)=false/\kvs.length<=sizeLine/\∃ xs,H a=some (pv cl.w a xs)/\(xs.map (·.1)).Nodup/\DP K cl G kvs xs
def bX (G H:Hp) (a:Addr):MO->Prop
 | .ml ds=>∃ vs,H a=some (.lst vs)/\IsL K cl G ds vs
 | .mo c fs ds=>∃ dx vs,H a=some (.ins (cl c) dx (fs.zip vs))/\fs.length=ds.length/\IsL K cl G ds vs
 | .md kvs=>lE K cl G H a kvs
def bE (G H:Hp) (M:Mem):Prop:=∀ a o,M a=some o->G a=none/\bX K cl G H a o
noncomputable def xw:MO->Nat×Nat×List Str
 | .ml _=>(0,0,[])
 | .mo c fs _=>(1,c,fs)
 | .md _=>(2,0,[])
structure a9 (sf:l_ Addr) (G H:Hp) (M:Mem) (G' H':Hp) (M':Mem):Prop where
 g:ah G G'
 gh:ah G' H'
 jA:∀ a o,H a=some o->∃ o',H' a=some o'
 gf:∀ a o,G' a=some o->G a=none->H a=none
 h:∀ a o,H a=some o->M a=none->sf≠some a->H' a=some o
 mem:bE K cl G' H' M'
 mf:∀ a o,M' a=some o->M a=none->H a=none
 ke:∀ a o,M a=some o->∃ o',M' a=some o'/\xw o'=xw o
end
section
variable {K:e_}{cl:Cl}
theorem DP.mono {G G':Hp} (s:ah G G'):∀ {kvs:List (P_×Dt)}{xs:List (P_×Addr×Value)},DP K cl G kvs xs->DP K cl G' kvs xs
 | _,_,.nil=>.nil
 | _,_,.cons ⟨h1,h2,h3,v,h4,h5⟩ t=>.cons ⟨h1,h2,h3.same s,v,h4,h5.mono s⟩ (DP.mono s t)
theorem bX.jA {G H:Hp}{a:Addr}{o:MO} (h:bX K cl G H a o):∃ u,H a=some u:=by
 cases o with
 | ml ds=>obtain⟨vs,e,_⟩:=h;exact⟨_,e⟩
 | mo c fs ds=>obtain⟨dx,vs,e,_⟩:=h;exact⟨_,e⟩
 | md kvs=>obtain⟨_,_,xs,e,_⟩:=h;exact⟨_,e⟩
theorem bX.mono {G H G' H':Hp}{a:Addr}{o:MO} (h:bX K cl G H a o) (s:ah G G') (e:∀ u,H a=some u->H' a=some u):bX K cl G' H' a o:=by
 cases o with
 | ml ds=>obtain⟨vs,q,r⟩:=h;exact⟨vs,e _ q,r.mono s⟩
 | mo c fs ds=>obtain⟨dx,vs,q,l,r⟩:=h;exact⟨dx,vs,e _ q,l,r.mono s⟩
 | md kvs=>obtain⟨h1,h2,xs,q,n,r⟩:=h;exact⟨h1,h2,xs,e _ q,n,r.mono s⟩
theorem a9.refl {sf:l_ Addr}{G H:Hp}{M:Mem} (gh:ah G H) (m:bE K cl G H M):a9 K cl sf G H M G H M :=
 ⟨ah.refl G,gh,fun a o h=>⟨o,h⟩,fun a o h n=>absurd h (by rw[n];exact fun z=>nomatch z),fun a o h _ _=>h,m,fun a o h n=>absurd h (by rw[n];exact fun z=>nomatch z),fun a o h=>⟨o,h,rfl⟩⟩
theorem br {H H':Hp}{a:Addr} (d:∀ a o,H a=some o->∃ o',H' a=some o') (n:H' a=none):H a=none:=by
 cases e:H a with
 | none=>rfl
 | some o=>obtain⟨o',e'⟩:=d a o e;rw[n] at e';cases e'
theorem a9.trans {sf:l_ Addr}{G H G1 H1 G2 H2:Hp}{M M1 M2:Mem} (x:a9 K cl sf G H M G1 H1 M1) (y:a9 K cl none G1 H1 M1 G2 H2 M2):a9 K cl sf G H M G2 H2 M2 where
 g:=x.g.trans y.g
 gh:=y.gh
 jA:=fun a o h=>let ⟨o',h'⟩:=x.jA a o h;y.jA a o' h'
 gf:=fun a o h n=>by
  cases e:G1 a with
  | none=>exact br x.jA (y.gf a o h e)
  | some u=>exact x.gf a u e n
 h:=fun a o h m n=>by
  have h1:=x.h a o h m n
  cases e:M1 a with
  | none=>exact y.h a o h1 e (fun z=>nomatch z)
  | some u=>exact absurd (x.mf a u e m) (by rw[h];exact fun z=>nomatch z)
 mem:=y.mem
 mf:=fun a o h n=>by
  cases e:M1 a with
  | none=>exact br x.jA (y.mf a o h e)
  | some u=>exact x.mf a u e n
 ke:=fun a o h=>let ⟨o',h',e⟩:=x.ke a o h;let ⟨o2,h2,e2⟩:=y.ke a o' h';⟨o2,h2,e2.trans e⟩
end
inductive Sl where
 | no | sh (d:Dt) | ow (d:Dt)
noncomputable abbrev En:=List Sl
noncomputable def Hq:Dt->l_ MO
 | .lst ds=>some (.ml ds)
 | .obj c fs ds=>some (.mo c fs ds)
 | _=>none
structure Bs where
 G:Hp
 H:Hp
 M:Mem
 sf:l_ Addr
section
variable (K:e_) (cl:Cl)
def AY (B:Bs) (M:Mem) (G H:Hp) (i:Nat) (a:Addr) (d:Dt):Prop:=G a=none/\M a=none/\(B.H a=none∨(B.sf=some a/\i=0))/\∃ o,Hq d=some o/\bX K cl G H a o
structure Rep (B:Bs) (ρ:En) (M:Mem) (σ:St) (H G:Hp):Prop where
 b5:a9 K cl B.sf B.G B.H B.M G H M
 len:ρ.length=σ.length
 s0:∀ a,B.sf=some a->σ[(0:Nat)]? = some (some (.ref a))
 sh:∀ (i:Nat) d,ρ[i]? = some (Sl.sh d)->∃ v,σ[i]? = some (some v)/\Is K cl G d v
 ow:∃ oa:Nat->Addr,(∀ (i:Nat) d,ρ[i]? = some (Sl.ow d)->σ[i]? = some (some (.ref (oa i)))/\AY K cl B M G H i (oa i) d)/\∀ (i j:Nat) d e,ρ[i]? = some (Sl.ow d)->ρ[j]? = some (Sl.ow e)->oa i=oa j->i=j
end
section
variable {K:e_}{cl:Cl}{B:Bs}{ρ:En}{M M':Mem}{σ:St}{H G H' G':Hp}
theorem AY.b5 {i:Nat}{a:Addr}{d:Dt} (h:AY K cl B M G H i a d) (f:a9 K cl none G H M G' H' M'):AY K cl B M' G' H' i a d:=by
 obtain⟨h1,h2,h3,o,h4,h5⟩:=h;obtain⟨u,hu⟩:=h5.jA;refine⟨?_,?_,h3,o,h4,h5.mono f.g fun u e=>f.h a u e h2 (fun z=>nomatch z)⟩
 ·cases e:G' a with
  | none=>rfl
  | some w=>exact absurd (f.gf a w e h1) (by rw[hu];exact fun z=>nomatch z)
 ·cases e:M' a with
  | none=>rfl
  | some w=>exact absurd (f.mf a w e h2) (by rw[hu];exact fun z=>nomatch z)
theorem Rep.on (r:Rep K cl B ρ M σ H G) (f:a9 K cl none G H M G' H' M'):Rep K cl B ρ M' σ H' G':=by
 obtain⟨oa,h1,h2⟩:=r.ow;exact⟨r.b5.trans f,r.len,r.s0,fun i d e=>let ⟨v,e1,e2⟩:=r.sh i d e;⟨v,e1,e2.mono f.g⟩,oa,fun i d e=>⟨(h1 i d e).1,(h1 i d e).2.b5 f⟩,h2⟩
theorem Rep.self (r:Rep K cl B ρ M σ H G):a9 K cl none G H M G H M:=a9.refl r.b5.gh r.b5.mem
theorem a9.lay {p:Addr}{o:HO} (gh:ah G H) (m:bE K cl G H M) (hp:H p=none):a9 K cl none G H M (upd G p o) (upd H p o) M:=by
 have gp:G p=none:=br (fun a o h=>⟨o,gh a o h⟩) hp;refine⟨ah.put gp,fun a u e=>?_,fun a u e=>⟨u,ah.put hp a u e⟩,fun a u e n=>?_,fun a u e _ _=>ah.put hp a u e,fun a u e=>?_,fun a u e n=>absurd e (by rw[n];exact fun z=>nomatch z),fun a o h=>⟨o,h,rfl⟩⟩
 ·unfold upd at e ⊢;by_cases z:a=p
  ·rw[s_ z] at e ⊢;exact e
  ·rw[n_ z] at e ⊢;exact gh a u e
 ·unfold upd at e;by_cases z:a=p
  ·rw[z];exact hp
  ·rw[n_ z,n] at e;cases e
 ·obtain⟨h1,h2⟩:=m a u e;obtain⟨w,hw⟩:=h2.jA;have ne:a≠p:=aA hw hp;exact⟨by rw[aw ne];exact h1,h2.mono (ah.put gp) fun x e=>by rw[aw ne];exact e⟩
end
set_option genInjectivity false
set_option genSizeOfSpec false
inductive qB where | add | sub | mul | fdiv | mod | pow | shr
inductive rL where | lt | le | gt | ge | Hr | y4
inductive C where
 | i (n:Int) | s (x:Str) | b (x:Bool) | n | E2
 | v (k:Nat) | o (k:Nat) | d (c:C) | g (k:Nat)
 | nil | cons (a r:C)
 | bin (op:qB) (a b:C) | neg (a:C)
 | cmp (op:rL) (a b:C) | AZ (o1 o2:rL) (a b c:C)
 | eq (ng:Bool) (a b:C) | s9 (ng:Bool) (a b:C) | ins (a b:C) | ind (a b:C)
 | one (a:C) | and (a b:C) | or (a b:C) | not (a:C) | tr (a:C) | Hs (t a b:C)
 | tup (a:C) | fr (f:C) | Ht (f:C) | Hu
 | g7 (a:C) | A0 (a:C) | zJ (a lo hi:C) | cat (a b:C) | Hv (a b:C) | E3 (a:C) | Hw (a:C)
 | comp (it:C) (w:Nat) (ix:List Nat) (t e:C)
 | cR (a:C) | kq (a:C) | Hy (a b:C) | Hz (a:C) | rev (a:C) | DK (a:C)
 | ix (a k:C) | DL (a lo hi:C)
 | fld (a:C) (f:Str)
 | call (f:Nat) (a:C) | HA (f:Nat) (a:C) | bD (m:Nat) (r a:C) | mk (c:Nat) (a:C)
 | len (a:C) | HB (a:C) | xx (a:C) (t:Nat) | all (a:C) | kJ (a:C) | min2 (a b:C)
 | zK (a:C) | E4 (a:C) | cnt (a b:C) | yL (a:C) | DM (a b:C) | HC (a b:C)
inductive S where
 | skip | seq (a r:S)
 | set (k:Nat) (e:C) | cU (k:Nat) (f:C) | y6 (k c:Nat) (a:C) | du (k:Nat)
 | app (k:Nat) (e:C) | ext (k:Nat) (e:C) | KC (a e:C) | Mf (a k e:C)
 | eE (k:Nat) (f:Str) (e:C) | aug (k:Nat) (op:qB) (e:C) | ex (e:C) | bu (c:Nat) (a:C)
 | ret (e:C) | y7 (k:Nat) | never
 | A1 (b:S) | ite (t:C) (a b:S) | bx (it:C) (tg:List Nat) (b:S) | E5 (t:C) (b:S)
noncomputable abbrev bN:=List Dt->Mem->(Dt->Mem->Prop)->Prop
structure Gm where
 fn:Nat->bN
 fo:Nat->List Dt->Mem->(List Dt->Mem->Prop)->Prop
 me:Nat->bN
 bu:Nat->Dt->List Dt->Mem->(Dt->Mem->Prop)->Prop
 cs:Nat->Dt
 at_:Nat->Str->Bool
 hm:Nat->Nat->List Str->Bool
noncomputable abbrev Rt:=List Dt->Mem->Prop
def av (ds:List Dt) (k:Dt->Prop):Prop:=match ds with | [d]=>k d | _=>False
noncomputable def bF:Dt->(Bool->Prop)->Prop | .bl b,R=>R b | _,_=>False
noncomputable def intD:Dt->(Int->Prop)->Prop | .int b,R=>R b | _,_=>False
noncomputable def nB:Dt->(Str->Prop)->Prop | .str b,R=>R b | _,_=>False
noncomputable def jW (d:Dt):l_ (List Dt):=match iS d with | some ds=>some ds | none=>pq d
noncomputable def lstK:Dt->(List Dt->Prop)->Prop | .lst ds,R=>R ds | _,_=>False
noncomputable def HD:Dt->l_ (List Dt)
 | .tup ds=>some ds
 | .fE ds=>some ds
 | .sZ ds=>some ds
 | _=>none
def jd (o:l_ (List Dt)) (R:List Dt->Prop):Prop:=match o with | some ds=>R ds | none=>False
def lT (ρ:En) (k:Nat) (R:Dt->Prop):Prop:=match ρ[k]? with | some (.sh d)=>R d | _=>False
def b6 (ρ:En) (k:Nat) (R:Dt->Prop):Prop:=match ρ[k]? with | some (.ow d)=>R d | _=>False
def binI:qB->Int->Int->(Dt->Prop)->Prop
 | .add,i,j,R=>R (.int (i+j))
 | .sub,i,j,R=>R (.int (i-j))
 | .mul,i,j,R=>yv i j/\R (.int (i*j))
 | .fdiv,i,j,R=>z8 i j/\R (.int (i / j))
 | .mod,i,j,R=>0<j/\R (.int (i % j))
 | .pow,i,j,R=>CZ i j/\R (.int (i ^ j.toNat))
 | .shr,i,j,R=>0<=j/\R (.int (i / 2 ^ j.toNat))
def vt (d:Dt) (R:Int->Prop):Prop:=match d with | .int j=>R j | _=>False
def QO (d:Dt) (R:Str->Prop):Prop:=match d with | .str j=>R j | _=>False
def lU (op:qB) (x y:Dt) (R:Dt->Prop):Prop:=match x with
 | .int i=>vt y fun j=>binI op i j R
 | .str i=>QO y fun j=>match op with | .add=>i.length+j.length<=sizeLine/\R (.str (i++j)) | _=>False
 | _=>False
noncomputable def E6:Dt->Bool
 | .az=>true
 | _=>false
def g8 (op:rL) (x y:Dt) (R:Bool->Prop):Prop:=match op with
 | .lt=>vt x fun i=>vt y fun j=>R (decide (i<j))
 | .le=>vt x fun i=>vt y fun j=>R (decide (i<=j))
 | .gt=>vt x fun i=>vt y fun j=>R (decide (j<i))
 | .ge=>vt x fun i=>vt y fun j=>R (decide (j<=i))
 | .Hr=>y=.az/\R (E6 x)
 | .y4=>y=.az/\R (!E6 x)
mutual
noncomputable def toP:Dt->l_ P_
 | .az=>some .none
 | .bl b=>some (.bool b)
 | .int i=>some (.int i)
 | .str x=>some (.str x)
 | .lst ds=>(toPs ds).map .list
 | .nA ds=>(toPs ds).map .list
 | .tup ds=>(toPs ds).map .tuple
 | .fE ds=>(toPs ds).map .tuple
 | .rK ds=>(toPs ds).map .tuple
 | .sZ ds=>(toPs ds).map .tuple
 | _=>none
noncomputable def toPs:List Dt->l_ (List P_)
 | []=>some []
 | d::ds=>match toP d,toPs ds with
  | some p,some ps=>some (p::ps)
  | _,_=>none
end
noncomputable def QP:Dt->Dt->l_ Bool
 | .int i,.int j=>some (decide (i=j))
 | .str i,.str j=>some (decide (i=j))
 | .bl i,.bl j=>some (decide (i=j))
 | _,_=>none
def vv (x y:Dt) (R:Bool->Prop):Prop:=match QP x y with
 | some b=>R b
 | none=>∃ p q,toP x=some p/\toP y=some q/\Xg p=true/\Xg q=true/\R (Xo p q)
noncomputable def jX:Dt->Bool
 | .az=>true | .bl _=>true | .int _=>true | .str _=>true | _=>false
noncomputable def HE:Dt->V
 | .bl b=>.bl b | .int i=>.int i | .str x=>.str x | _=>.az
noncomputable def CH (d e:Dt):Bool:=yD (HE d) (HE e)
def y8 (x y:Dt) (R:Bool->Prop):Prop :=
 (∃ ds,jW y=some ds/\jX x=true/\ds.all jX=true/\R (ds.any fun z=>CH z x)) ∨
 (∃ ds p ps,iS y=some ds/\toP x=some p/\toPs ds=some ps/\Xg p=true/\(∀ e∈ps,Xg e=true)/\R (ps.any fun e=>Xo e p))
def DN:Dt->(Bool->Prop)->Prop
 | .bl b,R=>R b
 | .int i,R=>R (i != 0)
 | .lst ds,R=>R (!ds.isEmpty)
 | .nA ds,R=>R (!ds.isEmpty)
 | .tup ds,R=>R (!ds.isEmpty)
 | _,_=>False
def pz:Dt->(Nat->Prop)->Prop
 | .str x,R=>x.length<=sizeLine/\R x.length
 | .lst ds,R=>R ds.length
 | .nA ds,R=>R ds.length
 | .tup ds,R=>R ds.length
 | .fE ds,R=>R ds.length
 | .rK ds,R=>R ds.length
 | .sZ ds,R=>R ds.length
 | _,_=>False
def atK (ds:List Dt) (i:Int) (R:Dt->Prop):Prop:=∃ e,mz ds i=some e/\R e
def jB:Dt->Int->(Dt->Prop)->Prop
 | .str z,i,R=>z.length<=sizeLine/\∃ c,mz z.cps.toList i=some c/\R (.str ⟨#[c]⟩)
 | .lst ds,i,R=>atK ds i R
 | .nA ds,i,R=>atK ds i R
 | .tup ds,i,R=>atK ds i R
 | .fE ds,i,R=>atK ds i R
 | .rK ds,i,R=>atK ds i R
 | .sZ ds,i,R=>atK ds i R
 | _,_,_=>False
def d5 (Γ:Gm) (f:Str):Dt->(Dt->Prop)->Prop
 | .obj c fs ds,R=>Γ.at_ c f=true/\∃ d,(fs.zip ds).lookup f=some d/\R d
 | _,_=>False
noncomputable def isiN:Dt->l_ Nat
 | .int _=>some 0 | .bl _=>some 1 | .str _=>some 2 | .lst _=>some 3 | .tup _=>some 4 | .az=>some 5 | _=>none
def isiD (t:Nat) (d:Dt) (R:Bool->Prop):Prop:=match isiN d with | some n=>R (n==t||(n==1&&t==0)) | none=>False
def Mg (M:Mem):Dt->(Dt->Prop)->Prop
 | .jz a,R=>match M a with
  | some (.ml xs)=>R (.lst xs)
  | some (.mo c fs xs)=>R (.obj c fs xs)
  | _=>False
 | _,_=>False
def kK:List Dt->(l_ Int->Prop)->Prop
 | [],R=>R none
 | [.int i],R=>R (some i)
 | _,_=>False
noncomputable def fQ (ρ:En) (j:Nat):Sl:=match ρ[j]? with | some (.sh d)=>.sh d | _=>.no
def zL (ρ:En) (w:Nat) (ix:List Nat) (x:Dt) (k:En->Prop):Prop :=
 match w,x with
 | 1,d=>k (.sh d::ix.map (fQ ρ))
 | 2,.tup [d,e]=>k (.sh d::.sh e::ix.map (fQ ρ))
 | _,_=>False
def eh (f:Dt->Mem->(l_ Dt->Mem->Prop)->Prop):List Dt->Mem->Rt->Prop
 | [],M,R=>R [] M
 | x::xs,M,R=>f x M fun o M1=>eh f xs M1 fun ds M2=>R (o.toList++ds) M2
noncomputable def bv (lo:Int) (n:Nat):List Dt:=(Xa n).map fun (k:Nat)=>.int (lo+(k:Int))
noncomputable def rM (z:Str):List Dt:=z.cps.toList.map fun c=>.str ⟨#[c]⟩
def CI:Dt->(List Dt->Prop)->Prop
 | .str z,R=>R (rM z)
 | .lst ds,R=>R ds
 | .nA ds,R=>R ds
 | .tup ds,R=>R ds
 | .fE ds,R=>R ds
 | .rK ds,R=>R ds
 | .sZ ds,R=>R ds
 | _,_=>False
noncomputable def pA:Dt->(Nat->List Str->List Dt->Prop)->Prop | .obj c fs ds,R=>R c fs ds | _,_=>False
noncomputable def DO:Dt->(List Dt->Prop)->Prop | .fE ds,R=>R ds | _,_=>False
def fh (M:Mem):Dt->(Nat->List Str->Prop)->Prop
 | .obj c fs _,R=>R c fs
 | .jz a,R=>(match M a with | some (.mo c fs _)=>R c fs | _=>False)
 | _,_=>False
def HF (M:Mem):Dt->(Addr->List (P_×Dt)->Prop)->Prop
 | .jz p,R=>(match M p with | some (.md kvs)=>R p kvs | _=>False)
 | _,_=>False
def y9 (d:Dt) (R:P_->Prop):Prop:=∃ ps,toP d=some (.tuple ps)/\pk (.tuple ps)/\R (.tuple ps)
noncomputable def fR (kvs:List (P_×Dt)) (p:P_):l_ Dt:=(kvs.find? fun kv=>decide (kv.1=p)).map (·.2)
def zM (i:Int):Prop := -(2 ^ 62)<=i/\i<2 ^ 62
section
variable (Γ:Gm)
def ev:C->En->Mem->Rt->Prop
 | .i n,_,M,R=>R [.int n] M
 | .s x,_,M,R=>R [.str x] M
 | .b x,_,M,R=>R [.bl x] M
 | .n,_,M,R=>R [.az] M
 | .E2,_,_,_=>False
 | .v k,ρ,M,R=>lT ρ k fun d=>R [d] M
 | .o k,ρ,M,R=>b6 ρ k fun d=>R [d] M
 | .d c,ρ,M,R=>ev c ρ M fun ds M1=>av ds fun d=>Mg M1 d fun e=>R [e] M1
 | .g k,_,M,R=>R [Γ.cs k] M
 | .nil,_,M,R=>R [] M
 | .cons a r,ρ,M,R=>ev a ρ M fun ds M1=>av ds fun d=>ev r ρ M1 fun es M2=>R (d::es) M2
 | .bin op a b,ρ,M,R=>ev a ρ M fun x M1=>av x fun x=>ev b ρ M1 fun y M2=>av y fun y=>lU op x y fun d=>R [d] M2
 | .neg a,ρ,M,R=>ev a ρ M fun x M1=>av x fun x=>intD x fun i=>R [.int (-i)] M1
 | .cmp op a b,ρ,M,R=>ev a ρ M fun x M1=>av x fun x=>ev b ρ M1 fun y M2=>av y fun y=>g8 op x y fun c=>R [.bl c] M2
 | .AZ o1 o2 a b c,ρ,M,R=>ev a ρ M fun x M1=>av x fun x=>ev b ρ M1 fun y M2=>av y fun y=>g8 o1 x y fun k =>
   if k=true then ev c ρ M2 fun z M3=>av z fun z=>g8 o2 y z fun k=>R [.bl k] M3 else R [.bl false] M2
 | .eq ng a b,ρ,M,R=>ev a ρ M fun x M1=>av x fun x=>ev b ρ M1 fun y M2=>av y fun y=>vv x y fun c=>R [.bl (ng ^^ c)] M2
 | .s9 ng a b,ρ,M,R=>ev a ρ M fun x M1=>av x fun x=>ev b ρ M1 fun y M2=>av y fun y=>y8 x y fun c=>R [.bl (ng ^^ c)] M2
 | .ins a b,ρ,M,R=>ev a ρ M fun x M1=>av x fun x=>ev b ρ M1 fun y M2=>av y fun y=>nB x fun i=>nB y fun j=>R [.bl (!(XX j i 0 j.length 1).isEmpty)] M2
 | .ind a b,ρ,M,R=>ev a ρ M fun x M1=>av x fun x=>ev b ρ M1 fun y M2=>av y fun y=>intD x fun i=>match y with | .CF ks=>R [.bl (ks.contains i)] M2 | _=>False
 | .one a,ρ,M,R=>ev a ρ M R
 | .and a b,ρ,M,R=>ev a ρ M fun x M1=>av x fun x=>bF x fun c=>if c=true then ev b ρ M1 R else R [.bl false] M1
 | .or a b,ρ,M,R=>ev a ρ M fun x M1=>av x fun x=>bF x fun c=>if c=true then R [.bl true] M1 else ev b ρ M1 R
 | .not a,ρ,M,R=>ev a ρ M fun x M1=>av x fun x=>bF x fun c=>R [.bl (!c)] M1
 | .tr a,ρ,M,R=>ev a ρ M fun x M1=>av x fun x=>DN x fun c=>R [.bl c] M1
 | .Hs t a b,ρ,M,R=>ev t ρ M fun x M1=>av x fun x=>bF x fun c=>if c=true then ev a ρ M1 R else ev b ρ M1 R
 | .tup a,ρ,M,R=>ev a ρ M fun ds M1=>ds.length<=sizeLine/\R [.tup ds] M1
 | .fr f,ρ,M,R=>ev f ρ M fun ds M1=>R [.lst ds] M1
 | .Ht f,ρ,M,R=>ev f ρ M fun ds M1=>∀ a,M1 a=none->R [.jz a] (cf M1 a (.ml ds))
 | .Hu,_,M,R=>∀ a,M a=none->R [.jz a] (cf M a (.md []))
 | .g7 a,ρ,M,R=>ev a ρ M fun ds M1=>ds.length<=sizeLine/\R ds M1
 | .A0 a,ρ,M,R=>ev a ρ M fun x M1=>av x fun x=>jd (jW x) fun ds=>R ds M1
 | .zJ a lo hi,ρ,M,R=>ev a ρ M fun x M1=>av x fun x=>ev lo ρ M1 fun l M2=>kK l fun l=>ev hi ρ M2 fun h M3=>kK h fun h=>jd (iS x) fun ds=>R (cutD ds l h) M3
 | .cat a b,ρ,M,R=>ev a ρ M fun x M1=>av x fun x=>ev b ρ M1 fun y M2=>av y fun y=>lstK x fun ds=>lstK y fun es=>ds.length+es.length<=sizeLine/\R (ds++es) M2
 | .Hv a b,ρ,M,R=>ev a ρ M fun x M1=>av x fun x=>ev b ρ M1 fun y M2=>av y fun y=>intD x fun i=>intD y fun j=>zM i/\zM j/\(j-i).toNat<=900/\R (bv i (j-i).toNat) M2
 | .E3 a,ρ,M,R=>ev a ρ M fun x M1=>av x fun x=>intD x fun j=>zM j/\j.toNat<=900/\R (bv 0 j.toNat) M1
 | .Hw a,ρ,M,R=>ev a ρ M fun x M1=>av x fun x=>∃ zs:List Str,x=.lst (zs.map fun z=>.tup [.str z,.bl true])/\zs.length<=900/\R ((bf zs).map .str) M1
 | .comp it w ix t e,ρ,M,R=>ev it ρ M fun items M1=>items.length<=sizeLine /\
   eh (fun x M K=>zL ρ w ix x fun ρ'=>ev t ρ' M fun c M1=>av c fun c=>bF c fun c=>if c=true then ev e ρ' M1 fun d M2=>av d fun d=>K (some d) M2 else K none M1) items M1 R
 | .cR a,ρ,M,R=>ev a ρ M fun x M1=>av x fun x=>CI x fun ds=>R ds M1
 | .kq a,ρ,M,R=>ev a ρ M fun x M1=>av x fun x=>intD x fun j=>zM j/\R (bv 0 j.toNat) M1
 | .Hy a b,ρ,M,R=>ev a ρ M fun x M1=>av x fun x=>ev b ρ M1 fun y M2=>av y fun y=>intD x fun i=>intD y fun j=>zM i/\zM j/\R (bv i (j-i).toNat) M2
 | .Hz a,ρ,M,R=>ev a ρ M fun ds M1=>∃ j k:Int,ds=[.int 0,.int j,.int k]/\(-1000<=j/\j<=1000/\1<=k/\k<=1000)/\∀ n:Nat,(∀ i:Nat,i<n↔(i:Int)*k<j)->R ((Xa n).map fun i:Nat=>.int (i*k)) M1
 | .rev a,ρ,M,R=>ev a ρ M fun x M1=>av x fun x=>intD x fun j=>0<=j/\j<=1000/\R (bv 0 j.toNat).reverse M1
 | .DK a,ρ,M,R=>ev a ρ M fun x M1=>av x fun x=>jd (pq x) fun ds=>R (ds.zipIdx.map fun p=>.tup [.int p.2,p.1]) M1
 | .ix a k,ρ,M,R=>ev a ρ M fun x M1=>av x fun x=>ev k ρ M1 fun y M2=>av y fun y=>intD y fun i=>jB x i fun d=>R [d] M2
 | .DL a lo hi,ρ,M,R=>ev a ρ M fun x M1=>av x fun x=>ev lo ρ M1 fun l M2=>kK l fun l=>ev hi ρ M2 fun h M3=>kK h fun h=>nB x fun z=>z.length<=sizeLine/\R [.str (Yw z l h)] M3
 | .fld a f,ρ,M,R=>ev a ρ M fun x M1=>av x fun x=>d5 Γ f x fun d=>R [d] M1
 | .call f a,ρ,M,R=>ev a ρ M fun ds M1=>Γ.fn f ds M1 fun d M2=>R [d] M2
 | .HA f a,ρ,M,R=>ev a ρ M fun ds M1=>Γ.fo f ds M1 R
 | .bD m r a,ρ,M,R=>ev r ρ M fun x M1=>av x fun x=>fh M1 x fun c fs=>Γ.hm m c fs=true/\ev a ρ M1 fun ds M2=>Γ.me m (x::ds) M2 fun d M3=>R [d] M3
 | .mk c a,ρ,M,R=>ev a ρ M fun ds M1=>Γ.bu c (.obj c [] []) ds M1 fun d M2=>R [d] M2
 | .len a,ρ,M,R=>ev a ρ M fun x M1=>av x fun x=>pz x fun n=>R [.int n] M1
 | .HB a,ρ,M,R=>ev a ρ M fun x M1=>av x fun x=>∃ zs:List Str,x=.lst (zs.map .str)/\zs.length<64/\R [.int (bf zs).length] M1
 | .xx a t,ρ,M,R=>ev a ρ M fun x M1=>av x fun x=>isiD t x fun c=>R [.bl c] M1
 | .all a,ρ,M,R=>ev a ρ M fun x M1=>av x fun x=>∃ bs:List Bool,x=.lst (bs.map .bl)/\R [.bl (bs.all id)] M1
 | .kJ a,ρ,M,R=>ev a ρ M fun x M1=>av x fun x=>bF x fun c=>R [.int (if c then 1 else 0)] M1
 | .min2 a b,ρ,M,R=>ev a ρ M fun x M1=>av x fun x=>ev b ρ M1 fun y M2=>av y fun y=>intD x fun i=>intD y fun j=>R [.int (if j<i then j else i)] M2
 | .zK a,ρ,M,R=>ev a ρ M fun x M1=>av x fun x=>jd (iS x) fun ds=>R [.tup ds] M1
 | .E4 a,ρ,M,R=>ev a ρ M fun x M1=>av x fun x=>jd (iS x) fun ds=>R [.fE ds] M1
 | .cnt a b,ρ,M,R=>ev a ρ M fun x M1=>av x fun x=>DO x fun ds=>ev b ρ M1 fun y M2=>av y fun y=>jX y=true/\ds.all jX=true/\R [.int (ds.countP fun z=>CH z y:Nat)] M2
 | .yL a,ρ,M,R=>ev a ρ M fun x M1=>av x fun x=>∃ ks:List Int,x=.lst (ks.map fun k=>.tup [.int k,.bl true])/\ks.length<=900/\R [.CF ks] M1
 | .DM k d,ρ,M,R=>ev k ρ M fun x M1=>av x fun x=>ev d ρ M1 fun y M2=>av y fun y=>y9 x fun p=>HF M2 y fun _ kvs=>R [.bl (fR kvs p).isNone] M2
 | .HC d k,ρ,M,R=>ev d ρ M fun x M1=>av x fun x=>ev k ρ M1 fun y M2=>av y fun y=>y9 y fun p=>HF M2 x fun _ kvs=>∃ v,fR kvs p=some v/\R [v] M2
structure za where
 nx:En->Mem->Prop
 rt:Dt->Mem->Prop
 bk:En->Mem->Prop:=fun _ _=>False
 ct:En->Mem->Prop:=fun _ _=>False
 ro:List Dt->Mem->Prop:=fun _ _=>False
def em (f:Dt->En->Mem->za->Prop) (E:za):List Dt->En->Mem->Prop
 | [],ρ,M=>E.nx ρ M
 | x::xs,ρ,M=>f x ρ M { E with nx:=em f E xs,ct:=em f E xs,bk:=E.nx }
def gV (ρ:En) (tg:List Nat) (x:Dt) (k:En->Prop):Prop :=
 match tg,x with
 | [i],d=>k (ρ.set i (.sh d))
 | [i,j],.tup [d,e]=>k ((ρ.set i (.sh d)).set j (.sh e))
 | _,_=>False
noncomputable def putD (f:Str) (d:Dt):List Str->List Dt->List Str×List Dt
 | [],_=>([f],[d])
 | g::fs,[]=>([f],[d])
 | g::fs,e::ds=>if g=f then (g::fs,d::ds) else let r:=putD f d fs ds;(g::r.1,e::r.2)
def HG (M:Mem):Dt->(Addr->List Dt->Prop)->Prop
 | .jz p,R=>(match M p with | some (.ml ds)=>R p ds | _=>False)
 | _,_=>False
def zb (op:qB) (x y:Dt) (R:Dt->Prop):Prop:=vt x fun i=>vt y fun j=>match op with | .add=>R (.int (i+j)) | .sub=>R (.int (i-j)) | _=>False
def ex:S->En->Mem->za->Prop
 | .skip,ρ,M,E=>E.nx ρ M
 | .seq a r,ρ,M,E=>ex a ρ M { E with nx:=fun ρ' M'=>ex r ρ' M' E }
 | .set k e,ρ,M,E=>ev Γ e ρ M fun x M1=>av x fun d=>E.nx (ρ.set k (.sh d)) M1
 | .cU k f,ρ,M,E=>ev Γ f ρ M fun ds M1=>E.nx (ρ.set k (.ow (.lst ds))) M1
 | .y6 k c a,ρ,M,E=>ev Γ a ρ M fun ds M1=>Γ.bu c (.obj c [] []) ds M1 fun d M2=>E.nx (ρ.set k (.ow d)) M2
 | .du k,ρ,M,E=>b6 ρ k fun d=>E.nx (ρ.set k (.sh d)) M
 | .app k e,ρ,M,E=>b6 ρ k fun l=>lstK l fun ds=>ev Γ e ρ M fun x M1=>av x fun d=>ds.length<sizeLine/\E.nx (ρ.set k (.ow (.lst (ds++[d])))) M1
 | .ext k e,ρ,M,E=>b6 ρ k fun l=>lstK l fun ds=>ev Γ e ρ M fun x M1=>av x fun d=>lstK d fun es=>ds.length+es.length<=sizeLine/\E.nx (ρ.set k (.ow (.lst (ds++es)))) M1
 | .KC a e,ρ,M,E=>ev Γ a ρ M fun x M1=>av x fun x=>HG M1 x fun _ _=>ev Γ e ρ M1 fun y M2=>av y fun y=>HG M2 x fun p ds=>ds.length<sizeLine/\E.nx ρ (cf M2 p (.ml (ds++[y])))
 | .Mf d k e,ρ,M,E=>ev Γ e ρ M fun z M1=>av z fun z=>ev Γ d ρ M1 fun x M2=>av x fun x=>ev Γ k ρ M2 fun y M3=>av y fun y=>y9 y fun p=>HF M3 x fun a kvs=>fR kvs p=none/\kvs.length<sizeLine/\E.nx ρ (cf M3 a (.md (kvs++[(p,z)])))
 | .eE k f e,ρ,M,E=>ev Γ e ρ M fun x M1=>av x fun d=>b6 ρ k fun o=>pA o fun c fs ds=>Γ.at_ c f=true/\fs.length<1000/\E.nx (ρ.set k (.ow (.obj c (putD f d fs ds).1 (putD f d fs ds).2))) M1
 | .aug k op e,ρ,M,E=>lT ρ k fun x=>ev Γ e ρ M fun y M1=>av y fun y=>zb op x y fun d=>E.nx (ρ.set k (.sh d)) M1
 | .ex e,ρ,M,E=>ev Γ e ρ M fun x M1=>av x fun _=>E.nx ρ M1
 | .bu c a,ρ,M,E=>b6 ρ 0 fun d=>pA d fun n fs xs=>ev Γ a ρ M fun ds M1=>Γ.bu c (.obj n fs xs) ds M1 fun d' M2=>E.nx (ρ.set 0 (.ow d')) M2
 | .ret e,ρ,M,E=>ev Γ e ρ M fun x M1=>av x fun d=>E.rt d M1
 | .y7 k,ρ,M,E=>b6 ρ k fun l=>lstK l fun ds=>E.ro ds M
 | .never,_,_,_=>False
 | .A1 b,ρ,M,E=>ex b ρ M E
 | .ite t a b,ρ,M,E=>ev Γ t ρ M fun x M1=>av x fun x=>bF x fun c=>if c=true then ex a ρ M1 E else ex b ρ M1 E
 | .bx it tg b,ρ,M,E=>ev Γ it ρ M fun items M1=>em (fun x ρ M E=>gV ρ tg x fun ρ'=>ex b ρ' M E) E items ρ M1
 | .E5 t b,ρ,M,E=>∃ W:Nat->En->Mem->Prop,(∃ m,W m ρ M)/\∀ m ρ M,W m ρ M ->
   ev Γ t ρ M fun x M1=>av x fun x=>bF x fun c =>
    if c=true then ex b ρ M1 { E with nx:=fun ρ' M'=>∃ m',m'<m/\W m' ρ' M',ct:=fun ρ' M'=>∃ m',m'<m/\W m' ρ' M',bk:=E.nx }
    else E.nx ρ M1
end
end PV
namespace PV
open PySem L2 SH
section
variable {Γ:Gm}
theorem v_i {n}{ρ M R}:ev Γ (.i n) ρ M R=(R [.int n] M):=rfl
theorem v_s {x}{ρ M R}:ev Γ (.s x) ρ M R=(R [.str x] M):=rfl
theorem v_b {x}{ρ M R}:ev Γ (.b x) ρ M R=(R [.bl x] M):=rfl
theorem v_n {ρ M R}:ev Γ .n ρ M R=(R [.az] M):=rfl
theorem v_nev {ρ M R}:ev Γ .E2 ρ M R=(False):=rfl
theorem v_v {k}{ρ M R}:ev Γ (.v k) ρ M R=(lT ρ k fun d=>R [d] M):=rfl
theorem v_o {k}{ρ M R}:ev Γ (.o k) ρ M R=(b6 ρ k fun d=>R [d] M):=rfl
theorem v_d {c}{ρ M R}:ev Γ (.d c) ρ M R=(ev Γ c ρ M fun ds M1=>av ds fun d=>Mg M1 d fun e=>R [e] M1):=rfl
theorem v_g {k}{ρ M R}:ev Γ (.g k) ρ M R=(R [Γ.cs k] M):=rfl
theorem v_nil {ρ M R}:ev Γ .nil ρ M R=(R [] M):=rfl
theorem v_cons {a}{r}{ρ M R}:ev Γ (.cons a r) ρ M R=(ev Γ a ρ M fun ds M1=>av ds fun d=>ev Γ r ρ M1 fun es M2=>R (d::es) M2):=rfl
theorem v_bin {op}{a}{b}{ρ M R}:ev Γ (.bin op a b) ρ M R=(ev Γ a ρ M fun x M1=>av x fun x=>ev Γ b ρ M1 fun y M2=>av y fun y=>lU op x y fun d=>R [d] M2):=rfl
theorem v_neg {a}{ρ M R}:ev Γ (.neg a) ρ M R=(ev Γ a ρ M fun x M1=>av x fun x=>intD x fun i=>R [.int (-i)] M1):=rfl
theorem v_cmp {op}{a}{b}{ρ M R}:ev Γ (.cmp op a b) ρ M R=(ev Γ a ρ M fun x M1=>av x fun x=>ev Γ b ρ M1 fun y M2=>av y fun y=>g8 op x y fun c=>R [.bl c] M2):=rfl
theorem v_chn {o1}{o2}{a}{b}{c}{ρ M R}:ev Γ (.AZ o1 o2 a b c) ρ M R=(ev Γ a ρ M fun x M1=>av x fun x=>ev Γ b ρ M1 fun y M2=>av y fun y=>g8 o1 x y fun k=>if k=true then ev Γ c ρ M2 fun z M3=>av z fun z=>g8 o2 y z fun k=>R [.bl k] M3 else R [.bl false] M2):=rfl
theorem v_eq {ng}{a}{b}{ρ M R}:ev Γ (.eq ng a b) ρ M R=(ev Γ a ρ M fun x M1=>av x fun x=>ev Γ b ρ M1 fun y M2=>av y fun y=>vv x y fun c=>R [.bl (ng ^^ c)] M2):=rfl
theorem v_inn {ng}{a}{b}{ρ M R}:ev Γ (.s9 ng a b) ρ M R=(ev Γ a ρ M fun x M1=>av x fun x=>ev Γ b ρ M1 fun y M2=>av y fun y=>y8 x y fun c=>R [.bl (ng ^^ c)] M2):=rfl
theorem v_ins {a}{b}{ρ M R}:ev Γ (.ins a b) ρ M R=(ev Γ a ρ M fun x M1=>av x fun x=>ev Γ b ρ M1 fun y M2=>av y fun y=>nB x fun i=>nB y fun j=>R [.bl (!(XX j i 0 j.length 1).isEmpty)] M2):=rfl
theorem v_ind {a}{b}{ρ M R}:ev Γ (.ind a b) ρ M R=(ev Γ a ρ M fun x M1=>av x fun x=>ev Γ b ρ M1 fun y M2=>av y fun y=>intD x fun i=>match y with | .CF ks=>R [.bl (ks.contains i)] M2 | _=>False):=rfl
theorem v_one {a}{ρ M R}:ev Γ (.one a) ρ M R=(ev Γ a ρ M R):=rfl
theorem v_and {a}{b}{ρ M R}:ev Γ (.and a b) ρ M R=(ev Γ a ρ M fun x M1=>av x fun x=>bF x fun c=>if c=true then ev Γ b ρ M1 R else R [.bl false] M1):=rfl
theorem v_or {a}{b}{ρ M R}:ev Γ (.or a b) ρ M R=(ev Γ a ρ M fun x M1=>av x fun x=>bF x fun c=>if c=true then R [.bl true] M1 else ev Γ b ρ M1 R):=rfl
theorem v_not {a}{ρ M R}:ev Γ (.not a) ρ M R=(ev Γ a ρ M fun x M1=>av x fun x=>bF x fun c=>R [.bl (!c)] M1):=rfl
theorem v_tr {a}{ρ M R}:ev Γ (.tr a) ρ M R=(ev Γ a ρ M fun x M1=>av x fun x=>DN x fun c=>R [.bl c] M1):=rfl
theorem v_ife {t}{a}{b}{ρ M R}:ev Γ (.Hs t a b) ρ M R=(ev Γ t ρ M fun x M1=>av x fun x=>bF x fun c=>if c=true then ev Γ a ρ M1 R else ev Γ b ρ M1 R):=rfl
theorem v_tup {a}{ρ M R}:ev Γ (.tup a) ρ M R=(ev Γ a ρ M fun ds M1=>ds.length<=sizeLine/\R [.tup ds] M1):=rfl
theorem v_fr {f}{ρ M R}:ev Γ (.fr f) ρ M R=(ev Γ f ρ M fun ds M1=>R [.lst ds] M1):=rfl
theorem v_nlh {f}{ρ M R}:ev Γ (.Ht f) ρ M R=(ev Γ f ρ M fun ds M1=>∀ a,M1 a=none->R [.jz a] (cf M1 a (.ml ds))):=rfl
theorem v_ndh {ρ M R}:ev Γ .Hu ρ M R=(∀ a,M a=none->R [.jz a] (cf M a (.md []))):=rfl
theorem v_dsp {a}{ρ M R}:ev Γ (.g7 a) ρ M R=(ev Γ a ρ M fun ds M1=>ds.length<=sizeLine/\R ds M1):=rfl
theorem v_lof {a}{ρ M R}:ev Γ (.A0 a) ρ M R=(ev Γ a ρ M fun x M1=>av x fun x=>jd (jW x) fun ds=>R ds M1):=rfl
theorem v_slc {a}{lo}{hi}{ρ M R}:ev Γ (.zJ a lo hi) ρ M R=(ev Γ a ρ M fun x M1=>av x fun x=>ev Γ lo ρ M1 fun l M2=>kK l fun l=>ev Γ hi ρ M2 fun h M3=>kK h fun h=>jd (iS x) fun ds=>R (cutD ds l h) M3):=rfl
theorem v_cat {a}{b}{ρ M R}:ev Γ (.cat a b) ρ M R=(ev Γ a ρ M fun x M1=>av x fun x=>ev Γ b ρ M1 fun y M2=>av y fun y=>lstK x fun ds=>lstK y fun es=>ds.length+es.length<=sizeLine/\R (ds++es) M2):=rfl
theorem v_lrg {a}{b}{ρ M R}:ev Γ (.Hv a b) ρ M R=(ev Γ a ρ M fun x M1=>av x fun x=>ev Γ b ρ M1 fun y M2=>av y fun y=>intD x fun i=>intD y fun j=>zM i/\zM j/\(j-i).toNat<=900/\R (bv i (j-i).toNat) M2):=rfl
theorem v_lr1 {a}{ρ M R}:ev Γ (.E3 a) ρ M R=(ev Γ a ρ M fun x M1=>av x fun x=>intD x fun j=>zM j/\j.toNat<=900/\R (bv 0 j.toNat) M1):=rfl
theorem v_lfd {a}{ρ M R}:ev Γ (.Hw a) ρ M R=(ev Γ a ρ M fun x M1=>av x fun x=>∃ zs:List Str,x=.lst (zs.map fun z=>.tup [.str z,.bl true])/\zs.length<=900/\R ((bf zs).map .str) M1):=rfl
theorem v_comp {it:C}{w:Nat}{ix:List Nat}{t:C}{e:C}{ρ M R}:ev Γ (.comp it w ix t e) ρ M R=(ev Γ it ρ M fun items M1=>items.length<=sizeLine/\eh (fun x M K=>zL ρ w ix x fun ρ'=>ev Γ t ρ' M fun c M1=>av c fun c=>bF c fun c=>if c=true then ev Γ e ρ' M1 fun d M2=>av d fun d=>K (some d) M2 else K none M1) items M1 R):=rfl
theorem v_itl {a}{ρ M R}:ev Γ (.cR a) ρ M R=(ev Γ a ρ M fun x M1=>av x fun x=>CI x fun ds=>R ds M1):=rfl
theorem v_rg1 {a}{ρ M R}:ev Γ (.kq a) ρ M R=(ev Γ a ρ M fun x M1=>av x fun x=>intD x fun j=>zM j/\R (bv 0 j.toNat) M1):=rfl
theorem v_rg2 {a}{b}{ρ M R}:ev Γ (.Hy a b) ρ M R=(ev Γ a ρ M fun x M1=>av x fun x=>ev Γ b ρ M1 fun y M2=>av y fun y=>intD x fun i=>intD y fun j=>zM i/\zM j/\R (bv i (j-i).toNat) M2):=rfl
theorem v_rg3 {a}{ρ M R}:ev Γ (.Hz a) ρ M R=(ev Γ a ρ M fun ds M1=>∃ j k:Int,ds=[.int 0,.int j,.int k]/\(-1000<=j/\j<=1000/\1<=k/\k<=1000)/\∀ n:Nat,(∀ i:Nat,i<n↔(i:Int)*k<j)->R ((Xa n).map fun i:Nat=>.int (i*k)) M1):=rfl
theorem v_rev {a}{ρ M R}:ev Γ (.rev a) ρ M R=(ev Γ a ρ M fun x M1=>av x fun x=>intD x fun j=>0<=j/\j<=1000/\R (bv 0 j.toNat).reverse M1):=rfl
theorem v_enu {a}{ρ M R}:ev Γ (.DK a) ρ M R=(ev Γ a ρ M fun x M1=>av x fun x=>jd (pq x) fun ds=>R (ds.zipIdx.map fun p=>.tup [.int p.2,p.1]) M1):=rfl
theorem v_ix {a}{k}{ρ M R}:ev Γ (.ix a k) ρ M R=(ev Γ a ρ M fun x M1=>av x fun x=>ev Γ k ρ M1 fun y M2=>av y fun y=>intD y fun i=>jB x i fun d=>R [d] M2):=rfl
theorem v_sls {a}{lo}{hi}{ρ M R}:ev Γ (.DL a lo hi) ρ M R=(ev Γ a ρ M fun x M1=>av x fun x=>ev Γ lo ρ M1 fun l M2=>kK l fun l=>ev Γ hi ρ M2 fun h M3=>kK h fun h=>nB x fun z=>z.length<=sizeLine/\R [.str (Yw z l h)] M3):=rfl
theorem v_fld {a:C}{f:Str}{ρ M R}:ev Γ (.fld a f) ρ M R=(ev Γ a ρ M fun x M1=>av x fun x=>d5 Γ f x fun d=>R [d] M1):=rfl
theorem v_call {f:Nat}{a:C}{ρ M R}:ev Γ (.call f a) ρ M R=(ev Γ a ρ M fun ds M1=>Γ.fn f ds M1 fun d M2=>R [d] M2):=rfl
theorem v_cfo {f:Nat}{a:C}{ρ M R}:ev Γ (.HA f a) ρ M R=(ev Γ a ρ M fun ds M1=>Γ.fo f ds M1 R):=rfl
theorem v_meth {m:Nat}{r:C}{a:C}{ρ M R}:ev Γ (.bD m r a) ρ M R=(ev Γ r ρ M fun x M1=>av x fun x=>fh M1 x fun c fs=>Γ.hm m c fs=true/\ev Γ a ρ M1 fun ds M2=>Γ.me m (x::ds) M2 fun d M3=>R [d] M3):=rfl
theorem v_mk {c:Nat}{a:C}{ρ M R}:ev Γ (.mk c a) ρ M R=(ev Γ a ρ M fun ds M1=>Γ.bu c (.obj c [] []) ds M1 fun d M2=>R [d] M2):=rfl
theorem v_len {a}{ρ M R}:ev Γ (.len a) ρ M R=(ev Γ a ρ M fun x M1=>av x fun x=>pz x fun n=>R [.int n] M1):=rfl
theorem v_lns {a}{ρ M R}:ev Γ (.HB a) ρ M R=(ev Γ a ρ M fun x M1=>av x fun x=>∃ zs:List Str,x=.lst (zs.map .str)/\zs.length<64/\R [.int (bf zs).length] M1):=rfl
theorem v_isi {a:C}{t:Nat}{ρ M R}:ev Γ (.xx a t) ρ M R=(ev Γ a ρ M fun x M1=>av x fun x=>isiD t x fun c=>R [.bl c] M1):=rfl
theorem v_all {a}{ρ M R}:ev Γ (.all a) ρ M R=(ev Γ a ρ M fun x M1=>av x fun x=>∃ bs:List Bool,x=.lst (bs.map .bl)/\R [.bl (bs.all id)] M1):=rfl
theorem v_int1 {a}{ρ M R}:ev Γ (.kJ a) ρ M R=(ev Γ a ρ M fun x M1=>av x fun x=>bF x fun c=>R [.int (if c then 1 else 0)] M1):=rfl
theorem v_min2 {a}{b}{ρ M R}:ev Γ (.min2 a b) ρ M R=(ev Γ a ρ M fun x M1=>av x fun x=>ev Γ b ρ M1 fun y M2=>av y fun y=>intD x fun i=>intD y fun j=>R [.int (if j<i then j else i)] M2):=rfl
theorem v_tpl {a}{ρ M R}:ev Γ (.zK a) ρ M R=(ev Γ a ρ M fun x M1=>av x fun x=>jd (iS x) fun ds=>R [.tup ds] M1):=rfl
theorem v_tpf {a}{ρ M R}:ev Γ (.E4 a) ρ M R=(ev Γ a ρ M fun x M1=>av x fun x=>jd (iS x) fun ds=>R [.fE ds] M1):=rfl
theorem v_cnt {a}{b}{ρ M R}:ev Γ (.cnt a b) ρ M R=(ev Γ a ρ M fun x M1=>av x fun x=>DO x fun ds=>ev Γ b ρ M1 fun y M2=>av y fun y=>jX y=true/\ds.all jX=true/\R [.int (ds.countP fun z=>CH z y:Nat)] M2):=rfl
theorem v_dct {a}{ρ M R}:ev Γ (.yL a) ρ M R=(ev Γ a ρ M fun x M1=>av x fun x=>∃ ks:List Int,x=.lst (ks.map fun k=>.tup [.int k,.bl true])/\ks.length<=900/\R [.CF ks] M1):=rfl
theorem v_dnt {k}{d}{ρ M R}:ev Γ (.DM k d) ρ M R=(ev Γ k ρ M fun x M1=>av x fun x=>ev Γ d ρ M1 fun y M2=>av y fun y=>y9 x fun p=>HF M2 y fun _ kvs=>R [.bl (fR kvs p).isNone] M2):=rfl
theorem v_dgt {d}{k}{ρ M R}:ev Γ (.HC d k) ρ M R=(ev Γ d ρ M fun x M1=>av x fun x=>ev Γ k ρ M1 fun y M2=>av y fun y=>y9 y fun p=>HF M2 x fun _ kvs=>∃ v,fR kvs p=some v/\R [v] M2):=rfl
end
section
variable {Γ:Gm}{ρ:En}{M:Mem}{E:za}{d e:Dt}{ds es:List Dt}{i j:Int}{x y:Str}{b:Bool}{k:Nat}{s:Sl}{c:C}
theorem rd_r1 {K:Dt->Prop}:av [d] K=K d:=rfl
theorem rd_r2 {K:Bool->Prop}:bF (.bl b) K=K b:=rfl
theorem rd_r3 {K:Int->Prop}:intD (.int i) K=K i:=rfl
theorem rd_r4 {K:Str->Prop}:nB (.str x) K=K x:=rfl
theorem rd_r5 {K:Dt->Prop}:lT (.sh d::ρ) 0 K=K d:=rfl
theorem rd_r6 {K:Dt->Prop}:lT (s::ρ) (k+1) K=lT ρ k K:=rfl
theorem rd_r7 {K:Dt->Prop}:b6 (.ow d::ρ) 0 K=K d:=rfl
theorem rd_r8 {K:Dt->Prop}:b6 (s::ρ) (k+1) K=b6 ρ k K:=rfl
theorem rd_r9 {K:List Dt->Prop}:jd (some ds) K=K ds:=rfl
theorem rd_r10:jW (.lst ds)=some ds:=rfl
theorem rd_r11:jW (.nA ds)=some ds:=rfl
theorem rd_r12:jW (.tup ds)=some ds:=rfl
theorem rd_r13:jW (.fE ds)=some ds:=rfl
theorem rd_r14:jW (.rK ds)=some ds:=rfl
theorem rd_r15:iS (.lst ds)=some ds:=rfl
theorem rd_r16:iS (.nA ds)=some ds:=rfl
theorem rd_r17:pq (.tup ds)=some ds:=rfl
theorem rd_r18:pq (.fE ds)=some ds:=rfl
theorem rd_r19:pq (.rK ds)=some ds:=rfl
theorem rd_r20:pq (.sZ ds)=some ds:=rfl
theorem rd_r21:jW (.sZ ds)=some ds:=rfl
theorem rd_r22:HD (.tup ds)=some ds:=rfl
theorem rd_r23:HD (.fE ds)=some ds:=rfl
theorem rd_r24:HD (.sZ ds)=some ds:=rfl
theorem rd_b1 {R:Dt->Prop}:lU .add (.int i) (.int j) R=R (.int (i+j)):=rfl
theorem rd_b2 {R:Dt->Prop}:lU .add (.str x) (.str y) R=(x.length+y.length<=sizeLine/\R (.str (x++y))):=rfl
theorem rd_b3 {R:Dt->Prop}:lU .sub (.int i) (.int j) R=R (.int (i-j)):=rfl
theorem rd_b4 {R:Dt->Prop}:lU .mul (.int i) (.int j) R=(yv i j/\R (.int (i*j))):=rfl
theorem rd_b5 {R:Dt->Prop}:lU .fdiv (.int i) (.int j) R=(z8 i j/\R (.int (i / j))):=rfl
theorem rd_b6 {R:Dt->Prop}:lU .mod (.int i) (.int j) R=(0<j/\R (.int (i % j))):=rfl
theorem rd_b7 {R:Dt->Prop}:lU .pow (.int i) (.int j) R=(CZ i j/\R (.int (i ^ j.toNat))):=rfl
theorem rd_b8 {R:Dt->Prop}:lU .shr (.int i) (.int j) R=(0<=j/\R (.int (i / 2 ^ j.toNat))):=rfl
theorem rd_c1 {R:Bool->Prop}:g8 .lt (.int i) (.int j) R=R (decide (i<j)):=rfl
theorem rd_c2 {R:Bool->Prop}:g8 .le (.int i) (.int j) R=R (decide (i<=j)):=rfl
theorem rd_c3 {R:Bool->Prop}:g8 .gt (.int i) (.int j) R=R (decide (j<i)):=rfl
theorem rd_c4 {R:Bool->Prop}:g8 .ge (.int i) (.int j) R=R (decide (j<=i)):=rfl
theorem rd_c5 {R:Bool->Prop}:g8 .Hr d .az R=(Dt.az=.az/\R (E6 d)):=rfl
theorem rd_c6 {R:Bool->Prop}:g8 .y4 d .az R=(Dt.az=.az/\R (!E6 d)):=rfl
theorem rd_e1 {R:Bool->Prop}:vv (.int i) (.int j) R=R (decide (i=j)):=rfl
theorem rd_e2 {R:Bool->Prop}:vv (.str x) (.str y) R=R (decide (x=y)):=rfl
theorem rd_e3 {b':Bool}{R:Bool->Prop}:vv (.bl b) (.bl b') R=R (decide (b=b')):=rfl
theorem rd_l1 {R:Nat->Prop}:pz (.str x) R=(x.length<=sizeLine/\R x.length):=rfl
theorem rd_l2 {R:Nat->Prop}:pz (.lst ds) R=R ds.length:=rfl
theorem rd_l3 {R:Nat->Prop}:pz (.nA ds) R=R ds.length:=rfl
theorem rd_l4 {R:Nat->Prop}:pz (.tup ds) R=R ds.length:=rfl
theorem rd_l5 {R:Nat->Prop}:pz (.fE ds) R=R ds.length:=rfl
theorem rd_l6 {R:Nat->Prop}:pz (.rK ds) R=R ds.length:=rfl
theorem rd_l7 {R:Nat->Prop}:pz (.sZ ds) R=R ds.length:=rfl
theorem rd_t1 {R:Bool->Prop}:DN (.bl b) R=R b:=rfl
theorem rd_t2 {R:Bool->Prop}:DN (.lst ds) R=R (!ds.isEmpty):=rfl
theorem rd_x1 {R:Dt->Prop}:jB (.str x) i R=(x.length<=sizeLine/\∃ c,mz x.cps.toList i=some c/\R (.str ⟨#[c]⟩)):=rfl
theorem rd_x2 {R:Dt->Prop}:jB (.lst ds) i R=atK ds i R:=rfl
theorem rd_x3 {R:Dt->Prop}:jB (.nA ds) i R=atK ds i R:=rfl
theorem rd_x4 {R:Dt->Prop}:jB (.tup ds) i R=atK ds i R:=rfl
theorem rd_x5 {R:Dt->Prop}:jB (.fE ds) i R=atK ds i R:=rfl
theorem rd_x6 {R:Dt->Prop}:jB (.rK ds) i R=atK ds i R:=rfl
theorem rd_x8 {R:Dt->Prop}:jB (.sZ ds) i R=atK ds i R:=rfl
theorem rd_x7 {c:Nat}{f:Str}{fs:List Str}{R:Dt->Prop}:d5 Γ f (.obj c fs ds) R=(Γ.at_ c f=true/\∃ d,(fs.zip ds).lookup f=some d/\R d):=rfl
theorem rd_o1 {R:l_ Int->Prop}:kK [] R=R none:=rfl
theorem rd_o2 {R:l_ Int->Prop}:kK [.int i] R=R (some i):=rfl
theorem rd_k1 {ix:List Nat}{K:En->Prop}:zL ρ 1 ix d K=K (.sh d::ix.map (fQ ρ)):=rfl
theorem rd_k2 {ix:List Nat}{K:En->Prop}:zL ρ 2 ix (.tup [d,e]) K=K (.sh d::.sh e::ix.map (fQ ρ)):=rfl
theorem rd_k3:fQ (.sh d::ρ) 0=.sh d:=rfl
theorem rd_k4:fQ (s::ρ) (k+1)=fQ ρ k:=rfl
theorem rd_m1 {R:List Dt->Prop}:CI (.str x) R=R (rM x):=rfl
theorem rd_m2 {R:List Dt->Prop}:CI (.lst ds) R=R ds:=rfl
theorem rd_m3 {R:List Dt->Prop}:CI (.nA ds) R=R ds:=rfl
theorem rd_m4 {R:List Dt->Prop}:CI (.tup ds) R=R ds:=rfl
theorem rd_m5 {R:List Dt->Prop}:CI (.fE ds) R=R ds:=rfl
theorem rd_m6 {R:List Dt->Prop}:CI (.rK ds) R=R ds:=rfl
theorem rd_m7 {R:List Dt->Prop}:CI (.sZ ds) R=R ds:=rfl
theorem rd_n1 {i:Nat}{K:En->Prop}:gV ρ [i] d K=K (ρ.set i (.sh d)):=rfl
theorem rd_n2 {i j:Nat}{d':Dt}{K:En->Prop}:gV ρ [i,j] (.tup [d,d']) K=K ((ρ.set i (.sh d)).set j (.sh d')):=rfl
theorem rd_n3 {R:List Dt->Prop}:lstK (.lst ds) R=R ds:=rfl
theorem rd_n4 {c:Nat}{fs:List Str}{R:Nat->List Str->List Dt->Prop}:pA (.obj c fs ds) R=R c fs ds:=rfl
theorem rd_n5 {R:Dt->Prop}:zb .add (.int i) (.int j) R=R (.int (i+j)):=rfl
theorem rd_n6 {R:Dt->Prop}:zb .sub (.int i) (.int j) R=R (.int (i-j)):=rfl
theorem rd_n7 {R:List Dt->Prop}:DO (.fE ds) R=R ds:=rfl
theorem rd_n8 {c:Nat}{fs:List Str}{R:Nat->List Str->Prop}:fh M (.obj c fs ds) R=R c fs:=rfl
variable {a r:S}{f:C}
theorem rd_s1:ex Γ .skip ρ M E=E.nx ρ M:=rfl
theorem rd_s2:ex Γ (.set k c) ρ M E=ev Γ c ρ M fun x M1=>av x fun d=>E.nx (ρ.set k (.sh d)) M1:=rfl
theorem rd_s3:ex Γ (.cU k f) ρ M E=ev Γ f ρ M fun ds M1=>E.nx (ρ.set k (.ow (.lst ds))) M1:=rfl
theorem rd_s4 {q:Nat}:ex Γ (.y6 k q c) ρ M E=ev Γ c ρ M fun ds M1=>Γ.bu q (.obj q [] []) ds M1 fun d M2=>E.nx (ρ.set k (.ow d)) M2:=rfl
theorem rd_s5:ex Γ (.du k) ρ M E=b6 ρ k fun d=>E.nx (ρ.set k (.sh d)) M:=rfl
theorem rd_s6:ex Γ (.app k c) ρ M E=b6 ρ k fun l=>lstK l fun ds=>ev Γ c ρ M fun x M1=>av x fun d=>ds.length<sizeLine/\E.nx (ρ.set k (.ow (.lst (ds++[d])))) M1:=rfl
theorem rd_s7:ex Γ (.ext k c) ρ M E=b6 ρ k fun l=>lstK l fun ds=>ev Γ c ρ M fun x M1=>av x fun d=>lstK d fun es=>ds.length+es.length<=sizeLine/\E.nx (ρ.set k (.ow (.lst (ds++es)))) M1:=rfl
theorem rd_s8 {h:C}:ex Γ (.KC h c) ρ M E=ev Γ h ρ M fun x M1=>av x fun x=>HG M1 x fun _ _=>ev Γ c ρ M1 fun y M2=>av y fun y=>HG M2 x fun p ds=>ds.length<sizeLine/\E.nx ρ (cf M2 p (.ml (ds++[y]))):=rfl
theorem rd_s9 {f:Str}:ex Γ (.eE k f c) ρ M E=ev Γ c ρ M fun x M1=>av x fun d=>b6 ρ k fun o=>pA o fun c fs ds=>Γ.at_ c f=true/\fs.length<1000/\E.nx (ρ.set k (.ow (.obj c (putD f d fs ds).1 (putD f d fs ds).2))) M1:=rfl
theorem rd_s10 {op:qB}:ex Γ (.aug k op c) ρ M E=lT ρ k fun x=>ev Γ c ρ M fun y M1=>av y fun y=>zb op x y fun d=>E.nx (ρ.set k (.sh d)) M1:=rfl
theorem rd_s11:ex Γ (.ex c) ρ M E=ev Γ c ρ M fun x M1=>av x fun _=>E.nx ρ M1:=rfl
theorem rd_s12 {q:Nat}:ex Γ (.bu q c) ρ M E=b6 ρ 0 fun d=>pA d fun n fs xs=>ev Γ c ρ M fun ds M1=>Γ.bu q (.obj n fs xs) ds M1 fun d' M2=>E.nx (ρ.set 0 (.ow d')) M2:=rfl
theorem rd_s13:ex Γ (.ret c) ρ M E=ev Γ c ρ M fun x M1=>av x fun d=>E.rt d M1:=rfl
theorem rd_s16:ex Γ (.ite c a r) ρ M E=ev Γ c ρ M fun x M1=>av x fun x=>bF x fun c=>if c=true then ex Γ a ρ M1 E else ex Γ r ρ M1 E:=rfl
theorem rd_s17 {tg:List Nat}:ex Γ (.bx c tg a) ρ M E=ev Γ c ρ M fun items M1=>em (fun x ρ M E=>gV ρ tg x fun ρ'=>ex Γ a ρ' M E) E items ρ M1:=rfl
theorem rd_s19:ex Γ (.y7 k) ρ M E=b6 ρ k fun l=>lstK l fun ds=>E.ro ds M:=rfl
theorem rd_s18:ex Γ (.A1 a) ρ M E=ex Γ a ρ M E:=rfl
theorem sqo (h:∀ N,N=(fun ρ' M'=>ex Γ r ρ' M' E)->ex Γ a ρ M { E with nx:=N }):ex Γ (.seq a r) ρ M E:=h _ rfl
theorem aq {f:Dt->En->Mem->za->Prop}{items:List Dt} (Iv:Nat->En->Mem->Prop) (h0:Iv 0 ρ M)
  (hs:∀ (i:Nat) x ρ M (N:En->Mem->Prop),items[i]? = some x->Iv i ρ M->(∀ ρ' M',Iv (i+1) ρ' M'->N ρ' M')->f x ρ M { E with nx:=N,ct:=N,bk:=E.nx }) (hd:∀ ρ M,Iv items.length ρ M->E.nx ρ M):em f E items ρ M:=by
 suffices ∀ (n:Nat) (l:List Dt),l=items.drop n->n<=items.length->∀ ρ M,Iv n ρ M->em f E l ρ M from this 0 items rfl (Yb _) ρ M h0
 intro n l
 induction l generalizing n with
 | nil =>
  intro e hn ρ M h;have:items.length<=n:=List.drop_eq_nil_iff.mp e.symm;have:n=items.length:=by omega
  subst this;exact hd ρ M h
 | cons x xs ih =>
  intro e hn ρ M h
  have hx:items[n]? = some x:=by
   have:=congrArg (fun l=>l[0]?) e;simpa using this.symm
  have lR:n<items.length:=(j_.mp hx).1
  have e':xs=items.drop (n+1):=by
   have:=congrArg List.tail e;simpa [List.tail_drop] using this
  exact hs n x ρ M _ hx h fun ρ' M' h'=>ih (n+1) e' lR ρ' M' h'
theorem aB {lo:Int}{n i:Nat}{x:Dt} (h:(bv lo n)[i]? = some x):i<n/\x=.int (lo+i):=by
 unfold bv at h;rw[f_] at h;obtain⟨k,hk,rfl⟩:=k_.mp h;obtain⟨h1,h2⟩:=j_.mp hk;rw[H_] at h1;rw[acx] at h2;subst h2;exact⟨h1,rfl⟩
theorem ai {lo:Int}{n:Nat}:(bv lo n).length=n:=by unfold bv;rw[a_,H_]
theorem comp_map {f:Dt->Mem->(l_ Dt->Mem->Prop)->Prop}{R:Rt} (g:Dt->Dt):∀ {items:List Dt},(∀ x∈items,∀ K,K (some (g x)) M->f x M K)->R (items.map g) M->eh f items M R
 | [],_,h=>h
 | x::xs,hf,h=>hf x Q_ _ (comp_map g (fun y hy=>hf y (F_ _ hy)) h)
theorem aV {f:Dt->Mem->(l_ Dt->Mem->Prop)->Prop}{R:Rt} (g:Dt->l_ Dt):∀ {items:List Dt},(∀ x∈items,∀ K,K (g x) M->f x M K)->R (items.filterMap g) M->eh f items M R
 | [],_,h=>h
 | x::xs,hf,h=>by
  refine hf x Q_ _ (aV g (fun y hy=>hf y (F_ _ hy)) ?_);rw[Xb] at h
  cases e:g x with
  | none=>rw[e] at h;exact h
  | some d=>rw[e] at h;exact h
end
end PV
namespace PV
open PySem L2 SH
theorem _root_.L2.PE.imp {X:Cx}{e:Expr}{t t':TE} (h:PE X e t) (i:∀ σ H Q,t' σ H Q->t σ H Q):PE X e t':=fun pins s σ H Q I q=>h pins s σ H Q I (i σ H Q q)
theorem _root_.L2.PT.imp {X:Cx}{e:Expr}{t t':TT} (h:PT X e t) (i:∀ σ H Q,t' σ H Q->t σ H Q):PT X e t':=fun pins s σ H Q I q=>h pins s σ H Q I (i σ H Q q)
theorem _root_.L2.PW.imp {X:Cx}{e:Expr}{t t':TT} (h:PW X e t) (i:∀ σ H Q,t' σ H Q->t σ H Q):PW X e t':=fun wh pins s σ H Q I q=>h wh pins s σ H Q I (i σ H Q q)
theorem _root_.L2.PA.imp {X:Cx}{e:List Expr}{t t':TA} (h:PA X e t) (i:∀ σ H Q,t' σ H Q->t σ H Q):PA X e t':=fun pos pins s σ H Q I q=>h pos pins s σ H Q I (i σ H Q q)
theorem _root_.L2.PO.imp {X:Cx}{e:l_ Expr}{t t':TO} (h:PO X e t) (i:∀ σ H Q,t' σ H Q->t σ H Q):PO X e t':=fun pins s σ H Q I q=>h pins s σ H Q I (i σ H Q q)
theorem _root_.L2.PI.imp {X:Cx}{tg e:Expr}{t t':TI} (h:PI X tg e t) (i:∀ σ H Q,t' σ H Q->t σ H Q):PI X tg e t':=fun pins s σ H Q I q=>h pins s σ H Q I (i σ H Q q)
theorem _root_.L2.PS.imp {X:Cx}{e:Stmt}{t t':TS} (h:PS X e t) (i:∀ D σ H,t' D σ H->t D σ H):PS X e t':=fun pins s σ H D I q=>h pins s σ H D I (i D σ H q)
theorem _root_.L2.kC.imp {X:Cx}{e:List Stmt}{t t':TS} (h:kC X e t) (i:∀ D σ H,t' D σ H->t D σ H):kC X e t':=fun pins s σ H D I q=>h pins s σ H D I (i D σ H q)
def dB (K:e_) (cl:Cl) (G H:Hp) (d:Dt) (v:V):Prop:=Is K cl G d v∨∃ a o,v=.ref a/\Hq d=some o/\bX K cl G H a o
def kO (k:l_ Int->Mem->Prop):Rt:=fun ds M=>kK ds fun o=>k o M
def kB (k:Bool->Mem->Prop):Rt:=fun x M=>av x fun x=>bF x fun b=>k b M
def KD (K:e_) (cl:Cl) (G H:Hp) (M:Mem) (d:Dt) (v:V):Prop:=Is K cl G d v∨∃ a o,v=.ref a/\Hq d=some o/\M a=none/\bX K cl G H a o
section
variable (K:e_) (cl:Cl) (Γ:Gm) (c:C)
inductive tp (σ:St) (H:Hp) (Q:VK):Prop where
 | mk (B:Bs) (ρ:En) (M:Mem) (G:Hp) (R:Rt):Rep K cl B ρ M σ H G->ev Γ c ρ M R->(∀ d v M' G' H',a9 K cl none G H M G' H' M'->Is K cl G' d v->R [d] M'->Q v H')->tp σ H Q
inductive tq (σ:St) (H:Hp) (Q:VK):Prop where
 | mk (B:Bs) (ρ:En) (M:Mem) (G:Hp) (R:Rt):Rep K cl B ρ M σ H G->ev Γ c ρ M R->(∀ d v M' G' H',a9 K cl none G H M G' H' M'->dB K cl G' H' d v->R [d] M'->Q v H')->tq σ H Q
inductive tr (σ:St) (H:Hp) (Q:VK):Prop where
 | mk (B:Bs) (ρ:En) (M:Mem) (G:Hp) (R:Rt):Rep K cl B ρ M σ H G->ev Γ c ρ M R->(∀ d v M' G' H',a9 K cl none G H M G' H' M'->KD K cl G' H' M' d v->R [d] M'->Q v H')->tr σ H Q
inductive ta (σ:St) (H:Hp) (Q:List V->Hp->Prop):Prop where
 | mk (B:Bs) (ρ:En) (M:Mem) (G:Hp) (R:Rt):Rep K cl B ρ M σ H G->ev Γ c ρ M R->(∀ ds vs M' G' H',a9 K cl none G H M G' H' M'->IsL K cl G' ds vs->R ds M'->Q vs H')->ta σ H Q
inductive tf (σ:St) (H:Hp) (Q:VK):Prop where
 | mk (B:Bs) (ρ:En) (M:Mem) (G:Hp) (R:Rt):Rep K cl B ρ M σ H G->ev Γ c ρ M R->(∀ ds vs M' G' H' p,a9 K cl none G H M G' H' M'->H' p=none->IsL K cl G' ds vs->R ds M'->Q (.ref p) (upd H' p (.lst vs)))->tf σ H Q
inductive tt (σ:St) (H:Hp) (Q:Bool->Hp->Prop):Prop where
 | mk (B:Bs) (ρ:En) (M:Mem) (G:Hp) (k:Bool->Mem->Prop):Rep K cl B ρ M σ H G->ev Γ c ρ M (kB k)->(∀ b M' G' H',a9 K cl none G H M G' H' M'->k b M'->Q b H')->tt σ H Q
inductive to (σ:St) (H:Hp) (Q:l_ Int->Hp->Prop):Prop where
 | mk (B:Bs) (ρ:En) (M:Mem) (G:Hp) (k:l_ Int->Mem->Prop):Rep K cl B ρ M σ H G->ev Γ c ρ M (kO k)->(∀ o M' G' H',a9 K cl none G H M G' H' M'->k o M'->Q o H')->to σ H Q
def uu (J:It) (items:List Dt) (G:Hp):Prop:=∀ (i:Nat) (G' H:Hp) (M:Mem),ah G G'->ah G' H->bE K cl G' H M ->
 (i<items.length->J.go i H/\∀ x H',J.K9 i H x H'->∃ d SU,items[i]? = some d/\Is K cl SU d x/\a9 K cl none G' H M SU H' M)/\(i=items.length->J.stop i H)
inductive zN (σ:St) (H:Hp) (Q:It->Hp->Prop):Prop where
 | mk (B:Bs) (ρ:En) (M:Mem) (G:Hp) (R:Rt):Rep K cl B ρ M σ H G->ev Γ c ρ M R->(∀ items M' G' H' J,a9 K cl none G H M G' H' M'->uu K cl J items G'->R items M'->Q J H')->zN σ H Q
end
section
variable {K:e_}{cl:Cl}{Γ:Gm}{c ca cb cc:C}{σ:St}{H:Hp}{Q:VK}{X:Cx}{e a b:Expr}
theorem dB.CG {G H:Hp}{d:Dt}{v:V}{ds:List Dt} (s:ah G H) (h:dB K cl G H d v) (e:iS d=some ds):∃ a vs,v=.ref a/\cS K H a vs/\IsL K cl G ds vs:=by
 rcases h with h | ⟨a,o,rfl,ho,hc⟩
 ·obtain⟨a,vs,h1,h2,h3⟩:=h.CG e;exact⟨a,vs,h1,h2.same s,h3⟩
 ·cases d<;>first | (cases e;done) | skip
  ·cases e;cases ho
   obtain⟨vs,h1,h2⟩:=hc;exact⟨a,vs,rfl,cS.of h1,h2⟩
  ·cases ho
theorem dB.KA {G H:Hp}{d:Dt}{v:V}{ds:List Dt} (s:ah G H) (h:dB K cl G H d v) (e:pq d=some ds):∃ a vs,v=.ref a/\eC K H a vs/\IsL K cl G ds vs:=by
 rcases h with h | ⟨a,o,rfl,ho,hc⟩
 ·obtain⟨a,vs,h1,h2,h3⟩:=h.KA e;exact⟨a,vs,h1,h2.same s,h3⟩
 ·cases d<;>first | (cases e;done) | (cases ho;done)
theorem dB.seq {G H:Hp}{d:Dt}{v:V}{ds:List Dt} (s:ah G H) (h:dB K cl G H d v) (e:jW d=some ds):∃ a vs,v=.ref a/\(cS K H a vs∨eC K H a vs)/\IsL K cl G ds vs:=by
 unfold jW at e
 cases q:iS d with
 | some es =>
  rw[q] at e;cases e;obtain⟨a,vs,h1,h2,h3⟩:=h.CG s q;exact⟨a,vs,h1,.inl h2,h3⟩
 | none =>
  rw[q] at e;obtain⟨a,vs,h1,h2,h3⟩:=h.KA s e;exact⟨a,vs,h1,.inr h2,h3⟩
theorem dB.int {G H:Hp}{i:Int}{v:V} (h:dB K cl G H (.int i) v):v=.int i:=by
 rcases h with h | ⟨a,o,_,ho,_⟩
 ·unfold Is at h;exact h
 ·cases ho
theorem dB.str {G H:Hp}{i:Str}{v:V} (h:dB K cl G H (.str i) v):v=.str i:=by
 rcases h with h | ⟨a,o,_,ho,_⟩
 ·unfold Is at h;exact h
 ·cases ho
theorem dB.bl {G H:Hp}{i:Bool}{v:V} (h:dB K cl G H (.bl i) v):v=.bl i:=by
 rcases h with h | ⟨a,o,_,ho,_⟩
 ·unfold Is at h;exact h
 ·cases ho
theorem dB.az {G H:Hp}{v:V} (h:dB K cl G H .az v):v=.az:=by
 rcases h with h | ⟨a,o,_,ho,_⟩
 ·unfold Is at h;exact h
 ·cases ho
theorem KD.q {G H:Hp}{M:Mem}{d:Dt}{v:V} (h:KD K cl G H M d v):dB K cl G H d v:=h.elim .inl fun⟨a,o,h1,h2,_,h3⟩=>.inr ⟨a,o,h1,h2,h3⟩
theorem KD.b5 {G H G' H':Hp}{M M':Mem}{d:Dt}{v:V} (h:KD K cl G H M d v) (f:a9 K cl none G H M G' H' M'):KD K cl G' H' M' d v:=by
 rcases h with h | ⟨a,o,h1,h2,h3,h4⟩
 ·exact .inl (h.mono f.g)
 ·obtain⟨u,hu⟩:=h4.jA;refine .inr ⟨a,o,h1,h2,?_,h4.mono f.g fun u e=>f.h a u e h3 (fun z=>nomatch z)⟩
  cases e:M' a with
  | none=>rfl
  | some w=>exact absurd (f.mf a w e h3) (by rw[hu];exact fun z=>nomatch z)
theorem Mh (h:tr K cl Γ c σ H Q):tp K cl Γ c σ H Q:=by
 obtain⟨B,ρ,M,G,R,h1,h2,h3⟩:=h;exact⟨B,ρ,M,G,R,h1,h2,fun d v M' G' H' f i=>h3 d v M' G' H' f (.inl i)⟩
theorem Mi (h:tq K cl Γ c σ H Q):tr K cl Γ c σ H Q:=by
 obtain⟨B,ρ,M,G,R,h1,h2,h3⟩:=h;exact⟨B,ρ,M,G,R,h1,h2,fun d v M' G' H' f i=>h3 d v M' G' H' f i.q⟩
theorem _root_.L2.PE.r (h:PE X e (tp X.K cl Γ c)):PE X e (tr X.K cl Γ c):=h.imp fun _ _ _=>Mh
theorem _root_.L2.PE.rq (h:PE X e (tr X.K cl Γ c)):PE X e (tq X.K cl Γ c):=h.imp fun _ _ _=>Mi
theorem Mj (h:tq K cl Γ c σ H Q):tp K cl Γ c σ H Q:=by
 obtain⟨B,ρ,M,G,R,h1,h2,h3⟩:=h;exact⟨B,ρ,M,G,R,h1,h2,fun d v M' G' H' f i=>h3 d v M' G' H' f (.inl i)⟩
theorem _root_.L2.PE.q (h:PE X e (tp X.K cl Γ c)):PE X e (tq X.K cl Γ c):=h.imp fun _ _ _=>Mj
theorem Ml {D:Dt->Mem->(Dt->Mem->Prop)->Prop}{r:V->Hp->VK->Prop} (he:∀ ρ M R,ev Γ c ρ M R->ev Γ ca ρ M fun x M1=>av x fun x=>D x M1 fun d M2=>R [d] M2)
  (hr:∀ x v G H M (k:Dt->Mem->Prop) (Q:VK),ah G H->bE K cl G H M->dB K cl G H x v->D x M k->(∀ d u M' G' H',a9 K cl none G H M G' H' M'->Is K cl G' d u->k d M'->Q u H')->r v H Q)
  (h:tp K cl Γ c σ H Q):tq K cl Γ ca σ H fun v H1=>r v H1 Q:=by
 obtain⟨B,ρ,M,G,R,h1,h2,h3⟩:=h;refine⟨B,ρ,M,G,_,h1,he _ _ _ h2,fun d v M' G' H' f i hd=>hr d v G' H' M' _ Q f.gh f.mem i hd fun d' u M2 G2 H2 f2 i2 h4=>h3 d' u M2 G2 H2 (f.trans f2) i2 h4⟩
theorem E7 {D:Dt->Dt->Mem->(Dt->Mem->Prop)->Prop}{r:R2} (he:∀ ρ M R,ev Γ c ρ M R->ev Γ ca ρ M fun x M1=>av x fun x=>ev Γ cb ρ M1 fun y M2=>av y fun y=>D x y M2 fun d M3=>R [d] M3)
  (hr:∀ x y vx vy G H M (k:Dt->Mem->Prop) (Q:VK),ah G H->bE K cl G H M->dB K cl G H x vx->dB K cl G H y vy->D x y M k->(∀ d u M' G' H',a9 K cl none G H M G' H' M'->Is K cl G' d u->k d M'->Q u H')->r vx vy H Q)
  (h:tp K cl Γ c σ H Q):z7 r (tr K cl Γ ca) (tq K cl Γ cb) σ H Q:=by
 obtain⟨B,ρ,M,G,R,h1,h2,h3⟩:=h;refine⟨B,ρ,M,G,_,h1,he _ _ _ h2,fun x vx M1 G1 H1 f1 i1 hx=>⟨B,ρ,M1,G1,_,h1.on f1,hx,fun y vy M2 G2 H2 f2 i2 hy=>?_⟩⟩;exact hr x y vx vy G2 H2 M2 _ Q f2.gh f2.mem (i1.b5 f2).q i2 hy fun d u M3 G3 H3 f3 i3 h4=>h3 d u M3 G3 H3 ((f1.trans f2).trans f3) i3 h4
theorem Mm {d:Dt}{v:V} (he:∀ ρ M R,ev Γ c ρ M R->R [d] M) (hi:∀ G,Is K cl G d v) (h:tp K cl Γ c σ H Q):tC v σ H Q:=by
 obtain⟨B,ρ,M,G,R,h1,h2,h3⟩:=h;exact h3 d v M G H h1.self (hi G) (he _ _ _ h2)
theorem U3 {n:Int}{j pos}:PE X (.Constant (.int n) j pos) (tp X.K cl Γ (.i n)):=FS.imp fun _ _ _ h=>Mm (c:=.i n) (d:=.int n) (fun _ _ _ z=>z) (fun _=>by unfold Is;rfl) h
theorem U4 {n:Str}{j pos}:PE X (.Constant (.str n) j pos) (tp X.K cl Γ (.s n)):=FU.imp fun _ _ _ h=>Mm (c:=.s n) (d:=.str n) (fun _ _ _ z=>z) (fun _=>by unfold Is;rfl) h
theorem U5 {n:Bool}{j pos}:PE X (.Constant (.bool n) j pos) (tp X.K cl Γ (.b n)):=KZ.imp fun _ _ _ h=>Mm (c:=.b n) (d:=.bl n) (fun _ _ _ z=>z) (fun _=>by unfold Is;rfl) h
theorem U6 {j pos}:PE X (.Constant .none j pos) (tp X.K cl Γ .n):=FT.imp fun _ _ _ h=>Mm (c:=.n) (d:=.az) (fun _ _ _ z=>z) (fun _=>by unfold Is;rfl) h
theorem U7 {k:Nat}{x:Str}{pos:Pos} (hN:X.N[k]? = some x) (hv:zH X.env.scope x) (hd:(x==("__debug__" : Str))=false) (jE:(x==("__classdict__" : Str))=false):PE X (.Name x pos) (tp X.K cl Γ (.v k)) :=
 (i6 hN hv hd jE).imp fun σ H Q h=>by
  obtain⟨B,ρ,M,G,R,h1,h2,h3⟩:=h;change lT ρ k _ at h2;unfold lT at h2
  cases e:ρ[k]? with
  | none=>rw[e] at h2;exact h2.elim
  | some s =>
   cases s with
   | sh d =>
    rw[e] at h2;obtain⟨v,e1,e2⟩:=h1.sh k d e;exact⟨v,e1,h3 d v M G H h1.self e2 h2⟩
   | no=>rw[e] at h2;exact h2.elim
   | ow d=>rw[e] at h2;exact h2.elim
theorem U8 {k:Nat}{x:Str}{pos:Pos} (hN:X.N[k]? = some x) (hv:zH X.env.scope x) (hd:(x==("__debug__" : Str))=false) (jE:(x==("__classdict__" : Str))=false):PE X (.Name x pos) (tr X.K cl Γ (.o k)) :=
 (i6 hN hv hd jE).imp fun σ H Q h=>by
  obtain⟨B,ρ,M,G,R,h1,h2,h3⟩:=h;change b6 ρ k _ at h2;unfold b6 at h2
  cases e:ρ[k]? with
  | none=>rw[e] at h2;exact h2.elim
  | some s =>
   cases s with
   | ow d =>
    rw[e] at h2;obtain⟨oa,o1,_⟩:=h1.ow;obtain⟨e1,_,hm,_,o,ho,hc⟩:=o1 k d e;exact⟨_,e1,h3 d _ M G H h1.self (.inr ⟨_,o,rfl,ho,hm,hc⟩) h2⟩
   | no=>rw[e] at h2;exact h2.elim
   | sh d=>rw[e] at h2;exact h2.elim
theorem U9 (ha:PE X e (tp X.K cl Γ ca)):PE X e (tq X.K cl Γ (.d ca)):=ha.imp fun σ H Q h=>by
 obtain⟨B,ρ,M,G,R,h1,h2,h3⟩:=h;refine⟨B,ρ,M,G,_,h1,h2,fun d v M' G' H' f i hd=>?_⟩
 cases d with
 | jz p =>
  change (match M' p with | some (.ml xs)=>R [.lst xs] M' | some (.mo c fs xs)=>R [.obj c fs xs] M' | _=>False) at hd
  cases e:M' p with
  | none=>rw[e] at hd;exact hd.elim
  | some o =>
   have hc:=(f.mem p o e).2;rw[e] at hd;unfold Is at i
   cases o with
   | ml xs=>exact h3 _ v M' G' H' f (.inr ⟨p,_,i,rfl,hc⟩) hd
   | mo c fs xs=>exact h3 _ v M' G' H' f (.inr ⟨p,_,i,rfl,hc⟩) hd
   | md kvs=>exact hd.elim
 | _=>exact (show False from hd).elim
noncomputable def HI:qB->ZS
 | .add=>.Add | .sub=>.Sub | .mul=>.Mult | .fdiv=>.FloorDiv | .mod=>.Mod | .pow=>.Pow | .shr=>.RShift
def Mn:qB->R2
 | .add=>fun x y H Q=>xh (fun i j=>.int (i+j)) x y H Q∨∃ i j,x=.str i/\y=.str j/\i.length+j.length<=sizeLine/\Q (.str (i++j)) H
 | .sub=>xh fun i j=>.int (i-j)
 | .mul=>rI yv fun i j=>.int (i*j)
 | .fdiv=>rI z8 fun i j=>.int (i / j)
 | .mod=>rI (fun _ j=>0<j) fun i j=>.int (i % j)
 | .pow=>rI CZ fun i j=>.int (i ^ j.toNat)
 | .shr=>rI (fun _ j=>0<=j) fun i j=>.int (i / 2 ^ j.toNat)
theorem HJ:∀ op:qB,eD X (ZB (HI op)) (Mn op)
 | .add=>Gh.or vH
 | .sub=>Gi
 | .mul=>Gj
 | .fdiv=>C0
 | .mod=>Gk
 | .pow=>Gn
 | .shr=>Go
theorem nC {d:Dt}{R:Int->Prop} (h:vt d R):∃ i,d=.int i/\R i:=by
 cases d<;>first | exact⟨_,rfl,h⟩ | exact h.elim
theorem HK {d:Dt}{R:Str->Prop} (h:QO d R):∃ i,d=.str i/\R i:=by
 cases d<;>first | exact⟨_,rfl,h⟩ | exact h.elim
theorem HL {op:qB}{x y:Dt}{vx vy:V}{G H:Hp}{k:Dt->Prop}{Q:VK} (hx:dB K cl G H x vx) (hy:dB K cl G H y vy) (h:lU op x y k) (q:∀ d v,Is K cl G d v->k d->Q v H):Mn op vx vy H Q:=by
 have A2:∀ n,Is K cl G (.int n) (.int n):=fun n=>by unfold Is;rfl
 cases x with
 | int i =>
  obtain⟨j,rfl,h⟩:=nC (show vt y _ from h);have e1:=hx.int;have e2:=hy.int;subst e1 e2
  cases op with
  | add=>exact .inl ⟨i,j,rfl,rfl,q _ _ (A2 _) h⟩
  | sub=>exact⟨i,j,rfl,rfl,q _ _ (A2 _) h⟩
  | _=>exact⟨i,j,rfl,rfl,h.1,q _ _ (A2 _) h.2⟩
 | str i =>
  obtain⟨j,rfl,h⟩:=HK (show QO y _ from h);have e1:=hx.str;have e2:=hy.str;subst e1 e2
  cases op with
  | add=>exact .inr ⟨i,j,rfl,rfl,h.1,q _ _ (by unfold Is;rfl) h.2⟩
  | _=>exact h.elim
 | _=>exact h.elim
theorem Mp {op:qB}{pos:Pos} (ha:PE X a (tp X.K cl Γ ca)) (hb:PE X b (tp X.K cl Γ cb)):PE X (.BinOp a (HI op) b pos) (tp X.K cl Γ (.bin op ca cb)) :=
 (ES (HJ op) ha.r hb.q).imp fun σ H Q h=>E7 (c:=.bin op ca cb) (D:=fun x y M k=>lU op x y fun d=>k d M) (fun _ _ _ z=>z) (fun x y vx vy G H M k Q s m hx hy hd q=>HL hx hy hd fun d v i hk=>q d v M G H (a9.refl s m) i hk) h
theorem Mq {pos:Pos} (ha:PE X a (tp X.K cl Γ ca)):PE X (.UnaryOp .USub a pos) (tp X.K cl Γ (.neg ca)) :=
 (Ld Gp ha.q).imp fun σ H Q h=>Ml (c:=.neg ca) (D:=fun x M k=>intD x fun i=>k (.int (-i)) M) (fun _ _ _ z=>z) (fun x v G H M k Q s m hx hd q=>by
  cases x with
  | int i=>have e:=hx.int;subst e;exact⟨i,rfl,q _ _ M G H (a9.refl s m) (by unfold Is;rfl) hd⟩
  | _=>exact (show False from hd).elim) h
noncomputable def zc:rL->CmpOp
 | .lt=>.Lt | .le=>.LtE | .gt=>.Gt | .ge=>.GtE | .Hr=>.Is | .y4=>.IsNot
def A3:rL->R2
 | .lt=>xh fun i j=>.bl (decide (i<j))
 | .le=>xh fun i j=>.bl (decide (i<=j))
 | .gt=>xh fun i j=>.bl (decide (j<i))
 | .ge=>xh fun i j=>.bl (decide (j<=i))
 | .Hr=>fun x y H Q=>y=.az/\Q (.bl (decide (x=.az))) H
 | .y4=>fun x y H Q=>y=.az/\Q (.bl (!decide (x=.az))) H
theorem kL:∀ op:rL,eD X (Xl (zc op)) (A3 op)
 | .lt=>Lh
 | .le=>Li
 | .gt=>Lj
 | .ge=>Ll
 | .Hr=>Gr
 | .y4=>C1
theorem v8 (op:rL) (b:Expr):XR (zc op) b=false:=by cases op<;>exact Ab b
theorem dB.E6 {G H:Hp}{d:Dt}{v:V} (h:dB K cl G H d v):decide (v=.az)=E6 d:=by
 rcases h with h | ⟨a,o,rfl,e,_⟩
 ·unfold Is at h
  cases d<;>first | (cases h;rfl) | (obtain⟨a,_,rfl,_⟩:=h;rfl) | (obtain⟨a,_,_,rfl,_⟩:=h;rfl)
 ·cases d<;>first | rfl | cases e
theorem rN {op:rL}{x y:Dt}{vx vy:V}{G H:Hp}{k:Bool->Prop}{Q:VK} (hx:dB K cl G H x vx) (hy:dB K cl G H y vy) (h:g8 op x y k) (q:∀ b,k b->Q (.bl b) H):A3 op vx vy H Q:=by
 have two:∀ {R:Int->Int->Prop},(vt x fun i=>vt y fun j=>R i j)->∃ i j,vx=.int i/\vy=.int j/\R i j:=fun {R} h=>by
  obtain⟨i,rfl,h2⟩:=nC h;obtain⟨j,rfl,h3⟩:=nC h2;exact⟨i,j,hx.int,hy.int,h3⟩
 cases op with
 | Hr=>obtain⟨rfl,h⟩:=h;exact⟨hy.az,q _ (by rw[hx.E6];exact h)⟩
 | y4=>obtain⟨rfl,h⟩:=h;exact⟨hy.az,q _ (by rw[hx.E6];exact h)⟩
 | _=>obtain⟨i,j,e1,e2,h⟩:=two h;exact⟨i,j,e1,e2,q _ h⟩
theorem Is.zd {G:Hp}{b:Bool}:Is K cl G (.bl b) (.bl b):=by unfold Is;rfl
theorem Mr {op:rL}{pos:Pos} (ha:PE X a (tp X.K cl Γ ca)) (hb:PE X b (tp X.K cl Γ cb)):PE X (.Compare a [zc op] [b] pos) (tp X.K cl Γ (.cmp op ca cb)) :=
 (mr (kL op) ha.r hb.q (v8 op b)).imp fun σ H Q h=>E7 (c:=.cmp op ca cb) (D:=fun x y M k=>g8 op x y fun c=>k (.bl c) M) (fun _ _ _ z=>z) (fun x y vx vy G H M k Q s m hx hy hd q=>rN hx hy hd fun b hk=>q _ _ M G H (a9.refl s m) Is.zd hk) h
theorem uv {σ:St}{H:Hp}{Q:Bool->Hp->Prop} (h:tt K cl Γ c σ H Q):tp K cl Γ c σ H fun v H1=>∃ b,v=.bl b/\Q b H1:=by
 obtain⟨B,ρ,M,G,k,h1,h2,h3⟩:=h;refine⟨B,ρ,M,G,_,h1,h2,fun d v M' G' H' f i hd=>?_⟩
 cases d with
 | bl b=>unfold Is at i;exact⟨b,i,h3 b M' G' H' f hd⟩
 | _=>exact (show False from hd).elim
theorem xy {op:CmpOp}{r:R2}{pos:Pos} (ho:eD X (Xl op) r) (ha:PE X a (tr X.K cl Γ ca)) (hb:PE X b (tq X.K cl Γ cb)) (hm:XR op b=false)
  (hh:∀ σ H Q,tp X.K cl Γ c σ H Q->z7 r (tr X.K cl Γ ca) (tq X.K cl Γ cb) σ H Q):PT X (.Compare a [op] [b] pos) (tt X.K cl Γ c):=(C2 ho ha hb hm).imp fun σ H Q h=>hh σ H _ (uv h)
theorem Ms (ha:PE X e (tp X.K cl Γ c)) (he:∀ whole,abP e X.env whole=(do let v ←whole;ab6 e.pos;aaR [v] (truthy v))):PT X e (tt X.K cl Γ c):=(FV ha he).imp fun _ _ _ h=>uv h
end
end PV
namespace PV
open PySem L2 SH
noncomputable def noStar:Expr->Bool
 | .Starred _ _=>false
 | _=>true
theorem ag {e:Expr}{es:List Expr}{env:Env} (h:noStar e=true):M_ (e::es) env=(false,eval e env)::M_ es env:=by
 cases e<;>first | rfl | cases h
theorem cV {pos:Pos}{env:Env}:∀ {es:List Expr},es.all noStar=true->(Yq pos (M_ es env)).any (·.1)=false
 | [],_=>rfl
 | e::es,h=>by
  rw[Xx,G_] at h;rw[ag h.1];show (false||(Yq pos (M_ es env)).any (·.1))=false;rw[cV h.2];rfl
theorem jY {pos:Pos}{env:Env}:∀ {es:List Expr},es.all noStar=true->(Yq pos (M_ es env)).all (fun x => !x.1)=true
 | [],_=>rfl
 | e::es,h=>by
  rw[Xx,G_] at h;rw[ag h.1];show (true&&(Yq pos (M_ es env)).all (fun x => !x.1))=true;rw[jY h.2];rfl
section
variable {K:e_}{cl:Cl}{Γ:Gm}{c ca cb cc:C}{σ:St}{H:Hp}{Q:VK}{X:Cx}{e a b:Expr}{es:List Expr}
theorem Mt:PA X [] (ta X.K cl Γ .nil):=bh.imp fun σ H Q h=>by
 obtain⟨B,ρ,M,G,R,h1,h2,h3⟩:=h;exact h3 [] [] M G H h1.self IsL.nil h2
theorem HM (ha:PE X a (tp X.K cl Γ ca)) (hr:PA X es (ta X.K cl Γ cb)) (hs:noStar a=true):PA X (a::es) (ta X.K cl Γ (.cons ca cb)):=(aE ha hr (ag hs)).imp fun σ H Q h=>by
 obtain⟨B,ρ,M,G,R,h1,h2,h3⟩:=h;exact⟨B,ρ,M,G,_,h1,h2,fun x vx M1 G1 H1 f1 i1 hx=>⟨B,ρ,M1,G1,_,h1.on f1,hx,fun ds vs M2 G2 H2 f2 i2 hd=>h3 _ _ M2 G2 H2 (f1.trans f2) (IsL.cons (i1.mono f2.g) i2) hd⟩⟩
theorem v9 {G H:Hp}{p:Addr} (s:ah G H) (h:H p=none):G p=none:=s.free h
theorem a9.cell {G H:Hp}{M:Mem}{p:Addr}{o:HO}{m:MO} (gh:ah G H) (mm:bE K cl G H M) (hp:H p=none) (hc:∀ H',H' p=some o->bX K cl G H' p m):a9 K cl none G H M G (upd H p o) (cf M p m):=by
 have gp:G p=none:=v9 gh hp
 have mp:M p=none:=by
  cases e:M p with
  | none=>rfl
  | some w=>obtain⟨u,hu⟩:=(mm p w e).2.jA;rw[hp] at hu;cases hu
 refine⟨ah.refl G,fun a u e=>ah.put hp a u (gh a u e),fun a u e=>⟨u,ah.put hp a u e⟩,fun a u e n=>absurd e (by rw[n];exact fun z=>nomatch z),fun a u e _ _=>ah.put hp a u e,fun a u e=>?_,fun a u e n=>?_,fun a u e=>?_⟩
 ·unfold cf at e;by_cases z:a=p
  ·subst z;rw[s_ rfl] at e;cases e;exact⟨gp,hc _ ay⟩
  ·rw[n_ z] at e;obtain⟨h1,h2⟩:=mm a u e;exact⟨h1,h2.mono (ah.refl G) fun w hw=>by rw[aw z];exact hw⟩
 ·unfold cf at e;by_cases z:a=p
  ·rw[z];exact hp
  ·rw[n_ z,n] at e;cases e
 ·unfold cf;by_cases z:a=p
  ·subst z;rw[mp] at e;cases e
  ·rw[n_ z];exact⟨u,e,rfl⟩
theorem E8 (h:tp K cl Γ (.fr c) σ H Q):tf K cl Γ c σ H Q:=by
 obtain⟨B,ρ,M,G,R,h1,h2,h3⟩:=h;refine⟨B,ρ,M,G,_,h1,h2,fun ds vs M' G' H' p f hp i hR=>?_⟩;have f2:=a9.lay (o:=.lst vs) f.gh f.mem hp;exact h3 (.lst ds) (.ref p) M' _ _ (f.trans f2) (by unfold Is;exact⟨p,vs,rfl,ay,i.mono f2.g⟩) hR
theorem QQ (h:PE X e (tf X.K cl Γ c)):PE X e (tp X.K cl Γ (.fr c)):=h.imp fun _ _ _=>E8
theorem Mu (h:PE X e (tf X.K cl Γ c)):PE X e (tp X.K cl Γ (.Ht c)):=h.imp fun σ H Q h=>by
 obtain⟨B,ρ,M,G,R,h1,h2,h3⟩:=h;refine⟨B,ρ,M,G,_,h1,h2,fun ds vs M' G' H' p f hp i hR=>?_⟩;have f2:=a9.cell (o:=.lst vs) (m:=.ml ds) f.gh f.mem hp fun H' e=>⟨vs,e,i⟩
 refine h3 (.jz p) (.ref p) _ _ _ (f.trans f2) (by unfold Is;rfl) (hR p ?_)
 cases e:M' p with
 | none=>rfl
 | some w=>obtain⟨u,hu⟩:=(f.mem p w e).2.jA;rw[hp] at hu;cases hu
theorem Mv {k pos} (h:PA X es (ta X.K cl Γ c)):PE X (.Tuple es k pos) (tp X.K cl Γ (.tup c)):=(GF h).imp fun σ H Q h=>by
 obtain⟨B,ρ,M,G,R,h1,h2,h3⟩:=h;refine⟨B,ρ,M,G,_,h1,h2,fun ds vs M' G' H' f i hR=>⟨by rw[←i.length];exact hR.1,fun p hp=>?_⟩⟩;have f2:=a9.lay (o:=.tup vs) f.gh f.mem hp;exact h3 (.tup ds) (.ref p) M' _ _ (f.trans f2) (by unfold Is;exact⟨p,vs,rfl,ay,i.mono f2.g⟩) hR.2
theorem Mw {pos} (h:PA X es (ta X.K cl Γ c)):PE X (.List es pos) (tf X.K cl Γ (.g7 c)):=(GG h).imp fun σ H Q h=>by
 obtain⟨B,ρ,M,G,R,h1,h2,h3⟩:=h;exact⟨B,ρ,M,G,_,h1,h2,fun ds vs M' G' H' f i hR=>⟨by rw[←i.length];exact hR.1,fun p hp=>h3 ds vs M' G' H' p f hp i hR.2⟩⟩
theorem Va {D:Dt->Mem->(List Dt->Mem->Prop)->Prop}{r:V->Hp->VK->Prop} (he:∀ ρ M R,ev Γ c ρ M R->ev Γ ca ρ M fun x M1=>av x fun x=>D x M1 R)
  (hr:∀ x v G H M (k:List Dt->Mem->Prop) (Q:VK),ah G H->bE K cl G H M->dB K cl G H x v->D x M k->(∀ ds vs M' G' H' p,a9 K cl none G H M G' H' M'->H' p=none->IsL K cl G' ds vs->k ds M'->Q (.ref p) (upd H' p (.lst vs)))->r v H Q)
  (h:tf K cl Γ c σ H Q):tq K cl Γ ca σ H fun v H1=>r v H1 Q:=by
 obtain⟨B,ρ,M,G,R,h1,h2,h3⟩:=h;exact⟨B,ρ,M,G,_,h1,he _ _ _ h2,fun d v M' G' H' f i hd=>hr d v G' H' M' _ Q f.gh f.mem i hd fun ds vs M2 G2 H2 p f2 hp i2 h4=>h3 ds vs M2 G2 H2 p (f.trans f2) hp i2 h4⟩
theorem Vb {D:Dt->Dt->Mem->(List Dt->Mem->Prop)->Prop}{r:R2} (he:∀ ρ M R,ev Γ c ρ M R->ev Γ ca ρ M fun x M1=>av x fun x=>ev Γ cb ρ M1 fun y M2=>av y fun y=>D x y M2 R)
  (hr:∀ x y vx vy G H M (k:List Dt->Mem->Prop) (Q:VK),ah G H->bE K cl G H M->dB K cl G H x vx->dB K cl G H y vy->D x y M k->(∀ ds vs M' G' H' p,a9 K cl none G H M G' H' M'->H' p=none->IsL K cl G' ds vs->k ds M'->Q (.ref p) (upd H' p (.lst vs)))->r vx vy H Q)
  (h:tf K cl Γ c σ H Q):z7 r (tr K cl Γ ca) (tq K cl Γ cb) σ H Q:=by
 obtain⟨B,ρ,M,G,R,h1,h2,h3⟩:=h;refine⟨B,ρ,M,G,_,h1,he _ _ _ h2,fun x vx M1 G1 H1 f1 i1 hx=>⟨B,ρ,M1,G1,_,h1.on f1,hx,fun y vy M2 G2 H2 f2 i2 hy=>?_⟩⟩;exact hr x y vx vy G2 H2 M2 _ Q f2.gh f2.mem (i1.b5 f2).q i2 hy fun ds vs M3 G3 H3 p f3 hp i3 h4=>h3 ds vs M3 G3 H3 p ((f1.trans f2).trans f3) hp i3 h4
theorem fj {o:l_ (List Dt)}{k:List Dt->Prop} (h:jd o k):∃ ds,o=some ds/\k ds:=by
 cases o with
 | none=>exact (show False from h).elim
 | some ds=>exact⟨ds,rfl,h⟩
theorem dC {d:Dt}{k:List Dt->Prop} (h:lstK d k):∃ ds,d=.lst ds/\k ds:=by
 cases d with
 | lst ds=>exact⟨ds,rfl,h⟩
 | _=>exact (show False from h).elim
theorem bq {d:Dt}{k:Int->Prop} (h:intD d k):∃ ds,d=.int ds/\k ds:=by
 cases d with
 | int ds=>exact⟨ds,rfl,h⟩
 | _=>exact (show False from h).elim
theorem kM {d:Dt}{k:Str->Prop} (h:nB d k):∃ ds,d=.str ds/\k ds:=by
 cases d with
 | str ds=>exact⟨ds,rfl,h⟩
 | _=>exact (show False from h).elim
theorem fS {d:Dt}{k:Bool->Prop} (h:bF d k):∃ ds,d=.bl ds/\k ds:=by
 cases d with
 | bl ds=>exact⟨ds,rfl,h⟩
 | _=>exact (show False from h).elim
theorem dB.lst {G H:Hp}{ds:List Dt}{v:V} (s:ah G H) (h:dB K cl G H (.lst ds) v):∃ a vs,v=.ref a/\H a=some (.lst vs)/\IsL K cl G ds vs:=by
 rcases h with h | ⟨a,o,rfl,ho,hc⟩
 ·unfold Is at h;obtain⟨a,vs,e,q,r⟩:=h;exact⟨a,vs,e,s _ _ q,r⟩
 ·cases ho;obtain⟨vs,h1,h2⟩:=hc;exact⟨a,vs,rfl,h1,h2⟩
section
variable {x:Str}{id T:ZK}{rr:List V->Hp->VK->Prop}{p pos:Pos}
theorem A4 {D:Dt->Mem->(Dt->Mem->Prop)->Prop} (hc:bj X (.builtin id) rr) (hg:Gl X x) (hm:X.mg x=none) (hv:X1 x=some (.builtin id)) (hn:x ≠ "__name__") (jJ:(x==("__debug__" : Str))=false) (ha:PE X a (tq X.K cl Γ ca)) (hs:noStar a=true)
  (he:∀ ρ M R,ev Γ c ρ M R->ev Γ ca ρ M fun x M1=>av x fun x=>D x M1 fun d M2=>R [d] M2)
  (hr:∀ x v G H M (k:Dt->Mem->Prop) (Q:VK),ah G H->bE X.K cl G H M->dB X.K cl G H x v->D x M k->(∀ d u M' G' H',a9 X.K cl none G H M G' H' M'->Is X.K cl G' d u->k d M'->Q u H')->rr [v] H Q):PE X (.Call (.Name x p) [a] [] pos) (tp X.K cl Γ c) :=
 (mX hc hg hm hv (aE ha bh (ag hs)) hn jJ (ag hs) rfl).imp fun σ H Q h=>Ml (r:=fun v H Q=>rr [v] H Q) he hr h
theorem rO {D:Dt->Mem->(Dt->Mem->Prop)->Prop} (hc:bj X (.type T) rr) (hg:Gl X x) (hm:X.mg x=none) (hv:X1 x=some (.type T)) (hn:x ≠ "__name__") (jJ:(x==("__debug__" : Str))=false) (ha:PE X a (tq X.K cl Γ ca)) (hs:noStar a=true)
  (he:∀ ρ M R,ev Γ c ρ M R->ev Γ ca ρ M fun x M1=>av x fun x=>D x M1 fun d M2=>R [d] M2)
  (hr:∀ x v G H M (k:Dt->Mem->Prop) (Q:VK),ah G H->bE X.K cl G H M->dB X.K cl G H x v->D x M k->(∀ d u M' G' H',a9 X.K cl none G H M G' H' M'->Is X.K cl G' d u->k d M'->Q u H')->rr [v] H Q):PE X (.Call (.Name x p) [a] [] pos) (tp X.K cl Γ c) :=
 (bQ hc hg hm hv (aE ha bh (ag hs)) hn jJ (ag hs) rfl).imp fun σ H Q h=>Ml (r:=fun v H Q=>rr [v] H Q) he hr h
theorem DQ {D:Dt->Mem->(List Dt->Mem->Prop)->Prop} (hc:bj X (.type T) rr) (hg:Gl X x) (hm:X.mg x=none) (hv:X1 x=some (.type T)) (hn:x ≠ "__name__") (jJ:(x==("__debug__" : Str))=false) (ha:PE X a (tq X.K cl Γ ca)) (hs:noStar a=true)
  (he:∀ ρ M R,ev Γ c ρ M R->ev Γ ca ρ M fun x M1=>av x fun x=>D x M1 R)
  (hr:∀ x v G H M (k:List Dt->Mem->Prop) (Q:VK),ah G H->bE X.K cl G H M->dB X.K cl G H x v->D x M k->(∀ ds vs M' G' H' p,a9 X.K cl none G H M G' H' M'->H' p=none->IsL X.K cl G' ds vs->k ds M'->Q (.ref p) (upd H' p (.lst vs)))->rr [v] H Q):PE X (.Call (.Name x p) [a] [] pos) (tf X.K cl Γ c) :=
 (bQ hc hg hm hv (aE ha bh (ag hs)) hn jJ (ag hs) rfl).imp fun σ H Q h=>Va (r:=fun v H Q=>rr [v] H Q) he hr h
theorem HN {D:Dt->Dt->Mem->(Dt->Mem->Prop)->Prop} (hc:bj X (.builtin id) rr) (hg:Gl X x) (hm:X.mg x=none) (hv:X1 x=some (.builtin id)) (hn:x ≠ "__name__") (jJ:(x==("__debug__" : Str))=false) (ha:PE X a (tr X.K cl Γ ca)) (hb:PE X b (tq X.K cl Γ cb)) (hs:noStar a=true) (qh:noStar b=true)
  (he:∀ ρ M R,ev Γ c ρ M R->ev Γ ca ρ M fun x M1=>av x fun x=>ev Γ cb ρ M1 fun y M2=>av y fun y=>D x y M2 fun d M3=>R [d] M3)
  (hr:∀ x y vx vy G H M (k:Dt->Mem->Prop) (Q:VK),ah G H->bE X.K cl G H M->dB X.K cl G H x vx->dB X.K cl G H y vy->D x y M k->(∀ d u M' G' H',a9 X.K cl none G H M G' H' M'->Is X.K cl G' d u->k d M'->Q u H')->rr [vx,vy] H Q):PE X (.Call (.Name x p) [a,b] [] pos) (tp X.K cl Γ c) :=
 (mX hc hg hm hv (aE ha (aE hb bh (ag qh)) (ag hs)) hn jJ (ag hs) (cV (by simp [qh]))).imp fun σ H Q h=>E7 (r:=fun v u H Q=>rr [v,u] H Q) he hr h
end
theorem Mx {p pos:Pos} (hg:Gl X "list") (hm:X.mg "list" = none) (ha:PE X a (tq X.K cl Γ ca)) (hs:noStar a=true):PE X (.Call (.Name "list" p) [a] [] pos) (tf X.K cl Γ (.A0 ca)) :=
 DQ (c:=.A0 ca) (D:=fun x M k=>jd (jW x) fun ds=>k ds M) (rC) hg hm Ys (by decide) (by decide) ha hs (fun _ _ _ z=>z)
  (fun x v G H M k Q s m hx hd q=>by
   obtain⟨ds,e,hk⟩:=fj hd;obtain⟨l,vs,rfl,h1,h2⟩:=hx.seq s e;exact⟨l,vs,rfl,h1,fun p hp=>q ds vs M G H p (a9.refl s m) hp h2 hk⟩)
theorem My {p pos:Pos} (hg:Gl X "len") (hm:X.mg "len" = none) (ha:PE X a (tq X.K cl Γ ca)) (hs:noStar a=true):PE X (.Call (.Name "len" p) [a] [] pos) (tp X.K cl Γ (.len ca)) :=
 A4 (c:=.len ca) (D:=fun x M k=>pz x fun n=>k (.int n) M) (rA.or rB) hg hm PySem.boot_len (by decide) (by decide) ha hs (fun _ _ _ z=>z)
  (fun x v G H M k Q s m hx hd q=>by
   have fin:∀ {ds:List Dt},jW x=some ds->k (.int ds.length) M->∃ p ys,[v]=[V.ref p]/\(cS X.K H p ys∨eC X.K H p ys)/\Q (.int ys.length) H:=fun {ds} e hk=>by
    obtain⟨l,vs,rfl,h1,h2⟩:=hx.seq s e;exact⟨l,vs,rfl,h1,q _ _ M G H (a9.refl s m) (by unfold Is;rw[h2.length]) hk⟩
   cases x with
   | str z=>have e:=hx.str;subst e;exact .inr ⟨z,rfl,hd.1,q _ _ M G H (a9.refl s m) (by unfold Is;rfl) hd.2⟩
   | lst ds=>exact .inl (fin rfl hd)
   | nA ds=>exact .inl (fin rfl hd)
   | tup ds=>exact .inl (fin rfl hd)
   | fE ds=>exact .inl (fin rfl hd)
   | rK ds=>exact .inl (fin rfl hd)
   | sZ ds=>exact .inl (fin rfl hd)
   | _=>exact (show False from hd).elim)
theorem Mz {p pos:Pos} (hg:Gl X "tuple") (hm:X.mg "tuple" = none) (ha:PE X a (tq X.K cl Γ ca)) (hs:noStar a=true):PE X (.Call (.Name "tuple" p) [a] [] pos) (tp X.K cl Γ (.zK ca)) :=
 rO (c:=.zK ca) (D:=fun x M k=>jd (iS x) fun ds=>k (.tup ds) M) (yK) hg hm ZQ (by decide) (by decide) ha hs (fun _ _ _ z=>z)
  (fun x v G H M k Q s m hx hd q=>by
   obtain⟨ds,e,hk⟩:=fj hd;obtain⟨l,vs,rfl,h1,h2⟩:=hx.CG s e;refine⟨l,vs,rfl,h1,fun p hp=>?_⟩;have f2:=a9.lay (o:=.tup vs) s m hp;exact q _ _ M _ _ f2 (by unfold Is;exact⟨p,vs,rfl,ay,h2.mono f2.g⟩) hk)
theorem MA {p pos:Pos} (hg:Gl X "tuple") (hm:X.mg "tuple" = none) (ha:PE X a (tq X.K cl Γ ca)) (hs:noStar a=true):PE X (.Call (.Name "tuple" p) [a] [] pos) (tp X.K cl Γ (.E4 ca)) :=
 rO (c:=.E4 ca) (D:=fun x M k=>jd (iS x) fun ds=>k (.fE ds) M) (yV) hg hm ZQ (by decide) (by decide) ha hs (fun _ _ _ z=>z)
  (fun x v G H M k Q s m hx hd q=>by
   obtain⟨ds,e,hk⟩:=fj hd;obtain⟨l,vs,rfl,h1,h2⟩:=hx.CG s e;refine⟨l,vs,rfl,h1,fun p o hp Vc Vd=>?_⟩;have f2:=a9.lay (o:=.du o (.tup vs)) s m hp;exact q _ _ M _ _ f2 (by unfold Is;exact⟨p,vs,rfl,⟨o,ay,Vc,Vd⟩,h2.mono f2.g⟩) hk)
theorem MB {p pos:Pos} (hc:X.calm=true) (hg:Gl X "all") (hm:X.mg "all" = none) (ha:PE X a (tq X.K cl Γ ca)) (hs:noStar a=true):PE X (.Call (.Name "all" p) [a] [] pos) (tp X.K cl Γ (.all ca)) :=
 A4 (c:=.all ca) (D:=fun x M k=>∃ bs:List Bool,x=.lst (bs.map .bl)/\k (.bl (bs.all id)) M) (Aw hc) hg hm (by decide +kernel) (by decide) (by decide) ha hs (fun _ _ _ z=>z)
  (fun x v G H M k Q s m hx hd q=>by
   obtain⟨bs,rfl,hk⟩:=hd;obtain⟨l,vs,rfl,h1,h2⟩:=hx.lst s;have e:=h2.AX;subst e;exact⟨l,bs,rfl,cS.of h1,q _ _ M G H (a9.refl s m) Is.zd hk⟩)
theorem HP {p pos:Pos} (hg:Gl X "int") (hm:X.mg "int" = none) (ha:PE X a (tq X.K cl Γ ca)) (hs:noStar a=true):PE X (.Call (.Name "int" p) [a] [] pos) (tp X.K cl Γ (.kJ ca)) :=
 rO (c:=.kJ ca) (D:=fun x M k=>bF x fun b=>k (.int (if b then 1 else 0)) M) (yx) hg hm abL (by decide) (by decide) ha hs (fun _ _ _ z=>z)
  (fun x v G H M k Q s m hx hd q=>by
   obtain⟨b,rfl,hk⟩:=fS hd;have e:=hx.bl;subst e;exact .inr ⟨b,rfl,q _ _ M G H (a9.refl s m) (by unfold Is;rfl) hk⟩)
end
end PV
namespace PV
open PySem L2 SH
section
variable {K:e_}{cl:Cl}{Γ:Gm}{c ca cb cc:C}{σ:St}{G H:Hp}{Q:VK}{X:Cx}{e a b:Expr}{es:List Expr}{pos:Pos}
mutual
theorem Is.dat (s:ah G H):∀ {d:Dt}{v:V}{p:P_},Is K cl G d v->toP d=some p->b8 K H v p
 | .az,v,p,h,e=>by unfold Is at h;unfold toP at e;cases e;subst h;exact .az
 | .bl b,v,p,h,e=>by unfold Is at h;unfold toP at e;cases e;subst h;exact .bl b
 | .int b,v,p,h,e=>by unfold Is at h;unfold toP at e;cases e;subst h;exact .int b
 | .str b,v,p,h,e=>by unfold Is at h;unfold toP at e;cases e;subst h;exact .str b
 | .lst ds,v,p,h,e=>by
  unfold Is at h;unfold toP at e;obtain⟨a,vs,rfl,q,r⟩:=h;obtain⟨ps,e1,rfl⟩:=k_.mp e;exact .lst (cS.of (s _ _ q)) (IsL.pB s r e1)
 | .nA ds,v,p,h,e=>by
  unfold Is at h;unfold toP at e;obtain⟨a,vs,rfl,q,r⟩:=h;obtain⟨ps,e1,rfl⟩:=k_.mp e;exact .lst (q.same s) (IsL.pB s r e1)
 | .tup ds,v,p,h,e=>by
  unfold Is at h;unfold toP at e;obtain⟨a,vs,rfl,q,r⟩:=h;obtain⟨ps,e1,rfl⟩:=k_.mp e;exact .tup (eC.of (s _ _ q)) (IsL.pB s r e1)
 | .fE ds,v,p,h,e=>by
  unfold Is at h;unfold toP at e;obtain⟨a,vs,rfl,q,r⟩:=h;obtain⟨ps,e1,rfl⟩:=k_.mp e;exact .tup (q.sq.same s) (IsL.pB s r e1)
 | .rK ds,v,p,h,e=>by
  unfold Is at h;unfold toP at e;obtain⟨a,vs,rfl,q,r⟩:=h;obtain⟨ps,e1,rfl⟩:=k_.mp e;exact .tup (q.same s) (IsL.pB s r e1)
 | .sZ ds,v,p,h,e=>by
  unfold Is at h;unfold toP at e;obtain⟨a,vs,rfl,q,r⟩:=h;obtain⟨ps,e1,rfl⟩:=k_.mp e;exact .tup (eC.same s (.inl q)) (IsL.pB s r e1)
 | .obj c fs ds,v,p,h,e=>by unfold toP at e;cases e
 | .CF ks,v,p,h,e=>by unfold toP at e;cases e
 | .jz a,v,p,h,e=>by unfold toP at e;cases e
theorem IsL.pB (s:ah G H):∀ {ds:List Dt}{vs:List V}{ps:List P_},IsL K cl G ds vs->toPs ds=some ps->dH K H vs ps
 | [],vs,ps,h,e=>by unfold IsL at h;unfold toPs at e;cases e;subst h;exact .nil
 | d::ds,vs,ps,h,e=>by
  unfold IsL at h;unfold toPs at e;obtain⟨v,r,rfl,h1,h2⟩:=h
  cases e1:toP d with
  | none=>rw[e1] at e;cases e
  | some p =>
   cases e2:toPs ds with
   | none=>rw[e1,e2] at e;cases e
   | some qs =>
    rw[e1,e2] at e
    cases e
    exact .cons (Is.dat s h1 e1) (IsL.pB s h2 e2)
end
theorem dB.dat {d:Dt}{v:V}{p:P_} (s:ah G H) (h:dB K cl G H d v) (e:toP d=some p):b8 K H v p:=by
 rcases h with h | ⟨a,o,rfl,ho,hc⟩
 ·exact h.dat s e
 ·cases d<;>first | (cases ho;done) | skip
  ·cases ho
   obtain⟨vs,h1,h2⟩:=hc;unfold toP at e;obtain⟨ps,e1,rfl⟩:=k_.mp e;exact .lst (cS.of h1) (h2.pB s e1)
  ·unfold toP at e;cases e
noncomputable def MC:Bool->CmpOp
 | false=>.Eq
 | true=>.NotEq
def DR (K:e_):Bool->R2
 | false=>fun x y H Q=>Sg x y H Q∨Dn K false x y H Q
 | true=>fun x y H Q=>Sh x y H Q∨Dn K true x y H Q
theorem A5 (hu:X.A.units+64<cLine):∀ ng,eD X (Xl (MC ng)) (DR X.K ng)
 | false=>Lf.or (G0 hu)
 | true=>Lg.or (G4 hu)
theorem A6 (ng:Bool) (b:Expr):XR (MC ng) b=false:=by cases ng<;>exact Ab b
theorem MD {ng:Bool}{x y:Dt}{vx vy:V}{k:Bool->Prop} (s:ah G H) (hx:dB K cl G H x vx) (hy:dB K cl G H y vy) (h:vv x y k) (q:∀ b,k b->Q (.bl (ng ^^ b)) H):DR K ng vx vy H Q:=by
 unfold vv at h
 cases e:QP x y with
 | some b =>
  rw[e] at h
  have fin:∀ {u w:V},Gq u w=true->decide (u=w)=b->DR K ng u w H Q:=fun {u w} h1 h2=>by
   cases ng with
   | false=>exact .inl ⟨h1,by rw[h2];have:=q b h;rwa [Zr] at this⟩
   | true=>exact .inl ⟨h1,by rw[h2];have:=q b h;rwa [ZG] at this⟩
  unfold QP at e;split at e
  ·cases e;have e1:=hx.int;have e2:=hy.int;subst e1 e2;exact fin rfl (by simp)
  ·cases e;have e1:=hx.str;have e2:=hy.str;subst e1 e2;exact fin rfl (by simp)
  ·cases e;have e1:=hx.bl;have e2:=hy.bl;subst e1 e2;exact fin rfl (by simp)
  ·cases e
 | none =>
  rw[e] at h;obtain⟨p,p',h1,h2,h3,h4,h5⟩:=h;have:=q _ h5
  cases ng with
  | false=>exact .inr ⟨p,p',hx.dat s h1,hy.dat s h2,h3,h4,by rwa [Zr] at this⟩
  | true=>exact .inr ⟨p,p',hx.dat s h1,hy.dat s h2,h3,h4,by rwa [ZG] at this⟩
theorem E9 {ng:Bool} (h:tp K cl Γ (.eq ng ca cb) σ H Q):z7 (DR K ng) (tr K cl Γ ca) (tq K cl Γ cb) σ H Q :=
 E7 (c:=.eq ng ca cb) (D:=fun x y M k=>vv x y fun c=>k (.bl (ng ^^ c)) M) (fun _ _ _ z=>z) (fun x y vx vy G H M k Q s m hx hy hd q=>MD s hx hy hd fun b hk=>q _ _ M G H (a9.refl s m) Is.zd hk) h
theorem s_eq {ng:Bool} (hu:X.A.units+64<cLine) (ha:PE X a (tr X.K cl Γ ca)) (hb:PE X b (tq X.K cl Γ cb)):PE X (.Compare a [MC ng] [b] pos) (tp X.K cl Γ (.eq ng ca cb)):=(mr (A5 hu ng) ha hb (A6 ng b)).imp fun _ _ _=>E9
theorem QR {ng:Bool} (hu:X.A.units+64<cLine) (ha:PE X a (tr X.K cl Γ ca)) (hb:PE X b (tq X.K cl Γ cb)):PT X (.Compare a [MC ng] [b] pos) (tt X.K cl Γ (.eq ng ca cb)):=xy (A5 hu ng) ha hb (A6 ng b) fun _ _ _=>E9
theorem HQ {op:rL} (h:tp K cl Γ (.cmp op ca cb) σ H Q):z7 (A3 op) (tr K cl Γ ca) (tq K cl Γ cb) σ H Q :=
 E7 (c:=.cmp op ca cb) (D:=fun x y M k=>g8 op x y fun c=>k (.bl c) M) (fun _ _ _ z=>z) (fun x y vx vy G H M k Q s m hx hy hd q=>rN hx hy hd fun b hk=>q _ _ M G H (a9.refl s m) Is.zd hk) h
theorem HR {op:rL} (ha:PE X a (tp X.K cl Γ ca)) (hb:PE X b (tp X.K cl Γ cb)):PT X (.Compare a [zc op] [b] pos) (tt X.K cl Γ (.cmp op ca cb)):=xy (kL op) ha.r hb.q (v8 op b) fun _ _ _=>HQ
noncomputable def Cz:Bool->CmpOp
 | false=>.In
 | true=>.NotIn
def xA (K:e_):R2:=fun x y H Q=>∃ p xs d ds,y=.ref p/\cS K H p xs/\b8 K H x d/\dH K H xs ds/\Xg d=true/\(∀ e∈ds,Xg e=true)/\Q (.bl (!ds.any fun e=>Xo e d)) H
theorem ze (hu:X.A.units+66<cLine):eD X (Xl .NotIn) (xA X.K):=by
 intro pins s σ H x y v u Q I rx ry h;obtain⟨p,xs,d,ds,rfl,hq,hd,L7,s1,s2,q⟩:=h
 cases ry
 obtain⟨as,ra⟩:=hd.reads I v rx;obtain⟨aj,r,pl,hz⟩:=I.list hq;have F2:=dH.reads I L7 s2 aj r
 classical
 let e:Value->Bool:=fun w=>if h:∃ d',(∃ bs,Reads s.heap w d' bs)/\Xg d'=true then Xo h.choose d else false
 have he:∀ w d',((∃ bs,Reads s.heap w d' bs)/\Xg d'=true)->e w=Xo d' d:=fun w d' hx=>by
  have t6:∃ d',(∃ bs,Reads s.heap w d' bs)/\Xg d'=true:=⟨d',hx⟩;show (if h:∃ d',(∃ bs,Reads s.heap w d' bs)/\Xg d'=true then Xo h.choose d else false)=_;rw[dif_pos t6];obtain⟨⟨cs,rc⟩,sc⟩:=t6.choose_spec;obtain⟨⟨bs,rb⟩,sb⟩:=hx;rw[acy _ _ _ _ _ (X4 sc) rc rb]
 refine acr e pl.isList (fun w hw=>?_) ⟨.bl _,H,I,rfl,?_⟩
 ·obtain⟨d',hx⟩:=rH F2 w (by simpa using hw);rw[he w d' hx];obtain⟨⟨bs,rb⟩,sb⟩:=hx;exact ac4 d' d X.A.in1 s w v bs as rb ra (X4 sb) (X4 s1) (abY sb (by rw[show X.A.in1.units=X.A.units+1 from rfl];omega))
 ·rw[show aj.toArray.any e=aj.any e by simp,rG F2 he];exact q
def HS (K:e_):Bool->R2
 | false=>fun x y H Q=>O2 K false x y H Q∨L6 K x y H Q
 | true=>fun x y H Q=>O2 K true x y H Q∨xA K x y H Q
theorem A7 (hu:X.A.units+66<cLine):∀ ng,eD X (Xl (Cz ng)) (HS X.K ng)
 | false=>yE.or (Hj hu)
 | true=>rz.or (ze hu)
theorem Is.flat {d:Dt}{v:V} (h:Is K cl G d v) (f:jX d=true):v=HE d/\d8 v=true:=by
 cases d<;>first | (cases f;done) | (unfold Is at h;subst h;exact⟨rfl,rfl⟩)
theorem IsL.flat:∀ {ds:List Dt}{vs:List V},IsL K cl G ds vs->ds.all jX=true->vs=ds.map HE/\vs.all d8=true
 | [],vs,h,_=>by unfold IsL at h;subst h;exact⟨rfl,rfl⟩
 | d::ds,vs,h,f=>by
  unfold IsL at h;obtain⟨v,r,rfl,h1,h2⟩:=h;rw[Xx,G_] at f;obtain⟨e1,e2⟩:=h1.flat f.1;obtain⟨e3,e4⟩:=IsL.flat h2 f.2;exact⟨by rw[p_,←e1,←e3],by rw[Xx,e2,e4];rfl⟩
theorem dB.flat {d:Dt}{v:V} (h:dB K cl G H d v) (f:jX d=true):v=HE d/\d8 v=true:=by
 rcases h with h | ⟨a,o,rfl,ho,hc⟩
 ·exact h.flat f
 ·cases d<;>first | (cases f;done) | (cases ho;done)
theorem HU {ng:Bool}{x y:Dt}{vx vy:V}{k:Bool->Prop} (s:ah G H) (hx:dB K cl G H x vx) (hy:dB K cl G H y vy) (h:y8 x y k) (q:∀ b,k b->Q (.bl (ng ^^ b)) H):HS K ng vx vy H Q:=by
 rcases h with ⟨ds,e,f1,f2,hk⟩ | ⟨ds,p,ps,e,e1,e2,h1,h2,hk⟩
 ·obtain⟨l,vs,rfl,h1,h2⟩:=hy.seq s e;obtain⟨g1,g2⟩:=hx.flat f1;obtain⟨g3,g4⟩:=h2.flat f2
  have eq:O1 vx vs=ds.any fun z=>CH z x:=by
   unfold O1;rw[g3,aby,g1];rfl
  have:=q _ hk;rw[←eq] at this
  cases ng with
  | false=>exact .inl ⟨l,vs,rfl,h1,g2,g4,by rwa [Zr] at this⟩
  | true=>exact .inl ⟨l,vs,rfl,h1,g2,g4,by rwa [ZG] at this⟩
 ·obtain⟨l,vs,rfl,g1,g2⟩:=hy.CG s e;have:=q _ hk
  cases ng with
  | false=>exact .inr ⟨l,vs,p,ps,rfl,g1,hx.dat s e1,g2.pB s e2,h1,h2,by rwa [Zr] at this⟩
  | true=>exact .inr ⟨l,vs,p,ps,rfl,g1,hx.dat s e1,g2.pB s e2,h1,h2,by rwa [ZG] at this⟩
theorem A8 {ng:Bool} (h:tp K cl Γ (.s9 ng ca cb) σ H Q):z7 (HS K ng) (tr K cl Γ ca) (tq K cl Γ cb) σ H Q :=
 E7 (c:=.s9 ng ca cb) (D:=fun x y M k=>y8 x y fun c=>k (.bl (ng ^^ c)) M) (fun _ _ _ z=>z) (fun x y vx vy G H M k Q s m hx hy hd q=>HU s hx hy hd fun b hk=>q _ _ M G H (a9.refl s m) Is.zd hk) h
noncomputable def fk:Expr->Bool
 | .Set _ _ _=>false
 | _=>true
theorem cW {op:CmpOp}{b:Expr} (h:fk b=true):XR op b=false:=by
 cases b<;>first | rfl | cases h
theorem ME {ng:Bool} (hu:X.A.units+66<cLine) (ha:PE X a (tr X.K cl Γ ca)) (hb:PE X b (tq X.K cl Γ cb)) (hs:fk b=true):PE X (.Compare a [Cz ng] [b] pos) (tp X.K cl Γ (.s9 ng ca cb)):=(mr (A7 hu ng) ha hb (cW hs)).imp fun _ _ _=>A8
theorem MF {ng:Bool} (hu:X.A.units+66<cLine) (ha:PE X a (tr X.K cl Γ ca)) (hb:PE X b (tq X.K cl Γ cb)) (hs:fk b=true):PT X (.Compare a [Cz ng] [b] pos) (tt X.K cl Γ (.s9 ng ca cb)):=xy (A7 hu ng) ha hb (cW hs) fun _ _ _=>A8
theorem A9 (h:tp K cl Γ (.ins ca cb) σ H Q):z7 (fun x y H Q=>∃ i j,x=.str i/\y=.str j/\Q (.bl (!(XX j i 0 j.length 1).isEmpty)) H) (tr K cl Γ ca) (tq K cl Γ cb) σ H Q :=
 E7 (c:=.ins ca cb) (D:=fun x y M k=>nB x fun i=>nB y fun j=>k (.bl (!(XX j i 0 j.length 1).isEmpty)) M) (fun _ _ _ z=>z) (fun x y vx vy G H M k Q s m hx hy hd q=>by
  obtain⟨i,rfl,hd2⟩:=kM hd;obtain⟨j,rfl,MG⟩:=kM hd2;exact⟨i,j,hx.str,hy.str,q _ _ M G H (a9.refl s m) Is.zd MG⟩) h
theorem MH (ha:PE X a (tp X.K cl Γ ca)) (hb:PE X b (tp X.K cl Γ cb)) (hs:fk b=true):PE X (.Compare a [.In] [b] pos) (tp X.K cl Γ (.ins ca cb)):=(mr qi ha.r hb.q (cW hs)).imp fun _ _ _=>A9
theorem MI (ha:PE X a (tp X.K cl Γ ca)) (hb:PE X b (tp X.K cl Γ cb)) (hs:fk b=true):PT X (.Compare a [.In] [b] pos) (tt X.K cl Γ (.ins ca cb)):=xy qi ha.r hb.q (cW hs) fun _ _ _=>A9
theorem Ba (h:tp K cl Γ (.ind ca cb) σ H Q):LW (tp K cl Γ ca) (tp K cl Γ cb) σ H Q:=by
 obtain⟨B,ρ,M,G,R,h1,h2,h3⟩:=h;refine⟨B,ρ,M,G,_,h1,h2,fun x vx M1 G1 H1 f1 i1 hx=>⟨B,ρ,M1,G1,_,h1.on f1,hx,fun y vy M2 G2 H2 f2 i2 hy=>?_⟩⟩;obtain⟨i,rfl,hz⟩:=bq hy
 cases y with
 | CF ks =>
  unfold Is at i1 i2;obtain⟨p,kvs,rfl,e,hk⟩:=i2;subst i1;refine⟨p,_,rfl,AF.k (k:=Y_ i) (f2.gh _ _ e),?_⟩;exact h3 _ _ M2 G2 H2 (f1.trans f2) (by unfold Is;rw[hk]) hz
 | _=>exact (show False from hz).elim
theorem MJ (hu:X.A.units+64<cLine) (ha:PE X a (tp X.K cl Γ ca)) (hb:PE X b (tp X.K cl Γ cb)) (hs:fk b=true):PE X (.Compare a [.In] [b] pos) (tp X.K cl Γ (.ind ca cb)):=(zR (AG (by omega) ha hb) (cW hs)).imp fun _ _ _=>Ba
theorem MK (hu:X.A.units+64<cLine) (ha:PE X a (tp X.K cl Γ ca)) (hb:PE X b (tp X.K cl Γ cb)) (hs:fk b=true):PT X (.Compare a [.In] [b] pos) (tt X.K cl Γ (.ind ca cb)):=(zS (AG (by omega) ha hb) (cW hs)).imp fun _ _ _ h=>Ba (uv h)
theorem Bb {o1 o2:rL} (h:tp K cl Γ (.AZ o1 o2 ca cb cc) σ H Q):vF (A3 o1) (A3 o2) (tp K cl Γ ca) (tp K cl Γ cb) (tp K cl Γ cc) σ H Q:=by
 obtain⟨B,ρ,M,G,R,h1,h2,h3⟩:=h;refine⟨B,ρ,M,G,_,h1,h2,fun x vx M1 G1 H1 f1 i1 hx=>⟨B,ρ,M1,G1,_,h1.on f1,hx,fun y vy M2 G2 H2 f2 i2 hy=>?_⟩⟩;have ML:=f1.trans f2;refine rN (.inl (i1.mono f2.g)) (.inl i2) (show g8 o1 x y (fun k=>if k=true then ev Γ cc ρ M2 fun z M3=>av z fun z=>g8 o2 y z fun k=>R [.bl k] M3 else R [.bl false] M2) from hy) fun b hb=>⟨b,rfl,?_⟩
 cases b with
 | false=>rw[n_ r_] at hb ⊢;exact h3 _ _ M2 G2 H2 ML Is.zd hb
 | true =>
  rw[s_ rfl] at hb ⊢;refine⟨B,ρ,M2,G2,_,h1.on ML,hb,fun z vz M3 G3 H3 f3 i3 hz=>rN (.inl (i2.mono f3.g)) (.inl i3) (show g8 o2 y z (fun k=>R [.bl k] M3) from hz) fun b hb=>h3 _ _ M3 G3 H3 (ML.trans f3) Is.zd hb⟩
theorem Fa {o1 o2:rL}{b c:Expr}:lastMarks [zc o1,zc o2] [b,c]=false:=v8 o2 c
theorem MM {o1 o2:rL}{c:Expr} (ha:PE X a (tp X.K cl Γ ca)) (hb:PE X b (tp X.K cl Γ cb)) (hc:PE X c (tp X.K cl Γ cc)):PE X (.Compare a [zc o1,zc o2] [b,c] pos) (tp X.K cl Γ (.AZ o1 o2 ca cb cc)):=(Ac (kL o1) (kL o2) ha hb hc Fa).imp fun _ _ _=>Bb
theorem MN {o1 o2:rL}{c:Expr} (ha:PE X a (tp X.K cl Γ ca)) (hb:PE X b (tp X.K cl Γ cb)) (hc:PE X c (tp X.K cl Γ cc)):PT X (.Compare a [zc o1,zc o2] [b,c] pos) (tt X.K cl Γ (.AZ o1 o2 ca cb cc)):=(Ad (kL o1) (kL o2) ha hb hc Fa).imp fun _ _ _ h=>Bb (uv h)
variable {rest:List Expr}
theorem Bc {op} (h:PE X a (tp X.K cl Γ ca)):PE X (.BoolOp op [a] pos) (tp X.K cl Γ (.one ca)):=(F0 h).imp fun _ _ _ h=>by obtain⟨B,ρ,M,G,R,h1,h2,h3⟩:=h;exact⟨B,ρ,M,G,R,h1,h2,h3⟩
theorem Bd (ha:PE X a (tp X.K cl Γ ca)) (hb:PE X (.BoolOp .And (b::rest) pos) (tp X.K cl Γ cb)):PE X (.BoolOp .And (a::b::rest) pos) (tp X.K cl Γ (.and ca cb)):=(F3 ha hb).imp fun σ H Q h=>by
 obtain⟨B,ρ,M,G,R,h1,h2,h3⟩:=h;refine⟨B,ρ,M,G,_,h1,h2,fun x vx M1 G1 H1 f1 i1 hx=>?_⟩;obtain⟨b,rfl,hy⟩:=fS hx;unfold Is at i1;refine⟨b,i1,?_⟩
 cases b with
 | false=>rw[n_ r_] at hy ⊢;exact h3 _ _ M1 G1 H1 f1 Is.zd hy
 | true=>rw[s_ rfl] at hy ⊢;exact⟨B,ρ,M1,G1,R,h1.on f1,hy,fun d v M2 G2 H2 f2=>h3 d v M2 G2 H2 (f1.trans f2)⟩
theorem HV (ha:PE X a (tp X.K cl Γ ca)) (hb:PE X (.BoolOp .Or (b::rest) pos) (tp X.K cl Γ cb)):PE X (.BoolOp .Or (a::b::rest) pos) (tp X.K cl Γ (.or ca cb)):=(K4 ha hb).imp fun σ H Q h=>by
 obtain⟨B,ρ,M,G,R,h1,h2,h3⟩:=h;refine⟨B,ρ,M,G,_,h1,h2,fun x vx M1 G1 H1 f1 i1 hx=>?_⟩;obtain⟨b,rfl,hy⟩:=fS hx;unfold Is at i1;refine⟨b,i1,?_⟩
 cases b with
 | true=>rw[s_ rfl] at hy ⊢;exact h3 _ _ M1 G1 H1 f1 Is.zd hy
 | false=>rw[n_ r_] at hy ⊢;exact⟨B,ρ,M1,G1,R,h1.on f1,hy,fun d v M2 G2 H2 f2=>h3 d v M2 G2 H2 (f1.trans f2)⟩
theorem Be (ha:PE X a (tp X.K cl Γ ca)):PE X (.UnaryOp .Not a pos) (tp X.K cl Γ (.not ca)):=(F4 ha).imp fun σ H Q h=>by
 obtain⟨B,ρ,M,G,R,h1,h2,h3⟩:=h;refine⟨B,ρ,M,G,_,h1,h2,fun x vx M1 G1 H1 f1 i1 hx=>?_⟩;obtain⟨b,rfl,hy⟩:=fS hx;unfold Is at i1;exact⟨b,i1,h3 _ _ M1 G1 H1 f1 Is.zd hy⟩
theorem w_and1 (ha:PT X a (tt X.K cl Γ ca)):PW X (.BoolOp .And [a] pos) (tt X.K cl Γ (.one ca)):=(CT ha).imp fun _ _ _ h=>by obtain⟨B,ρ,M,G,R,h1,h2,h3⟩:=h;exact⟨B,ρ,M,G,R,h1,h2,h3⟩
theorem w_or1 (ha:PT X a (tt X.K cl Γ ca)):PW X (.BoolOp .Or [a] pos) (tt X.K cl Γ (.one ca)):=(FW ha).imp fun _ _ _ h=>by obtain⟨B,ρ,M,G,R,h1,h2,h3⟩:=h;exact⟨B,ρ,M,G,R,h1,h2,h3⟩
theorem w_and (ha:PT X a (tt X.K cl Γ ca)) (hb:PW X (.BoolOp .And (b::rest) pos) (tt X.K cl Γ cb)):PW X (.BoolOp .And (a::b::rest) pos) (tt X.K cl Γ (.and ca cb)):=(FY ha hb).imp fun σ H Q h=>by
 obtain⟨B,ρ,M,G,k,h1,h2,h3⟩:=h;refine⟨B,ρ,M,G,fun c M1=>if c=true then ev Γ cb ρ M1 (kB k) else k false M1,h1,h2,fun c M1 G1 H1 f1 hx=>?_⟩
 cases c with
 | false=>rw[n_ r_] at hx ⊢;exact h3 _ M1 G1 H1 f1 hx
 | true=>rw[s_ rfl] at hx ⊢;exact⟨B,ρ,M1,G1,k,h1.on f1,hx,fun d M2 G2 H2 f2=>h3 d M2 G2 H2 (f1.trans f2)⟩
theorem w_or (ha:PT X a (tt X.K cl Γ ca)) (hb:PW X (.BoolOp .Or (b::rest) pos) (tt X.K cl Γ cb)):PW X (.BoolOp .Or (a::b::rest) pos) (tt X.K cl Γ (.or ca cb)):=(K0 ha hb).imp fun σ H Q h=>by
 obtain⟨B,ρ,M,G,k,h1,h2,h3⟩:=h;refine⟨B,ρ,M,G,fun c M1=>if c=true then k true M1 else ev Γ cb ρ M1 (kB k),h1,h2,fun c M1 G1 H1 f1 hx=>?_⟩
 cases c with
 | true=>rw[s_ rfl] at hx ⊢;exact h3 _ M1 G1 H1 f1 hx
 | false=>rw[n_ r_] at hx ⊢;exact⟨B,ρ,M1,G1,k,h1.on f1,hx,fun d M2 G2 H2 f2=>h3 d M2 G2 H2 (f1.trans f2)⟩
theorem MP (ha:PT X a (tt X.K cl Γ ca)):PT X (.UnaryOp .Not a pos) (tt X.K cl Γ (.not ca)):=(FZ ha).imp fun σ H Q h=>by
 obtain⟨B,ρ,M,G,k,h1,h2,h3⟩:=h;exact⟨B,ρ,M,G,fun c M1=>k (!c) M1,h1,h2,fun c M1 G1 H1 f1 hx=>h3 _ M1 G1 H1 f1 hx⟩
theorem QS (ha:PE X a (tq X.K cl Γ ca)) (he:∀ whole,abP a X.env whole=(do let v ←whole;ab6 a.pos;aaR [v] (truthy v))):PT X a (tt X.K cl Γ (.tr ca)):=(Ae ha he).imp fun σ H Q h=>by
 obtain⟨B,ρ,M,G,k,h1,h2,h3⟩:=h;refine⟨B,ρ,M,G,_,h1,h2,fun x vx M1 G1 H1 f1 i1 hx=>?_⟩
 have nil:∀ {ds:List Dt}{vs:List V},IsL X.K cl G1 ds vs->(!ds.isEmpty) = !vs.isEmpty:=fun {ds vs} i=>by
  have:=i.length
  cases ds<;>cases vs<;>first | rfl | cases this
 cases x with
 | bl b=>have e:=i1.bl;subst e;exact⟨b,rfl,h3 b M1 G1 H1 f1 hx⟩
 | int i=>have e:=i1.int;subst e;exact⟨_,rfl,h3 _ M1 G1 H1 f1 hx⟩
 | lst ds=>obtain⟨l,vs,rfl,h4,h5⟩:=i1.CG f1.gh rfl;exact⟨_,.inl ⟨vs,h4,nil h5⟩,h3 _ M1 G1 H1 f1 hx⟩
 | nA ds=>obtain⟨l,vs,rfl,h4,h5⟩:=i1.CG f1.gh rfl;exact⟨_,.inl ⟨vs,h4,nil h5⟩,h3 _ M1 G1 H1 f1 hx⟩
 | tup ds=>obtain⟨l,vs,rfl,h4,h5⟩:=i1.KA f1.gh rfl;exact⟨_,.inr (.inl ⟨vs,h4,nil h5⟩),h3 _ M1 G1 H1 f1 hx⟩
 | _=>exact (show False from hx).elim
theorem MQ {t:Expr} (ht:PT X t (tt X.K cl Γ c)) (ha:PE X a (tp X.K cl Γ ca)) (hb:PE X b (tp X.K cl Γ cb)):PE X (.IfExp t a b pos) (tp X.K cl Γ (.Hs c ca cb)):=(zT ht ha hb).imp fun σ H Q h=>by
 obtain⟨B,ρ,M,G,R,h1,h2,h3⟩:=h;refine⟨B,ρ,M,G,fun c M1=>if c=true then ev Γ ca ρ M1 R else ev Γ cb ρ M1 R,h1,h2,fun c M1 G1 H1 f1 hx=>?_⟩
 cases c with
 | true=>rw[s_ rfl] at hx ⊢;exact⟨B,ρ,M1,G1,R,h1.on f1,hx,fun d v M2 G2 H2 f2=>h3 d v M2 G2 H2 (f1.trans f2)⟩
 | false=>rw[n_ r_] at hx ⊢;exact⟨B,ρ,M1,G1,R,h1.on f1,hx,fun d v M2 G2 H2 f2=>h3 d v M2 G2 H2 (f1.trans f2)⟩
end
end PV
namespace PV
open PySem L2 SH
noncomputable def iL:Expr->Bool
 | .Slice _ _ _ _=>false
 | _=>true
theorem Bf {b:Expr} (h:iL b=true):xm b:=fun o i=>by
 cases b<;>first | rfl | cases h
noncomputable def cF:Expr->Bool
 | .Call (.Name _ _) [] [] _=>false
 | _=>true
theorem fH {e:Expr}{f:Str}{env:Env}{w:Sem Value} (h:cF e=true):YZ e f env w=w:=by
 unfold YZ;split
 ·cases h
 ·rfl
section
variable {K:e_}{cl:Cl}{Γ:Gm}{c ca cb cc:C}{σ:St}{G H:Hp}{Q:VK}{X:Cx}{e a b:Expr}{es:List Expr}{pos p:Pos}
theorem MR {x:Dt}{vx:V}{i:Int}{k:Dt->Prop} (s:ah G H) (hx:dB K cl G H x vx) (h:jB x i k) (q:∀ d v,Is K cl G d v->k d->Q v H):Qb K vx (.int i) H Q:=by
 have fin:∀ {ds:List Dt},jW x=some ds->atK ds i k->Qb K vx (.int i) H Q:=fun {ds} e ⟨d,h1,h2⟩=>by
  obtain⟨l,vs,rfl,h3,h4⟩:=hx.seq s e;obtain⟨v,h5,h6⟩:=h4.at h1;rcases h3 with h3 | h3
  ·exact .inl ⟨l,vs,i,v,rfl,rfl,h3,h5,q d v h6 h2⟩
  ·exact .inr (.inl ⟨l,vs,i,v,rfl,rfl,h3,h5,q d v h6 h2⟩)
 cases x with
 | str z =>
  have e:=hx.str;subst e;obtain⟨h1,c,h2,h3⟩:=h;exact .inr (.inr ⟨z,i,c,rfl,rfl,h1,h2,q _ _ (by unfold Is;rfl) h3⟩)
 | lst ds=>exact fin rfl h
 | nA ds=>exact fin rfl h
 | tup ds=>exact fin rfl h
 | fE ds=>exact fin rfl h
 | rK ds=>exact fin rfl h
 | sZ ds=>exact fin rfl h
 | _=>exact (show False from h).elim
theorem QT (ha:PE X a (tr X.K cl Γ ca)) (hb:PE X b (tp X.K cl Γ cb)) (hs:iL b=true):PE X (.Subscript a b pos) (tp X.K cl Γ (.ix ca cb)) :=
 (Lw GK ha hb.q (Bf hs)).imp fun σ H Q h=>E7 (c:=.ix ca cb) (D:=fun x y M k=>intD y fun i=>jB x i fun d=>k d M) (fun _ _ _ z=>z) (fun x y vx vy G H M k Q s m hx hy hd q=>by
  obtain⟨i,rfl,hd2⟩:=bq hd;have e:=hy.int;subst e;exact MR s hx hd2 fun d v i hk=>q d v M G H (a9.refl s m) i hk) h
theorem HW:PO X none (to X.K cl Γ .nil):=C7.imp fun σ H Q h=>by
 obtain⟨B,ρ,M,G,k,h1,h2,h3⟩:=h;exact h3 none M G H h1.self h2
variable {lo hi:l_ Expr}{HX ch:C}{p2:Pos}
theorem MS {r:V->l_ Int->l_ Int->Hp->VK->Prop}{D:Dt->l_ Int->l_ Int->Mem->(Dt->Mem->Prop)->Prop} (he:∀ ρ M R,ev Γ c ρ M R->ev Γ ca ρ M fun x M1=>av x fun x=>ev Γ HX ρ M1 fun l M2=>kK l fun l=>ev Γ ch ρ M2 fun h M3=>kK h fun h=>D x l h M3 fun d M4=>R [d] M4)
  (hr:∀ x v l u G H M (k:Dt->Mem->Prop) (Q:VK),ah G H->bE K cl G H M->dB K cl G H x v->D x l u M k->(∀ d v M' G' H',a9 K cl none G H M G' H' M'->Is K cl G' d v->k d M'->Q v H')->r v l u H Q)
  (h:tp K cl Γ c σ H Q):Sn r (tr K cl Γ ca) (to K cl Γ HX) (to K cl Γ ch) σ H Q:=by
 obtain⟨B,ρ,M,G,R,h1,h2,h3⟩:=h;refine⟨B,ρ,M,G,_,h1,he _ _ _ h2,fun x vx M1 G1 H1 f1 i1 hx=>⟨B,ρ,M1,G1,_,h1.on f1,hx,fun l M2 G2 H2 f2 hl=>⟨B,ρ,M2,G2,_,(h1.on f1).on f2,hl,fun u M3 G3 H3 f3 hu=>?_⟩⟩⟩;exact hr x vx l u G3 H3 M3 _ Q f3.gh f3.mem ((i1.b5 f2).b5 f3).q hu fun d v M' G' H' f4 i4 h4=>h3 d v M' G' H' (((f1.trans f2).trans f3).trans f4) i4 h4
theorem MT (ha:PE X a (tr X.K cl Γ ca)) (hl:PO X lo (to X.K cl Γ HX)) (hh:PO X hi (to X.K cl Γ ch)):PE X (.Subscript a (.Slice lo hi none p2) pos) (tp X.K cl Γ (.DL ca HX ch)) :=
 (tJ GZ ha hl hh).imp fun σ H Q h=>MS (c:=.DL ca HX ch) (D:=fun x l u M k=>nB x fun z=>z.length<=sizeLine/\k (.str (Yw z l u)) M) (fun _ _ _ z=>z) (fun x v l u G H M k Q s m hx hd q=>by
  obtain⟨z,rfl,h1,h2⟩:=kM hd;exact⟨z,hx.str,h1,q _ _ M G H (a9.refl s m) (by unfold Is;rfl) h2⟩) h
theorem MU (ha:PE X a (tr X.K cl Γ ca)) (hl:PO X lo (to X.K cl Γ HX)) (hh:PO X hi (to X.K cl Γ ch)):PE X (.Subscript a (.Slice lo hi none p2) pos) (tf X.K cl Γ (.zJ ca HX ch)) :=
 (tJ Dd ha hl hh).imp fun σ H Q h=>by
  obtain⟨B,ρ,M,G,R,h1,h2,h3⟩:=h;refine⟨B,ρ,M,G,_,h1,h2,fun x vx M1 G1 H1 f1 i1 hx=>⟨B,ρ,M1,G1,_,h1.on f1,hx,fun l M2 G2 H2 f2 hl=>⟨B,ρ,M2,G2,_,(h1.on f1).on f2,hl,fun u M3 G3 H3 f3 hu=>?_⟩⟩⟩;obtain⟨ds,e,hk⟩:=fj hu;obtain⟨t,vs,rfl,h4,h5⟩:=((i1.b5 f2).b5 f3).q.CG f3.gh e;exact⟨t,vs,rfl,h4,fun p hp=>h3 _ _ M3 G3 H3 p ((f1.trans f2).trans f3) hp (h5.cut l u) hk⟩
theorem MV (ha:PE X a (tr X.K cl Γ ca)) (hb:PE X b (tq X.K cl Γ cb)):PE X (.BinOp a .Add b pos) (tf X.K cl Γ (.cat ca cb)) :=
 (ES GP ha hb).imp fun σ H Q h=>Vb (c:=.cat ca cb) (D:=fun x y M k=>lstK x fun ds=>lstK y fun es=>ds.length+es.length<=sizeLine/\k (ds++es) M) (fun _ _ _ z=>z) (fun x y vx vy G H M k Q s m hx hy hd q=>by
  obtain⟨ds,rfl,hd2⟩:=dC hd;obtain⟨es,rfl,h1,h2⟩:=dC hd2;obtain⟨l,vs,rfl,h3,h4⟩:=hx.lst s;obtain⟨l',us,rfl,h5,h6⟩:=hy.lst s;exact⟨l,l',vs,us,rfl,rfl,h3,h5,by rw[←h4.length,←h6.length];exact h1,fun p hp=>q _ _ M G H p (a9.refl s m) hp (h4.append h6) h2⟩) h
theorem dB.obj {n:Nat}{fs:List Str}{ds:List Dt}{v:V} (s:ah G H) (h:dB K cl G H (.obj n fs ds) v):∃ a dx vs,v=.ref a/\H a=some (.ins (cl n) dx (fs.zip vs))/\fs.length=ds.length/\IsL K cl G ds vs:=by
 rcases h with h | ⟨a,o,rfl,ho,hc⟩
 ·unfold Is at h;obtain⟨a,dx,vs,e,q,l,r⟩:=h;exact⟨a,dx,vs,e,s _ _ q,l,r⟩
 ·cases ho;obtain⟨dx,vs,h1,h2,h3⟩:=hc;exact⟨a,dx,vs,rfl,h1,h2,h3⟩
theorem nD {f:Str}{d:Dt}:∀ {fs:List Str}{ds:List Dt}{vs:List V},IsL K cl G ds vs->(fs.zip ds).lookup f=some d->∃ v,(fs.zip vs).lookup f=some v/\Is K cl G d v
 | [],_,_,_,h=>by simp at h
 | g::fs,[],_,_,h=>by simp at h
 | g::fs,e::ds,vs,i,h=>by
  unfold IsL at i;obtain⟨v,r,rfl,i1,i2⟩:=i;rw[YB,Xf] at h ⊢
  cases q:f==g with
  | true=>rw[q] at h;cases h;exact⟨v,rfl,i1⟩
  | false=>rw[q] at h;exact nD i2 h
theorem MW {f:Str} (O8:∀ n f,Γ.at_ n f=true->tF X.K (cl n)/\dF X.K (cl n) f) (ha:PE X a (tq X.K cl Γ ca)) (hb:cF a=true):PE X (.Attribute a f pos) (tp X.K cl Γ (.fld ca f)) :=
 (Gz ha (fH hb)).imp fun σ H Q h=>Ml (c:=.fld ca f) (r:=fun x H1 Q=>∃ a C dx fs v,x=.ref a/\H1 a=some (.ins C dx fs)/\tF X.K C/\dF X.K C f/\fs.lookup f=some v/\Q v H1) (D:=fun x M k=>d5 Γ f x fun d=>k d M) (fun _ _ _ z=>z) (fun x v G H M k Q s m hx hd q=>by
  cases x with
  | obj n fs ds =>
   obtain⟨h1,d,h2,h3⟩:=hd;obtain⟨a,dx,vs,rfl,h4,h5,h6⟩:=hx.obj s;obtain⟨v,h7,h8⟩:=nD h6 h2;exact⟨a,_,dx,_,v,rfl,h4,(O8 n f h1).1,(O8 n f h1).2,h7,q d v M G H (a9.refl s m) h8 h3⟩
  | _=>exact (show False from hd).elim) h
noncomputable def CJ:Nat->ZK
 | 0 => "int" | 1 => "bool" | 2 => "str" | 3 => "list" | 4 => "tuple" | _ => "NoneType"
theorem HY {n t:Nat} (hn:n<6) (ht:t<5):ZW K (.type (CJ n)) (.type (CJ t))=some (n==t||(n==1&&t==0)):=by
 have h:∀ n<6,∀ t<5,ZW K (.type (CJ n)) (.type (CJ t))=some (n==t||(n==1&&t==0)):=by
  intro n hn t ht
  match n,hn with
  | 0,_=>match t,ht with | 0,_=>kernel_rfl | 1,_=>kernel_rfl | 2,_=>kernel_rfl | 3,_=>kernel_rfl | 4,_=>kernel_rfl
  | 1,_=>match t,ht with | 0,_=>kernel_rfl | 1,_=>kernel_rfl | 2,_=>kernel_rfl | 3,_=>kernel_rfl | 4,_=>kernel_rfl
  | 2,_=>match t,ht with | 0,_=>kernel_rfl | 1,_=>kernel_rfl | 2,_=>kernel_rfl | 3,_=>kernel_rfl | 4,_=>kernel_rfl
  | 3,_=>match t,ht with | 0,_=>kernel_rfl | 1,_=>kernel_rfl | 2,_=>kernel_rfl | 3,_=>kernel_rfl | 4,_=>kernel_rfl
  | 4,_=>match t,ht with | 0,_=>kernel_rfl | 1,_=>kernel_rfl | 2,_=>kernel_rfl | 3,_=>kernel_rfl | 4,_=>kernel_rfl
  | 5,_=>match t,ht with | 0,_=>kernel_rfl | 1,_=>kernel_rfl | 2,_=>kernel_rfl | 3,_=>kernel_rfl | 4,_=>kernel_rfl
 exact h n hn t ht
theorem HZ {x:Dt}{v:V}{n:Nat} (s:ah G H) (hx:dB K cl G H x v) (e:isiN x=some n):n<6/\i7 K H v (.type (CJ n)):=by
 cases x<;>first | (cases e;done) | skip
 ·cases e;have:=hx.az;subst this;exact⟨by decide,.az⟩
 ·cases e;have:=hx.bl;subst this;exact⟨by decide,.bl _⟩
 ·cases e;have:=hx.int;subst this;exact⟨by decide,.int _⟩
 ·cases e;have:=hx.str;subst this;exact⟨by decide,.str _⟩
 ·cases e;obtain⟨a,vs,rfl,h1,_⟩:=hx.lst s;exact⟨by decide,.lst h1⟩
 ·cases e
  rcases hx with h | ⟨a,o,rfl,ho,hc⟩
  ·unfold Is at h;obtain⟨a,vs,rfl,q,_⟩:=h;exact⟨by decide,.tup (s _ _ q)⟩
  ·cases ho
theorem DS {t:Nat} (ht:t<5) {x:Str} (hx:x=YS (CJ t)):X1 x=some (.type (CJ t))/\x ≠ "__name__" /\ (x==("__debug__" : Str))=false:=by
 subst hx
 match t,ht with
 | 0,_=>exact⟨abL,by decide,by decide⟩
 | 1,_=>exact⟨PyProof.Rows.boot_bool,by decide,by decide⟩
 | 2,_=>exact⟨PyProof.Rows.boot_str,by decide,by decide⟩
 | 3,_=>exact⟨Ys,by decide,by decide⟩
 | 4,_=>exact⟨ZQ,by decide,by decide⟩
theorem MX {t:Nat}{x:Str}{px:Pos} (ht:t<5) (hx:x=YS (CJ t)) (hg:Gl X "isinstance") (hm:X.mg "isinstance" = none) (xB:Gl X x) (xC:X.mg x=none) (ha:PE X a (tq X.K cl Γ ca)) (hs:noStar a=true) :
  PE X (.Call (.Name "isinstance" p) [a,.Name x px] [] pos) (tp X.K cl Γ (.xx ca t)):=by
 obtain⟨b1,b2,b3⟩:=DS ht hx
 refine (mX yJ hg hm PyProof.Rows.boot_isinstance (aE ha (aE (LN xB xC b1 b2 b3) bh) (ag hs)) (by decide) (by decide) (ag hs) rfl).imp fun σ H Q h =>
  Ml (c:=.xx ca t) (r:=fun v H Q=>∃ x n ty b,[v,V.ty (CJ t)]=[x,.ty n]/\i7 X.K H x ty/\ZW X.K ty (.type n)=some b/\Q (.bl b) H) (D:=fun x M k=>isiD t x fun c=>k (.bl c) M) (fun _ _ _ z=>z) (fun x v G H M k Q s m hx hd q=>by
   unfold isiD at hd
   cases e:isiN x with
   | none=>rw[e] at hd;exact hd.elim
   | some n =>
    rw[e] at hd;obtain⟨h1,h2⟩:=HZ s hx e;exact⟨v,_,_,_,rfl,h2,HY h1 ht,q _ _ M G H (a9.refl s m) Is.zd hd⟩) h
theorem H9 (hc:X.calm=true) (hg:Gl X "min") (hm:X.mg "min" = none) (ha:PE X a (tp X.K cl Γ ca)) (hb:PE X b (tp X.K cl Γ cb)) (hs:noStar a=true) (qh:noStar b=true):PE X (.Call (.Name "min" p) [a,b] [] pos) (tp X.K cl Γ (.min2 ca cb)) :=
 HN (c:=.min2 ca cb) (D:=fun x y M k=>intD x fun i=>intD y fun j=>k (.int (if j<i then j else i)) M) (yw hc) hg hm (by decide +kernel) (by decide) (by decide) ha.r hb.q hs qh (fun _ _ _ z=>z) (fun x y vx vy G H M k Q s m hx hy hd q=>by
  obtain⟨i,rfl,hd2⟩:=bq hd;obtain⟨j,rfl,MG⟩:=bq hd2;have e1:=hx.int;have e2:=hy.int;subst e1 e2;exact⟨i,j,rfl,q _ _ M G H (a9.refl s m) (by unfold Is;rfl) MG⟩)
theorem MY (hc:X.calm=true) (hg:Gl X "dict") (hm:X.mg "dict" = none) (ha:PE X a (tq X.K cl Γ ca)) (hs:noStar a=true):PE X (.Call (.Name "dict" p) [a] [] pos) (tp X.K cl Γ (.yL ca)) :=
 rO (c:=.yL ca) (D:=fun x M k=>∃ ks:List Int,x=.lst (ks.map fun k=>.tup [.int k,.bl true])/\ks.length<=900/\k (.CF ks) M) (nb hc) hg hm abz (by decide) (by decide) ha hs (fun _ _ _ z=>z) (fun x v G H M k Q s m hx hd q=>by
  obtain⟨ks,rfl,h1,h2⟩:=hd;obtain⟨l,vs,rfl,h3,h4⟩:=hx.lst s;have hl:=h4.length;rw[a_] at hl;refine⟨l,vs,ks.map fun k=>(Y_ k,.bl true),rfl,cS.of h3,by rw[a_,hl],by rw[a_];exact h1,fun j y pr hy Hb=>?_,fun d hd=>?_⟩
  ·obtain⟨dd,h5,h6⟩:=h4.get' hy;rw[f_] at h5 Hb;obtain⟨k1,e1,rfl⟩:=k_.mp h5;obtain⟨k2,e2,rfl⟩:=k_.mp Hb;rw[e1] at e2;cases e2;unfold Is at h6;obtain⟨t,us,rfl,h7,h8⟩:=h6;unfold IsL at h8;obtain⟨u1,r1,rfl,g1,h8⟩:=h8;unfold IsL at h8;obtain⟨u2,r2,rfl,g2,h8⟩:=h8;unfold IsL at h8;unfold Is at g1 g2;subst h8 g1 g2;exact⟨t,rfl,s _ _ h7⟩
  ·have f2:=a9.lay (o:=.dK ((ks.map fun k=>((Y_ k:Key),V.bl true)).foldl (fun a p=>putK a p.1 p.2) [])) s m hd;exact q _ _ M _ _ f2 (by unfold Is;exact⟨d,_,rfl,ay,fun j=>by rw[AK];simp [dv]⟩) h2)
end
end PV
namespace PV
open PySem L2 SH
section
variable {K:e_}{cl:Cl}{Γ:Gm}{c ca cb cc:C}{σ:St}{G H:Hp}{Q:VK}{X:Cx}{e a b tg:Expr}{es:List Expr}{pos p:Pos}
theorem zf {d:Dt}{k:List Dt->Prop} (h:DO d k):∃ ds,d=.fE ds/\k ds:=by
 cases d with
 | fE ds=>exact⟨ds,rfl,h⟩
 | _=>exact (show False from h).elim
theorem MZ {apos:Pos} (ha:PE X a (tp X.K cl Γ ca)) (hb:PE X b (tp X.K cl Γ cb)) (m4:cF a=true) (hs:noStar b=true) (bK:(apos.endLine==pos.line)=true):PE X (.Call (.Attribute a "count" apos) [b] [] pos) (tp X.K cl Γ (.cnt ca cb)) :=
 (yW ha (aE hb bh (ag hs)) (fH m4) (by rw[jY (by simp [hs])];rfl) bK (ag hs) rfl).imp fun σ H Q h=>by
  obtain⟨B,ρ,M,G,R,h1,h2,h3⟩:=h;refine⟨B,ρ,M,G,_,h1,h2,fun x vx M1 G1 H1 f1 i1 hx=>?_⟩;obtain⟨ds,rfl,hy⟩:=zf hx;unfold Is at i1;obtain⟨t,vs,rfl,h4,h5⟩:=i1;refine⟨t,vs,rfl,h4.same f1.gh,B,ρ,M1,G1,_,h1.on f1,hy,fun y vy M2 G2 H2 f2 i2 hz=>?_⟩;obtain⟨g1,g2,g3⟩:=hz;obtain⟨e1,e2⟩:=i2.flat g1;obtain⟨e3,e4⟩:=h5.flat g2;refine⟨t,vs,vy,rfl,rfl,(h4.same (f2.g.trans f2.gh)).sq,e2,e4,?_⟩;refine h3 _ _ M2 G2 H2 (f1.trans f2) ?_ g3;unfold Is;rw[e3,adj,e1];rfl
theorem rP {lo hi:Int}{M:Mem} (s:ah G H) (m:bE K cl G H M) {r:Addr} (hr:H r=none):a9 K cl none G H M (upd G r (.yl lo hi)) (upd H r (.yl lo hi)) M:=a9.lay s m hr
theorem Bg {lo:Int}{n:Nat}:IsL K cl G (bv lo n) (((Xa n).map fun i:Nat=>lo+(i:Int)).map V.int):=by
 have e:bv lo n=((Xa n).map fun i:Nat=>lo+(i:Int)).map Dt.int:=by unfold bv;rw[C_];rfl
 rw[e];exact IsL.ints _
theorem M0 {p2 rQ:Pos} (hc:X.calm=true) (hg:Gl X "list") (hm:X.mg "list" = none) (xB:Gl X "range") (xC:X.mg "range" = none) (ha:PE X a (tp X.K cl Γ ca)) (hb:PE X b (tp X.K cl Γ cb)) (hs:noStar a=true) (qh:noStar b=true) :
  PE X (.Call (.Name "list" p) [.Call (.Name "range" p2) [a,b] [] rQ] [] pos) (tf X.K cl Γ (.Hv ca cb)) :=
 (bQ (nj hc) hg hm Ys (aE (bQ rF xB xC Y2 (aE ha (aE hb bh (ag qh)) (ag hs)) (by decide) (by decide) (ag hs) (cV (by simp [qh]))) bh) (by decide) (by decide)).imp fun σ H Q h=>by
  obtain⟨B,ρ,M,G,R,h1,h2,h3⟩:=h;refine⟨B,ρ,M,G,_,h1,h2,fun x vx M1 G1 H1 f1 i1 hx=>⟨B,ρ,M1,G1,_,h1.on f1,hx,fun y vy M2 G2 H2 f2 i2 hy=>?_⟩⟩;obtain⟨i,rfl,QU⟩:=bq hy;obtain⟨j,rfl,g1,g2,g3,g4⟩:=bq QU;unfold Is at i1 i2;subst i1 i2;have ML:=f1.trans f2;refine⟨i,j,rfl,fun r hr=>⟨r,i,j,rfl,ay,⟨g1.1,g1.2,g2.1,g2.2⟩,g3,fun l hl=>?_⟩⟩;have f3:=rP (lo:=i) (hi:=j) f2.gh f2.mem hr;exact h3 _ _ M2 _ _ l (ML.trans f3) hl Bg g4
theorem M5 {p2 rQ:Pos} (hc:X.calm=true) (hg:Gl X "list") (hm:X.mg "list" = none) (xB:Gl X "range") (xC:X.mg "range" = none) (ha:PE X a (tp X.K cl Γ ca)) (hs:noStar a=true) :
  PE X (.Call (.Name "list" p) [.Call (.Name "range" p2) [a] [] rQ] [] pos) (tf X.K cl Γ (.E3 ca)) :=
 (bQ (nj hc) hg hm Ys (aE (bQ jR xB xC Y2 (aE ha bh (ag hs)) (by decide) (by decide) (ag hs) rfl) bh) (by decide) (by decide)).imp fun σ H Q h=>by
  obtain⟨B,ρ,M,G,R,h1,h2,h3⟩:=h;refine⟨B,ρ,M,G,_,h1,h2,fun x vx M1 G1 H1 f1 i1 hx=>?_⟩;obtain⟨j,rfl,g2,g3,g4⟩:=bq hx;unfold Is at i1;subst i1;have e:(j-0:Int)=j:=by omega
  refine⟨j,rfl,fun r hr=>⟨r,0,j,rfl,ay,⟨by omega,by omega,g2.1,g2.2⟩,by rw[e];exact g3,fun l hl=>?_⟩⟩;have f3:=rP (lo:=0) (hi:=j) f1.gh f1.mem hr;rw[e];exact h3 _ _ M1 _ _ l (f1.trans f3) hl Bg g4
theorem DT {a:Addr}{ds:List Dt}{vs:List V} (h:cS K G a vs) (i:IsL K cl G ds vs):uu K cl (OZ K a) ds G:=fun n G' H M s1 s2 m=>by
 have hq:cS K H a vs:=h.same (s1.trans s2);have hl:=i.length;refine⟨fun hn=>⟨⟨vs,vs[n]'(by omega),hq,by simp⟩,fun x H' y=>?_⟩,fun hn=>⟨vs,hq,by omega⟩⟩;obtain⟨rfl,y⟩:=y;obtain⟨d,e1,e2⟩:=i.get' (y vs hq);exact⟨d,G',e1,e2.mono s1,a9.refl s2 m⟩
theorem Ia {a:Addr}{ds:List Dt}{vs:List V} (h:eC K G a vs) (i:IsL K cl G ds vs):uu K cl (O0 K a) ds G:=fun n G' H M s1 s2 m=>by
 have hq:eC K H a vs:=h.same (s1.trans s2);have hl:=i.length;refine⟨fun hn=>⟨⟨vs,vs[n]'(by omega),hq,by simp⟩,fun x H' y=>?_⟩,fun hn=>⟨vs,hq,by omega⟩⟩;obtain⟨rfl,y⟩:=y;obtain⟨d,e1,e2⟩:=i.get' (y vs hq);exact⟨d,G',e1,e2.mono s1,a9.refl s2 m⟩
theorem Ib {z:Str}:uu K cl (Qn z) (rM z) G:=fun n G' H M s1 s2 m=>by
 have hl:(rM z).length=z.cps.size:=by unfold rM;simp
 refine⟨fun hn=>⟨show n<z.cps.size by omega,fun x H' y=>?_⟩,fun hn=>show n=z.cps.size by omega⟩;obtain⟨rfl,ch,e,rfl⟩:=y;refine⟨.str ⟨#[ch]⟩,G',?_,by unfold Is;rfl,a9.refl s2 m⟩;unfold rM;rw[f_,Array.getElem?_toList,e];rfl
theorem Bh {lo:Int}{n:Nat}:uu K cl (La lo n) (bv lo n) G:=fun i G' H M s1 s2 m=>by
 rw[ai];refine⟨fun hn=>⟨hn,fun x H' y=>?_⟩,fun hn=>show n<=i by omega⟩;obtain⟨rfl,rfl⟩:=y;refine⟨.int (lo+i),G',?_,by unfold Is;rfl,a9.refl s2 m⟩;unfold bv;rw[f_,XO hn];rfl
def DU (K:e_) (tl:TE):TI:=fun σ H R=>tl σ H fun x H1=>(∃ a xs,x=.ref a/\cS K H1 a xs/\R (OZ K a) H1)∨(∃ a xs,x=.ref a/\eC K H1 a xs/\R (O0 K a) H1)∨∃ z,x=.str z/\R (Qn z) H1
open PySem.Spec PyProof.Rows in
theorem Ic {tl:TE} (hl:PE X a tl):PI X tg a (DU X.K tl):=by
 intro pins s σ H R I h;refine aZ (hl pins s σ H _ I h) fun v s1 ⟨x,H1,I1,r1,q1⟩=>?_
 have leaf:∀ {tl':TE}{wi:TI},(∀ b,b=s1.heap.objs.size->lP X pins H1 b):=fun {_ _} b e=>by subst e;exact I1.yp (t_ _) (I1.aY.fresh (t_ _))
 rcases q1 with ⟨l,xs,rfl,hq,q⟩ | ⟨l,xs,rfl,hq,q⟩ | ⟨z,rfl,q⟩
 ·cases r1
  obtain⟨aj,rv,p,hz⟩:=I1.list hq;refine Z0 p.isList ?_;exact⟨s1.heap.objs.size,[s1.heap.objs.size],_,_,H1,rfl,I1.kept (t':=s1.toks) fun b o e=>o_ _ e,yq l _,⟨_,A_ _ rfl,rfl,rfl⟩,fun b hb=>leaf (tl':=tl) (wi:=DU X.K tl) b (by simpa using hb),q⟩
 ·cases r1
  obtain⟨aj,rv,p,hz⟩:=I1.tuple hq;refine aaK (show s1.heap.IsTuple l aj.toArray from p) ?_;exact⟨s1.heap.objs.size,[s1.heap.objs.size],_,_,H1,rfl,I1.kept (t':=s1.toks) fun b o e=>o_ _ e,vB l _,⟨_,A_ _ rfl,rfl,rfl⟩,fun b hb=>leaf (tl':=tl) (wi:=DU X.K tl) b (by simpa using hb),q⟩
 ·obtain⟨t,rfl⟩:=r1;refine wpAny_pyIter_strU ?_;exact⟨s1.heap.objs.size,[s1.heap.objs.size],_,_,H1,rfl,I1.kept (t':=s1.toks) fun b o e=>o_ _ e,Ar _ z t,⟨_,A_ _ rfl,rfl,rfl⟩,fun b hb=>leaf (tl':=tl) (wi:=DU X.K tl) b (by simpa using hb),q⟩
theorem M6 (ha:PE X a (tp X.K cl Γ ca)):PI X tg a (zN X.K cl Γ (.cR ca)):=(Ic ha).imp fun σ H R h=>by
 obtain⟨B,ρ,M,G,R',h1,h2,h3⟩:=h;refine⟨B,ρ,M,G,_,h1,h2,fun x vx M1 G1 H1 f1 i1 hx=>?_⟩
 have fl:∀ {ds:List Dt},iS x=some ds->R' ds M1->∃ a xs,vx=.ref a/\cS X.K H1 a xs/\R (OZ X.K a) H1:=fun {ds} e hr=>by
  obtain⟨l,vs,rfl,q1,q2⟩:=i1.CG e;exact⟨l,vs,rfl,q1.same f1.gh,h3 ds M1 G1 H1 _ f1 (DT q1 q2) hr⟩
 have ft:∀ {ds:List Dt},pq x=some ds->R' ds M1->∃ a xs,vx=.ref a/\eC X.K H1 a xs/\R (O0 X.K a) H1:=fun {ds} e hr=>by
  obtain⟨l,vs,rfl,q1,q2⟩:=i1.KA e;exact⟨l,vs,rfl,q1.same f1.gh,h3 ds M1 G1 H1 _ f1 (Ia q1 q2) hr⟩
 cases x with
 | str z=>unfold Is at i1;exact .inr (.inr ⟨z,i1,h3 _ M1 G1 H1 _ f1 Ib hx⟩)
 | lst ds=>exact .inl (fl rfl hx)
 | nA ds=>exact .inl (fl rfl hx)
 | tup ds=>exact .inr (.inl (ft rfl hx))
 | fE ds=>exact .inr (.inl (ft rfl hx))
 | rK ds=>exact .inr (.inl (ft rfl hx))
 | sZ ds=>exact .inr (.inl (ft rfl hx))
 | _=>exact (show False from hx).elim
theorem lF (hs:noStar a=true) {env:Env}:M_ [a] env=[(false,eval a env)]:=ag hs
theorem M7 (hg:Gl X "range") (hm:X.mg "range" = none) (ha:PE X a (tp X.K cl Γ ca)) (hs:noStar a=true):PI X tg (.Call (.Name "range" p) [a] [] pos) (zN X.K cl Γ (.kq ca)):=(yr hg hm (aE ha bh (ag hs)) (lF hs)).imp fun σ H R h=>by
 obtain⟨B,ρ,M,G,R',h1,h2,h3⟩:=h;refine⟨B,ρ,M,G,_,h1,h2,fun x vx M1 G1 H1 f1 i1 hx=>?_⟩;obtain⟨j,rfl,g1,g2⟩:=bq hx;unfold Is at i1;subst i1;exact⟨j,rfl,g1.1,g1.2,h3 _ M1 G1 H1 _ f1 Bh g2⟩
theorem M8 (hg:Gl X "range") (hm:X.mg "range" = none) (ha:PE X a (tp X.K cl Γ ca)) (hb:PE X b (tp X.K cl Γ cb)) (hs:noStar a=true) (qh:noStar b=true):PI X tg (.Call (.Name "range" p) [a,b] [] pos) (zN X.K cl Γ (.Hy ca cb)) :=
 (yt hg hm (aE ha (aE hb bh (ag qh)) (ag hs)) (by rw[ag hs,lF qh]) (lF qh)).imp fun σ H R h=>by
 obtain⟨B,ρ,M,G,R',h1,h2,h3⟩:=h;refine⟨B,ρ,M,G,_,h1,h2,fun x vx M1 G1 H1 f1 i1 hx=>⟨B,ρ,M1,G1,_,h1.on f1,hx,fun y vy M2 G2 H2 f2 i2 hy=>?_⟩⟩;obtain⟨i,rfl,QU⟩:=bq hy;obtain⟨j,rfl,g1,g2,g3⟩:=bq QU;unfold Is at i1 i2;subst i1 i2;exact⟨i,j,rfl,⟨g1.1,g1.2,g2.1,g2.2⟩,h3 _ M2 G2 H2 _ (f1.trans f2) Bh g3⟩
theorem Bi (kvs:List (Key×V)) (z:Str) (v:V) (zs:List Str) (h:kvs.map (·.1)=zs.map YN):(putK kvs (YN z) v).map (·.1)=(hV zs z).map YN:=by
 unfold putK hV
 have M9:(kvs.any fun kv=>decide (kv.1=YN z))=true↔z∈zs:=by
  rw[aaf];constructor
  ·rintro⟨kv,h1,h2⟩;have h3:kv.1∈kvs.map (·.1):=m_.mpr ⟨kv,h1,rfl⟩;rw[h,of_decide_eq_true h2] at h3;obtain⟨y,hy,e⟩:=m_.mp h3
   cases e
   exact hy
  ·intro hz;have h3:(YN z:Key)∈kvs.map (·.1):=by rw[h];exact m_.mpr ⟨z,hz,rfl⟩
   obtain⟨kv,h1,h2⟩:=m_.mp h3;exact⟨kv,h1,c_ h2⟩
 by_cases hz:z∈zs
 ·rw[s_ (M9.mpr hz),s_ hz,←h,C_];apply W_;intro kv _;show (if kv.1=YN z then (kv.1,v) else kv).1=kv.1;split<;>rfl
 ·rw[n_ (fun q=>hz (M9.mp q)),n_ hz,E_,E_,h];rfl
theorem qC (v:V):∀ (zs:List Str) (kvs:List (Key×V)) (ys:List Str),kvs.map (·.1)=ys.map YN->((zs.map fun z=>((YN z:Key),v)).foldl (fun a p=>putK a p.1 p.2) kvs).map (·.1)=(zs.foldl hV ys).map YN
 | [],_,_,h=>h
 | z::zs,kvs,ys,h=>qC v zs _ _ (Bi kvs z v ys h)
theorem uw (zs:List Str) (v:V):(((zs.map fun z=>((YN z:Key),v)).foldl (fun a p=>putK a p.1 p.2) []).map fun kv=>kV kv.1)=(bf zs).map V.str:=by
 have h:=qC v zs [] [] rfl;have e:(fun kv:Key×V=>kV kv.1)=kV ∘ (fun kv=>kv.1):=rfl;rw[e,←C_,h,C_];rfl
theorem IsL.strs:∀ (zs:List Str),IsL K cl G (zs.map Dt.str) (zs.map V.str)
 | []=>IsL.nil
 | z::zs=>IsL.cons (by unfold Is;rfl) (IsL.strs zs)
theorem Na {p2 rQ:Pos} (hc:X.calm=true) (hg:Gl X "list") (hm:X.mg "list" = none) (xB:Gl X "dict") (xC:X.mg "dict" = none) (ha:PE X a (tp X.K cl Γ ca)) (hs:noStar a=true) :
  PE X (.Call (.Name "list" p) [.Call (.Name "dict" p2) [a] [] rQ] [] pos) (tf X.K cl Γ (.Hw ca)) :=
 (bQ (v5 hc) hg hm Ys (aE (bQ (nb hc) xB xC abz (aE ha bh (ag hs)) (by decide) (by decide) (ag hs) rfl) bh) (by decide) (by decide)).imp fun σ H Q h=>by
  obtain⟨B,ρ,M,G,R,h1,h2,h3⟩:=h;refine⟨B,ρ,M,G,_,h1,h2,fun x vx M1 G1 H1 f1 i1 hx=>?_⟩;obtain⟨zs,rfl,hz,hr⟩:=hx;unfold Is at i1;obtain⟨l,vs,rfl,e,il⟩:=i1;have hl:=il.length;rw[a_] at hl;refine⟨l,vs,zs.map fun z=>(YN z,.bl true),rfl,cS.of (f1.gh _ _ e),by rw[a_,hl],by rw[a_];exact hz,fun j y pr hy Hb=>?_,fun d hd=>⟨d,_,rfl,ay,fun l2 Dh=>?_⟩⟩
  ·obtain⟨dd,h5,h6⟩:=il.get' hy;rw[f_] at h5 Hb;obtain⟨k1,e1,rfl⟩:=k_.mp h5;obtain⟨k2,e2,rfl⟩:=k_.mp Hb;rw[e1] at e2;cases e2;unfold Is at h6;obtain⟨t,us,rfl,h7,h8⟩:=h6;unfold IsL at h8;obtain⟨u1,r1,rfl,g1,h8⟩:=h8;unfold IsL at h8;obtain⟨u2,r2,rfl,g2,h8⟩:=h8;unfold IsL at h8;unfold Is at g1 g2;subst h8 g1 g2;exact⟨t,rfl,f1.gh _ _ h7⟩
  ·rw[uw];exact h3 _ _ M1 _ _ l2 (f1.trans (a9.lay f1.gh f1.mem hd)) Dh (IsL.strs _) hr
theorem Nb {p2 rQ:Pos} (hc:X.calm=true) (hg:Gl X "len") (hm:X.mg "len" = none) (xB:Gl X "set") (xC:X.mg "set" = none) (ha:PE X a (tp X.K cl Γ ca)) (hs:noStar a=true) :
  PE X (.Call (.Name "len" p) [.Call (.Name "set" p2) [a] [] rQ] [] pos) (tp X.K cl Γ (.HB ca)):=(y0 hc hg hm xB xC ha (lF hs)).imp fun σ H Q h=>by
  obtain⟨B,ρ,M,G,R,h1,h2,h3⟩:=h;refine⟨B,ρ,M,G,_,h1,h2,fun x vx M1 G1 H1 f1 i1 hx=>?_⟩;obtain⟨zs,rfl,hz,hr⟩:=hx;unfold Is at i1;obtain⟨l,vs,rfl,e,il⟩:=i1
  cases IsL.xu il
  exact⟨l,zs,rfl,cS.of (f1.gh _ _ e),hz,h3 _ _ M1 G1 H1 f1 (by unfold Is;rfl) hr⟩
theorem Ie {n:Nat}{k:Int}:uu K cl (Az 0 k n) ((Xa n).map fun i:Nat=>.int (i*k)) G:=fun i G' H M s1 s2 m=>by
 rw[a_,H_];refine⟨fun hn=>⟨hn,fun x H' y=>?_⟩,fun hn=>show n<=i by omega⟩;obtain⟨rfl,rfl⟩:=y;refine⟨.int (0+i*k),G',?_,by unfold Is;rfl,a9.refl s2 m⟩;rw[f_,XO hn,Xd];rfl
theorem Nc {d:Expr} (hg:Gl X "range") (hm:X.mg "range" = none) (ha:PA X [a,b,d] (ta X.K cl Γ ca)) (hs:[a,b,d].all noStar=true):PI X tg (.Call (.Name "range" p) [a,b,d] [] pos) (zN X.K cl Γ (.Hz ca)):=by
 simp only[Xx,abA,Y1,G_] at hs;refine (v7 hg hm ha (by rw[ag hs.1,ag hs.2.1,lF hs.2.2]) (by rw[ag hs.2.1,lF hs.2.2]) (lF hs.2.2)).imp fun σ H R h=>?_
 obtain⟨B,ρ,M,G,R',h1,h2,h3⟩:=h;refine⟨B,ρ,M,G,_,h1,h2,fun ds vs M' G' H' f i hk=>?_⟩;obtain⟨j,k,rfl,b,q⟩:=hk;have e:vs=[.int 0,.int j,.int k]:=IsL.xt (ns:=[0,j,k]) i;subst e;exact⟨j,k,rfl,b,fun n hn=>h3 _ M' G' H' _ f Ie (q n hn)⟩
theorem Ig {n:Nat}:uu K cl (Az ((n:Int)-1) (-1) n) (bv 0 n).reverse G:=fun i G' H M s1 s2 m=>by
 rw[aaw,ai];refine⟨fun hn=>⟨hn,fun x H' y=>?_⟩,fun hn=>show n<=i by omega⟩;obtain⟨rfl,rfl⟩:=y;refine⟨.int ((n:Int)-1+i * -1),G',?_,by unfold Is;rfl,a9.refl s2 m⟩;rw[abM (by rw[ai];exact hn),ai];unfold bv;rw[f_,XO (by omega)];show some (Dt.int _)=some (Dt.int _);congr 2;omega
theorem Nf {p2 rQ:Pos} (hg:Gl X "reversed") (hm:X.mg "reversed" = none) (xB:Gl X "range") (xC:X.mg "range" = none) (ha:PE X a (tp X.K cl Γ ca)) (hs:noStar a=true):PI X tg (.Call (.Name "reversed" p) [.Call (.Name "range" p2) [a] [] rQ] [] pos) (zN X.K cl Γ (.rev ca)) :=
 (Hk hg hm (aE (bQ jR xB xC Y2 (aE ha bh (ag hs)) (by decide) (by decide) (ag hs) rfl) bh)).imp fun σ H R h=>by
 obtain⟨B,ρ,M,G,R',h1,h2,h3⟩:=h;refine⟨B,ρ,M,G,_,h1,h2,fun x vx M1 G1 H1 f1 i1 hx=>?_⟩;obtain⟨j,rfl,g1,g2,g3⟩:=bq hx;unfold Is at i1;subst i1;refine⟨j,rfl,fun r hr=>⟨r,j.toNat,rfl,?_,by omega,?_⟩⟩
 ·rw[ay,show ((j.toNat:Nat):Int)=j by omega]
 ·have f2:=rP (lo:=0) (hi:=j) f1.gh f1.mem hr;exact h3 _ M1 _ _ _ (f1.trans f2) Ig g3
theorem Ih {a:Addr}{ds:List Dt}{vs:List V} (h:eC K G a vs) (i:IsL K cl G ds vs):uu K cl (Hg K a) (ds.zipIdx.map fun p=>.tup [.int p.2,p.1]) G:=fun n G' H M s1 s2 m=>by
 have hq:eC K H a vs:=h.same (s1.trans s2);have hl:=i.length;have hL:(ds.zipIdx.map fun p:Dt×Nat=>Dt.tup [.int p.2,p.1]).length=ds.length:=by rw[a_,YC]
 rw[hL];refine⟨fun hn=>⟨⟨vs,vs[n]'(by omega),hq,by simp⟩,fun x H' y=>?_⟩,fun hn=>⟨vs,hq,by omega⟩⟩;obtain⟨T,x,hT,rfl,y,rfl⟩:=y;obtain⟨d,e1,e2⟩:=i.get' (y vs hq);have f:=a9.lay (o:=.tup [.int n,x]) s2 m hT;refine⟨.tup [.int n,d],_,?_,?_,f⟩
 ·rw[f_,ab2,e1];simp
 ·unfold Is;exact⟨T,_,rfl,ay,IsL.cons (by unfold Is;rfl) (IsL.cons (e2.mono (s1.trans f.g)) IsL.nil)⟩
theorem Ng {elts:List Expr}{kk:Nat}{Ve:Pos} (hg:Gl X "enumerate") (hm:X.mg "enumerate" = none) (ha:PE X a (tp X.K cl Γ ca)) (hs:noStar a=true):PI X (.Tuple elts kk Ve) (.Call (.Name "enumerate" p) [a] [] pos) (zN X.K cl Γ (.DK ca)) :=
 (AJ hg hm (aE ha bh (ag hs)) (lF hs)).imp fun σ H R h=>by
 obtain⟨B,ρ,M,G,R',h1,h2,h3⟩:=h;refine⟨B,ρ,M,G,_,h1,h2,fun x vx M1 G1 H1 f1 i1 hx=>?_⟩;obtain⟨ds,e,hk⟩:=fj hx;obtain⟨l,vs,rfl,q1,q2⟩:=i1.KA e;exact⟨l,rfl,⟨vs,q1.same f1.gh⟩,h3 _ M1 G1 H1 _ f1 (Ih q1 q2) hk⟩
end
end PV
namespace PV
open PySem L2 SH
section
variable (K:e_) (cl:Cl)
inductive Nh (pf:bN) (vs:List V) (H:Hp) (Q:VK) (E:XK):Prop where
 | mk (G:Hp) (M:Mem) (ds:List Dt) (k:Dt->Mem->Prop):ah G H->bE K cl G H M->IsL K cl G ds vs->pf ds M k->(∀ d M' v G' H',k d M'->a9 K cl none G H M G' H' M'->Is K cl G' d v->Q v H')->Nh pf vs H Q E
inductive Ni (pf:List Dt->Mem->(List Dt->Mem->Prop)->Prop) (vs:List V) (H:Hp) (Q:VK) (E:XK):Prop where
 | mk (G:Hp) (M:Mem) (ds:List Dt) (k:List Dt->Mem->Prop):ah G H->bE K cl G H M->IsL K cl G ds vs->pf ds M k->(∀ xs us a M' G' H',k xs M'->a9 K cl none G H M G' H' M'->H a=none->G' a=none->M' a=none->H' a=some (.lst us)->IsL K cl G' xs us->Q (.ref a) H')->Ni pf vs H Q E
inductive Nj (n:Nat) (pf:bN) (vs:List V) (H:Hp) (Q:VK) (E:XK):Prop where
 | mk (G:Hp) (M:Mem) (d:Dt) (ds:List Dt) (k:Dt->Mem->Prop) (fs:List Str):ah G H->bE K cl G H M->IsL K cl G (d::ds) vs->fh M d (fun n' e8=>n'=n/\e8=fs)->pf (d::ds) M k->(∀ d M' v G' H',k d M'->a9 K cl none G H M G' H' M'->Is K cl G' d v->Q v H')->Nj n pf vs H Q E
inductive DV (pf:Dt->List Dt->Mem->(Dt->Mem->Prop)->Prop) (vs:List V) (H:Hp) (Q:VK) (E:XK):Prop where
 | mk (G:Hp) (M:Mem) (a:Addr) (n:Nat) (fs:List Str) (xs:List Dt) (dx:Addr) (us KG:List V) (ds:List Dt) (k:Dt->Mem->Prop):vs=.ref a::KG->H a=some (.ins (cl n) dx (fs.zip us))->fs.length=xs.length->IsL K cl G xs us->G a=none->M a=none->ah G H->bE K cl G H M->IsL K cl G ds KG ->
  pf (.obj n fs xs) ds M k->(∀ e8 ux Dv Ii M' G' H',k (.obj n e8 ux) M'->a9 K cl (some a) G H M G' H' M'->G' a=none->M' a=none->H' a=some (.ins (cl n) Ii (e8.zip Dv))->e8.length=ux.length->IsL K cl G' ux Dv->Q .az H')->DV pf vs H Q E
end
structure Fx (Γ:Gm) (cl:Cl) (P:K_) (w:World) (K:e_) (mg:Str->l_ Value) (base:Heap) (n:Nat) (fns kN cls nE:List Str) (nF:List Nat):Prop where
 fn:∀ (f:Nat) x,fns[f]? = some x->(x==("__debug__" : Str))=false->∃ a fd ps,mg x=some (.ref a)/\Xn K (.ref a)=true/\Binds K fd ps []/\bH P w K mg base kG n a fd ps (Nh K cl (Γ.fn f))
 fo:∀ (f:Nat) x,fns[f]? = some x->(x==("__debug__" : Str))=false->∃ a fd ps,mg x=some (.ref a)/\Xn K (.ref a)=true/\Binds K fd ps []/\bH P w K mg base kG n a fd ps (Ni K cl (Γ.fo f))
 me:∀ (m:Nat) x,kN[m]? = some x->∀ c fs,Γ.hm m c fs=true->fs.contains x=false/\tF K (cl c)/\∃ a fd ps,Meth K (cl c) x a/\Binds K fd ps []/\bH P w K mg base kG n a fd ps (Nj K cl c (Γ.me m))
 kl:∀ (c:Nat) x,cls[c]? = some x->(x==("__debug__" : Str))=false->mg x=some (.ref (cl c))/\Xn K (.ref (cl c))=true
 bu:∀ (c:Nat) d ds M k,Γ.bu c d ds M k->∃ a fd ps j,n=j+1/\bH P w K mg base kG j a fd ps (DV K cl (Γ.bu c))/\Binds K fd ps []/\Mk K (cl c) a
 cm:∀ (c:Nat),nF.contains c=true->∃ a fd ps,G6 K (cl c) "__init__" a/\bH P w K mg base kG n a fd ps (DV K cl (Γ.bu c))/\Binds K fd ps []
 cs:∀ (k:Nat) x,nE[k]? = some x->(x==("__debug__" : Str))=false->∃ u v,mg x=some u/\RelV v u/\∀ G,Is K cl G (Γ.cs k) v
 at_:∀ n f,Γ.at_ n f=true->tF K (cl n)/\dF K (cl n) f
 wl:cl.w=w
section
variable {K:e_}{cl:Cl}{Γ:Gm}{c ca cb cc:C}{σ:St}{G H:Hp}{Q:VK}{X:Cx}{e a b tg o:Expr}{es:List Expr}{pos p apos:Pos}{n:Nat}{fns kN cls nE:List Str}{nF:List Nat}
theorem s_call {f:Nat}{x:Str} (F:Fx Γ cl X.prog X.w X.K X.mg X.base n fns kN cls nE nF) (hr:bT n X.A) (hx:fns[f]? = some x) (hg:Gl X x) (jJ:(x==("__debug__" : Str))=false) (ha:PA X (e::es) (ta X.K cl Γ ca)) (hs:(e::es).all noStar=true) :
  PE X (.Call (.Name x p) (e::es) [] pos) (tp X.K cl Γ (.call f ca)):=by
 obtain⟨a,fd,ps,h1,h2,h3,h4⟩:=F.fn f x hx jJ;rw[Xx,G_] at hs;refine (xl h4 hr hg h1 h2 h3 .nil qq ha jJ (ag hs.1) (cV hs.2)).imp fun σ H Q h=>?_
 obtain⟨B,ρ,M,G,R,q1,q2,q3⟩:=h;refine⟨B,ρ,M,G,_,q1,q2,fun ds vs M' G' H' f i hk=>?_⟩;rw[Xs];exact⟨G',M',ds,_,f.gh,f.mem,i,hk,fun d M2 v G2 H2 hd f2 i2=>q3 d v M2 G2 H2 (f.trans f2) i2 hd⟩
theorem a9.less {M M':Mem}{G' H':Hp}{a:Addr} (f:a9 K cl none G H M G' H' M') (h:H a=none) (g:G' a=none) (m:M' a=none):a9 K cl none G H M G' (fun b=>if b=a then none else H' b) M':=by
 have up:∀ b u,H' b=some u->b≠a->(if b=a then none else H' b)=some u:=fun b u e n=>by rw[n_ n];exact e
 have ne:∀ b u,H b=some u->b≠a:=fun b u e z=>by rw[z,h] at e;cases e
 refine⟨f.g,fun b u e=>up b u (f.gh b u e) fun z=>?_,fun b u e=>?_,f.gf,fun b u e q r=>up b u (f.h b u e q r) (ne b u e),fun b u e=>?_,f.mf,f.ke⟩
 ·rw[z,g] at e;cases e
 ·obtain⟨u',e'⟩:=f.jA b u e;exact⟨u',up b u' e' (ne b u e)⟩
 ·exact⟨(f.mem b u e).1,(f.mem b u e).2.mono (ah.refl _) fun x hx=>up b x hx fun z=>by rw[z,m] at e;cases e⟩
theorem Nk {f:Nat}{x:Str} (F:Fx Γ cl X.prog X.w X.K X.mg X.base n fns kN cls nE nF) (hr:bT n X.A) (hx:fns[f]? = some x) (hg:Gl X x) (jJ:(x==("__debug__" : Str))=false) (ha:PA X (e::es) (ta X.K cl Γ ca)) (hs:(e::es).all noStar=true) :
  PE X (.Call (.Name x p) (e::es) [] pos) (tf X.K cl Γ (.HA f ca)):=by
 obtain⟨a,fd,ps,h1,h2,h3,h4⟩:=F.fo f x hx jJ;rw[Xx,G_] at hs;refine (xl h4 hr hg h1 h2 h3 .nil qq ha jJ (ag hs.1) (cV hs.2)).imp fun σ H Q h=>?_
 obtain⟨B,ρ,M,G,R,q1,q2,q3⟩:=h;refine⟨B,ρ,M,G,_,q1,q2,fun ds vs M' G' H' f i hk=>?_⟩;rw[Xs];refine⟨G',M',ds,_,f.gh,f.mem,i,hk,fun xs us b M2 G2 H2 hd f2 hb gb mb eb i2=>?_⟩;have:=q3 xs us M2 G2 _ b (f.trans (f2.less hb gb mb)) (s_ rfl) i2 hd
 rwa [show upd (fun c=>if c=b then none else H2 c) b (.lst us)=H2 from funext fun c=>by
  unfold upd;by_cases z:c=b
  ·rw[s_ z,z,eb]
  ·rw[n_ z];dsimp only;rw[n_ z]] at this
theorem rR {m:Str}{env:Env} (hb:cF o=true) (hs:es.all noStar=true) (hl:es.length<30) (bK:(apos.endLine==pos.line)=true):eval (.Call (.Attribute o m apos) es [] pos) env=(do
   let ov ←eval o env
   ab6 apos.atName
   let (f,first) ←aaR [ov] (acZ ov m (do return (←importBound o env).getD true))
   callWith pos f first (Yq pos (M_ es env)) (aaH pos (Zp [] env))):=by
 have hf:methodCallForm (es.length+([]:List aal).length) (Yq pos (M_ es env)) (aaH pos (Zp [] env))=true:=by
  unfold methodCallForm;rw[jY hs];show (true&&true&&decide (es.length+0+0<30))=true;rw[c_ (by omega)];rfl
 rw[arm_eval_Call,fH hb];unfold methodCall;rw[hf];unfold calleeOf methodCallPos;rw[bK];rfl
def wa (P:K_) (w:World) (K:e_) (mg:Str->l_ Value) (base:Heap) (n:Nat) (m:Str) (ta:TE) (t:TA):TE:=fun σ H Q=>ta σ H fun x H1=>∃ a C dx fs f fd ps sp,x=.ref a/\H1 a=some (.ins C dx fs)/\fs.lookup m=none/\tF K C/\Meth K C m f/\Binds K fd ps []/\bH P w K mg base kG n f fd ps sp /\
 t σ H1 fun vs H2=>sp (x::vs) H2 Q E0
theorem Bj {m:Str}{to:TE}{t:TA} (he:PE X o to) (hr:bT n X.A) (ha:PA X (e::es) t) (hb:cF o=true) (hs:(e::es).all noStar=true) (hl:(e::es).length<30) (bK:(apos.endLine==pos.line)=true) :
  PE X (.Call (.Attribute o m apos) (e::es) [] pos) (wa X.prog X.w X.K X.mg X.base n m to t):=by
 intro pins s σ H Q I h;refine Z8 (aZ (he pins s σ H _ I h) fun u s1 zz=>?_) (rR hb hs hl bK);obtain⟨x,H1,I1,rx,a,C,dx,fs,f,fd,ps,sp,rfl,ea,l,c,hm,QV,F,q⟩:=zz;obtain rfl:u=Xe a:=rx;refine mW I1 ea c hm l ?_;rw[Xx,G_] at hs;refine Zc (first:=[.ref a]) (h₀:=X.base) I.ok.mod.FO hm.kp (aZ (ha pos pins s1 σ H1 _ I1 q) fun us s2 ⟨vs,H2,I2,r,q2⟩=>⟨I2.jx,?_⟩) (ag hs.1) (cV hs.2);exact ri (dvs:=[]) (ds:=[]) (us:=.ref a::us) (vs:=.ref a::vs) F hr QV .nil qq I2 (.cons rfl r) (by rw[Xs];exact q2)
theorem zg {m:Str}{to:TE} (he:PE X o to) (hr:bT n X.A) (hb:cF o=true) (bK:(apos.endLine==pos.line)=true) :
  PE X (.Call (.Attribute o m apos) [] [] pos) (wa X.prog X.w X.K X.mg X.base n m to Lp):=by
 intro pins s σ H Q I h;refine Z8 (aZ (he pins s σ H _ I h) fun u s1 zz=>?_) (rR hb rfl (by decide) bK);obtain⟨x,H1,I1,rx,a,C,dx,fs,f,fd,ps,sp,rfl,ea,l,c,hm,QV,F,q⟩:=zz;obtain rfl:u=Xe a:=rx;refine mW I1 ea c hm l ?_;exact PySem.W.callWith_K0 (first:=[.ref a]) I1.jx hm.kp (ri (dvs:=[]) (ds:=[]) (us:=[.ref a]) (vs:=[.ref a]) F hr QV .nil qq I1 (.cons rfl .nil) q)
theorem gW {f:Str}:∀ {fs:List Str}{vs:List V},fs.contains f=false->(fs.zip vs).lookup f=none
 | [],_,_=>by simp
 | g::fs,[],_=>by simp
 | g::fs,v::vs,h=>by
  rw[List.contains_cons,Bool.or_eq_false_iff] at h;rw[YB,Xf,h.1];exact gW h.2
theorem Ij {M:Mem}{d:Dt}{v:V}{k:Nat->List Str->Prop} (s:ah G H) (m:bE K cl G H M) (i:Is K cl G d v) (h:fh M d k):∃ a n fs dx vs,v=.ref a/\H a=some (.ins (cl n) dx (fs.zip vs))/\k n fs/\fh M d (fun n' e8=>n'=n/\e8=fs):=by
 cases d with
 | obj n fs ds =>
  unfold Is at i;obtain⟨a,dx,vs,e,q,_,_⟩:=i;exact⟨a,n,fs,dx,vs,e,s _ _ q,h,rfl,rfl⟩
 | jz a =>
  unfold Is at i;change (match M a with | some (.mo c fs _)=>k c fs | _=>False) at h
  cases e:M a with
  | none=>rw[e] at h;exact h.elim
  | some o =>
   rw[e] at h
   cases o with
   | mo n fs xs =>
    obtain⟨dx,vs,q,_⟩:=(m a _ e).2;refine⟨a,n,fs,dx,vs,i,q,h,?_⟩;show (match M a with | some (.mo c e8 _)=>c=n/\e8=fs | _=>False);rw[e];exact⟨rfl,rfl⟩
   | ml _=>exact h.elim
   | md _=>exact h.elim
 | _=>exact (show False from h).elim
theorem Bl {M M':Mem}{d:Dt}{G' H':Hp}{n:Nat}{fs:List Str} (h:fh M d (fun n' e8=>n'=n/\e8=fs)) (f:a9 K cl none G H M G' H' M'):fh M' d (fun n' e8=>n'=n/\e8=fs):=by
 cases d with
 | obj n fs ds=>exact h
 | jz a =>
  change (match M a with | some (.mo c e8 _)=>c=n/\e8=fs | _=>False) at h
  cases e:M a with
  | none=>rw[e] at h;exact h.elim
  | some o =>
   rw[e] at h;obtain⟨o',e',q⟩:=f.ke a o e;show (match M' a with | some (.mo c e8 _)=>c=n/\e8=fs | _=>False);rw[e']
   cases o with
   | mo n' e8 xs =>
    cases o' with
    | mo n2 WX WY =>
     injection q with _ q
     injection q with q1 q2
     exact⟨q1.trans h.1,q2.trans h.2⟩
    | ml _=>exact absurd (congrArg Prod.fst q) (by intro z;cases z)
    | md _=>exact absurd (congrArg Prod.fst q) (by intro z;cases z)
   | ml _=>exact h.elim
   | md _=>exact h.elim
 | _=>exact (show False from h).elim
theorem xD {m:Nat}{x:Str}{P:K_}{w:World}{mg:Str->l_ Value}{base:Heap} (F:Fx Γ cl P w K mg base n fns kN cls nE nF) (hx:kN[m]? = some x) {t:TA} (ht:∀ σ H Q,ta K cl Γ cb σ H Q->t σ H Q)
  (h:tp K cl Γ (.bD m ca cb) σ H Q):wa P w K mg base n x (tp K cl Γ ca) t σ H Q:=by
 obtain⟨B,ρ,M,G,R,q1,q2,q3⟩:=h;refine⟨B,ρ,M,G,_,q1,q2,fun d v M1 G1 H1 f1 i1 hd=>?_⟩;obtain⟨a,k,fs,dx,vs,rfl,h1,⟨h2,h3⟩,h4⟩:=Ij f1.gh f1.mem i1 hd;obtain⟨g1,g2,f,fd,ps,g3,g4,g5⟩:=F.me m x hx k fs h2;refine⟨a,_,dx,_,f,fd,ps,_,rfl,h1,gW g1,g2,g3,g4,g5,ht _ _ _ ⟨B,ρ,M1,G1,_,q1.on f1,h3,fun ds us M2 G2 H2 f2 i2 hk=>?_⟩⟩;exact⟨G2,M2,d,ds,_,fs,f2.gh,f2.mem,IsL.cons (i1.mono f2.g) i2,Bl h4 f2,hk,fun d' M3 v G3 H3 MG f3 i3=>q3 d' v M3 G3 H3 ((f1.trans f2).trans f3) i3 MG⟩
theorem Ik {m:Nat}{x:Str} (F:Fx Γ cl X.prog X.w X.K X.mg X.base n fns kN cls nE nF) (hr:bT n X.A) (hx:kN[m]? = some x) (ho:PE X o (tp X.K cl Γ ca)) (ha:PA X (e::es) (ta X.K cl Γ cb)) (hb:cF o=true) (hs:(e::es).all noStar=true) (hl:(e::es).length<30) (bK:(apos.endLine==pos.line)=true) :
  PE X (.Call (.Attribute o x apos) (e::es) [] pos) (tp X.K cl Γ (.bD m ca cb)):=(Bj ho hr ha hb hs hl bK).imp fun σ H Q h=>xD F hx (fun _ _ _ z=>z) h
theorem DW {m:Nat}{x:Str} (F:Fx Γ cl X.prog X.w X.K X.mg X.base n fns kN cls nE nF) (hr:bT n X.A) (hx:kN[m]? = some x) (ho:PE X o (tp X.K cl Γ ca)) (hb:cF o=true) (bK:(apos.endLine==pos.line)=true) :
  PE X (.Call (.Attribute o x apos) [] [] pos) (tp X.K cl Γ (.bD m ca .nil)):=(zg ho hr hb bK).imp fun σ H Q h=>xD F hx (fun σ H Q z=>by
   obtain⟨B,ρ,M,G,R,h1,h2,h3⟩:=z;exact h3 [] [] M G H h1.self IsL.nil h2) h
theorem uy {p:Addr}{M:Mem} (m:bE K cl G H M) (hp:H p=none):M p=none:=by
 cases e:M p with
 | none=>rfl
 | some w=>obtain⟨u,hu⟩:=(m p w e).2.jA;rw[hp] at hu;cases hu
def O9 (K:e_) (cl:Cl) (Γ:Gm) (q:Nat) (c:C):TE:=fun σ H Q=>∃ B ρ M G R,Rep K cl B ρ M σ H G/\ev Γ c ρ M (fun ds M1=>Γ.bu q (.obj q [] []) ds M1 R) /\
 ∀ fs xs us M2 G2 H2 x dx,R (.obj q fs xs) M2->a9 K cl none G H M G2 H2 M2->H x=none->G2 x=none->M2 x=none->H2 x=some (.ins (cl q) dx (fs.zip us))->fs.length=xs.length->IsL K cl G2 xs us->Q (.ref x) H2
theorem DX {q:Nat}{M1 M2:Mem}{G1 H1 G2 H2:Hp}{x dx:Addr} (hx:H1 x=none) (Pa:H1 dx=none) (f:a9 K cl (some x) G1 (upd (upd H1 dx (.own x)) x (.ins (cl q) dx [])) M1 G2 H2 M2):a9 K cl none G1 H1 M1 G2 H2 M2:=by
 have up:∀ a u,H1 a=some u->(upd (upd H1 dx (.own x)) x (.ins (cl q) dx [])) a=some u:=fun a u h=>by rw[aw (aA h hx),aw (aA h Pa)];exact h
 have dn:∀ a,(upd (upd H1 dx (.own x)) x (.ins (cl q) dx [])) a=none->H1 a=none:=fun a h=>br (fun a u h=>⟨u,up a u h⟩) h
 refine⟨f.g,f.gh,fun a u h=>f.jA a u (up a u h),fun a u h n=>dn a (f.gf a u h n),fun a u h hm _=>f.h a u (up a u h) hm fun z=>?_,f.mem,fun a u h n=>dn a (f.mf a u h n),f.ke⟩
 cases z;rw[hx] at h;cases h
theorem a9.Nl {M M2:Mem}{G2 H2:Hp}{x:Addr}{o:HO}{sf:l_ Addr} (f:a9 K cl sf G H M G2 H2 M2) (hx:H x=none) (gx:G2 x=none) (mx:M2 x=none) (e:H2 x=some o):a9 K cl sf G H M (upd G2 x o) H2 M2:=by
 have sm:ah G2 (upd G2 x o):=ah.put gx;refine⟨f.g.trans sm,fun a u h=>?_,f.jA,fun a u h n=>?_,f.h,fun a u h=>?_,f.mf,f.ke⟩
 ·unfold upd at h;by_cases z:a=x
  ·rw[s_ z] at h;cases h;rw[z];exact e
  ·rw[n_ z] at h;exact f.gh a u h
 ·unfold upd at h;by_cases z:a=x
  ·rw[z];exact hx
  ·rw[n_ z] at h;exact f.gf a u h n
 ·obtain⟨h1,h2⟩:=f.mem a u h;have ne:a≠x:=fun z=>by rw[z,mx] at h;cases h
  exact⟨by rw[aw ne];exact h1,h2.mono sm fun _ z=>z⟩
theorem Nm {q:Nat}{x:Str} (F:Fx Γ cl X.prog X.w X.K X.mg X.base n fns kN cls nE nF) (hr:bT n X.A) (hx:cls[q]? = some x) (hg:Gl X x) (jJ:(x==("__debug__" : Str))=false) (ha:PA X (e::es) (ta X.K cl Γ ca)) (hs:(e::es).all noStar=true) :
  PE X (.Call (.Name x p) (e::es) [] pos) (O9 X.K cl Γ q ca):=by
 intro pins s σ H Q I h;obtain⟨hm,kp⟩:=F.kl q x hx jJ;rw[Xx,G_] at hs;obtain⟨B,ρ,M,G,R,q1,q2,q3⟩:=h
 have h':ta X.K cl Γ ca σ H (fun vs H1=>(∃ d ds M k,Γ.bu q d ds M k)/\∀ x dx,H1 x=none->H1 dx=none->dx≠x->DV X.K cl (Γ.bu q) (.ref x::(vs++[])) (upd (upd H1 dx (.own x)) x (.ins (cl q) dx [])) (fun v H2=>v=.az/\Q (.ref x) H2) E0):=by
  refine⟨B,ρ,M,G,_,q1,q2,fun ds vs M1 G1 H1 f i hk=>⟨⟨_,_,_,_,hk⟩,fun x dx hx Pa ne=>?_⟩⟩;have up:ah H1 (upd (upd H1 dx (.own x)) x (.ins (cl q) dx [])):=fun a u h=>by rw[aw (aA h hx),aw (aA h Pa)];exact h
  rw[Xs];refine⟨G1,M1,x,q,[],[],dx,[],vs,ds,R,rfl,ay,rfl,IsL.nil,v9 f.gh hx,uy f.mem hx,f.gh.trans up,fun a o e=>?_,i,hk,fun fs xs us Ii M2 G2 H2 hk f2 g1 g2 g3 g4 g5=>⟨rfl,q3 fs xs us M2 G2 H2 x Ii hk (f.trans (DX hx Pa f2)) (br f.jA hx) g1 g2 g3 g4 g5⟩⟩;obtain⟨h1,h2⟩:=f.mem a o e;exact⟨h1,h2.mono (ah.refl G1) fun u hu=>up a u hu⟩
 refine X9 (jF I hg hm ?_ jJ);refine Zc (h₀:=X.base) I.ok.mod.FO kp (aZ (ha pos pins s σ H _ I h') fun us s1 ⟨vs,H1,I1,r,⟨d,ds,M1,k,hi⟩,hq⟩=>⟨I1.jx,?_⟩) (ag hs.1) (cV hs.2);obtain⟨f,fd,ps,j,hj,F1,B1,Vf⟩:=F.bu q d ds M1 k hi;exact Ai (dvs:=[]) (ds:=[]) Vf F1 (hj▸hr) B1 .nil qq I1 r hq
theorem QW {q:Nat} (h:PE X e (O9 X.K cl Γ q ca)):PE X e (tp X.K cl Γ (.mk q ca)):=h.imp fun σ H Q h=>by
 obtain⟨B,ρ,M,G,R,q1,q2,q3⟩:=h;refine⟨B,ρ,M,G,_,q1,q2,fun fs xs us M2 G2 H2 x dx hR f hx gx mx e l i=>?_⟩;have f2:=f.Nl hx gx mx e;exact q3 (.obj q fs xs) (.ref x) M2 _ H2 f2 (by unfold Is;exact⟨x,dx,us,rfl,ay,l,i.mono (ah.put gx)⟩) hR
end
end PV
namespace PV
open PySem L2 SH
section
variable {K:e_}{cl:Cl}{Γ:Gm}{c ci ct ce:C}{σ:St}{G H:Hp}{Q:VK}{X:Cx}{e a b tg o:Expr}{es:List Expr}{pos p apos:Pos}
theorem DY {ρ:En}{j:Nat}{d:Dt} (h:fQ ρ j=.sh d):ρ[j]? = some (.sh d):=by
 unfold fQ at h;split at h
 ·cases h;assumption
 ·cases h
theorem DZ {ρ:En}{j:Nat}{d:Dt}:fQ ρ j≠.ow d:=by
 unfold fQ;split<;>exact fun z=>nomatch z
theorem D0 {B:Bs}{ρ:En}{M M':Mem}{ix:List Nat}{G' H':Hp}{ds:List Dt}{vs:List V} (r:Rep K cl B ρ M σ H G) (sg:ah G G') (s:ah G' H') (m:bE K cl G' H' M') (i:IsL K cl G' ds vs) :
  Rep K cl ⟨G',H',M',none⟩ (ds.map Sl.sh++ix.map (fQ ρ)) M' (vs.map some++ix.map fun j=>(σ[j]?).join) H' G':=by
 have hl:=i.length;refine⟨a9.refl s m,by simp [hl],fun _ z=>(nomatch z),fun j d e=>?_,fun _=>0,fun j d e=>?_,fun j _ d _ e=>?_⟩
 ·by_cases hj:j<ds.length
  ·rw[Xq (by simpa using hj),f_] at e;obtain⟨d',e1,e2⟩:=k_.mp e
   cases e2
   obtain⟨v,h1,h2⟩:=i.get e1;refine⟨v,?_,h2⟩;rw[Xq (by simpa [hl] using hj),f_,h1];rfl
  ·rw[Xj (by simpa using hj),f_] at e;obtain⟨k,e1,e2⟩:=k_.mp e;obtain⟨v,h1,h2⟩:=r.sh k d (DY e2);refine⟨v,?_,h2.mono sg⟩;rw[a_] at e1;rw[Xj (by simpa [hl] using hj),f_,a_,←hl,e1];show some ((σ[k]?).join)=_;rw[h1];rfl
 all_goals
  exfalso;by_cases hj:j<ds.length
  ·rw[Xq (by simpa using hj),f_] at e;obtain⟨d',e1,e2⟩:=k_.mp e
   cases e2
  ·rw[Xj (by simpa using hj),f_] at e;obtain⟨k,e1,e2⟩:=k_.mp e;exact DZ e2
theorem rS {own:List Str}{w:Nat}{ix:List Nat}{g:TG} (hw:own.length=w)
  (hg:∀ {d:Dt}{ρ:En}{k:En->Prop}{x:V}{σ':St}{fT:St}{Gc Hc:Hp}{R:St->Hp->Prop},zL ρ w ix d k->Is K cl Gc d x->ah Gc Hc->(∃ pre:St,pre.length=w/\σ'=pre++fT) ->
   (∀ ds vs,IsL K cl Gc ds vs->ds.length=w->k (ds.map Sl.sh++ix.map (fQ ρ))->R (vs.map some++fT) Hc)->g x σ' Hc R)
  (h:tf K cl Γ (.comp ci w ix ct ce) σ H Q):Au own ix (zN K cl Γ ci) g (tt K cl Γ ct) (tp K cl Γ ce) σ H Q:=by
 obtain⟨B,ρ,M,G,R,q1,q2,q3⟩:=h;refine⟨B,ρ,M,G,_,q1,q2,fun items M' G' H' J b5 ok hh=>?_⟩;obtain⟨hlen,hc⟩:=hh;let f:Dt->Mem->(l_ Dt->Mem->Prop)->Prop:=fun x M K=>zL ρ w ix x fun ρ'=>ev Γ ct ρ' M fun c M1=>av c fun c=>bF c fun c=>if c=true then ev Γ ce ρ' M1 fun d M2=>av d fun d=>K (some d) M2 else K none M1
 let fT:St:=ix.map fun j=>(σ[j]?).join
 refine⟨fun i m ys σ' Hc=>∃ Mc Gc ds,m=items.length-i/\i<=items.length/\a9 K cl none G H M Gc Hc Mc/\ah G' Gc/\IsL K cl Gc ds ys/\ds.length<=i/\(∃ pre:St,pre.length=w/\σ'=pre++fT)/\eh f (items.drop i) Mc (fun es M2=>R (ds++es) M2),
  ⟨items.length,M',G',[],by omega,Yb _,b5,ah.refl _,IsL.nil,t_ _,⟨own.map fun _=>none,by rw[a_,hw],rfl⟩,hc⟩,?_⟩
 rintro i m ys σ' Hc ⟨Mc,Gc,ds,rfl,hi,fc,sc,is,dl,ph,jE⟩;have il:=is.length;obtain⟨Nn,QX⟩:=ok i Gc Hc Mc sc fc.gh fc.mem;by_cases lR:i<items.length
 ·refine .inr ⟨(Nn lR).1,fun x Hx hy=>?_⟩;obtain⟨d,Gx,ed,QY,fx⟩:=(Nn lR).2 x Hx hy
  have QZ:items.drop i=d::items.drop (i+1):=by
   rw[XM lR];congr 1;have:=b_ lR;rw[this] at ed;exact O_ ed
  rw[QZ] at jE;have Q0:zL ρ w ix d (fun ρ'=>ev Γ ct ρ' Mc fun c M1=>av c fun c=>bF c fun c=>if c=true then ev Γ ce ρ' M1 fun d M2=>av d fun d=>eh f (items.drop (i+1)) M2 (fun es M2=>R (ds++((some d).toList++es)) M2) else eh f (items.drop (i+1)) M1 (fun es M2=>R (ds++(none.toList++es)) M2)):=jE;refine hg Q0 QY fx.gh ph fun Vg Vh SV l1 hk=>?_
  have Q5:=fc.trans fx;have r1:=D0 (ix:=ix) q1 Q5.g fx.gh fx.mem SV;have l2:(Vh.map some).length=w:=by rw[a_,←SV.length,l1]
  refine⟨_,_,Mc,Gx,fun c M1=>if c=true then ev Γ ce (Vg.map Sl.sh++ix.map (fQ ρ)) M1 fun d M2=>av d fun d=>eh f (items.drop (i+1)) M2 (fun es M2=>R (ds++((some d).toList++es)) M2) else eh f (items.drop (i+1)) M1 (fun es M2=>R (ds++(none.toList++es)) M2),r1,hk,fun b M1 G1 H1 f1 hb=>?_⟩
  cases b with
  | true =>
   rw[s_ rfl] at hb ⊢;refine⟨_,_,M1,G1,_,r1.on f1,hb,fun dd v M2 G2 H2 f2 i2 Bm=>⟨by omega,items.length-(i+1),by omega,M2,G2,ds++[dd],rfl,lR,(Q5.trans f1).trans f2,sc.trans ((fx.g.trans f1.g).trans f2.g),(is.mono ((fx.g.trans f1.g).trans f2.g)).append (IsL.cons i2 IsL.nil),by rw[u_,R_];omega,⟨_,l2,rfl⟩,?_⟩⟩
   have e:(fun es M2=>R (ds++((some dd).toList++es)) M2)=fun es M2=>R (ds++[dd]++es) M2:=by
    funext es M2
    rw[YQ];rfl
   rw[←e];exact Bm
  | false =>
   rw[n_ r_] at hb ⊢;exact⟨items.length-(i+1),by omega,M1,G1,ds,rfl,lR,Q5.trans f1,sc.trans (fx.g.trans f1.g),is.mono (fx.g.trans f1.g),by omega,⟨_,l2,rfl⟩,hb⟩
 ·have e:i=items.length:=by omega
  subst e;rw[ac5] at jE;refine .inl ⟨QX rfl,by omega,fun D hD=>q3 ds ys Mc Gc Hc D fc hD is ?_⟩;have:=jE;change R (ds++[]) Mc at this;rwa [Xs] at this
theorem No {d:Dt}{ix:List Nat}{ρ:En}{k:En->Prop}{x:V}{σ' fT:St}{Gc Hc:Hp}{R:St->Hp->Prop} (h:zL ρ 1 ix d k) (i:Is K cl Gc d x) (s:ah Gc Hc) (hp:∃ pre:St,pre.length=1/\σ'=pre++fT)
  (q:∀ ds vs,IsL K cl Gc ds vs->ds.length=1->k (ds.map Sl.sh++ix.map (fQ ρ))->R (vs.map some++fT) Hc):dE 0 x σ' Hc R:=by
 obtain⟨pre,l,rfl⟩:=hp
 match pre,l with
 | [o],_=>exact q [d] [x] (IsL.cons i IsL.nil) rfl h
theorem Np {d:Dt}{ix:List Nat}{ρ:En}{k:En->Prop}{x:V}{σ' fT:St}{Gc Hc:Hp}{R:St->Hp->Prop} (h:zL ρ 2 ix d k) (i:Is K cl Gc d x) (s:ah Gc Hc) (hp:∃ pre:St,pre.length=2/\σ'=pre++fT)
  (q:∀ ds vs,IsL K cl Gc ds vs->ds.length=2->k (ds.map Sl.sh++ix.map (fQ ρ))->R (vs.map some++fT) Hc):zZ K 2 (jH (dE 0) (jH (dE 1) zY)) x σ' Hc R:=by
 obtain⟨pre,l,rfl⟩:=hp
 match pre,l with
 | [o1,o2],_ =>
  cases d with
  | tup ds =>
   match ds,h with
   | [d1,d2],h =>
    unfold Is at i;obtain⟨t,vs,rfl,h1,h2⟩:=i;have l2:=h2.length
    match vs,l2 with
    | [v1,v2],_=>exact⟨t,[v1,v2],rfl,eC.of (s _ _ h1),rfl,v1,[v2],rfl,v2,[],rfl,rfl,q [d1,d2] [v1,v2] h2 rfl h⟩
  | _=>exact (show False from h).elim
theorem Il {σ:St}{H:Hp}{Q:Bool->Hp->Prop} (h:tt K cl Γ (.b true) σ H Q):LH σ H Q:=by
 obtain⟨B,ρ,M,G,k,h1,h2,h3⟩:=h;exact h3 true M G H h1.self h2
end
end PV
namespace PV
open PySem L2 SH PySem.Spec PyProof.Rows
section
variable {K:e_}{cl:Cl}{G H:Hp}{X:Cx}{pins:List (Addr×Obj)}{σ:L2.St}{s:h_}{a:Addr}{kvs:List (P_×Dt)}{xs:List (P_×Addr×Value)}
theorem DP.mem:∀ {kvs:List (P_×Dt)}{xs:List (P_×Addr×Value)},DP K cl G kvs xs->∀ q∈xs,pk q.1/\b8 K G (.ref q.2.1) q.1
 | _,_,.nil,q,h=>nomatch h
 | _,_,.cons ⟨_,h2,h3,_⟩ t,q,h=>by
  rcases w_.mp h with e | h
  ·subst e;exact⟨h2,h3⟩
  ·exact DP.mem t q h
theorem kP {kv:P_×Dt}{p:P_}:fR (kv::kvs) p=if kv.1=p then some kv.2 else fR kvs p:=by
 unfold fR;rw[Yk];by_cases e:kv.1=p
 ·rw[c_ e,s_ e];rfl
 ·rw[d_ e,n_ e]
theorem wb {kv:P_×Addr×Value}{p:P_}:atKey (kv::xs) p=if kv.1=p then some kv.2 else atKey xs p:=by
 unfold atKey;rw[Yk];by_cases e:kv.1=p
 ·rw[c_ e,s_ e];rfl
 ·rw[d_ e,n_ e]
theorem DP.at_ (p:P_):∀ {kvs:List (P_×Dt)}{xs:List (P_×Addr×Value)},DP K cl G kvs xs->(∀ d,fR kvs p=some d->∃ q,atKey xs p=some q/\∃ v,RelV v q.2/\Is K cl G d v)/\(fR kvs p=none->atKey xs p=none)
 | _,_,.nil=>by constructor;exact fun d h=>(nomatch (show (none:l_ Dt)=some d from h));exact fun _=>rfl
 | kv::_,q::_,.cons ⟨h1,h2,h3,v,h4,h5⟩ t=>by
  obtain⟨i1,i2⟩:=DP.at_ p t;rw[kP,wb,←h1];by_cases e:kv.1=p
  ·rw[s_ e,s_ e];exact⟨fun d h=>by cases h;exact⟨q.2,rfl,v,h4,h5⟩,fun h=>by cases h⟩
  ·rw[n_ e,n_ e];exact⟨i1,i2⟩
theorem DP.snoc {p:P_}{d:Dt}{b:Addr}{u:Value} (h:pk p/\b8 K G (.ref b) p/\∃ v,RelV v u/\Is K cl G d v):∀ {kvs:List (P_×Dt)}{xs:List (P_×Addr×Value)},DP K cl G kvs xs->DP K cl G (kvs++[(p,d)]) (xs++[(p,b,u)])
 | _,_,.nil=>.cons ⟨rfl,h⟩ .nil
 | _,_,.cons q t=>.cons q (DP.snoc h t)
theorem DP.length:∀ {kvs:List (P_×Dt)}{xs:List (P_×Addr×Value)},DP K cl G kvs xs->kvs.length=xs.length:=fun h=>aa0 h
theorem wc (I:Inv X pins σ H s) (hw:cl.w=X.w) (sm:ah G H) (d:lE X.K cl G H a kvs):(a==YX)=false/\kvs.length<=sizeLine/\∃ xs,H a=some (pv X.w a xs)/\DP X.K cl G kvs xs/\Heap.DictOfH (fg X.prog X.w) s.heap a xs:=by
 obtain⟨h1,h2,xs,h3,h4,h5⟩:=d;rw[hw] at h3;have aY:aS X.prog X.w H s.heap a (pv X.w a xs):=I.aY a _ h3;unfold pv at aY;obtain⟨⟨o,es,ep,g1,g2,g3,g4⟩,_,_⟩:=aY;refine⟨h1,h2,xs,h3,h5,o,es,ep,g1,g2,g3,g4,fun x hx=>?_,h4⟩;obtain⟨q2,q3⟩:=h5.mem x hx;obtain⟨as,r⟩:=(q3.same sm).reads I (.ref x.2.1) rfl;exact⟨q2,as,r⟩
theorem rT {v:V}{ps:List P_} (h:b8 K H v (.tuple ps)):∃ b,v=.ref b:=by cases h;exact⟨_,rfl⟩
theorem we (I:Inv X pins σ H s) {b:Addr}{p:P_} (hk:pk p) (h:b8 X.K H (.ref b) p):(fg X.prog X.w).is s.heap p b:=by
 obtain⟨as,r⟩:=h.reads I (.ref b) rfl;exact⟨hk,as,r⟩
theorem D1 {w:World}{P:K_}{H':Hp}{h:Heap} (dd:Heap.DictOfH (fg P w) h a xs):aS P w H' h a (pv w a xs):=by
 obtain⟨o,es,ep,g1,g2,g3,g4,_,_⟩:=dd;refine⟨⟨o,es,ep,g1,g2,g3,g4⟩,⟨o,g1⟩,fun h1 h2 ⟨o,es,ep,q1,q2,q3,q4⟩ k=>⟨o,es,ep,k o q1,q2,q3,q4⟩⟩
theorem D2 {w:World}{P:K_}{H':Hp} (h:Heap):aS P w H' (h.push { cls:=.type "dict",data:=.dict #[] }) h.objs.size (pv w h.objs.size []) :=
 ⟨⟨_,#[],0,A_ _ rfl,⟨rfl,rfl,rfl⟩,rfl,rfl⟩,⟨_,A_ _ rfl⟩,fun h1 h2 ⟨o,es,ep,q1,q2,q3,q4⟩ k=>⟨o,es,ep,k o q1,q2,q3,q4⟩⟩
end
def Nq (K:e_) (cl:Cl) (td ty:TE):TE:=fun σ H Q=>td σ H fun x H1=>ty σ H1 fun y H2=>∃ G a kvs ps d,x=.ref a/\ah G H2/\lE K cl G H2 a kvs/\pk (.tuple ps)/\b8 K H2 y (.tuple ps)/\fR kvs (.tuple ps)=some d/\∀ v,Is K cl G d v->Q v H2
def Fb (K:e_) (cl:Cl) (ty td:TE):TE:=fun σ H Q=>ty σ H fun y H1=>td σ H1 fun x H2=>∃ G a kvs ps,x=.ref a/\ah G H2/\lE K cl G H2 a kvs/\pk (.tuple ps)/\b8 K H2 y (.tuple ps)/\Q (.bl (fR kvs (.tuple ps)).isNone) H2
def Nr (w:World):TE:=fun _ H Q=>∀ p,(p==YX)=false->H p=none->Q (.ref p) (upd H p (pv w p []))
def Nt (K:e_) (cl:Cl) (td ty tv:TE):TS:=fun D σ H=>tv σ H fun v H1=>td σ H1 fun x H2=>ty σ H2 fun y H3=>∃ G a kvs ps d xs,x=.ref a/\ah G H3/\lE K cl G H3 a kvs/\H3 a=some (pv cl.w a xs)/\pk (.tuple ps)/\b8 K G y (.tuple ps)/\fR kvs (.tuple ps)=none/\kvs.length<sizeLine/\Is K cl G d v /\
 ∀ u,(∀ H',H' a=some u->lE K cl G H' a (kvs++[(.tuple ps,d)]))->D.nx σ (upd H3 a u)
section
variable {X:Cx}{cl:Cl}{o i e value:Expr}{pos pos' Lo:Pos}{td ty tv:TE}
theorem D3 (hw:cl.w=X.w):PE X (.Dict [] [] pos) (Nr cl.w):=fun pins s σ H Q I h=>by
 rw[hw] at h;exact wpAny_Dict_empty ⟨.ref s.heap.objs.size,_,I.laid (a:=s.heap.objs.size) (o:=pv X.w s.heap.objs.size []) (t':=s.toks) (fun _ _ q=>o_ _ q) (t_ _) (D2 s.heap),rfl,h _ (X5.mpr (YE (T_ I.big))) (I.aY.fresh (t_ _))⟩
theorem D4 (hw:cl.w=X.w) (hu:X.A.units+66<cLine) (ho:PE X o td) (hi:PE X i ty) (hs:G9 i):PE X (.Subscript o i pos) (Nq X.K cl td ty):=by
 intro pins s σ H Q I h;refine Ds PySem.F.slot_dict_getitem.lookup hs (aZ (ho pins s σ H _ I h) fun u s1 z1=>?_);obtain⟨x,H1,I1,rx,q1⟩:=z1;refine aZ (hi pins s1 σ H1 _ I1 q1) fun iv s2 z2=>?_
 obtain⟨y,H2,I2,ry,G,a,kvs,ps,d,rfl,sm,da,hk,hy,hg,q2⟩:=z2;obtain rfl:u=Xe a:=rx;obtain⟨b,rfl⟩:=rT hy;obtain rfl:iv=Xe b:=ry;obtain⟨z1,z2,xs,z3,z4,dd⟩:=wc I2 hw sm da;obtain⟨q,e1,v,e2,e3⟩:=(z4.at_ (.tuple ps)).1 d hg;refine⟨dd.typeIs,wpAny_getItem_heap (knd:=fg X.prog X.w) (show X.A.in1.units+64<cLine by show X.A.units+1+64<cLine;omega) (we I2 hk hy) dd e1 ?_⟩;exact⟨v,H2,I2.tok _,e2,q2 v e3⟩
theorem xE (hw:cl.w=X.w) (hu:X.A.units+66<cLine) (hi:PE X i ty) (ho:PE X o td):PC X .NotIn i o (Fb X.K cl ty td):=by
 intro pins s σ H Q I h;refine aZ (hi pins s σ H _ I h) fun iv s1 z1=>?_
 obtain⟨y,H1,I1,ry,q1⟩:=z1;refine aZ (ho pins s1 σ H1 _ I1 q1) fun u s2 z2=>?_
 obtain⟨x,H2,I2,rx,G,a,kvs,ps,rfl,sm,da,hk,hy,q2⟩:=z2;obtain rfl:u=Xe a:=rx;obtain⟨b,rfl⟩:=rT hy;obtain rfl:iv=Xe b:=ry;obtain⟨z1,z2,xs,z3,z4,dd⟩:=wc I2 hw sm da;refine wpAny_notIn_heap (knd:=fg X.prog X.w) (show X.A.in1.units+64<cLine by show X.A.units+1+64<cLine;omega) (we I2 hk hy) z1 dd ?_
 have e:(!(atKey xs (.tuple ps)).isSome)=(fR kvs (.tuple ps)).isNone:=by
  obtain⟨i1,i2⟩:=z4.at_ (.tuple ps)
  cases g:fR kvs (.tuple ps) with
  | none=>rw[i2 g];rfl
  | some d=>obtain⟨q,e1,_⟩:=i1 d g;rw[e1];rfl
 rw[e];exact⟨.bl _,H2,I2.tok _,rfl,q2⟩
theorem D5 (hw:cl.w=X.w) (hu:X.A.units+66<cLine) (ho:PE X o td) (hi:PE X i ty) (hv:PE X value tv) (hs:Yf value (some (.Subscript o i pos')) pos.line X.env=pure false) :
  PS X (.Assign [.Subscript o i pos'] value pos) (Nt X.K cl td ty tv):=by
 intro pins s σ H D I h;refine wpAny_Assign_Subscript (aZ (hv pins s σ H _ I h) fun r s1 z1=>?_) hs;obtain⟨v,H1,I1,rv,q1⟩:=z1;refine aZ (ho pins s1 σ H1 _ I1 q1) fun u s2 z2=>?_
 obtain⟨x,H2,I2,rx,q2⟩:=z2;refine aZ (hi pins s2 σ H2 _ I2 q2) fun iv s3 z3=>?_
 obtain⟨y,H3,I3,ry,G,a,kvs,ps,d,ux,rfl,sm,da,he,hk,hy,hg,hl,hd,q3⟩:=z3;obtain rfl:u=Xe a:=rx;obtain⟨b,rfl⟩:=rT hy;obtain rfl:iv=Xe b:=ry;obtain⟨z1,z2,xs,z3,z4,dd⟩:=wc I3 hw sm da;have nk:=(z4.at_ (.tuple ps)).2 hg;refine wpAny_setItem_heap (knd:=fg X.prog X.w) (hsz:=by rw[←z4.length];exact z2) (show X.A.in1.units+64<cLine by show X.A.units+1+64<cLine;omega) (we I3 hk (hy.same sm)) dd fun h' Pb CD=>?_
 have e:storedH xs (.tuple ps) b r=xs++[(.tuple ps,b,r)]:=by unfold storedH;rw[nk];rfl
 rw[e] at Pb;refine⟨σ,_,Dr I3 (by rw[z3];exact XD) CD (let ⟨q,_,_,hq,_⟩:=Pb;⟨q,hq⟩) (D1 Pb),q3 _ fun H' e'=>?_⟩;obtain⟨_,_,_,_,_,_,_,_,nd⟩:=Pb;refine⟨z1,by rw[u_];exact hl,_,by rw[hw];exact e',nd,z4.snoc ⟨hk,hy,v,rv,hd⟩⟩
end
end PV
namespace PV
open PySem L2 SH
section
variable {K:e_}{cl:Cl}{Γ:Gm}{c ca cb cc:C}{σ:St}{G H:Hp}{Q:VK}{X:Cx}{e a b:Expr}{pos p:Pos}
theorem nG {M:Mem}{d:Dt}{k:Addr->List (P_×Dt)->Prop} (h:HF M d k):∃ q ds,d=.jz q/\M q=some (.md ds)/\k q ds:=by
 cases d with
 | jz q =>
  change (match M q with | some (.md ds)=>k q ds | _=>False) at h
  cases e:M q with
  | none=>rw[e] at h;exact h.elim
  | some m =>
   rw[e] at h
   cases m with
   | ml _=>exact h.elim
   | mo _ _ _=>exact h.elim
   | md ds=>exact⟨q,ds,rfl,e,h⟩
 | _=>exact (show False from h).elim
theorem Nu {b:Expr} (h:iL b=true):G9 b:=fun o i=>by
 cases b<;>first | rfl | cases h
theorem Nv (hw:cl.w=X.w):PE X (.Dict [] [] pos) (tp X.K cl Γ .Hu):=(D3 hw).imp fun σ H Q h=>by
 obtain⟨B,ρ,M,G,R,h1,h2,h3⟩:=h;intro p hs hp;have f2:=a9.cell (o:=pv cl.w p []) (m:=.md []) h1.b5.gh h1.b5.mem hp fun H' e=>⟨hs,Yb _,[],e,adE,.nil⟩
 refine h3 (.jz p) (.ref p) _ _ _ f2 (by unfold Is;rfl) (h2 p ?_)
 cases e:M p with
 | none=>rfl
 | some w=>obtain⟨u,hu⟩:=(h1.b5.mem p w e).2.jA;rw[hp] at hu;cases hu
theorem Nw (hw:cl.w=X.w) (hu:X.A.units+66<cLine) (ha:PE X a (tp X.K cl Γ ca)) (hb:PE X b (tp X.K cl Γ cb)) (hs:iL b=true):PE X (.Subscript a b pos) (tp X.K cl Γ (.HC ca cb)):=(D4 hw hu ha hb (Nu hs)).imp fun σ H Q h=>by
 obtain⟨B,ρ,M,G,R,h1,h2,h3⟩:=h;refine⟨B,ρ,M,G,_,h1,h2,fun x vx M1 G1 H1 f1 i1 hx=>⟨B,ρ,M1,G1,_,h1.on f1,hx,fun y vy M2 G2 H2 f2 i2 hz=>?_⟩⟩;obtain⟨ps,e1,e2,hz⟩:=hz;obtain⟨q,kvs,rfl,hm,v,hg,hR⟩:=nG hz;unfold Is at i1;subst i1;exact⟨G2,q,kvs,ps,v,rfl,f2.gh,(f2.mem q _ hm).2,e2,i2.dat f2.gh e1,hg,fun v' iv=>h3 _ _ M2 G2 H2 (f1.trans f2) iv hR⟩
theorem Bn (h:tp K cl Γ (.DM ca cb) σ H Q):Fb K cl (tp K cl Γ ca) (tp K cl Γ cb) σ H Q:=by
 obtain⟨B,ρ,M,G,R,h1,h2,h3⟩:=h;refine⟨B,ρ,M,G,_,h1,h2,fun x vx M1 G1 H1 f1 i1 hx=>⟨B,ρ,M1,G1,_,h1.on f1,hx,fun y vy M2 G2 H2 f2 i2 hz=>?_⟩⟩;obtain⟨ps,e1,e2,hz⟩:=hz;obtain⟨q,kvs,rfl,hm,hR⟩:=nG hz;unfold Is at i2;subst i2;exact⟨G2,q,kvs,ps,rfl,f2.gh,(f2.mem q _ hm).2,e2,(i1.mono f2.g).dat f2.gh e1,h3 _ _ M2 G2 H2 (f1.trans f2) Is.zd hR⟩
theorem Nx (hw:cl.w=X.w) (hu:X.A.units+66<cLine) (ha:PE X a (tp X.K cl Γ ca)) (hb:PE X b (tp X.K cl Γ cb)) (hs:fk b=true):PE X (.Compare a [.NotIn] [b] pos) (tp X.K cl Γ (.DM ca cb)):=(zR (xE hw hu ha hb) (cW hs)).imp fun _ _ _=>Bn
theorem Ny (hw:cl.w=X.w) (hu:X.A.units+66<cLine) (ha:PE X a (tp X.K cl Γ ca)) (hb:PE X b (tp X.K cl Γ cb)) (hs:fk b=true):PT X (.Compare a [.NotIn] [b] pos) (tt X.K cl Γ (.DM ca cb)):=(zS (xE hw hu ha hb) (cW hs)).imp fun _ _ _ h=>Bn (uv h)
end
end PV
namespace PV
open PySem L2 SH
section
variable (K:e_) (cl:Cl)
structure Lk (ii:Bool) (B:Bs) (G:Hp) (E:za) (D:Ends):Prop where
 ii:ii=false->B.sf=none
 nx:∀ ρ M σ H G',ah G G'->Rep K cl B ρ M σ H G'->E.nx ρ M->D.nx σ H
 rt:∀ d v ρ M σ H G',Rep K cl B ρ M σ H G'->Is K cl G' d v->E.rt d M->D.rt v H
 bk:∀ ρ M σ H G',ah G G'->Rep K cl B ρ M σ H G'->E.bk ρ M->D.bk σ H
 ct:∀ ρ M σ H G',ah G G'->Rep K cl B ρ M σ H G'->E.ct ρ M->D.ct σ H
 ro:∀ ds us a ρ M σ H G',Rep K cl B ρ M σ H G'->B.H a=none->G' a=none->M a=none->H a=some (.lst us)->IsL K cl G' ds us->E.ro ds M->D.rt (.ref a) H
inductive tS (Γ:Gm) (ii:Bool) (s:S) (D:Ends) (σ:St) (H:Hp):Prop where
 | mk (B:Bs) (ρ:En) (M:Mem) (G:Hp) (E:za):Rep K cl B ρ M σ H G->ex Γ s ρ M E->Lk K cl ii B G E D->tS Γ ii s D σ H
end
section
variable {K:e_}{cl:Cl}{Γ:Gm}{c ca cb cc:C}{σ:St}{G H:Hp}{D:Ends}{B:Bs}{ρ:En}{M:Mem}{E:za}{ii:Bool}
theorem Lk.later {G':Hp} (l:Lk K cl ii B G E D) (s:ah G G'):Lk K cl ii B G' E D:=⟨l.ii,fun ρ M σ H G2 s2=>l.nx ρ M σ H G2 (s.trans s2),l.rt,fun ρ M σ H G2 s2=>l.bk ρ M σ H G2 (s.trans s2),fun ρ M σ H G2 s2=>l.ct ρ M σ H G2 (s.trans s2),l.ro⟩
theorem aW {α:Type}{l:List α}{k i:Nat}{x y:α} (h:(l.set k x)[i]? = some y):(i=k/\y=x/\k<l.length)∨(i≠k/\l[i]? = some y):=by
 by_cases e:i=k
 ·subst e;have hl:i<(l.set i x).length:=(j_.mp h).1;rw[Yl] at hl;rw[Yp hl] at h;exact .inl ⟨rfl,(O_ h).symm,hl⟩
 ·rw[Zn (YE e)] at h;exact .inr ⟨e,h⟩
theorem nH {α:Type}{l:List α}{k i:Nat}{x:α} (h:i≠k):(l.set k x)[i]? = l[i]? := Zn (YE h)
theorem Nz {k:Nat}{x:l_ V} (r:Rep K cl B ρ M σ H G) (hk:k≠0∨B.sf=none):∀ a,B.sf=some a->(σ.set k x)[(0:Nat)]? = some (some (.ref a)):=fun a e=>by
 rcases hk with hk | hk
 ·rw[nH (YE hk)];exact r.s0 a e
 ·rw[hk] at e;cases e
theorem Lk.k {k:Nat} (l:Lk K cl ii B G E D) (h:ii=true->k≠0):k≠0∨B.sf=none:=by
 cases ii with
 | true=>exact .inl (h rfl)
 | false=>exact .inr (l.ii rfl)
theorem Rep.zh {k:Nat}{d:Dt}{v:V} (r:Rep K cl B ρ M σ H G) (mD:k≠0∨B.sf=none) (i:Is K cl G d v):Rep K cl B (ρ.set k (.sh d)) M (σ.set k (some v)) H G:=by
 obtain⟨oa,h1,h2⟩:=r.ow;refine⟨r.b5,by rw[Yl,Yl];exact r.len,Nz r mD,fun j e hj=>?_,oa,fun j e hj=>?_,fun j l e e' hj hl=>?_⟩
 ·rcases aW hj with ⟨rfl,he,hk⟩ | ⟨hn,hj⟩
  ·cases he;exact⟨v,Yp (by rw[←r.len];exact hk),i⟩
  ·rw[nH hn];exact r.sh j e hj
 ·rcases aW hj with ⟨rfl,he,hk⟩ | ⟨hn,hj⟩
  ·cases he
  ·rw[nH hn];exact h1 j e hj
 ·rcases aW hj with ⟨rfl,he,hk⟩ | ⟨hn,hj⟩
  ·cases he
  ·rcases aW hl with ⟨rfl,he,hk⟩ | ⟨EO,hl⟩
   ·cases he
   ·exact h2 j l e e' hj hl
theorem Rep.NA {k:Nat}{d:Dt}{a:Addr}{H' G':Hp}{M':Mem}{H0:Hp} (r:Rep K cl B ρ M σ H0 G) (mD:k≠0∨B.sf=none) (f:a9 K cl none G H0 M G' H' M') (ha:H0 a=none) (ga:G' a=none) (ma:M' a=none) {o:MO} (ho:Hq d=some o) (hc:bX K cl G' H' a o) :
  Rep K cl B (ρ.set k (.ow d)) M' (σ.set k (some (.ref a))) H' G':=by
 have r':=r.on f;obtain⟨oa,h1,h2⟩:=r.ow
 have fr:∀ j e,ρ[j]? = some (Sl.ow e)->oa j≠a:=fun j e hj z=>by
  obtain⟨_,_,_,_,o,_,hc⟩:=h1 j e hj;obtain⟨u,hu⟩:=hc.jA;rw[z,ha] at hu;cases hu
 have ba:B.H a=none:=br r.b5.jA ha;refine⟨r'.b5,by rw[Yl,Yl];exact r.len,Nz r mD,fun j e hj=>?_,fun j=>if j=k then a else oa j,fun j e hj=>?_,fun j l e e' hj hl q=>?_⟩
 ·rcases aW hj with ⟨rfl,he,hk⟩ | ⟨hn,hj⟩
  ·cases he
  ·rw[nH hn];exact r'.sh j e hj
 ·rcases aW hj with ⟨rfl,he,hk⟩ | ⟨hn,hj⟩
  ·cases he
   dsimp only;rw[s_ rfl];exact⟨Yp (by rw[←r.len];exact hk),ga,ma,.inl ba,o,ho,hc⟩
  ·dsimp only;rw[n_ hn,nH hn];exact⟨(h1 j e hj).1,(h1 j e hj).2.b5 f⟩
 ·rcases aW hj with ⟨rfl,he,hk⟩ | ⟨hn,L4⟩
  ·rcases aW hl with ⟨rfl,Vi,L3⟩ | ⟨EO,Dh⟩
   ·rfl
   ·dsimp only at q;rw[s_ rfl,n_ EO] at q;exact absurd q.symm (fr l e' Dh)
  ·rcases aW hl with ⟨rfl,Vi,L3⟩ | ⟨EO,Dh⟩
   ·dsimp only at q;rw[n_ hn,s_ rfl] at q;exact absurd q (fr j e L4)
   ·dsimp only at q;rw[n_ hn,n_ EO] at q;exact h2 j l e e' L4 Dh q
theorem Rep.chg {k:Nat}{d d':Dt}{o':MO}{u:HO} (r:Rep K cl B ρ M σ H G) (hk:ρ[k]? = some (.ow d)):∃ a o,σ[k]? = some (some (.ref a))/\Hq d=some o/\bX K cl G H a o/\M a=none/\G a=none /\
  (Hq d'=some o'->(∀ H',H' a=some u->bX K cl G H' a o')->Rep K cl B (ρ.set k (.ow d')) M σ (upd H a u) G):=by
 obtain⟨oa,h1,h2⟩:=r.ow;obtain⟨e1,ga,ma,ba,o,ho,hc⟩:=h1 k d hk;refine⟨oa k,o,e1,ho,hc,ma,ga,fun kA FR=>?_⟩;obtain⟨w,hw⟩:=hc.jA;have ne:∀ b v,H b=some v->b≠oa k->(upd H (oa k) u) b=some v:=fun b v hb hn=>by rw[aw hn];exact hb
 have gn:∀ b v,G b=some v->b≠oa k:=fun b v hb z=>by rw[z,ga] at hb;cases hb
 have mn:∀ b v,M b=some v->b≠oa k:=fun b v hb z=>by rw[z,ma] at hb;cases hb
 refine⟨⟨r.b5.g,fun b v hb=>ne b v (r.b5.gh b v hb) (gn b v hb),fun b v hb=>?_,r.b5.gf,fun b v hb hm hs=>ne b v (r.b5.h b v hb hm hs) fun z=>?_,fun b v hb=>⟨(r.b5.mem b v hb).1,(r.b5.mem b v hb).2.mono (ah.refl G) fun x hx=>ne b x hx (mn b v hb)⟩,r.b5.mf,r.b5.ke⟩,
  by rw[Yl];exact r.len,r.s0,fun j e hj=>?_,oa,fun j e hj=>?_,fun j l e e' hj hl=>?_⟩
 ·obtain⟨v',hv⟩:=r.b5.jA b v hb;by_cases z:b=oa k
  ·rw[z];exact⟨u,ay⟩
  ·exact⟨v',ne b v' hv z⟩
 ·subst z;rcases ba with ba | ⟨ba,_⟩
  ·rw[ba] at hb;cases hb
  ·exact hs ba
 ·rcases aW hj with ⟨rfl,he,_⟩ | ⟨hn,hj⟩
  ·cases he
  ·exact r.sh j e hj
 ·rcases aW hj with ⟨rfl,he,_⟩ | ⟨hn,hj⟩
  ·cases he
   exact⟨e1,ga,ma,ba,o',kA,FR _ ay⟩
  ·obtain⟨q1,q2,q3,q4,o2,q5,q6⟩:=h1 j e hj;exact⟨q1,q2,q3,q4,o2,q5,q6.mono (ah.refl G) fun x hx=>ne _ x hx fun z=>hn (h2 j k e d hj hk z)⟩
 ·have back:∀ {j:Nat}{e:Dt},(ρ.set k (.ow d'))[j]? = some (Sl.ow e)->∃ e0,ρ[j]? = some (Sl.ow e0):=fun {j e} hj=>by
   rcases aW hj with ⟨rfl,_,_⟩ | ⟨_,hj⟩
   ·exact⟨d,hk⟩
   ·exact⟨e,hj⟩
  obtain⟨e0,Q6⟩:=back hj;obtain⟨l0,Q7⟩:=back hl;exact h2 j l e0 l0 Q6 Q7
theorem Rep.du {k:Nat}{d:Dt} (r:Rep K cl B ρ M σ H G) (hk:ρ[k]? = some (.ow d)) (h0:k≠0):∃ G',ah G G'/\Rep K cl B (ρ.set k (.sh d)) M σ H G':=by
 obtain⟨oa,h1,h2⟩:=r.ow;obtain⟨e1,ga,ma,ba,o,ho,hc⟩:=h1 k d hk;obtain⟨w,hw⟩:=hc.jA;have bn:B.H (oa k)=none:=ba.elim id fun z=>absurd z.2 h0
 have sm:ah G (upd G (oa k) w):=ah.put ga
 have is:Is K cl (upd G (oa k) w) d (.ref (oa k)):=by
  cases d<;>first | (cases ho;done) | skip
  ·cases ho
   obtain⟨vs,q1,q2⟩:=hc;rw[hw] at q1;cases q1;unfold Is;exact⟨_,vs,rfl,ay,q2.mono sm⟩
  ·cases ho
   obtain⟨dx,vs,q1,q2,q3⟩:=hc;rw[hw] at q1;cases q1;unfold Is;exact⟨_,dx,vs,rfl,ay,q2,q3.mono sm⟩
 refine⟨upd G (oa k) w,sm,r.b5.Nl bn ga ma hw,by rw[Yl];exact r.len,r.s0,fun j e hj=>?_,oa,fun j e hj=>?_,fun j l e e' hj hl=>?_⟩
 ·rcases aW hj with ⟨rfl,he,_⟩ | ⟨hn,hj⟩
  ·cases he;exact⟨_,e1,is⟩
  ·obtain⟨v,q1,q2⟩:=r.sh j e hj;exact⟨v,q1,q2.mono sm⟩
 ·rcases aW hj with ⟨rfl,he,_⟩ | ⟨hn,hj⟩
  ·cases he
  ·obtain⟨q1,q2,q3,q4,o2,q5,q6⟩:=h1 j e hj;exact⟨q1,by rw[aw fun z=>hn (h2 j k e d hj hk z)];exact q2,q3,q4,o2,q5,q6.mono sm fun x hx=>hx⟩
 ·rcases aW hj with ⟨rfl,he,_⟩ | ⟨_,hj⟩
  ·cases he
  ·rcases aW hl with ⟨rfl,he,_⟩ | ⟨_,hl⟩
   ·cases he
   ·exact h2 j l e e' hj hl
theorem cG {k:Nat}{q:Dt->Prop} (h:b6 ρ k q):∃ d,ρ[k]? = some (.ow d)/\q d:=by
 unfold b6 at h;split at h
 ·exact⟨_,by assumption,h⟩
 ·exact h.elim
theorem zi {k:Nat}{q:Dt->Prop} (h:lT ρ k q):∃ d,ρ[k]? = some (.sh d)/\q d:=by
 unfold lT at h;split at h
 ·exact⟨_,by assumption,h⟩
 ·exact h.elim
end
end PV
namespace PV
open PySem L2 SH
section
variable {K:e_}{cl:Cl}{Γ:Gm}{c ca cb cc:C}{σ:St}{G H:Hp}{D:Ends}{X:Cx}{st:Stmt}{bp:List Stmt}{sa sb:S}{e a b o tg:Expr}{es:List Expr}{pos p p' apos:Pos}{n:Nat}{fns kN cls nE:List Str}{nF:List Nat}{ii:Bool}
theorem Im:kC X [] (tS X.K cl Γ ii .skip):=CU.imp fun D σ H h=>by
 obtain⟨B,ρ,M,G,E,h1,h2,h3⟩:=h;exact h3.nx ρ M σ H G (ah.refl G) h1 h2
theorem NB (ha:PS X st (tS X.K cl Γ ii sa)) (hb:kC X bp (tS X.K cl Γ ii sb)):kC X (st::bp) (tS X.K cl Γ ii (.seq sa sb)):=(zV ha hb).imp fun D σ H h=>by
 obtain⟨B,ρ,M,G,E,h1,h2,h3⟩:=h;exact⟨B,ρ,M,G,_,h1,h2,⟨h3.ii,fun ρ' M' σ' H' G' s r q=>⟨B,ρ',M',G',E,r,q,h3.later s⟩,h3.rt,h3.bk,h3.ct,h3.ro⟩⟩
theorem NC {k:Nat} (hk:k≠0) (hb:kC X bp (tS X.K cl Γ ii sb)):kC X bp (tS X.K cl Γ ii (.seq (.du k) sb)):=hb.imp fun D σ H h=>by
 obtain⟨B,ρ,M,G,E,h1,h2,h3⟩:=h;obtain⟨d,e,q⟩:=cG (show b6 ρ k _ from h2);obtain⟨G',s,r⟩:=h1.du e hk;exact⟨B,_,M,G',E,r,q,h3.later s⟩
theorem Fc {k:Nat}{x:Str} (hN:X.N.Nodup) (hi:X.N[k]? = some x) (hx:Loc X.env.scope x) (hf:X.fn x=true) (mD:ii=true->k≠0) (hs:Yf e (some (.Name x p')) pos.line X.env=pure false) (he:PE X e (tp X.K cl Γ c)):PS X (.Assign [.Name x p'] e pos) (tS X.K cl Γ ii (.set k c)) :=
 (vA hN hi hx he hs (.inl hf)).imp fun D σ H h=>by
  obtain⟨B,ρ,M,G,E,h1,h2,h3⟩:=h;exact⟨B,ρ,M,G,_,h1,h2,fun d v M' G' H' f i q=>h3.nx _ M' _ H' G' f.g ((h1.on f).zh (h3.k mD) i) q⟩
theorem xF {k:Nat} (mD:ii=true->k≠0) (h:tS K cl Γ ii (.cU k c) D σ H):tf K cl Γ c σ H fun v H1=>D.nx (σ.set k (some v)) H1:=by
 obtain⟨B,ρ,M,G,E,h1,h2,h3⟩:=h;refine⟨B,ρ,M,G,_,h1,h2,fun ds vs M' G' H' p f hp i q=>h3.nx _ M' _ _ G' f.g ?_ q⟩;have up:ah H' (upd H' p (.lst vs)):=ah.put hp;have f2:a9 K cl none G' H' M' G' (upd H' p (.lst vs)) M':=⟨ah.refl _,f.gh.trans up,fun a u h=>⟨u,up a u h⟩,fun a u h n=>absurd h (by rw[n];exact fun z=>nomatch z),fun a u h _ _=>up a u h,fun a u h=>⟨(f.mem a u h).1,(f.mem a u h).2.mono (ah.refl _) fun x hx=>up a x hx⟩,fun a u h n=>absurd h (by rw[n];exact fun z=>nomatch z),fun a u h=>⟨u,h,rfl⟩⟩;exact (h1.on f).NA (h3.k mD) f2 hp (v9 f.gh hp) (uy f.mem hp) (o:=.ml ds) rfl ⟨vs,ay,i⟩
theorem Bo {k:Nat}{x:Str} (hN:X.N.Nodup) (hi:X.N[k]? = some x) (hx:Loc X.env.scope x) (hf:X.fn x=true) (mD:ii=true->k≠0) (hs:Yf e (some (.Name x p')) pos.line X.env=pure false) (he:PE X e (tf X.K cl Γ c)):PS X (.Assign [.Name x p'] e pos) (tS X.K cl Γ ii (.cU k c)) :=
 (vA hN hi hx he hs (.inl hf)).imp fun D σ H h=>xF mD h
theorem Io {k q:Nat}{x:Str} (hN:X.N.Nodup) (hi:X.N[k]? = some x) (hx:Loc X.env.scope x) (hf:X.fn x=true) (mD:ii=true->k≠0) (hs:Yf e (some (.Name x p')) pos.line X.env=pure false) (he:PE X e (O9 X.K cl Γ q c)):PS X (.Assign [.Name x p'] e pos) (tS X.K cl Γ ii (.y6 k q c)) :=
 (vA hN hi hx he hs (.inl hf)).imp fun D σ H h=>by
  obtain⟨B,ρ,M,G,E,h1,h2,h3⟩:=h;exact⟨B,ρ,M,G,_,h1,h2,fun fs xs us M2 G2 H2 y dx hR f hy gy my ey l i=>h3.nx _ M2 _ _ G2 f.g (h1.NA (h3.k mD) f hy gy my (d:=.obj q fs xs) (o:=.mo q fs xs) rfl ⟨dx,us,ey,l,i⟩) hR⟩
theorem Q8 (hs:Yf e none pos.line X.env=pure false) (he:PE X e (tp X.K cl Γ c)):PS X (.Expr e pos) (tS X.K cl Γ ii (.ex c)):=(jG he hs).imp fun D σ H h=>by
 obtain⟨B,ρ,M,G,E,h1,h2,h3⟩:=h;exact⟨B,ρ,M,G,_,h1,h2,fun d v M' G' H' f i q=>h3.nx _ M' _ H' G' f.g (h1.on f) q⟩
theorem ND (he:PE X e (tp X.K cl Γ c)):PS X (.Return (some e) pos) (tS X.K cl Γ ii (.ret c)):=(zW he).imp fun D σ H h=>by
 obtain⟨B,ρ,M,G,E,h1,h2,h3⟩:=h;exact⟨B,ρ,M,G,_,h1,h2,fun d v M' G' H' f i q=>h3.rt d v ρ M' σ H' G' (h1.on f) i q⟩
theorem Iq:PS X (.Pass pos) (tS X.K cl Γ ii .skip):=CV.imp fun D σ H h=>by
 obtain⟨B,ρ,M,G,E,h1,h2,h3⟩:=h;exact h3.nx ρ M σ H G (ah.refl G) h1 h2
theorem D6:PS X st (tS X.K cl Γ ii .never):=zX.imp fun D σ H h=>by
 obtain⟨B,ρ,M,G,E,h1,h2,h3⟩:=h;exact h2
theorem NE {t:Expr}{ba bb:List Stmt} (ht:PT X t (tt X.K cl Γ c)) (ha:kC X ba (tS X.K cl Γ ii sa)) (hb:kC X bb (tS X.K cl Γ ii sb)):PS X (.If t ba bb pos) (tS X.K cl Γ ii (.ite c sa sb)):=(K7 ht ha hb).imp fun D σ H h=>by
 obtain⟨B,ρ,M,G,E,h1,h2,h3⟩:=h;refine⟨B,ρ,M,G,fun c M1=>if c=true then ex Γ sa ρ M1 E else ex Γ sb ρ M1 E,h1,h2,fun c M1 G1 H1 f hk=>?_⟩
 cases c with
 | true=>rw[s_ rfl] at hk ⊢;exact⟨B,ρ,M1,G1,E,h1.on f,hk,h3.later f.g⟩
 | false=>rw[n_ r_] at hk ⊢;exact⟨B,ρ,M1,G1,E,h1.on f,hk,h3.later f.g⟩
theorem NF {t:Expr}{bd:List Stmt} (hp:ab7 (model X.prog X.w) X.A X.env X.xe) (ht:PT X t (tt X.K cl Γ c)) (hb:kC X bd (tS X.K cl Γ ii sb)):PS X (.While t bd [] pos) (tS X.K cl Γ ii (.E5 c sb)):=(z6 hp ht hb).imp fun D σ H h=>by
 obtain⟨B,ρ,M,G,E,h1,h2,h3⟩:=h;obtain⟨W,⟨m0,w0⟩,turn⟩:=h2;refine⟨fun m σ' H'=>∃ ρ' M' G',ah G G'/\Rep X.K cl B ρ' M' σ' H' G'/\W m ρ' M',⟨m0,ρ,M,G,ah.refl G,h1,w0⟩,?_⟩;rintro m σ' H' ⟨ρ',M',G',s,r,w⟩;refine⟨B,ρ',M',G',_,r,turn m ρ' M' w,fun c M1 G1 H1 f hk=>?_⟩
 cases c with
 | false=>rw[n_ r_] at hk ⊢;exact h3.nx _ _ _ _ G1 (s.trans f.g) (r.on f) hk
 | true =>
  rw[s_ rfl] at hk ⊢;refine⟨fun σ2 H2=>∃ m',m'<m/\∃ ρ2 M2 G2,ah G G2/\Rep X.K cl B ρ2 M2 σ2 H2 G2/\W m' ρ2 M2,fun σ2 H2 z=>z,B,ρ',M1,G1,_,r.on f,hk,⟨h3.ii,?_,h3.rt,?_,?_,h3.ro⟩⟩
  ·rintro ρ2 M2 σ2 H2 G2 s2 r2 ⟨m',hm,w2⟩;exact⟨m',hm,ρ2,M2,G2,(s.trans f.g).trans s2,r2,w2⟩
  ·intro ρ2 M2 σ2 H2 G2 s2 r2 q;exact h3.nx _ _ _ _ G2 ((s.trans f.g).trans s2) r2 q
  ·rintro ρ2 M2 σ2 H2 G2 s2 r2 ⟨m',hm,w2⟩;exact⟨m',hm,ρ2,M2,G2,(s.trans f.g).trans s2,r2,w2⟩
def D7 (K:e_) (cl:Cl) (ii:Bool) (tg:List Nat) (g:TG):Prop:=∀ {B:Bs}{ρ:En}{M:Mem}{σ:St}{H G:Hp}{d:Dt}{x:V}{k:En->Prop}{R:St->Hp->Prop},(ii=false->B.sf=none)->Rep K cl B ρ M σ H G->Is K cl G d x->gV ρ tg d k->(∀ ρ' σ',Rep K cl B ρ' M σ' H G->k ρ'->R σ' H)->g x σ H R
theorem k_of {B:Bs}{i:Nat} (hi:ii=true->i≠0) (h:ii=false->B.sf=none):i≠0∨B.sf=none:=by
 cases ii with
 | true=>exact .inl (hi rfl)
 | false=>exact .inr (h rfl)
theorem Ir {i:Nat} (hi:ii=true->i≠0):D7 K cl ii [i] (dE i):=fun {B ρ M σ H G d x k R} hb r is h q=>q _ _ (r.zh (k_of hi hb) is) h
theorem Iu {i j:Nat} (hi:ii=true->i≠0) (hj:ii=true->j≠0):D7 K cl ii [i,j] (zZ K 2 (jH (dE i) (jH (dE j) zY))):=fun {B ρ M σ H G d x k R} hb r is h q=>by
 cases d with
 | tup ds =>
  match ds,h with
  | [d1,d2],h =>
   unfold Is at is;obtain⟨t,vs,rfl,h1,h2⟩:=is;have l2:=h2.length
   match vs,l2 with
   | [v1,v2],_ =>
    unfold IsL at h2;obtain⟨u1,r1,e1,g1,h2⟩:=h2;cases e1;unfold IsL at h2;obtain⟨u2,r2,e2,g2,h2⟩:=h2;cases e2;exact⟨t,[v1,v2],rfl,eC.of (r.b5.gh _ _ h1),rfl,v1,[v2],rfl,v2,[],rfl,rfl,q _ _ ((r.zh (k_of hi hb) g1).zh (k_of hj hb) g2) h⟩
 | _=>exact (show False from h).elim
theorem Iw {iter:Expr}{bd:List Stmt}{D8:List Nat}{g:TG} (hp:ab7 (model X.prog X.w) X.A X.env X.xe) (hc:X.calm=true) (hi:PI X tg iter (zN X.K cl Γ c)) (hg:PG X tg g) (Vj:D7 X.K cl ii D8 g) (hb:kC X bd (tS X.K cl Γ ii sb))
  (hs:∀ x,Yg iter X.env x=pure x):PS X (.For tg iter bd [] pos) (tS X.K cl Γ ii (.bx c D8 sb)):=(Gd hp hc hi hg hb hs).imp fun D σ H h=>by
 obtain⟨B,ρ,M,G,E,h1,h2,h3⟩:=h;refine⟨B,ρ,M,G,_,h1,h2,fun items M' G' H' J f ok hl=>?_⟩;refine⟨fun i m σ' Hc=>∃ ρc Mc Gc,m=items.length-i/\i<=items.length/\ah G' Gc/\Rep X.K cl B ρc Mc σ' Hc Gc/\em (fun x ρ M E=>gV ρ D8 x fun ρ'=>ex Γ sb ρ' M E) E (items.drop i) ρc Mc,⟨items.length,ρ,M',G',by omega,Yb _,ah.refl _,h1.on f,hl⟩,?_⟩;rintro i m σ' Hc ⟨ρc,Mc,Gc,rfl,hi,s,r,hl⟩;obtain⟨Nn,QX⟩:=ok i Gc Hc Mc s r.b5.gh r.b5.mem;by_cases lR:i<items.length
 ·refine .inr ⟨(Nn lR).1,fun σ2 H2=>∃ ρ2 M2 G2,ah G' G2/\Rep X.K cl B ρ2 M2 σ2 H2 G2/\em (fun x ρ M E=>gV ρ D8 x fun ρ'=>ex Γ sb ρ' M E) E (items.drop (i+1)) ρ2 M2,fun σ2 H2 ⟨ρ2,M2,G2,s2,r2,l2⟩=>⟨items.length-(i+1),by omega,ρ2,M2,G2,rfl,lR,s2,r2,l2⟩,fun x Hx hy=>?_⟩;obtain⟨d,Gx,ed,QY,fx⟩:=(Nn lR).2 x Hx hy
  have QZ:items.drop i=d::items.drop (i+1):=by
   rw[XM lR];congr 1;have:=b_ lR;rw[this] at ed;exact O_ ed
  rw[QZ] at hl;have Vk:gV ρc D8 d (fun ρ'=>ex Γ sb ρ' Mc { E with nx:=em (fun x ρ M E=>gV ρ D8 x fun ρ'=>ex Γ sb ρ' M E) E (items.drop (i+1)),ct:=em (fun x ρ M E=>gV ρ D8 x fun ρ'=>ex Γ sb ρ' M E) E (items.drop (i+1)),bk:=E.nx }):=hl;refine Vj h3.ii (r.on fx) QY Vk fun ρ' σ2 r2 hk=>⟨B,ρ',Mc,Gx,{ E with nx:=em (fun x ρ M E=>gV ρ D8 x fun ρ'=>ex Γ sb ρ' M E) E (items.drop (i+1)),ct:=em (fun x ρ M E=>gV ρ D8 x fun ρ'=>ex Γ sb ρ' M E) E (items.drop (i+1)),bk:=E.nx },r2,hk,⟨h3.ii,?_,h3.rt,?_,?_,h3.ro⟩⟩
  ·intro ρ3 M3 σ3 H3 G3 s3 r3 q;exact⟨ρ3,M3,G3,(s.trans fx.g).trans s3,r3,q⟩
  ·intro ρ3 M3 σ3 H3 G3 s3 r3 q;exact h3.nx _ _ _ _ G3 (f.g.trans ((s.trans fx.g).trans s3)) r3 q
  ·intro ρ3 M3 σ3 H3 G3 s3 r3 q;exact⟨ρ3,M3,G3,(s.trans fx.g).trans s3,r3,q⟩
 ·have e:i=items.length:=by omega
  subst e;rw[ac5] at hl;exact .inl ⟨QX rfl,h3.nx _ _ _ _ Gc (f.g.trans s) r hl⟩
theorem NG {k:Nat}{x:Str}{op:qB} (Vl:op=.add∨op=.sub) (hN:X.N.Nodup) (hi:X.N[k]? = some x) (hx:Loc X.env.scope x) (hf:X.fn x=true) (mD:ii=true->k≠0) (he:PE X e (tp X.K cl Γ c)):PS X (.AugAssign (.Name x p') (HI op) e pos) (tS X.K cl Γ ii (.aug k op c)):=by
 have main:∀ {g:Int->Int->Int},OX X (HI op) (PX g)->(∀ i j (R:Dt->Prop),zb op (.int i) (.int j) R=R (.int (g i j)))->PS X (.AugAssign (.Name x p') (HI op) e pos) (tS X.K cl Γ ii (.aug k op c)):=fun {g} hp hg =>
  (F8 hN hi hx he hp (.inl hf)).imp fun D σ H h=>by
   obtain⟨B,ρ,M,G,E,h1,h2,h3⟩:=h;obtain⟨d,e1,q⟩:=zi (show lT ρ k _ from h2);obtain⟨v,e2,i1⟩:=h1.sh k d e1;refine⟨v,e2,B,ρ,M,G,_,h1,q,fun y vy M' G' H' f i hk=>?_⟩;obtain⟨i0,rfl,Vm⟩:=nC (show vt d _ from hk);obtain⟨j0,rfl,_⟩:=nC Vm;change zb op (.int i0) (.int j0) (fun d=>E.nx (ρ.set k (.sh d)) M') at hk;rw[hg] at hk;unfold Is at i i1;subst i i1;exact⟨i0,j0,rfl,rfl,h3.nx _ M' _ H' G' f.g ((h1.on f).zh (h3.k mD) (by unfold Is;rfl)) hk⟩
 rcases Vl with rfl | rfl
 ·exact main F9 fun _ _ _=>rfl
 ·exact main Ga fun _ _ _=>rfl
noncomputable def D9 (f:Str) (v:V):List Str->List V->List V
 | [],_=>[v]
 | _::_,[]=>[v]
 | g::fs,u::us=>if g=f then v::us else u::D9 f v fs us
theorem xG {f:Str}{d:Dt}{v:V}:∀ {fs:List Str}{xs:List Dt}{us:List V},fs.length=xs.length->IsL K cl G xs us->Is K cl G d v->fG f v (fs.zip us)=(putD f d fs xs).1.zip (D9 f v fs us)/\(putD f d fs xs).1.length=(putD f d fs xs).2.length/\IsL K cl G (putD f d fs xs).2 (D9 f v fs us)
 | [],[],us,_,h,i=>by unfold IsL at h;subst h;exact⟨rfl,rfl,IsL.cons i IsL.nil⟩
 | [],_::_,_,h,_,_=>by cases h
 | _::_,[],_,h,_,_=>by cases h
 | g::fs,x::xs,us,l,h,i=>by
  unfold IsL at h;obtain⟨u,r,rfl,h1,h2⟩:=h;unfold putD D9;rw[YB];unfold fG;by_cases e:g=f
  ·rw[s_ e,s_ e,s_ e];exact⟨rfl,l,IsL.cons i h2⟩
  ·rw[n_ e,n_ e,n_ e];obtain⟨q1,q2,q3⟩:=xG (f:=f) (by simpa using l) h2 i;exact⟨by rw[q1];rfl,by simpa using q2,IsL.cons h1 q3⟩
theorem kQ {d:Dt}{k:Nat->List Str->List Dt->Prop} (h:pA d k):∃ n fs xs,d=.obj n fs xs/\k n fs xs:=by
 cases d with
 | obj n fs xs=>exact⟨n,fs,xs,rfl,h⟩
 | _=>exact (show False from h).elim
theorem Ix {k:Nat}{x f:Str}{px:Pos} (F:∀ n f,Γ.at_ n f=true->tF X.K (cl n)/\dF X.K (cl n) f) (hN:X.N[k]? = some x) (hv:zH X.env.scope x) (hd:(x==("__debug__" : Str))=false) (jE:(x==("__classdict__" : Str))=false) (hs:Yf e (some (.Attribute (.Name x px) f p')) pos.line X.env=pure false) (he:PE X e (tp X.K cl Γ c)) :
  PS X (.Assign [.Attribute (.Name x px) f p'] e pos) (tS X.K cl Γ ii (.eE k f c)):=(GA (i6 hN hv hd jE) he hs).imp fun D σ H h=>by
 obtain⟨B,ρ,M,G,E,h1,h2,h3⟩:=h;refine⟨B,ρ,M,G,_,h1,h2,fun d v M' G' H' f i hk=>?_⟩;obtain⟨dd,e1,Bm⟩:=cG hk;obtain⟨n,fs,xs,rfl,g1,g2,g3⟩:=kQ Bm;have r:=h1.on f;obtain⟨oa,o1,_⟩:=r.ow;obtain⟨s1,_,_,_,o,ho,hc⟩:=o1 k _ e1
 cases ho
 obtain⟨dx,us,s2,s3,s4⟩:=hc;obtain⟨z1,z2,z3⟩:=xG s3 s4 i;refine⟨_,s1,oa k,_,dx,_,rfl,s2,(F n _ g1).1,(F n _ g1).2,?_,?_⟩
 ·rw[List.length_zip];omega
 ·obtain⟨a,o,t1,t2,t3,_,_,t4⟩:=r.chg (d':=.obj n (putD _ d fs xs).1 (putD _ d fs xs).2) (o':=.mo n (putD _ d fs xs).1 (putD _ d fs xs).2) (u:=.ins (cl n) dx (fG _ v (fs.zip us))) e1;have ea:oa k=a:=by rw[s1] at t1;cases t1;rfl
  rw[ea];exact h3.nx _ M' σ _ G' f.g (t4 rfl fun H2 e2=>⟨dx,_,by rw[e2,z1],z2,z3⟩) g3
theorem Iy (hs:noStar b=true):((Yq pos (M_ [b] X.env)).all (fun x => !x.1)&&(aaH pos (Zp [] X.env)).all (fun x=>x.1.isSome)&&decide (([b]:List Expr).length+([]:List aal).length+(if ([]:List aal).isEmpty then 0 else 1)<30))=true:=by
 rw[jY (by simp [hs])];rfl
theorem Bp {k:Nat}{ds:List Dt}{B:Bs}{ρ:En}{M:Mem}{E:za} (h1:Rep K cl B ρ M σ H G) (e1:ρ[k]? = some (.ow (.lst ds))):∃ a,σ[k]? = some (some (.ref a))/\Qd K "list" (.ref a) H/\∀ {M':Mem}{G' H':Hp} (f:a9 K cl none G H M G' H' M') {es:List Dt}{us:List V},IsL K cl G' es us ->
  ∃ vs,H' a=some (.lst vs)/\vs.length=ds.length/\Rep K cl B (ρ.set k (.ow (.lst (ds++es)))) M' σ (upd H' a (.lst (vs++us))) G':=by
 obtain⟨oa,o1,_⟩:=h1.ow;obtain⟨s1,q1,q2,q3,o,ho,hc⟩:=o1 k _ e1
 cases ho
 obtain⟨Pc,s2,s3⟩:=hc;refine⟨oa k,s1,.inl ⟨rfl,Pc,cS.of s2⟩,fun {M' G' H'} f {es us} is=>?_⟩;have r:=h1.on f;obtain⟨WZ,W0,_⟩:=r.ow;obtain⟨a,o,t1,t2,t3,_,_,t4⟩:=r.chg (d':=.lst (ds++es)) (o':=.ml (ds++es)) (u:=.lst (Pc++us)) e1;have ea:oa k=a:=by rw[s1] at t1;cases t1;rfl
 rw[ea];have h0:H' a=some (.lst Pc):=by rw[←ea];exact f.h _ _ s2 q2 (fun z=>nomatch z)
 exact⟨Pc,h0,s3.length.symm,t4 rfl fun H2 e2=>⟨_,e2,(s3.mono f.g).append is⟩⟩
theorem Iz {k:Nat}{x:Str} (hN:X.N[k]? = some x) (hv:zH X.env.scope x) (hd:(x==("__debug__" : Str))=false) (jE:(x==("__classdict__" : Str))=false) (hk:k≠0):PS X (.Return (some (.Name x p)) pos) (tS X.K cl Γ ii (.y7 k)):=(zW (i6 hN hv hd jE)).imp fun D σ H h=>by
 obtain⟨B,ρ,M,G,E,h1,h2,h3⟩:=h;obtain⟨l,e1,q⟩:=cG (show b6 ρ k _ from h2);obtain⟨ds,rfl,q2⟩:=dC q;obtain⟨oa,o1,_⟩:=h1.ow;obtain⟨s1,ga,ma,ba,o,ho,hc⟩:=o1 k _ e1
 cases ho
 obtain⟨us,s2,s3⟩:=hc;exact⟨_,s1,h3.ro ds us (oa k) ρ M σ H G h1 (ba.elim id fun z=>absurd z.2 hk) ga ma s2 s3 q2⟩
theorem NH {k:Nat}{x:Str}{px bC:Pos} (hN:X.N[k]? = some x) (hv:zH X.env.scope x) (hd:(x==("__debug__" : Str))=false) (jE:(x==("__classdict__" : Str))=false) (hb:PE X b (tp X.K cl Γ c)) (hs:noStar b=true) (bK:(apos.endLine==bC.line)=true) :
  PS X (.Expr (.Call (.Attribute (.Name x px) "append" apos) [b] [] bC) pos) (tS X.K cl Γ ii (.app k c)) :=
 (jG (Am ZR Z6 aa4 qo (i6 hN hv hd jE) (aE hb bh (ag hs)) rfl (Iy hs) bK (ag hs) rfl)).imp fun D σ H h=>by
  obtain⟨B,ρ,M,G,E,h1,h2,h3⟩:=h;obtain⟨l,e1,q⟩:=cG (show b6 ρ k _ from h2);obtain⟨ds,rfl,q2⟩:=dC q;obtain⟨a,s1,ty,go⟩:=Bp (E:=E) h1 e1;refine⟨_,s1,ty,B,ρ,M,G,_,h1,q2,fun d v M' G' H' f i hk=>?_⟩;obtain⟨vs,g1,g2,g3⟩:=go f (IsL.cons i IsL.nil);exact⟨a,vs,v,rfl,rfl,g1,by rw[g2];exact hk.1,h3.nx _ M' σ _ G' f.g g3 hk.2⟩
theorem NI {k:Nat}{x:Str}{px bC:Pos} (hN:X.N[k]? = some x) (hv:zH X.env.scope x) (hd:(x==("__debug__" : Str))=false) (jE:(x==("__classdict__" : Str))=false) (hb:PE X b (tp X.K cl Γ c)) (hs:noStar b=true) (bK:(apos.endLine==bC.line)=true) :
  PS X (.Expr (.Call (.Attribute (.Name x px) "extend" apos) [b] [] bC) pos) (tS X.K cl Γ ii (.ext k c)) :=
 (jG (Am ZR abO PySem.F.type_list_extend yF (i6 hN hv hd jE) (aE hb bh (ag hs)) rfl (Iy hs) bK (ag hs) rfl)).imp fun D σ H h=>by
  obtain⟨B,ρ,M,G,E,h1,h2,h3⟩:=h;obtain⟨l,e1,q⟩:=cG (show b6 ρ k _ from h2);obtain⟨ds,rfl,q2⟩:=dC q;obtain⟨a,s1,ty,go⟩:=Bp (E:=E) h1 e1;refine⟨_,s1,ty,B,ρ,M,G,_,h1,q2,fun d v M' G' H' f i hk=>?_⟩;obtain⟨es,rfl,Bm⟩:=dC hk;unfold Is at i;obtain⟨a2,us,rfl,i1,i2⟩:=i;obtain⟨vs,g1,g2,g3⟩:=go f i2;exact⟨a,a2,vs,us,rfl,rfl,g1,f.gh _ _ i1,by rw[g2,←i2.length];exact Bm.1,h3.nx _ M' σ _ G' f.g g3 Bm.2⟩
end
end PV
namespace PV
open PySem L2 SH
section
variable {K:e_}{cl:Cl}{Γ:Gm}{c ca cb cc:C}{σ:St}{G H:Hp}{D:Ends}{X:Cx}{st:Stmt}{bp:List Stmt}{sa sb:S}{e a b o tg:Expr}{es:List Expr}{pos p p' apos:Pos}{n:Nat}{fns kN cls nE:List Str}{nF:List Nat}{ii:Bool}
theorem Rep.NJ {B:Bs}{ρ:En}{M:Mem}{q:Addr}{u:HO}{m m':MO} (r:Rep K cl B ρ M σ H G) (hm:M q=some m) (hk:xw m'=xw m) (hc:∀ H',H' q=some u->bX K cl G H' q m'):Rep K cl B ρ (cf M q m') σ (upd H q u) G:=by
 obtain⟨gq,cq⟩:=r.b5.mem q m hm;obtain⟨w,hw⟩:=cq.jA;have ne:∀ b v,H b=some v->b≠q->(upd H q u) b=some v:=fun b v hb hn=>by rw[aw hn];exact hb
 have gn:∀ b v,G b=some v->b≠q:=fun b v hb z=>by rw[z,gq] at hb;cases hb
 have NK:∀ b v,(cf M q m') b=some v->(b=q/\v=m')∨(b≠q/\M b=some v):=fun b v hb=>by
  unfold cf at hb;by_cases z:b=q
  ·rw[s_ z] at hb;exact .inl ⟨z,(O_ hb).symm⟩
  ·rw[n_ z] at hb;exact .inr ⟨z,hb⟩
 obtain⟨oa,h1,h2⟩:=r.ow;refine⟨⟨r.b5.g,fun b v hb=>ne b v (r.b5.gh b v hb) (gn b v hb),fun b v hb=>?_,r.b5.gf,fun b v hb SW hs=>ne b v (r.b5.h b v hb SW hs) fun z=>?_,fun b v hb=>?_,fun b v hb hn=>?_,fun b v hb=>?_⟩,r.len,r.s0,r.sh,oa,fun i d hi=>?_,h2⟩
 ·obtain⟨v',hv⟩:=r.b5.jA b v hb;by_cases z:b=q
  ·rw[z];exact⟨u,ay⟩
  ·exact⟨v',ne b v' hv z⟩
 ·subst z;exact absurd (r.b5.mf b m hm SW) (by rw[hb];exact fun z=>nomatch z)
 ·rcases NK b v hb with ⟨rfl,rfl⟩ | ⟨hn,hb⟩
  ·exact⟨gq,hc _ ay⟩
  ·exact⟨(r.b5.mem b v hb).1,(r.b5.mem b v hb).2.mono (ah.refl G) fun x hx=>ne b x hx hn⟩
 ·rcases NK b v hb with ⟨rfl,rfl⟩ | ⟨_,hb⟩
  ·exact r.b5.mf b m hm hn
  ·exact r.b5.mf b v hb hn
 ·obtain⟨o',e1,e2⟩:=r.b5.ke b v hb;by_cases z:b=q
  ·subst z;rw[hm] at e1;cases e1;exact⟨m',by unfold cf;rw[s_ rfl],hk.trans e2⟩
  ·exact⟨o',by unfold cf;rw[n_ z];exact e1,e2⟩
 ·obtain⟨q1,q2,q3,q4,o2,q5,q6⟩:=h1 i d hi;have hn:oa i≠q:=fun z=>by rw[z,hm] at q3;cases q3
  refine⟨q1,q2,?_,q4,o2,q5,q6.mono (ah.refl G) fun x hx=>ne _ x hx hn⟩;unfold cf;rw[n_ hn];exact q3
theorem uz {M:Mem}{d:Dt}{k:Addr->List Dt->Prop} (h:HG M d k):∃ q ds,d=.jz q/\M q=some (.ml ds)/\k q ds:=by
 cases d with
 | jz q =>
  change (match M q with | some (.ml ds)=>k q ds | _=>False) at h
  cases e:M q with
  | none=>rw[e] at h;exact h.elim
  | some m =>
   rw[e] at h
   cases m with
   | ml ds=>exact⟨q,ds,rfl,e,h⟩
   | mo _ _ _=>exact h.elim
   | md _=>exact h.elim
 | _=>exact (show False from h).elim
theorem NL {bC:Pos} (ha:PE X a (tp X.K cl Γ ca)) (hb:PE X b (tp X.K cl Γ cb)) (m4:cF a=true) (hs:noStar b=true) (bK:(apos.endLine==bC.line)=true) :
  PS X (.Expr (.Call (.Attribute a "append" apos) [b] [] bC) pos) (tS X.K cl Γ ii (.KC ca cb)) :=
 (jG (Am ZR Z6 aa4 qo ha (aE hb bh (ag hs)) (fH m4) (Iy hs) bK (ag hs) rfl)).imp fun D σ H h=>by
  obtain⟨B,ρ,M,G,E,h1,h2,h3⟩:=h;refine⟨B,ρ,M,G,_,h1,h2,fun x vx M1 G1 H1 f1 i1 hx=>?_⟩;obtain⟨q,ds,rfl,hm,hy⟩:=uz hx;unfold Is at i1;subst i1;obtain⟨vs,hv,_⟩:=(f1.mem q _ hm).2;refine⟨.inl ⟨rfl,vs,cS.of hv⟩,B,ρ,M1,G1,_,h1.on f1,hy,fun y vy M2 G2 H2 f2 i2 hk=>?_⟩;obtain⟨q',Vn,e,xC,Bm⟩:=uz (show HG M2 (.jz q) (fun p ds=>ds.length<sizeLine/\E.nx ρ (cf M2 p (.ml (ds++[y])))) from hk)
  cases e
  obtain⟨SX,Vo,SY⟩:=(f2.mem q _ xC).2;have r:=(h1.on f1).on f2;exact⟨q,SX,vy,rfl,rfl,Vo,by rw[←SY.length];exact Bm.1,h3.nx _ _ σ _ G2 (f1.g.trans f2.g) (r.NJ (m':=.ml (Vn++[y])) (u:=.lst (SX++[vy])) xC rfl fun H' e=>⟨_,e,SY.append (IsL.cons i2 IsL.nil)⟩) Bm.2⟩
theorem NM {k:Expr}{ck:C}{pos':Pos} (hw:cl.w=X.w) (hu:X.A.units+66<cLine) (ha:PE X a (tp X.K cl Γ ca)) (hk:PE X k (tp X.K cl Γ ck)) (hb:PE X b (tp X.K cl Γ cb)) (hs:Yf b (some (.Subscript a k pos')) pos.line X.env=pure false) :
  PS X (.Assign [.Subscript a k pos'] b pos) (tS X.K cl Γ ii (.Mf ca ck cb)):=(D5 hw hu ha hk hb hs).imp fun D σ H h=>by
  obtain⟨B,ρ,M,G,E,h1,h2,h3⟩:=h;refine⟨B,ρ,M,G,_,h1,h2,fun z vz M1 G1 H1 f1 i1 hz=>⟨B,ρ,M1,G1,_,h1.on f1,hz,fun x vx M2 G2 H2 f2 i2 hx=>⟨B,ρ,M2,G2,_,(h1.on f1).on f2,hx,fun y vy M3 G3 H3 f3 i3 hy=>?_⟩⟩⟩;obtain⟨ps,e1,e2,hy⟩:=hy;obtain⟨q,kvs,rfl,hm,hg,hl,hR⟩:=nG hy;unfold Is at i2;subst i2;have da:=(f3.mem q _ hm).2;obtain⟨_,_,xs,ex,_⟩:=(show lE X.K cl G3 H3 q kvs from da);have r:=((h1.on f1).on f2).on f3;exact⟨G3,q,kvs,ps,z,xs,rfl,f3.gh,da,ex,e2,i3.dat (ah.refl G3) e1,hg,hl,(i1.mono f2.g).mono f3.g,fun u hc=>h3.nx _ _ σ _ G3 ((f1.g.trans f2.g).trans f3.g) (r.NJ (m':=.md (kvs++[(YV ps,z)])) (u:=u) hm rfl fun H' e=>(show lE X.K cl G3 H' q (kvs++[(YV ps,z)]) from hc H' e)) hR⟩
theorem Rep.NN {B:Bs}{ρ:En}{M M2:Mem}{d d':Dt}{a:Addr}{G2 H2:Hp}{m':MO} (r:Rep K cl B ρ M σ H G) (h0:ρ[(0:Nat)]? = some (.ow d)) (ha:σ[(0:Nat)]? = some (some (.ref a))) (f:a9 K cl (some a) G H M G2 H2 M2) (ga:G2 a=none) (ma:M2 a=none) (hd:Hq d'=some m') (hc:bX K cl G2 H2 a m') :
  Rep K cl B (ρ.set 0 (.ow d')) M2 σ H2 G2:=by
 obtain⟨oa,h1,h2⟩:=r.ow;obtain⟨e1,_,m1,ba,o,_,c1⟩:=h1 0 d h0;have ea:oa 0=a:=by rw[ha] at e1;cases e1;rfl
 rw[ea] at ba m1 c1;obtain⟨w,hw⟩:=c1.jA
 have bne:∀ b v,B.H b=some v->B.sf≠some b->b≠a:=fun b v hb hs z=>by
  subst z;rcases ba with ba | ⟨ba,_⟩
  ·rw[ba] at hb;cases hb
  ·exact hs ba
 refine⟨⟨r.b5.g.trans f.g,f.gh,fun b v hb=>let ⟨v',hv⟩:=r.b5.jA b v hb;f.jA b v' hv,fun b v hb hn=>?_,fun b v hb hm hs=>?_,f.mem,fun b v hb hn=>?_,fun b v hb=>?_⟩,by rw[Yl];exact r.len,r.s0,fun j e hj=>?_,oa,fun j e hj=>?_,fun j l e e' hj hl=>?_⟩
 ·cases q:G b with
  | none=>exact br r.b5.jA (f.gf b v hb q)
  | some u=>exact r.b5.gf b u q hn
 ·have Ky:=r.b5.h b v hb hm hs
  cases q:M b with
  | none=>exact f.h b v Ky q fun z=>bne b v hb hs (O_ z).symm
  | some u=>exact absurd (r.b5.mf b u q hm) (by rw[hb];exact fun z=>nomatch z)
 ·cases q:M b with
  | none=>exact br r.b5.jA (f.mf b v hb q)
  | some u=>exact r.b5.mf b u q hn
 ·obtain⟨o',e1,e2⟩:=r.b5.ke b v hb;obtain⟨o2,e3,e4⟩:=f.ke b o' e1;exact⟨o2,e3,e4.trans e2⟩
 ·rcases aW hj with ⟨rfl,he,_⟩ | ⟨hn,hj⟩
  ·cases he
  ·obtain⟨v,q1,q2⟩:=r.sh j e hj;exact⟨v,q1,q2.mono f.g⟩
 ·rcases aW hj with ⟨rfl,he,_⟩ | ⟨hn,hj⟩
  ·cases he
   exact⟨by rw[ea];exact ha,by rw[ea];exact ga,by rw[ea];exact ma,by rw[ea];exact ba,m',hd,by rw[ea];exact hc⟩
  ·obtain⟨q1,q2,q3,q4,o2,q5,q6⟩:=h1 j e hj;have Vp:oa j≠a:=fun z=>hn (h2 j 0 e d hj h0 (z.trans ea.symm))
   obtain⟨u,hu⟩:=q6.jA;refine⟨q1,?_,?_,q4,o2,q5,q6.mono f.g fun x hx=>f.h _ x hx q3 fun z=>Vp (O_ z).symm⟩
   ·cases q:G2 (oa j) with
    | none=>rfl
    | some w=>exact absurd (f.gf _ w q q2) (by rw[hu];exact fun z=>nomatch z)
   ·cases q:M2 (oa j) with
    | none=>rfl
    | some w=>exact absurd (f.mf _ w q q3) (by rw[hu];exact fun z=>nomatch z)
 ·have back:∀ {j:Nat}{e:Dt},(ρ.set 0 (.ow d'))[j]? = some (Sl.ow e)->∃ e0,ρ[j]? = some (Sl.ow e0):=fun {j e} hj=>by
   rcases aW hj with ⟨rfl,_,_⟩ | ⟨_,hj⟩
   ·exact⟨d,h0⟩
   ·exact⟨e,hj⟩
  obtain⟨e0,Q6⟩:=back hj;obtain⟨l0,Q7⟩:=back hl;exact h2 j l e0 l0 Q6 Q7
theorem NO {q:Nat}{x sx:Str}{px Q9 bC:Pos} (F:Fx Γ cl X.prog X.w X.K X.mg X.base n fns kN cls nE nF) (hr:bT n X.A) (hx:cls[q]? = some x) (hq:nF.contains q=true) (hg:Gl X x) (jJ:(x==("__debug__" : Str))=false)
  (hN:X.N[(0:Nat)]? = some sx) (hv:zH X.env.scope sx) (hd:(sx==("__debug__" : Str))=false) (jE:(sx==("__classdict__" : Str))=false) (ha:PA X es (ta X.K cl Γ ca)) (hs:es.all noStar=true) (hl:es.length<20) (bK:(apos.endLine==bC.line)=true) :
  PS X (.Expr (.Call (.Attribute (.Name x px) "__init__" apos) (.Name sx Q9::es) [] bC) pos) (tS X.K cl Γ ii (.bu q ca)):=by
 obtain⟨f,fd,ps,c1,c2,c3⟩:=F.cm q hq;have CD:(Expr.Name sx Q9::es).all noStar=true:=by rw[Xx,hs];rfl
 refine (jG (Do hg (F.kl q x hx jJ).1 c1 c2 hr c3 .nil qq (aE (i6 hN hv hd jE) ha (ag rfl)) jJ (ag rfl) (cV hs) (rR rfl CD (by rw[z_];omega) bK))).imp fun D σ H h=>?_
 obtain⟨B,ρ,M,G,E,h1,h2,h3⟩:=h;obtain⟨d,e0,q0⟩:=cG (show b6 ρ 0 _ from h2);obtain⟨k,fs,xs,rfl,q1⟩:=kQ q0;obtain⟨oa,o1,_⟩:=h1.ow;obtain⟨s1,g1,m1,_,o,ho,hc⟩:=o1 0 _ e0
 cases ho
 refine⟨_,s1,B,ρ,M,G,_,h1,q1,fun ds vs M' G' H' f i hk=>?_⟩;have r:=h1.on f;obtain⟨dx,us,t1,t2,t3⟩:=hc;have S0:H' (oa 0)=some (.ins (cl k) dx (fs.zip us)):=f.h _ _ t1 m1 (fun z=>nomatch z)
 have ga:G' (oa 0)=none:=by
  cases z:G' (oa 0) with
  | none=>rfl
  | some w=>exact absurd (f.gf _ w z g1) (by rw[t1];exact fun z=>nomatch z)
 have ma:M' (oa 0)=none:=by
  cases z:M' (oa 0) with
  | none=>rfl
  | some w=>exact absurd (f.mf _ w z m1) (by rw[t1];exact fun z=>nomatch z)
 dsimp only;rw[Xs];refine⟨G',M',oa 0,k,fs,xs,dx,us,vs,ds,_,rfl,S0,t2,t3.mono f.g,ga,ma,f.gh,f.mem,i,hk,fun e8 ux Dv Ii M2 G2 H2 Bm f2 z1 z2 z3 z4 z5=>?_⟩;exact h3.nx _ M2 σ H2 G2 (f.g.trans f2.g) (r.NN e0 s1 f2 z1 z2 (d':=.obj k e8 ux) (m':=.mo k e8 ux) rfl ⟨Ii,Dv,z3,z4,z5⟩) Bm
theorem xH {ci ct ce:C}{k w:Nat}{ix:List Nat}{own b7:List Str}{scope:Scope}{y:Str}{py yI:Pos}{iter elt:Expr}{ifs:List Expr}{g:TG} (hw:own.length=w)
  (S1:∀ {d:Dt}{ρ:En}{q:En->Prop}{x:V}{σ':St}{fT:St}{Gc Hc:Hp}{R:St->Hp->Prop},zL ρ w ix d q->Is X.K cl Gc d x->ah Gc Hc->(∃ pre:St,pre.length=w/\σ'=pre++fT) ->
   (∀ ds vs,IsL X.K cl Gc ds vs->ds.length=w->q (ds.map Sl.sh++ix.map (fQ ρ))->R (vs.map some++fT) Hc)->g x σ' Hc R)
  (hc:X.calm=true) (hN:X.N.Nodup) (hy:X.N[k]? = some y) (hx:Loc X.env.scope y) (hf:X.fn y=true) (mD:ii=true->k≠0) (S:a8 X.N X.env.scope scope own b7 ix) (hi:PI X tg iter (zN X.K cl Γ ci))
  (hb:∀ (C:Addr) (s₀:h_) (H₀:Hp) (ex:List Addr) (pn:List (Addr×Obj)),PG (X.comp scope own b7 C s₀ H₀ ex pn) tg g/\vU (X.comp scope own b7 C s₀ H₀ ex pn) ifs (tt X.K cl Γ ct)/\PE (X.comp scope own b7 C s₀ H₀ ex pn) elt (tp X.K cl Γ ce))
  (Qw:Yf (.ListComp elt [⟨tg,iter,ifs,0⟩] scope pos) (some (.Name y py)) yI.line X.env=pure true) (hs:∀ x,Yg iter X.env x=pure x) :
  PS X (.Assign [.Name y py] (.ListComp elt [⟨tg,iter,ifs,0⟩] scope pos) yI) (tS X.K cl Γ ii (.cU k (.comp ci w ix ct ce)))/\PS X (.Assign [.Name y py] (.ListComp elt [⟨tg,iter,ifs,0⟩] scope pos) yI) (tS X.K cl Γ ii (.set k (.fr (.comp ci w ix ct ce)))):=by
 have base:=Dl hc hN hy hx S hi hb Qw hs (.inl hf);refine⟨base.imp fun D σ H h=>rS hw S1 (xF mD h),base.imp fun D σ H h=>rS hw S1 ?_⟩;obtain⟨B,ρ,M,G,E,h1,h2,h3⟩:=h;exact E8 ⟨B,ρ,M,G,_,h1,h2,fun d v M' G' H' f i q=>h3.nx _ M' _ H' G' f.g ((h1.on f).zh (h3.k mD) i) q⟩
end
end PV
namespace PV
open PySem L2 SH
structure Tb where
 fns:List Str
 kN:List Str
 cls:List Str
 nE:List Str
 nF:List Nat
inductive Md where | E | P | Q | F | T | W | A | O | I
inductive Ax where | e (x:Expr) | es (x:List Expr) | oe (x:l_ Expr) | it (tg x:Expr)
noncomputable def Ea:List Str:=["len","list","tuple","all","any","int","min","max","dict","isinstance","range","enumerate","zip","reversed","bool","str","set"]
structure Bk where
 N:List Str
 sc:Scope
noncomputable def Bk.lk (b:Bk) (x:Str):l_ Yn:=b.sc.names.lookup x
noncomputable def Bk.gl (b:Bk) (x:Str):Bool:=decide (b.lk x=some .globalImplicit)
noncomputable def Bk.Ku (b:Bk) (x:Str):Bool:=decide (b.lk x=some .local∨b.lk x=some .cell∨b.lk x=some .free)
noncomputable def Bk.bt (b:Bk) (x:Str):Bool:=b.gl x&&Ea.contains x
noncomputable def okN (x:Str):Bool := !(x==("__debug__" : Str)) && !(x==("__classdict__" : Str))
noncomputable def Bk.at_ (b:Bk) (k:Nat) (x:Str):Bool:=decide (b.N[k]? = some x)&&b.Ku x&&okN x
noncomputable def plainT:Expr->Bool
 | .UnaryOp .Not _ _=>false
 | .BoolOp _ _ _=>false
 | .IfExp _ _ _ _=>false
 | .Compare _ _ _ _=>false
 | _=>true
noncomputable def val (m:Md) (e:Expr):Bool:=match m with | .E=>true | .P=>true | .Q=>true | .T=>plainT e | _=>false
noncomputable def uA (b:Bk) (scope:Scope) (own:List Str) (ix:List Nat):Bool :=
 let b7:=ix.map fun i=>b.N.getD i XY
 decide (scope.kind=.function)&&scope.names.all (fun y=>decide (y.2=.cell->scope.names.lookup y.1=some .cell))&&scope.names.all (fun y=>decide (y.2=.local->scope.names.lookup y.1=some .local))&&scope.names.all (fun y=>decide (y.2=.free->y.1∈b7)) &&
  own.all (fun x=>decide (scope.names.lookup x=some .local∨scope.names.lookup x=some .cell))&&b7.all (fun x=>decide (scope.names.lookup x=some .free))&&b7.all (fun x=>decide (b.lk x=some .cell∨b.lk x=some .free))&&ix.all (fun i=>decide (i<b.N.length))&&decide (own++b7).Nodup
noncomputable def nI:Expr->Bool
 | .Set _ _ _=>false
 | _=>true
noncomputable def qD (a p:Pos):Bool:=a.endLine==p.line
noncomputable def vE (x:Ax) (k:Expr->Bool):Bool:=match x with | .e e=>k e | _=>false
noncomputable def S2 (x:Ax) (k:List Expr->Bool):Bool:=match x with | .es e=>k e | _=>false
noncomputable def vO (x:Ax) (k:l_ Expr->Bool):Bool:=match x with | .oe e=>k e | _=>false
noncomputable def vI (x:Ax) (k:Expr->Expr->Bool):Bool:=match x with | .it t e=>k t e | _=>false
noncomputable def Bq (e:Expr) (k:Const->Bool):Bool:=match e with | .Constant c _ _=>k c | _=>false
noncomputable def wf (e:Expr) (k:Str->Bool):Bool:=match e with | .Name x _=>k x | _=>false
noncomputable def IA (e:Expr) (k:Expr->ZS->Expr->Bool):Bool:=match e with | .BinOp a o b _=>k a o b | _=>false
noncomputable def Ra (e:Expr) (k:ado->Expr->Bool):Bool:=match e with | .UnaryOp o a _=>k o a | _=>false
noncomputable def IB (e:Expr) (k:Expr->List CmpOp->List Expr->Bool):Bool:=match e with | .Compare a os es _=>k a os es | _=>false
noncomputable def IC (e:Expr) (k:Expr->CmpOp->Expr->Bool):Bool:=IB e fun a os es=>match os,es with | [o],[b]=>k a o b | _,_=>false
noncomputable def S3 (e:Expr) (k:Expr->CmpOp->CmpOp->Expr->Expr->Bool):Bool:=IB e fun a os es=>match os,es with | [o,o'],[b,c]=>k a o o' b c | _,_=>false
noncomputable def Pd (e:Expr) (k:BoolOp->List Expr->Pos->Bool):Bool:=match e with | .BoolOp o es p=>k o es p | _=>false
noncomputable def S4 (e:Expr) (k:Expr->Expr->Expr->Bool):Bool:=match e with | .IfExp a b c _=>k a b c | _=>false
noncomputable def S5 (e:Expr) (k:List Expr->Bool):Bool:=match e with | .Tuple es _ _=>k es | _=>false
noncomputable def S6 (e:Expr) (k:List Expr->Bool):Bool:=match e with | .List es _=>k es | _=>false
noncomputable def KH (e:Expr) (k:Expr->Expr->Bool):Bool:=match e with | .Subscript a b _=>k a b | _=>false
noncomputable def Rb (e:Expr) (k:l_ Expr->l_ Expr->Bool):Bool:=match e with | .Slice l h s _=>(match s with | none=>k l h | some _=>false) | _=>false
noncomputable def S7 (e:Expr):Bool:=match e with | .Dict ks vs _=>ks.isEmpty&&vs.isEmpty | _=>false
noncomputable def Pe (e:Expr) (k:Expr->Str->Pos->Bool):Bool:=match e with | .Attribute a f p=>k a f p | _=>false
noncomputable def Rc (e:Expr) (k:Expr->List Expr->Pos->Bool):Bool:=match e with | .Call f es ks p=>(match ks with | []=>k f es p | _::_=>false) | _=>false
noncomputable def kr (e:Expr) (k:Str->List Expr->Bool):Bool:=Rc e fun f es _=>wf f fun x=>k x es
noncomputable def IE (e:Expr) (k:Expr->Str->List Expr->Pos->Pos->Bool):Bool:=Rc e fun f es p=>Pe f fun o m q=>k o m es q p
noncomputable def mE (es:List Expr) (k:Expr->Bool):Bool:=match es with | [a]=>k a | _=>false
noncomputable def IF (es:List Expr) (k:Expr->Expr->Bool):Bool:=match es with | [a,b]=>k a b | _=>false
noncomputable def IG (es:List Expr) (k:Expr->List Expr->Bool):Bool:=match es with | a::r=>k a r | _=>false
noncomputable def Vq (gs:List Comprehension) (k:Expr->Expr->List Expr->Bool):Bool:=match gs with | [g]=>(decide (g.is_async=0)&&k g.target g.iter g.ifs) | _=>false
noncomputable def S8 (e:Expr) (k:Expr->Expr->Expr->List Expr->Scope->Bool):Bool:=match e with | .ListComp elt gs sc _=>Vq gs fun tg iter ifs=>k elt tg iter ifs sc | _=>false
noncomputable def Eb (tg:Expr) (k:List Str->Bool):Bool:=match tg with | .Name x _=>k [x] | .Tuple es _ _=>IF es fun a b=>wf a fun x=>wf b fun y=>k [x,y] | _=>false
noncomputable def IH (ifs:List Expr) (y:Bool) (k:Expr->Bool):Bool:=match ifs with | []=>y | [q]=>k q | _=>false
noncomputable def isTup:Expr->Bool
 | .Tuple _ _ _=>true
 | _=>false
noncomputable def rV (m:Md):Bool:=match m with | .E=>true | .P=>true | .Q=>true | .T=>true | _=>false
noncomputable def II (m:Md):l_ Bool:=match m with | .E=>some false | .P=>some false | .Q=>some false | .T=>some true | .W=>some true | _=>none
noncomputable def S9 (es:List Expr):Bool:=match es with | [_,_,_]=>true | _=>false
noncomputable def IJ (a:C) (x y:Bool):Bool:=match a with | .nil=>x | _=>y
section
variable (T:Tb)
noncomputable def aL:C->Md->Bk->Ax->Bool
 | .i n,m,_,x=>vE x fun e=>val m e&&Bq e fun c=>decide (c=.int n)
 | .s n,m,_,x=>vE x fun e=>val m e&&Bq e fun c=>decide (c=.str n)
 | .b n,m,_,x=>vE x fun e=>val m e&&Bq e fun c=>decide (c=.bool n)
 | .n,m,_,x=>vE x fun e=>val m e&&Bq e fun c=>decide (c=.none)
 | .E2,m,_,x=>(match m with | .E=>true | .T=>true | _=>false)&&vE x fun _=>true
 | .v k,m,b,x=>vE x fun e=>val m e&&wf e fun y=>b.at_ k y
 | .o k,m,b,x=>vE x fun e=>(match m with | .P=>true | .Q=>true | _=>false)&&wf e fun y=>b.at_ k y
 | .d c,m,b,x=>(match m with | .Q=>true | _=>false)&&vE x fun e=>aL c .E b (.e e)
 | .g k,m,b,x=>vE x fun e=>val m e&&wf e fun y=>decide (T.nE[k]? = some y)&&b.gl y&&okN y
 | .nil,m,_,x=>(match m,x with | .A,.es []=>true | .O,.oe none=>true | _,_=>false)
 | .cons a r,m,b,x=>(match m with
   | .A=>S2 x fun es=>IG es fun e es=>noStar e&&aL a .E b (.e e)&&aL r .A b (.es es)
   | .O=>vO x fun o=>(match o with | some e=>IJ r (aL a .E b (.e e)) false | none=>false)
   | _=>false)
 | .bin o a c,m,b,x=>vE x fun e=>val m e&&IA e fun l op r=>decide (op=HI o)&&aL a .E b (.e l)&&aL c .E b (.e r)
 | .neg a,m,b,x=>vE x fun e=>val m e&&Ra e fun op y=>decide (op=.USub)&&aL a .E b (.e y)
 | .cmp o a c,m,b,x=>vE x fun e=>rV m&&IC e fun l op r=>decide (op=zc o)&&aL a .E b (.e l)&&aL c .E b (.e r)
 | .AZ o1 o2 a c d,m,b,x=>vE x fun e=>rV m&&S3 e fun l p1 p2 r s=>decide (p1=zc o1)&&decide (p2=zc o2)&&aL a .E b (.e l)&&aL c .E b (.e r)&&aL d .E b (.e s)
 | .eq ng a c,m,b,x=>vE x fun e=>rV m&&IC e fun l op r=>decide (op=MC ng)&&aL a .P b (.e l)&&aL c .Q b (.e r)
 | .s9 ng a c,m,b,x=>vE x fun e=>rV m&&IC e fun l op r=>decide (op=Cz ng)&&fk r&&aL a .P b (.e l)&&aL c .Q b (.e r)
 | .ins a c,m,b,x=>vE x fun e=>rV m&&IC e fun l op r=>decide (op=.In)&&fk r&&aL a .E b (.e l)&&aL c .E b (.e r)
 | .ind a c,m,b,x=>vE x fun e=>rV m&&IC e fun l op r=>decide (op=.In)&&fk r&&aL a .E b (.e l)&&aL c .E b (.e r)
 | .one a,m,b,x=>vE x fun e=>Pd e fun _ es _=>mE es fun y=>(match II m with | some false=>aL a .E b (.e y) | some true=>aL a .T b (.e y) | none=>false)
 | .and a c,m,b,x=>vE x fun e=>Pd e fun op es p=>decide (op=.And)&&IG es fun y r=>IG r fun z r=>(match II m with
   | some false=>aL a .E b (.e y)&&aL c .E b (.e (.BoolOp .And (z::r) p))
   | some true=>aL a .T b (.e y)&&aL c .W b (.e (.BoolOp .And (z::r) p))
   | none=>false)
 | .or a c,m,b,x=>vE x fun e=>Pd e fun op es p=>decide (op=.Or)&&IG es fun y r=>IG r fun z r=>(match II m with
   | some false=>aL a .E b (.e y)&&aL c .E b (.e (.BoolOp .Or (z::r) p))
   | some true=>aL a .T b (.e y)&&aL c .W b (.e (.BoolOp .Or (z::r) p))
   | none=>false)
 | .not a,m,b,x=>vE x fun e=>rV m&&Ra e fun op y=>decide (op=.Not)&&(match m with | .T=>aL a .T b (.e y) | _=>aL a .E b (.e y))
 | .tr a,m,b,x=>(match m with | .T=>true | _=>false)&&vE x fun e=>plainT e&&aL a .Q b (.e e)
 | .Hs t a c,m,b,x=>vE x fun e=>val m e&&S4 e fun y z u=>aL t .T b (.e y)&&aL a .E b (.e z)&&aL c .E b (.e u)
 | .tup a,m,b,x=>vE x fun e=>val m e&&S5 e fun es=>aL a .A b (.es es)
 | .fr f,m,b,x=>vE x fun e=>val m e&&aL f .F b (.e e)
 | .Ht f,m,b,x=>vE x fun e=>val m e&&aL f .F b (.e e)
 | .Hu,m,b,x=>vE x fun e=>val m e&&S7 e
 | .g7 a,m,b,x=>CK m&&vE x fun e=>S6 e fun es=>aL a .A b (.es es)
 | .A0 a,m,b,x=>CK m&&vE x fun e=>kr e fun y es=>decide (y = "list")&&b.bt y&&mE es fun u=>noStar u&&aL a .Q b (.e u)
 | .zJ a lo hi,m,b,x=>CK m&&vE x fun e=>KH e fun y s=>Rb s fun l h=>aL a .P b (.e y)&&aL lo .O b (.oe l)&&aL hi .O b (.oe h)
 | .cat a c,m,b,x=>CK m&&vE x fun e=>IA e fun l op r=>decide (op=.Add)&&aL a .P b (.e l)&&aL c .Q b (.e r)
 | .Hv a c,m,b,x=>CK m&&vE x fun e=>kr e fun y es=>decide (y = "list")&&b.bt y&&mE es fun u=>kr u fun z us=>decide (z = "range")&&b.bt z&&IF us fun s w=>noStar s&&noStar w&&aL a .E b (.e s)&&aL c .E b (.e w)
 | .E3 a,m,b,x=>CK m&&vE x fun e=>kr e fun y es=>decide (y = "list")&&b.bt y&&mE es fun u=>kr u fun z us=>decide (z = "range")&&b.bt z&&mE us fun s=>noStar s&&aL a .E b (.e s)
 | .Hw a,m,b,x=>CK m&&vE x fun e=>kr e fun y es=>decide (y = "list")&&b.bt y&&mE es fun u=>kr u fun z us=>decide (z = "dict")&&b.bt z&&mE us fun s=>noStar s&&aL a .E b (.e s)
 | .comp it w ix t d,m,b,x=>CK m&&vE x fun e=>S8 e fun elt tg iter ifs scope=>Eb tg fun own=>decide (own.length=w)&&uA b scope own ix&&nI iter&&aL it .I b (.it tg iter)&&IH ifs (Pf t) (fun q=>aL t .T ⟨own++ix.map fun i=>b.N.getD i XY,scope⟩ (.e q))&&aL d .E ⟨own++ix.map fun i=>b.N.getD i XY,scope⟩ (.e elt)
 | .cR a,m,b,x=>A2 m&&vI x fun _ e=>aL a .E b (.e e)
 | .kq a,m,b,x=>A2 m&&vI x fun _ e=>kr e fun y es=>decide (y = "range")&&b.bt y&&mE es fun u=>noStar u&&aL a .E b (.e u)
 | .Hy a c,m,b,x=>A2 m&&vI x fun _ e=>kr e fun y es=>decide (y = "range")&&b.bt y&&IF es fun u w=>noStar u&&noStar w&&aL a .E b (.e u)&&aL c .E b (.e w)
 | .Hz a,m,b,x=>A2 m&&vI x fun _ e=>kr e fun y es=>decide (y = "range")&&b.bt y&&es.all noStar&&S9 es&&aL a .A b (.es es)
 | .rev a,m,b,x=>A2 m&&vI x fun _ e=>kr e fun y es=>decide (y = "reversed")&&b.bt y&&mE es fun u=>kr u fun z us=>decide (z = "range")&&b.bt z&&mE us fun s=>noStar s&&aL a .E b (.e s)
 | .DK a,m,b,x=>A2 m&&vI x fun tg e=>isTup tg&&kr e fun y es=>decide (y = "enumerate")&&b.bt y&&mE es fun u=>noStar u&&aL a .E b (.e u)
 | .ix a c,m,b,x=>vE x fun e=>val m e&&KH e fun y z=>iL z&&aL a .P b (.e y)&&aL c .E b (.e z)
 | .DL a lo hi,m,b,x=>vE x fun e=>val m e&&KH e fun y s=>Rb s fun l h=>aL a .P b (.e y)&&aL lo .O b (.oe l)&&aL hi .O b (.oe h)
 | .fld a f,m,b,x=>vE x fun e=>val m e&&Pe e fun y g _=>decide (g=f)&&cF y&&aL a .Q b (.e y)
 | .call f a,m,b,x=>vE x fun e=>val m e&&kr e fun y es=>decide (T.fns[f]? = some y)&&b.gl y&&okN y&&es.all noStar && !es.isEmpty&&aL a .A b (.es es)
 | .HA f a,m,b,x=>CK m&&vE x fun e=>kr e fun y es=>decide (T.fns[f]? = some y)&&b.gl y&&okN y&&es.all noStar && !es.isEmpty&&aL a .A b (.es es)
 | .bD k r a,m,b,x=>vE x fun e=>val m e&&IE e fun o y es q p=>decide (T.kN[k]? = some y)&&cF o&&es.all noStar&&decide (es.length<30)&&qD q p&&aL r .E b (.e o)&&IJ a es.isEmpty (!es.isEmpty&&aL a .A b (.es es))
 | .mk c a,m,b,x=>vE x fun e=>val m e&&kr e fun y es=>decide (T.cls[c]? = some y)&&b.gl y&&okN y&&es.all noStar && !es.isEmpty&&aL a .A b (.es es)
 | .len a,m,b,x=>vE x fun e=>val m e&&kr e fun y es=>decide (y = "len")&&b.bt y&&mE es fun u=>noStar u&&aL a .Q b (.e u)
 | .HB a,m,b,x=>vE x fun e=>val m e&&kr e fun y es=>decide (y = "len")&&b.bt y&&mE es fun u=>kr u fun z us=>decide (z = "set")&&b.bt z&&mE us fun s=>noStar s&&aL a .E b (.e s)
 | .xx a t,m,b,x=>vE x fun e=>val m e&&kr e fun y es=>decide (y = "isinstance")&&b.bt y&&IF es fun u w=>wf w fun z=>decide (t<5)&&decide (z=YS (CJ t))&&b.bt z&&noStar u&&aL a .Q b (.e u)
 | .all a,m,b,x=>vE x fun e=>val m e&&kr e fun y es=>decide (y = "all")&&b.bt y&&mE es fun u=>noStar u&&aL a .Q b (.e u)
 | .kJ a,m,b,x=>vE x fun e=>val m e&&kr e fun y es=>decide (y = "int")&&b.bt y&&mE es fun u=>noStar u&&aL a .Q b (.e u)
 | .min2 a c,m,b,x=>vE x fun e=>val m e&&kr e fun y es=>decide (y = "min")&&b.bt y&&IF es fun u w=>noStar u&&noStar w&&aL a .E b (.e u)&&aL c .E b (.e w)
 | .zK a,m,b,x=>vE x fun e=>val m e&&kr e fun y es=>decide (y = "tuple")&&b.bt y&&mE es fun u=>noStar u&&aL a .Q b (.e u)
 | .E4 a,m,b,x=>vE x fun e=>val m e&&kr e fun y es=>decide (y = "tuple")&&b.bt y&&mE es fun u=>noStar u&&aL a .Q b (.e u)
 | .cnt a c,m,b,x=>vE x fun e=>val m e&&IE e fun o y es q p=>decide (y = "count")&&cF o&&qD q p&&mE es fun u=>noStar u&&aL a .E b (.e o)&&aL c .E b (.e u)
 | .yL a,m,b,x=>vE x fun e=>val m e&&kr e fun y es=>decide (y = "dict")&&b.bt y&&mE es fun u=>noStar u&&aL a .Q b (.e u)
 | .DM a c,m,b,x=>vE x fun e=>rV m&&IC e fun l op r=>decide (op=.NotIn)&&fk r&&aL a .E b (.e l)&&aL c .E b (.e r)
 | .HC a c,m,b,x=>vE x fun e=>val m e&&KH e fun y z=>iL z&&aL a .E b (.e y)&&aL c .E b (.e z)
where
 CK (m:Md):Bool:=match m with | .F=>true | _=>false
 A2 (m:Md):Bool:=match m with | .I=>true | _=>false
 Pf (t:C):Bool:=match t with | .b true=>true | _=>false
end
end PV
namespace PV
open PySem L2 SH
theorem ff {P:Prop} (h:false=true):P:=nomatch h
theorem ae {a b:Bool} (h:(a&&b)=true):a=true/\b=true:=by rwa [G_] at h
def Re (a:C) (x y:Bool):Prop:=(a=.nil/\x=true)∨y=true
theorem xI {a:C}{x y:Bool} (h:IJ a x y=true):Re a x y:=by cases a<;>first | exact .inr h | exact .inl ⟨rfl,h⟩
section
variable {x:Ax}{e tg:Expr}{es:List Expr}
theorem au {k:Expr->Bool} (h:vE x k=true):∃ e,x=.e e/\k e=true:=by cases x<;>first | exact⟨_,rfl,h⟩ | cases h
theorem IK {k:List Expr->Bool} (h:S2 x k=true):∃ e,x=.es e/\k e=true:=by cases x<;>first | exact⟨_,rfl,h⟩ | cases h
theorem NP {k:l_ Expr->Bool} (h:vO x k=true):∃ e,x=.oe e/\k e=true:=by cases x<;>first | exact⟨_,rfl,h⟩ | cases h
theorem qE {k:Expr->Expr->Bool} (h:vI x k=true):∃ t e,x=.it t e/\k t e=true:=by cases x<;>first | exact⟨_,_,rfl,h⟩ | cases h
def Rf (e:Expr) (k:Const->Bool):Prop:=∃ c j p,e=.Constant c j p/\k c=true
theorem mF {k:Const->Bool} (h:Bq e k=true):Rf e k:=by cases e<;>first | exact⟨_,_,_,rfl,h⟩ | exact ff h
def Vr (e:Expr) (k:Str->Bool):Prop:=∃ y p,e=.Name y p/\k y=true
theorem cg {k:Str->Bool} (h:wf e k=true):Vr e k:=by cases e<;>first | exact⟨_,_,rfl,h⟩ | exact ff h
def Rg (e:Expr) (k:Expr->ZS->Expr->Bool):Prop:=∃ a o b p,e=.BinOp a o b p/\k a o b=true
theorem xJ {k:Expr->ZS->Expr->Bool} (h:IA e k=true):Rg e k:=by cases e<;>first | exact⟨_,_,_,_,rfl,h⟩ | exact ff h
def Vs (e:Expr) (k:ado->Expr->Bool):Prop:=∃ o a p,e=.UnaryOp o a p/\k o a=true
theorem Br {k:ado->Expr->Bool} (h:Ra e k=true):Vs e k:=by cases e<;>first | exact⟨_,_,_,rfl,h⟩ | exact ff h
def Rh (e:Expr) (k:Expr->List CmpOp->List Expr->Bool):Prop:=∃ a os es p,e=.Compare a os es p/\k a os es=true
theorem xK {k:Expr->List CmpOp->List Expr->Bool} (h:IB e k=true):Rh e k:=by cases e<;>first | exact⟨_,_,_,_,rfl,h⟩ | exact ff h
theorem kR {k:Expr->CmpOp->Expr->Bool} (h:IC e k=true):∃ a o b p,e=.Compare a [o] [b] p/\k a o b=true:=by
 obtain⟨a,os,es,p,rfl,h⟩:=xK h;rcases os with _ | ⟨o,_ | ⟨_,_⟩⟩<;>first | (cases h;done) | skip
 rcases es with _ | ⟨b,_ | ⟨_,_⟩⟩<;>first | (cases h;done) | exact⟨_,_,_,_,rfl,h⟩
theorem IL {k:Expr->CmpOp->CmpOp->Expr->Expr->Bool} (h:S3 e k=true):∃ a o o' b c p,e=.Compare a [o,o'] [b,c] p/\k a o o' b c=true:=by
 obtain⟨a,os,es,p,rfl,h⟩:=xK h;rcases os with _ | ⟨o,_ | ⟨o',_ | ⟨_,_⟩⟩⟩<;>first | (cases h;done) | skip
 rcases es with _ | ⟨b,_ | ⟨c,_ | ⟨_,_⟩⟩⟩<;>first | (cases h;done) | exact⟨_,_,_,_,_,_,rfl,h⟩
def Vt (e:Expr) (k:BoolOp->List Expr->Pos->Bool):Prop:=∃ o es p,e=.BoolOp o es p/\k o es p=true
theorem wg {k:BoolOp->List Expr->Pos->Bool} (h:Pd e k=true):Vt e k:=by cases e<;>first | exact⟨_,_,_,rfl,h⟩ | exact ff h
def Vu (e:Expr) (k:Expr->Expr->Expr->Bool):Prop:=∃ a b c p,e=.IfExp a b c p/\k a b c=true
theorem IM {k:Expr->Expr->Expr->Bool} (h:S4 e k=true):Vu e k:=by cases e<;>first | exact⟨_,_,_,_,rfl,h⟩ | exact ff h
def Vv (e:Expr) (k:List Expr->Bool):Prop:=∃ es j p,e=.Tuple es j p/\k es=true
theorem IN {k:List Expr->Bool} (h:S5 e k=true):Vv e k:=by cases e<;>first | exact⟨_,_,_,rfl,h⟩ | exact ff h
def Vw (e:Expr) (k:List Expr->Bool):Prop:=∃ es p,e=.List es p/\k es=true
theorem IP {k:List Expr->Bool} (h:S6 e k=true):Vw e k:=by cases e<;>first | exact⟨_,_,rfl,h⟩ | exact ff h
def Vx (e:Expr) (k:Expr->Expr->Bool):Prop:=∃ a b p,e=.Subscript a b p/\k a b=true
theorem nJ {k:Expr->Expr->Bool} (h:KH e k=true):Vx e k:=by cases e<;>first | exact⟨_,_,_,rfl,h⟩ | exact ff h
theorem IQ (h:S7 e=true):∃ p,e=.Dict [] [] p:=by
 cases e<;>first | exact ff h | skip
 rename_i ks vs p
 cases ks<;>cases vs<;>first | exact⟨_,rfl⟩ | cases h
theorem Bt {k:l_ Expr->l_ Expr->Bool} (h:Rb e k=true):∃ a b p,e=.Slice a b none p/\k a b=true:=by
 cases e<;>first | exact ff h | skip
 rename_i l u s p
 cases s<;>first | exact⟨_,_,_,rfl,h⟩ | cases h
def Vy (e:Expr) (k:Expr->Str->Pos->Bool):Prop:=∃ a f p,e=.Attribute a f p/\k a f p=true
theorem wj {k:Expr->Str->Pos->Bool} (h:Pe e k=true):Vy e k:=by cases e<;>first | exact⟨_,_,_,rfl,h⟩ | exact ff h
theorem Bu {k:Expr->List Expr->Pos->Bool} (h:Rc e k=true):∃ f es p,e=.Call f es [] p/\k f es p=true:=by
 cases e<;>first | exact ff h | skip
 rename_i f es ks p
 cases ks<;>first | exact⟨_,_,_,rfl,h⟩ | cases h
theorem aR {k:Str->List Expr->Bool} (h:kr e k=true):∃ y es q p,e=.Call (.Name y q) es [] p/\k y es=true:=by
 obtain⟨f,es,p,rfl,h⟩:=Bu h;obtain⟨y,q,rfl,h⟩:=cg h;exact⟨y,es,q,p,rfl,h⟩
theorem kS {k:Expr->Str->List Expr->Pos->Pos->Bool} (h:IE e k=true):∃ o y es q p,e=.Call (.Attribute o y q) es [] p/\k o y es q p=true:=by
 obtain⟨f,es,p,rfl,h⟩:=Bu h;obtain⟨o,y,q,rfl,h⟩:=wj h;exact⟨o,y,es,q,p,rfl,h⟩
theorem a6 {k:Expr->Bool} (h:mE es k=true):∃ a,es=[a]/\k a=true:=by rcases es with _ | ⟨_,_ | ⟨_,_⟩⟩<;>first | exact⟨_,rfl,h⟩ | cases h
theorem nK {k:Expr->Expr->Bool} (h:IF es k=true):∃ a b,es=[a,b]/\k a b=true:=by rcases es with _ | ⟨_,_ | ⟨_,_ | ⟨_,_⟩⟩⟩<;>first | exact⟨_,_,rfl,h⟩ | cases h
theorem kT {k:Expr->List Expr->Bool} (h:IG es k=true):∃ a b,es=a::b/\k a b=true:=by cases es<;>first | exact⟨_,_,rfl,h⟩ | cases h
theorem wk {k:Expr->Expr->Expr->List Expr->Scope->Bool} (h:S8 e k=true):∃ elt tg iter ifs sc p,e=.ListComp elt [⟨tg,iter,ifs,0⟩] sc p/\k elt tg iter ifs sc=true:=by
 cases e<;>first | exact ff h | skip
 rename_i elt gs sc p;rcases gs with _ | ⟨g,_ | ⟨_,_⟩⟩<;>first | (cases h;done) | skip
 obtain⟨tg,iter,ifs,a⟩:=g;obtain⟨h1,h⟩:=ae h
 cases of_decide_eq_true h1
 exact⟨_,_,_,_,_,_,rfl,h⟩
theorem xL {k:List Str->Bool} (h:Eb tg k=true):(∃ y p,tg=.Name y p/\k [y]=true)∨∃ y z p1 p2 j p,tg=.Tuple [.Name y p1,.Name z p2] j p/\k [y,z]=true:=by
 cases tg<;>first | exact ff h | exact .inl ⟨_,_,rfl,h⟩ | skip
 rename_i es j p;obtain⟨a,b,rfl,h⟩:=nK (show IF es _=true from h);obtain⟨y,p1,rfl,h⟩:=cg h;obtain⟨z,p2,rfl,h⟩:=cg h;exact .inr ⟨_,_,_,_,_,_,rfl,h⟩
end
structure GC (T:Tb) (Γ:Gm) (cl:Cl) (n:Nat) (X:Cx) (b:Bk):Prop where
 hN:X.N=b.N
 calm:X.calm=true
 loc:∀ x,b.lk x=some .local->X.env.scope.names.lookup x=some .local
 IR:∀ x,b.lk x=some .cell->X.env.scope.names.lookup x=some .cell
 KI:∀ x,b.lk x=some .free->X.env.scope.names.lookup x=some .free∨X.env.scope.names.lookup x=some .cell
 NQ:∀ x,b.lk x=some .globalImplicit->Gl X x
 room:bT n X.A
 F:Fx Γ cl X.prog X.w X.K X.mg X.base n T.fns T.kN T.cls T.nE T.nF
 bt:∀ x∈Ea,X.mg x=none
def Gs (X:Cx) (cl:Cl) (Γ:Gm) (c:C):Md->Ax->Prop
 | .E,.e e=>PE X e (tp X.K cl Γ c)
 | .P,.e e=>PE X e (tr X.K cl Γ c)
 | .Q,.e e=>PE X e (tq X.K cl Γ c)
 | .F,.e e=>PE X e (tf X.K cl Γ c)
 | .T,.e e=>PT X e (tt X.K cl Γ c)
 | .W,.e e=>PW X e (tt X.K cl Γ c)
 | .A,.es es=>PA X es (ta X.K cl Γ c)
 | .O,.oe o=>PO X o (to X.K cl Γ c)
 | .I,.it tg e=>PI X tg e (zN X.K cl Γ c)
 | _,_=>True
section
variable {T:Tb}{Γ:Gm}{cl:Cl}{n:Nat}{X:Cx}{b:Bk}{c:C}{m:Md}{e:Expr}
theorem nL {env:Env} (h:plainT e=true):∀ whole,abP e env whole=(do let v ←whole;ab6 e.pos;aaR [v] (truthy v)):=fun whole=>by
 cases e with
 | UnaryOp op x p=>cases op<;>first | rfl | cases h
 | BoolOp _ _ _=>cases h
 | IfExp _ _ _ _=>cases h
 | Compare _ _ _ _=>cases h
 | _=>rfl
theorem aH (h:val m e=true) (p:PE X e (tp X.K cl Γ c)):Gs X cl Γ c m (.e e):=by
 cases m with
 | E=>exact p
 | P=>exact p.r
 | Q=>exact p.q
 | T=>exact Ms p (nL h)
 | _=>cases h
theorem fU (h:rV m=true) (p:PE X e (tp X.K cl Γ c)) (t:PT X e (tt X.K cl Γ c)):Gs X cl Γ c m (.e e):=by
 cases m with
 | E=>exact p
 | P=>exact p.r
 | Q=>exact p.q
 | T=>exact t
 | _=>cases h
theorem GC.gl (g:GC T Γ cl n X b) {x:Str} (h:b.gl x=true):Gl X x:=g.NQ x (of_decide_eq_true h)
theorem GC.bl (g:GC T Γ cl n X b) {x:Str} (h:b.bt x=true):Gl X x/\X.mg x=none:=⟨g.gl (ae h).1,g.bt x (Z_.mp (ae h).2)⟩
theorem GC.Ku (g:GC T Γ cl n X b) {x:Str} (h:b.Ku x=true):zH X.env.scope x:=by
 rcases of_decide_eq_true h with h | h | h
 ·exact .inl (g.loc x h)
 ·exact .inr (.inl (g.IR x h))
 ·rcases g.KI x h with q | q
  ·exact .inr (.inr q)
  ·exact .inr (.inl q)
theorem je {x:Str} (h:okN x=true):(x==("__debug__" : Str))=false/\(x==("__classdict__" : Str))=false:=by
 obtain⟨h1,h2⟩:=ae h;exact⟨by simpa using h1,by simpa using h2⟩
theorem GC.nm (g:GC T Γ cl n X b) {k:Nat}{x:Str} (h:b.at_ k x=true):X.N[k]? = some x/\zH X.env.scope x/\(x==("__debug__" : Str))=false/\(x==("__classdict__" : Str))=false:=by
 obtain⟨h1,h3⟩:=ae h;obtain⟨h1,h2⟩:=ae h1;exact⟨by rw[g.hN];exact of_decide_eq_true h1,g.Ku h2,je h3⟩
theorem GC.hu (g:GC T Γ cl n X b):X.A.units+64<cLine:=g.room.units
theorem GC.KJ (g:GC T Γ cl n X b):X.A.units+66<cLine:=by have:=g.room.un;omega
theorem NR {scope:Scope}{own:List Str}{ix:List Nat} (g:GC T Γ cl n X b) (h:uA b scope own ix=true):a8 X.N X.env.scope scope own (ix.map fun i=>b.N.getD i XY) ix:=by
 unfold uA at h;obtain⟨h,h9⟩:=ae h;obtain⟨h,h8⟩:=ae h;obtain⟨h,h7⟩:=ae h;obtain⟨h,h6⟩:=ae h;obtain⟨h,h5⟩:=ae h;obtain⟨h,h4⟩:=ae h;obtain⟨h,h3⟩:=ae h;obtain⟨h1,h2⟩:=ae h;rw[V_] at h2 h3 h4 h5 h6 h7 h8;refine⟨of_decide_eq_true h1,fun y hy=>of_decide_eq_true (h2 y hy),fun y hy=>of_decide_eq_true (h3 y hy),fun y hy=>of_decide_eq_true (h4 y hy),fun x hx=>(of_decide_eq_true (h5 x hx):_∨_),fun x hx=>of_decide_eq_true (h6 x hx),fun x hx=>?_,?_,of_decide_eq_true h9⟩
 ·rcases of_decide_eq_true (h7 x hx) with q | q
  ·exact .inl (g.IR x q)
  ·exact (g.KI x q).symm
 ·rw[g.hN,C_];refine W_ fun i hi=>?_
  have:=of_decide_eq_true (h8 i hi);show b.N[i]? = some (b.N.getD i XY);rw[v_,b_ this];rfl
theorem GC.comp {scope:Scope}{own b7:List Str}{C:Addr}{s₀:h_}{H₀:Hp}{ex:List Addr}{pn:List (Addr×Obj)} (g:GC T Γ cl n X b):GC T Γ cl n (X.comp scope own b7 C s₀ H₀ ex pn) ⟨own++b7,scope⟩ where
 hN:=rfl
 calm:=g.calm
 loc:=fun x h=>by rcases bc (env:=X.env) h with q | ⟨q,_⟩;exact q;cases q
 IR:=fun x h=>by rcases bc (env:=X.env) h with q | ⟨q,_⟩;exact q;cases q
 KI:=fun x h=>by rcases bc (env:=X.env) h with q | ⟨_,q⟩;exact .inl q;exact .inr q
 NQ:=fun x h=>by rcases bc (env:=X.env) h with q | ⟨q,_⟩;exact q;cases q
 room:=g.room
 F:=g.F
 bt:=g.bt
end
end PV
namespace PV
open PySem L2 SH
section
variable {T:Tb}{Γ:Gm}{cl:Cl}{n:Nat}
def Ok (T:Tb) (Γ:Gm) (cl:Cl) (n:Nat) (c:C):Prop:=∀ (m:Md) (b:Bk) (x:Ax),aL T c m b x=true->∀ X,GC T Γ cl n X b->Gs X cl Γ c m x
theorem Ri (k:Int):Ok T Γ cl n (.i k):=fun m b x h X g=>by
 obtain⟨e,rfl,h⟩:=au h;obtain⟨hv,h⟩:=ae h;obtain⟨q,j,p,rfl,h⟩:=mF h
 cases of_decide_eq_true h
 exact aH hv U3
theorem Rj (k:Str):Ok T Γ cl n (.s k):=fun m b x h X g=>by
 obtain⟨e,rfl,h⟩:=au h;obtain⟨hv,h⟩:=ae h;obtain⟨q,j,p,rfl,h⟩:=mF h
 cases of_decide_eq_true h
 exact aH hv U4
theorem Rk (k:Bool):Ok T Γ cl n (.b k):=fun m b x h X g=>by
 obtain⟨e,rfl,h⟩:=au h;obtain⟨hv,h⟩:=ae h;obtain⟨q,j,p,rfl,h⟩:=mF h
 cases of_decide_eq_true h
 exact aH hv U5
theorem Rl:Ok T Γ cl n .n:=fun m b x h X g=>by
 obtain⟨e,rfl,h⟩:=au h;obtain⟨hv,h⟩:=ae h;obtain⟨q,j,p,rfl,h⟩:=mF h
 cases of_decide_eq_true h
 exact aH hv U6
theorem Rm (k:Nat):Ok T Γ cl n (.v k):=fun m b x h X g=>by
 obtain⟨e,rfl,h⟩:=au h;obtain⟨hv,h⟩:=ae h;obtain⟨y,p,rfl,h⟩:=cg h;obtain⟨h1,h2,h3,h4⟩:=g.nm h;exact aH hv (U7 h1 h2 h3 h4)
theorem Rn (k:Nat):Ok T Γ cl n (.o k):=fun m b x h X g=>by
 obtain⟨e,rfl,h⟩:=au h;obtain⟨hv,h⟩:=ae h;obtain⟨y,p,rfl,h⟩:=cg h;obtain⟨h1,h2,h3,h4⟩:=g.nm h;have q:PE X (.Name y p) (tr X.K cl Γ (.o k)):=U8 h1 h2 h3 h4
 cases m with
 | P=>exact q
 | Q=>exact q.rq
 | _=>cases hv
theorem Ro {c:C} (ih:Ok T Γ cl n c):Ok T Γ cl n (.d c):=fun m b x h X g=>by
 obtain⟨hv,h⟩:=ae h;obtain⟨e,rfl,h⟩:=au h
 cases m with
 | Q=>exact U9 (ih .E b _ h X g)
 | _=>cases hv
theorem Rp (k:Nat):Ok T Γ cl n (.g k):=fun m b x h X g=>by
 obtain⟨e,rfl,h⟩:=au h;obtain⟨hv,h⟩:=ae h;obtain⟨y,p,rfl,h⟩:=cg h;obtain⟨h,h3⟩:=ae h;obtain⟨h1,h2⟩:=ae h;obtain⟨u,v,e1,e2,e3⟩:=g.F.cs k y (of_decide_eq_true h1) (je h3).1;exact aH hv ((CQ (g.gl h2) e1 e2 (je h3).1).imp fun σ H Q q=>Mm (c:=.g k) (d:=Γ.cs k) (fun _ _ _ z=>z) e3 q)
theorem IS:Ok T Γ cl n .nil:=fun m b x h X g=>by
 cases m<;>cases x<;>first | (cases h;done) | skip
 ·rename_i es
  cases es with
  | nil=>exact Mt
  | cons _ _=>cases h
 ·rename_i o
  cases o with
  | none=>exact HW
  | some _=>cases h
theorem IT {X:Cx}{e:Expr}{ca:C} (ha:PE X e (tp X.K cl Γ ca)):PO X (some e) (to X.K cl Γ (.cons ca .nil)):=(C8 ha).imp fun σ H Q h=>by
 obtain⟨B,ρ,M,G,k,h1,h2,h3⟩:=h;refine⟨B,ρ,M,G,_,h1,h2,fun d v M' G' H' f i hd=>?_⟩
 cases d with
 | int n=>unfold Is at i;exact⟨n,i,h3 (some n) M' G' H' f hd⟩
 | _=>exact (show False from hd).elim
theorem Ec {a r:C} (aF:Ok T Γ cl n a) (IU:Ok T Γ cl n r):Ok T Γ cl n (.cons a r):=fun m b x h X g=>by
 cases m with
 | A =>
  obtain⟨es,rfl,h⟩:=IK h;obtain⟨e,es,rfl,h⟩:=kT h;obtain⟨h,h3⟩:=ae h;obtain⟨h1,h2⟩:=ae h;exact HM (aF .E b _ h2 X g) (IU .A b _ h3 X g) h1
 | O =>
  obtain⟨o,rfl,h⟩:=NP h
  cases o with
  | none=>cases h
  | some e =>
   rcases xI h with ⟨rfl,h⟩ | h
   ·exact IT (aF .E b _ h X g)
   ·exact ff h
 | _=>cases h
theorem IV {o:qB}{a c:C} (aF:Ok T Γ cl n a) (cX:Ok T Γ cl n c):Ok T Γ cl n (.bin o a c):=fun m b x h X g=>by
 obtain⟨e,rfl,h⟩:=au h;obtain⟨hv,h⟩:=ae h;obtain⟨l,op,r,p,rfl,h⟩:=xJ h;obtain⟨h,h3⟩:=ae h;obtain⟨h1,h2⟩:=ae h
 cases of_decide_eq_true h1
 exact aH hv (Mp (aF .E b _ h2 X g) (cX .E b _ h3 X g))
theorem IW {a:C} (aF:Ok T Γ cl n a):Ok T Γ cl n (.neg a):=fun m b x h X g=>by
 obtain⟨e,rfl,h⟩:=au h;obtain⟨hv,h⟩:=ae h;obtain⟨op,y,p,rfl,h⟩:=Br h;obtain⟨h1,h2⟩:=ae h
 cases of_decide_eq_true h1
 exact aH hv (Mq (aF .E b _ h2 X g))
theorem IY {o:rL}{a c:C} (aF:Ok T Γ cl n a) (cX:Ok T Γ cl n c):Ok T Γ cl n (.cmp o a c):=fun m b x h X g=>by
 obtain⟨e,rfl,h⟩:=au h;obtain⟨hv,h⟩:=ae h;obtain⟨l,op,r,p,rfl,h⟩:=kR h;obtain⟨h,h3⟩:=ae h;obtain⟨h1,h2⟩:=ae h
 cases of_decide_eq_true h1
 exact fU hv (Mr (aF .E b _ h2 X g) (cX .E b _ h3 X g)) (HR (aF .E b _ h2 X g) (cX .E b _ h3 X g))
theorem IZ {o1 o2:rL}{a c d:C} (aF:Ok T Γ cl n a) (cX:Ok T Γ cl n c) (Ta:Ok T Γ cl n d):Ok T Γ cl n (.AZ o1 o2 a c d):=fun m b x h X g=>by
 obtain⟨e,rfl,h⟩:=au h;obtain⟨hv,h⟩:=ae h;obtain⟨l,p1,p2,r,s,p,rfl,h⟩:=IL h;obtain⟨h,h5⟩:=ae h;obtain⟨h,h4⟩:=ae h;obtain⟨h,h3⟩:=ae h;obtain⟨h1,h2⟩:=ae h
 cases of_decide_eq_true h1
 cases of_decide_eq_true h2
 exact fU hv (MM (aF .E b _ h3 X g) (cX .E b _ h4 X g) (Ta .E b _ h5 X g)) (MN (aF .E b _ h3 X g) (cX .E b _ h4 X g) (Ta .E b _ h5 X g))
theorem NS {ng:Bool}{a c:C} (aF:Ok T Γ cl n a) (cX:Ok T Γ cl n c):Ok T Γ cl n (.eq ng a c):=fun m b x h X g=>by
 obtain⟨e,rfl,h⟩:=au h;obtain⟨hv,h⟩:=ae h;obtain⟨l,op,r,p,rfl,h⟩:=kR h;obtain⟨h,h3⟩:=ae h;obtain⟨h1,h2⟩:=ae h
 cases of_decide_eq_true h1
 exact fU hv (s_eq g.hu (aF .P b _ h2 X g) (cX .Q b _ h3 X g)) (QR g.hu (aF .P b _ h2 X g) (cX .Q b _ h3 X g))
theorem Ja {ng:Bool}{a c:C} (aF:Ok T Γ cl n a) (cX:Ok T Γ cl n c):Ok T Γ cl n (.s9 ng a c):=fun m b x h X g=>by
 obtain⟨e,rfl,h⟩:=au h;obtain⟨hv,h⟩:=ae h;obtain⟨l,op,r,p,rfl,h⟩:=kR h;obtain⟨h,h4⟩:=ae h;obtain⟨h,h3⟩:=ae h;obtain⟨h1,h2⟩:=ae h
 cases of_decide_eq_true h1
 exact fU hv (ME g.KJ (aF .P b _ h3 X g) (cX .Q b _ h4 X g) h2) (MF g.KJ (aF .P b _ h3 X g) (cX .Q b _ h4 X g) h2)
theorem Jb {a c:C} (aF:Ok T Γ cl n a) (cX:Ok T Γ cl n c):Ok T Γ cl n (.ins a c):=fun m b x h X g=>by
 obtain⟨e,rfl,h⟩:=au h;obtain⟨hv,h⟩:=ae h;obtain⟨l,op,r,p,rfl,h⟩:=kR h;obtain⟨h,h4⟩:=ae h;obtain⟨h,h3⟩:=ae h;obtain⟨h1,h2⟩:=ae h
 cases of_decide_eq_true h1
 exact fU hv (MH (aF .E b _ h3 X g) (cX .E b _ h4 X g) h2) (MI (aF .E b _ h3 X g) (cX .E b _ h4 X g) h2)
theorem Jc {a c:C} (aF:Ok T Γ cl n a) (cX:Ok T Γ cl n c):Ok T Γ cl n (.ind a c):=fun m b x h X g=>by
 obtain⟨e,rfl,h⟩:=au h;obtain⟨hv,h⟩:=ae h;obtain⟨l,op,r,p,rfl,h⟩:=kR h;obtain⟨h,h4⟩:=ae h;obtain⟨h,h3⟩:=ae h;obtain⟨h1,h2⟩:=ae h
 cases of_decide_eq_true h1
 exact fU hv (MJ g.hu (aF .E b _ h3 X g) (cX .E b _ h4 X g) h2) (MK g.hu (aF .E b _ h3 X g) (cX .E b _ h4 X g) h2)
theorem Jd {a:C} (aF:Ok T Γ cl n a):Ok T Γ cl n (.one a):=fun m b x h X g=>by
 obtain⟨e,rfl,h⟩:=au h;obtain⟨op,es,p,rfl,h⟩:=wg h;obtain⟨y,rfl,h⟩:=a6 h;have w:PT X y (tt X.K cl Γ a)->PW X (.BoolOp op [y] p) (tt X.K cl Γ (.one a)):=fun q=>by cases op;exact w_and1 q;exact w_or1 q
 cases m with
 | E=>exact Bc (aF .E b _ h X g)
 | P=>exact (Bc (aF .E b _ h X g)).r
 | Q=>exact (Bc (aF .E b _ h X g)).q
 | T=>exact (w (aF .T b _ h X g)).pt
 | W=>exact w (aF .T b _ h X g)
 | _=>cases h
theorem Je {a c:C} (aF:Ok T Γ cl n a) (cX:Ok T Γ cl n c):Ok T Γ cl n (.and a c):=fun m b x h X g=>by
 obtain⟨e,rfl,h⟩:=au h;obtain⟨op,es,p,rfl,h⟩:=wg h;obtain⟨h1,h⟩:=ae h
 cases of_decide_eq_true h1
 obtain⟨y,r,rfl,h⟩:=kT h;obtain⟨z,r,rfl,h⟩:=kT h
 cases m with
 | E=>exact Bd (aF .E b _ (ae h).1 X g) (cX .E b _ (ae h).2 X g)
 | P=>exact (Bd (aF .E b _ (ae h).1 X g) (cX .E b _ (ae h).2 X g)).r
 | Q=>exact (Bd (aF .E b _ (ae h).1 X g) (cX .E b _ (ae h).2 X g)).q
 | T=>exact (w_and (aF .T b _ (ae h).1 X g) (cX .W b _ (ae h).2 X g)).pt
 | W=>exact w_and (aF .T b _ (ae h).1 X g) (cX .W b _ (ae h).2 X g)
 | _=>cases h
theorem NT {a c:C} (aF:Ok T Γ cl n a) (cX:Ok T Γ cl n c):Ok T Γ cl n (.or a c):=fun m b x h X g=>by
 obtain⟨e,rfl,h⟩:=au h;obtain⟨op,es,p,rfl,h⟩:=wg h;obtain⟨h1,h⟩:=ae h
 cases of_decide_eq_true h1
 obtain⟨y,r,rfl,h⟩:=kT h;obtain⟨z,r,rfl,h⟩:=kT h
 cases m with
 | E=>exact HV (aF .E b _ (ae h).1 X g) (cX .E b _ (ae h).2 X g)
 | P=>exact (HV (aF .E b _ (ae h).1 X g) (cX .E b _ (ae h).2 X g)).r
 | Q=>exact (HV (aF .E b _ (ae h).1 X g) (cX .E b _ (ae h).2 X g)).q
 | T=>exact (w_or (aF .T b _ (ae h).1 X g) (cX .W b _ (ae h).2 X g)).pt
 | W=>exact w_or (aF .T b _ (ae h).1 X g) (cX .W b _ (ae h).2 X g)
 | _=>cases h
theorem Jf {a:C} (aF:Ok T Γ cl n a):Ok T Γ cl n (.not a):=fun m b x h X g=>by
 obtain⟨e,rfl,h⟩:=au h;obtain⟨hv,h⟩:=ae h;obtain⟨op,y,p,rfl,h⟩:=Br h;obtain⟨h1,h2⟩:=ae h
 cases of_decide_eq_true h1
 cases m with
 | E=>exact Be (aF .E b _ h2 X g)
 | P=>exact (Be (aF .E b _ h2 X g)).r
 | Q=>exact (Be (aF .E b _ h2 X g)).q
 | T=>exact MP (aF .T b _ h2 X g)
 | _=>cases hv
theorem NU {a:C} (aF:Ok T Γ cl n a):Ok T Γ cl n (.tr a):=fun m b x h X g=>by
 obtain⟨hv,h1⟩:=ae h;obtain⟨e,rfl,h2⟩:=au h1
 cases m with
 | T=>exact QS (aF .Q b _ (ae h2).2 X g) (nL (ae h2).1)
 | _=>cases hv
theorem Jg {t a c:C} (NV:Ok T Γ cl n t) (aF:Ok T Γ cl n a) (cX:Ok T Γ cl n c):Ok T Γ cl n (.Hs t a c):=fun m b x h X g=>by
 obtain⟨e,rfl,h⟩:=au h;obtain⟨hv,h⟩:=ae h;obtain⟨y,z,u,p,rfl,h⟩:=IM h;obtain⟨h,h3⟩:=ae h;obtain⟨h1,h2⟩:=ae h;exact aH hv (MQ (NV .T b _ h1 X g) (aF .E b _ h2 X g) (cX .E b _ h3 X g))
theorem Jh {a:C} (aF:Ok T Γ cl n a):Ok T Γ cl n (.tup a):=fun m b x h X g=>by
 obtain⟨e,rfl,h⟩:=au h;obtain⟨hv,h⟩:=ae h;obtain⟨es,j,p,rfl,h⟩:=IN h;exact aH hv (Mv (aF .A b _ h X g))
theorem NW {a:C} (aF:Ok T Γ cl n a):Ok T Γ cl n (.fr a):=fun m b x h X g=>by
 obtain⟨e,rfl,h⟩:=au h;obtain⟨hv,h⟩:=ae h;exact aH hv (QQ (aF .F b _ h X g))
theorem Ji {a:C} (aF:Ok T Γ cl n a):Ok T Γ cl n (.Ht a):=fun m b x h X g=>by
 obtain⟨e,rfl,h⟩:=au h;obtain⟨hv,h⟩:=ae h;exact aH hv (Mu (aF .F b _ h X g))
theorem fV {m:Md} (h:aL.CK m=true):m=.F:=by cases m<;>first | rfl | cases h
theorem kU {m:Md} (h:aL.A2 m=true):m=.I:=by cases m<;>first | rfl | cases h
theorem Jj {a:C} (aF:Ok T Γ cl n a):Ok T Γ cl n (.g7 a):=fun m b x h X g=>by
 obtain⟨hv,h⟩:=ae h;obtain⟨e,rfl,h⟩:=au h;obtain⟨es,p,rfl,h⟩:=IP h
 cases fV hv
 exact Mw (aF .A b _ h X g)
theorem Jk {a:C} (aF:Ok T Γ cl n a):Ok T Γ cl n (.A0 a):=fun m b x h X g=>by
 obtain⟨hv,h⟩:=ae h;obtain⟨e,rfl,h⟩:=au h;obtain⟨y,es,q,p,rfl,h⟩:=aR h;obtain⟨h,h3⟩:=ae h;obtain⟨h1,h2⟩:=ae h;obtain⟨u,rfl,h3⟩:=a6 h3
 cases fV hv
 have hb:=g.bl h2
 cases of_decide_eq_true h1
 exact Mx hb.1 hb.2 (aF .Q b _ (ae h3).2 X g) (ae h3).1
theorem Jl {a lo hi:C} (aF:Ok T Γ cl n a) (Rq:Ok T Γ cl n lo) (Rr:Ok T Γ cl n hi):Ok T Γ cl n (.zJ a lo hi):=fun m b x h X g=>by
 obtain⟨hv,h⟩:=ae h;obtain⟨e,rfl,h⟩:=au h;obtain⟨y,s,p,rfl,h⟩:=nJ h;obtain⟨l,r,q,rfl,h⟩:=Bt h;obtain⟨h,h3⟩:=ae h;obtain⟨h1,h2⟩:=ae h
 cases fV hv
 exact MU (aF .P b _ h1 X g) (Rq .O b _ h2 X g) (Rr .O b _ h3 X g)
theorem Jm {a lo hi:C} (aF:Ok T Γ cl n a) (Rq:Ok T Γ cl n lo) (Rr:Ok T Γ cl n hi):Ok T Γ cl n (.DL a lo hi):=fun m b x h X g=>by
 obtain⟨e,rfl,h⟩:=au h;obtain⟨hv,h⟩:=ae h;obtain⟨y,s,p,rfl,h⟩:=nJ h;obtain⟨l,r,q,rfl,h⟩:=Bt h;obtain⟨h,h3⟩:=ae h;obtain⟨h1,h2⟩:=ae h;exact aH hv (MT (aF .P b _ h1 X g) (Rq .O b _ h2 X g) (Rr .O b _ h3 X g))
theorem Jn {a c:C} (aF:Ok T Γ cl n a) (cX:Ok T Γ cl n c):Ok T Γ cl n (.cat a c):=fun m b x h X g=>by
 obtain⟨hv,h⟩:=ae h;obtain⟨e,rfl,h⟩:=au h;obtain⟨l,op,r,p,rfl,h⟩:=xJ h;obtain⟨h,h3⟩:=ae h;obtain⟨h1,h2⟩:=ae h
 cases fV hv
 cases of_decide_eq_true h1
 exact MV (aF .P b _ h2 X g) (cX .Q b _ h3 X g)
theorem Jo {a c:C} (aF:Ok T Γ cl n a) (cX:Ok T Γ cl n c):Ok T Γ cl n (.Hv a c):=fun m b x h X g=>by
 obtain⟨hv,h⟩:=ae h;obtain⟨e,rfl,h⟩:=au h;obtain⟨y,es,q,p,rfl,h⟩:=aR h;obtain⟨h,h3⟩:=ae h;obtain⟨h1,h2⟩:=ae h;obtain⟨u,rfl,h3⟩:=a6 h3;obtain⟨z,us,q',p',rfl,h3⟩:=aR h3;obtain⟨h3,h6⟩:=ae h3;obtain⟨h4,h5⟩:=ae h3;obtain⟨s,w,rfl,h6⟩:=nK h6;obtain⟨h6,h9⟩:=ae h6;obtain⟨h6,h8⟩:=ae h6;obtain⟨h6,h7⟩:=ae h6
 cases fV hv
 have hb:=g.bl h2;have oX:=g.bl h5
 cases of_decide_eq_true h1
 cases of_decide_eq_true h4
 exact M0 g.calm hb.1 hb.2 oX.1 oX.2 (aF .E b _ h8 X g) (cX .E b _ h9 X g) h6 h7
theorem Jp {a:C} (aF:Ok T Γ cl n a):Ok T Γ cl n (.E3 a):=fun m b x h X g=>by
 obtain⟨hv,h⟩:=ae h;obtain⟨e,rfl,h⟩:=au h;obtain⟨y,es,q,p,rfl,h⟩:=aR h;obtain⟨h,h3⟩:=ae h;obtain⟨h1,h2⟩:=ae h;obtain⟨u,rfl,h3⟩:=a6 h3;obtain⟨z,us,q',p',rfl,h3⟩:=aR h3;obtain⟨h3,h6⟩:=ae h3;obtain⟨h4,h5⟩:=ae h3;obtain⟨s,rfl,h6⟩:=a6 h6
 cases fV hv
 have hb:=g.bl h2;have oX:=g.bl h5
 cases of_decide_eq_true h1
 cases of_decide_eq_true h4
 exact M5 g.calm hb.1 hb.2 oX.1 oX.2 (aF .E b _ (ae h6).2 X g) (ae h6).1
theorem Jq {a:C} (aF:Ok T Γ cl n a):Ok T Γ cl n (.Hw a):=fun m b x h X g=>by
 obtain⟨hv,h⟩:=ae h;obtain⟨e,rfl,h⟩:=au h;obtain⟨y,es,q,p,rfl,h⟩:=aR h;obtain⟨h,h3⟩:=ae h;obtain⟨h1,h2⟩:=ae h;obtain⟨u,rfl,h3⟩:=a6 h3;obtain⟨z,us,q',p',rfl,h3⟩:=aR h3;obtain⟨h3,h6⟩:=ae h3;obtain⟨h4,h5⟩:=ae h3;obtain⟨s,rfl,h6⟩:=a6 h6
 cases fV hv
 have hb:=g.bl h2;have oX:=g.bl h5
 cases of_decide_eq_true h1
 cases of_decide_eq_true h4
 exact Na g.calm hb.1 hb.2 oX.1 oX.2 (aF .E b _ (ae h6).2 X g) (ae h6).1
end
end PV
namespace PV
open PySem L2 SH
section
variable {T:Tb}{Γ:Gm}{cl:Cl}{n:Nat}
theorem Jr {a:C} (aF:Ok T Γ cl n a):Ok T Γ cl n (.len a):=fun m b x h X g=>by
 obtain⟨e,rfl,h⟩:=au h;obtain⟨hv,h⟩:=ae h;obtain⟨y,es,q,p,rfl,h⟩:=aR h;obtain⟨h,h3⟩:=ae h;obtain⟨h1,h2⟩:=ae h;obtain⟨u,rfl,h3⟩:=a6 h3;have hb:=g.bl h2
 cases of_decide_eq_true h1
 exact aH hv (My hb.1 hb.2 (aF .Q b _ (ae h3).2 X g) (ae h3).1)
theorem Js {a:C} (aF:Ok T Γ cl n a):Ok T Γ cl n (.all a):=fun m b x h X g=>by
 obtain⟨e,rfl,h⟩:=au h;obtain⟨hv,h⟩:=ae h;obtain⟨y,es,q,p,rfl,h⟩:=aR h;obtain⟨h,h3⟩:=ae h;obtain⟨h1,h2⟩:=ae h;obtain⟨u,rfl,h3⟩:=a6 h3;have hb:=g.bl h2
 cases of_decide_eq_true h1
 exact aH hv (MB g.calm hb.1 hb.2 (aF .Q b _ (ae h3).2 X g) (ae h3).1)
theorem Ed {a:C} (aF:Ok T Γ cl n a):Ok T Γ cl n (.kJ a):=fun m b x h X g=>by
 obtain⟨e,rfl,h⟩:=au h;obtain⟨hv,h⟩:=ae h;obtain⟨y,es,q,p,rfl,h⟩:=aR h;obtain⟨h,h3⟩:=ae h;obtain⟨h1,h2⟩:=ae h;obtain⟨u,rfl,h3⟩:=a6 h3;have hb:=g.bl h2
 cases of_decide_eq_true h1
 exact aH hv (HP hb.1 hb.2 (aF .Q b _ (ae h3).2 X g) (ae h3).1)
theorem Jt {a:C} (aF:Ok T Γ cl n a):Ok T Γ cl n (.zK a):=fun m b x h X g=>by
 obtain⟨e,rfl,h⟩:=au h;obtain⟨hv,h⟩:=ae h;obtain⟨y,es,q,p,rfl,h⟩:=aR h;obtain⟨h,h3⟩:=ae h;obtain⟨h1,h2⟩:=ae h;obtain⟨u,rfl,h3⟩:=a6 h3;have hb:=g.bl h2
 cases of_decide_eq_true h1
 exact aH hv (Mz hb.1 hb.2 (aF .Q b _ (ae h3).2 X g) (ae h3).1)
theorem Ju {a:C} (aF:Ok T Γ cl n a):Ok T Γ cl n (.E4 a):=fun m b x h X g=>by
 obtain⟨e,rfl,h⟩:=au h;obtain⟨hv,h⟩:=ae h;obtain⟨y,es,q,p,rfl,h⟩:=aR h;obtain⟨h,h3⟩:=ae h;obtain⟨h1,h2⟩:=ae h;obtain⟨u,rfl,h3⟩:=a6 h3;have hb:=g.bl h2
 cases of_decide_eq_true h1
 exact aH hv (MA hb.1 hb.2 (aF .Q b _ (ae h3).2 X g) (ae h3).1)
theorem Jv {a:C} (aF:Ok T Γ cl n a):Ok T Γ cl n (.yL a):=fun m b x h X g=>by
 obtain⟨e,rfl,h⟩:=au h;obtain⟨hv,h⟩:=ae h;obtain⟨y,es,q,p,rfl,h⟩:=aR h;obtain⟨h,h3⟩:=ae h;obtain⟨h1,h2⟩:=ae h;obtain⟨u,rfl,h3⟩:=a6 h3;have hb:=g.bl h2
 cases of_decide_eq_true h1
 exact aH hv (MY g.calm hb.1 hb.2 (aF .Q b _ (ae h3).2 X g) (ae h3).1)
theorem Ee {a c:C} (aF:Ok T Γ cl n a) (cX:Ok T Γ cl n c):Ok T Γ cl n (.min2 a c):=fun m b x h X g=>by
 obtain⟨e,rfl,h⟩:=au h;obtain⟨hv,h⟩:=ae h;obtain⟨y,es,q,p,rfl,h⟩:=aR h;obtain⟨h,h3⟩:=ae h;obtain⟨h1,h2⟩:=ae h;obtain⟨u,w,rfl,h3⟩:=nK h3;obtain⟨h3,h6⟩:=ae h3;obtain⟨h3,h5⟩:=ae h3;obtain⟨h3,h4⟩:=ae h3;have hb:=g.bl h2
 cases of_decide_eq_true h1
 exact aH hv (H9 g.calm hb.1 hb.2 (aF .E b _ h5 X g) (cX .E b _ h6 X g) h3 h4)
theorem Jw {a:C} (aF:Ok T Γ cl n a):Ok T Γ cl n (.HB a):=fun m b x h X g=>by
 obtain⟨e,rfl,h⟩:=au h;obtain⟨hv,h⟩:=ae h;obtain⟨y,es,q,p,rfl,h⟩:=aR h;obtain⟨h,h3⟩:=ae h;obtain⟨h1,h2⟩:=ae h;obtain⟨u,rfl,h3⟩:=a6 h3;obtain⟨z,us,q',p',rfl,h3⟩:=aR h3;obtain⟨h3,h6⟩:=ae h3;obtain⟨h4,h5⟩:=ae h3;obtain⟨s,rfl,h6⟩:=a6 h6;have hb:=g.bl h2;have oX:=g.bl h5
 cases of_decide_eq_true h1
 cases of_decide_eq_true h4
 exact aH hv (Nb g.calm hb.1 hb.2 oX.1 oX.2 (aF .E b _ (ae h6).2 X g) (ae h6).1)
theorem Jx {a:C}{t:Nat} (aF:Ok T Γ cl n a):Ok T Γ cl n (.xx a t):=fun m b x h X g=>by
 obtain⟨e,rfl,h⟩:=au h;obtain⟨hv,h⟩:=ae h;obtain⟨y,es,q,p,rfl,h⟩:=aR h;obtain⟨h,h3⟩:=ae h;obtain⟨h1,h2⟩:=ae h;obtain⟨u,w,rfl,h3⟩:=nK h3;obtain⟨z,q2,rfl,h3⟩:=cg h3;obtain⟨h3,h7⟩:=ae h3;obtain⟨h3,h6⟩:=ae h3;obtain⟨h3,h5⟩:=ae h3;obtain⟨h3,h4⟩:=ae h3;have hb:=g.bl h2;have oX:=g.bl h5
 cases of_decide_eq_true h1
 exact aH hv (MX (of_decide_eq_true h3) (of_decide_eq_true h4) hb.1 hb.2 oX.1 oX.2 (aF .Q b _ h7 X g) h6)
theorem Jy {a c:C} (aF:Ok T Γ cl n a) (cX:Ok T Γ cl n c):Ok T Γ cl n (.cnt a c):=fun m b x h X g=>by
 obtain⟨e,rfl,h⟩:=au h;obtain⟨hv,h⟩:=ae h;obtain⟨o,y,es,q,p,rfl,h⟩:=kS h;obtain⟨h,h4⟩:=ae h;obtain⟨h,h3⟩:=ae h;obtain⟨h1,h2⟩:=ae h;obtain⟨u,rfl,h4⟩:=a6 h4;obtain⟨h4,h6⟩:=ae h4;obtain⟨h4,h5⟩:=ae h4
 cases of_decide_eq_true h1
 exact aH hv (MZ (aF .E b _ h5 X g) (cX .E b _ h6 X g) h2 h4 h3)
theorem NX {a c:C} (aF:Ok T Γ cl n a) (cX:Ok T Γ cl n c):Ok T Γ cl n (.ix a c):=fun m b x h X g=>by
 obtain⟨e,rfl,h⟩:=au h;obtain⟨hv,h⟩:=ae h;obtain⟨y,z,p,rfl,h⟩:=nJ h;obtain⟨h,h3⟩:=ae h;obtain⟨h1,h2⟩:=ae h;exact aH hv (QT (aF .P b _ h2 X g) (cX .E b _ h3 X g) h1)
theorem Jz:Ok T Γ cl n .Hu:=fun m b x h X g=>by
 obtain⟨e,rfl,h⟩:=au h;obtain⟨hv,h⟩:=ae h;obtain⟨p,rfl⟩:=IQ h;exact aH hv (Nv g.F.wl)
theorem JA {a c:C} (aF:Ok T Γ cl n a) (cX:Ok T Γ cl n c):Ok T Γ cl n (.HC a c):=fun m b x h X g=>by
 obtain⟨e,rfl,h⟩:=au h;obtain⟨hv,h⟩:=ae h;obtain⟨y,z,p,rfl,h⟩:=nJ h;obtain⟨h,h3⟩:=ae h;obtain⟨h1,h2⟩:=ae h;exact aH hv (Nw g.F.wl g.KJ (aF .E b _ h2 X g) (cX .E b _ h3 X g) h1)
theorem JB {a c:C} (aF:Ok T Γ cl n a) (cX:Ok T Γ cl n c):Ok T Γ cl n (.DM a c):=fun m b x h X g=>by
 obtain⟨e,rfl,h⟩:=au h;obtain⟨hv,h⟩:=ae h;obtain⟨l,op,r,p,rfl,h⟩:=kR h;obtain⟨h,h4⟩:=ae h;obtain⟨h,h3⟩:=ae h;obtain⟨h1,h2⟩:=ae h
 cases of_decide_eq_true h1
 exact fU hv (Nx g.F.wl g.KJ (aF .E b _ h3 X g) (cX .E b _ h4 X g) h2) (Ny g.F.wl g.KJ (aF .E b _ h3 X g) (cX .E b _ h4 X g) h2)
theorem JC {a:C}{f:Str} (aF:Ok T Γ cl n a):Ok T Γ cl n (.fld a f):=fun m b x h X g=>by
 obtain⟨e,rfl,h⟩:=au h;obtain⟨hv,h⟩:=ae h;obtain⟨y,f',p,rfl,h⟩:=wj h;obtain⟨h,h3⟩:=ae h;obtain⟨h1,h2⟩:=ae h
 cases of_decide_eq_true h1
 exact aH hv (MW g.F.at_ (aF .Q b _ h3 X g) h2)
theorem Ef {f:Nat}{a:C} (aF:Ok T Γ cl n a):Ok T Γ cl n (.call f a):=fun m b x h X g=>by
 obtain⟨e,rfl,h⟩:=au h;obtain⟨hv,h⟩:=ae h;obtain⟨y,es,q,p,rfl,h⟩:=aR h;obtain⟨h,h6⟩:=ae h;obtain⟨h,h5⟩:=ae h;obtain⟨h,h4⟩:=ae h;obtain⟨h,h3⟩:=ae h;obtain⟨h1,h2⟩:=ae h
 cases es with
 | nil=>cases h5
 | cons e es=>exact aH hv (s_call g.F g.room (of_decide_eq_true h1) (g.gl h2) (je h3).1 (aF .A b _ h6 X g) h4)
theorem JD:Ok T Γ cl n .E2:=fun m b x h X g=>by
 obtain⟨hv,h⟩:=ae h;obtain⟨e,rfl,h⟩:=au h
 cases m<;>first | cases hv;done | skip
 ·exact fun pins s σ H Q I h=>by
   obtain⟨B,ρ,M,G,R,h1,h2,h3⟩:=h;exact (show False from h2).elim
 ·exact fun pins s σ H Q I h=>by
   obtain⟨B,ρ,M,G,R,h1,h2,h3⟩:=h;exact (show False from h2).elim
theorem JE {f:Nat}{a:C} (aF:Ok T Γ cl n a):Ok T Γ cl n (.HA f a):=fun m b x h X g=>by
 obtain⟨hv,h⟩:=ae h;obtain⟨e,rfl,h⟩:=au h;obtain⟨y,es,q,p,rfl,h⟩:=aR h;obtain⟨h,h6⟩:=ae h;obtain⟨h,h5⟩:=ae h;obtain⟨h,h4⟩:=ae h;obtain⟨h,h3⟩:=ae h;obtain⟨h1,h2⟩:=ae h
 cases fV hv
 cases es with
 | nil=>cases h5
 | cons e es=>exact Nk g.F g.room (of_decide_eq_true h1) (g.gl h2) (je h3).1 (aF .A b _ h6 X g) h4
theorem Bv {X:Cx}{b:Bk}{q:Nat}{a:C}{y:Str}{es:List Expr}{p p':Pos} (aF:Ok T Γ cl n a) (g:GC T Γ cl n X b) (h:(decide (T.cls[q]? = some y)&&b.gl y&&okN y&&es.all noStar && !es.isEmpty&&aL T a .A b (.es es))=true):PE X (.Call (.Name y p) es [] p') (O9 X.K cl Γ q a):=by
 obtain⟨h,h6⟩:=ae h;obtain⟨h,h5⟩:=ae h;obtain⟨h,h4⟩:=ae h;obtain⟨h,h3⟩:=ae h;obtain⟨h1,h2⟩:=ae h
 cases es with
 | nil=>cases h5
 | cons e es=>exact Nm g.F g.room (of_decide_eq_true h1) (g.gl h2) (je h3).1 (aF .A b _ h6 X g) h4
theorem NY {q:Nat}{a:C} (aF:Ok T Γ cl n a):Ok T Γ cl n (.mk q a):=fun m b x h X g=>by
 obtain⟨e,rfl,h⟩:=au h;obtain⟨hv,h⟩:=ae h;obtain⟨y,es,q,p,rfl,h⟩:=aR h;exact aH hv (QW (Bv aF g h))
theorem Eg {k:Nat}{r a:C} (IU:Ok T Γ cl n r) (aF:Ok T Γ cl n a):Ok T Γ cl n (.bD k r a):=fun m b x h X g=>by
 obtain⟨e,rfl,h⟩:=au h;obtain⟨hv,h⟩:=ae h;obtain⟨o,y,es,q,p,rfl,h⟩:=kS h;obtain⟨h,h7⟩:=ae h;obtain⟨h,h6⟩:=ae h;obtain⟨h,h5⟩:=ae h;obtain⟨h,h4⟩:=ae h;obtain⟨h,h3⟩:=ae h;obtain⟨h1,h2⟩:=ae h
 have main:(!es.isEmpty&&aL T a .A b (.es es))=true->Gs X cl Γ (.bD k r a) m (.e (.Call (.Attribute o y q) es [] p)):=fun h8=>by
  cases es with
  | nil=>cases (ae h8).1
  | cons e es=>exact aH hv (Ik g.F g.room (of_decide_eq_true h1) (IU .E b _ h6 X g) (aF .A b _ (ae h8).2 X g) h2 h3 (of_decide_eq_true h4) h5)
 rcases xI h7 with ⟨rfl,h7⟩ | h7
 ·cases es with
  | nil=>exact aH hv (DW g.F g.room (of_decide_eq_true h1) (IU .E b _ h6 X g) h2 h5)
  | cons _ _=>cases h7
 ·exact main h7
theorem JF {a:C} (aF:Ok T Γ cl n a):Ok T Γ cl n (.cR a):=fun m b x h X g=>by
 obtain⟨hv,h⟩:=ae h;obtain⟨tg,e,rfl,h⟩:=qE h
 cases kU hv
 exact M6 (aF .E b _ h X g)
theorem JG {a:C} (aF:Ok T Γ cl n a):Ok T Γ cl n (.kq a):=fun m b x h X g=>by
 obtain⟨hv,h⟩:=ae h;obtain⟨tg,e,rfl,h⟩:=qE h;obtain⟨y,es,q,p,rfl,h⟩:=aR h;obtain⟨h,h3⟩:=ae h;obtain⟨h1,h2⟩:=ae h;obtain⟨u,rfl,h3⟩:=a6 h3
 cases kU hv
 have hb:=g.bl h2
 cases of_decide_eq_true h1
 exact M7 hb.1 hb.2 (aF .E b _ (ae h3).2 X g) (ae h3).1
theorem JH {a c:C} (aF:Ok T Γ cl n a) (cX:Ok T Γ cl n c):Ok T Γ cl n (.Hy a c):=fun m b x h X g=>by
 obtain⟨hv,h⟩:=ae h;obtain⟨tg,e,rfl,h⟩:=qE h;obtain⟨y,es,q,p,rfl,h⟩:=aR h;obtain⟨h,h3⟩:=ae h;obtain⟨h1,h2⟩:=ae h;obtain⟨u,w,rfl,h3⟩:=nK h3;obtain⟨h3,h6⟩:=ae h3;obtain⟨h3,h5⟩:=ae h3;obtain⟨h3,h4⟩:=ae h3
 cases kU hv
 have hb:=g.bl h2
 cases of_decide_eq_true h1
 exact M8 hb.1 hb.2 (aF .E b _ h5 X g) (cX .E b _ h6 X g) h3 h4
theorem JI {es:List Expr} (h:S9 es=true):∃ a b c,es=[a,b,c]:=by rcases es with _ | ⟨_,_ | ⟨_,_ | ⟨_,_ | ⟨_,_⟩⟩⟩⟩<;>first | exact⟨_,_,_,rfl⟩ | exact ff h
theorem JJ {a:C} (aF:Ok T Γ cl n a):Ok T Γ cl n (.Hz a):=fun m b x h X g=>by
 obtain⟨hv,h⟩:=ae h;obtain⟨tg,e,rfl,h⟩:=qE h;obtain⟨y,es,q,p,rfl,h⟩:=aR h;obtain⟨h,h5⟩:=ae h;obtain⟨h,h4⟩:=ae h;obtain⟨h,h3⟩:=ae h;obtain⟨h1,h2⟩:=ae h;obtain⟨u,v,w,rfl⟩:=JI h4
 cases kU hv
 have hb:=g.bl h2
 cases of_decide_eq_true h1
 exact Nc hb.1 hb.2 (aF .A b _ h5 X g) h3
theorem JK {a:C} (aF:Ok T Γ cl n a):Ok T Γ cl n (.rev a):=fun m b x h X g=>by
 obtain⟨hv,h⟩:=ae h;obtain⟨tg,e,rfl,h⟩:=qE h;obtain⟨y,es,q,p,rfl,h⟩:=aR h;obtain⟨h,h3⟩:=ae h;obtain⟨h1,h2⟩:=ae h;obtain⟨u,rfl,h3⟩:=a6 h3;obtain⟨z,us,q',p',rfl,h3⟩:=aR h3;obtain⟨h3,h6⟩:=ae h3;obtain⟨h4,h5⟩:=ae h3;obtain⟨s,rfl,h6⟩:=a6 h6
 cases kU hv
 have hb:=g.bl h2;have oX:=g.bl h5
 cases of_decide_eq_true h1
 cases of_decide_eq_true h4
 exact Nf hb.1 hb.2 oX.1 oX.2 (aF .E b _ (ae h6).2 X g) (ae h6).1
theorem JL {tg:Expr} (h:isTup tg=true):∃ es k p,tg=.Tuple es k p:=by
 cases tg<;>first | (cases h;done) | exact⟨_,_,_,rfl⟩
theorem JM {a:C} (aF:Ok T Γ cl n a):Ok T Γ cl n (.DK a):=fun m b x h X g=>by
 obtain⟨hv,h⟩:=ae h;obtain⟨tg,e,rfl,h⟩:=qE h;obtain⟨h0,h⟩:=ae h;obtain⟨ts,k,p0,rfl⟩:=JL h0;obtain⟨y,es,q,p,rfl,h⟩:=aR h;obtain⟨h,h3⟩:=ae h;obtain⟨h1,h2⟩:=ae h;obtain⟨u,rfl,h3⟩:=a6 h3
 cases kU hv
 have hb:=g.bl h2
 cases of_decide_eq_true h1
 exact Ng hb.1 hb.2 (aF .E b _ (ae h3).2 X g) (ae h3).1
theorem uB {iter:Expr}{env:Env} (h:nI iter=true):∀ x,Yg iter env x=pure x:=fun x=>by
 cases iter<;>first | rfl | cases h
structure Fd (T:Tb) (Γ:Gm) (cl:Cl) (n:Nat) (X:Cx) (b:Bk) (ci ct ce:C) (w:Nat) (ix:List Nat) (elt tg iter:Expr) (ifs:List Expr) (scope:Scope):Prop where
 go:∃ own g,own.length=w/\a8 X.N X.env.scope scope own (ix.map fun i=>b.N.getD i XY) ix/\PI X tg iter (zN X.K cl Γ ci)/\(∀ x,Yg iter X.env x=pure x) /\
  (∀ {d:Dt}{ρ:En}{k:En->Prop}{x:V}{σ':St}{fT:St}{Gc Hc:Hp}{R:St->Hp->Prop},zL ρ w ix d k->Is X.K cl Gc d x->ah Gc Hc->(∃ pre:St,pre.length=w/\σ'=pre++fT) ->
   (∀ ds vs,IsL X.K cl Gc ds vs->ds.length=w->k (ds.map Sl.sh++ix.map (fQ ρ))->R (vs.map some++fT) Hc)->g x σ' Hc R) /\
  ∀ (C:Addr) (s₀:h_) (H₀:Hp) (ex:List Addr) (pn:List (Addr×Obj)),PG (X.comp scope own (ix.map fun i=>b.N.getD i XY) C s₀ H₀ ex pn) tg g/\vU (X.comp scope own (ix.map fun i=>b.N.getD i XY) C s₀ H₀ ex pn) ifs (tt X.K cl Γ ct)/\PE (X.comp scope own (ix.map fun i=>b.N.getD i XY) C s₀ H₀ ex pn) elt (tp X.K cl Γ ce)
theorem JN {t:C} (h:aL.Pf t=true):t=.b true:=by
 cases t<;>first | exact ff h | skip
 rename_i v;cases v<;>first | rfl | exact ff h
theorem nM {ci ct ce:C}{w:Nat}{ix:List Nat}{X:Cx}{b:Bk}{elt tg iter:Expr}{ifs:List Expr}{scope:Scope} (Rs:Ok T Γ cl n ci) (NV:Ok T Γ cl n ct) (Ru:Ok T Γ cl n ce) (g:GC T Γ cl n X b)
  (h:(Eb tg fun own=>decide (own.length=w)&&uA b scope own ix&&nI iter&&aL T ci .I b (.it tg iter)&&IH ifs (aL.Pf ct) (fun q=>aL T ct .T ⟨own++ix.map fun i=>b.N.getD i XY,scope⟩ (.e q))&&aL T ce .E ⟨own++ix.map fun i=>b.N.getD i XY,scope⟩ (.e elt))=true):Fd T Γ cl n X b ci ct ce w ix elt tg iter ifs scope:=by
 have tail:∀ {own:List Str}{gg:TG},(decide (own.length=w)&&uA b scope own ix&&nI iter&&aL T ci .I b (.it tg iter)&&IH ifs (aL.Pf ct) (fun q=>aL T ct .T ⟨own++ix.map fun i=>b.N.getD i XY,scope⟩ (.e q))&&aL T ce .E ⟨own++ix.map fun i=>b.N.getD i XY,scope⟩ (.e elt))=true ->
   (own.length=w->∀ {d:Dt}{ρ:En}{k:En->Prop}{x:V}{σ':St}{fT:St}{Gc Hc:Hp}{R:St->Hp->Prop},zL ρ w ix d k->Is X.K cl Gc d x->ah Gc Hc->(∃ pre:St,pre.length=w/\σ'=pre++fT) ->
   (∀ ds vs,IsL X.K cl Gc ds vs->ds.length=w->k (ds.map Sl.sh++ix.map (fQ ρ))->R (vs.map some++fT) Hc)->gg x σ' Hc R) ->
   (∀ (C:Addr) (s₀:h_) (H₀:Hp) (ex:List Addr) (pn:List (Addr×Obj)),a8 X.N X.env.scope scope own (ix.map fun i=>b.N.getD i XY) ix->PG (X.comp scope own (ix.map fun i=>b.N.getD i XY) C s₀ H₀ ex pn) tg gg)->Fd T Γ cl n X b ci ct ce w ix elt tg iter ifs scope:=fun {own gg} h hg Vz=>by
  obtain⟨h,h6⟩:=ae h;obtain⟨h,h5⟩:=ae h;obtain⟨h,h4⟩:=ae h;obtain⟨h,h3⟩:=ae h;obtain⟨h1,h2⟩:=ae h;have hw:=of_decide_eq_true h1;have S:=NR g h2;refine⟨own,gg,hw,S,Rs .I b _ h4 X g,uB h3,hg hw,fun C s₀ H₀ ex pn=>⟨Vz C s₀ H₀ ex pn S,?_,Ru .E _ _ h6 _ g.comp⟩⟩
  match ifs,h5 with
  | [],h5 =>
   cases JN h5
   exact fun pins s σ H Q I q=>As pins s σ H Q I (Il q)
  | [q],h5=>exact At (NV .T _ _ h5 _ g.comp)
 have lk:∀ {own b7:List Str}{C:Addr}{s₀:h_}{H₀:Hp}{ex:List Addr}{pn:List (Addr×Obj)}{y:Str},Loc scope y->Loc (X.comp scope own b7 C s₀ H₀ ex pn).env.scope y:=fun {own b7 C s₀ H₀ ex pn y} q=>by
  rcases q with q | q<;>rcases bc (env:=X.env) q with z | ⟨z,_⟩
  ·exact .inl z
  ·cases z
  ·exact .inr z
  ·cases z
 rcases xL h with ⟨y,p,rfl,h⟩ | ⟨y,z,p1,p2,j,p,rfl,h⟩
 ·refine tail (gg:=dE 0) h (fun hw=>?_) fun C s₀ H₀ ex pn S=>?_
  ·subst hw;exact No
  ·exact mq S.nd rfl (lk (S.GV y (by simp))) (.inl (by show ack [y] y=true;simp))
 ·refine tail (gg:=zZ X.K 2 (jH (dE 0) (jH (dE 1) zY))) h (fun hw=>?_) fun C s₀ H₀ ex pn S=>?_
  ·subst hw;exact Np
  ·exact AO (X:=X.comp scope [y,z] _ C s₀ H₀ ex pn) g.calm S.nd rfl rfl (lk (S.GV y (by simp))) (lk (S.GV z (by simp))) (.inl (by show ack [y,z] y=true;simp)) (.inl (by show ack [y,z] z=true;simp))
theorem Eh {ci ct ce:C}{w:Nat}{ix:List Nat} (Rs:Ok T Γ cl n ci) (NV:Ok T Γ cl n ct) (Ru:Ok T Γ cl n ce):Ok T Γ cl n (.comp ci w ix ct ce):=fun m b x h X g=>by
 obtain⟨hv,h⟩:=ae h;obtain⟨e,rfl,h⟩:=au h;obtain⟨elt,tg,iter,ifs,scope,p,rfl,h⟩:=wk h
 cases fV hv
 obtain⟨own,gg,hw,S,hi,hs,hg,hb⟩:=(nM Rs NV Ru g h).go;exact (Dk g.calm S hi hb hs).imp fun σ H Q q=>rS hw hg q
theorem sound:∀ c:C,Ok T Γ cl n c:=fun c=>by
 induction c with
 | i k=>exact Ri k
 | s k=>exact Rj k
 | b k=>exact Rk k
 | n=>exact Rl
 | E2=>exact JD
 | v k=>exact Rm k
 | o k=>exact Rn k
 | d c h=>exact Ro h
 | g k=>exact Rp k
 | nil=>exact IS
 | cons a r h1 h2=>exact Ec h1 h2
 | bin o a b h1 h2=>exact IV h1 h2
 | neg a h=>exact IW h
 | cmp o a b h1 h2=>exact IY h1 h2
 | AZ o1 o2 a b c h1 h2 h3=>exact IZ h1 h2 h3
 | eq ng a b h1 h2=>exact NS h1 h2
 | s9 ng a b h1 h2=>exact Ja h1 h2
 | ins a b h1 h2=>exact Jb h1 h2
 | ind a b h1 h2=>exact Jc h1 h2
 | one a h=>exact Jd h
 | and a b h1 h2=>exact Je h1 h2
 | or a b h1 h2=>exact NT h1 h2
 | not a h=>exact Jf h
 | tr a h=>exact NU h
 | Hs t a b h1 h2 h3=>exact Jg h1 h2 h3
 | tup a h=>exact Jh h
 | fr a h=>exact NW h
 | Ht a h=>exact Ji h
 | Hu=>exact Jz
 | g7 a h=>exact Jj h
 | A0 a h=>exact Jk h
 | zJ a l r h1 h2 h3=>exact Jl h1 h2 h3
 | cat a b h1 h2=>exact Jn h1 h2
 | Hv a b h1 h2=>exact Jo h1 h2
 | E3 a h=>exact Jp h
 | Hw a h=>exact Jq h
 | comp it w ix t e h1 h2 h3=>exact Eh h1 h2 h3
 | cR a h=>exact JF h
 | kq a h=>exact JG h
 | Hy a b h1 h2=>exact JH h1 h2
 | Hz a h=>exact JJ h
 | rev a h=>exact JK h
 | DK a h=>exact JM h
 | ix a b h1 h2=>exact NX h1 h2
 | DL a l r h1 h2 h3=>exact Jm h1 h2 h3
 | fld a f h=>exact JC h
 | call f a h=>exact Ef h
 | HA f a h=>exact JE h
 | bD k r a h1 h2=>exact Eg h1 h2
 | mk q a h=>exact NY h
 | len a h=>exact Jr h
 | HB a h=>exact Jw h
 | xx a t h=>exact Jx h
 | all a h=>exact Js h
 | kJ a h=>exact Ed h
 | min2 a b h1 h2=>exact Ee h1 h2
 | zK a h=>exact Jt h
 | E4 a h=>exact Ju h
 | cnt a b h1 h2=>exact Jy h1 h2
 | yL a h=>exact Jv h
 | DM a c h1 h2=>exact JB h1 h2
 | HC a c h1 h2=>exact JA h1 h2
end
end PV
namespace PV
open PySem L2 SH
noncomputable def Bk.loc (b:Bk) (k:Nat) (x:Str):Bool:=decide (b.N[k]? = some x)&&decide (b.lk x=some .local∨b.lk x=some .cell)
noncomputable def kW:Expr->Bool
 | .ListComp _ _ _ _=>false
 | .SetComp _ _ _ _=>false
 | .DictComp _ _ _ _ _=>false
 | _=>true
noncomputable def NZ (b:Bk) (x:Str) (p:Pos) (v:Expr):Bool:=match v with
 | .ListComp _ _ s q=>b.lk x==some .local&&p.line==q.line && !(s.names.any fun (n,k)=>n==x&&(k==.local||k==.cell))
 | _=>false
noncomputable def N1:Expr->Bool
 | .ListComp _ _ _ _=>true
 | _=>false
noncomputable def rW (bp:List Stmt) (k:Stmt->Bool):Bool:=match bp with | [s]=>k s | _=>false
noncomputable def Rv (bp:List Stmt) (k:Stmt->List Stmt->Bool):Bool:=match bp with | s::r=>k s r | _=>false
noncomputable def Ph (s:Stmt) (k:Expr->Expr->Bool):Bool:=match s with | .Assign ts v _=>(match ts with | [t]=>k t v | _=>false) | _=>false
noncomputable def VA (e:Expr) (k:Str->Pos->Bool):Bool:=match e with | .Name x p=>k x p | _=>false
noncomputable def Pj (s:Stmt) (k:Str->Pos->Expr->Bool):Bool:=Ph s fun t v=>VA t fun x p=>k x p v
noncomputable def KL (s:Stmt) (k:Expr->Bool):Bool:=match s with | .Expr e _=>k e | _=>false
noncomputable def Tc (s:Stmt) (k:Str->ZS->Expr->Bool):Bool:=match s with | .AugAssign t o v _=>wf t fun x=>k x o v | _=>false
noncomputable def Rx (s:Stmt) (k:l_ Expr->Bool):Bool:=match s with | .Return e _=>k e | _=>false
noncomputable def Td (s:Stmt) (k:Expr->List Stmt->List Stmt->Bool):Bool:=match s with | .If t a b _=>k t a b | _=>false
noncomputable def Te (s:Stmt) (k:Expr->Expr->List Stmt->Bool):Bool:=match s with | .For t i b el _=>(match el with | []=>k t i b | _::_=>false) | _=>false
noncomputable def Tf (s:Stmt) (k:List Stmt->Bool):Bool:=match s with | .Try b hs el fi _ => !hs.isEmpty&&el.isEmpty&&fi.isEmpty&&k b | _=>false
noncomputable def Tg (s:Stmt) (k:Expr->List Stmt->Bool):Bool:=match s with | .While t b el _=>(match el with | []=>k t b | _::_=>false) | _=>false
noncomputable def Ti (b:Bk) (ii:Bool) (tg:Expr) (ts:List Nat):Bool:=Eb tg fun xs=>match xs,ts with
 | [x],[i]=>b.loc i x&&(!ii||decide (i≠0))
 | [x,y],[i,j]=>b.loc i x&&b.loc j y&&(!ii||(decide (i≠0)&&decide (j≠0)))
 | _,_=>false
noncomputable def N7 (a:S) (k1:Nat->Bool) (k2:Bool):Bool:=match a with | .du k=>k1 k | _=>k2
noncomputable def N8 (c:C):Bool:=match c with | .comp _ _ _ _ _=>true | _=>false
noncomputable def Ry (c:C):Bool:=match c with | .fr f=>N8 f | _=>false
section
variable (T:Tb) (ii:Bool)
noncomputable def k0 (k:Nat):Bool := !ii||decide (k≠0)
noncomputable def setB (b:Bk) (x:Str) (p:Pos) (v:Expr) (cs:Bool):Bool:=kW v||(N1 v&&(if NZ b x p v then cs else true))
noncomputable def fW:S->Bool->Bk->List Stmt->Bool
 | .skip,one,_,bp=>if one then rW bp fun s=>(match s with | .Pass _=>true | _=>false) else bp.isEmpty
 | .seq a r,one,b,bp => !one&&N7 a (fun k=>decide (k≠0)&&fW r false b bp) (Rv bp fun s rest=>fW a true b [s]&&fW r false b rest)
 | .set k c,one,b,bp=>one&&rW bp fun s=>Pj s fun x p v=>k0 ii k&&b.loc k x&&setB b x p v (Ry c)&&aL T c .E b (.e v)
 | .cU k c,one,b,bp=>one&&rW bp fun s=>Pj s fun x p v=>k0 ii k&&b.loc k x&&setB b x p v (N8 c)&&aL T c .F b (.e v)
 | .y6 k q c,one,b,bp=>one&&rW bp fun s=>Pj s fun x _ v=>k0 ii k&&b.loc k x&&kW v&&kr v fun y es=>decide (T.cls[q]? = some y)&&b.gl y&&okN y&&es.all noStar && !es.isEmpty&&aL T c .A b (.es es)
 | .du _,_,_,_=>false
 | .app k c,one,b,bp=>one&&rW bp fun s=>KL s fun e=>IE e fun o y es q p=>decide (y = "append")&&qD q p&&(wf o fun x=>b.at_ k x)&&mE es fun u=>noStar u&&aL T c .E b (.e u)
 | .ext k c,one,b,bp=>one&&rW bp fun s=>KL s fun e=>IE e fun o y es q p=>decide (y = "extend")&&qD q p&&(wf o fun x=>b.at_ k x)&&mE es fun u=>noStar u&&aL T c .E b (.e u)
 | .KC a c,one,b,bp=>one&&rW bp fun s=>KL s fun e=>IE e fun o y es q p=>decide (y = "append")&&qD q p&&cF o&&mE es fun u=>noStar u&&aL T a .E b (.e o)&&aL T c .E b (.e u)
 | .Mf a k c,one,b,bp=>one&&rW bp fun s=>Ph s fun t v=>kW v&&KH t fun o i=>aL T a .E b (.e o)&&aL T k .E b (.e i)&&aL T c .E b (.e v)
 | .eE k f c,one,b,bp=>one&&rW bp fun s=>Ph s fun t v=>kW v&&Pe t fun o g _=>decide (g=f)&&(wf o fun x=>b.at_ k x)&&aL T c .E b (.e v)
 | .aug k op c,one,b,bp=>one&&rW bp fun s=>Tc s fun x o v=>k0 ii k&&b.loc k x&&decide (o=HI op)&&(match op with | .add=>true | .sub=>true | _=>false)&&aL T c .E b (.e v)
 | .ex c,one,b,bp=>one&&rW bp fun s=>KL s fun e=>kW e&&aL T c .E b (.e e)
 | .bu q c,one,b,bp=>one&&rW bp fun s=>KL s fun e=>IE e fun o y es u p=>decide (y = "__init__")&&qD u p&&(wf o fun x=>decide (T.cls[q]? = some x)&&b.gl x&&okN x)&&T.nF.contains q&&IG es fun sf es=>(wf sf fun x=>b.at_ 0 x)&&es.all noStar&&decide (es.length<20)&&aL T c .A b (.es es)
 | .ret c,one,b,bp=>one&&rW bp fun s=>Rx s fun e=>(match e with | some e=>aL T c .E b (.e e) | none=>false)
 | .y7 k,one,b,bp=>one&&rW bp fun s=>Rx s fun e=>(match e with | some e=>wf e fun y=>decide (k≠0)&&b.at_ k y | none=>false)
 | .never,one,_,_=>one
 | .A1 a,one,b,bp=>one&&rW bp fun s=>Tf s fun x=>fW a false b x
 | .ite t a c,one,b,bp=>one&&rW bp fun s=>Td s fun e x y=>aL T t .T b (.e e)&&fW a false b x&&fW c false b y
 | .bx it ts a,one,b,bp=>one&&rW bp fun s=>Te s fun tg e x=>Ti b ii tg ts&&nI e&&aL T it .I b (.it tg e)&&fW a false b x
 | .E5 t a,one,b,bp=>one&&rW bp fun s=>Tg s fun e x=>aL T t .T b (.e e)&&fW a false b x
end
section
variable {bp:List Stmt}{s:Stmt}
theorem JO {k:Stmt->List Stmt->Bool} (h:Rv bp k=true):∃ s r,bp=s::r/\k s r=true:=by cases bp<;>first | exact⟨_,_,rfl,h⟩ | cases h
def VB (s:Stmt) (k:Expr->Expr->Bool):Prop:=∃ t v p,s=.Assign [t] v p/\k t v=true
theorem wm {k:Expr->Expr->Bool} (h:Ph s k=true):VB s k:=by
 cases s<;>first | exact ff h | skip
 rename_i ts v p;rcases ts with _ | ⟨_,_ | ⟨_,_⟩⟩<;>first | exact⟨_,_,_,rfl,h⟩ | cases h
theorem wo {k:Str->Pos->Expr->Bool} (h:Pj s k=true):∃ x q v p,s=.Assign [.Name x q] v p/\k x q v=true:=by
 obtain⟨t,v,p,rfl,h2⟩:=wm h
 cases t<;>first | exact⟨_,_,_,_,rfl,h2⟩ | cases h2
def VC (s:Stmt) (k:Expr->Bool):Prop:=∃ e p,s=.Expr e p/\k e=true
theorem nN {k:Expr->Bool} (h:KL s k=true):VC s k:=by cases s<;>first | exact⟨_,_,rfl,h⟩ | exact ff h
def VD (s:Stmt) (k:Str->ZS->Expr->Bool):Prop:=∃ x q o v p,s=.AugAssign (.Name x q) o v p/\k x o v=true
theorem JP {k:Str->ZS->Expr->Bool} (h:Tc s k=true):VD s k:=by
 cases s<;>first | exact ff h | skip
 obtain⟨x,q,rfl,h⟩:=cg h;exact⟨_,_,_,_,_,rfl,h⟩
def VE (s:Stmt) (k:l_ Expr->Bool):Prop:=∃ e p,s=.Return e p/\k e=true
theorem Bw {k:l_ Expr->Bool} (h:Rx s k=true):VE s k:=by cases s<;>first | exact⟨_,_,rfl,h⟩ | exact ff h
def VF (s:Stmt) (k:Expr->List Stmt->List Stmt->Bool):Prop:=∃ t a b p,s=.If t a b p/\k t a b=true
theorem JQ {k:Expr->List Stmt->List Stmt->Bool} (h:Td s k=true):VF s k:=by cases s<;>first | exact⟨_,_,_,_,rfl,h⟩ | exact ff h
def VG (s:Stmt) (k:Expr->Expr->List Stmt->Bool):Prop:=∃ t i b p,s=.For t i b [] p/\k t i b=true
theorem JR {k:Expr->Expr->List Stmt->Bool} (h:Te s k=true):VG s k:=by
 cases s<;>first | exact ff h | skip
 rename_i t i b el p
 cases el<;>first | exact⟨_,_,_,_,rfl,h⟩ | cases h
def VH (s:Stmt) (k:Expr->List Stmt->Bool):Prop:=∃ t b p,s=.While t b [] p/\k t b=true
theorem JS {k:Expr->List Stmt->Bool} (h:Tg s k=true):VH s k:=by
 cases s<;>first | exact ff h | skip
 rename_i t b el p
 cases el<;>first | exact⟨_,_,_,rfl,h⟩ | cases h
end
def VI (s:Stmt) (k:List Stmt->Bool):Prop:=∃ b h hs p,s=.Try b (h::hs) [] [] p/\k b=true
theorem JT {s:Stmt}{k:List Stmt->Bool} (h:Tf s k=true):VI s k:=by
 cases s<;>first | exact ff h | skip
 rename_i b hs el fi p;obtain⟨h,h4⟩:=ae h;obtain⟨h,h3⟩:=ae h;obtain⟨h1,h2⟩:=ae h
 cases aag.mp h2
 cases aag.mp h3
 cases hs with
 | nil=>exact ff h1
 | cons _ _=>exact⟨_,_,_,_,rfl,h4⟩
structure GD (T:Tb) (Γ:Gm) (cl:Cl) (n:Nat) (X:Cx) (b:Bk):Prop extends GC T Γ cl n X b where
 sc:X.env.scope=b.sc
 kind:b.sc.kind=.function
 fn:∀ x,X.fn x=true
 nd:X.N.Nodup
 po:ab7 (model X.prog X.w) X.A X.env X.xe
section
variable {T:Tb}{Γ:Gm}{cl:Cl}{n:Nat}{ii:Bool}{X:Cx}{b:Bk}{e v:Expr}
theorem GD.quiet (g:GD T Γ cl n X b):GD T Γ cl n X.quiet b :=
 { hN:=g.hN,calm:=g.calm,loc:=g.loc,IR:=g.IR,KI:=g.KI,NQ:=g.NQ,room:=g.room,F:=g.F,bt:=g.bt,sc:=g.sc,kind:=g.kind,fn:=g.fn,nd:=g.nd,po:=adk }
theorem iM {tg:l_ Expr}{l:Nat}{env:Env} (h:kW e=true):Yf e tg l env=pure false:=by
 cases e<;>first | rfl | cases h
theorem jZ {k:Nat} (h:k0 ii k=true):ii=true->k≠0:=fun hi=>by
 subst hi;unfold k0 at h;simpa using h
theorem GD.lc (g:GD T Γ cl n X b) {k:Nat}{x:Str} (h:b.loc k x=true):X.N[k]? = some x/\Loc X.env.scope x:=by
 obtain⟨h1,h2⟩:=ae h;refine⟨by rw[g.hN];exact of_decide_eq_true h1,?_⟩;rcases of_decide_eq_true h2 with q | q
 ·exact .inl (g.loc x q)
 ·exact .inr (g.IR x q)
theorem GD.sw (g:GD T Γ cl n X b) {x:Str}{p:Pos}{l:Nat} (h:N1 v=true):Yf v (some (.Name x p)) l X.env=pure (NZ b x p v):=by
 cases v<;>first | (cases h;done) | skip
 rename_i elt gens s q
 have hb:X.env.blockKind=.function:=by
  unfold Env.blockKind;rw[g.sc,g.kind];rfl
 unfold Yf NZ;show pure (X.env.blockKind==.function&&X.env.kindOf x==some .local&&p.line==q.line && !(s.names.any fun (n,k)=>n==x&&(k==.local||k==.cell)))=_;rw[hb];unfold Env.kindOf Bk.lk;rw[g.sc];rfl
def Tj (T:Tb) (Γ:Gm) (cl:Cl) (n:Nat) (ii:Bool) (s:S):Prop:=∀ (b:Bk) (X:Cx),GD T Γ cl n X b->(∀ bp,fW T ii s false b bp=true->kC X bp (tS X.K cl Γ ii s))/\∀ st,fW T ii s true b [st]=true->PS X st (tS X.K cl Γ ii s)
theorem k_one {o:Bool}{st:Stmt}{k:Stmt->Bool} (h:(o&&rW [st] k)=true):k st=true:=(ae h).2
theorem fX {s:S} (h0:∀ b bp,fW T ii s false b bp=true->False) (h:∀ b X st,GD T Γ cl n X b->fW T ii s true b [st]=true->PS X st (tS X.K cl Γ ii s)):Tj T Γ cl n ii s:=fun b X g=>⟨fun bp q=>(h0 b bp q).elim,fun st q=>h b X st g q⟩
def oC (c:C):Prop:=∃ it w ix t e,c=.comp it w ix t e
theorem Bx {c:C} (h:N8 c=true):oC c:=by cases c<;>first | exact⟨_,_,_,_,_,rfl⟩ | exact ff h
def VJ (c:C):Prop:=∃ f,c=.fr f/\N8 f=true
theorem JU {c:C} (h:Ry c=true):VJ c:=by cases c<;>first | exact⟨_,rfl,h⟩ | exact ff h
theorem Ei {k:Nat}{c:C}{x:Str}{q p:Pos} (g:GD T Γ cl n X b) (h1:k0 ii k=true) (h2:b.loc k x=true) (h3:setB b x q v (Ry c)=true) (h4:aL T c .E b (.e v)=true):PS X (.Assign [.Name x q] v p) (tS X.K cl Γ ii (.set k c)):=by
 obtain⟨l1,l2⟩:=g.lc h2;have he:=sound (Γ:=Γ) (cl:=cl) (n:=n) c .E b _ h4 X g.toGC;unfold setB at h3;rw[abF] at h3;rcases h3 with h3 | h3
 ·exact Fc g.nd l1 l2 (g.fn x) (jZ h1) (iM h3) he
 ·obtain⟨h5,h6⟩:=ae h3;have sw:=g.sw (x:=x) (p:=q) (l:=p.line) h5
  cases e:NZ b x q v with
  | false=>rw[e] at sw;exact Fc g.nd l1 l2 (g.fn x) (jZ h1) sw he
  | true =>
   rw[e] at sw h6;rw[s_ rfl] at h6;obtain⟨f,rfl,h7⟩:=JU h6;obtain⟨_,_,_,_,_,rfl⟩:=Bx h7;obtain⟨e',e1,h4⟩:=au h4
   cases e1
   obtain⟨_,h4⟩:=ae h4;obtain⟨_,h4⟩:=ae h4;obtain⟨e',e1,h4⟩:=au h4
   cases e1
   obtain⟨elt,tg,iter,ifs,scope,p',rfl,h4⟩:=wk h4;obtain⟨own,gg,hw,S,hi,hs,hg,hb⟩:=(nM (sound _) (sound _) (sound _) g.toGC h4).go;exact (xH hw hg g.calm g.nd l1 l2 (g.fn x) (jZ h1) S hi hb sw hs).2
theorem By {k:Nat}{c:C}{x:Str}{q p:Pos} (g:GD T Γ cl n X b) (h1:k0 ii k=true) (h2:b.loc k x=true) (h3:setB b x q v (N8 c)=true) (h4:aL T c .F b (.e v)=true):PS X (.Assign [.Name x q] v p) (tS X.K cl Γ ii (.cU k c)):=by
 obtain⟨l1,l2⟩:=g.lc h2;have he:=sound (Γ:=Γ) (cl:=cl) (n:=n) c .F b _ h4 X g.toGC;unfold setB at h3;rw[abF] at h3;rcases h3 with h3 | h3
 ·exact Bo g.nd l1 l2 (g.fn x) (jZ h1) (iM h3) he
 ·obtain⟨h5,h6⟩:=ae h3;have sw:=g.sw (x:=x) (p:=q) (l:=p.line) h5
  cases e:NZ b x q v with
  | false=>rw[e] at sw;exact Bo g.nd l1 l2 (g.fn x) (jZ h1) sw he
  | true =>
   rw[e] at sw h6;rw[s_ rfl] at h6;obtain⟨_,_,_,_,_,rfl⟩:=Bx h6;obtain⟨_,h4⟩:=ae h4;obtain⟨e',e1,h4⟩:=au h4
   cases e1
   obtain⟨elt,tg,iter,ifs,scope,p',rfl,h4⟩:=wk h4;obtain⟨own,gg,hw,S,hi,hs,hg,hb⟩:=(nM (sound _) (sound _) (sound _) g.toGC h4).go;exact (xH hw hg g.calm g.nd l1 l2 (g.fn x) (jZ h1) S hi hb sw hs).1
theorem JV {tg:Expr}{ts:List Nat} (g:GD T Γ cl n X b) (h:Ti b ii tg ts=true):∃ gg,PG X tg gg/\D7 X.K cl ii ts gg:=by
 rcases xL h with ⟨y,p,rfl,h⟩ | ⟨y,z,p1,p2,j,p,rfl,h⟩
 ·rcases ts with _ | ⟨_,_ | ⟨_,_⟩⟩<;>first | (cases h;done) | skip
  obtain⟨h1,h2⟩:=ae h;obtain⟨l1,l2⟩:=g.lc h1;exact⟨_,mq g.nd l1 l2 (.inl (g.fn _)),Ir (jZ h2)⟩
 ·rcases ts with _ | ⟨_,_ | ⟨_,_ | ⟨_,_⟩⟩⟩<;>first | (cases h;done) | skip
  obtain⟨h1,h3⟩:=ae h;obtain⟨h1,h2⟩:=ae h1;obtain⟨l1,l2⟩:=g.lc h1;obtain⟨l3,l4⟩:=g.lc h2;refine⟨_,AO g.calm g.nd l1 l3 l2 l4 (.inl (g.fn _)) (.inl (g.fn _)),Iu (fun hi=>?_) (fun hi=>?_)⟩
  ·subst hi;simp at h3;exact h3.1
  ·subst hi;simp at h3;exact h3.2
def VL (a:S) (k1:Nat->Bool) (k2:Bool):Prop:=(∃ k,a=.du k/\k1 k=true)∨k2=true
theorem Ej {a:S}{k1:Nat->Bool}{k2:Bool} (h:N7 a k1 k2=true):VL a k1 k2:=by cases a<;>first | exact .inr h | exact .inl ⟨_,rfl,h⟩
def JW (s:Stmt):Prop:=∃ p,s=.Pass p
theorem Ek {s:Stmt} (h:(match s with | .Pass _=>true | _=>false)=true):JW s:=by cases s<;>first | exact⟨_,rfl⟩ | exact ff h
theorem JX:∀ s:S,Tj T Γ cl n ii s:=fun s=>by
 induction s with
 | skip =>
  intro b X g;refine⟨fun bp h=>?_,fun st h=>?_⟩
  ·cases bp with
   | nil=>exact Im
   | cons _ _=>cases h
  ·obtain⟨p,rfl⟩:=Ek h;exact Iq
 | seq a r aF IU =>
  intro b X g;refine⟨fun bp h=>?_,fun st h=>by cases (ae h).1⟩;obtain⟨_,h⟩:=ae h
  have main:(Rv bp fun s rest=>fW T ii a true b [s]&&fW T ii r false b rest)=true->kC X bp (tS X.K cl Γ ii (.seq a r)):=fun h=>by
   obtain⟨s,rest,rfl,h⟩:=JO h;exact NB ((aF b X g).2 s (ae h).1) ((IU b X g).1 rest (ae h).2)
  rcases Ej h with ⟨k,rfl,h⟩ | h
  ·exact NC (of_decide_eq_true (ae h).1) ((IU b X g).1 bp (ae h).2)
  ·exact main h
 | set k c =>
  refine fX (fun b bp h=>by cases (ae h).1) fun b X st g h=>?_
  have h':=k_one h;clear h;obtain⟨x,q,v,p,rfl,h⟩:=wo h';clear h';obtain⟨h,h4⟩:=ae h;obtain⟨h,h3⟩:=ae h;obtain⟨h1,h2⟩:=ae h;exact Ei g h1 h2 h3 h4
 | cU k c =>
  refine fX (fun b bp h=>by cases (ae h).1) fun b X st g h=>?_
  have h':=k_one h;clear h;obtain⟨x,q,v,p,rfl,h⟩:=wo h';clear h';obtain⟨h,h4⟩:=ae h;obtain⟨h,h3⟩:=ae h;obtain⟨h1,h2⟩:=ae h;exact By g h1 h2 h3 h4
 | y6 k q c =>
  refine fX (fun b bp h=>by cases (ae h).1) fun b X st g h=>?_
  have h':=k_one h;clear h;obtain⟨x,q',v,p,rfl,h⟩:=wo h';clear h';obtain⟨h,h4⟩:=ae h;obtain⟨h,h3⟩:=ae h;obtain⟨h1,h2⟩:=ae h;obtain⟨y,es,q2,p2,rfl,h4⟩:=aR h4;obtain⟨l1,l2⟩:=g.lc h2;exact Io g.nd l1 l2 (g.fn x) (jZ h1) (iM h3) (Bv (sound c) g.toGC h4)
 | du k=>exact fX (fun b bp h=>by cases h) fun b X st g h=>by cases h
 | app k c =>
  refine fX (fun b bp h=>by cases (ae h).1) fun b X st g h=>?_
  have h':=k_one h;clear h;obtain⟨e,p,rfl,h⟩:=nN h';clear h';obtain⟨o,y,es,q,p',rfl,h⟩:=kS h;obtain⟨h,h4⟩:=ae h;obtain⟨h,h3⟩:=ae h;obtain⟨h1,h2⟩:=ae h;obtain⟨x,p2,rfl,h3⟩:=cg h3;obtain⟨u,rfl,h4⟩:=a6 h4;obtain⟨n1,n2,n3,n4⟩:=g.nm h3
  cases of_decide_eq_true h1
  exact NH n1 n2 n3 n4 (sound c .E b _ (ae h4).2 X g.toGC) (ae h4).1 h2
 | ext k c =>
  refine fX (fun b bp h=>by cases (ae h).1) fun b X st g h=>?_
  have h':=k_one h;clear h;obtain⟨e,p,rfl,h⟩:=nN h';clear h';obtain⟨o,y,es,q,p',rfl,h⟩:=kS h;obtain⟨h,h4⟩:=ae h;obtain⟨h,h3⟩:=ae h;obtain⟨h1,h2⟩:=ae h;obtain⟨x,p2,rfl,h3⟩:=cg h3;obtain⟨u,rfl,h4⟩:=a6 h4;obtain⟨n1,n2,n3,n4⟩:=g.nm h3
  cases of_decide_eq_true h1
  exact NI n1 n2 n3 n4 (sound c .E b _ (ae h4).2 X g.toGC) (ae h4).1 h2
 | KC a c =>
  refine fX (fun b bp h=>by cases (ae h).1) fun b X st g h=>?_
  have h':=k_one h;clear h;obtain⟨e,p,rfl,h⟩:=nN h';clear h';obtain⟨o,y,es,q,p',rfl,h⟩:=kS h;obtain⟨h,h4⟩:=ae h;obtain⟨h,h3⟩:=ae h;obtain⟨h1,h2⟩:=ae h;obtain⟨u,rfl,h4⟩:=a6 h4;obtain⟨h4,h6⟩:=ae h4;obtain⟨h4,h5⟩:=ae h4
  cases of_decide_eq_true h1
  exact NL (sound a .E b _ h5 X g.toGC) (sound c .E b _ h6 X g.toGC) h3 h4 h2
 | Mf a k c =>
  refine fX (fun b bp h=>by cases (ae h).1) fun b X st g h=>?_
  have h':=k_one h;clear h;obtain⟨t,v,p,rfl,h⟩:=wm h';clear h';obtain⟨h1,h⟩:=ae h;obtain⟨o,i,q,rfl,h⟩:=nJ h;obtain⟨h,h4⟩:=ae h;obtain⟨h2,h3⟩:=ae h;exact NM g.F.wl g.KJ (sound a .E b _ h2 X g.toGC) (sound k .E b _ h3 X g.toGC) (sound c .E b _ h4 X g.toGC) (iM h1)
 | eE k f c =>
  refine fX (fun b bp h=>by cases (ae h).1) fun b X st g h=>?_
  have h':=k_one h;clear h;obtain⟨t,v,p,rfl,h⟩:=wm h';clear h';obtain⟨h0,h⟩:=ae h;obtain⟨o,f',p2,rfl,h⟩:=wj h;obtain⟨h,h3⟩:=ae h;obtain⟨h1,h2⟩:=ae h;obtain⟨x,p3,rfl,h2⟩:=cg h2;obtain⟨n1,n2,n3,n4⟩:=g.nm h2
  cases of_decide_eq_true h1
  exact Ix g.F.at_ n1 n2 n3 n4 (iM h0) (sound c .E b _ h3 X g.toGC)
 | aug k op c =>
  refine fX (fun b bp h=>by cases (ae h).1) fun b X st g h=>?_
  have h':=k_one h;clear h;obtain⟨x,q,o,v,p,rfl,h⟩:=JP h';clear h';obtain⟨h,h5⟩:=ae h;obtain⟨h,h4⟩:=ae h;obtain⟨h,h3⟩:=ae h;obtain⟨h1,h2⟩:=ae h;obtain⟨l1,l2⟩:=g.lc h2
  cases of_decide_eq_true h3
  refine NG ?_ g.nd l1 l2 (g.fn x) (jZ h1) (sound c .E b _ h5 X g.toGC)
  cases op<;>first | exact .inl rfl | exact .inr rfl | cases h4
 | ex c =>
  refine fX (fun b bp h=>by cases (ae h).1) fun b X st g h=>?_
  have h':=k_one h;clear h;obtain⟨e,p,rfl,h⟩:=nN h';clear h';exact Q8 (iM (ae h).1) (sound c .E b _ (ae h).2 X g.toGC)
 | bu q c =>
  refine fX (fun b bp h=>by cases (ae h).1) fun b X st g h=>?_
  have h':=k_one h;clear h;obtain⟨e,p,rfl,h⟩:=nN h';clear h';obtain⟨o,y,es,u,p',rfl,h⟩:=kS h;obtain⟨h,h5⟩:=ae h;obtain⟨h,h4⟩:=ae h;obtain⟨h,h3⟩:=ae h;obtain⟨h1,h2⟩:=ae h;obtain⟨x,p2,rfl,h3⟩:=cg h3;obtain⟨h3,h8⟩:=ae h3;obtain⟨h6,h7⟩:=ae h3;obtain⟨sf,es,rfl,h5⟩:=kT h5;obtain⟨h5,VM⟩:=ae h5;obtain⟨h5,VN⟩:=ae h5;obtain⟨h9,Fe⟩:=ae h5;obtain⟨sx,p3,rfl,h9⟩:=cg h9;obtain⟨n1,n2,n3,n4⟩:=g.nm h9
  cases of_decide_eq_true h1
  exact NO g.F g.room (of_decide_eq_true h6) h4 (g.gl h7) (je h8).1 n1 n2 n3 n4 (sound c .A b _ VM X g.toGC) Fe (of_decide_eq_true VN) h2
 | ret c =>
  refine fX (fun b bp h=>by cases (ae h).1) fun b X st g h=>?_
  have h':=k_one h;clear h;obtain⟨e,p,rfl,h⟩:=Bw h';clear h'
  cases e with
  | none=>cases h
  | some e=>exact ND (sound c .E b _ h X g.toGC)
 | y7 k =>
  refine fX (fun b bp h=>by cases (ae h).1) fun b X st g h=>?_
  have h':=k_one h;clear h;obtain⟨e,p,rfl,h⟩:=Bw h';clear h'
  cases e with
  | none=>cases h
  | some e =>
   obtain⟨x,p2,rfl,h⟩:=cg h;obtain⟨n1,n2,n3,n4⟩:=g.nm (ae h).2;exact Iz n1 n2 n3 n4 (of_decide_eq_true (ae h).1)
 | A1 a aF =>
  refine fX (fun b bp h=>by cases (ae h).1) fun b X st g h=>?_
  have h':=k_one h;clear h;obtain⟨bd,h0,hs,p,rfl,h⟩:=JT h';exact (DC ((aF b X.quiet g.quiet).1 bd h)).imp fun D σ H z=>by obtain⟨B,ρ,M,G,E,h1,h2,h3⟩:=z;exact⟨B,ρ,M,G,E,h1,h2,h3⟩
 | never=>exact fX (fun b bp h=>by cases h) fun b X st g h=>D6
 | ite t a c aF cX =>
  refine fX (fun b bp h=>by cases (ae h).1) fun b X st g h=>?_
  have h':=k_one h;clear h;obtain⟨e,x,y,p,rfl,h⟩:=JQ h';clear h';obtain⟨h,h3⟩:=ae h;obtain⟨h1,h2⟩:=ae h;exact NE (sound t .T b _ h1 X g.toGC) ((aF b X g).1 x h2) ((cX b X g).1 y h3)
 | bx it ts a aF =>
  refine fX (fun b bp h=>by cases (ae h).1) fun b X st g h=>?_
  have h':=k_one h;clear h;obtain⟨tg,e,x,p,rfl,h⟩:=JR h';clear h';obtain⟨h,h4⟩:=ae h;obtain⟨h,h3⟩:=ae h;obtain⟨h1,h2⟩:=ae h;obtain⟨gg,hg,ht⟩:=JV g h1;exact Iw g.po g.calm (sound it .I b _ h3 X g.toGC) hg ht ((aF b X g).1 x h4) (uB h2)
 | E5 t a aF =>
  refine fX (fun b bp h=>by cases (ae h).1) fun b X st g h=>?_
  have h':=k_one h;clear h;obtain⟨e,x,p,rfl,h⟩:=JS h';clear h';exact NF g.po (sound t .T b _ (ae h).1 X g.toGC) ((aF b X g).1 x (ae h).2)
end
end PV
namespace PV
open PySem L2 SH
noncomputable def nO (N ps:List Str) (sc:Scope):Bool:=decide (sc.kind=.function)&&decide (sc.isCoroutine=false)&&decide (sc.isGenerator=false)&&decide N.Nodup&&decide (N.take ps.length=ps)&&ps.all (fun x=>decide (sc.names.lookup x=some .local∨sc.names.lookup x=some .cell))&&sc.names.all (fun y=>decide (y.2≠.free))
noncomputable def zj (T:Tb) (ii:Bool) (st:Stmt) (N ps:List Str) (c:S):Bool:=nO N ps (bw st)&&fW T ii c false ⟨N,bw st⟩ (iJ st)
theorem N9 {N ps:List Str}{sc:Scope} (h:nO N ps sc=true):mw N ps sc:=by
 unfold nO at h;obtain⟨h,h7⟩:=ae h;obtain⟨h,h6⟩:=ae h;obtain⟨h,h5⟩:=ae h;obtain⟨h,h4⟩:=ae h;obtain⟨h,h3⟩:=ae h;obtain⟨h1,h2⟩:=ae h;rw[V_] at h6 h7;exact⟨of_decide_eq_true h1,of_decide_eq_true h2,of_decide_eq_true h3,of_decide_eq_true h4,of_decide_eq_true h5,fun x hx=>of_decide_eq_true (h6 x hx),fun y hy=>of_decide_eq_true (h7 y hy)⟩
section
variable {P:K_}{w:World}{K:e_}{mg:Str->l_ Value}{base:Heap}{Γ:Gm}{cl:Cl}{T:Tb}{n:Nat}{x qual:Str}{st:Stmt}{f:Addr}{fd:XF}{N ps:List Str}{c:S}{ii:Bool}
noncomputable def bu (N ps:List Str) (sl:List Sl):En:=sl++adv (N.length-ps.length) .no
theorem mG (F:Fx Γ cl P w K mg base n T.fns T.kN T.cls T.nE T.nF) (bt:∀ x∈Ea,mg x=none) (D:Aq K x qual st f fd) (hc:zj T ii st N ps c=true) {sp:Sp} (len:∀ vs H Q E,sp vs H Q E->vs.length=ps.length)
  (body:∀ vs H Q E,sp vs H Q E->tS K cl Γ ii c { nx:=fun _ H'=>Q .az H',rt:=Q } (start N vs) H):bH P w K mg base kG (n+1) f fd ps sp:=by
 obtain⟨h1,h2⟩:=ae hc;have S:=N9 h1;refine D.ok S len fun i8 A outer s H vs Q E hr CB=>?_
 have g:GD T Γ cl n (vQ kG P w K mg base N qual (bw st) f i8 A outer s H E).K5 ⟨N,bw st⟩ :=
  { hN:=rfl,calm:=rfl,loc:=fun x h=>h,IR:=fun x h=>h,KI:=fun x h=>.inl h,NQ:=fun x h=>h,room:=hr,F:=F,bt:=bt,sc:=rfl,kind:=S.kind,fn:=fun _=>rfl,nd:=S.nd,po:=adk }
 exact⟨_,(JX c ⟨N,bw st⟩ _ g).1 _ h2,body vs H Q E CB⟩
theorem xM {B:Bs}{G H:Hp}{M:Mem}{sl:List Sl}{vs:List V} (hB:B.G=G/\B.H=H/\B.M=M) (s:ah G H) (m:bE K cl G H M) (l:sl.length=vs.length) (lp:vs.length=ps.length) (h0:∀ a,B.sf=some a->vs[(0:Nat)]? = some (.ref a))
  (hs:∀ (i:Nat) d,sl[i]? = some (.sh d)->∃ v,vs[i]? = some v/\Is K cl G d v) (ho:∀ (i:Nat) d,sl[i]? = some (.ow d)->i=0/\∃ a,B.sf=some a/\AY K cl B M G H 0 a d):Rep K cl B (bu N ps sl) M (start N vs) H G:=by
 obtain⟨rfl,rfl,rfl⟩:=hB
 have get:∀ {i:Nat}{z:Sl},(bu N ps sl)[i]? = some z->z≠.no->sl[i]? = some z:=fun {i z} e ne=>by
  unfold bu at e;by_cases hi:i<sl.length
  ·rwa [Xq hi] at e
  ·rw[Xj (by omega),aa7] at e;split at e
   ·cases e;exact absurd rfl ne
   ·cases e
 have put:∀ {i:Nat}{v:V},vs[i]? = some v->(start N vs)[i]? = some (some v):=fun {i v} e=>by
  unfold L2.start;have hi:i<vs.length:=(j_.mp e).1;rw[Xq (by simpa using hi),f_,e];rfl
 refine⟨a9.refl s m,?_,fun a e=>put (h0 a e),fun i d e=>?_,fun _=>(B.sf).getD 0,fun i d e=>?_,fun i j d e hi hj _=>?_⟩
 ·unfold bu L2.start;rw[u_,u_,Z7,a_,Z7,l,lp]
 ·obtain⟨v,h1,h2⟩:=hs i d (get e (fun z=>nomatch z));exact⟨v,put h1,h2⟩
 ·obtain⟨rfl,a,h1,h2⟩:=ho i d (get e (fun z=>nomatch z));refine⟨?_,?_⟩
  ·rw[h1];exact put (h0 a h1)
  ·rw[h1];exact h2
 ·rw[(ho i d (get hi (fun z=>nomatch z))).1,(ho j e (get hj (fun z=>nomatch z))).1]
theorem wq {G H:Hp}{M:Mem}{ds:List Dt}{vs:List V} (s:ah G H) (m:bE K cl G H M) (i:IsL K cl G ds vs) (lp:ds.length=ps.length):Rep K cl ⟨G,H,M,none⟩ (bu N ps (ds.map Sl.sh)) M (start N vs) H G:=by
 have l:=i.length;refine xM ⟨rfl,rfl,rfl⟩ s m (by rw[a_,l]) (by omega) (fun a e=>nomatch e) (fun j d e=>?_) fun j d e=>?_
 ·rw[f_] at e;obtain⟨d',e1,e2⟩:=k_.mp e
  cases e2
  exact i.get e1
 ·rw[f_] at e;obtain⟨d',e1,e2⟩:=k_.mp e
  cases e2
theorem Ff (F:Fx Γ cl P w K mg base n T.fns T.kN T.cls T.nE T.nF) (bt:∀ x∈Ea,mg x=none) (D:Aq K x qual st f fd) (hc:zj T false st N ps c=true) {pf:bN}
  (body:∀ ds M k,pf ds M k->ds.length=ps.length/\ex Γ c (bu N ps (ds.map Sl.sh)) M { nx:=fun _ M'=>k .az M',rt:=k }):bH P w K mg base kG (n+1) f fd ps (Nh K cl pf):=by
 refine mG F bt D hc (fun vs H Q E h=>?_) fun vs H Q E h=>?_
 ·obtain⟨G,M,ds,k,h1,h2,h3,h4,h5⟩:=h;rw[←h3.length];exact (body ds M k h4).1
 ·obtain⟨G,M,ds,k,h1,h2,h3,h4,h5⟩:=h;obtain⟨b1,b2⟩:=body ds M k h4;refine⟨_,_,M,G,_,wq h1 h2 h3 b1,b2,⟨fun _=>rfl,fun ρ M' σ H' G' s r q=>?_,fun d v ρ M' σ H' G' r i q=>?_,fun ρ M' σ H' G' s r q=>q,fun ρ M' σ H' G' s r q=>q,(fun _ _ _ _ _ _ _ _ _ _ _ _ _ _ z=>z.elim)⟩⟩
  ·exact h5 .az M' .az G' H' q r.b5 (by unfold Is;rfl)
  ·exact h5 d M' v G' H' q r.b5 i
theorem Oa (F:Fx Γ cl P w K mg base n T.fns T.kN T.cls T.nE T.nF) (bt:∀ x∈Ea,mg x=none) (D:Aq K x qual st f fd) (hc:zj T false st N ps c=true) {pf:List Dt->Mem->(List Dt->Mem->Prop)->Prop}
  (body:∀ ds M k,pf ds M k->ds.length=ps.length/\ex Γ c (bu N ps (ds.map Sl.sh)) M { nx:=fun _ _=>False,rt:=fun _ _=>False,ro:=k }):bH P w K mg base kG (n+1) f fd ps (Ni K cl pf):=by
 refine mG F bt D hc (fun vs H Q E h=>?_) fun vs H Q E h=>?_
 ·obtain⟨G,M,ds,k,h1,h2,h3,h4,h5⟩:=h;rw[←h3.length];exact (body ds M k h4).1
 ·obtain⟨G,M,ds,k,h1,h2,h3,h4,h5⟩:=h;obtain⟨b1,b2⟩:=body ds M k h4;exact⟨_,_,M,G,_,wq h1 h2 h3 b1,b2,⟨fun _=>rfl,fun ρ M' σ H' G' s r q=>q.elim,fun d v ρ M' σ H' G' r i q=>q.elim,fun ρ M' σ H' G' s r q=>q,fun ρ M' σ H' G' s r q=>q,fun xs us a ρ M' σ H' G' r ha ga ma e i q=>h5 xs us a M' G' H' q r.b5 ha ga ma e i⟩⟩
theorem Ob (F:Fx Γ cl P w K mg base n T.fns T.kN T.cls T.nE T.nF) (bt:∀ x∈Ea,mg x=none) (D:Aq K x qual st f fd) (hc:zj T false st N ps c=true) {pf:bN}{q:Nat}
  (body:∀ d ds M k fs,fh M d (fun n' e8=>n'=q/\e8=fs)->pf (d::ds) M k->(d::ds).length=ps.length/\ex Γ c (bu N ps ((d::ds).map Sl.sh)) M { nx:=fun _ M'=>k .az M',rt:=k }):bH P w K mg base kG (n+1) f fd ps (Nj K cl q pf):=by
 refine mG F bt D hc (fun vs H Q E h=>?_) fun vs H Q E h=>?_
 ·obtain⟨G,M,d,ds,k,fs,h1,h2,h3,h0,h4,h5⟩:=h;rw[←h3.length];exact (body d ds M k fs h0 h4).1
 ·obtain⟨G,M,d,ds,k,fs,h1,h2,h3,h0,h4,h5⟩:=h;obtain⟨b1,b2⟩:=body d ds M k fs h0 h4;refine⟨_,_,M,G,_,wq h1 h2 h3 b1,b2,⟨fun _=>rfl,fun ρ M' σ H' G' s r q=>?_,fun d v ρ M' σ H' G' r i q=>?_,fun ρ M' σ H' G' s r q=>q,fun ρ M' σ H' G' s r q=>q,(fun _ _ _ _ _ _ _ _ _ _ _ _ _ _ z=>z.elim)⟩⟩
  ·exact h5 .az M' .az G' H' q r.b5 (by unfold Is;rfl)
  ·exact h5 d M' v G' H' q r.b5 i
theorem Oc (F:Fx Γ cl P w K mg base n T.fns T.kN T.cls T.nE T.nF) (bt:∀ x∈Ea,mg x=none) (D:Aq K x qual st f fd) (hc:zj T true st N ps c=true) {pf:Dt->List Dt->Mem->(Dt->Mem->Prop)->Prop}
  (body:∀ q fs xs ds M k,pf (.obj q fs xs) ds M k->ds.length+1=ps.length/\ex Γ c (bu N ps (.ow (.obj q fs xs)::ds.map Sl.sh)) M { nx:=fun ρ M'=>b6 ρ 0 fun d=>pA d fun q' e8 ux=>q'=q/\k (.obj q e8 ux) M',rt:=fun _ _=>False }):bH P w K mg base kG (n+1) f fd ps (DV K cl pf):=by
 refine mG F bt D hc (fun vs H Q E h=>?_) fun vs H Q E h=>?_
 ·obtain⟨G,M,a,q,fs,xs,dx,us,KG,ds,k,rfl,h1,h2,h3,h4,h5,h6,h7,h8,h9,Fe⟩:=h;rw[z_,←h8.length];exact (body q fs xs ds M k h9).1
 ·obtain⟨G,M,a,q,fs,xs,dx,us,KG,ds,k,rfl,h1,h2,h3,h4,h5,h6,h7,h8,h9,Fe⟩:=h;obtain⟨b1,b2⟩:=body q fs xs ds M k h9;have l:=h8.length
  have r0:Rep K cl ⟨G,H,M,some a⟩ (bu N ps (.ow (.obj q fs xs)::ds.map Sl.sh)) M (start N (.ref a::KG)) H G:=by
   refine xM ⟨rfl,rfl,rfl⟩ h6 h7 (by rw[z_,z_,a_,l]) (by rw[z_];omega) (fun a' e=>by cases e;rfl) (fun j d e=>?_) fun j d e=>?_
   ·cases j with
    | zero=>cases e
    | succ j =>
     rw[Yi,f_] at e;obtain⟨d',e1,e2⟩:=k_.mp e
     cases e2
     exact h8.get e1
   ·cases j with
    | zero=>cases e;exact⟨rfl,a,rfl,h4,h5,.inr ⟨rfl,rfl⟩,.mo q fs xs,rfl,dx,us,h1,h2,h3⟩
    | succ j =>
     rw[Yi,f_] at e;obtain⟨d',e1,e2⟩:=k_.mp e
     cases e2
  refine⟨_,_,M,G,_,r0,b2,⟨(fun z=>nomatch z),fun ρ M' σ H' G' s r z=>?_,fun d v ρ M' σ H' G' r i z=>z.elim,fun ρ M' σ H' G' s r z=>z,fun ρ M' σ H' G' s r z=>z,(fun _ _ _ _ _ _ _ _ _ _ _ _ _ _ z=>z.elim)⟩⟩;obtain⟨d,e1,z1⟩:=cG z;obtain⟨q',e8,ux,rfl,rfl,z2⟩:=kQ z1;obtain⟨oa,o1,_⟩:=r.ow;obtain⟨s1,ga,ma,_,o,ho,hc⟩:=o1 0 _ e1;have ea:oa 0=a:=by have:=r.s0 a rfl;rw[this] at s1;cases s1;rfl
  rw[ea] at ga ma hc
  cases ho
  obtain⟨Ii,Dv,c1,c2,c3⟩:=hc;exact Fe e8 ux Dv Ii M' G' H' z2 r.b5 ga ma c1 c2 c3
end
end PV
namespace PV
open PySem L2 SH
structure Df where
 x:Str
 qual:Str
 N:List Str
 ps:List Str
 c:S
noncomputable def df (x q:Str) (N:List ZK) (k:Nat) (c:S):Df:=⟨x,q,N.map YS,(N.take k).map YS,c⟩
noncomputable def dg (x:Str) (N:List ZK) (k:Nat) (c:S):Df:=df x x N k c
noncomputable def LS (l:List ZK):List Str:=l.map YS
structure Pg where
 T:Tb
 fd:List (l_ Df)
 md:List (List (Nat×Df))
 id:List (Nat×Df)
 Rz:List (Nat×List Str)
 JY:List Dt
noncomputable def Pg.at_ (p:Pg) (c:Nat) (f:Str):Bool:=match p.Rz.lookup c with
 | some fs=>fs.contains f
 | none=>false
noncomputable def Pg.hm (p:Pg) (m c:Nat) (fs:List Str):Bool:=match (p.md.getD m []).lookup c,p.T.kN[m]? with
 | some _,some x => !fs.contains x
 | _,_=>false
noncomputable def Pg.cs (p:Pg) (k:Nat):Dt:=p.JY.getD k .az
noncomputable def Od (p:Pg) (Γ:Gm) (Γ':l_ Gm):Gm where
 fn f ds M k:=∃ d,p.fd[f]? = some (some d)/\ds.length=d.ps.length/\ex Γ d.c (bu d.N d.ps (ds.map Sl.sh)) M { nx:=fun _ M'=>k .az M',rt:=k }
 fo f ds M k:=∃ d,p.fd[f]? = some (some d)/\ds.length=d.ps.length/\ex Γ d.c (bu d.N d.ps (ds.map Sl.sh)) M { nx:=fun _ _=>False,rt:=fun _ _=>False,ro:=k }
 me m ds M k:=∃ x r c fs d,ds=x::r/\fh M x (fun c' e8=>c'=c/\e8=fs)/\(p.md.getD m []).lookup c=some d/\ds.length=d.ps.length/\ex Γ d.c (bu d.N d.ps (ds.map Sl.sh)) M { nx:=fun _ M'=>k .az M',rt:=k }
 bu c o ds M k:=∃ Γ0 q fs xs d,Γ'=some Γ0/\o=.obj q fs xs/\p.id.lookup c=some d/\ds.length+1=d.ps.length/\ex Γ0 d.c (bu d.N d.ps (.ow o::ds.map Sl.sh)) M { nx:=fun ρ M'=>b6 ρ 0 fun d=>pA d fun q' e8 ux=>q'=q/\k (.obj q e8 ux) M',rt:=fun _ _=>False }
 cs:=p.cs
 at_:=p.at_
 hm:=p.hm
noncomputable def xN (p:Pg):Nat->Gm×l_ Gm
 | 0=>({ fn:=fun _ _ _ _=>False,fo:=fun _ _ _ _=>False,me:=fun _ _ _ _=>False,bu:=fun _ _ _ _ _=>False,cs:=p.cs,at_:=p.at_,hm:=p.hm },none)
 | n+1=>(Od p (xN p n).1 (xN p n).2,some (xN p n).1)
noncomputable def Pg.Γ (p:Pg) (n:Nat):Gm:=(xN p n).1
theorem Pg.JZ {p:Pg}:∀ n,(p.Γ n).cs=p.cs
 | 0=>rfl
 | _+1=>rfl
theorem Pg.Oe {p:Pg}:∀ n,(p.Γ n).at_=p.at_
 | 0=>rfl
 | _+1=>rfl
theorem Pg.jf {p:Pg}:∀ n,(p.Γ n).hm=p.hm
 | 0=>rfl
 | _+1=>rfl
noncomputable def Fg:Value->Bool
 | .none=>true
 | _=>false
noncomputable def uC (a:ac0) (ps:List Str):Bool:=a.posonlyargs.isEmpty&&decide (a.args.map (·.arg)=ps)&&a.vararg.isNone&&a.kwonlyargs.isEmpty&&a.kwarg.isNone&&decide ps.Nodup
noncomputable def Fh (T:Tb) (ii:Bool) (d:Df) (sc:Scope):FuncBody->Bool
 | .stmts b=>nO d.N d.ps sc&&fW T ii d.c false ⟨d.N,sc⟩ b
 | _=>false
noncomputable def RA (K:e_) (T:Tb) (ii:Bool) (d:Df) (fd:XF):Bool:=decide (fd.name=d.x)&&decide (fd.qualname=d.qual)&&decide (fd.globals=mainGlobals)&&fd.closure.isEmpty&&Fg fd.defaults&&decide (fd.builtins=abm)&&Zo K fd.code d.qual&&uC fd.params d.ps&&Fh T ii d fd.scope fd.body
noncomputable def Bz (K:e_) (T:Tb) (ii:Bool) (d:Df) (a:Addr):Bool:=ZV K (.ref a)&&match K.lookup a with
 | some ⟨_,_,.func fd,_⟩=>RA K T ii d fd
 | _=>false
noncomputable def zk (o:l_ (l_ Value)) (k:Addr->Bool):Bool:=match o with | some (some (.ref a))=>k a | _=>false
noncomputable def El (o:l_ (l_ Value)):Bool:=match o with | some none=>true | _=>false
noncomputable def iU (K:e_) (T:Tb) (c:Nat):Addr:=match Zv K mainGlobals (T.cls.getD c XY) with
 | some (some (.ref a))=>a
 | _=>0
noncomputable def Em (K:e_) (C:Addr):Bool:=Zs K C XY&&ZU K C&&aaU K C&&Xu K (.ref C) "__setattr__" == some (some (.builtin "object.__setattr__"))
noncomputable def BA:List Value->List Dt->Bool
 | [],[]=>true
 | .str x _::vs,.str y::ds=>decide (x=y)&&BA vs ds
 | _,_=>false
noncomputable def J0 (K:e_) (a:Addr) (ds:List Dt):Bool:=match K.lookup a with
 | some ⟨c,_,.seq aj _,_⟩=>decide (c=.type "tuple")&&decide (aj.size<=100)&&BA aj.toList ds
 | _=>false
noncomputable def Fi (K:e_):l_ (l_ Value)->Dt->Bool
 | some (some (.int i _)),.int j=>decide (i=j)
 | some (some (.str x _)),.str y=>decide (x=y)
 | some (some (.ref a)),.rK ds=>J0 K a ds
 | _,_=>false
noncomputable def J1:Str := "__debug__"
noncomputable def RB (o:l_ adF) (k:Addr->Bool):Bool:=match o with | some (.val (.ref a))=>k a | _=>false
noncomputable def BB (K:e_) (p:Pg):Bool :=
 decide (p.T.fns=p.fd.map fun o=>match o with | some d=>d.x | none=>J1) &&
 p.fd.all (fun o=>match o with | none=>true | some d=>zk (Zv K mainGlobals d.x) fun a=>Bz K p.T false d a) &&
 p.T.cls.all (fun x=>x==J1||zk (Zv K mainGlobals x) fun a=>Xn K (.ref a)) &&
 (p.T.kN.zip p.md).all (fun e=>e.2.all fun cd=>Em K (iU K p.T cd.1)&&zk (Xu K (.ref (iU K p.T cd.1)) e.1) fun f=>Bz K p.T false cd.2 f) &&
 p.id.all (fun cd=>abD K (iU K p.T cd.1)&&Xn K (.ref (iU K p.T cd.1))&&zk (Xu K (.ref (iU K p.T cd.1)) "__init__") fun f=>Bz K p.T true cd.2 f) &&
 p.T.nF.all (fun c=>aaV K (.ref (iU K p.T c)) "__getattribute__" == some (some (.builtin "type.__getattribute__"))&&ade K (iU K p.T c) (.type "type")&&RB (adf K (.ref (iU K p.T c)) (.type "type") "__init__") fun f=>match p.id.lookup c with | some d=>Bz K p.T true d f | none=>false) &&
 (decide (p.T.nE.length=p.JY.length)&&(p.T.nE.zip p.JY).all fun e=>e.1==J1||Fi K (Zv K mainGlobals e.1) e.2) &&
 p.Rz.all (fun e=>Em K (iU K p.T e.1)&&e.2.all fun f=>El (Xu K (.ref (iU K p.T e.1)) f)) &&
 Ea.all (fun x=>El (Zv K mainGlobals x))
theorem hZ:∀ {ps:List Str}{us:List Value}{x:Str}{u:Value}{i:Nat},ps.Nodup->ps[i]? = some x->us[i]? = some u->(ps.zip us).lookup x=some u
 | [],_,_,_,_,_,h,_=>by simp at h
 | _::_,[],_,_,_,_,_,h=>by simp at h
 | p::ps,v::us,x,u,0,n,h1,h2=>by
  simp at h1 h2;subst h1;subst h2;rw[YB,Xf,Y4]
 | p::ps,v::us,x,u,i+1,n,h1,h2=>by
  simp only[Yi] at h1 h2;obtain⟨n1,n2⟩:=Zg.mp n
  have ne:(x==p)=false:=by
   rw[X5];intro e;subst e;exact n1 (q_ h1)
  rw[YB,Xf,ne];exact hZ n2 h1 h2
theorem BD:∀ {ps:List Str}{us:List Value}{f:Str->l_ Value},ps.length=us.length->(∀ (i:Nat) x u,ps[i]? = some x->us[i]? = some u->f x=some u)->(ps.filterMap fun n=>(f n).map (n,·))=ps.zip us
 | [],us,f,l,h=>by simp
 | p::ps,[],f,l,h=>by simp at l
 | p::ps,u::us,f,l,h=>by
  rw[Xb,h 0 p u rfl rfl,YB];simp only[ZH];rw[BD (by simpa using l) fun i x v h1 h2=>h (i+1) x v (by simpa using h1) (by simpa using h2)]
theorem uD {x qual:Str}{a:ac0}{b:List Stmt}{sc:Scope}{ps:List Str} (h:uC a ps=true) (kV doc pm:Value) (an:l_ Addr) (i8 ct:Value) (us:List Value) (l:us.length=ps.length) :
  acK (Yr x qual a b sc .none kV doc pm an i8 ct) ⟨us,[]⟩=pure (ps.zip us):=by
 unfold uC at h;obtain⟨h,h6⟩:=ae h;obtain⟨h,h5⟩:=ae h;obtain⟨h,h4⟩:=ae h;obtain⟨h,h3⟩:=ae h;obtain⟨h1,h2⟩:=ae h;obtain⟨po,ar,va,ko,kd,kw,df⟩:=a;dsimp only at h1 h2 h3 h4 h5 h6;rw[aag] at h1 h4;rw[Option.isNone_iff_eq_none] at h3 h5;have hp:ar.map (·.arg)=ps:=of_decide_eq_true h2;have nd:ps.Nodup:=of_decide_eq_true h6;subst h1 h3 h4 h5;have lk:∀ (i:Nat) x u,ps[i]? = some x->us[i]? = some u->(ps.zip us).lookup x=some u:=fun i x u e1 e2=>hZ nd e1 e2
 have z:=BD (f:=fun n=>(ps.zip us).lookup n) l.symm lk
 have VO:(ps.filter fun n=>((ps.zip us).lookup n).isNone)=[]:=by
  rw[X3];intro n hn;obtain⟨i,hi,e⟩:=XG.mp hn;rw[lk i n (us[i]'(by omega)) (by rw[←e];exact b_ hi) (b_ (by omega))];simp
 have e0:∀ (β:Type) (k:l_ (Array Value)->Sem β),(seqItems? Za >>= k)=k none:=fun _ _=>rfl
 have e1:∀ (β γ:Type) (b:β) (k:β->Sem γ),((pure b:Sem β) >>= k)=k b:=fun _ _ _ _=>rfl
 subst hp
 have np:¬ ((decide (us.length>(ar.map (·.arg)).length)&&(none:l_ Arg).isNone)=true):=by
  rw[d_ (by omega)];decide
 unfold acK;simp only[X2,adg,Xs,adA,e0,e1,aa8,List.drop_nil,ZI,Nat.sub_zero,Yx,n_ np,VO,List.isEmpty_nil,Bool.not_true,n_ r_,List.zip_nil_right,z]
section
variable {P:K_}{w:World}{K:e_}{mg:Str->l_ Value}{base:Heap}{p:Pg}{T:Tb}{ii:Bool}{d:Df}{a:Addr}
structure j2 (K:e_) (T:Tb) (ii:Bool) (d:Df) (a:Addr) (fd:XF) (st:Stmt):Prop where
 fn:Aq K d.x d.qual st a fd
 bi:Binds K fd d.ps []
 ba:∀ us:List Value,us.length=d.ps.length->acK fd ⟨us,[]⟩=pure (d.ps.zip us)
 ch:zj T ii st d.N d.ps d.c=true
 kp:Xn K (.ref a)=true
 Tk:ZV K (.ref a)=true
theorem Og {fd:XF}{x q:Str}{b:List Stmt} (h1:fd.name=x) (h2:fd.qualname=q) (h3:fd.body=.stmts b) (h4:fd.globals=mainGlobals) (h5:fd.closure=[]) (h6:fd.defaults=.none) (h7:fd.builtins=abm) :
  fd=Yr x q fd.params b fd.scope .none fd.kwdefaults fd.doc fd.pyModule fd.annotations fd.code fd.closureTuple:=by
 cases fd
 cases h1;cases h2;cases h3;cases h4;cases h5;cases h6;cases h7
 rfl
theorem at_of {fd:XF}{b:List Stmt}{oc:Value}{od:l_ Addr}{sl:Array (l_ Value)} (e:K.lookup a=some ⟨oc,od,.func fd,sl⟩) (hf:ZV K (.ref a)=true) (hd:fd=Yr d.x d.qual fd.params b fd.scope .none fd.kwdefaults fd.doc fd.pyModule fd.annotations fd.code fd.closureTuple)
  (h7:Zo K fd.code d.qual=true) (h8:uC fd.params d.ps=true) (h9:(nO d.N d.ps fd.scope&&fW T ii d.c false ⟨d.N,fd.scope⟩ b)=true):∃ fd st,j2 K T ii d a fd st:=by
 have kp:Xn K (.ref a)=true:=by unfold Xn;dsimp only;rw[e]
 rw[hd] at e;have F:=GU (st:=.FunctionDef d.x fd.params b [] none [] fd.scope none d.x ⟨0,0,0,0⟩) e h7 kp;exact⟨_,_,F,F.binds fun kV doc pm an i8 ct us l=>uD h8 kV doc pm an i8 ct us l,fun us l=>uD h8 _ _ _ _ _ _ us l,h9,kp,hf⟩
theorem BE {v:Value} (h:Fg v=true):v=.none:=by cases v<;>first | rfl | cases h
theorem BF {sc:Scope}{bd:FuncBody} (h:Fh T ii d sc bd=true):∃ b,bd=.stmts b/\(nO d.N d.ps sc&&fW T ii d.c false ⟨d.N,sc⟩ b)=true:=by cases bd<;>first | exact⟨_,rfl,h⟩ | cases h
theorem J2 {fd:XF} (h:RA K T ii d fd=true):Zo K fd.code d.qual=true/\uC fd.params d.ps=true/\∃ b,fd=Yr d.x d.qual fd.params b fd.scope .none fd.kwdefaults fd.doc fd.pyModule fd.annotations fd.code fd.closureTuple/\(nO d.N d.ps fd.scope&&fW T ii d.c false ⟨d.N,fd.scope⟩ b)=true:=by
 unfold RA at h;simp only[G_,YR] at h;obtain⟨⟨⟨⟨⟨⟨⟨⟨h1,h2⟩,h3⟩,h4⟩,h5⟩,h6⟩,h7⟩,h8⟩,h9⟩:=h;obtain⟨b,e,h9⟩:=BF h9;exact⟨h7,h8,b,Og h1 h2 e h3 (aag.mp h4) (BE h5) h6,h9⟩
theorem mH (h:Bz K T ii d a=true):∃ fd st,j2 K T ii d a fd st:=by
 obtain⟨hf,h⟩:=ae h
 cases e:K.lookup a with
 | none=>rw[e] at h;cases h
 | some o =>
  rw[e] at h;obtain⟨oc,od,dat,sl⟩:=o
  cases dat with
  | func fd =>
   obtain⟨h7,h8,b,hd,h9⟩:=J2 h;exact at_of e hf hd h7 h8 h9
  | _=>cases h
theorem mI {o:l_ (l_ Value)}{k:Addr->Bool} (h:zk o k=true):∃ a,o=some (some (.ref a))/\k a=true:=by
 unfold zk at h;split at h
 ·exact⟨_,rfl,h⟩
 ·cases h
theorem J3 {o:l_ adF}{k:Addr->Bool} (h:RB o k=true):∃ a,o=some (.val (.ref a))/\k a=true:=by
 unfold RB at h;split at h
 ·exact⟨_,rfl,h⟩
 ·cases h
theorem xO {o:l_ (l_ Value)} (h:El o=true):o=some none:=by
 unfold El at h;split at h
 ·rfl
 ·cases h
theorem uE {cl:Cl}{G:Hp}:∀ {us:List Value}{ds:List Dt},BA us ds=true->∃ vs,Vals vs us/\IsL K cl G ds vs
 | [],[],_=>⟨[],.nil,IsL.nil⟩
 | .str x t::us,.str y::ds,h=>by
  obtain⟨h1,h2⟩:=ae h
  cases of_decide_eq_true h1
  obtain⟨vs,r,i⟩:=uE h2;exact⟨.str x::vs,.cons ⟨t,rfl⟩ r,IsL.cons (by unfold Is;rfl) i⟩
theorem Eo {cl:Cl}{G:Hp}{ds:List Dt} (h:J0 K a ds=true):Is K cl G (.rK ds) (.ref a):=by
 unfold J0 at h;split at h
 ·rename_i c od aj n sl e;obtain⟨h,h3⟩:=ae h;obtain⟨h1,h2⟩:=ae h;obtain⟨vs,r,i⟩:=uE h3;unfold Is;exact⟨a,vs,rfl,.inr ⟨_,aj,n,e,of_decide_eq_true h1,rfl,U_ (of_decide_eq_true h2) (by decide),r⟩,i⟩
 ·cases h
theorem xP {C:Addr} (h:Em K C=true):tF K C:=by
 unfold Em at h;obtain⟨h,h4⟩:=ae h;obtain⟨h,h3⟩:=ae h;obtain⟨h1,h2⟩:=ae h;exact⟨h1,h2,h3,YY.mp h4⟩
theorem J4 {c:Nat}{x:Str}{C:Addr} (h:T.cls[c]? = some x) (e:Zv K mainGlobals x=some (some (.ref C))):iU K T c=C:=by
 unfold iU;rw[v_,h];show (match Zv K mainGlobals x with | some (some (.ref a))=>a | _=>0)=C;rw[e]
theorem lookup_mem {α:Type}{c:Nat}{x:α}:∀ {l:List (Nat×α)},l.lookup c=some x->(c,x)∈l
 | [],h=>nomatch h
 | (k,y)::r,h=>by
  rw[Xf] at h
  cases q:c==k with
  | true=>rw[q] at h;cases h;rw[YY.mp q];exact Q_
  | false=>rw[q] at h;exact F_ _ (lookup_mem h)
theorem qF {CX:vP}{n:Nat}{f:Addr}{fd:XF}{ps:List Str}{sp:Sp} (h:∀ vs H Q E,¬ sp vs H Q E):bH P w K mg base CX n f fd ps sp:=⟨fun vs H Q E z=>(h vs H Q E z).elim,fun A outer s H args us vs Q E _ _ _ _ z=>(h vs H Q E z).elim⟩
structure Facts (K:e_) (p:Pg) (mg:Str->l_ Value) (w:World):Prop where
 fn:∀ (f:Nat) x,p.T.fns[f]? = some x->(x==("__debug__" : Str))=false->∃ d a fd st,p.fd[f]? = some (some d)/\mg x=some (.ref a)/\j2 K p.T false d a fd st
 kl:∀ (c:Nat) x,p.T.cls[c]? = some x->(x==("__debug__" : Str))=false->mg x=some (.ref (iU K p.T c))/\Xn K (.ref (iU K p.T c))=true
 me:∀ (m:Nat) x,p.T.kN[m]? = some x->∀ c d,(p.md.getD m []).lookup c=some d->tF K (iU K p.T c)/\∃ a fd st,Xu K (.ref (iU K p.T c)) x=some (some (.ref a))/\j2 K p.T false d a fd st
 bu:∀ (c:Nat) d,p.id.lookup c=some d->∃ a fd st,Mk K (iU K p.T c) a/\j2 K p.T true d a fd st
 cm:∀ (c:Nat),p.T.nF.contains c=true->∃ a fd st d,p.id.lookup c=some d/\G6 K (iU K p.T c) "__init__" a/\j2 K p.T true d a fd st
 cs:∀ (k:Nat) x,p.T.nE[k]? = some x->(x==("__debug__" : Str))=false->∃ u v,mg x=some u/\RelV v u/\∀ G,Is K ⟨iU K p.T,w⟩ G (p.cs k) v
 at_:∀ n f,p.at_ n f=true->tF K (iU K p.T n)/\dF K (iU K p.T n) f
 bt:∀ x∈Ea,mg x=none
theorem BG {h:Heap} (hc:BB K p=true) (X:K.In h) (G:h.Ns mainGlobals mg):Facts K p mg w:=by
 unfold BB at hc;obtain⟨hc,c9⟩:=ae hc;obtain⟨hc,c8⟩:=ae hc;obtain⟨hc,c7⟩:=ae hc;obtain⟨hc,c6⟩:=ae hc;obtain⟨hc,c5⟩:=ae hc;obtain⟨hc,c4⟩:=ae hc;obtain⟨hc,c3⟩:=ae hc;obtain⟨c1,c2⟩:=ae hc;have c1:=of_decide_eq_true c1;obtain⟨RC,c7⟩:=ae c7;have RC:=of_decide_eq_true RC;rw[V_] at c2 c3 c4 c5 c6 c7 c8 c9;refine⟨fun f x hx hd=>?_,fun c x hx hd=>?_,fun m x hx c d hl=>?_,fun c d hl=>?_,fun c VP=>?_,fun k x hx hd=>?_,fun n f hn=>?_,fun x hx=>?_⟩
 ·rw[c1,f_] at hx;obtain⟨o,ho,e⟩:=k_.mp hx
  cases o with
  | none=>rw[←e] at hd;exact absurd hd (by unfold J1;rw[Y4];decide)
  | some d =>
   obtain⟨a,e1,e2⟩:=mI (c2 _ (q_ ho));obtain⟨fd,st,A⟩:=mH e2;exact⟨d,a,fd,st,ho,by rw[←e];exact aam X G e1,A⟩
 ·have:=c3 x (q_ hx);have oZ:(x==J1)=false:=hd;rw[oZ,ach] at this;obtain⟨a,e1,e2⟩:=mI this;rw[J4 hx e1];exact⟨aam X G e1,e2⟩
 ·have hm:p.md[m]? = some (p.md.getD m []):=by
   rw[v_] at hl ⊢
   cases q:p.md[m]? with
   | none=>rw[q] at hl;exact nomatch hl
   | some l=>rfl
  have:=c4 (x,p.md.getD m []) (q_ (i:=m) (by rw[aaP];exact⟨hx,hm⟩));have:=(V_.mp this) (c,d) (lookup_mem hl);obtain⟨k1,k2⟩:=ae this;obtain⟨a,e1,e2⟩:=mI k2;obtain⟨fd,st,A⟩:=mH e2;exact⟨xP k1,a,fd,st,e1,A⟩
 ·have:=c5 (c,d) (lookup_mem hl);obtain⟨k,k3⟩:=ae this;obtain⟨k1,k2⟩:=ae k;obtain⟨a,e1,e2⟩:=mI k3;obtain⟨fd,st,A⟩:=mH e2;exact⟨a,fd,st,⟨k1,e1,A.Tk,k2⟩,A⟩
 ·have:=c6 c (Z_.mp VP);obtain⟨k,k3⟩:=ae this;obtain⟨k1,k2⟩:=ae k;obtain⟨a,e1,e2⟩:=J3 k3
  cases q:p.id.lookup c with
  | none=>rw[q] at e2;cases e2
  | some d =>
   rw[q] at e2;obtain⟨fd,st,A⟩:=mH e2;exact⟨a,fd,st,d,rfl,⟨YY.mp k1,k2,e1,A.kp⟩,A⟩
 ·have hl:k<p.JY.length:=by rw[←RC];exact (j_.mp hx).1
  have:=c7 (x,p.JY[k]) (q_ (i:=k) (by rw[aaP];exact⟨hx,b_ hl⟩));have oZ:(x==J1)=false:=hd;dsimp only at this;rw[oZ,ach] at this;have e:p.cs k=p.JY[k]:=by unfold Pg.cs;rw[v_,b_ hl];rfl
  rw[e];generalize p.JY[k]=d at this;unfold Fi at this;split at this
  ·rename_i i t j q;have:=of_decide_eq_true this;subst this;exact⟨_,.int _,aam X G q,⟨_,rfl⟩,fun G=>by unfold Is;rfl⟩
  ·rename_i i t j q;have:=of_decide_eq_true this;subst this;exact⟨_,.str _,aam X G q,⟨_,rfl⟩,fun G=>by unfold Is;rfl⟩
  ·rename_i a ds q;exact⟨_,.ref a,aam X G q,rfl,fun G=>Eo this⟩
  ·cases this
 ·unfold Pg.at_ at hn
  cases q:p.Rz.lookup n with
  | none=>rw[q] at hn;cases hn
  | some fs =>
   rw[q] at hn;obtain⟨k1,k2⟩:=ae (c8 (n,fs) (lookup_mem q));exact⟨xP k1,xO ((V_.mp k2) f (Z_.mp hn))⟩
 ·exact PySem.W.mg_none_of X G (xO (c9 x hx))
theorem BH {M:Mem}{x:Dt}{c c':Nat}{fs e8:List Str} (h:fh M x (fun n f=>n=c/\f=fs)) (h':fh M x (fun n f=>n=c'/\f=e8)):c=c':=by
 unfold fh at h h'
 cases x with
 | obj n f _=>exact h.1.symm.trans h'.1
 | jz a =>
  dsimp only at h h'
  cases q:M a with
  | none=>rw[q] at h;exact h.elim
  | some o =>
   rw[q] at h h'
   cases o with
   | mo n f _=>exact h.1.symm.trans h'.1
   | _=>exact h.elim
 | _=>exact h.elim
def FX (P:K_) (w:World) (K:e_) (mg:Str->l_ Value) (base:Heap) (p:Pg) (n:Nat):Prop:=Fx (p.Γ n) ⟨iU K p.T,w⟩ P w K mg base n p.T.fns p.T.kN p.T.cls p.T.nE p.T.nF
theorem RD {n f:Nat}{ds:List Dt}{M:Mem}{k:Dt->Mem->Prop} (h:(p.Γ (n+1)).fn f ds M k):∃ d,p.fd[f]? = some (some d)/\ds.length=d.ps.length/\ex (p.Γ n) d.c (bu d.N d.ps (ds.map Sl.sh)) M { nx:=fun _ M'=>k .az M',rt:=k }:=h
theorem RE {n m:Nat}{x:Dt}{r:List Dt}{M:Mem}{k:Dt->Mem->Prop}{c:Nat}{fs:List Str}{d:Df} (hx:fh M x (fun c' e8=>c'=c/\e8=fs)) (hd:(p.md.getD m []).lookup c=some d) (h:(p.Γ (n+1)).me m (x::r) M k):(x::r).length=d.ps.length/\ex (p.Γ n) d.c (bu d.N d.ps ((x::r).map Sl.sh)) M { nx:=fun _ M'=>k .az M',rt:=k }:=by
 obtain⟨x',r',c',e8,d',e1,e2,e3,e4⟩:=h
 cases e1
 obtain rfl:=BH hx e2;rw[hd] at e3
 cases e3
 exact e4
theorem Oh {n c:Nat}{o:Dt}{ds:List Dt}{M:Mem}{k:Dt->Mem->Prop} (h:(p.Γ (n+2)).bu c o ds M k):∃ d,p.id.lookup c=some d:=by
 obtain⟨_,_,_,_,d,_,_,e,_⟩:=h;exact⟨d,e⟩
theorem Oi {n c q:Nat}{fs:List Str}{xs ds:List Dt}{M:Mem}{k:Dt->Mem->Prop}{d:Df} (hd:p.id.lookup c=some d) (h:(p.Γ (n+2)).bu c (.obj q fs xs) ds M k):ds.length+1=d.ps.length/\ex (p.Γ n) d.c (bu d.N d.ps (.ow (.obj q fs xs)::ds.map Sl.sh)) M { nx:=fun ρ M'=>b6 ρ 0 fun d=>pA d fun q' e8 ux=>q'=q/\k (.obj q e8 ux) M',rt:=fun _ _=>False }:=by
 obtain⟨_,_,_,_,d',e1,e2,e3,e4⟩:=h
 cases e1;cases e2
 rw[hd] at e3
 cases e3
 exact e4
theorem Fj {c:Nat}{o:Dt}{ds:List Dt}{M:Mem}{k:Dt->Mem->Prop} (h:(p.Γ 1).bu c o ds M k):False:=by
 obtain⟨_,_,_,_,_,e,_⟩:=h;exact nomatch e
theorem Oj {n m c:Nat}{fs:List Str}{x:Str} (h:(p.Γ n).hm m c fs=true) (hx:p.T.kN[m]? = some x):fs.contains x=false/\∃ d,(p.md.getD m []).lookup c=some d:=by
 rw[Pg.jf] at h;unfold Pg.hm at h;rw[hx] at h
 cases q:(p.md.getD m []).lookup c with
 | none=>rw[q] at h;cases h
 | some d=>rw[q] at h;exact⟨by simpa using h,d,rfl⟩
theorem BI {n:Nat} (F:Facts K p mg w)
  (hf:∀ (f:Nat) d a fd st,p.fd[f]? = some (some d)->j2 K p.T false d a fd st->bH P w K mg base kG n a fd d.ps (Nh K ⟨iU K p.T,w⟩ ((p.Γ n).fn f)))
  (ho:∀ (f:Nat) d a fd st,p.fd[f]? = some (some d)->j2 K p.T false d a fd st->bH P w K mg base kG n a fd d.ps (Ni K ⟨iU K p.T,w⟩ ((p.Γ n).fo f)))
  (hm:∀ (m c:Nat) d a fd st,(p.md.getD m []).lookup c=some d->j2 K p.T false d a fd st->bH P w K mg base kG n a fd d.ps (Nj K ⟨iU K p.T,w⟩ c ((p.Γ n).me m)))
  (hi:∀ c d ds M k,(p.Γ n).bu c d ds M k->∃ a fd ps j,n=j+1/\bH P w K mg base kG j a fd ps (DV K ⟨iU K p.T,w⟩ ((p.Γ n).bu c))/\Binds K fd ps []/\Mk K (iU K p.T c) a)
  (hc:∀ c d a fd st,p.id.lookup c=some d->j2 K p.T true d a fd st->bH P w K mg base kG n a fd d.ps (DV K ⟨iU K p.T,w⟩ ((p.Γ n).bu c))):FX P w K mg base p n:=by
 refine⟨fun f x hx hd=>?_,fun f x hx hd=>?_,fun m x hx c fs h=>?_,F.kl,hi,fun c h=>?_,fun k x h1 h2=>?_,fun m f h=>?_,rfl⟩
 ·obtain⟨d,a,fd,st,e1,e2,A⟩:=F.fn f x hx hd;exact⟨a,fd,d.ps,e2,A.kp,A.bi,hf f d a fd st e1 A⟩
 ·obtain⟨d,a,fd,st,e1,e2,A⟩:=F.fn f x hx hd;exact⟨a,fd,d.ps,e2,A.kp,A.bi,ho f d a fd st e1 A⟩
 ·obtain⟨h1,d,h2⟩:=Oj h hx;obtain⟨h3,a,fd,st,h4,A⟩:=F.me m x hx c d h2;exact⟨h1,h3,a,fd,d.ps,⟨h4,A.Tk,A.kp⟩,A.bi,hm m c d a fd st h2 A⟩
 ·obtain⟨a,fd,st,d,h1,h2,A⟩:=F.cm c h;exact⟨a,fd,d.ps,h2,hc c d a fd st h1 A,A.bi⟩
 ·rw[Pg.JZ];exact F.cs k x h1 h2
 ·rw[Pg.Oe] at h;exact F.at_ m f h
theorem BJ {c:Nat}{pf:Dt->List Dt->Mem->(Dt->Mem->Prop)->Prop}{cl:Cl} (h:∀ o ds M k,¬ pf o ds M k) (vs:List V) (H:Hp) (Q:VK) (E:XK):¬ DV K cl pf vs H Q E:=fun z=>by
 obtain⟨G,M,a,n,fs,xs,dx,us,KG,ds,k,_,_,_,_,_,_,_,_,_,h4,_⟩:=z;exact h _ _ _ _ h4
theorem mJ (F:Facts K p mg w):FX P w K mg base p 0:=by
 refine BI F (fun f d a fd st _ _=>qF fun vs H Q E h=>?_) (fun f d a fd st _ _=>qF fun vs H Q E h=>?_) (fun m c d a fd st _ _=>qF fun vs H Q E h=>?_) (fun c d ds M k h=>h.elim) fun c d a fd st _ _=>qF (BJ (c:=0) fun _ _ _ _ z=>z)
 ·obtain⟨G,M,ds,k,_,_,_,h4,_⟩:=h;exact h4
 ·obtain⟨G,M,ds,k,_,_,_,h4,_⟩:=h;exact h4
 ·obtain⟨G,M,d,ds,k,fs,_,_,_,_,h4,_⟩:=h;exact h4
theorem Fk {n f:Nat}{d:Df}{fd:XF}{st:Stmt} (F:Facts K p mg w) (f0:FX P w K mg base p n) (e:p.fd[f]? = some (some d)) (A:j2 K p.T false d a fd st):bH P w K mg base kG (n+1) a fd d.ps (Nh K ⟨iU K p.T,w⟩ ((p.Γ (n+1)).fn f)) :=
 Ff (T:=p.T) f0 F.bt A.fn A.ch fun ds M k h=>by
  obtain⟨d',h1,h2⟩:=RD h;rw[e] at h1
  cases h1
  exact h2
theorem Fl {n f:Nat}{d:Df}{fd:XF}{st:Stmt} (F:Facts K p mg w) (f0:FX P w K mg base p n) (e:p.fd[f]? = some (some d)) (A:j2 K p.T false d a fd st):bH P w K mg base kG (n+1) a fd d.ps (Ni K ⟨iU K p.T,w⟩ ((p.Γ (n+1)).fo f)) :=
 Oa (T:=p.T) f0 F.bt A.fn A.ch fun ds M k h=>by
  obtain⟨d',h1,h2⟩:=h;rw[e] at h1
  cases h1
  exact h2
theorem Fm {n c:Nat}{d:Df}{fd:XF}{st:Stmt} (F:Facts K p mg w) (f0:FX P w K mg base p n) (e:p.id.lookup c=some d) (A:j2 K p.T true d a fd st):bH P w K mg base kG (n+1) a fd d.ps (DV K ⟨iU K p.T,w⟩ ((p.Γ (n+2)).bu c)) :=
 Oc (T:=p.T) f0 F.bt A.fn A.ch fun _ _ _ _ _ _ h=>Oi e h
theorem BK (F:Facts K p mg w) (n:Nat):FX P w K mg base p n:=by
 have two:∀ n,FX P w K mg base p n/\FX P w K mg base p (n+1):=by
  have me:∀ n,FX P w K mg base p n->∀ (m c:Nat) d a fd st,(p.md.getD m []).lookup c=some d->j2 K p.T false d a fd st->bH P w K mg base kG (n+1) a fd d.ps (Nj K ⟨iU K p.T,w⟩ c ((p.Γ (n+1)).me m)):=fun n f0 m c d a fd st e A=>Ob (T:=p.T) f0 F.bt A.fn A.ch fun _ _ _ _ _ hx h=>RE hx e h
  intro n
  induction n with
  | zero=>exact⟨mJ F,BI F (fun f d a fd st e A=>Fk F (mJ F) e A) (fun f d a fd st e A=>Fl F (mJ F) e A) (me 0 (mJ F)) (fun _ _ _ _ _ h=>(Fj h).elim) fun _ _ _ _ _ _ _=>qF (BJ (c:=0) fun _ _ _ _ z=>Fj z)⟩
  | succ n ih =>
   refine⟨ih.2,BI F (fun f d a fd st e A=>Fk F ih.2 e A) (fun f d a fd st e A=>Fl F ih.2 e A) (me _ ih.2) (fun c o ds M k h=>?_) fun c d a fd st e A=>(Fm F ih.1 e A).mono (by omega)⟩;obtain⟨d',e3⟩:=Oh h;obtain⟨a,fd,st,mk,A⟩:=F.bu c d' e3;exact⟨a,fd,d'.ps,n+1,rfl,Fm F ih.1 e3 A,A.bi,mk⟩
 exact (two n).1
def Fo (K:e_):Sp:=fun vs H Q _=>∃ (a:Addr) (ns:List Int),vs=[.ref a]/\cS K H a (ns.map V.int)/\ns.length<=63/\∀ H',Q (.bl true) H'
theorem J5 {h:Heap}{lw n:Nat}{df:Df}{fa:Addr} (hc:BB K p=true) (X:K.In h) (G:h.Ns mainGlobals mg) (Tl:mg "law" = some (.ref fa)) (h1:p.fd[lw]? = some (some df)) (h2:df.x = "law") (h3:df.ps=[("_law_script" : Str)])
  (hl:∀ (ns:List Int) M k,ns.length<=63->(∀ M',k (.bl true) M')->(p.Γ n).fn lw [.nA (ns.map .int)] M k):∃ fd:XF,(∀ (s:h_) (v:Value),acJ s fd ⟨[v],[]⟩ [("_law_script",v)])/\∀ base:Heap,K.In base->base.Ns mainGlobals mg->bH P w K mg base kG n fa fd ["_law_script"] (Fo K):=by
 have F:Facts K p mg w:=BG hc X G
 have c1:p.T.fns=p.fd.map fun o=>match o with | some d=>d.x | none=>J1:=by
  unfold BB at hc;simp only[G_] at hc;exact of_decide_eq_true hc.1.1.1.1.1.1.1.1
 have hx:p.T.fns[lw]? = some "law" := by rw[c1,f_,h1];exact congrArg some h2
 obtain⟨d,a,fd,st,e1,e2,A⟩:=F.fn lw "law" hx (by decide);rw[h1] at e1
 cases e1
 rw[Tl] at e2
 cases e2
 refine⟨fd,fun s v=>.of_eq (by have:=A.ba [v] (by rw[h3];rfl);rw[h3] at this;exact this),fun base _ _=>?_⟩;obtain⟨a',Pk,Q9,k1,k2,k3,k4⟩:=(BK (P:=P) (base:=base) F n).fn lw "law" hx (by decide);rw[Tl] at k1
 cases k1
 obtain⟨oc,od,kV,doc,pm,an,i8,ct,yC,rfl,lk,jE⟩:=A.fn.ex
 cases n with
 | zero=>exact qF fun vs H Q E z=>by obtain⟨b,ns,_,_,hn,_⟩:=z;exact hl ns (fun _=>none) (fun _ _=>True) hn fun _=>trivial
 | succ n =>
  have k:=Ff (T:=p.T) (pf:=(p.Γ (n+1)).fn lw) (BK (P:=P) (base:=base) F n) F.bt A.fn A.ch fun ds M k h=>by
   obtain⟨d',q1,q2,q3⟩:=h;rw[h1] at q1
   cases q1
   exact⟨q2,q3⟩
  rw[h3] at k;refine k.imp fun vs H Q E z=>?_
  obtain⟨b,ns,rfl,hs,hn,hQ⟩:=z;refine⟨H,fun _=>none,[.nA (ns.map .int)],fun d _=>d=.bl true,ah.refl H,(fun _ _ z=>nomatch z),IsL.cons (by unfold Is;exact⟨b,_,rfl,hs,IsL.ints ns⟩) IsL.nil,hl ns _ _ hn fun _=>rfl,fun d M' v G' H' e f i=>?_⟩;subst e;unfold Is at i;subst i;exact hQ H'
theorem Ep {l:adc}{q:K_}{loose:List Str}{XP:(Str->l_ Value)->Heap->Prop}{YP:World->Heap->Prop}{d:DefRec}{K:Params->e_}{lw n:Nat}{df:Df} (hn:l.most=some 63) (LC:d.params.defaults=[]) (VQ:d.name = "law") (hr:bT n abw)
  (hY:∀ (w:World) (h:Heap),YP w h->(K w.params).In h) (hc:∀ w:World,BB (K w.params) p=true) (h1:p.fd[lw]? = some (some df)) (h2:df.x = "law") (h3:df.ps=[("_law_script" : Str)])
  (hl:∀ (ns:List Int) M k,ns.length<=63->(∀ M',k (.bl true) M')->(p.Γ n).fn lw [.nA (ns.map .int)] M k):adI q loose XP YP l.row.toRowW d [] (fun f vs=>adz f vs) :=
 L2.Di (n:=63) (k:=n) (x := "_law_script") (CX:=fun _=>kG) (sp:=fun w=>Fo (K w.params)) hn (by decide) LC hr hY (fun w mg fa h KX G GQ=>J5 (hc w) KX G (by rw[←VQ];exact GQ) h1 h2 h3 hl) (fun _ _ a ns hl _ hS=>⟨a,ns,rfl,hS,hl,fun _=>rfl⟩) fun _ _ _ _ _ z=>z
end
end PV
namespace K18
open PySem L2 SH PV
noncomputable def jg:S:=(.seq (.ret (.and (.xx (.v 0) 0) (.one (.not (.xx (.v 0) 1))))) .skip)
noncomputable def kX:S:=(.seq (.ite (.not (.xx (.v 0) 2)) (.seq (.ret (.b false)) .skip) .skip) (.seq (.ite (.not (.AZ .le .le (.i 1) (.len (.v 0)) (.g 1))) (.seq (.ret (.b false)) .skip) .skip) (.seq (.ret (.all (.fr (.comp (.cR (.v 0)) 1 [] (.b true) (.ins (.v 0) (.g 0)))))) .skip)))
noncomputable def fY:S:=(.seq (.ite (.not (.xx (.v 0) 3)) (.seq .never .skip) .skip) (.seq (.ite (.cmp .gt (.len (.v 0)) (.v 1)) (.seq .never .skip) .skip) .skip))
noncomputable def eF:S:=(.seq (.ex (.call 2 (.cons (.v 0) (.cons (.v 1) .nil)))) (.seq (.bx (.cR (.v 0)) [2] (.seq (.ite (.not (.call 1 (.cons (.v 2) .nil))) (.seq .never .skip) .skip) .skip)) .skip))
noncomputable def fZ:S:=(.seq (.ite (.or (.not (.xx (.v 0) 4)) (.one (.eq true (.len (.v 0)) (.i 2)))) (.seq .never .skip) .skip) (.seq (.ite (.not (.call 1 (.cons (.ix (.v 0) (.i 0)) .nil))) (.seq .never .skip) .skip) (.seq (.ite (.or (.not (.call 0 (.cons (.ix (.v 0) (.i 1)) .nil))) (.one (.not (.AZ .le .le (.i 0) (.ix (.v 0) (.i 1)) (.v 1))))) (.seq .never .skip) .skip) .skip)))
noncomputable def eG:S:=(.seq (.ex (.call 2 (.cons (.v 0) (.cons (.g 3) .nil)))) (.seq (.set 1 (.i 0)) (.seq (.bx (.cR (.v 0)) [2] (.seq (.ex (.call 4 (.cons (.v 2) (.cons (.v 1) .nil)))) (.seq (.set 1 (.min2 (.bin .add (.ix (.v 2) (.i 1)) (.i 1)) (.g 4))) .skip))) .skip)))
noncomputable def eH:S:=(.seq (.ex (.call 2 (.cons (.v 0) (.cons (.g 5) .nil)))) (.seq (.bx (.cR (.v 0)) [1] (.seq (.ex (.call 3 (.cons (.v 1) (.cons (.g 6) .nil)))) (.seq (.ite (.eq true (.len (.v 1)) (.len (.ix (.v 0) (.i 0)))) (.seq .never .skip) .skip) .skip))) .skip))
noncomputable def dL:S:=(.seq (.ite (.not (.xx (.v 0) 3)) (.seq .never .skip) .skip) (.seq (.set 2 (.i 0)) (.seq (.bx (.cR (.v 0)) [3] (.seq (.ite (.or (.not (.call 0 (.cons (.v 3) .nil))) (.one (.not (.AZ .le .lt (.v 2) (.v 3) (.v 1))))) (.seq .never .skip) .skip) (.seq (.set 2 (.bin .add (.v 3) (.i 1))) .skip))) .skip)))
noncomputable def jh:S:=(.seq (.ret (.fr (.comp (.cR (.v 1)) 1 [0] (.b true) (.ix (.v 1) (.v 0))))) .skip)
noncomputable def ia:S:=(.seq (.ret (.fr (.comp (.DK (.v 0)) 2 [1] (.eq false (.v 1) (.v 2)) (.v 0)))) .skip)
noncomputable def dM:S:=(.seq (.set 3 (.b false)) (.seq (.bx (.cR (.v 0)) [4] (.seq (.ite (.and (.v 3) (.one (.eq false (.v 4) (.v 2)))) (.seq (.ret (.b true)) .skip) .skip) (.seq (.ite (.eq false (.v 4) (.v 1)) (.seq (.set 3 (.b true)) .skip) .skip) .skip))) (.seq (.ret (.b false)) .skip)))
noncomputable def f6:S:=(.seq (.eE 0 "spot_marks" (.E4 (.v 1))) .skip)
noncomputable def eI:S:=(.seq (.ret (.fr (.A0 (.fld (.v 0) "spot_marks")))) .skip)
noncomputable def cZ:S:=(.seq (.ret (.cnt (.fld (.v 0) "spot_marks") (.v 1))) .skip)
noncomputable def cj:S:=(.seq (.ret (.call 10 (.cons (.fld (.v 0) "spot_marks") (.cons (.v 1) (.cons (.v 2) .nil))))) .skip)
noncomputable def ji:S:=(.seq (.ex (.call 3 (.cons (.v 1) (.cons (.g 2) .nil)))) (.seq (.bu 16 (.cons (.v 1) .nil)) .skip))
noncomputable def jj:S:=(.seq (.ret (.len (.fld (.v 0) "spot_marks"))) .skip)
noncomputable def jk:S:=(.seq (.ex (.call 7 (.cons (.v 1) (.cons (.bD 9 (.v 0) .nil) .nil)))) (.seq (.ret (.mk 17 (.cons (.call 8 (.cons (.fld (.v 0) "spot_marks") (.cons (.v 1) .nil))) .nil))) .skip))
noncomputable def jl:S:=(.seq (.ret (.tup (.cons (.s "row") (.cons (.fld (.v 0) "spot_marks") .nil)))) .skip)
noncomputable def dO:S:=(.seq (.ret (.call 9 (.cons (.fld (.v 0) "spot_marks") (.cons (.v 1) .nil)))) .skip)
noncomputable def dQ:S:=(.seq (.ret (.b false)) .skip)
noncomputable def eJ:S:=(.seq (.ret (.fr (.g7 (.cons (.v 1) .nil)))) .skip)
noncomputable def eK:S:=(.seq (.ex (.call 5 (.cons (.v 1) .nil))) (.seq (.bu 16 (.cons (.fr (.comp (.cR (.v 1)) 1 [] (.b true) (.ix (.v 0) (.i 0)))) .nil)) (.seq (.eE 0 "nodes" (.zK (.v 1))) .skip)))
noncomputable def eL:S:=(.seq (.ret (.len (.fld (.v 0) "nodes"))) .skip)
noncomputable def eM:S:=(.seq (.ex (.call 7 (.cons (.v 1) (.cons (.bD 9 (.v 0) .nil) .nil)))) (.seq (.set 2 (.yL (.fr (.comp (.cR (.v 1)) 1 [] (.b true) (.tup (.cons (.v 0) (.cons (.b true) .nil))))))) (.seq (.cU 3 (.g7 .nil)) (.seq (.cU 4 (.g7 (.cons (.i 0) .nil))) (.seq (.bx (.DK (.fld (.v 0) "nodes")) [5,6] (.seq (.cU 4 (.zJ (.o 4) .nil (.cons (.bin .add (.ix (.v 6) (.i 1)) (.i 1)) .nil))) (.seq (.set 7 (.ix (.o 4) (.neg (.i 1)))) (.seq (.ite (.ind (.v 5) (.v 2)) (.seq (.app 3 (.tup (.cons (.ix (.v 6) (.i 0)) (.cons (.v 7) .nil)))) (.seq (.app 4 (.bin .add (.v 7) (.i 1))) .skip)) (.seq (.app 4 (.v 7)) .skip)) .skip)))) (.seq (.du 3) (.seq (.ret (.mk 18 (.cons (.v 3) .nil))) .skip)))))))
noncomputable def eO:S:=(.seq (.ret (.tup (.cons (.s "forest") (.cons (.fld (.v 0) "nodes") .nil)))) .skip)
noncomputable def cn:S:=(.seq (.ret (.call 9 (.cons (.fld (.v 0) "spot_marks") (.cons (.v 1) .nil)))) .skip)
noncomputable def cr:S:=(.seq (.bx (.cR (.bD 12 (.v 0) (.cons (.v 1) .nil))) [3] (.seq (.ite (.s9 false (.v 2) (.call 8 (.cons (.fld (.v 0) "spot_marks") (.cons (.fr (.zJ (.bD 15 (.v 0) (.cons (.v 3) .nil)) (.cons (.i 1) .nil) .nil)) .nil)))) (.seq (.ret (.b true)) .skip) .skip) .skip)) (.seq (.ret (.b false)) .skip))
noncomputable def cH:S:=(.seq (.set 2 (.bin .add (.v 1) (.i 1))) (.seq (.E5 (.and (.cmp .lt (.v 2) (.bD 9 (.v 0) .nil)) (.one (.cmp .gt (.ix (.ix (.fld (.v 0) "nodes") (.v 2)) (.i 1)) (.ix (.ix (.fld (.v 0) "nodes") (.v 1)) (.i 1))))) (.seq (.aug 2 .add (.i 1)) .skip)) (.seq (.ret (.fr (.Hv (.v 1) (.v 2)))) .skip)))
noncomputable def f7:S:=(.seq (.ex (.call 6 (.cons (.v 1) .nil))) (.seq (.cU 2 (.g7 .nil)) (.seq (.bx (.cR (.v 1)) [3] (.seq (.ext 2 (.v 3)) .skip)) (.seq (.du 2) (.seq (.bu 16 (.cons (.v 2) .nil)) (.seq (.eE 0 "lines" (.zK (.fr (.comp (.cR (.v 1)) 1 [] (.b true) (.zK (.v 0)))))) (.seq (.eE 0 "columns" (.Hs (.tr (.v 1)) (.len (.ix (.v 1) (.i 0))) (.i 0))) .skip)))))))
noncomputable def f8:S:=(.seq (.ret (.bin .add (.len (.fld (.v 0) "lines")) (.fld (.v 0) "columns"))) .skip)
noncomputable def f9:S:=(.seq (.ex (.call 7 (.cons (.v 1) (.cons (.bD 9 (.v 0) .nil) .nil)))) (.seq (.set 2 (.len (.fld (.v 0) "lines"))) (.seq (.set 3 (.fr (.comp (.cR (.v 1)) 1 [0,2] (.cmp .lt (.v 0) (.v 2)) (.ix (.fld (.v 1) "lines") (.v 0))))) (.seq (.set 4 (.fr (.comp (.cR (.v 1)) 1 [2] (.cmp .ge (.v 0) (.v 1)) (.bin .sub (.v 0) (.v 1))))) (.seq (.y6 5 19 (.cons (.fr (.comp (.cR (.v 3)) 1 [4] (.b true) (.call 8 (.cons (.v 0) (.cons (.v 1) .nil))))) .nil)) (.seq (.eE 5 "columns" (.len (.v 4))) (.seq (.du 5) (.seq (.ret (.v 5)) .skip))))))))
noncomputable def gc:S:=(.seq (.ret (.tup (.cons (.s "table") (.cons (.fld (.v 0) "columns") (.cons (.fld (.v 0) "lines") .nil))))) .skip)
noncomputable def cI:S:=(.seq (.ret (.fr (.comp (.DK (.fld (.v 0) "lines")) 2 [1] (.s9 false (.v 2) (.v 1)) (.v 0)))) .skip)
noncomputable def cJ:S:=(.seq (.bx (.kq (.fld (.v 0) "columns")) [3] (.seq (.ite (.call 10 (.cons (.fr (.comp (.cR (.fld (.v 0) "lines")) 1 [3] (.b true) (.ix (.v 0) (.v 1)))) (.cons (.v 1) (.cons (.v 2) .nil)))) (.seq (.ret (.b true)) .skip) .skip) .skip)) (.seq (.ret (.b false)) .skip))
noncomputable def db:S:=(.seq (.ret (.fr (.g7 (.cons (.v 1) .nil)))) .skip)
noncomputable def gi:S:=(.seq (.ite (.s9 true (.v 0) (.g 7)) (.seq .never .skip) .skip) .skip)
noncomputable def eP:S:=(.seq (.ite (.or (.not (.xx (.v 0) 3)) (.one (.not (.tr (.v 0))))) (.seq .never .skip) .skip) (.seq (.bx (.cR (.v 0)) [1] (.seq (.ex (.call 42 (.cons (.v 1) .nil))) .skip)) (.seq (.ite (.cmp .lt (.HB (.v 0)) (.len (.v 0))) (.seq .never .skip) .skip) .skip)))
noncomputable def gj:S:=(.seq (.ite (.eq false (.v 0) (.i 0)) (.seq (.ret (.fr (.g7 .nil))) .skip) .skip) (.seq (.cU 1 (.g7 (.cons (.v 0) .nil))) (.seq (.E5 (.cmp .gt (.ix (.o 1) (.neg (.i 1))) (.i 1)) (.seq (.app 1 (.bin .fdiv (.bin .add (.ix (.o 1) (.neg (.i 1))) (.i 1)) (.i 2))) .skip)) (.seq (.du 1) (.seq (.ret (.v 1)) .skip)))))
noncomputable def ib:S:=(.seq (.ret (.fr (.comp (.Hz (.cons (.i 0) (.cons (.len (.v 0)) (.cons (.v 1) .nil)))) 1 [0,1] (.b true) (.fr (.zJ (.v 1) (.cons (.v 0) .nil) (.cons (.bin .add (.v 0) (.v 2)) .nil)))))) .skip)
noncomputable def ic:S:=(.seq (.cU 1 (.g7 .nil)) (.seq (.bx (.cR (.call 44 (.cons (.len (.v 0)) .nil))) [2] (.seq (.ext 1 (.call 45 (.cons (.v 0) (.cons (.v 2) .nil)))) .skip)) (.seq (.du 1) (.seq (.ret (.v 1)) .skip))))
noncomputable def kY:S:=(.seq (.ret (.fr (.comp (.cR (.v 0)) 1 [1] (.s9 false (.v 0) (.v 1)) (.v 0)))) .skip)
noncomputable def jm:S:=(.seq (.ret (.fr (.comp (.cR (.v 1)) 1 [1,0] (.b true) (.call 47 (.cons (.bD 15 (.v 2) (.cons (.v 0) .nil)) (.cons (.v 1) .nil)))))) .skip)
noncomputable def kZ:S:=(.seq (.ret (.fr (.comp (.cR (.v 0)) 1 [] (.b true) (.fr (.g7 (.cons (.v 0) .nil)))))) .skip)
noncomputable def dc:S:=(.seq (.ret (.fr (.Hw (.fr (.comp (.cR (.v 0)) 1 [] (.b true) (.tup (.cons (.v 0) (.cons (.b true) .nil)))))))) .skip)
noncomputable def de:S:=(.seq (.ret (.fr (.comp (.cR (.v 0)) 1 [1] (.b true) (.ix (.v 1) (.v 0))))) .skip)
noncomputable def jn:S:=(.seq (.set 2 (.bD 10 (.v 0) (.cons (.v 1) .nil))) (.seq (.ret (.fr (.comp (.cR (.call 50 (.cons (.bD 6 (.v 2) .nil) .nil))) 1 [1,2] (.b true) (.call 51 (.cons (.bD 12 (.v 2) (.cons (.v 0) .nil)) (.cons (.v 1) .nil)))))) .skip))
noncomputable def nP:S:=(.seq (.ex (.call 42 (.cons (.v 0) .nil))) (.seq (.ex (.call 7 (.cons (.v 2) (.cons (.bD 9 (.v 1) .nil) .nil)))) (.seq (.ite (.eq false (.v 0) (.s "halves")) (.seq (.ret (.call 46 (.cons (.v 2) .nil))) .skip) .skip) (.seq (.ite (.eq false (.v 0) (.s "trees")) (.seq (.ret (.call 48 (.cons (.v 1) (.cons (.v 2) .nil)))) .skip) .skip) (.seq (.ite (.eq false (.v 0) (.s "ones")) (.seq (.ret (.call 49 (.cons (.v 2) .nil))) .skip) .skip) (.seq (.ret (.call 52 (.cons (.v 1) (.cons (.v 2) .nil)))) .skip))))))
noncomputable def k5:S:=(.seq (.ret (.fr (.comp (.cR (.v 0)) 1 [1] (.s9 true (.v 0) (.v 1)) (.v 0)))) .skip)
noncomputable def dh:S:=(.seq (.bx (.cR (.call 53 (.cons (.v 1) (.cons (.bD 3 (.v 0) .nil) (.cons (.v 2) .nil))))) [3] (.seq (.ite (.bD 0 (.v 0) (.cons (.call 54 (.cons (.v 2) (.cons (.v 3) .nil))) .nil)) (.seq (.ret (.v 3)) .skip) .skip) .skip)) (.seq (.ret .n) .skip))
noncomputable def nQ:S:=(.seq (.ex (.call 43 (.cons (.v 1) .nil))) (.seq (.set 2 (.fr (.E3 (.bD 9 (.bD 3 (.v 0) .nil) .nil)))) (.seq (.ite (.not (.bD 0 (.v 0) (.cons (.v 2) .nil))) (.seq .never .skip) .skip) (.seq (.cU 3 (.g7 .nil)) (.seq (.set 4 (.i 0)) (.seq (.set 5 (.i 0)) (.seq (.E5 (.cmp .lt (.v 5) (.len (.v 1))) (.seq (.set 6 (.ix (.v 1) (.v 4))) (.seq (.A1 (.seq (.set 7 (.call 55 (.cons (.v 0) (.cons (.v 6) (.cons (.v 2) .nil))))) .skip)) (.seq (.ite (.cmp .Hr (.v 7) .n) (.seq (.aug 5 .add (.i 1)) (.seq (.set 4 (.bin .mod (.bin .add (.v 4) (.i 1)) (.len (.v 1)))) .skip)) (.seq (.set 5 (.i 0)) (.seq (.set 2 (.call 54 (.cons (.v 2) (.cons (.v 7) .nil)))) (.seq (.app 3 (.tup (.cons (.v 6) (.cons (.v 7) .nil)))) .skip)))) .skip)))) (.seq (.du 3) (.seq (.ret (.tup (.cons (.s "small") (.cons (.v 2) (.cons (.v 3) .nil))))) .skip)))))))))
noncomputable def gm:S:=(.seq (.eE 0 "whole" (.v 1)) (.seq (.eE 0 "fault" (.v 2)) (.seq (.eE 0 "most" (.v 3)) (.seq (.eE 0 "answers" .Hu) (.seq (.eE 0 "questions" (.Ht (.g7 .nil))) .skip)))))
noncomputable def eQ:S:=(.seq (.set 2 (.bD 10 (.fld (.v 0) "whole") (.cons (.v 1) .nil))) (.seq (.set 3 (.bD 11 (.v 2) .nil)) (.seq (.ite (.DM (.v 3) (.fld (.v 0) "answers")) (.seq (.ex (.bD 1 (.v 0) (.cons (.v 1) (.cons (.v 2) .nil)))) .skip) .skip) (.seq (.ret (.HC (.fld (.v 0) "answers") (.v 3))) .skip))))
noncomputable def ie:S:=(.seq (.ite (.cmp .ge (.bD 2 (.v 0) .nil) (.fld (.v 0) "most")) (.seq .never .skip) .skip) (.seq (.set 3 (.bD 5 (.fld (.v 0) "fault") (.cons (.v 2) .nil))) (.seq (.Mf (.fld (.v 0) "answers") (.bD 11 (.v 2) .nil) (.v 3)) (.seq (.KC (.fld (.v 0) "questions") (.tup (.cons (.zK (.v 1)) (.cons (.v 3) .nil)))) .skip))))
noncomputable def eR:S:=(.seq (.ret (.len (.d (.fld (.v 0) "questions")))) .skip)
noncomputable def eS:S:=(.seq (.ret (.fld (.v 0) "whole")) .skip)
noncomputable def jo:S:=(.seq (.eE 0 "mark" (.v 1)) .skip)
noncomputable def ig:S:=(.seq (.ret (.cmp .gt (.bD 7 (.v 1) (.cons (.fld (.v 0) "mark") .nil)) (.i 0))) .skip)
noncomputable def ij:S:=(.seq (.eE 0 "number" (.v 1)) (.seq (.eE 0 "mark" (.v 2)) .skip))
noncomputable def gu:S:=(.seq (.ret (.cmp .ge (.bD 7 (.v 1) (.cons (.fld (.v 0) "mark") .nil)) (.fld (.v 0) "number"))) .skip)
noncomputable def im:S:=(.seq (.eE 0 "one" (.v 1)) (.seq (.eE 0 "other" (.v 2)) .skip))
noncomputable def dR:S:=(.seq (.ret (.bD 8 (.v 1) (.cons (.fld (.v 0) "one") (.cons (.fld (.v 0) "other") .nil)))) .skip)
noncomputable def eT:S:=(.seq (.ret (.bD 13 (.v 1) (.cons (.fld (.v 0) "one") (.cons (.fld (.v 0) "other") .nil)))) .skip)
noncomputable def gA:S:=(.seq (.eE 0 "parts" (.zK (.v 1))) .skip)
noncomputable def io:S:=(.seq (.bx (.cR (.fld (.v 0) "parts")) [2] (.seq (.ite (.not (.bD 5 (.v 2) (.cons (.v 1) .nil))) (.seq (.ret (.b false)) .skip) .skip) .skip)) (.seq (.ret (.b true)) .skip))
noncomputable def ip:S:=(.seq (.bx (.cR (.fld (.v 0) "parts")) [2] (.seq (.ite (.bD 5 (.v 2) (.cons (.v 1) .nil)) (.seq (.ret (.b true)) .skip) .skip) .skip)) (.seq (.ret (.b false)) .skip))
noncomputable def dS:S:=(.seq (.ite (.cmp .lt (.v 1) (.len (.v 0))) (.seq (.ret (.ix (.v 0) (.v 1))) .skip) .skip) (.seq (.ret (.bin .add (.bin .mul (.i 7) (.v 1)) (.i 3))) .skip))
noncomputable def di:S:=(.seq (.set 1 (.s "abcdefghijklmnopqrstuvwxyz")) (.seq (.set 2 (.s "")) (.seq (.set 3 (.bin .mod (.v 0) (.bin .pow (.i 10) (.i 12)))) (.seq (.bx (.kq (.bin .mod (.v 3) (.i 8))) [4] (.seq (.set 3 (.bin .fdiv (.v 3) (.i 8))) (.seq (.set 2 (.bin .add (.v 2) (.ix (.v 1) (.bin .mod (.v 3) (.i 26))))) .skip))) (.seq (.set 5 (.bin .mod (.bin .fdiv (.v 0) (.i 8)) (.bin .add (.len (.v 2)) (.i 1)))) (.seq (.set 6 (.bin .mod (.bin .fdiv (.v 0) (.i 64)) (.i 26))) (.seq (.set 7 (.ix (.fr (.g7 (.cons (.i 4) (.cons (.i 4) (.cons (.i 4) (.cons (.i 10) .nil)))))) (.bin .mod (.bin .fdiv (.v 0) (.i 1664)) (.i 4)))) (.seq (.ret (.fr (.comp (.kq (.v 7)) 1 [2,1,5,6] (.b true) (.bin .add (.bin .add (.DL (.v 1) .nil (.cons (.v 3) .nil)) (.ix (.v 2) (.bin .mod (.bin .add (.v 4) (.bin .mul (.i 3) (.v 0))) (.i 26)))) (.DL (.v 1) (.cons (.v 3) .nil) .nil))))) .skip))))))))
noncomputable def dU:S:=(.seq (.ite (.eq false (.bin .mod (.v 0) (.i 16)) (.i 5)) (.seq (.ret (.bin .mod (.bin .fdiv (.v 0) (.i 16)) (.i 13))) .skip) .skip) (.seq (.ret (.bin .mod (.bin .fdiv (.v 0) (.i 16)) (.i 9))) .skip))
noncomputable def eU:S:=(.seq (.cU 4 (.g7 .nil)) (.seq (.bx (.kq (.v 2)) [5] (.seq (.set 6 (.bin .add (.call 12 (.cons (.v 0) (.cons (.bin .add (.v 1) (.bin .mod (.v 5) (.i 12))) .nil))) (.bin .mul (.i 11) (.bin .fdiv (.v 5) (.i 12))))) (.seq (.app 4 (.ix (.v 3) (.ix (.fr (.g7 (.cons (.ix (.fr (.g7 (.cons (.i 0) (.cons (.i 0) (.cons (.i 1) (.cons (.i 1) (.cons (.i 2) (.cons (.i 2) (.cons (.i 3) .nil))))))))) (.bin .mod (.v 6) (.i 7))) (.cons (.bin .mod (.v 6) (.len (.v 3))) .nil)))) (.kJ (.cmp .gt (.len (.v 3)) (.i 4)))))) .skip))) (.seq (.du 4) (.seq (.ret (.v 4)) .skip))))
noncomputable def cK:S:=(.seq (.cU 3 (.g7 .nil)) (.seq (.set 4 (.i 0)) (.seq (.bx (.kq (.len (.v 2))) [5] (.seq (.set 6 (.bin .add (.bin .fdiv (.call 12 (.cons (.v 0) (.cons (.bin .add (.v 1) (.bin .mod (.v 5) (.i 12))) .nil))) (.i 7)) (.bin .mul (.i 3) (.bin .fdiv (.v 5) (.i 12))))) (.seq (.set 4 (.bin .mul (.bin .mod (.bin .mod (.v 6) (.i 7)) (.bin .add (.v 4) (.i 2))) (.kJ (.cmp .gt (.v 5) (.i 0))))) (.seq (.app 3 (.tup (.cons (.ix (.v 2) (.v 5)) (.cons (.v 4) .nil)))) .skip)))) (.seq (.du 3) (.seq (.ret (.tup (.cons (.s "forest") (.cons (.v 3) .nil)))) .skip)))))
noncomputable def jp:S:=(.seq (.set 1 (.i 1)) (.seq (.E5 (.cmp .le (.v 1) (.v 0)) (.seq (.set 1 (.bin .mul (.i 4) (.v 1))) .skip)) (.seq (.set 2 (.bin .mod (.bin .mul (.bin .add (.bin .mod (.v 0) (.bin .pow (.i 10) (.i 15))) (.i 11)) (.i 6364136223846793013)) (.bin .sub (.bin .pow (.i 2) (.i 61)) (.i 1)))) (.seq (.ret (.bin .add (.v 0) (.bin .mul (.v 1) (.bin .mod (.bin .mul (.v 2) (.i 69621)) (.bin .sub (.bin .pow (.i 2) (.i 61)) (.i 1)))))) .skip))))
noncomputable def cu:S:=(.seq (.set 2 (.bin .mod (.bin .fdiv (.v 0) (.i 3)) (.i 10))) (.seq (.set 3 (.bin .mod (.bin .fdiv (.v 0) (.i 30)) (.i 5))) (.seq (.set 4 (.bin .mod (.bin .fdiv (.v 0) (.i 150)) (.i 5))) (.seq (.set 5 (.bin .fdiv (.v 0) (.i 750))) (.seq (.ite (.eq false (.bin .mod (.v 0) (.i 3)) (.i 2)) (.seq (.set 2 (.bin .mul (.v 3) (.v 4))) .skip) .skip) (.seq (.cU 6 (.g7 .nil)) (.seq (.bx (.kq (.v 2)) [7] (.seq (.app 6 (.ix (.v 1) (.bin .mod (.v 5) (.len (.v 1))))) (.seq (.set 5 (.bin .fdiv (.v 5) (.len (.v 1)))) .skip))) (.seq (.ite (.eq false (.bin .mod (.v 0) (.i 3)) (.i 0)) (.seq (.du 6) (.seq (.ret (.tup (.cons (.s "row") (.cons (.v 6) .nil)))) .skip)) .skip) (.seq (.ite (.eq false (.bin .mod (.v 0) (.i 3)) (.i 2)) (.seq (.du 6) (.seq (.ret (.tup (.cons (.s "table") (.cons (.bin .mul (.v 3) (.kJ (.cmp .gt (.v 4) (.i 0)))) (.cons (.fr (.comp (.kq (.v 4)) 1 [6,3] (.b true) (.fr (.zJ (.v 1) (.cons (.bin .mul (.v 2) (.v 0)) .nil) (.cons (.bin .add (.bin .mul (.v 2) (.v 0)) (.v 2)) .nil))))) .nil))))) .skip)) .skip) (.seq (.cU 8 (.g7 .nil)) (.seq (.set 9 (.i 1)) (.seq (.bx (.kq (.v 2)) [7] (.seq (.app 8 (.tup (.cons (.ix (.o 6) (.v 7)) (.cons (.bin .mod (.v 5) (.v 9)) .nil)))) (.seq (.set 5 (.bin .fdiv (.v 5) (.v 9))) (.seq (.set 9 (.bin .add (.ix (.ix (.o 8) (.neg (.i 1))) (.i 1)) (.i 2))) .skip)))) (.seq (.du 8) (.seq (.ret (.tup (.cons (.s "forest") (.cons (.v 8) .nil)))) .skip))))))))))))))
noncomputable def eV:S:=(.seq (.set 3 (.call 12 (.cons (.v 0) (.cons (.v 1) .nil)))) (.seq (.ite (.eq false (.bin .mod (.v 3) (.i 2)) (.i 1)) (.seq (.ret (.call 18 (.cons (.call 17 (.cons (.bin .fdiv (.v 3) (.i 2)) .nil)) (.cons (.v 2) .nil)))) .skip) .skip) (.seq (.set 3 (.bin .fdiv (.v 3) (.i 2))) (.seq (.set 4 (.call 14 (.cons (.bin .fdiv (.v 3) (.i 3)) .nil))) (.seq (.ite (.eq false (.bin .mod (.v 3) (.i 3)) (.i 0)) (.seq (.ret (.tup (.cons (.s "row") (.cons (.call 15 (.cons (.v 0) (.cons (.bin .add (.v 1) (.i 1)) (.cons (.bin .add (.v 4) (.bin .mul (.i 28) (.kJ (.cmp .gt (.v 4) (.i 9))))) (.cons (.v 2) .nil))))) .nil)))) .skip) .skip) (.seq (.ite (.eq false (.bin .mod (.v 3) (.i 3)) (.i 1)) (.seq (.ret (.call 16 (.cons (.v 0) (.cons (.bin .add (.v 1) (.i 1)) (.cons (.call 15 (.cons (.v 0) (.cons (.bin .add (.v 1) (.i 1)) (.cons (.v 4) (.cons (.v 2) .nil))))) .nil))))) .skip) .skip) (.seq (.set 5 (.bin .mod (.bin .fdiv (.v 3) (.i 48)) (.i 5))) (.seq (.set 6 (.bin .mod (.v 4) (.i 6))) (.seq (.ite (.cmp .gt (.v 4) (.i 9)) (.seq (.set 5 (.bin .add (.i 1) (.bin .mod (.bin .fdiv (.v 3) (.i 48)) (.i 8)))) (.seq (.set 6 (.bin .mod (.bin .fdiv (.v 3) (.i 384)) (.i 9))) .skip)) .skip) (.seq (.set 7 (.call 15 (.cons (.v 0) (.cons (.bin .add (.v 1) (.i 1)) (.cons (.bin .mul (.v 5) (.v 6)) (.cons (.v 2) .nil)))))) (.seq (.ret (.tup (.cons (.s "table") (.cons (.bin .mul (.v 5) (.kJ (.cmp .gt (.v 6) (.i 0)))) (.cons (.fr (.comp (.kq (.v 6)) 1 [7,5] (.b true) (.fr (.zJ (.v 1) (.cons (.bin .mul (.v 2) (.v 0)) .nil) (.cons (.bin .add (.bin .mul (.v 2) (.v 0)) (.v 2)) .nil))))) .nil))))) .skip)))))))))))
noncomputable def b4:S:=(.seq (.ite (.eq false (.ix (.v 0) (.i 0)) (.s "row")) (.seq (.ret (.tup (.cons (.s "row") (.cons (.fr (.comp (.cR (.v 1)) 1 [0] (.b true) (.ix (.ix (.v 1) (.i 1)) (.v 0)))) .nil)))) .skip) .skip) (.seq (.ite (.eq false (.ix (.v 0) (.i 0)) (.s "table")) (.seq (.set 2 (.fr (.comp (.cR (.v 1)) 1 [0] (.cmp .ge (.v 0) (.len (.ix (.v 1) (.i 2)))) (.bin .sub (.v 0) (.len (.ix (.v 1) (.i 2))))))) (.seq (.set 3 (.fr (.comp (.cR (.v 1)) 1 [0] (.cmp .lt (.v 0) (.len (.ix (.v 1) (.i 2)))) (.ix (.ix (.v 1) (.i 2)) (.v 0))))) (.seq (.ret (.tup (.cons (.s "table") (.cons (.len (.v 2)) (.cons (.fr (.comp (.cR (.v 3)) 1 [2] (.b true) (.fr (.comp (.cR (.v 1)) 1 [0] (.b true) (.ix (.v 1) (.v 0)))))) .nil))))) .skip))) .skip) (.seq (.cU 4 (.g7 .nil)) (.seq (.bx (.cR (.v 1)) [5] (.seq (.set 6 (.ix (.ix (.ix (.v 0) (.i 1)) (.v 5)) (.i 1))) (.seq (.set 7 (.i 0)) (.seq (.bx (.rev (.v 5)) [8] (.seq (.ite (.cmp .lt (.ix (.ix (.ix (.v 0) (.i 1)) (.v 8)) (.i 1)) (.v 6)) (.seq (.set 6 (.ix (.ix (.ix (.v 0) (.i 1)) (.v 8)) (.i 1))) (.seq (.set 7 (.bin .add (.v 7) (.kJ (.s9 false (.v 8) (.v 1))))) .skip)) .skip) .skip)) (.seq (.app 4 (.tup (.cons (.ix (.ix (.ix (.v 0) (.i 1)) (.v 5)) (.i 0)) (.cons (.v 7) .nil)))) .skip))))) (.seq (.du 4) (.seq (.ret (.tup (.cons (.s "forest") (.cons (.v 4) .nil)))) .skip))))))
noncomputable def iq:S:=(.seq (.ite (.eq false (.ix (.v 0) (.i 0)) (.s "row")) (.seq (.ret (.mk 17 (.cons (.fr (.A0 (.ix (.v 0) (.i 1)))) .nil))) .skip) .skip) (.seq (.ite (.eq false (.ix (.v 0) (.i 0)) (.s "forest")) (.seq (.ret (.mk 18 (.cons (.fr (.A0 (.ix (.v 0) (.i 1)))) .nil))) .skip) .skip) (.seq (.ret (.mk 19 (.cons (.fr (.comp (.cR (.ix (.v 0) (.i 2))) 1 [] (.b true) (.fr (.A0 (.v 0))))) .nil))) .skip)))
noncomputable def gB:S:=(.seq (.cU 1 (.g7 .nil)) (.seq (.ite (.eq false (.ix (.v 0) (.i 0)) (.s "row")) (.seq (.bx (.kq (.len (.ix (.v 0) (.i 1)))) [2] (.seq (.app 1 (.tup (.cons (.ix (.ix (.v 0) (.i 1)) (.v 2)) (.cons (.i 0) (.cons (.v 2) .nil))))) .skip)) .skip) .skip) (.seq (.ite (.eq false (.ix (.v 0) (.i 0)) (.s "forest")) (.seq (.bx (.kq (.len (.ix (.v 0) (.i 1)))) [2] (.seq (.app 1 (.tup (.cons (.ix (.ix (.ix (.v 0) (.i 1)) (.v 2)) (.i 0)) (.cons (.ix (.ix (.ix (.v 0) (.i 1)) (.v 2)) (.i 1)) (.cons (.v 2) .nil))))) .skip)) .skip) .skip) (.seq (.ite (.eq false (.ix (.v 0) (.i 0)) (.s "table")) (.seq (.bx (.kq (.len (.ix (.v 0) (.i 2)))) [3] (.seq (.bx (.kq (.ix (.v 0) (.i 1))) [4] (.seq (.app 1 (.tup (.cons (.ix (.ix (.ix (.v 0) (.i 2)) (.v 3)) (.v 4)) (.cons (.v 3) (.cons (.v 4) .nil))))) .skip)) .skip)) .skip) .skip) (.seq (.du 1) (.seq (.ret (.v 1)) .skip))))))
noncomputable def cw:S:=(.seq (.ite (.eq false (.ix (.v 0) (.i 0)) (.s "table")) (.seq (.ret (.and (.eq false (.ix (.ix (.v 1) (.v 2)) (.i 2)) (.ix (.ix (.v 1) (.v 3)) (.i 2))) (.one (.cmp .lt (.ix (.ix (.v 1) (.v 2)) (.i 1)) (.ix (.ix (.v 1) (.v 3)) (.i 1)))))) .skip) .skip) (.seq (.ite (.or (.eq false (.ix (.v 0) (.i 0)) (.s "row")) (.one (.cmp .le (.v 3) (.v 2)))) (.seq (.ret (.b false)) .skip) .skip) (.seq (.bx (.Hy (.bin .add (.v 2) (.i 1)) (.bin .add (.v 3) (.i 1))) [4] (.seq (.ite (.cmp .le (.ix (.ix (.v 1) (.v 4)) (.i 1)) (.ix (.ix (.v 1) (.v 2)) (.i 1))) (.seq (.ret (.b false)) .skip) .skip) .skip)) (.seq (.ret (.b true)) .skip))))
noncomputable def dj:S:=(.seq (.set 2 (.call 23 (.cons (.v 1) .nil))) (.seq (.set 3 (.fr (.comp (.kq (.len (.v 2))) 1 [0,2] (.eq false (.ix (.ix (.v 2) (.v 0)) (.i 0)) (.ix (.v 1) (.i 1))) (.v 0)))) (.seq (.set 4 (.fr (.comp (.kq (.len (.v 2))) 1 [0,2] (.eq false (.ix (.ix (.v 2) (.v 0)) (.i 0)) (.ix (.v 1) (.i 2))) (.v 0)))) (.seq (.ite (.eq false (.ix (.v 0) (.i 0)) (.s "before")) (.seq (.ret (.and (.cmp .gt (.len (.v 3)) (.i 0)) (.and (.cmp .gt (.len (.v 4)) (.i 0)) (.one (.cmp .lt (.ix (.v 3) (.i 0)) (.ix (.v 4) (.neg (.i 1)))))))) .skip) .skip) (.seq (.bx (.cR (.v 3)) [5] (.seq (.bx (.cR (.v 4)) [6] (.seq (.ite (.and (.eq false (.ix (.v 0) (.i 0)) (.s "under")) (.and (.eq true (.v 5) (.v 6)) (.one (.call 24 (.cons (.v 1) (.cons (.v 2) (.cons (.v 5) (.cons (.v 6) .nil)))))))) (.seq (.ret (.b true)) .skip) .skip) (.seq (.ite (.and (.eq false (.ix (.v 0) (.i 0)) (.s "beside")) (.and (.eq true (.v 5) (.v 6)) (.one .E2))) (.seq (.ret (.b true)) .skip) .skip) .skip))) .skip)) (.seq (.ret (.b false)) .skip))))))
noncomputable def cy:S:=(.seq (.ite (.eq false (.ix (.v 0) (.i 0)) (.s "has")) (.seq (.ret (.s9 false (.ix (.v 0) (.i 1)) (.fr (.comp (.cR (.call 23 (.cons (.v 1) .nil))) 1 [] (.b true) (.ix (.v 0) (.i 0)))))) .skip) .skip) (.seq (.ite (.eq false (.ix (.v 0) (.i 0)) (.s "many")) (.seq (.ret (.cmp .ge (.len (.fr (.comp (.cR (.call 23 (.cons (.v 1) .nil))) 1 [0] (.eq false (.ix (.v 0) (.i 0)) (.ix (.v 1) (.i 2))) (.v 0)))) (.ix (.v 0) (.i 1)))) .skip) .skip) (.seq (.ite (.eq false (.ix (.v 0) (.i 0)) (.s "not")) (.seq (.ret (.not (.call 27 (.cons (.ix (.v 0) (.i 1)) (.cons (.v 1) .nil))))) .skip) .skip) (.seq (.ite (.eq false (.ix (.v 0) (.i 0)) (.s "all")) (.seq (.ret (.eq false (.len (.fr (.comp (.cR (.ix (.v 0) (.i 1))) 1 [1] (.not (.call 27 (.cons (.v 0) (.cons (.v 1) .nil)))) (.v 0)))) (.i 0))) .skip) .skip) (.seq (.ite (.eq false (.ix (.v 0) (.i 0)) (.s "any")) (.seq (.ret (.cmp .gt (.len (.fr (.comp (.cR (.ix (.v 0) (.i 1))) 1 [1] (.call 27 (.cons (.v 0) (.cons (.v 1) .nil))) (.v 0)))) (.i 0))) .skip) .skip) (.seq (.ret (.call 26 (.cons (.v 0) (.cons (.v 1) .nil)))) .skip))))))
noncomputable def cz:S:=(.seq (.ite (.eq false (.ix (.v 0) (.i 0)) (.s "has")) (.seq (.ret (.mk 6 (.cons (.ix (.v 0) (.i 1)) .nil))) .skip) .skip) (.seq (.ite (.eq false (.ix (.v 0) (.i 0)) (.s "many")) (.seq (.ret (.mk 7 (.cons (.ix (.v 0) (.i 1)) (.cons (.ix (.v 0) (.i 2)) .nil)))) .skip) .skip) (.seq (.ite (.eq false (.ix (.v 0) (.i 0)) (.s "before")) (.seq (.ret (.mk 9 (.cons (.ix (.v 0) (.i 1)) (.cons (.ix (.v 0) (.i 2)) .nil)))) .skip) .skip) (.seq (.ite (.eq false (.ix (.v 0) (.i 0)) (.s "under")) (.seq (.ret (.mk 10 (.cons (.ix (.v 0) (.i 1)) (.cons (.ix (.v 0) (.i 2)) .nil)))) .skip) .skip) (.seq (.ite (.eq false (.ix (.v 0) (.i 0)) (.s "beside")) (.seq (.ret .E2) .skip) .skip) (.seq (.ite (.eq false (.ix (.v 0) (.i 0)) (.s "not")) (.seq (.ret .E2) .skip) .skip) (.seq (.set 1 (.fr (.comp (.cR (.ix (.v 0) (.i 1))) 1 [] (.b true) (.call 28 (.cons (.v 0) .nil))))) (.seq (.ite (.eq false (.ix (.v 0) (.i 0)) (.s "all")) (.seq (.ret (.mk 13 (.cons (.v 1) .nil))) .skip) .skip) (.seq (.ret (.mk 14 (.cons (.v 1) .nil))) .skip)))))))))
noncomputable def eW:S:=(.seq (.set 3 (.ix (.v 1) (.bin .mod (.bin .fdiv (.v 0) (.i 16)) (.len (.v 1))))) (.seq (.set 4 (.ix (.v 1) (.bin .mod (.bin .fdiv (.v 0) (.i 64)) (.len (.v 1))))) (.seq (.set 5 (.bin .mod (.v 0) (.i 8))) (.seq (.ite (.and (.eq false (.v 5) (.i 6)) (.one (.not (.v 2)))) (.seq (.ret (.tup (.cons (.s "beside") (.cons (.v 3) (.cons (.v 4) .nil))))) .skip) .skip) (.seq (.ite (.and (.eq false (.v 5) (.i 7)) (.one (.not (.v 2)))) (.seq (.ret (.tup (.cons (.s "not") (.cons (.tup (.cons (.s "many") (.cons (.bin .add (.i 1) (.bin .mod (.bin .fdiv (.v 0) (.i 8)) (.i 3))) (.cons (.v 3) .nil)))) .nil)))) .skip) .skip) (.seq (.ite (.eq false (.bin .mod (.v 5) (.i 4)) (.i 0)) (.seq (.ret (.tup (.cons (.s "has") (.cons (.v 3) .nil)))) .skip) .skip) (.seq (.ite (.eq false (.bin .mod (.v 5) (.i 4)) (.i 1)) (.seq (.ret (.tup (.cons (.s "many") (.cons (.bin .add (.i 1) (.bin .mod (.bin .fdiv (.v 0) (.i 8)) (.i 6))) (.cons (.v 3) .nil))))) .skip) .skip) (.seq (.ite (.eq false (.bin .mod (.v 5) (.i 4)) (.i 2)) (.seq (.ret (.tup (.cons (.s "before") (.cons (.v 3) (.cons (.v 4) .nil))))) .skip) .skip) (.seq (.ret (.tup (.cons (.s "under") (.cons (.v 3) (.cons (.v 4) .nil))))) .skip)))))))))
noncomputable def bY:S:=(.seq (.set 4 (.call 12 (.cons (.v 0) (.cons (.v 1) .nil)))) (.seq (.cU 5 (.g7 .nil)) (.seq (.set 6 (.call 17 (.cons (.call 12 (.cons (.v 0) (.cons (.bin .add (.v 1) (.i 1)) .nil))) .nil))) (.seq (.bx (.kq (.bin .add (.i 1) (.bin .mod (.v 4) (.i 3)))) [7] (.seq (.set 8 (.call 12 (.cons (.v 0) (.cons (.bin .add (.bin .add (.v 1) (.i 1)) (.bin .mul (.i 2) (.v 7))) .nil)))) (.seq (.set 9 (.call 12 (.cons (.v 0) (.cons (.bin .add (.bin .add (.v 1) (.i 2)) (.bin .mul (.i 2) (.v 7))) .nil)))) (.seq (.ite (.eq false (.bin .mod (.bin .fdiv (.v 4) (.i 216)) (.i 2)) (.i 1)) (.seq (.set 8 (.bin .mod (.v 6) (.i 768))) (.seq (.set 9 (.bin .mod (.bin .fdiv (.v 6) (.i 768)) (.i 256))) (.seq (.set 6 (.bin .fdiv (.bin .fdiv (.v 6) (.i 768)) (.i 256))) .skip))) .skip) (.seq (.set 10 (.call 29 (.cons (.v 8) (.cons (.v 2) (.cons (.v 3) .nil))))) (.seq (.ite (.eq false (.bin .mod (.bin .fdiv (.v 8) (.i 256)) (.i 3)) (.i 1)) (.seq (.set 10 (.tup (.cons (.s "any") (.cons (.fr (.g7 (.cons (.v 10) (.cons (.call 29 (.cons (.v 9) (.cons (.v 2) (.cons (.v 3) .nil)))) .nil)))) .nil)))) .skip) .skip) (.seq (.app 5 (.v 10)) .skip))))))) (.seq (.ite (.eq false (.len (.o 5)) (.i 1)) (.seq (.ret (.ix (.o 5) (.i 0))) .skip) .skip) (.seq (.du 5) (.seq (.ret (.tup (.cons (.ix (.fr (.g7 (.cons (.s "all") (.cons (.s "all") (.cons (.s "any") .nil))))) (.bin .mod (.bin .fdiv (.v 4) (.i 3)) (.i 3))) (.cons (.v 5) .nil)))) .skip)))))))
noncomputable def gC:S:=(.seq (.set 3 (.bin .mod (.v 2) (.len (.v 1)))) (.seq (.set 4 (.ix (.ix (.v 1) (.v 3)) (.i 0))) (.seq (.set 5 (.bin .mod (.bin .fdiv (.v 2) (.i 40)) (.i 4))) (.seq (.set 6 (.fr (.comp (.kq (.len (.v 1))) 1 [0,1,3] (.call 24 (.cons (.v 1) (.cons (.v 2) (.cons (.v 3) (.cons (.v 0) .nil))))) (.v 0)))) (.seq (.ite (.eq false (.v 5) (.i 1)) (.seq (.ret (.tup (.cons (.s "many") (.cons (.bin .add (.i 1) (.bin .mod (.bin .fdiv (.v 2) (.i 160)) (.len (.fr (.comp (.cR (.v 1)) 1 [4] (.eq false (.ix (.v 0) (.i 0)) (.v 1)) (.v 0)))))) (.cons (.v 4) .nil))))) .skip) .skip) (.seq (.ite (.and (.eq false (.v 5) (.i 2)) (.one (.cmp .gt (.len (.v 6)) (.i 0)))) (.seq (.ret (.tup (.cons (.s "under") (.cons (.v 4) (.cons (.ix (.ix (.v 1) (.ix (.v 6) (.bin .mod (.bin .fdiv (.v 2) (.i 160)) (.len (.v 6))))) (.i 0)) .nil))))) .skip) .skip) (.seq (.ite (.and (.cmp .gt (.v 5) (.i 0)) (.one (.cmp .lt (.bin .add (.v 3) (.i 1)) (.len (.v 1))))) (.seq (.ret (.tup (.cons (.s "before") (.cons (.v 4) (.cons (.ix (.ix (.v 1) (.bin .add (.bin .add (.v 3) (.i 1)) (.bin .mod (.bin .fdiv (.v 2) (.i 160)) (.bin .sub (.bin .sub (.len (.v 1)) (.v 3)) (.i 1))))) (.i 0)) .nil))))) .skip) .skip) (.seq (.ret (.tup (.cons (.s "has") (.cons (.v 4) .nil)))) .skip))))))))
noncomputable def dk:S:=(.seq (.set 5 (.call 12 (.cons (.v 0) (.cons (.v 1) .nil)))) (.seq (.set 6 (.call 30 (.cons (.v 0) (.cons (.v 1) (.cons (.v 2) (.cons (.v 4) .nil)))))) (.seq (.set 7 (.call 23 (.cons (.v 3) .nil))) (.seq (.set 8 (.bin .mod (.bin .fdiv (.v 5) (.i 9)) (.i 8))) (.seq (.ite (.or (.eq false (.len (.v 7)) (.i 0)) (.one (.eq false (.v 8) (.i 7)))) (.seq (.ret (.v 6)) .skip) .skip) (.seq (.cU 9 (.g7 .nil)) (.seq (.bx (.kq (.bin .add (.i 2) (.bin .mod (.bin .fdiv (.v 5) (.i 72)) (.i 5)))) [10] (.seq (.app 9 (.call 31 (.cons (.v 3) (.cons (.v 7) (.cons (.bin .add (.call 12 (.cons (.v 0) (.cons (.bin .add (.bin .add (.v 1) (.i 1)) (.v 10)) .nil))) (.bin .mul (.i 29) (.v 10))) .nil))))) .skip)) (.seq (.ite (.and (.not (.v 4)) (.and (.eq false (.v 8) (.i 1)) (.one (.not (.call 27 (.cons (.v 6) (.cons (.v 3) .nil))))))) (.seq (.ret (.tup (.cons (.s "all") (.cons (.fr (.cat (.fr (.zJ (.o 9) .nil (.cons (.i 5) .nil))) (.fr (.g7 (.cons (.tup (.cons (.s "not") (.cons (.v 6) .nil))) .nil))))) .nil)))) .skip) .skip) (.seq (.ite (.cmp .lt (.v 8) (.i 4)) (.seq (.du 9) (.seq (.ret (.tup (.cons (.s "all") (.cons (.v 9) .nil)))) .skip)) .skip) (.seq (.ite (.eq false (.v 8) (.i 4)) (.seq (.du 9) (.seq (.ret (.tup (.cons (.s "any") (.cons (.fr (.g7 (.cons (.v 6) (.cons (.tup (.cons (.s "all") (.cons (.v 9) .nil))) .nil)))) .nil)))) .skip)) .skip) (.seq (.ite (.eq false (.v 8) (.i 5)) (.seq (.du 9) (.seq (.ret (.tup (.cons (.s "all") (.cons (.fr (.g7 (.cons (.tup (.cons (.s "all") (.cons (.v 9) .nil))) (.cons (.v 6) .nil)))) .nil)))) .skip)) .skip) (.seq (.set 11 (.fr (.comp (.kq (.i 2)) 1 [3,7,0,1] (.b true) (.call 31 (.cons (.v 1) (.cons (.v 2) (.cons (.bin .add (.call 12 (.cons (.v 3) (.cons (.bin .add (.bin .add (.v 4) (.i 4)) (.v 0)) .nil))) (.bin .mul (.i 31) (.v 0))) .nil))))))) (.seq (.du 9) (.seq (.ret (.tup (.cons (.s "any") (.cons (.fr (.g7 (.cons (.tup (.cons (.s "all") (.cons (.v 9) .nil))) (.cons (.tup (.cons (.s "all") (.cons (.v 11) .nil))) .nil)))) .nil)))) .skip))))))))))))))
noncomputable def dm:S:=(.seq (.set 1 (.fr (.g7 (.cons (.s "halves") (.cons (.s "trees") (.cons (.s "ones") (.cons (.s "marks") .nil))))))) (.seq (.set 2 (.bin .mod (.v 0) (.i 4))) (.seq (.cU 3 (.g7 .nil)) (.seq (.bx (.kq (.bin .add (.i 1) (.bin .mod (.bin .fdiv (.v 0) (.i 4)) (.i 4)))) [4] (.seq (.app 3 (.ix (.v 1) (.bin .mod (.bin .add (.v 2) (.bin .mul (.v 4) (.bin .add (.i 1) (.bin .mul (.i 2) (.bin .mod (.bin .fdiv (.v 0) (.i 16)) (.i 2)))))) (.i 4)))) .skip)) (.seq (.y7 3) .skip)))))
noncomputable def gD:S:=(.seq (.set 2 (.fr (.E3 (.bin .pow (.i 2) (.i 5))))) (.seq (.ite (.cmp .gt (.len (.v 0)) (.i 5)) (.seq (.set 2 (.fr (.comp (.kq (.i 16)) 1 [1] (.b true) (.bin .mod (.bin .mul (.bin .add (.bin .add (.bin .mod (.v 1) (.bin .pow (.i 10) (.i 12))) (.i 3)) (.v 0)) (.bin .add (.i 69621) (.bin .mul (.i 2) (.v 0)))) (.i 2147483647))))) .skip) .skip) (.seq (.cU 3 (.comp (.cR (.v 0)) 1 [0] (.b true) (.fr (.comp (.cR (.v 1)) 1 [0] (.eq true (.v 0) (.v 1)) (.v 0))))) (.seq (.bx (.cR (.v 2)) [4] (.seq (.app 3 (.fr (.comp (.kq (.len (.v 0))) 1 [0,4] (.eq false (.bin .mod (.bin .shr (.v 2) (.bin .mod (.v 0) (.i 23))) (.i 2)) (.i 1)) (.ix (.v 1) (.v 0))))) .skip)) (.seq (.du 3) (.seq (.ret (.fr (.comp (.cR (.v 3)) 1 [0] (.cmp .lt (.len (.v 0)) (.len (.v 1))) (.v 0)))) .skip))))))
noncomputable def BL:S:=(.seq (.set 1 (.call 13 (.cons (.call 12 (.cons (.v 0) (.cons (.i 0) .nil))) .nil))) (.seq (.set 2 (.call 19 (.cons (.v 0) (.cons (.i 15) (.cons (.v 1) .nil))))) (.seq (.set 3 (.call 32 (.cons (.v 0) (.cons (.i 8) (.cons (.v 1) (.cons (.v 2) (.cons (.b true) .nil))))))) (.seq (.ite (.not (.call 27 (.cons (.v 3) (.cons (.v 2) .nil)))) (.seq (.ret (.b true)) .skip) .skip) (.seq (.cU 4 (.HA 57 (.cons (.call 12 (.cons (.v 0) (.cons (.i 1) .nil))) .nil))) (.seq (.ite (.and (.s9 true (.s "halves") (.o 4)) (.one (.s9 true (.s "ones") (.o 4)))) (.seq (.app 4 (.ix (.fr (.g7 (.cons (.s "halves") (.cons (.s "ones") .nil)))) (.bin .mod (.bin .fdiv (.call 12 (.cons (.v 0) (.cons (.i 1) .nil))) (.i 64)) (.i 2)))) .skip) .skip) (.seq (.set 5 (.mk 4 (.cons (.call 22 (.cons (.v 2) .nil)) (.cons (.call 28 (.cons (.v 3) .nil)) (.cons (.i 10000) .nil))))) (.seq (.du 4) (.seq (.set 6 (.call 56 (.cons (.v 5) (.cons (.v 4) .nil)))) (.seq (.ite (.or (.eq true (.ix (.v 6) (.i 0)) (.s "small")) (.one (.not (.call 27 (.cons (.v 3) (.cons (.call 21 (.cons (.v 2) (.cons (.ix (.v 6) (.i 1)) .nil))) .nil)))))) (.seq (.ret (.b false)) .skip) .skip) (.seq (.bx (.cR (.call 76 (.cons (.ix (.v 6) (.i 1)) (.cons (.call 12 (.cons (.v 0) (.cons (.i 2) .nil))) .nil)))) [7] (.seq (.ite (.call 27 (.cons (.v 3) (.cons (.call 21 (.cons (.v 2) (.cons (.v 7) .nil))) .nil))) (.seq (.ret (.b false)) .skip) .skip) .skip)) (.seq (.ret (.b true)) .skip))))))))))))
noncomputable def eX:Df:=df "spots" "Thing.spots" ["self"] 1 eI
noncomputable def dq:Df:=df "many_of" "Thing.many_of" ["self","mark"] 2 cZ
noncomputable def cA:Df:=df "is_before" "Thing.is_before" ["self","one","other"] 3 cj
noncomputable def lG:Df:=df "__init__" "Pair.__init__" ["self","one","other"] 3 im
noncomputable def j3:Df:=df "__init__" "Joint.__init__" ["self","parts"] 2 gA
noncomputable def T:Tb:=⟨(LS ["is_whole","is_mark","check_list","check_marks","check_node","check_nodes","check_lines","check_places","marks_at","places_of","stands_ahead","__debug__","_law_cell_at","_law_marks_by","_law_many_by","_law_picked","_law_forest_by","_law_far","_law_raw_digits","_law_raw_by","__debug__","_law_left","_law_made","_law_spots","_law_lies_under","__debug__","_law_two_hold","_law_holds","_law_fault_made","_law_one_by","_law_drawn_fault","_law_there","_law_fault_by","__debug__","__debug__","__debug__","law","__debug__","__debug__","__debug__","__debug__","__debug__","check_rule","check_rules","sizes_down","stretches","by_halves","kept_of","by_trees","by_ones","as_first_read","numbered_back","by_marks","groups","without","group_to_take","shrunk","_law_rules_by","__debug__","__debug__","__debug__","__debug__","__debug__","__debug__","__debug__","__debug__","__debug__","__debug__","__debug__","__debug__","__debug__","__debug__","__debug__","__debug__","__debug__","__debug__","_law_parts","__debug__","__debug__","__debug__","__debug__","__debug__","__debug__","__debug__","__debug__","__debug__","__debug__","__debug__","__debug__","__debug__","__debug__","__debug__","__debug__","__debug__","__debug__","__debug__","__debug__","__debug__","__debug__","__debug__","__debug__","__debug__","__debug__","__debug__","__debug__","__debug__","__debug__","__debug__","__debug__","__debug__","__debug__","__debug__","__debug__","__debug__","__debug__","__debug__","__debug__","__debug__","__debug__","__debug__","__debug__","__debug__","__debug__","__debug__","__debug__","__debug__","__debug__","__debug__","__debug__","__debug__","__debug__","__debug__","__debug__","__debug__","__debug__","__debug__","__debug__","__debug__","__debug__","__debug__","__debug__","__debug__","__debug__"]),(LS ["fails","ask","asked","thing","grows","holds","spots","many_of","is_before","many","left","form","standing","is_under","is_beside","hanging","log","marks","shown","is_at_end","is_at","read_sign","read_run","read_mark","read_number","read_next","read_inside","read_many","read_pair","read_parts","begin","say","take","take_rules","answer","shrink","show_left","show_bars"]),(LS ["ShrinkError","NoThing","NoPlace","Spent","Asker","Fault","Has","Many","Pair","Before","Under","Beside","Joint","All","Any","Not","Thing","Row","Forest","Table","__debug__","NoRule","Healthy","__debug__","__debug__","__debug__","__debug__"]),(LS ["LETTERS","LONGEST_MARK","MOST_IN_ROW","MOST_NODES","DEEPEST","MOST_LINES","MOST_COLUMNS","RULES","__debug__","__debug__","__debug__","__debug__","__debug__","__debug__","__debug__","__debug__","__debug__"]),[16]⟩
noncomputable def Pr:Pg:=⟨T,[some (dg "is_whole" ["thing"] 1 jg),some (dg "is_mark" ["thing"] 1 kX),some (dg "check_list" ["thing","most"] 2 fY),some (dg "check_marks" ["marks","most","mark"] 2 eF),some (dg "check_node" ["node","deepest"] 2 fZ),some (dg "check_nodes" ["nodes","deepest","node"] 1 eG),some (dg "check_lines" ["lines","line"] 1 eH),some (dg "check_places" ["places","many","lowest","place"] 2 dL),some (dg "marks_at" ["marks","places"] 2 jh),some (dg "places_of" ["marks","mark"] 2 ia),some (dg "stands_ahead" ["marks","one","other","seen","mark"] 3 dM),none,some (dg "_law_cell_at" ["_law_script","_law_k"] 2 dS),some (dg "_law_marks_by" ["_law_cell","_law_letters","_law_word","_law_rest","_law_k","_law_at","_law_first","_law_many"] 1 di),some (dg "_law_many_by" ["_law_cell"] 1 dU),some (dg "_law_picked" ["_law_script","_law_first","_law_many","_law_marks","_law_picked_here","_law_k","_law_cell"] 4 eU),some (dg "_law_forest_by" ["_law_script","_law_first","_law_picked_here","_law_nodes","_law_deep","_law_k","_law_cell"] 3 cK),some (dg "_law_far" ["_law_rest","_law_top","_law_far_here"] 1 jp),some (dg "_law_raw_digits" ["_law_cell","_law_marks","_law_many","_law_columns","_law_deep","_law_rest","_law_picked_here","_law_k","_law_nodes","_law_room"] 2 cu),some (dg "_law_raw_by" ["_law_script","_law_first","_law_marks","_law_head","_law_many","_law_columns","_law_deep","_law_picked_here"] 3 eV),none,some (dg "_law_left" ["_law_raw","_law_places","_law_columns","_law_lines","_law_nodes","_law_place","_law_deep","_law_over","_law_ahead"] 2 b4),some (dg "_law_made" ["_law_raw"] 1 iq),some (dg "_law_spots" ["_law_raw","_law_spots_here","_law_k","_law_i","_law_j"] 1 gB),some (dg "_law_lies_under" ["_law_raw","_law_spots_here","_law_i","_law_j","_law_k"] 4 cw),none,some (dg "_law_two_hold" ["_law_fault","_law_raw","_law_spots_here","_law_ones","_law_others","_law_i","_law_j"] 2 dj),some (dg "_law_holds" ["_law_fault","_law_raw"] 2 cy),some (dg "_law_fault_made" ["_law_fault","_law_parts_here"] 1 cz),some (dg "_law_one_by" ["_law_cell","_law_marks","_law_grows","_law_one","_law_other","_law_way"] 3 eW),some (dg "_law_drawn_fault" ["_law_script","_law_first","_law_marks","_law_grows","_law_head","_law_parts_here","_law_rest","_law_k","_law_cell","_law_other","_law_one"] 4 bY),some (dg "_law_there" ["_law_raw","_law_spots_here","_law_cell","_law_i","_law_one","_law_way","_law_lows"] 3 gC),some (dg "_law_fault_by" ["_law_script","_law_first","_law_marks","_law_raw","_law_grows","_law_head","_law_fault","_law_spots_here","_law_way","_law_facts","_law_k","_law_more"] 5 dk),none,none,none,some (dg "law" ["_law_script","_law_marks","_law_raw","_law_fault","_law_rules","_law_asker","_law_found","_law_part"] 1 BL),none,none,none,none,none,some (dg "check_rule" ["rule"] 1 gi),some (dg "check_rules" ["rules","rule"] 1 eP),some (dg "sizes_down" ["many","sizes"] 1 gj),some (dg "stretches" ["places","size"] 2 ib),some (dg "by_halves" ["places","found","size"] 1 ic),some (dg "kept_of" ["hung","places"] 2 kY),some (dg "by_trees" ["thing","places"] 2 jm),some (dg "by_ones" ["places"] 1 kZ),some (dg "as_first_read" ["marks"] 1 dc),some (dg "numbered_back" ["left_places","places"] 2 de),some (dg "by_marks" ["thing","places","rest"] 2 jn),some (dg "groups" ["rule","thing","places"] 3 nP),some (dg "without" ["places","group"] 2 k5),some (dg "group_to_take" ["asker","rule","kept","group"] 3 dh),some (dg "shrunk" ["asker","rules","kept","steps","turn","in_vain","rule","group"] 2 nQ),some (dg "_law_rules_by" ["_law_cell","_law_rules","_law_first","_law_found","_law_k"] 1 dm),none,none,none,none,none,none,none,none,none,none,none,none,none,none,none,none,none,none,some (dg "_law_parts" ["_law_kept","_law_cell","_law_masks","_law_found","_law_mask"] 2 gD),none,none,none,none,none,none,none,none,none,none,none,none,none,none,none,none,none,none,none,none,none,none,none,none,none,none,none,none,none,none,none,none,none,none,none,none,none,none,none,none,none,none,none,none,none,none,none,none,none,none,none,none,none,none,none,none,none,none,none,none,none,none,none,none,none,none],[[(4,df "fails" "Asker.fails" ["self","places","rest","form"] 2 eQ)],[(4,df "ask" "Asker.ask" ["self","places","rest","answer"] 3 ie)],[(4,df "asked" "Asker.asked" ["self"] 1 eR)],[(4,df "thing" "Asker.thing" ["self"] 1 eS)],[],[(6,df "holds" "Has.holds" ["self","thing"] 2 ig),(7,df "holds" "Many.holds" ["self","thing"] 2 gu),(9,df "holds" "Before.holds" ["self","thing"] 2 dR),(10,df "holds" "Under.holds" ["self","thing"] 2 eT),(13,df "holds" "All.holds" ["self","thing","part"] 2 io),(14,df "holds" "Any.holds" ["self","thing","part"] 2 ip)],[(17,eX),(18,eX),(19,eX)],[(17,dq),(18,dq),(19,dq)],[(17,cA),(18,cA),(19,cA)],[(17,df "many" "Row.many" ["self"] 1 jj),(18,df "many" "Forest.many" ["self"] 1 eL),(19,df "many" "Table.many" ["self"] 1 f8)],[(17,df "left" "Row.left" ["self","places"] 2 jk),(18,df "left" "Forest.left" ["self","places","kept","rest","above","place","node","depth"] 2 eM),(19,df "left" "Table.left" ["self","places","first_column","lines","columns","rest"] 2 f9)],[(17,df "form" "Row.form" ["self"] 1 jl),(18,df "form" "Forest.form" ["self"] 1 eO),(19,df "form" "Table.form" ["self"] 1 gc)],[(17,df "standing" "Row.standing" ["self","mark"] 2 dO),(18,df "standing" "Forest.standing" ["self","mark"] 2 cn),(19,df "standing" "Table.standing" ["self","mark"] 2 cI)],[(17,df "is_under" "Row.is_under" ["self","one","other"] 3 dQ),(18,df "is_under" "Forest.is_under" ["self","one","other","place"] 3 cr),(19,df "is_under" "Table.is_under" ["self","one","other","column"] 3 cJ)],[],[(17,df "hanging" "Row.hanging" ["self","place"] 2 eJ),(18,df "hanging" "Forest.hanging" ["self","place","end"] 2 cH),(19,df "hanging" "Table.hanging" ["self","place"] 2 db)],[],[],[],[],[],[],[],[],[],[],[],[],[],[],[],[],[],[],[],[],[],[]],[(4,df "__init__" "Asker.__init__" ["self","thing","fault","most"] 4 gm),(6,df "__init__" "Has.__init__" ["self","mark"] 2 jo),(7,df "__init__" "Many.__init__" ["self","number","mark"] 3 ij),(9,lG),(10,lG),(13,j3),(14,j3),(17,df "__init__" "Row.__init__" ["self","marks"] 2 ji),(18,df "__init__" "Forest.__init__" ["self","nodes"] 2 eK),(19,df "__init__" "Table.__init__" ["self","lines","spot_marks","line"] 2 f7),(16,df "__init__" "Thing.__init__" ["self","spot_marks"] 2 f6)],[(4,(LS ["whole","fault","most","answers","questions"])),(6,(LS ["mark"])),(7,(LS ["number","mark"])),(9,(LS ["one","other"])),(10,(LS ["one","other"])),(13,(LS ["parts"])),(14,(LS ["parts"])),(17,(LS ["spot_marks"])),(18,(LS ["nodes","spot_marks"])),(19,(LS ["lines","columns","spot_marks"]))],[.str Ay,.int 8,.int 40,.int 40,.int 12,.int 12,.int 12,.rK [.str "halves",.str "trees",.str "ones",.str "marks"],.az,.az,.az,.az,.az,.az,.az,.az,.az]⟩
set_option hygiene false
local macro_rules | `(tactic| and_intros) => `(tactic| simp only [rd_r1, rd_r2, rd_r3, rd_r4, rd_r5, rd_r6, rd_r7, rd_r8, rd_r9, rd_r10, rd_r11, rd_r12, rd_r13, rd_r14, rd_r15, rd_r16, rd_r17, rd_r18, rd_r19, rd_r20, rd_r21, rd_r22, rd_r23, rd_r24, rd_b1, rd_b2, rd_b3, rd_b4, rd_b5, rd_b6, rd_b7, rd_b8, rd_c1, rd_c2, rd_c3, rd_c4, rd_c5, rd_c6, rd_e1, rd_e2, rd_e3, rd_l1, rd_l2, rd_l3, rd_l4, rd_l5, rd_l6, rd_l7, rd_t1, rd_t2, rd_x1, rd_x2, rd_x3, rd_x4, rd_x5, rd_x6, rd_x7, rd_x8, rd_o1, rd_o2, rd_k1, rd_k2, rd_k3, rd_k4, rd_m1, rd_m2, rd_m3, rd_m4, rd_m5, rd_m6, rd_m7, rd_n1, rd_n2, rd_n3, rd_n4, rd_n5, rd_n6, rd_n7, rd_n8, rd_s1, rd_s2, rd_s3, rd_s4, rd_s5, rd_s6, rd_s7, rd_s8, rd_s9, rd_s10, rd_s11, rd_s12, rd_s13, rd_s16, rd_s17, rd_s18, rd_s19, v_i, v_s, v_b, v_n, v_nev, v_v, v_o, v_d, v_g, v_nil, v_cons, v_bin, v_neg, v_cmp, v_chn, v_eq, v_inn, v_ins, v_ind, v_one, v_and, v_or, v_not, v_tr, v_ife, v_tup, v_fr, v_nlh, v_ndh, v_dsp, v_lof, v_slc, v_cat, v_lrg, v_lr1, v_lfd, v_comp, v_itl, v_rg1, v_rg2, v_rg3, v_rev, v_enu, v_ix, v_sls, v_fld, v_call, v_cfo, v_meth, v_mk, v_len, v_lns, v_isi, v_all, v_int1, v_min2, v_tpl, v_tpf, v_cnt, v_dct, v_dnt, v_dgt, List.map_cons, List.map_nil, List.set_cons_zero, List.set_cons_succ, isiD, isiN, Nat.reduceEqDiff, Nat.reduceBEq, Bool.or_false, Bool.false_or, Bool.true_or, Bool.or_true, Bool.and_false, Bool.false_and, Bool.true_and, Bool.and_true, Bool.not_true, Bool.not_false, Bool.false_eq_true, Bool.xor_false, Bool.xor_true, Bool.false_xor, Bool.true_xor, ↓reduceIte])
local macro_rules | `(tactic| symm) => `(tactic| (refine sqo fun N hN => ?_; and_intros))
local macro_rules | `(tactic| left) => `(tactic| (subst hN; symm))
local macro_rules | `(tactic| right) => `(tactic| (refine sqo fun N2 hN2 => ?_; and_intros))
set_option hygiene true
section
variable {Γ:Gm}{M:Mem}{R:Dt->Mem->Prop}
abbrev Fn (Γ:Gm) (c:S) (ρ:En) (M:Mem) (R:Dt->Mem->Prop):Prop:=ex Γ c ρ M { nx:=fun _ M'=>R .az M',rt:=R }
theorem bz {p:Prop} [Decidable p] {a b:Prop} (h:¬ p) (k:b):(if p then a else b):=by rw[n_ h];exact k
theorem bJ {p:Prop} [Decidable p] {a b:Prop} (h:p) (k:a):(if p then a else b):=by rw[s_ h];exact k
def jq (p:bN):Prop:=∀ (i:Int) M R,R (.bl true) M->p [.int i] M R
def k6 (p:bN):Prop:=∀ z M R,aC z=true->R (.bl true) M->p [.str z] M R
def dw (p:bN):Prop:=∀ ds (m:Int) M R,(ds.length:Int)<=m->R .az M->p [.lst ds,.int m] M R
def eY (p:bN):Prop:=∀ (zs:List Str) (m:Int) M R,(∀ z∈zs,aC z=true)->(zs.length:Int)<=m->R .az M->p [.lst (zs.map .str),.int m] M R
noncomputable def aJ (n:Nd):Dt:=.tup [.str n.1,.int n.2]
def j4 (p:bN):Prop:=∀ (n:Nd) (d:Int) M R,aC n.1=true->0<=n.2->n.2<=d->R .az M->p [aJ n,.int d] M R
def iV (p:bN):Prop:=∀ (ns:List Nd) M R,aG 0 ns->ns.length<=40->R .az M->p [.lst (ns.map aJ)] M R
noncomputable def a7 (l:List Str):Dt:=.lst (l.map .str)
structure aN (w:Nat) (ls:List (List Str)):Prop where
 len:ls.length<=12
 BM:w<=12
 mK:∀ l∈ls,l.length=w
 Pl:∀ l∈ls,∀ z∈l,aC z=true
def iW (p:bN):Prop:=∀ w ls M R,aN w ls->R .az M->p [.lst (ls.map a7)] M R
def bO (p:bN):Prop:=∀ (ps:List Int) (m:Int) M R,placesOk 0 m ps->R .az M->p [.lst (ps.map .int),.int m] M R
theorem wu {i:Int} (hR:R (.bl true) M):Fn Γ jg [.sh (.int i)] M R:=by
 unfold jg;symm;exact hR
theorem zl {z:Str} (h0:Γ.cs 0=.str Ay) (h1:Γ.cs 1=.int 8) (h:aC z=true) (hR:R (.bl true) M):Fn Γ kX [.sh (.str z)] M R:=by
 unfold kX;obtain⟨m1,m2,m3⟩:=tU h;symm;left;have hz:z.length<=sizeLine:=U_ m2 (by decide);refine⟨hz,bJ (c_ (by omega)) ?_⟩;rw[h1];and_intros;refine bz (by rw[c_ (by omega)];decide) ?_;left;refine⟨by unfold rM;rw[a_];exact hz,?_⟩;refine comp_map (fun _=>.bl true) (fun x hx K hK=>?_) ?_
 ·obtain⟨c,hc,rfl⟩:=m_.mp hx;and_intros;rw[h0];and_intros;have:=m3 c hc;unfold vV at this;rw[this];exact hK
 ·refine⟨(rM z).map fun _=>true,by rw[C_];rfl,?_⟩;rw[show ((rM z).map fun _=>true).all id=true from by rw[Yt];exact V_.mpr fun _ _=>rfl];exact hR
theorem rX {ds:List Dt}{m:Int} (h:(ds.length:Int)<=m) (hR:R .az M):Fn Γ fY [.sh (.lst ds),.sh (.int m)] M R:=by
 unfold fY;symm;left;refine bz (by rw[d_ (by omega)];decide) ?_;subst hN;exact hR
theorem pC (p1:k6 (Γ.fn 1)) (p2:dw (Γ.fn 2)) {zs:List Str}{m:Int} (hz:∀ z∈zs,aC z=true) (h:(zs.length:Int)<=m) (hR:R .az M):Fn Γ eF [.sh (.lst (zs.map .str)),.sh (.int m),.no] M R:=by
 unfold eF;symm;refine p2 _ _ _ _ (by rw[a_];exact h) ?_;left;refine aq (fun i ρ M'=>M'=M/\∃ o,ρ=[.sh (.lst (zs.map .str)),.sh (.int m),o]) ⟨rfl,_,rfl⟩ ?_ ?_
 ·rintro i x ρ M' N' hx ⟨rfl,o,rfl⟩ dy;obtain⟨z,J6,rfl⟩:=m_.mp (q_ hx);and_intros;symm;refine p1 z _ _ (hz z J6) ?_;and_intros;subst hN;exact dy _ _ ⟨rfl,_,rfl⟩
 ·rintro ρ M' ⟨rfl,o,rfl⟩;subst hN;exact hR
theorem rY (p0:jq (Γ.fn 0)) (p1:k6 (Γ.fn 1)) {n:Nd}{d:Int} (h1:aC n.1=true) (h2:0<=n.2) (h3:n.2<=d) (hR:R .az M):Fn Γ fZ [.sh (aJ n),.sh (.int d)] M R:=by
 unfold fZ aJ;symm;left;refine⟨_,rfl,p1 _ _ _ h1 ?_⟩;and_intros;left;refine⟨_,rfl,p0 _ _ _ ?_⟩;and_intros;refine⟨_,rfl,?_⟩;and_intros;refine bJ (c_ h2) ?_;refine bz (by rw[c_ h3];decide) ?_;subst hN;exact hR
theorem dW {α:Type}{xs:List α}{i:Nat}{x:α} (h:xs[i]? = some x):xs.take (i+1)=xs.take i++[x]:=by
 rw[YU,h];rfl
theorem xQ {ns:List Nd}{i:Nat}{n:Nd} (h:aG 0 ns) (hn:ns[i]? = some n):aC n.1=true/\0<=n.2/\n.2<=aI 0 (ns.take i)/\aI 0 (ns.take (i+1))=min (n.2+1) 12:=by
 have e:ns=ns.take i++n::ns.drop (i+1):=by
  obtain⟨hl,rfl⟩:=j_.mp hn;rw[←XM hl,YF]
 rw[e,aT] at h;obtain⟨_,h1,h2,h3,_⟩:=h;refine⟨h1,h2,h3,?_⟩;rw[dW hn,a5];rfl
theorem pD (p2:dw (Γ.fn 2)) (p4:j4 (Γ.fn 4)) (g3:Γ.cs 3=.int 40) (g4:Γ.cs 4=.int 12) {ns:List Nd} (h:aG 0 ns) (hl:ns.length<=40) (hR:R .az M):Fn Γ eG [.sh (.lst (ns.map aJ)),.no,.no] M R:=by
 unfold eG;symm;rw[g3];refine p2 _ _ _ _ (by rw[a_];omega) ?_;left;left;refine aq (fun i ρ M'=>M'=M/\∃ o,ρ=[.sh (.lst (ns.map aJ)),.sh (.int (aI 0 (ns.take i))),o]) ⟨rfl,_,rfl⟩ ?_ ?_
 ·rintro i x ρ M' N' hx ⟨rfl,o,rfl⟩ dy;rw[f_] at hx;obtain⟨n,hn,rfl⟩:=k_.mp hx;obtain⟨d1,d2,d3,d4⟩:=xQ h hn;and_intros;symm;refine p4 n _ _ _ d1 d2 d3 ?_;left;unfold aJ;and_intros;refine⟨_,rfl,?_⟩;and_intros;rw[g4];and_intros;subst hN;have e:(if (12:Int)<n.2+1 then 12 else n.2+1)=aI 0 (ns.take (i+1)):=by rw[d4];split<;>omega
  rw[e];exact dy _ _ ⟨rfl,_,rfl⟩
 ·rintro ρ M' ⟨rfl,o,rfl⟩;subst hN;exact hR
theorem pE (p2:dw (Γ.fn 2)) (p3:eY (Γ.fn 3)) (g5:Γ.cs 5=.int 12) (g6:Γ.cs 6=.int 12) {w:Nat}{ls:List (List Str)} (h:aN w ls) (hR:R .az M):Fn Γ eH [.sh (.lst (ls.map a7)),.no] M R:=by
 unfold eH;symm;rw[g5];refine p2 _ _ _ _ (by rw[a_];have:=h.len;omega) ?_;left;refine aq (fun i ρ M'=>M'=M/\∃ o,ρ=[.sh (.lst (ls.map a7)),o]) ⟨rfl,_,rfl⟩ ?_ ?_
 ·rintro i x ρ M' N' hx ⟨rfl,o,rfl⟩ dy;rw[f_] at hx;obtain⟨l,hn,rfl⟩:=k_.mp hx;have hl:=q_ hn;and_intros;symm;rw[g6];refine p3 l _ _ _ (h.Pl l hl) (by have:=h.mK l hl;have:=h.BM;omega) ?_;left;obtain⟨l0,h0⟩:∃ l0,ls[0]? = some l0:=⟨_,b_ (by have:=Zf hl;omega)⟩;unfold a7;and_intros;refine⟨a7 l0,aP (j:=0) (by rw[f_,h0];rfl),?_⟩;unfold a7;and_intros;refine bz (by rw[a_,a_,h.mK l hl,h.mK l0 (q_ h0)];simp) ?_;subst hN;exact dy _ _ ⟨rfl,_,rfl⟩
 ·rintro ρ M' ⟨rfl,o,rfl⟩;subst hN;exact hR
theorem BN {ps:List Int}{m:Int}{i:Nat}{p:Int} (h:placesOk 0 m ps) (hp:ps[i]? = some p):bV 0 (ps.take i)<=p/\p<m/\bV 0 (ps.take (i+1))=p+1:=by
 have e:ps=ps.take i++p::ps.drop (i+1):=by
  obtain⟨hl,rfl⟩:=j_.mp hp;rw[←XM hl,YF]
 rw[e,gT] at h;obtain⟨_,h1,h2,_⟩:=h;refine⟨h1,h2,?_⟩;rw[dW hp,gU];rfl
theorem nR (p0:jq (Γ.fn 0)) {ps:List Int}{m:Int} (h:placesOk 0 m ps) (hR:R .az M):Fn Γ dL [.sh (.lst (ps.map .int)),.sh (.int m),.no,.no] M R:=by
 unfold dL;symm;left;left;refine aq (fun i ρ M'=>M'=M/\∃ o,ρ=[.sh (.lst (ps.map .int)),.sh (.int m),.sh (.int (bV 0 (ps.take i))),o]) ⟨rfl,_,rfl⟩ ?_ ?_
 ·rintro i x ρ M' N' hx ⟨rfl,o,rfl⟩ dy;rw[f_] at hx;obtain⟨p,hp,rfl⟩:=k_.mp hx;obtain⟨q1,q2,q3⟩:=BN h hp;and_intros;symm;refine p0 p _ _ ?_;and_intros;refine bJ (c_ q1) (bz (by rw[c_ q2];decide) ?_);left;subst hN;exact dy _ _ ⟨rfl,_,by rw[q3]⟩
 ·rintro ρ M' ⟨rfl,o,rfl⟩;subst hN;exact hR
noncomputable def atS (zs:List Str) (p:Int):Str:=zs.getD p.toNat ""
def gF (p:bN):Prop:=∀ (t:Dt) (zs:List Str) (ps:List Int) M R,(t=.fE (zs.map .str)∨t=.tup (zs.map .str)∨t=.lst (zs.map .str))->(∀ q∈ps,0<=q/\q<zs.length)->ps.length<=1000->R (.lst ((ps.map (atS zs)).map .str)) M->p [t,.lst (ps.map .int)] M R
theorem cY {zs:List Str}{q:Int} (h0:0<=q) (h1:q<zs.length):mz (zs.map Dt.str) q=some (.str (atS zs q)):=by
 obtain⟨n,rfl⟩:=Xh h0;refine aP ?_;unfold atS;have hn:n<zs.length:=by omega
 rw[f_,i_,v_,b_ hn];rfl
theorem wv {t:Dt}{zs:List Str}{ps:List Int} (ht:t=.fE (zs.map .str)∨t=.tup (zs.map .str)∨t=.lst (zs.map .str)) (hp:∀ q∈ps,0<=q/\q<zs.length) (hl:ps.length<=1000) (hR:R (.lst ((ps.map (atS zs)).map .str)) M):Fn Γ jh [.sh t,.sh (.lst (ps.map .int))] M R:=by
 unfold jh;symm;refine⟨by rw[a_];exact U_ hl (by decide),comp_map (fun d=>match d with | .int q=>.str (atS zs q) | _=>.az) (fun x hx K hK=>?_) ?_⟩
 ·obtain⟨q,hq,rfl⟩:=m_.mp hx;obtain⟨h0,h1⟩:=hp q hq;rcases ht with rfl | rfl | rfl
  ·and_intros;exact⟨_,cY h0 h1,hK⟩
  ·and_intros;exact⟨_,cY h0 h1,hK⟩
  ·and_intros;exact⟨_,cY h0 h1,hK⟩
 ·rw[C_] at hR ⊢;exact hR
noncomputable def iX (zs:List Str) (m:Str):List Int:=(zs.zipIdx.filter fun p=>decide (p.1=m)).map fun p=>(p.2:Int)
def iu (p:bN):Prop:=∀ (zs:List Str) (m:Str) M R,zs.length<=1000->R (.lst ((iX zs m).map .int)) M->p [.fE (zs.map .str),.str m] M R
noncomputable def BO (m:Str):Dt->l_ Dt
 | .tup [.int i,.str z]=>if z=m then some (.int i) else none
 | _=>none
theorem mL {m z:Str}{i:Int}:BO m (.tup [.int i,.str z])=if z=m then some (.int i) else none:=rfl
theorem nS {m:Str}:∀ (zs:List Str) (k:Nat),(((zs.map Dt.str).zipIdx k).map fun p=>Dt.tup [.int (p.2:Int),p.1]).filterMap (BO m)=(((zs.zipIdx k).filter fun p=>decide (p.1=m)).map fun p=>(p.2:Int)).map Dt.int
 | [],k=>rfl
 | z::zs,k=>by
  rw[p_,aah,p_,Xb,nS zs (k+1),aah,Xm];by_cases e:z=m
  ·rw[mL,s_ e,s_ (by simpa using e)];rfl
  ·rw[mL,n_ e,n_ (by simpa using e)]
theorem uF {zs:List Str}{m:Str} (hl:zs.length<=1000) (hR:R (.lst ((iX zs m).map .int)) M):Fn Γ ia [.sh (.fE (zs.map .str)),.sh (.str m)] M R:=by
 unfold ia;symm;refine⟨by rw[a_,YC,a_];exact U_ hl (by decide),aV (BO m) (fun x hx K hK=>?_) ?_⟩
 ·obtain⟨⟨d,k⟩,hp,rfl⟩:=m_.mp hx;have hd:=(adl hp).2.2
  obtain⟨z,hz,rfl⟩:∃ z,z∈zs/\d=.str z:=by
   have:=m_.mp (show d∈zs.map Dt.str by rw[hd];exact Yv _);obtain⟨z,h1,h2⟩:=this;exact⟨z,h1,h2.symm⟩
  and_intros;by_cases e:z=m
  ·refine bJ (c_ e) ?_;rw[mL,s_ e] at hK;exact hK
  ·refine bz (by rw[d_ e];decide) ?_;rw[mL,n_ e] at hK;exact hK
 ·rw[nS];exact hR
def dX (p:bN):Prop:=∀ (t:Dt) (zs:List Str) (a b:Str) M R,(t=.fE (zs.map .str)∨t=.lst (zs.map .str))->(∀ c:Bool,(c=true↔∃ i j:Nat,i<j/\zs[i]? = some a/\zs[j]? = some b)->R (.bl c) M)->p [t,.str a,.str b] M R
theorem nT {t:Dt}{zs:List Str}{a b:Str} (ht:t=.fE (zs.map .str)∨t=.lst (zs.map .str)) (hR:∀ c:Bool,(c=true↔∃ i j:Nat,i<j/\zs[i]? = some a/\zs[j]? = some b)->R (.bl c) M):Fn Γ dM [.sh t,.sh (.str a),.sh (.str b),.no,.no] M R:=by
 have hit:∀ Q:List Dt->Prop,CI t Q=Q (zs.map .str):=fun Q=>by rcases ht with rfl | rfl<;>rfl
 unfold dM;symm;left;rw[hit];refine aq (fun i ρ M'=>M'=M/\(¬ ∃ k j:Nat,k<j/\j<i/\zs[k]? = some a/\zs[j]? = some b)/\∃ o s,ρ=[.sh t,.sh (.str a),.sh (.str b),.sh (.bl s),o]/\(s=true↔∃ k:Nat,k<i/\zs[k]? = some a)) ⟨rfl,by rintro⟨_,_,_,h,_⟩;omega,_,_,rfl,by simp⟩ ?_ ?_
 ·rintro i x ρ M' N' hx ⟨rfl,kt,o,s,rfl,hs⟩ dy;rw[f_] at hx;obtain⟨z,hz,rfl⟩:=k_.mp hx
  have go:(s=true->¬ z=b)->ex Γ ((S.ite (C.eq false (C.v 4) (C.v 1)) ((S.set 3 (C.b true)).seq S.skip) S.skip).seq S.skip) [Sl.sh t,Sl.sh (Dt.str a),Sl.sh (Dt.str b),Sl.sh (Dt.bl s),Sl.sh (Dt.str z)] M' { nx:=N',rt:=R,bk:=N,ct:=N' }:=fun VR=>by
   have Ol:¬ ∃ k j:Nat,k<j/\j<i+1/\zs[k]? = some a/\zs[j]? = some b:=by
    rintro⟨k,j,h1,h2,h3,h4⟩;rcases XU j i with h | h
    ·exact kt ⟨k,j,h1,h,h3,h4⟩
    ·have:j=i:=by omega
     subst this;rw[hz] at h4;exact VR (hs.mpr ⟨k,h1,h3⟩) (O_ h4)
   symm;by_cases e:z=a
   ·refine bJ (c_ e) ?_;right;subst hN2;subst hN;exact dy _ _ ⟨rfl,Ol,_,_,rfl,⟨fun _=>⟨i,by omega,by rw[hz,e]⟩,fun _=>rfl⟩⟩
   ·refine bz (by rw[d_ e];decide) ?_;subst hN;refine dy _ _ ⟨rfl,Ol,_,_,rfl,hs.trans ⟨fun⟨k,h1,h2⟩=>⟨k,by omega,h2⟩,fun⟨k,h1,h2⟩=>⟨k,?_,h2⟩⟩⟩;rcases XU k i with h | h
    ·exact h
    ·have:k=i:=by omega
     subst this;rw[hz] at h2;exact absurd (O_ h2) e
  and_intros;symm
  cases s with
  | false=>refine bz (by decide) ?_;subst hN;exact go fun z=>nomatch z
  | true =>
   refine bJ rfl ?_;by_cases e:z=b
   ·refine bJ (c_ e) ?_;symm;refine hR true ⟨fun _=>?_,fun _=>rfl⟩;obtain⟨k,h1,h2⟩:=hs.mp rfl;exact⟨k,i,h1,h2,by rw[hz,e]⟩
   ·refine bz (by rw[d_ e];decide) ?_;subst hN;exact go fun _=>e
 ·rintro ρ M' ⟨rfl,kt,o,s,rfl,hs⟩;left;refine hR false (Iff.intro (fun z=>nomatch z) fun⟨i,j,h1,h2,h3⟩=>absurd ⟨i,j,h1,?_,h2,h3⟩ kt);rw[a_];exact (j_.mp h3).1
theorem BP {xs:List Dt}{n:Nat}{i:Int} (h:i=(n:Int)):cutD xs (some i) none=xs.drop n:=by
 subst h;unfold cutD;rw[HT.tI,HT.iI];apply aaZ;intro j;rw[aaM,YD,YD];split
 ·rcases abB n xs.length with h | h
  ·rw[X7 h]
  ·rw[aai h,XE (by omega),XE (by omega)]
 ·rw[XE (by omega)]
end
noncomputable def bS (ns:List Nd) (k:Nat):Nat:=((ns.drop (k+1)).takeWhile fun n=>decide ((ns.getD k ("",0)).2<n.2)).length
theorem Fp {α:Type}{P:α->Bool}:∀ {l:List α}{j:Nat},j<(l.takeWhile P).length->∃ x,l[j]? = some x/\P x=true
 | [],j,h=>by simp at h
 | x::l,j,h=>by
  rw[acb] at h
  cases hx:P x with
  | false=>rw[hx] at h;simp at h
  | true =>
   rw[hx] at h
   cases j with
   | zero=>exact⟨x,rfl,hx⟩
   | succ j=>exact Fp (l:=l) (by simpa using h)
theorem xR {α:Type}{P:α->Bool}:∀ {l:List α}{x:α},l[(l.takeWhile P).length]? = some x->P x=false
 | [],x,h=>by simp at h
 | y::l,x,h=>by
  rw[acb] at h
  cases hy:P y with
  | false=>rw[hy] at h;simp at h;rw[←h];exact hy
  | true=>rw[hy] at h;exact xR (l:=l) (by simpa using h)
theorem xS {ns:List Nd}{k j:Nat} (h:j<bS ns k):∃ n,ns[k+1+j]? = some n/\(ns.getD k ("",0)).2<n.2:=by
 obtain⟨n,h1,h2⟩:=Fp h;rw[YD] at h1;exact⟨n,h1,of_decide_eq_true h2⟩
theorem qG {ns:List Nd}{k:Nat}{n:Nd} (h:ns[k+1+bS ns k]? = some n):¬ (ns.getD k ("",0)).2<n.2:=by
 have h1:=xR (l:=ns.drop (k+1)) (P:=fun n=>decide ((ns.getD k ("",0)).2<n.2)) (x:=n) (by rw[YD];exact h);exact of_decide_eq_false h1
theorem mM (ns:List Nd) (k:Nat):bS ns k<=ns.length-(k+1):=by
 unfold bS;refine U_ (List.takeWhile_sublist _).length_le ?_;rw[XZ];exact t_ _
theorem uG {ns:List Nd}{e l:Nat} (hl:l<ns.length):l<=e+bS ns e↔∀ j,e<j->j<=l->(ns.getD e ("",0)).2<(ns.getD j ("",0)).2:=by
 constructor
 ·intro h j h1 h2;obtain⟨n,hn,hd⟩:=xS (ns:=ns) (k:=e) (j:=j-(e+1)) (by omega);rw[show e+1+(j-(e+1))=j by omega] at hn;rw[v_ (i:=j),hn];exact hd
 ·intro h;rcases XU (e+bS ns e) l with lR | VS
  ·have hj:e+1+bS ns e<ns.length:=by omega
   have:=qG (b_ hj);have h2:=h (e+1+bS ns e) (by omega) (by omega);rw[v_ (i:=e+1+bS ns e),b_ hj] at h2;exact absurd h2 this
  ·exact VS
theorem getD_mem {α:Type}{xs:List α}{i:Nat}{a:α} (h:i<xs.length):xs.getD i a∈xs:=by
 rw[v_,b_ h];exact Yv h
inductive Rw where
 | row (zs:List Str) | af (ns:List Nd) | table (w:Nat) (ls:List (List Str))
def Rw.Ok:Rw->Prop
 | .row zs=>(∀ z∈zs,aC z=true)/\zs.length<=40
 | .af ns=>aG 0 ns/\ns.length<=40
 | .table w ls=>aN w ls
noncomputable def d7 (l:List Str):Dt:=.tup (l.map .str)
noncomputable def bm:Rw->Dt
 | .row zs=>.obj 17 ["spot_marks"] [.fE (zs.map .str)]
 | .af ns=>.obj 18 ["spot_marks","nodes"] [.fE ((ns.map (·.1)).map .str),.tup (ns.map aJ)]
 | .table w ls=>.obj 19 ["spot_marks","lines","columns"] [.fE (ls.flatten.map .str),.tup (ls.map d7),.int w]
noncomputable def Rw.names:Rw->List Str
 | .row zs=>zs
 | .af ns=>ns.map (·.1)
 | .table _ ls=>ls.flatten
noncomputable def Rw.many:Rw->Nat
 | .row zs=>zs.length
 | .af ns=>ns.length
 | .table w ls=>ls.length+w
noncomputable def iw (ls:List (List Str)) (ps:List Int):List (List Str):=(linesOf ls.length ps).map fun i=>(aM ls.length ps).map fun j=>atS (ls.getD i.toNat []) j
noncomputable def Rw.left:Rw->List Int->Rw
 | .row zs,ps=>.row (ps.map (atS zs))
 | .af ns,ps=>.af (b0 ns ps)
 | .table _ ls,ps=>.table (aM ls.length ps).length (iw ls ps)
noncomputable def nU:Rw->Dt
 | .row zs=>.tup [.str "row",.fE (zs.map .str)]
 | .af ns=>.tup [.str "forest",.tup (ns.map aJ)]
 | .table w ls=>.tup [.str "table",.int w,.tup (ls.map d7)]
noncomputable abbrev Tn:=Pr.at_
noncomputable abbrev VT:=Pr.cs
structure GB (Γ:Gm):Prop where
 at_:Γ.at_=Tn
 cs:Γ.cs=VT
section
variable {Γ:Gm}{M:Mem}{R:Dt->Mem->Prop}
theorem sz {n:Nat} (h:n<=1000):n<=sizeLine:=U_ h (by decide)
theorem Om (g:GB Γ):Γ.at_ 17 "spot_marks" = true:=by rw[g.at_];decide +kernel
theorem Fq (g:GB Γ):Γ.at_ 18 "spot_marks" = true:=by rw[g.at_];decide +kernel
theorem Fs (g:GB Γ):Γ.at_ 18 "nodes" = true:=by rw[g.at_];decide +kernel
theorem Ft (g:GB Γ):Γ.at_ 19 "spot_marks" = true:=by rw[g.at_];decide +kernel
theorem Fu (g:GB Γ):Γ.at_ 19 "lines" = true:=by rw[g.at_];decide +kernel
theorem xT (g:GB Γ):Γ.at_ 19 "columns" = true:=by rw[g.at_];decide +kernel
theorem xU {α:Type}{a:Str}{x:α}{r:List (Str×α)}:YO a ((a,x)::r)=some x:=by rw[Xf,Y4]
theorem ww {α:Type}{a b:Str}{x:α}{r:List (Str×α)} (h:(b==a)=false):YO b ((a,x)::r)=YO b r:=by rw[Xf,h]
theorem RF (g:GB Γ) {d:Dt}{k:Dt->Prop} (h:k d):d5 Γ "spot_marks" (.obj 17 ["spot_marks"] [d]) k:=⟨Om g,d,xU,h⟩
theorem RG (g:GB Γ) {d e:Dt}{k:Dt->Prop} (h:k d):d5 Γ "spot_marks" (.obj 18 ["spot_marks","nodes"] [d,e]) k:=⟨Fq g,d,xU,h⟩
theorem J7 (g:GB Γ) {d e:Dt}{k:Dt->Prop} (h:k e):d5 Γ "nodes" (.obj 18 ["spot_marks","nodes"] [d,e]) k:=⟨Fs g,e,(ww (by decide +kernel)).trans xU,h⟩
theorem RH (g:GB Γ) {d e c:Dt}{k:Dt->Prop} (h:k d):d5 Γ "spot_marks" (.obj 19 ["spot_marks","lines","columns"] [d,e,c]) k:=⟨Ft g,d,xU,h⟩
theorem Er (g:GB Γ) {d e c:Dt}{k:Dt->Prop} (h:k e):d5 Γ "lines" (.obj 19 ["spot_marks","lines","columns"] [d,e,c]) k:=⟨Fu g,e,(ww (by decide +kernel)).trans xU,h⟩
theorem J8 (g:GB Γ) {d e c:Dt}{k:Dt->Prop} (h:k c):d5 Γ "columns" (.obj 19 ["spot_marks","lines","columns"] [d,e,c]) k:=⟨xT g,c,(ww (by decide +kernel)).trans ((ww (by decide +kernel)).trans xU),h⟩
def jr (p:bN):Prop:=∀ (r:Rw) M R,R (.int r.many) M->p [bm r] M R
theorem wx (g:GB Γ) {zs:List Str} (hR:R (.int (zs.length:Nat)) M):Fn Γ jj [.sh (bm (.row zs))] M R:=by
 unfold jj bm;symm;refine RF g ?_;and_intros;rw[a_];exact hR
theorem pG (g:GB Γ) {ns:List Nd} (hR:R (.int (ns.length:Nat)) M):Fn Γ eL [.sh (bm (.af ns))] M R:=by
 unfold eL bm;symm;refine J7 g ?_;and_intros;rw[a_];exact hR
theorem rZ (g:GB Γ) {w:Nat}{ls:List (List Str)} (hR:R (.int ((ls.length+w:Nat):Int)) M):Fn Γ f8 [.sh (bm (.table w ls))] M R:=by
 unfold f8 bm;symm;refine Er g ?_;and_intros;refine J8 g ?_;and_intros;rw[a_,←XV];exact hR
def wy (p:bN):Prop:=∀ (r:Rw) M R,R (nU r) M->p [bm r] M R
theorem wz (g:GB Γ) {zs:List Str} (hR:R (nU (.row zs)) M):Fn Γ jl [.sh (bm (.row zs))] M R:=by
 unfold jl bm;symm;refine RF g ?_;exact⟨sz (by simp),hR⟩
theorem pH (g:GB Γ) {ns:List Nd} (hR:R (nU (.af ns)) M):Fn Γ eO [.sh (bm (.af ns))] M R:=by
 unfold eO bm;symm;refine J7 g ?_;exact⟨sz (by simp),hR⟩
theorem r6 (g:GB Γ) {w:Nat}{ls:List (List Str)} (hR:R (nU (.table w ls)) M):Fn Γ gc [.sh (bm (.table w ls))] M R:=by
 unfold gc bm;symm;refine J8 g (Er g ?_);exact⟨sz (by simp),hR⟩
theorem gH (g:GB Γ) (r:Rw) {k:Dt->Prop} (h:k (.fE (r.names.map .str))):d5 Γ "spot_marks" (bm r) k:=by
 cases r with
 | row zs=>exact RF g h
 | af ns=>exact RG g h
 | table w ls=>exact RH g h
def xV (p:bN):Prop:=∀ (r:Rw) M R,R (.lst (r.names.map .str)) M->p [bm r] M R
theorem pI (g:GB Γ) {r:Rw} (hR:R (.lst (r.names.map .str)) M):Fn Γ eI [.sh (bm r)] M R:=by
 unfold eI;symm;exact gH g r hR
def lH (p:bN):Prop:=∀ (r:Rw) (a b:Str) M R,(∀ c:Bool,(c=true↔∃ i j:Nat,i<j/\r.names[i]? = some a/\r.names[j]? = some b)->R (.bl c) M)->p [bm r,.str a,.str b] M R
theorem j5 (g:GB Γ) (J9:dX (Γ.fn 10)) {r:Rw}{a b:Str} (hR:∀ c:Bool,(c=true↔∃ i j:Nat,i<j/\r.names[i]? = some a/\r.names[j]? = some b)->R (.bl c) M):Fn Γ cj [.sh (bm r),.sh (.str a),.sh (.str b)] M R:=by
 unfold cj;symm;refine gH g r ?_;and_intros;exact J9 _ _ _ _ _ _ (.inl rfl) hR
def k7 (p:bN):Prop:=∀ (r:Rw) (m:Str) M R,R (.int (r.names.count m:Nat)) M->p [bm r,.str m] M R
theorem lW (g:GB Γ) {r:Rw}{m:Str} (hR:R (.int (r.names.count m:Nat)) M):Fn Γ cZ [.sh (bm r),.sh (.str m)] M R:=by
 unfold cZ;symm;refine gH g r ?_;and_intros;refine⟨rfl,by rw[Yt];exact V_.mpr fun _ _=>rfl,?_⟩;rw[adj];exact hR
def nV (p:bN):Prop:=∀ (r:Rw) (m:Str) M R,r.names.length<=1000->(∀ w ls,r≠.table w ls)->R (.lst ((iX r.names m).map .int)) M->p [bm r,.str m] M R
theorem iy (g:GB Γ) (p9:iu (Γ.fn 9)) {zs:List Str}{m:Str} (hl:zs.length<=1000) (hR:R (.lst ((iX zs m).map .int)) M):Fn Γ dO [.sh (bm (.row zs)),.sh (.str m)] M R:=by
 unfold dO;symm;refine gH g (.row zs) ?_;and_intros;exact p9 _ _ _ _ hl hR
theorem eo (g:GB Γ) (p9:iu (Γ.fn 9)) {ns:List Nd}{m:Str} (hl:(ns.map (·.1)).length<=1000) (hR:R (.lst ((iX (ns.map (·.1)) m).map .int)) M):Fn Γ cn [.sh (bm (.af ns)),.sh (.str m)] M R:=by
 unfold cn;symm;refine gH g (.af ns) ?_;and_intros;exact p9 _ _ _ _ hl hR
def Rw.under:Rw->Nat->Nat->Prop
 | .row _,_,_=>False
 | .af ns,i,j=>∀ k,i<k->k<=j->(ns.getD i ("",0)).2<(ns.getD k ("",0)).2
 | .table w _,i,j=>i % w=j % w
def Rw.rel (r:Rw) (f:Nat->Nat->Prop) (a b:Str):Prop:=∃ i j,i<j/\r.names[i]? = some a/\r.names[j]? = some b/\f i j
def nW (p:bN):Prop:=∀ (r:Rw) (a b:Str) M R,r.Ok->(∀ c:Bool,(c=true↔r.rel r.under a b)->R (.bl c) M)->p [bm r,.str a,.str b] M R
theorem nX {zs:List Str}{a b:Str} (hR:∀ c:Bool,(c=true↔(Rw.row zs).rel (Rw.row zs).under a b)->R (.bl c) M):Fn Γ dQ [.sh (bm (.row zs)),.sh (.str a),.sh (.str b)] M R:=by
 unfold dQ;symm;exact hR false ⟨fun z=>(nomatch z),fun⟨_,_,_,_,_,h⟩=>h.elim⟩
noncomputable def iz (lo n:Nat):List Int:=(Xa n).map fun i:Nat=>((lo+i:Nat):Int)
def qH (p:bN):Prop:=∀ (ns:List Nd) (i:Nat) M R,(Rw.af ns).Ok->i<ns.length->R (.lst (bv i (bS ns i+1))) M->p [bm (.af ns),.int i] M R
theorem xW {ns:List Nd}{k:Nat->List Str->Prop}:fh M (bm (.af ns)) k=k 18 ["spot_marks","nodes"]:=rfl
theorem Oo {zs:List Str}{k:Nat->List Str->Prop}:fh M (bm (.row zs)) k=k 17 ["spot_marks"]:=rfl
theorem Op {w:Nat}{ls:List (List Str)}{k:Nat->List Str->Prop}:fh M (bm (.table w ls)) k=k 19 ["spot_marks","lines","columns"]:=rfl
theorem r9 (g:GB Γ) {ns:List Nd}{k:Dt->Prop} (h:k (.tup (ns.map aJ))):d5 Γ "nodes" (bm (.af ns)) k:=J7 g h
theorem xX {ns:List Nd}{i:Nat}{n:Nd}{k:Dt->Prop} (hn:ns[i]? = some n) (h:k (aJ n)):jB (.tup (ns.map aJ)) i k:=⟨aJ n,aP (by rw[f_,hn];rfl),h⟩
theorem Es {n:Nd}{k:Dt->Prop} (h:k (.str n.1)):jB (aJ n) 0 k:=⟨_,rfl,h⟩
theorem wA {n:Nd}{k:Dt->Prop} (h:k (.int n.2)):jB (aJ n) 1 k:=⟨_,rfl,h⟩
theorem getD_some {α:Type}{xs:List α}{i:Nat}{x d:α} (h:xs[i]? = some x):xs.getD i d=x:=by rw[v_,h];rfl
theorem fm (g:GB Γ) (p9:jr (Γ.me 9)) (hm:Γ.hm 9 18 ["spot_marks","nodes"]=true) {ns:List Nd}{i:Nat} (o:(Rw.af ns).Ok) (hi:i<ns.length) (hR:R (.lst (bv i (bS ns i+1))) M):Fn Γ cH [.sh (bm (.af ns)),.sh (.int i),.no] M R:=by
 unfold cH;have tl:=mM ns i;have KN:=o.2;obtain⟨ni,RI⟩:∃ n,ns[i]? = some n:=⟨_,b_ hi⟩;symm;left;refine⟨fun m ρ M'=>M'=M/\∃ e:Nat,m=ns.length-e/\i<e/\e<=i+bS ns i+1/\ρ=[.sh (bm (.af ns)),.sh (.int i),.sh (.int e)],⟨_,rfl,i+1,rfl,by omega,by omega,by simp⟩,?_⟩;rintro m ρ M' ⟨rfl,e,rfl,h1,h2,rfl⟩
 have fin:e=i+bS ns i+1->N [.sh (bm (.af ns)),.sh (.int i),.sh (.int e)] M':=fun he=>by
  left;refine⟨⟨by omega,by omega⟩,⟨by omega,by omega⟩,by omega,?_⟩;rw[show ((e:Int)-(i:Int)).toNat=bS ns i+1 by omega];exact hR
 and_intros;rw[xW];refine⟨hm,p9 _ _ _ ?_⟩;show if decide ((e:Int)<(ns.length:Nat))=true then _ else _
 by_cases he:e<ns.length
 ·refine bJ (c_ (by omega)) ?_;obtain⟨ne,LZ⟩:∃ n,ns[e]? = some n:=⟨_,b_ he⟩;refine r9 g (xX LZ (wA (r9 g (xX RI (wA ?_)))));show if decide (ni.2<ne.2)=true then _ else _
  by_cases lR:ni.2<ne.2
  ·refine bJ (c_ lR) ?_;right;subst hN2
   have:e≠i+bS ns i+1:=fun z=>by
    have:=qG (ns:=ns) (k:=i) (n:=ne) (by rw[←LZ,z];congr 1;omega);rw[getD_some RI] at this;exact this lR
   exact⟨ns.length-(e+1),by omega,rfl,e+1,rfl,by omega,by omega,by simp⟩
  ·refine bz (by rw[d_ lR];decide) (fin ?_);rcases XU e (i+bS ns i+1) with h | h
   ·obtain⟨n,hn,hd⟩:=xS (ns:=ns) (k:=i) (j:=e-(i+1)) (by omega);rw[show i+1+(e-(i+1))=e by omega,LZ] at hn
    cases hn
    rw[getD_some RI] at hd;exact absurd hd lR
   ·omega
 ·refine bz (by rw[d_ (by omega)];decide) (fin (by omega))
theorem cL {zs:List Str}{m:Str}{q:Int}:q∈iX zs m↔∃ i:Nat,q=(i:Int)/\zs[i]? = some m:=by
 unfold iX;rw[m_];constructor
 ·rintro⟨⟨z,i⟩,h,rfl⟩;obtain⟨h1,h2⟩:=Xr.mp h;have:=Ym.mp h1
  cases of_decide_eq_true h2
  exact⟨i,rfl,this⟩
 ·rintro⟨i,rfl,h⟩;exact⟨(m,i),Xr.mpr ⟨Ym.mpr h,by simp⟩,rfl⟩
theorem qI {zs:List Str}{m:Str}:(iX zs m).length<=zs.length:=by
 unfold iX;rw[a_];exact U_ (Zk _ _) (by rw[YC];exact t_ _)
theorem j6 {x:Str}{zs:List Str}{Q:Bool->Prop} (h:Q (decide (x∈zs))):y8 (.str x) (.lst (zs.map .str)) Q:=by
 refine .inl ⟨zs.map .str,rfl,rfl,by rw[Yt];exact V_.mpr fun _ _=>rfl,?_⟩;rw[aby]
 have e:(zs.any ((fun z=>CH z (.str x)) ∘ Dt.str))=decide (x∈zs):=by
  rw[X6,aaf,Xk];constructor
  ·rintro⟨z,h1,h2⟩;have h2:(z==x)=true:=h2;rw[←YY.mp h2];exact h1
  ·intro h1;exact⟨x,h1,show (x==x)=true from Y4 x⟩
 rw[e];exact h
theorem gJ {f:Dt->En->Mem->za->Prop}{E:za}{items:List Dt}{ρ:En}{T:Prop} (Iv:En->Prop) (P:Dt->Prop) (h0:Iv ρ)
  (hs:∀ x∈items,∀ (ρ:En) (N:En->Mem->Prop),Iv ρ->(P x->T)->(¬ P x->∀ ρ',Iv ρ'->N ρ' M)->f x ρ M { E with nx:=N,ct:=N,bk:=E.nx })
  (ht:(∃ x∈items,P x)->T) (hd:(¬ ∃ x∈items,P x)->∀ ρ,Iv ρ->E.nx ρ M):em f E items ρ M:=by
 refine aq (fun i ρ M'=>M'=M/\Iv ρ/\¬ ∃ x∈items.take i,P x) ⟨rfl,h0,by simp⟩ ?_ ?_
 ·rintro i x ρ M' N hx ⟨rfl,iv,kt⟩ hN;have hm:=q_ hx;refine hs x hm ρ N iv (fun p=>ht ⟨x,hm,p⟩) fun np ρ' RJ=>hN ρ' _ ⟨rfl,RJ,?_⟩
  rintro⟨y,hy,py⟩;rw[dW hx] at hy;rcases N_.mp hy with h | h
  ·exact kt ⟨y,h,py⟩
  ·rw[x_] at h;subst h;exact np py
 ·rintro ρ M' ⟨rfl,iv,kt⟩;rw[Yx] at kt;exact hd kt ρ iv
theorem Ka {lo n:Nat}:bv lo n=(iz lo n).map .int:=by
 unfold bv iz;rw[C_];rfl
theorem zm {lo n:Nat}:(iz lo (n+1)).drop 1=iz (lo+1) n:=by
 apply aaZ;intro j;unfold iz;rw[YD,f_,f_];rcases XU j n with h | h
 ·rw[XO (by omega),XO h];show some ((lo+(1+j):Nat):Int)=some ((lo+1+j:Nat):Int);rw[Nat.add_assoc]
 ·rw[XE (by rw[H_];omega),XE (by rw[H_];omega)];rfl
theorem nY {lo n:Nat}{q:Int}:q∈iz lo n↔∃ i:Nat,q=(i:Int)/\lo<=i/\i<lo+n:=by
 unfold iz;rw[m_];constructor
 ·rintro⟨k,hk,rfl⟩;have:=Xi.mp hk;exact⟨lo+k,rfl,by omega,by omega⟩
 ·rintro⟨i,rfl,h1,h2⟩;exact⟨i-lo,Xi.mpr (by omega),by congr 1;omega⟩
theorem sd {zs:List Str}{i:Nat}{z:Str} (h:zs[i]? = some z):atS zs i=z:=by unfold atS;rw[i_];exact getD_some h
theorem j7 (g:GB Γ) (p8:gF (Γ.fn 8)) (nZ:nV (Γ.me 12)) (Kb:qH (Γ.me 15)) (RK:Γ.hm 12 18 ["spot_marks","nodes"]=true) (RL:Γ.hm 15 18 ["spot_marks","nodes"]=true) {ns:List Nd}{a b:Str} (o:(Rw.af ns).Ok) (hR:∀ c:Bool,(c=true↔(Rw.af ns).rel (Rw.af ns).under a b)->R (.bl c) M):Fn Γ cr [.sh (bm (.af ns)),.sh (.str a),.sh (.str b),.no] M R:=by
 unfold cr;have KN:ns.length<=40:=o.2;have nl:(Rw.af ns).names.length=ns.length:=a_ _;symm;rw[xW];refine⟨RK,nZ _ _ _ _ (by rw[nl];omega) (fun _ _ z=>nomatch z) ?_⟩;and_intros
 have To:∀ i:Nat,i<ns.length->((∃ j,i<j/\(Rw.af ns).names[j]? = some b/\(Rw.af ns).under i j)↔b∈((iz (i+1) (bS ns i)).map (atS (Rw.af ns).names))):=fun i hi=>by
  have tl:=mM ns i;rw[m_];constructor
  ·rintro⟨j,h1,h2,h3⟩;have hj:j<ns.length:=by rw[←nl];exact (j_.mp h2).1
   have:=(uG hj).mpr h3;exact⟨j,nY.mpr ⟨j,rfl,by omega,by omega⟩,sd h2⟩
  ·rintro⟨q,hq,hb⟩;obtain⟨j,rfl,h1,h2⟩:=nY.mp hq;have hj:j<ns.length:=by omega
   have hg:(Rw.af ns).names[j]? = some ((Rw.af ns).names[j]'(by omega)):=b_ _;rw[sd hg] at hb;exact⟨j,by omega,by rw[hg,hb],(uG hj).mp (by omega)⟩
 refine gJ (T:=R (.bl true) M) (fun ρ=>∃ o3,ρ=[.sh (bm (.af ns)),.sh (.str a),.sh (.str b),o3]) (fun x=>∃ i j:Nat,x=.int i/\i<j/\(Rw.af ns).names[j]? = some b/\(Rw.af ns).under i j) ⟨_,rfl⟩ ?_ ?_ ?_
 ·rintro x hx ρ N' ⟨o3,rfl⟩ hy hn;obtain⟨q,hq,rfl⟩:=m_.mp hx;obtain⟨i,rfl,RM⟩:=cL.mp hq;have hi:i<ns.length:=by rw[←nl];exact (j_.mp RM).1
  have tl:=mM ns i;and_intros;right;refine gH g _ ?_;rw[xW];refine⟨RL,Kb _ _ _ _ o hi ?_⟩;show Γ.fn 8 [_,.lst (cutD (bv i (bS ns i+1)) (some 1) none)] M _;rw[BP (n:=1) (i:=1) rfl,Ka,←aa3,zm];refine p8 _ _ _ _ _ (.inl rfl) (fun q hq=>?_) (by unfold iz;rw[a_,H_];omega) ?_
  ·obtain⟨j,rfl,h1,h2⟩:=nY.mp hq;rw[nl];omega
  ·refine j6 ?_;by_cases hb:b∈((iz (i+1) (bS ns i)).map (atS (Rw.af ns).names))
   ·refine bJ (c_ hb) ?_;refine sqo fun N3 cE=>?_
    obtain⟨j,h1,h2,h3⟩:=(To i hi).mpr hb;exact hy ⟨i,j,rfl,h1,h2,h3⟩
   ·refine bz (by rw[d_ hb];decide) ?_;subst hN2;refine hn ?_ _ ⟨_,rfl⟩;rintro⟨i',j,e,h1,h2,h3⟩;have:i=i':=by injection e with e;omega
    subst this;exact hb ((To i hi).mp ⟨j,h1,h2,h3⟩)
 ·rintro⟨x,hx,i,j,rfl,h1,h2,h3⟩;obtain⟨q,hq,e⟩:=m_.mp hx;obtain⟨i',rfl,RM⟩:=cL.mp hq;have:i'=i:=by injection e with e;omega
  subst this;exact hR true ⟨fun _=>⟨i',j,h1,RM,h2,h3⟩,fun _=>rfl⟩
 ·rintro kt ρ ⟨o3,rfl⟩;left;refine hR false ⟨fun z=>(nomatch z),fun⟨i,j,h1,h2,h3,h4⟩=>absurd ⟨.int i,m_.mpr ⟨i,cL.mpr ⟨i,rfl,h2⟩,rfl⟩,i,j,rfl,h1,h3,h4⟩ kt⟩
end
section
variable {Γ:Gm}{M:Mem}{R:Dt->Mem->Prop}
abbrev In (Γ:Gm) (c:S) (ρ:En) (M:Mem) (q:Nat) (k:Dt->Mem->Prop):Prop:=ex Γ c ρ M { nx:=fun ρ M'=>b6 ρ 0 fun d=>pA d fun q' e8 ux=>q'=q/\k (.obj q e8 ux) M',rt:=fun _ _=>False }
noncomputable abbrev Et:=Dt->List Dt->Mem->(Dt->Mem->Prop)->Prop
def mN (p:Et):Prop:=∀ (c:Nat) (zs:List Str) M k,(c=17∨c=18∨c=19)->k (.obj c ["spot_marks"] [.fE (zs.map .str)]) M->p (.obj c [] []) [.lst (zs.map .str)] M k
theorem se (g:GB Γ) {c:Nat}{zs:List Str}{k:Dt->Mem->Prop} (hc:c=17∨c=18∨c=19) (h:k (.obj c ["spot_marks"] [.fE (zs.map .str)]) M):In Γ f6 [.ow (.obj c [] []),.sh (.lst (zs.map .str))] M c k:=by
 unfold f6;symm
 have ha:Γ.at_ c "spot_marks" = true:=by
  rcases hc with rfl | rfl | rfl
  ·exact Om g
  ·exact Fq g
  ·exact Ft g
 refine⟨ha,by simp,?_⟩;subst hN;exact⟨rfl,h⟩
def BQ (p:Et):Prop:=∀ (zs:List Str) M k,(Rw.row zs).Ok->k (bm (.row zs)) M->p (.obj 17 [] []) [.lst (zs.map .str)] M k
theorem wB (g:GB Γ) (p3:eY (Γ.fn 3)) (pT:mN (Γ.bu 16)) {zs:List Str}{k:Dt->Mem->Prop} (o:(Rw.row zs).Ok) (h:k (bm (.row zs)) M):In Γ ji [.ow (.obj 17 [] []),.sh (.lst (zs.map .str))] M 17 k:=by
 unfold ji;symm;rw[g.cs];refine p3 zs 40 _ _ o.1 (by have:=o.2;omega) ?_;left;refine pT 17 zs _ _ (.inl rfl) ?_;subst hN;exact⟨rfl,h⟩
theorem put2 {d e:Dt}:putD "nodes" e ["spot_marks"] [d]=((["spot_marks","nodes"]:List Str),[d,e]):=by
 unfold putD;rw[n_ (by decide +kernel)];rfl
theorem Oq {d e:Dt}:putD "lines" e ["spot_marks"] [d]=((["spot_marks","lines"]:List Str),[d,e]):=by
 unfold putD;rw[n_ (by decide +kernel)];rfl
theorem Fv {d e c:Dt}:putD "columns" c ["spot_marks","lines"] [d,e]=((["spot_marks","lines","columns"]:List Str),[d,e,c]):=by
 unfold putD;rw[n_ (by decide +kernel)];unfold putD;rw[n_ (by decide +kernel)];rfl
theorem Ot {d e c c':Dt}:putD "columns" c' ["spot_marks","lines","columns"] [d,e,c]=((["spot_marks","lines","columns"]:List Str),[d,e,c']):=by
 unfold putD;rw[n_ (by decide +kernel)];unfold putD;rw[n_ (by decide +kernel)];unfold putD;rw[s_ rfl]
noncomputable def Ou:Dt->Dt | .tup (.str z::_)=>.str z | _=>.az
noncomputable def Ov:Dt->Dt | .lst ds=>.tup ds | d=>d
def n0 (p:Et):Prop:=∀ (ns:List Nd) M k,(Rw.af ns).Ok->k (bm (.af ns)) M->p (.obj 18 [] []) [.lst (ns.map aJ)] M k
theorem pJ (g:GB Γ) (p5:iV (Γ.fn 5)) (pT:mN (Γ.bu 16)) {ns:List Nd}{k:Dt->Mem->Prop} (o:(Rw.af ns).Ok) (h:k (bm (.af ns)) M):In Γ eK [.ow (.obj 18 [] []),.sh (.lst (ns.map aJ))] M 18 k:=by
 unfold eK;symm;refine p5 ns _ _ o.1 o.2 ?_;left;refine⟨by rw[a_];exact sz (by have:=o.2;omega),comp_map Ou (fun x hx K hK=>?_) ?_⟩
 ·obtain⟨n,hn,rfl⟩:=m_.mp hx;and_intros;exact Es hK
 ·rw[show (ns.map aJ).map Ou=(ns.map (·.1)).map .str by rw[C_,C_];rfl];refine pT 18 (ns.map (·.1)) _ _ (.inr (.inl rfl)) ?_;left;refine⟨Fs g,by simp,?_⟩;subst hN;rw[put2];exact⟨rfl,h⟩
def si (p:Et):Prop:=∀ (w:Nat) (ls:List (List Str)) M k,aN w ls->k (bm (.table (if ls=[] then 0 else w) ls)) M->p (.obj 19 [] []) [.lst (ls.map a7)] M k
theorem sj (g:GB Γ) (p6:iW (Γ.fn 6)) (pT:mN (Γ.bu 16)) {w:Nat}{ls:List (List Str)}{k:Dt->Mem->Prop} (o:aN w ls) (h:k (bm (.table (if ls=[] then 0 else w) ls)) M):In Γ f7 [.ow (.obj 19 [] []),.sh (.lst (ls.map a7)),.no,.no] M 19 k:=by
 unfold f7;symm;refine p6 w ls _ _ o ?_;left;refine⟨sz (by simp),?_⟩;left
 have fl:∀ n,((ls.take n).flatten).length<=n*12:=fun n=>by
  induction n with
  | zero=>simp
  | succ n ih =>
   cases hl:ls[n]? with
   | none =>
    have:=List.getElem?_eq_none_iff.mp hl;rw[Xv (by omega)];rw[Xv this] at ih;omega
   | some l =>
    rw[dW hl];have:=o.mK l (q_ hl);have:=o.BM;simp only[List.flatten_append,u_,Yh,List.flatten_nil,Xs];omega
 refine aq (fun i ρ M'=>M'=M/\∃ o3,ρ=[.ow (.obj 19 [] []),.sh (.lst (ls.map a7)),.ow (.lst (((ls.take i).flatten).map .str)),o3]) ⟨rfl,_,rfl⟩ ?_ ?_
 ·rintro i x ρ M' N' hx ⟨rfl,o3,rfl⟩ dy;rw[f_] at hx;obtain⟨l,hl,rfl⟩:=k_.mp hx;and_intros;refine sqo fun N2 hN2=>?_
  unfold a7;and_intros;subst hN2;have e:(ls.take i).flatten++l=(ls.take (i+1)).flatten:=by rw[dW hl];simp
  refine⟨?_,?_⟩
  ·rw[a_,a_,←u_,e];have:=fl (i+1);have:=(j_.mp hl).1;have:=o.len;exact sz (by omega)
  ·rw[←E_,e];exact dy _ _ ⟨rfl,_,rfl⟩
 ·rintro ρ M' ⟨rfl,o3,rfl⟩;rw[a_,Yx];left;left;refine pT 19 ls.flatten _ _ (.inr (.inr rfl)) ?_;left;refine⟨by rw[a_];exact sz (by have:=o.len;omega),comp_map Ov (fun x hx K hK=>?_) ⟨Fu g,by simp,?_⟩⟩
  ·obtain⟨l,hl,rfl⟩:=m_.mp hx;exact hK
  ·rw[Oq,show (ls.map a7).map Ov=ls.map d7 by rw[C_];rfl];left
   cases ls with
   | nil =>
    refine bz (by decide) ⟨xT g,by simp,?_⟩;rw[Fv];subst hN;exact⟨rfl,h⟩
   | cons l r =>
    refine bJ (by simp) ⟨a7 l,aP (j:=0) rfl,?_⟩;unfold a7;and_intros;refine⟨xT g,by simp,?_⟩;rw[Fv,a_,o.mK l (by simp)];rw[n_ (by simp)] at h;subst hN;exact⟨rfl,h⟩
theorem bR {r:Rw}{ps:List Int} (o:r.Ok) (hp:placesOk 0 r.many ps):(r.left ps).Ok:=by
 have pa:=ao hp;have pl:=places_len hp (by omega)
 cases r with
 | row zs =>
  refine⟨fun z hz=>?_,by show (ps.map _).length<=40;rw[a_];have:((ps.length:Nat):Int)<=(zs.length:Nat)-0:=pl;have:=o.2;omega⟩;obtain⟨q,hq,rfl⟩:=m_.mp hz;obtain⟨h0,h1⟩:=pa q hq;have h1:q<(zs.length:Nat):=h1;exact o.1 _ (getD_mem (by omega))
 | af ns =>
  refine⟨SH.bR o.1 hp,?_⟩;show (ps.map _).length<=40;rw[a_];have:((ps.length:Nat):Int)<=(ns.length:Nat)-0:=pl;have:=o.2;omega
 | table w ls =>
  have jy:placesOk 0 ((ls.length:Int)+(w:Int)) ps:=by have:=hp;rwa [show ((Rw.table w ls).many:Int)=(ls.length:Int)+(w:Int) from XV _ _] at this
  have l1:=d9 (n:=ls.length) jy;have l2:=fJ (n:=ls.length) jy;have la:=hJ (n:=ls.length) jy;have ca:=i9 jy;have o:aN w ls:=o;have o1:=o.len;have o2:=o.BM;refine⟨by show (List.map _ _).length<=12;rw[a_];omega,by omega,fun l hl=>?_,fun l hl z hz=>?_⟩
  ·obtain⟨i,hi,rfl⟩:=m_.mp hl;rw[a_]
  ·obtain⟨i,hi,rfl⟩:=m_.mp hl;obtain⟨j,hj,rfl⟩:=m_.mp hz;have:=la i hi;have:=ca j hj;have hm:=getD_mem (xs:=ls) (i:=i.toNat) (a:=[]) (by omega);exact o.Pl _ hm _ (getD_mem (by rw[o.mK _ hm];omega))
def wC (p:bN):Prop:=∀ (r:Rw) (ps:List Int) M R,r.Ok->placesOk 0 r.many ps->R (bm (r.left ps)) M->p [bm r,.lst (ps.map .int)] M R
theorem wD (g:GB Γ) (p7:bO (Γ.fn 7)) (p8:gF (Γ.fn 8)) (p9:jr (Γ.me 9)) (Ow:Γ.hm 9 17 ["spot_marks"]=true) (pR:BQ (Γ.bu 17)) {zs:List Str}{ps:List Int} (o:(Rw.row zs).Ok) (hp:placesOk 0 (Rw.row zs).many ps) (hR:R (bm ((Rw.row zs).left ps)) M):Fn Γ jk [.sh (bm (.row zs)),.sh (.lst (ps.map .int))] M R:=by
 unfold jk;have pl:=places_len hp (by omega);have ol:=bR o hp;symm;rw[Oo];refine⟨Ow,p9 _ _ _ (p7 _ _ _ _ hp ?_)⟩;left;refine gH g _ ?_;and_intros;refine p8 _ zs ps _ _ (.inl rfl) (fun q hq=>ao hp q hq) ?_ ?_
 ·have:((ps.length:Nat):Int)<=(zs.length:Nat)-0:=pl;have:=o.2;omega
 ·exact pR _ _ _ ol hR
theorem BR {xs:List Dt}{n:Nat}{i:Int} (h:i=(n:Int)):cutD xs none (some i)=xs.take n:=by
 subst h;unfold cutD;rw[HT.tI,HT.iI];show (xs.drop 0).take (min n xs.length-0)=_;rw[List.drop_zero,Nat.sub_zero];rcases abB n xs.length with h | h
 ·rw[X7 h]
 ·rw[aai h,Xv (t_ _),Xv h]
theorem BS (ps W:List Int):mz ((g0 ps W).map Dt.int) (-1)=some (.int ((kept ps W).length:Int)):=by
 have e:g0 ps W=(g0 ps W).take W.length++[((kept ps W).length:Int)]:=by
  rw[←dW (yQ ps W),Xv (by rw[nc];omega)]
 rw[e,E_];exact mZ _ _
theorem pK (g:GB Γ) (p7:bO (Γ.fn 7)) (p9:jr (Γ.me 9)) (Ow:Γ.hm 9 18 ["spot_marks","nodes"]=true) (pF:n0 (Γ.bu 18)) {ns:List Nd}{ps:List Int} (o:(Rw.af ns).Ok) (hp:placesOk 0 (Rw.af ns).many ps) (hR:R (bm ((Rw.af ns).left ps)) M):Fn Γ eM [.sh (bm (.af ns)),.sh (.lst (ps.map .int)),.no,.no,.no,.no,.no,.no] M R:=by
 unfold eM;have pl:((ps.length:Nat):Int)<=(ns.length:Nat)-0:=places_len hp (by omega);have hp:placesOk 0 ns.length ps:=hp;have ol:=bR (r:=.af ns) o hp;have KN:ns.length<=40:=o.2;symm;rw[xW];refine⟨Ow,p9 _ _ _ (p7 _ _ _ _ hp ?_)⟩;left;refine⟨by rw[a_];exact sz (by omega),comp_map (fun d=>.tup [d,.bl true]) (fun x hx K hK=>?_) ⟨ps,?_,by omega,?_⟩⟩
 ·exact⟨sz (by simp),hK⟩
 ·rw[C_];rfl
 left;refine⟨sz (by simp),?_⟩;left;refine⟨sz (by simp),?_⟩;left;refine r9 g ?_;and_intros;refine aq (fun i ρ M'=>M'=M/\∃ o5 o6 o7,ρ=[.sh (bm (.af ns)),.sh (.lst (ps.map .int)),.sh (.CF ps),.ow (.lst (((below ps i).map (cD ns ps)).map aJ)),.ow (.lst ((g0 ps (way (ns.take i))).map .int)),o5,o6,o7]) ⟨rfl,_,_,_,by rw[XS,dI hp (by simp)];rfl⟩ ?_ ?_
 ·rintro i x ρ M' N' hx ⟨rfl,o5,o6,o7,rfl⟩ dy;rw[f_,ab2,f_] at hx;obtain⟨⟨d,j⟩,VU,rfl⟩:=k_.mp hx;obtain⟨d',Pm,VV⟩:=k_.mp VU
  cases VV
  obtain⟨n,hn,rfl⟩:=k_.mp Pm;have hi:i<ns.length:=(j_.mp hn).1;obtain⟨_,d2,_,_⟩:=xQ o.1 hn;have wl:=xp (ns:=ns) i (by omega);have bl:(below ps i).length<=ps.length:=Zk _ _;rw[Nat.zero_add];and_intros;right;refine wA ?_;and_intros;rw[BR (n:=n.2.toNat+1) (by omega),←Y0,yP,←fK hn];subst hN2;right;refine⟨_,BS ps _,?_⟩;subst hN2;right;have al:=Dx (ns:=ns) (k:=i) (by omega);have wt:=cT hn;rw[←fK hn] at wt;have bs:=jb (i:=i) hp;by_cases hk:(i:Int)∈ps
  ·rw[s_ hk] at bs;refine bJ (by simpa using hk) ?_;refine sqo fun N3 cE=>?_
   and_intros;refine Es ⟨sz (by simp),by rw[a_,a_];exact ZL (U_ bl (show ps.length<=100 by omega)) (by decide),?_⟩;subst cE;refine sqo fun N3 cE=>?_
   and_intros;refine⟨by rw[a_,nc];exact ZL (show _<=100 by omega) (by decide),?_⟩;subst cE;subst hN2
   have e1:((below ps i).map (cD ns ps)).map aJ++[.tup [.str n.1,.int ((kept ps (ja ns i)).length:Int)]]=((below ps (i+1)).map (cD ns ps)).map aJ:=by
    rw[bs,E_,E_];congr 1;show _=[aJ ((ns.getD ((i:Int)).toNat ("",0)).1,((kept ps (ja ns ((i:Int)).toNat)).length:Int))];rw[i_,getD_some hn];rfl
   have e2:(g0 ps (ja ns i)).map Dt.int++[.int (((kept ps (ja ns i)).length:Int)+1)]=(g0 ps (way (ns.take (i+1)))).map .int:=by
    rw[wt,qx,s_ hk,E_];rfl
   rw[e1,e2];exact dy _ _ ⟨rfl,_,_,_,rfl⟩
  ·rw[n_ hk,Xs] at bs;refine bz (by simpa using hk) ?_;refine sqo fun N3 cE=>?_
   and_intros;refine⟨by rw[a_,nc];exact ZL (show _<=100 by omega) (by decide),?_⟩;subst cE;subst hN2
   have e2:(g0 ps (ja ns i)).map Dt.int++[.int ((kept ps (ja ns i)).length:Int)]=(g0 ps (way (ns.take (i+1)))).map .int:=by
    rw[wt,qx,n_ hk,E_,Int.add_zero];rfl
   rw[e2,←bs];exact dy _ _ ⟨rfl,_,_,_,rfl⟩
 ·rintro ρ M' ⟨rfl,o5,o6,o7,rfl⟩;rw[a_,YC,a_,qy hp];left;left;exact pF _ _ _ ol hR
end
section
variable {Γ:Gm}{M:Mem}{R:Dt->Mem->Prop}
theorem sn (g:GB Γ) {w:Nat}{ls:List (List Str)}{k:Dt->Prop} (h:k (.tup (ls.map d7))):d5 Γ "lines" (bm (.table w ls)) k:=Er g h
theorem Kc (g:GB Γ) {w:Nat}{ls:List (List Str)}{k:Dt->Prop} (h:k (.int w)):d5 Γ "columns" (bm (.table w ls)) k:=J8 g h
noncomputable def qJ (ls:List (List Str)):Dt->l_ Dt
 | .int q=>if q<(ls.length:Int) then some (d7 (ls.getD q.toNat [])) else none
 | _=>none
noncomputable def so (n:Nat):Dt->l_ Dt
 | .int q=>if (n:Int)<=q then some (.int (q-n)) else none
 | _=>none
theorem qK {ls:List (List Str)}:∀ {ps:List Int},(ps.map Dt.int).filterMap (qJ ls)=(linesOf ls.length ps).map fun q=>d7 (ls.getD q.toNat [])
 | []=>rfl
 | q::ps=>by
  have ih:=qK (ls:=ls) (ps:=ps);unfold SH.linesOf at ih ⊢;rw[p_,Xb,Xm,ih];by_cases h:q<(ls.length:Int)
  ·rw[show qJ ls (.int q)=some (d7 (ls.getD q.toNat [])) from s_ h,s_ (by simpa using h)];rfl
  ·rw[show qJ ls (.int q)=none from n_ h,n_ (by simpa using h)]
theorem n5 {n:Nat}:∀ {ps:List Int},(ps.map Dt.int).filterMap (so n)=(aM n ps).map .int
 | []=>rfl
 | q::ps=>by
  have ih:=n5 (n:=n) (ps:=ps);unfold aM at ih ⊢;rw[p_,Xb,Xm,ih];by_cases h:(n:Int)<=q
  ·rw[show so n (.int q)=some (.int (q-n)) from s_ h,s_ (by simpa using h)];rfl
  ·rw[show so n (.int q)=none from n_ h,n_ (by simpa using h)]
noncomputable def BU (qs:List Int):Dt->Dt
 | .tup ds=>.lst (qs.map fun q=>ds.getD q.toNat .az)
 | _=>.az
theorem k8 {qs:List Int}{l:List Str} (h:∀ j∈qs,0<=j/\j<(l.length:Int)):BU qs (d7 l)=a7 (qs.map (atS l)):=by
 show Dt.lst (qs.map fun q=>(l.map Dt.str).getD q.toNat .az)=.lst ((qs.map (atS l)).map .str);rw[C_];congr 1;refine W_ fun j hj=>?_
 have:=h j hj;show (l.map Dt.str).getD j.toNat .az=.str (l.getD j.toNat "");have Tp:j.toNat<l.length:=by omega
 rw[getD_some (b_ Tp),getD_some (by rw[f_,b_ Tp];rfl)]
theorem sr (g:GB Γ) (p7:bO (Γ.fn 7)) (p8:gF (Γ.fn 8)) (p9:jr (Γ.me 9)) (Ow:Γ.hm 9 19 ["spot_marks","lines","columns"]=true) (pT:si (Γ.bu 19)) {w:Nat}{ls:List (List Str)}{ps:List Int} (o:(Rw.table w ls).Ok) (hp:placesOk 0 (Rw.table w ls).many ps) (hR:R (bm ((Rw.table w ls).left ps)) M):Fn Γ f9 [.sh (bm (.table w ls)),.sh (.lst (ps.map .int)),.no,.no,.no,.no] M R:=by
 unfold f9;have ol:aN _ _:=bR (r:=.table w ls) o hp;have jy:placesOk 0 ((ls.length:Int)+(w:Int)) ps:=by have:=hp;rwa [show ((Rw.table w ls).many:Int)=(ls.length:Int)+(w:Int) from XV _ _] at this
 have pl:=places_len jy (by omega);have la:=hJ (n:=ls.length) jy;have ca:=i9 jy;have o:aN w ls:=o;have o1:=o.len;have o2:=o.BM;have l1:=d9 (n:=ls.length) jy;have l2:=fJ (n:=ls.length) jy;symm;rw[Op];refine⟨Ow,p9 _ _ _ (p7 _ _ _ _ hp ?_)⟩;left;refine sn g ?_;and_intros;rw[a_];left;refine⟨by rw[a_];exact sz (by omega),aV (qJ ls) (fun x hx K hK=>?_) ?_⟩
 ·obtain⟨q,hq,rfl⟩:=m_.mp hx;have:=ao jy q hq;and_intros;by_cases h:q<(ls.length:Int)
  ·refine bJ (c_ h) (sn g ⟨d7 (ls.getD q.toNat []),?_,?_⟩)
   ·obtain⟨n,rfl⟩:=Xh this.1;rw[i_];refine aP ?_;rw[f_,b_ (show n<ls.length by omega),getD_some (b_ (show n<ls.length by omega))];rfl
   ·rw[show qJ ls (.int q)=some (d7 (ls.getD q.toNat [])) from s_ h] at hK;exact hK
  ·refine bz (by rw[d_ h];decide) ?_;rw[show qJ ls (.int q)=none from n_ h] at hK;exact hK
 rw[qK];left;refine⟨by rw[a_];exact sz (by omega),aV (so ls.length) (fun x hx K hK=>?_) ?_⟩
 ·obtain⟨q,hq,rfl⟩:=m_.mp hx;and_intros;by_cases h:(ls.length:Int)<=q
  ·refine bJ (c_ h) ?_;rw[show so ls.length (.int q)=some (.int (q-ls.length)) from s_ h] at hK;exact hK
  ·refine bz (by rw[d_ h];decide) ?_;rw[show so ls.length (.int q)=none from n_ h] at hK;exact hK
 rw[n5];left;refine⟨by rw[a_];exact sz (by omega),comp_map (BU (aM ls.length ps)) (fun x hx K hK=>?_) ?_⟩
 ·obtain⟨q,hq,rfl⟩:=m_.mp hx;have:=la q hq;have hm:=getD_mem (xs:=ls) (i:=q.toNat) (a:=[]) (by omega);have hw:=o.mK _ hm;and_intros;refine p8 _ (ls.getD q.toNat []) _ _ _ (.inr (.inl rfl)) (fun j hj=>by have:=ca j hj;omega) (by omega) ?_;rw[k8 fun j hj=>by have:=ca j hj;omega] at hK;exact hK
 have e:((linesOf ls.length ps).map fun q=>d7 (ls.getD q.toNat [])).map (BU (aM ls.length ps))=(iw ls ps).map a7:=by
  unfold iw;rw[C_,C_];refine W_ fun q hq=>k8 fun j hj=>?_
  have:=la q hq;have:=ca j hj;have hw:=o.mK _ (getD_mem (xs:=ls) (i:=q.toNat) (a:=[]) (by omega));omega
 rw[e];refine pT _ _ _ _ ol ?_;left;refine⟨xT g,by simp,?_⟩;rw[Ot,a_];left;left;exact hR
noncomputable def bP (P:Prop):Bool:=@decide P (Y9 P)
theorem Kd {P:Prop}:bP P=true↔P:=by unfold bP;exact @Xk P (Y9 P)
theorem xY {P:Prop}{c:Bool} (h:c=true↔P):c=bP P:=by rw[X6,Kd];exact h
theorem fq {w:Nat}{z:Str} (hw:0<w):∀ {ls:List (List Str)}{i:Nat},(∀ l∈ls,l.length=w)->(ls.flatten[i]? = some z↔∃ l,ls[i / w]? = some l/\l[i % w]? = some z)
 | [],i,_=>by simp
 | l::ls,i,h=>by
  have hl:=h l (by simp);rw[Yh];rcases XU i w with hi | hi
  ·rw[Xq (by omega),abe hi,abf hi];simp
  ·obtain⟨k,rfl⟩:∃ k,i=k+w:=⟨i-w,by omega⟩;rw[Xj (by omega),hl,Nat.add_sub_cancel,fq hw (fun m hm=>h m (by simp [hm])),Nat.add_div_right _ hw,Nat.add_mod_right];rfl
theorem BV {ls:List (List Str)} (h:∀ l∈ls,l.length=0):ls.flatten=[]:=by
 rw[List.flatten_eq_nil_iff];exact fun l hl=>List.eq_nil_of_length_eq_zero (h l hl)
theorem w_pos {w:Nat}{ls:List (List Str)}{i:Nat}{z:Str} (h:∀ l∈ls,l.length=w) (hz:ls.flatten[i]? = some z):0<w:=by
 rcases ZM w with e | e
 ·rw[BV (by rw[←e];exact h)] at hz;cases hz
 ·exact e
theorem mO {w:Nat}{ls:List (List Str)}{a b:Str} (o:aN w ls):(Rw.table w ls).rel (Rw.table w ls).under a b↔∃ c,c<w/\∃ r s:Nat,r<s/\(ls.map fun l=>l.getD c "")[r]? = some a/\(ls.map fun l=>l.getD c "")[s]? = some b:=by
 have get:∀ {c r:Nat}{z:Str},c<w->((ls.map fun l=>l.getD c "")[r]? = some z↔∃ l,ls[r]? = some l/\l[c]? = some z):=fun {c r z} hc=>by
  rw[f_];constructor
  ·intro h;obtain⟨l,h1,h2⟩:=k_.mp h;have:=o.mK l (q_ h1);refine⟨l,h1,?_⟩;have hg:=b_ (show c<l.length by omega);rw[getD_some hg] at h2;rw[hg,h2]
  ·rintro⟨l,h1,h2⟩;rw[h1];show some (l.getD c "")=some z;rw[getD_some h2]
 constructor
 ·rintro⟨i,j,h1,h2,h3,h4⟩;have h4:i % w=j % w:=h4;have hw:=w_pos o.mK h2;obtain⟨l,q1,q2⟩:=(fq hw o.mK).mp h2;obtain⟨l',q3,q4⟩:=(fq hw o.mK).mp h3;refine⟨i % w,aaj _ hw,i / w,j / w,?_,(get (aaj _ hw)).mpr ⟨l,q1,q2⟩,(get (aaj _ hw)).mpr ⟨l',q3,by rw[h4];exact q4⟩⟩;have e1:=aau i w;have e2:=aau j w;rcases XU (i / w) (j / w) with h | h
  ·exact h
  ·have:=Zy w h;omega
 ·rintro⟨c,hc,r,s,h1,h2,h3⟩;have hp:0<w:=by omega
  obtain⟨l,q1,q2⟩:=(get hc).mp h2;obtain⟨l',q3,q4⟩:=(get hc).mp h3;have d:∀ r:Nat,(r*w+c) / w=r/\(r*w+c) % w=c:=fun r=>⟨by rw[Nat.mul_comm,adn hp,abe hc,Z5],by rw[ac6,abf hc]⟩
  refine⟨r*w+c,s*w+c,?_,(fq hp o.mK).mpr ⟨l,by rw[(d r).1];exact q1,by rw[(d r).2];exact q2⟩,(fq hp o.mK).mpr ⟨l',by rw[(d s).1];exact q3,by rw[(d s).2];exact q4⟩,by show (r*w+c) % w=(s*w+c) % w;rw[(d r).2,(d s).2]⟩;have:=Nat.mul_lt_mul_of_pos_right h1 hp;omega
noncomputable def Ox (c:Nat):Dt->Dt
 | .tup ds=>ds.getD c .az
 | _=>.az
theorem k9 (g:GB Γ) (J9:dX (Γ.fn 10)) {w:Nat}{ls:List (List Str)}{a b:Str} (o:aN w ls) (hR:∀ c:Bool,(c=true↔(Rw.table w ls).rel (Rw.table w ls).under a b)->R (.bl c) M):Fn Γ cJ [.sh (bm (.table w ls)),.sh (.str a),.sh (.str b),.no] M R:=by
 unfold cJ;have o1:=o.len;have o2:=o.BM;symm;refine Kc g ?_;and_intros;refine⟨⟨by omega,by omega⟩,?_⟩;refine gJ (T:=R (.bl true) M) (fun ρ=>∃ o3,ρ=[.sh (bm (.table w ls)),.sh (.str a),.sh (.str b),o3]) (fun x=>∃ c:Nat,x=.int c/\∃ r s:Nat,r<s/\(ls.map fun l=>l.getD c "")[r]? = some a/\(ls.map fun l=>l.getD c "")[s]? = some b) ⟨_,rfl⟩ ?_ ?_ ?_
 ·rintro x hx ρ N' ⟨o3,rfl⟩ hy hn;obtain⟨c,hc⟩:=S_.mp hx;obtain⟨hc,rfl⟩:=aB hc;rw[i_] at hc;rw[Xd] at hy hn ⊢;and_intros;right;refine sn g ?_;and_intros;refine⟨by rw[a_];exact sz (by omega),comp_map (Ox c) (fun x hx K hK=>?_) ?_⟩
  ·obtain⟨l,hl,rfl⟩:=m_.mp hx;have hw:=o.mK l hl;refine⟨_,?_,hK⟩;refine aP ?_;show (l.map Dt.str)[c]? = some ((l.map Dt.str).getD c .az);have hg:=b_ (show c<(l.map Dt.str).length by rw[a_];omega);rw[getD_some hg];exact hg
  ·have e:(ls.map d7).map (Ox c)=(ls.map fun l=>l.getD c "").map .str:=by
    rw[C_,C_];refine W_ fun l hl=>?_
    have hw:=o.mK l hl;have hg:=b_ (show c<l.length by omega);show (l.map Dt.str).getD c .az=.str (l.getD c "");rw[getD_some hg,getD_some (by rw[f_,hg];rfl)]
   rw[e];refine J9 _ _ _ _ _ _ (.inr rfl) fun q hq=>?_
   show if q=true then _ else _
   cases q with
   | true =>
    refine bJ rfl ?_;refine sqo fun N3 cE=>?_
    exact hy ⟨c,rfl,hq.mp rfl⟩
   | false =>
    refine bz (by decide) ?_;subst hN2;refine hn ?_ _ ⟨_,rfl⟩;rintro⟨c',e',h⟩;have:c=c':=by injection e' with e';omega
    subst this;exact nomatch (hq.mpr h)
 ·rintro⟨x,hx,c,rfl,h⟩;obtain⟨k,hk⟩:=S_.mp hx;obtain⟨hk,e⟩:=aB hk;have:c=k:=by injection e with e;omega
  subst this;rw[i_] at hk;exact hR true ⟨fun _=>(mO o).mpr ⟨c,hk,h⟩,fun _=>rfl⟩
 ·rintro kt ρ ⟨o3,rfl⟩;left;refine hR false ⟨fun z=>(nomatch z),fun h=>?_⟩;obtain⟨c,hc,h⟩:=(mO o).mp h;refine absurd ⟨.int c,?_,c,rfl,h⟩ kt;rw[i_];unfold bv;exact m_.mpr ⟨c,Xi.mpr hc,by rw[Xd]⟩
end
inductive Flt where
 | has (m:Str) | many (n:Int) (m:Str) | before (a b:Str) | under (a b:Str)
 | all (fs:List Flt) | any (fs:List Flt)
mutual
def Flt.holds:Flt->Rw->Prop
 | .has m,r=>0<r.names.count m
 | .many n m,r=>n<=(r.names.count m:Int)
 | .before a b,r=>r.rel (fun _ _=>True) a b
 | .under a b,r=>r.rel r.under a b
 | .all fs,r=>n6 fs r
 | .any fs,r=>n8 fs r
def n6:List Flt->Rw->Prop
 | [],_=>True
 | f::fs,r=>f.holds r/\n6 fs r
def n8:List Flt->Rw->Prop
 | [],_=>False
 | f::fs,r=>f.holds r∨n8 fs r
end
mutual
def Flt.Ok:Flt->Prop
 | .has m=>aC m=true
 | .many _ m=>aC m=true
 | .before a b=>aC a=true/\aC b=true
 | .under a b=>aC a=true/\aC b=true
 | .all fs=>fs.length<=100/\Fw fs
 | .any fs=>fs.length<=100/\Fw fs
def Fw:List Flt->Prop
 | []=>True
 | f::fs=>f.Ok/\Fw fs
end
mutual
noncomputable def Flt.dep:Flt->Nat
 | .all fs=>ss fs+1
 | .any fs=>ss fs+1
 | _=>1
noncomputable def ss:List Flt->Nat
 | []=>0
 | f::fs=>max f.dep (ss fs)
end
mutual
noncomputable def ax:Flt->Dt
 | .has m=>.tup [.str "has",.str m]
 | .many n m=>.tup [.str "many",.int n,.str m]
 | .before a b=>.tup [.str "before",.str a,.str b]
 | .under a b=>.tup [.str "under",.str a,.str b]
 | .all fs=>.tup [.str "all",.lst (uH fs)]
 | .any fs=>.tup [.str "any",.lst (uH fs)]
noncomputable def uH:List Flt->List Dt
 | []=>[]
 | f::fs=>ax f::uH fs
end
mutual
noncomputable def bI:Flt->Dt
 | .has m=>.obj 6 ["mark"] [.str m]
 | .many n m=>.obj 7 ["number","mark"] [.int n,.str m]
 | .before a b=>.obj 9 ["one","other"] [.str a,.str b]
 | .under a b=>.obj 10 ["one","other"] [.str a,.str b]
 | .all fs=>.obj 13 ["parts"] [.tup (uI fs)]
 | .any fs=>.obj 14 ["parts"] [.tup (uI fs)]
noncomputable def uI:List Flt->List Dt
 | []=>[]
 | f::fs=>bI f::uI fs
end
theorem cM:∀ fs:List Flt,uH fs=fs.map ax
 | []=>rfl
 | f::fs=>by unfold uH;rw[cM fs,p_]
theorem fu:∀ fs:List Flt,uI fs=fs.map bI
 | []=>rfl
 | f::fs=>by unfold uI;rw[fu fs,p_]
theorem dY {r:Rw}:∀ {fs:List Flt},n6 fs r↔∀ f∈fs,f.holds r
 | []=>by simp [n6]
 | f::fs=>by unfold n6;rw[dY (fs:=fs)];simp
theorem dZ {r:Rw}:∀ {fs:List Flt},n8 fs r↔∃ f∈fs,f.holds r
 | []=>by simp [n8]
 | f::fs=>by unfold n8;rw[dZ (fs:=fs)];simp
theorem dz:∀ {fs:List Flt},Fw fs↔∀ f∈fs,f.Ok
 | []=>by simp [Fw]
 | f::fs=>by unfold Fw;rw[dz (fs:=fs)];simp
theorem dA:∀ {fs:List Flt},∀ f∈fs,f.dep<=ss fs
 | [],f,h=>nomatch h
 | g::fs,f,h=>by
  unfold ss;rcases w_.mp h with rfl | h
  ·omega
  ·have:=dA f h;omega
noncomputable def Oy:Flt->Nat
 | .has _=>6 | .many _ _=>7 | .before _ _=>9 | .under _ _=>10 | .all _=>13 | .any _=>14
noncomputable def Oz:Flt->List Str
 | .has _=>["mark"] | .many _ _=>["number","mark"] | .before _ _=>["one","other"] | .under _ _=>["one","other"] | .all _=>["parts"] | .any _=>["parts"]
section
variable {Γ:Gm}{M:Mem}{R:Dt->Mem->Prop}
theorem su {f:Flt}{k:Nat->List Str->Prop}:fh M (bI f) k=k (Oy f) (Oz f):=by cases f<;>(unfold bI;rfl)
noncomputable def Tq:Rw->Nat | .row _=>17 | .af _=>18 | .table _ _=>19
noncomputable def Tr:Rw->List Str | .row _=>["spot_marks"] | .af _=>["spot_marks","nodes"] | .table _ _=>["spot_marks","lines","columns"]
theorem cN {r:Rw}{k:Nat->List Str->Prop}:fh M (bm r) k=k (Tq r) (Tr r):=by cases r<;>rfl
noncomputable abbrev wE:=Pr.hm
theorem fv (h:Γ.hm=wE) {m:Nat} (hm:6<=m/\m<16/\m≠14) (r:Rw):Γ.hm m (Tq r) (Tr r)=true:=by
 rw[h];have e:m=6∨m=7∨m=8∨m=9∨m=10∨m=11∨m=12∨m=13∨m=15:=by omega
 rcases e with rfl | rfl | rfl | rfl | rfl | rfl | rfl | rfl | rfl<;>cases r<;>kernel_rfl
theorem Ke (h:Γ.hm=wE) (f:Flt):Γ.hm 5 (Oy f) (Oz f)=true:=by rw[h];cases f<;>kernel_rfl
theorem g1 {c:Nat}{f:Str}{d:Dt}{k:Dt->Prop} (ha:Γ.at_ c f=true) (h:k d):d5 Γ f (.obj c [f] [d]) k:=⟨ha,d,xU,h⟩
theorem RN {c:Nat}{f f':Str}{d e:Dt}{k:Dt->Prop} (ha:Γ.at_ c f=true) (h:k d):d5 Γ f (.obj c [f,f'] [d,e]) k:=⟨ha,d,xU,h⟩
theorem RO {c:Nat}{f f':Str}{d e:Dt}{k:Dt->Prop} (ha:Γ.at_ c f'=true) (hn:(f'==f)=false) (h:k e):d5 Γ f' (.obj c [f,f'] [d,e]) k:=⟨ha,e,(ww hn).trans xU,h⟩
def mP (n:Nat) (p:bN):Prop:=∀ (f:Flt) (r:Rw) M R,f.Ok->r.Ok->f.dep<=n->(∀ c:Bool,(c=true↔f.holds r)->R (.bl c) M)->p [bI f,bm r] M R
theorem uJ (g:GB Γ) (h:Γ.hm=wE) (p7:k7 (Γ.me 7)) {m:Str}{r:Rw} (hR:∀ c:Bool,(c=true↔(Flt.has m).holds r)->R (.bl c) M):Fn Γ ig [.sh (bI (.has m)),.sh (bm r)] M R:=by
 unfold ig bI;symm;rw[cN];refine⟨fv h (by omega) _,g1 (by rw[g.at_];decide +kernel) (p7 r m _ _ ?_)⟩;exact hR _ (by rw[Xk];unfold Flt.holds;omega)
theorem sv (g:GB Γ) (h:Γ.hm=wE) (p7:k7 (Γ.me 7)) {n:Int}{m:Str}{r:Rw} (hR:∀ c:Bool,(c=true↔(Flt.many n m).holds r)->R (.bl c) M):Fn Γ gu [.sh (bI (.many n m)),.sh (bm r)] M R:=by
 unfold gu bI;symm;rw[cN];refine⟨fv h (by omega) _,RO (by rw[g.at_];decide +kernel) (by decide +kernel) (p7 r m _ _ (RN (by rw[g.at_];decide +kernel) ?_))⟩;exact hR _ (by rw[Xk];unfold Flt.holds;exact Iff.rfl)
theorem n9 (g:GB Γ) (h:Γ.hm=wE) (p8:lH (Γ.me 8)) {a b:Str}{r:Rw} (hR:∀ c:Bool,(c=true↔(Flt.before a b).holds r)->R (.bl c) M):Fn Γ dR [.sh (bI (.before a b)),.sh (bm r)] M R:=by
 unfold dR bI;symm;rw[cN];refine⟨fv h (by omega) _,RN (by rw[g.at_];decide +kernel) (RO (by rw[g.at_];decide +kernel) (by decide +kernel) (p8 r a b _ _ fun c hc=>hR c (hc.trans ?_)))⟩;unfold Flt.holds Rw.rel;simp
theorem pL (g:GB Γ) (h:Γ.hm=wE) (RP:nW (Γ.me 13)) {a b:Str}{r:Rw} (o:r.Ok) (hR:∀ c:Bool,(c=true↔(Flt.under a b).holds r)->R (.bl c) M):Fn Γ eT [.sh (bI (.under a b)),.sh (bm r)] M R:=by
 unfold eT bI;symm;rw[cN];exact⟨fv h (by omega) _,RN (by rw[g.at_];decide +kernel) (RO (by rw[g.at_];decide +kernel) (by decide +kernel) (RP r a b _ _ o fun c hc=>hR c (hc.trans (by unfold Flt.holds;exact Iff.rfl))))⟩
theorem iA {f:Dt->En->Mem->za->Prop}{E:za}{items:List Dt}{ρ:En}{T:Prop} (Iv:En->Prop) (P:Nat->Prop) (h0:Iv ρ)
  (hs:∀ i x,items[i]? = some x->∀ (ρ:En) (N:En->Mem->Prop),Iv ρ->(P i->T)->(¬ P i->∀ ρ',Iv ρ'->N ρ' M)->f x ρ M { E with nx:=N,ct:=N,bk:=E.nx })
  (ht:(∃ i,P i)->T) (hd:(¬ ∃ i,i<items.length/\P i)->∀ ρ,Iv ρ->E.nx ρ M):em f E items ρ M:=by
 refine aq (fun i ρ M'=>M'=M/\Iv ρ/\¬ ∃ j,j<i/\P j) ⟨rfl,h0,by rintro⟨_,h,_⟩;omega⟩ ?_ ?_
 ·rintro i x ρ M' N hx ⟨rfl,iv,kt⟩ hN;refine hs i x hx ρ N iv (fun p=>ht ⟨i,p⟩) fun np ρ' RJ=>hN ρ' _ ⟨rfl,RJ,?_⟩
  rintro⟨j,hj,pj⟩;rcases XU j i with h | h
  ·exact kt ⟨j,h,pj⟩
  ·have:j=i:=by omega
   subst this;exact np pj
 ·rintro ρ M' ⟨rfl,iv,kt⟩;exact hd kt ρ iv
theorem uK (g:GB Γ) (h:Γ.hm=wE) {n:Nat} (p5:mP n (Γ.me 5)) {fs:List Flt}{r:Rw} (of:Fw fs) (o:r.Ok) (hd:ss fs<=n) (hR:∀ c:Bool,(c=true↔(Flt.all fs).holds r)->R (.bl c) M):Fn Γ io [.sh (bI (.all fs)),.sh (bm r),.no] M R:=by
 unfold io bI;rw[fu];symm;refine g1 (by rw[g.at_];decide +kernel) ?_;and_intros;refine iA (T:=R (.bl false) M) (fun ρ=>∃ o3,ρ=[.sh (.obj 13 ["parts"] [.tup (fs.map bI)]),.sh (bm r),o3]) (fun i=>∃ f,fs[i]? = some f/\¬ f.holds r) ⟨_,rfl⟩ ?_ ?_ ?_
 ·rintro i x hx ρ N' ⟨o3,rfl⟩ hy hn;rw[f_] at hx;obtain⟨f,hf,rfl⟩:=k_.mp hx;have hm:=q_ hf;and_intros;right;rw[su];refine⟨Ke h _,p5 f r _ _ (dz.mp of f hm) o (U_ (dA f hm) hd) fun c hc=>?_⟩
  cases c with
  | false =>
   and_intros;refine sqo fun N3 cE=>?_
   exact hy ⟨f,hf,fun z=>nomatch (hc.mpr z)⟩
  | true =>
   and_intros;subst hN2;refine hn ?_ _ ⟨_,rfl⟩;rintro⟨f',e,q⟩;rw[hf] at e
   cases e
   exact q (hc.mp rfl)
 ·rintro⟨i,f,hf,q⟩;refine hR false ?_;unfold Flt.holds;rw[dY];exact⟨fun z=>(nomatch z),fun z=>absurd (z f (q_ hf)) q⟩
 ·rintro kt ρ ⟨o3,rfl⟩;left;refine hR true ?_;unfold Flt.holds;rw[dY];exact⟨fun _ f hf=>YJ fun q=>kt (let ⟨i,hi⟩:=S_.mp hf;⟨i,by rw[a_];exact (j_.mp hi).1,f,hi,q⟩),fun _=>rfl⟩
theorem uL (g:GB Γ) (h:Γ.hm=wE) {n:Nat} (p5:mP n (Γ.me 5)) {fs:List Flt}{r:Rw} (of:Fw fs) (o:r.Ok) (hd:ss fs<=n) (hR:∀ c:Bool,(c=true↔(Flt.any fs).holds r)->R (.bl c) M):Fn Γ ip [.sh (bI (.any fs)),.sh (bm r),.no] M R:=by
 unfold ip bI;rw[fu];symm;refine g1 (by rw[g.at_];decide +kernel) ?_;and_intros;refine iA (T:=R (.bl true) M) (fun ρ=>∃ o3,ρ=[.sh (.obj 14 ["parts"] [.tup (fs.map bI)]),.sh (bm r),o3]) (fun i=>∃ f,fs[i]? = some f /\  f.holds r) ⟨_,rfl⟩ ?_ ?_ ?_
 ·rintro i x hx ρ N' ⟨o3,rfl⟩ hy hn;rw[f_] at hx;obtain⟨f,hf,rfl⟩:=k_.mp hx;have hm:=q_ hf;and_intros;right;rw[su];refine⟨Ke h _,p5 f r _ _ (dz.mp of f hm) o (U_ (dA f hm) hd) fun c hc=>?_⟩
  cases c with
  | true =>
   and_intros;refine sqo fun N3 cE=>?_
   exact hy ⟨f,hf,hc.mp rfl⟩
  | false =>
   and_intros;subst hN2;refine hn ?_ _ ⟨_,rfl⟩;rintro⟨f',e,q⟩;rw[hf] at e
   cases e
   exact nomatch (hc.mpr q)
 ·rintro⟨i,f,hf,q⟩;refine hR true ?_;unfold Flt.holds;rw[dZ];exact⟨fun _=>⟨f,q_ hf,q⟩,fun _=>rfl⟩
 ·rintro kt ρ ⟨o3,rfl⟩;left;refine hR false ?_;unfold Flt.holds;rw[dZ];exact⟨fun z=>(nomatch z),fun⟨f,hf,q⟩=>absurd (let ⟨i,hi⟩:=S_.mp hf;⟨i,by rw[a_];exact (j_.mp hi).1,f,hi,q⟩) kt⟩
end
section
variable {Γ:Gm}{M:Mem}{R:Dt->Mem->Prop}
theorem OA {f f':Str}{d e:Dt} (h:¬ f=f'):putD f' e [f] [d]=(([f,f']:List Str),[d,e]):=by unfold putD;rw[n_ h];rfl
theorem putN {f:Str}{d:Dt}:putD f d [] []=(([f]:List Str),[d]):=rfl
def Fy (p:Et):Prop:=∀ (m:Str) M k,k (bI (.has m)) M->p (.obj 6 [] []) [.str m] M k
theorem wF (g:GB Γ) {m:Str}{k:Dt->Mem->Prop} (h:k (bI (.has m)) M):In Γ jo [.ow (.obj 6 [] []),.sh (.str m)] M 6 k:=by
 unfold jo;symm;refine⟨by rw[g.at_];decide +kernel,by simp,?_⟩;subst hN;unfold bI at h;exact⟨rfl,h⟩
def BW (p:Et):Prop:=∀ (n:Int) (m:Str) M k,k (bI (.many n m)) M->p (.obj 7 [] []) [.int n,.str m] M k
theorem uM (g:GB Γ) {n:Int}{m:Str}{k:Dt->Mem->Prop} (h:k (bI (.many n m)) M):In Γ ij [.ow (.obj 7 [] []),.sh (.int n),.sh (.str m)] M 7 k:=by
 unfold ij;unfold bI at h;symm;refine⟨by rw[g.at_];decide +kernel,by simp,?_⟩;left;refine⟨by rw[g.at_];decide +kernel,by simp [putD],?_⟩;subst hN;rw[putN,OA (by decide +kernel)];exact⟨rfl,h⟩
def sy (c:Nat) (p:Et):Prop:=∀ (a b:Str) M k,k (.obj c ["one","other"] [.str a,.str b]) M->p (.obj c [] []) [.str a,.str b] M k
theorem lI (g:GB Γ) {c:Nat} (hc:c=9∨c=10) {a b:Str}{k:Dt->Mem->Prop} (h:k (.obj c ["one","other"] [.str a,.str b]) M):In Γ im [.ow (.obj c [] []),.sh (.str a),.sh (.str b)] M c k:=by
 unfold im;symm;refine⟨by rw[g.at_];rcases hc with rfl | rfl<;>decide +kernel,by simp,?_⟩;left;refine⟨by rw[g.at_];rcases hc with rfl | rfl<;>decide +kernel,by simp [putD],?_⟩;subst hN;rw[putN,OA (by decide +kernel)];exact⟨rfl,h⟩
def mQ (c:Nat) (p:Et):Prop:=∀ (ds:List Dt) M k,k (.obj c ["parts"] [.tup ds]) M->p (.obj c [] []) [.lst ds] M k
theorem j8 (g:GB Γ) {c:Nat} (hc:c=13∨c=14) {ds:List Dt}{k:Dt->Mem->Prop} (h:k (.obj c ["parts"] [.tup ds]) M):In Γ gA [.ow (.obj c [] []),.sh (.lst ds)] M c k:=by
 unfold gA;symm;refine⟨by rw[g.at_];rcases hc with rfl | rfl<;>decide +kernel,by simp,?_⟩;subst hN;exact⟨rfl,h⟩
def gK (n:Nat) (p:bN):Prop:=∀ (f:Flt) M R,f.Ok->f.dep<=n->R (bI f) M->p [ax f] M R
noncomputable def tag:Flt->Nat
 | .has _=>0 | .many _ _=>1 | .before _ _=>2 | .under _ _=>3 | .all _=>6 | .any _=>7
noncomputable def RQ (t:Nat):Str:=match t with | 0 => "has" | 1 => "many" | 2 => "before" | 3 => "under" | 4 => "beside" | 5 => "not" | 6 => "all" | _ => "any"
noncomputable def Pn (f:Flt):Str:=RQ (tag f)
theorem Fz {f:Flt}{k:Dt->Prop} (h:k (.str (Pn f))):jB (ax f) 0 k:=by
 cases f<;>(unfold ax;exact⟨_,rfl,h⟩)
theorem Al {ds:List Dt}{i:Nat}{d:Dt}{k:Dt->Prop} (e:ds[i]? = some d) (h:k d):jB (.tup ds) i k:=⟨d,aP e,h⟩
theorem eZ {f:Flt}{w:Str}{a b:Prop} (e:Pn f=w) (y:a):jB (ax f) 0 fun x=>vv x (.str w) fun c=>if c=true then a else b:=Fz (bJ (c_ e) y)
theorem bg (t:Nat) {f:Flt}{w:Str}{a b:Prop} (e:¬ RQ t=w) (h:tag f=t) (n:b):jB (ax f) 0 fun x=>vv x (.str w) fun c=>if c=true then a else b:=Fz (by
 have e:¬ Pn f=w:=by unfold Pn;rw[h];exact e
 exact bz (by rw[d_ e];decide) n)
theorem j9 {n:Nat} (RS:gK n (Γ.fn 28)) (q6:Fy (Γ.bu 6)) (q7:BW (Γ.bu 7)) (q9:sy 9 (Γ.bu 9)) (VW:sy 10 (Γ.bu 10)) (VX:mQ 13 (Γ.bu 13)) (VY:mQ 14 (Γ.bu 14)) {f:Flt} (o:f.Ok) (hd:f.dep<=n+1) (hR:R (bI f) M):Fn Γ cz [.sh (ax f),.no] M R:=by
 unfold cz
 have go:∀ (fs:List Flt) (K:List Dt->Mem->Prop),(∀ f∈fs,f.Ok)->(∀ f∈fs,f.dep<=n)->K (fs.map bI) M->eh (fun x M K=>Γ.fn 28 [x] M fun d M2=>K (some d) M2) (fs.map ax) M K:=fun fs=>by
  induction fs with
  | nil=>intro K _ _ hK;exact hK
  | cons f fs ih =>
   intro K h1 h2 hK;exact RS f _ _ (h1 f (by simp)) (h2 f (by simp)) (ih _ (fun f' Kf=>h1 f' (by simp [Kf])) (fun f' Kf=>h2 f' (by simp [Kf])) hK)
 cases f with
 | has m =>
  symm;refine eZ rfl ?_;refine sqo fun N2 hN2=>?_
  unfold ax;and_intros;exact⟨_,rfl,q6 m _ _ hR⟩
 | many k m =>
  symm;refine bg 1 (by decide +kernel) rfl ?_;left;refine eZ rfl ?_;refine sqo fun N2 hN2=>?_
  unfold ax;and_intros;exact⟨_,rfl,_,rfl,q7 k m _ _ hR⟩
 | before a b =>
  symm;refine bg 2 (by decide +kernel) rfl ?_;left;refine bg 2 (by decide +kernel) rfl ?_;left;refine eZ rfl ?_;refine sqo fun N2 hN2=>?_
  unfold ax;unfold bI at hR;and_intros;exact⟨_,rfl,_,rfl,q9 a b _ _ hR⟩
 | under a b =>
  symm;refine bg 3 (by decide +kernel) rfl ?_;left;refine bg 3 (by decide +kernel) rfl ?_;left;refine bg 3 (by decide +kernel) rfl ?_;left;refine eZ rfl ?_;refine sqo fun N2 hN2=>?_
  unfold ax;unfold bI at hR;and_intros;exact⟨_,rfl,_,rfl,VW a b _ _ hR⟩
 | all fs =>
  symm;refine bg 6 (by decide +kernel) rfl ?_;left;refine bg 6 (by decide +kernel) rfl ?_;left;refine bg 6 (by decide +kernel) rfl ?_;left;refine bg 6 (by decide +kernel) rfl ?_;left;refine bg 6 (by decide +kernel) rfl ?_;left;refine bg 6 (by decide +kernel) rfl ?_;left;unfold ax;rw[cM];and_intros;refine⟨_,rfl,?_⟩;and_intros;refine⟨by rw[a_];exact sz (by have:=o.1;omega),go fs _ (dz.mp o.2) (fun f hf=>by have:=dA f hf;unfold Flt.dep at hd;omega) ?_⟩;unfold bI at hR;rw[fu] at hR;left;refine⟨_,rfl,?_⟩;and_intros;refine bJ (by decide +kernel) ?_;refine sqo fun N2 hN2=>?_
  exact VX _ _ _ hR
 | any fs =>
  symm;refine bg 7 (by decide +kernel) rfl ?_;left;refine bg 7 (by decide +kernel) rfl ?_;left;refine bg 7 (by decide +kernel) rfl ?_;left;refine bg 7 (by decide +kernel) rfl ?_;left;refine bg 7 (by decide +kernel) rfl ?_;left;refine bg 7 (by decide +kernel) rfl ?_;left;unfold ax;rw[cM];and_intros;refine⟨_,rfl,?_⟩;and_intros;refine⟨by rw[a_];exact sz (by have:=o.1;omega),go fs _ (dz.mp o.2) (fun f hf=>by have:=dA f hf;unfold Flt.dep at hd;omega) ?_⟩;unfold bI at hR;rw[fu] at hR;left;refine⟨_,rfl,?_⟩;and_intros;refine bz (by decide +kernel) ?_;subst hN;refine sqo fun N2 hN2=>?_
  exact VY _ _ _ hR
end
theorem uN {w:Str}{a:Nat} (h:a<=w.length):(Yw w none (some (a:Int))).cps.toList=w.cps.toList.take a:=by
 have e:=eq_of_beq (PyProof.Rows.slice_closes_toL (x:=w) (j:=(a:Int)) (by omega) (by omega));rw[e];simp
theorem og {w:Str}{a:Nat} (h:a<=w.length):(Yw w (some (a:Int)) none).cps.toList=w.cps.toList.drop a:=by
 have e:=eq_of_beq (PyProof.Rows.slice_closes_fromL (x:=w) (i:=(a:Int)) (b:=(w.length:Int)) (by omega) (by omega) rfl);rw[e];have hl:w.cps.toList.length=w.length:=by simp [acq]
 rw[show ((w.length:Int)-(a:Int)).toNat=w.length-a by omega];simp only[i_];rw[Xv (by rw[XZ];omega)]
theorem len_list (w:Str):w.cps.toList.length=w.length:=by simp [acq]
theorem BX {w:Str}{a x:Nat} (h:a<=w.length) (hw:w.length<=7) (hl:∀ y∈w.cps.toList,y∈Ay.cps.toList) (hx:x∈Ay.cps.toList) :
  aC (Yw w none (some (a:Int))++⟨#[x]⟩++Yw w (some (a:Int)) none)=true:=by
 have h1:=uN h;have h2:=og h;have l1:(Yw w none (some (a:Int))).length=a:=by rw[←len_list,h1,Xc,len_list];omega
 have l2:(Yw w (some (a:Int)) none).length=w.length-a:=by rw[←len_list,h2,XZ,len_list]
 refine Dq ?_ ?_ fun y hy=>tT.mpr ?_
 ·rw[YW,YW,iK];omega
 ·rw[YW,YW,iK];omega
 ·rw[app_list,app_list,N_,N_,h1,h2] at hy;rcases hy with (h | h) | h
  ·exact hl y (XH h)
  ·rw[show y=x by simpa using h];exact hx
  ·exact hl y (ab3 h)
theorem uO {w:Str}{a:Nat} (h:a<=w.length) (hw:w.length<=7):(Yw w none (some (a:Int))).length<=7/\(Yw w (some (a:Int)) none).length<=7:=by
 have h1:=uN h;have h2:=og h;rw[←len_list,←len_list,h1,h2,Xc,XZ,len_list];omega
section
variable {Γ:Gm}{M:Mem}{R:Dt->Mem->Prop}
theorem uP {n:Nat} (h:n<=9000):n<sizeLine:=ZL h (by decide)
noncomputable def ky (ns:List Int):Dt:=.nA (ns.map .int)
def cO (p:bN):Prop:=∀ (ns:List Int) (k:Int) M R,0<=k->(∀ n:Int,R (.int n) M)->p [ky ns,.int k] M R
theorem oh {ns:List Int}{k:Int} (h:0<=k) (hR:∀ n:Int,R (.int n) M):Fn Γ dS [.sh (ky ns),.sh (.int k)] M R:=by
 unfold dS ky;symm;rw[a_];by_cases e:k<(ns.length:Int)
 ·refine bJ (c_ e) ?_;right;obtain⟨n,rfl⟩:=Xh h;exact⟨.int (ns[n]'(by omega)),aP (by rw[f_,b_ (by omega)];rfl),hR _⟩
 ·refine bz (by rw[d_ e];decide) ?_;left;exact⟨.inl ⟨by decide,by decide⟩,hR _⟩
theorem fz {f:Dt->Mem->(l_ Dt->Mem->Prop)->Prop}{R:Rt}{P:Dt->Prop}:∀ {items:List Dt},(∀ x∈items,∀ K:l_ Dt->Mem->Prop,(∀ d,P d->K (some d) M)->f x M K)->(∀ ds,ds.length=items.length->(∀ d∈ds,P d)->R ds M)->eh f items M R
 | [],_,h=>h [] rfl (fun _ z=>nomatch z)
 | x::xs,hf,h=>hf x Q_ _ fun d hd=>fz (fun y hy=>hf y (F_ _ hy)) fun ds hl hP=>h (d::ds) (by simp [hl]) fun e he=>by
  rcases w_.mp he with rfl | he
  ·exact hd
  ·exact hP e he
theorem jU {T:Str->Prop}:∀ {ds:List Dt},(∀ d∈ds,∃ z,d=.str z/\T z)->∃ zs:List Str,ds=zs.map .str/\∀ z∈zs,T z
 | [],_=>⟨[],rfl,fun _ z=>nomatch z⟩
 | d::ds,h=>by
  obtain⟨z,rfl,hz⟩:=h d (by simp);obtain⟨zs,rfl,hs⟩:=jU (ds:=ds) fun e he=>h e (by simp [he])
  exact⟨z::zs,rfl,fun y hy=>by rcases w_.mp hy with rfl | hy;exact hz;exact hs y hy⟩
def oj (p:bN):Prop:=∀ (c:Int) M R,(∀ zs:List Str,4<=zs.length->zs.length<=10->(∀ z∈zs,aC z=true)->R (.lst (zs.map .str)) M)->p [.int c] M R
theorem lX {c:Int} (hR:∀ zs:List Str,4<=zs.length->zs.length<=10->(∀ z∈zs,aC z=true)->R (.lst (zs.map .str)) M):Fn Γ di [.sh (.int c),.no,.no,.no,.no,.no,.no,.no] M R:=by
 unfold di;have go:=fun j:Int=>SH.cY (z:=Ay) (i:=j) (m:=26) (by decide) (by decide +kernel)
 symm;left;left;refine⟨⟨by decide,by decide,by decide⟩,by decide,?_⟩;generalize c % 10 ^ abg 12=rr;left;have r0:=YL rr (show (8:Int)≠0 by decide);have r8:=Zd rr (show (0:Int)<8 by decide);refine⟨by decide,⟨by omega,by omega⟩,?_⟩;refine aq (fun i ρ M'=>M'=M/\∃ w:Str,w.length=i/\(∀ y∈w.cps.toList,y∈Ay.cps.toList)/\∃ (rest:Int) (o:Sl),ρ=[.sh (.int c),.sh (.str Ay),.sh (.str w),.sh (.int rest),o,.no,.no,.no]) ⟨rfl,YS "",rfl,fun y hy=>(nomatch hy),_,_,rfl⟩ ?_ ?_
 ·rintro i x ρ M' N' hx ⟨rfl,w,hw,hl,rest,o,rfl⟩ dy;obtain⟨hi,rfl⟩:=aB hx;and_intros;right;refine⟨⟨by decide,by decide⟩,?_⟩;subst hN2;right;obtain⟨x,hx,ex⟩:=go (rest / 8);refine⟨by decide,sz (by decide +kernel),x,ex,by rw[iK];exact sz (by omega),?_⟩;subst hN2;refine dy _ _ ⟨rfl,w++⟨#[x]⟩,by rw[YW,iK,hw],fun y hy=>?_,_,_,rfl⟩;rw[app_list,N_] at hy;rcases hy with h | h
  ·exact hl y h
  ·rw[show y=x by simpa using h];exact hx
 ·rintro ρ M' ⟨rfl,w,hw,hl,rest,o,rfl⟩;rw[ai] at hw;have w7:w.length<=7:=by omega
  left;refine⟨⟨by decide,by decide⟩,sz (by omega),by omega,?_⟩;obtain⟨a,ha⟩:=Xh (YL (c / 8) (show (w.length:Int)+1≠0 by omega));have Ts:a<=w.length:=by have:=Zd (c / 8) (show (0:Int)<(w.length:Int)+1 by omega);omega
  rw[ha];left;refine⟨⟨by decide,by decide⟩,by decide,?_⟩;left;refine⟨sz (by simp),⟨by decide,by decide⟩,by decide,?_⟩;obtain⟨v,hv,_,e⟩:=jM (xs:=([.int 4,.int 4,.int 4,.int 10]:List Dt)) (i:=c / 1664) (m:=4) (by decide) (by decide);refine⟨v,e,?_⟩
  have EU:∃ n:Nat,v=.int n/\4<=n/\n<=10:=by
   simp only[w_,X_,aaN] at hv;rcases hv with rfl | rfl | rfl | rfl
   ·exact⟨4,rfl,by decide,by decide⟩
   ·exact⟨4,rfl,by decide,by decide⟩
   ·exact⟨4,rfl,by decide,by decide⟩
   ·exact⟨10,rfl,by decide,by decide⟩
  obtain⟨n,rfl,n4,W1⟩:=EU;obtain⟨q1,q2⟩:=uO Ts w7;left;refine⟨⟨by omega,by omega⟩,by rw[ai];exact sz (by omega),?_⟩;refine fz (P:=fun d=>∃ z,d=.str z/\aC z=true) (fun x hx K hK=>?_) fun ds zn hP=>?_
  ·obtain⟨i,hi⟩:=S_.mp hx;obtain⟨_,rfl⟩:=aB hi;obtain⟨y,hy,ey⟩:=go (c / 64 % 26+3*(0+(i:Int)));and_intros;exact⟨sz (by omega),.inl ⟨by decide,by decide⟩,by decide,sz (by decide +kernel),y,ey,by rw[iK];exact sz (by omega),sz (by omega),by rw[YW,iK];exact sz (by omega),hK _ ⟨_,rfl,BX Ts w7 hl hy⟩⟩
  ·obtain⟨zs,rfl,hz⟩:=jU hP;rw[a_,ai,i_] at zn;exact hR zs (by omega) (by omega) hz
def qL (p:bN):Prop:=∀ (c:Int) M R,(∀ m:Nat,m<=12->R (.int m) M)->p [.int c] M R
theorem aQ (c:Int) {m:Int} (h:0<m):∃ n:Nat,c % m=(n:Int)/\(n:Int)<m:=by
 obtain⟨n,hn⟩:=Xh (YL c (show m≠0 by omega));exact⟨n,hn,by have:=Zd c h;omega⟩
theorem om {c:Int} (hR:∀ m:Nat,m<=12->R (.int m) M):Fn Γ dU [.sh (.int c)] M R:=by
 unfold dU;symm;refine⟨by decide,?_⟩
 have two:∀ m:Int,0<m->m<=13->R (.int (c / 16 % m)) M:=fun m h1 h2=>by
  obtain⟨n,e,hn⟩:=aQ (c / 16) h1;rw[e];exact hR n (by omega)
 by_cases e:c % 16=5
 ·refine bJ (c_ e) ?_;right;exact⟨⟨by decide,by decide⟩,by decide,two 13 (by decide) (by decide)⟩
 ·refine bz (by rw[d_ e];decide) ?_;left;exact⟨⟨by decide,by decide⟩,by decide,two 9 (by decide) (by decide)⟩
def fA (zs:List Str):Prop:=4<=zs.length/\zs.length<=10/\∀ z∈zs,aC z=true
def uQ (p:bN):Prop:=∀ (ns:List Int) (f m:Nat) (zs:List Str) M R,m<=900->fA zs->(∀ ws:List Str,ws.length=m->(∀ z∈ws,aC z=true)->R (.lst (ws.map .str)) M)->p [ky ns,.int f,.int m,.lst (zs.map .str)] M R
theorem pM (nZ:cO (Γ.fn 12)) {ns:List Int}{f m:Nat}{zs:List Str} (hm:m<=900) (hz:fA zs) (hR:∀ ws:List Str,ws.length=m->(∀ z∈ws,aC z=true)->R (.lst (ws.map .str)) M):Fn Γ eU [.sh (ky ns),.sh (.int f),.sh (.int m),.sh (.lst (zs.map .str)),.no,.no,.no] M R:=by
 unfold eU;obtain⟨z4,Po,hz⟩:=hz;symm;refine⟨sz (by simp),?_⟩;left;refine⟨⟨by omega,by omega⟩,?_⟩;refine aq (fun i ρ M'=>M'=M/\∃ ws:List Str,ws.length=i/\(∀ z∈ws,aC z=true)/\∃ o5 o6,ρ=[.sh (ky ns),.sh (.int f),.sh (.int m),.sh (.lst (zs.map .str)),.ow (.lst (ws.map .str)),o5,o6]) ⟨rfl,[],rfl,fun _ z=>(nomatch z),_,_,rfl⟩ ?_ ?_
 ·rintro i x ρ M' N' hx ⟨rfl,ws,hw,wG,o5,o6,rfl⟩ dy;obtain⟨hi,rfl⟩:=aB hx;rw[i_] at hi;rw[Xd];and_intros;right;refine⟨by decide,nZ _ _ _ _ (by have:=YL (i:Int) (show (12:Int)≠0 by decide);omega) fun c=>?_⟩;and_intros;refine⟨⟨by decide,by decide⟩,.inl ⟨by decide,by decide⟩,?_⟩;generalize c+11*((i:Int) / 12)=cc;subst hN2;right;obtain⟨v,hv,_,e⟩:=jM (xs:=([.int 0,.int 0,.int 1,.int 1,.int 2,.int 2,.int 3]:List Dt)) (i:=cc) (m:=7) (by decide) (by decide)
  have EU:∃ n:Nat,v=.int n/\n<=3:=by
   simp only[w_,X_,aaN] at hv;rcases hv with rfl | rfl | rfl | rfl | rfl | rfl | rfl
   ·exact⟨0,rfl,by decide⟩
   ·exact⟨0,rfl,by decide⟩
   ·exact⟨1,rfl,by decide⟩
   ·exact⟨1,rfl,by decide⟩
   ·exact⟨2,rfl,by decide⟩
   ·exact⟨2,rfl,by decide⟩
   ·exact⟨3,rfl,by decide⟩
  obtain⟨n,rfl,n3⟩:=EU
  have fin:∀ q:Int,0<=q->q<zs.length->atK (zs.map Dt.str) q fun d=>(ws.map Dt.str).length<sizeLine/\N2 [Sl.sh (ky ns),Sl.sh (Dt.int f),Sl.sh (Dt.int m),Sl.sh (.lst (zs.map .str)),Sl.ow (.lst (ws.map .str++[d])),Sl.sh (.int i),Sl.sh (.int cc)] M':=fun q h0 h1=>by
   refine⟨_,K18.cY h0 h1,by rw[a_];exact uP (by omega),?_⟩;subst hN2;have:=dy [Sl.sh (ky ns),Sl.sh (Dt.int f),Sl.sh (Dt.int m),Sl.sh (.lst (zs.map .str)),Sl.ow (.lst ((ws++[atS zs q]).map .str)),Sl.sh (.int i),Sl.sh (.int cc)] M' ⟨rfl,ws++[atS zs q],by simp [hw],fun z CL=>?_,_,_,rfl⟩
   ·rw[E_] at this;exact this
   ·rcases N_.mp CL with h | h
    ·exact wG z h
    ·rw[x_.mp h];exact hz _ (getD_mem (by omega))
  rw[a_];refine⟨sz (by simp),by decide,_,e,by omega,sz (by simp),?_⟩;by_cases h4:(4:Int)<(zs.length:Nat)
  ·rw[s_ (c_ h4)];obtain⟨q,eq,hq⟩:=aQ cc (show (0:Int)<(zs.length:Nat) by omega);refine⟨_,rfl,fin _ (by omega) (by omega)⟩
  ·rw[n_ (by rw[d_ h4];decide)];exact⟨_,rfl,fin _ (by omega) (by omega)⟩
 ·rintro ρ M' ⟨rfl,ws,hw,wG,o5,o6,rfl⟩;rw[ai,i_] at hw;left;left;exact hR ws hw wG
noncomputable def aU:Rw->Dt
 | .row zs=>.tup [.str "row",.lst (zs.map .str)]
 | .af ns=>.tup [.str "forest",.lst (ns.map aJ)]
 | .table w ls=>.tup [.str "table",.int w,.lst (ls.map a7)]
def lJ (p:bN):Prop:=∀ (ns:List Int) (f:Nat) (zs:List Str) M R,zs.length<=40->(∀ z∈zs,aC z=true)->(∀ ps:List Nd,(Rw.af ps).Ok->R (aU (.af ps)) M)->p [ky ns,.int f,.lst (zs.map .str)] M R
theorem lb (nZ:cO (Γ.fn 12)) {ns:List Int}{f:Nat}{zs:List Str} (hl:zs.length<=40) (hz:∀ z∈zs,aC z=true) (hR:∀ ps:List Nd,(Rw.af ps).Ok->R (aU (.af ps)) M):Fn Γ cK [.sh (ky ns),.sh (.int f),.sh (.lst (zs.map .str)),.no,.no,.no,.no] M R:=by
 unfold cK;symm;refine⟨sz (by simp),?_⟩;left;left;rw[a_];refine⟨⟨by omega,by omega⟩,?_⟩;refine aq (fun i ρ M'=>M'=M/\∃ (ps:List Nd) (d:Nat),ps.length=i/\aG 0 ps/\d<=6/\(i=0->d=0)/\(0<i->(d:Int)+1=aI 0 ps)/\∃ o5 o6,ρ=[.sh (ky ns),.sh (.int f),.sh (.lst (zs.map .str)),.ow (.lst (ps.map aJ)),.sh (.int d),o5,o6]) ⟨rfl,[],0,rfl,XD,by omega,fun _=>rfl,fun h=>by omega,_,_,rfl⟩ ?_ ?_
 ·rintro i x ρ M' N' hx ⟨rfl,ps,d,hp,ho,d6,d0,d1,o5,o6,rfl⟩ dy;obtain⟨hi,rfl⟩:=aB hx;rw[i_] at hi;rw[Xd];obtain⟨z,J6⟩:∃ z,zs[i]? = some z:=⟨_,b_ hi⟩;and_intros;right;refine⟨by decide,nZ _ _ _ _ (by have:=YL (i:Int) (show (12:Int)≠0 by decide);omega) fun c=>?_⟩;and_intros;refine⟨⟨by decide,by decide⟩,⟨by decide,by decide⟩,.inl ⟨by decide,by decide⟩,?_⟩;generalize c / 7+3*((i:Int) / 12)=cc;subst hN2;right;obtain⟨a,ea,ha⟩:=aQ cc (show (0:Int)<7 by decide);obtain⟨b,eb,hb⟩:=aQ (a:Int) (show (0:Int)<(d:Int)+2 by omega)
  have W2:b<=a:=by
   have h:((a % (d+2):Nat):Int)=(b:Int):=by rw[←eb,abh];rfl
   have:=Nat.mod_le a (d+2);omega
  rw[ea];refine⟨by decide,by omega,?_⟩;rw[eb]
  obtain⟨e,he,e1,e2,e3⟩:∃ e:Nat,((b:Int)*if decide (0<(i:Int))=true then 1 else 0)=(e:Int)/\e<=6/\(i=0->e=0)/\e<=d+1:=by
   rcases ZM i with h | h
   ·exact⟨0,by rw[n_ (by rw[h];decide),acU];rfl,by omega,fun _=>rfl,by omega⟩
   ·exact⟨b,by rw[s_ (c_ (by omega)),aaT],by omega,fun h'=>by omega,by omega⟩
  rw[he];refine⟨.inl ⟨by omega,by omega⟩,?_⟩;subst hN2;right;refine⟨.str z,aP (by rw[f_,J6];rfl),sz (by simp),by rw[a_];exact uP (by omega),?_⟩;subst hN2;have hm:=hz z (q_ J6)
  have da:(e:Int)<=aI 0 ps:=by
   rcases ZM i with h | h
   ·have:=e2 h
    cases ps with
    | nil=>show (e:Int)<=0;omega
    | cons _ _=>rw[z_] at hp;omega
   ·have:=d1 h;omega
  have:=dy [Sl.sh (ky ns),Sl.sh (Dt.int f),Sl.sh (.lst (zs.map .str)),Sl.ow (.lst ((ps++[((z,(e:Int)):Nd)]).map aJ)),Sl.sh (.int e),Sl.sh (.int i),Sl.sh (.int cc)] M' ⟨rfl,ps++[(z,(e:Int))],e,by simp [hp],aT.mpr ⟨ho,hm,by show (0:Int)<=e;omega,da,XD⟩,e1,fun h=>by omega,fun _=>?_,_,_,rfl⟩
  ·rw[E_] at this;exact this
  ·rw[a5];show (e:Int)+1=min ((e:Int)+1) 12;omega
 ·rintro ρ M' ⟨rfl,ps,d,hp,ho,d6,d0,d1,o5,o6,rfl⟩;rw[ai,i_] at hp;left;left;exact⟨sz (by simp),hR ps ⟨ho,by omega⟩⟩
def BY (p:bN):Prop:=∀ (r:Int) M R,(∀ n:Int,R (.int n) M)->p [.int r] M R
theorem wH {r:Int} (hR:∀ n:Int,R (.int n) M):Fn Γ jp [.sh (.int r),.no,.no] M R:=by
 unfold jp;symm;left;refine⟨fun m ρ M'=>M'=M/\∃ t:Int,0<t/\m=(r+1-t).toNat/\ρ=[.sh (.int r),.sh (.int t),.no],⟨_,rfl,1,by decide,rfl,rfl⟩,?_⟩;rintro m ρ M' ⟨rfl,t,ht,rfl,rfl⟩;and_intros;by_cases e:t<=r
 ·refine bJ (c_ e) ?_;right;refine⟨.inl ⟨by decide,by decide⟩,?_⟩;subst hN2;exact⟨_,by omega,rfl,4*t,by omega,rfl,rfl⟩
 ·refine bz (by rw[d_ e];decide) ?_;left;refine⟨⟨by decide,by decide,by decide⟩,by decide,.inr ⟨by decide,by decide⟩,⟨by decide,by decide,by decide⟩,by decide,?_⟩;generalize (r % 10 ^ abg 15+11)*6364136223846793013 % (2 ^ abg 61-1)=v;left;refine⟨.inr ⟨by decide,by decide⟩,⟨by decide,by decide,by decide⟩,by decide,.inr ?_,hR _⟩;have h0:=YL (v*69621) (show (2 ^ abg 61-1:Int)≠0 by decide);have h1:=Zd (v*69621) (show (0:Int)<2 ^ abg 61-1 by decide);have h2:(2 ^ abg 61-1:Int)<2 ^ 64:=by decide
  exact⟨Int.lt_of_lt_of_le (by decide) h0,Int.lt_trans h1 h2⟩
end
section
variable {Γ:Gm}{M:Mem}{R:Dt->Mem->Prop}
def Rw.Full:Rw->Prop
 | .table w ls=>ls=[]->w=0
 | _=>True
noncomputable def BZ:Rw->Nat | .row _=>0 | .af _=>1 | .table _ _=>2
noncomputable def rws (t:Nat):Str:=match t with | 0 => "row" | 1 => "forest" | _ => "table"
theorem B0 {r:Rw}{k:Dt->Prop} (h:k (.str (rws (BZ r)))):jB (aU r) 0 k:=by
 cases r<;>exact⟨_,rfl,h⟩
theorem gL {r:Rw}{w:Str}{a b:Prop} (e:rws (BZ r)=w) (y:a):jB (aU r) 0 fun x=>vv x (.str w) fun c=>if c=true then a else b:=B0 (bJ (c_ e) y)
theorem er (t:Nat) {r:Rw}{w:Str}{a b:Prop} (e:¬ rws t=w) (h:BZ r=t) (n:b):jB (aU r) 0 fun x=>vv x (.str w) fun c=>if c=true then a else b:=B0 (by
 have e:¬ rws (BZ r)=w:=by rw[h];exact e
 exact bz (by rw[d_ e];decide) n)
def B2 (p:bN):Prop:=∀ (r:Rw) M R,r.Ok->r.Full->R (bm r) M->p [aU r] M R
theorem uR (VZ:BQ (Γ.bu 17)) (V0:n0 (Γ.bu 18)) (V1:si (Γ.bu 19)) {r:Rw} (o:r.Ok) (hf:r.Full) (hR:R (bm r) M):Fn Γ iq [.sh (aU r)] M R:=by
 unfold iq
 cases r with
 | row zs =>
  symm;refine gL rfl ?_;refine sqo fun N2 hN2=>?_
  exact⟨_,rfl,VZ _ _ _ o hR⟩
 | af ns =>
  symm;refine er 1 (by decide +kernel) rfl ?_;left;refine gL rfl ?_;refine sqo fun N2 hN2=>?_
  exact⟨_,rfl,V0 _ _ _ o hR⟩
 | table w ls =>
  symm;refine er 2 (by decide +kernel) rfl ?_;left;refine er 2 (by decide +kernel) rfl ?_;left;refine⟨_,rfl,?_⟩;and_intros;have o:aN w ls:=o;refine⟨by rw[a_];exact sz (by have:=o.len;omega),comp_map id (fun x hx K hK=>?_) ?_⟩
  ·obtain⟨l,hl,rfl⟩:=m_.mp hx;exact hK
  ·rw[List.map_id];refine V1 w ls _ _ o ?_;by_cases e:ls=[]
   ·rw[s_ e];have:=hf e;subst this;exact hR
   ·rw[n_ e];exact hR
noncomputable def OB (P:Int->Bool):Dt->l_ Dt
 | .int i=>if P i=true then some (.int i) else none
 | _=>none
theorem Eu {xs:List Dt}{a b:Nat}{i j:Int} (hi:i=(a:Int)) (hj:j=(b:Int)) (hb:b<=xs.length) (zI:a<=b):cutD xs (some i) (some j)=(xs.drop a).take (b-a):=by
 subst hi hj;unfold cutD;rw[HT.iI,HT.iI,X7 hb,X7 (by omega)]
theorem oo {w:Nat}:∀ {ds:List Dt},(∀ d∈ds,∃ l:List Str,d=a7 l/\l.length=w/\∀ z∈l,aC z=true)->∃ ls:List (List Str),ds=ls.map a7/\(∀ l∈ls,l.length=w)/\∀ l∈ls,∀ z∈l,aC z=true
 | [],_=>⟨[],rfl,fun _ z=>(nomatch z),fun _ z=>nomatch z⟩
 | d::ds,h=>by
  obtain⟨l,rfl,h1,h2⟩:=h d (by simp);obtain⟨ls,rfl,h3,h4⟩:=oo (ds:=ds) fun e he=>h e (by simp [he])
  refine⟨l::ls,rfl,fun m hm=>?_,fun m hm=>?_⟩
  ·rcases w_.mp hm with rfl | hm;exact h1;exact h3 m hm
  ·rcases w_.mp hm with rfl | hm;exact h2;exact h4 m hm
theorem uS {ws:List Str}{w d k:Nat} (hl:ws.length=w*d) (hk:k<d) (hz:∀ z∈ws,aC z=true):∃ l:List Str,Dt.lst (cutD (ws.map .str) (some ((w:Int)*(k:Int))) (some ((w:Int)*(k:Int)+(w:Int))))=a7 l/\l.length=w/\∀ z∈l,aC z=true:=by
 have hle:w*k+w<=ws.length:=by
  rw[hl,←Nat.mul_succ];exact Zy w hk
 refine⟨(ws.drop (w*k)).take w,?_,by rw[Xc,XZ];omega,fun z CL=>hz z (ab3 (XH CL))⟩;rw[Eu (a:=w*k) (b:=w*k+w) (by rw[X8]) (by rw[XV,X8]) (by rw[a_];exact hle) (by omega),abi,←aa3,←Y0];rfl
def FA (p:bN) (ds:List Dt):Prop:=∀ M R,(∀ r:Rw,r.Ok->r.Full->R (aU r) M)->p ds M R
def ka (p:bN):Prop:=∀ (c:Int) (zs:List Str),fA zs->FA p [.int c,.lst (zs.map .str)]
def uT (p:bN):Prop:=∀ (ns:List Int) (f:Nat) (zs:List Str),fA zs->FA p [ky ns,.int f,.lst (zs.map .str)]
theorem pN (nZ:cO (Γ.fn 12)) (V2:qL (Γ.fn 14)) (Kb:uQ (Γ.fn 15)) (V3:lJ (Γ.fn 16)) (RT:BY (Γ.fn 17)) (V4:ka (Γ.fn 18)) {ns:List Int}{f:Nat}{zs:List Str} (hz:fA zs) (hR:∀ r:Rw,r.Ok->r.Full->R (aU r) M):Fn Γ eV [.sh (ky ns),.sh (.int f),.sh (.lst (zs.map .str)),.no,.no,.no,.no,.no] M R:=by
 unfold eV;symm;refine nZ _ _ _ _ (by omega) fun h=>?_
 left;refine⟨by decide,?_⟩;by_cases e:h % 2=1
 ·refine bJ (c_ e) ?_;right;exact⟨⟨by decide,by decide⟩,RT _ _ _ fun c=>V4 c zs hz _ _ hR⟩
 refine bz (by rw[d_ e];decide) ?_;left;refine⟨⟨by decide,by decide⟩,?_⟩;generalize h / 2=h2;left;refine⟨⟨by decide,by decide⟩,V2 _ _ _ fun m hm=>?_⟩;left;refine⟨by decide,?_⟩;have f1:(f:Int)+1=((f+1:Nat):Int):=by omega
 by_cases e0:h2 % 3=0
 ·refine bJ (c_ e0) ?_;right;rw[f1]
  obtain⟨c,hc,ec⟩:∃ c:Nat,c<=1/\(if decide ((9:Int)<(m:Int))=true then (1:Int) else 0)=(c:Int):=by
   by_cases h9:(9:Int)<(m:Int)
   ·exact⟨1,t_ _,s_ (c_ h9)⟩
   ·exact⟨0,by omega,n_ (by rw[d_ h9];decide)⟩
  rw[ec,show (m:Int)+28*(c:Int)=((m+28*c:Nat):Int) by omega];refine⟨.inl ⟨by decide,by omega⟩,?_⟩;exact Kb _ _ _ _ _ _ (by omega) hz fun ws hw wG=>⟨sz (by simp),hR (.row ws) ⟨wG,by omega⟩ XD⟩
 refine bz (by rw[d_ e0];decide) ?_;left;refine⟨by decide,?_⟩;by_cases e1:h2 % 3=1
 ·refine bJ (c_ e1) ?_;right;rw[f1];exact Kb _ _ _ _ _ _ (by omega) hz fun ws hw wG=>V3 _ _ _ _ _ (by omega) wG fun ps o=>hR (.af ps) o XD
 refine bz (by rw[d_ e1];decide) ?_;left;refine⟨⟨by decide,by decide⟩,by decide,?_⟩;left;refine⟨by decide,?_⟩;subst hN;refine sqo fun N hN=>?_
 have tail:∀ w d:Nat,w<=12->d<=12->N [.sh (ky ns),.sh (.int f),.sh (.lst (zs.map .str)),.sh (.int h2),.sh (.int m),.sh (.int w),.sh (.int d),.no] M:=fun w d hw hd=>by
  rw[hN];refine sqo fun N3 cE=>?_
  and_intros;refine⟨.inl ⟨by omega,by omega⟩,?_⟩;rw[f1,←X8];have Tt:w*d<=12*12:=aaO hw hd;refine Kb _ _ _ _ _ _ (by omega) hz fun ws hl wG=>?_
  subst cE;refine sqo fun N3 cE=>?_
  and_intros;refine⟨.inl ⟨by omega,by omega⟩,⟨by omega,by omega⟩,by rw[ai];exact sz (by omega),?_⟩;refine fz (P:=fun x=>∃ l:List Str,x=a7 l/\l.length=w/\∀ z∈l,aC z=true) (fun x hx K hK=>?_) fun ds zn hP=>?_
  ·obtain⟨k,mD⟩:=S_.mp hx;obtain⟨hk,rfl⟩:=aB mD;rw[i_] at hk;rw[Xd];and_intros;exact⟨.inl ⟨by omega,by omega⟩,.inl ⟨by omega,by omega⟩,hK _ (uS hl hk wG)⟩
  ·obtain⟨ls,rfl,h3,h4⟩:=oo hP;rw[a_,ai,i_] at zn;refine⟨sz (by simp),?_⟩
   have e5:((w:Int)*if decide (0<(d:Int))=true then 1 else 0)=((if d=0 then 0 else w:Nat):Int):=by
    by_cases h0:d=0
    ·rw[s_ h0,n_ (by rw[h0];decide),acU];rfl
    ·rw[n_ h0,s_ (c_ (by omega)),aaT]
   rw[e5];refine hR (.table (if d=0 then 0 else w) ls) ⟨by omega,by split<;>omega,fun l hl=>?_,h4⟩ fun e=>?_
   ·rw[n_ (by have:=Zf hl;omega)];exact h3 l hl
   ·rw[s_ (by rw[e] at zn;exact zn.symm)]
 and_intros;obtain⟨a,ea,ha⟩:=aQ (h2 / 48) (show (0:Int)<5 by decide);obtain⟨b,eb,hb⟩:=aQ (m:Int) (show (0:Int)<6 by decide);obtain⟨a',V5,S0⟩:=aQ (h2 / 48) (show (0:Int)<8 by decide);obtain⟨b',V6,GX⟩:=aQ (h2 / 384) (show (0:Int)<9 by decide);rw[ea,eb];by_cases e9:(9:Int)<m
 ·refine bJ (c_ e9) ?_;refine sqo fun N3 cE=>?_
  and_intros;refine⟨⟨by decide,by decide⟩,by decide,?_⟩;subst cE;refine sqo fun N3 cE=>?_
  and_intros;refine⟨⟨by decide,by decide⟩,by decide,?_⟩;subst cE;rw[V5,V6,show (1:Int)+(a':Int)=((1+a':Nat):Int) by omega];exact tail _ _ (by omega) (by omega)
 ·refine bz (by rw[d_ e9];decide) (tail _ _ (by omega) (by omega))
theorem kb {c:Int}{zs:List Str} (hz:fA zs) (hR:∀ r:Rw,r.Ok->r.Full->R (aU r) M):Fn Γ cu [.sh (.int c),.sh (.lst (zs.map .str)),.no,.no,.no,.no,.no,.no,.no,.no] M R:=by
 unfold cu;obtain⟨z4,Po,hz⟩:=hz;obtain⟨k,ek,hk⟩:=aQ (c / 3) (show (0:Int)<10 by decide);obtain⟨w,ew,hw⟩:=aQ (c / 30) (show (0:Int)<5 by decide);obtain⟨d,ed,hd⟩:=aQ (c / 150) (show (0:Int)<5 by decide);symm;refine⟨⟨by decide,by decide⟩,by decide,?_⟩;rw[ek];left;refine⟨⟨by decide,by decide⟩,by decide,?_⟩;rw[ew];left;refine⟨⟨by decide,by decide⟩,by decide,?_⟩;rw[ed];left;refine⟨⟨by decide,by decide⟩,?_⟩;generalize c / 750=r0;subst hN;refine sqo fun N hN=>?_
 have Tt:w*d<=4*4:=aaO (by omega) (by omega)
 have main:∀ m:Nat,m<=16->(c % 3=2->m=w*d)->(¬ c % 3=2->m<=9)->N [.sh (.int c),.sh (.lst (zs.map .str)),.sh (.int m),.sh (.int w),.sh (.int d),.sh (.int r0),.no,.no,.no,.no] M:=fun m W3 m2 m9=>by
  rw[hN];refine sqo fun N3 cE=>?_
  and_intros;refine⟨sz (by simp),?_⟩;subst cE;refine sqo fun N3 cE=>?_
  and_intros;refine⟨⟨by omega,by omega⟩,?_⟩;refine aq (fun i ρ M'=>M'=M/\∃ ws:List Str,ws.length=i/\(∀ z∈ws,aC z=true)/\∃ (r:Int) (o7:Sl),ρ=[.sh (.int c),.sh (.lst (zs.map .str)),.sh (.int m),.sh (.int w),.sh (.int d),.sh (.int r),.ow (.lst (ws.map .str)),o7,.no,.no]) ⟨rfl,[],rfl,fun _ z=>(nomatch z),_,_,rfl⟩ ?_ ?_
  ·rintro i x ρ M' N' hx ⟨rfl,ws,hl,wG,r,o7,rfl⟩ dy;obtain⟨hi,rfl⟩:=aB hx;rw[i_] at hi;and_intros;refine sqo fun N4 kz=>?_
   and_intros;rw[a_];obtain⟨q,eq,hq⟩:=aQ r (show (0:Int)<(zs.length:Nat) by omega);rw[eq];refine⟨by omega,.str (atS zs q),K18.cY (by omega) (by omega),by rw[a_];exact uP (by omega),?_⟩;subst kz;refine sqo fun N4 kz=>?_
   and_intros;rw[a_];refine⟨⟨by omega,by omega⟩,?_⟩;subst kz;rw[show ws.map Dt.str++[Dt.str (atS zs q)]=(ws++[atS zs q]).map .str by rw[E_];rfl];refine dy _ _ ⟨rfl,ws++[atS zs q],by simp [hl],fun z CL=>?_,_,_,rfl⟩;rcases N_.mp CL with h | h
   ·exact wG z h
   ·rw[x_.mp h];exact hz _ (getD_mem (by omega))
  ·rintro ρ M' ⟨rfl,ws,hl,wG,r,o7,rfl⟩;rw[ai,i_] at hl;subst cE;refine sqo fun N3 cE=>?_
   and_intros;refine⟨by decide,?_⟩;by_cases e0:c % 3=0
   ·refine bJ (c_ e0) ?_;refine sqo fun N4 kz=>?_
    and_intros;subst kz;refine sqo fun N4 kz=>?_
    exact⟨sz (by simp),hR (.row ws) ⟨wG,by omega⟩ XD⟩
   refine bz (by rw[d_ e0];decide) ?_;subst cE;refine sqo fun N3 cE=>?_
   and_intros;refine⟨by decide,?_⟩;by_cases e2:c % 3=2
   ·refine bJ (c_ e2) ?_;refine sqo fun N4 kz=>?_
    and_intros;subst kz;refine sqo fun N4 kz=>?_
    and_intros;have hl:=hl.trans (m2 e2);refine⟨.inl ⟨by omega,by omega⟩,⟨by omega,by omega⟩,by rw[ai];exact sz (by omega),?_⟩;refine fz (P:=fun x=>∃ l:List Str,x=a7 l/\l.length=w/\∀ z∈l,aC z=true) (fun x hx K hK=>?_) fun ds zn hP=>?_
    ·obtain⟨k,mD⟩:=S_.mp hx;obtain⟨hk,rfl⟩:=aB mD;rw[i_] at hk;rw[Xd];and_intros;exact⟨.inl ⟨by omega,by omega⟩,.inl ⟨by omega,by omega⟩,hK _ (uS hl hk wG)⟩
    ·obtain⟨ls,rfl,h3,h4⟩:=oo hP;rw[a_,ai,i_] at zn;refine⟨sz (by simp),?_⟩
     have e5:((w:Int)*if decide (0<(d:Int))=true then 1 else 0)=((if d=0 then 0 else w:Nat):Int):=by
      by_cases h0:d=0
      ·rw[s_ h0,n_ (by rw[h0];decide),acU];rfl
      ·rw[n_ h0,s_ (c_ (by omega)),aaT]
     rw[e5];refine hR (.table (if d=0 then 0 else w) ls) ⟨by omega,by split<;>omega,fun l hl=>?_,h4⟩ fun e=>?_
     ·rw[n_ (by have:=Zf hl;omega)];exact h3 l hl
     ·rw[s_ (by rw[e] at zn;exact zn.symm)]
   refine bz (by rw[d_ e2];decide) ?_;have m9:=m9 e2;subst cE;refine sqo fun N3 cE=>?_
   and_intros;refine⟨sz (by simp),?_⟩;subst cE;refine sqo fun N3 cE=>?_
   and_intros;subst cE;refine sqo fun N3 cE=>?_
   and_intros;refine⟨⟨by omega,by omega⟩,?_⟩;refine aq (fun i ρ B3=>B3=M'/\∃ (ps:List Nd) (rm:Nat),ps.length=i/\aG 0 ps/\1<=rm/\rm<=i+1/\(rm:Int)-1<=aI 0 ps/\∃ (r:Int) (o7:Sl),ρ=[.sh (.int c),.sh (.lst (zs.map .str)),.sh (.int m),.sh (.int w),.sh (.int d),.sh (.int r),.ow (.lst (ws.map .str)),o7,.ow (.lst (ps.map aJ)),.sh (.int rm)]) ⟨rfl,[],1,rfl,XD,by omega,by omega,by show (1:Int)-1<=0;omega,_,_,rfl⟩ ?_ ?_
   ·rintro i x ρ B3 N' hx ⟨rfl,ps,rm,hp,ho,r1,r2,r3,r,o7,rfl⟩ dy;obtain⟨hi,rfl⟩:=aB hx;rw[i_] at hi;rw[Xd];obtain⟨z,J6⟩:∃ z,ws[i]? = some z:=⟨_,b_ (by omega)⟩;obtain⟨q,eq,hq⟩:=aQ r (show (0:Int)<(rm:Int) by omega);have hm:=wG z (q_ J6);and_intros;refine sqo fun N4 kz=>?_
    and_intros;rw[eq];refine⟨.str z,aP (by rw[f_,J6];rfl),by omega,sz (by simp),by rw[a_];exact uP (by omega),?_⟩;subst kz;refine sqo fun N4 kz=>?_
    and_intros;refine⟨⟨by omega,by omega⟩,?_⟩;subst kz;refine sqo fun N4 kz=>?_
    and_intros;refine⟨.tup [.str z,.int q],mZ _ _,_,rfl,?_⟩;and_intros;subst kz;rw[show ps.map aJ++[Dt.tup [.str z,.int q]]=(ps++[((z,(q:Int)):Nd)]).map aJ by rw[E_];rfl,show (q:Int)+2=((q+2:Nat):Int) by omega];refine dy _ _ ⟨rfl,ps++[(z,(q:Int))],q+2,by simp [hp],aT.mpr ⟨ho,hm,by show (0:Int)<=q;omega,by show (q:Int)<=_;omega,XD⟩,by omega,by omega,?_,_,_,rfl⟩;rw[a5];show ((q+2:Nat):Int)-1<=min ((q:Int)+1) 12;omega
   ·rintro ρ B3 ⟨rfl,ps,rm,hp,ho,r1,r2,r3,r,o7,rfl⟩;rw[ai,i_] at hp;subst cE;refine sqo fun N3 cE=>?_
    and_intros;subst cE;refine sqo fun N3 cE=>?_
    exact⟨sz (by simp),hR (.af ps) ⟨ho,by omega⟩ XD⟩
 and_intros;refine⟨by decide,?_⟩;by_cases e2:c % 3=2
 ·refine bJ (c_ e2) ?_;refine sqo fun N3 cE=>?_
  and_intros;refine⟨.inl ⟨by omega,by omega⟩,?_⟩;subst cE;rw[←X8];exact main _ Tt (fun _=>rfl) (fun h=>absurd e2 h)
 ·refine bz (by rw[d_ e2];decide) (main k (by omega) (fun h=>absurd h e2) (fun _=>by omega))
end
section
variable {Γ:Gm}{M:Mem}{R:Dt->Mem->Prop}
noncomputable def Tv:Rw->Nat->Int
 | .row _,_=>0
 | .af ns,k=>(ns.getD k ("",0)).2
 | .table w _,k=>((k / w:Nat):Int)
noncomputable def Pp:Rw->Nat->Int
 | .row _,k=>k
 | .af _,k=>k
 | .table w _,k=>((k % w:Nat):Int)
noncomputable def pO (r:Rw) (k:Nat):Dt:=.tup [.str (r.names.getD k ""),.int (Tv r k),.int (Pp r k)]
noncomputable def bZ (r:Rw):List Dt:=(Xa r.names.length).map (pO r)
theorem ou {r:Rw}{i:Nat}:(Xa i).map (pO r)++[pO r i]=(Xa (i+1)).map (pO r):=by rw[aas,E_];rfl
theorem jO {w:Nat}:∀ {ls:List (List Str)},(∀ l∈ls,l.length=w)->ls.flatten.length=ls.length*w
 | [],_=>by simp
 | l::ls,h=>by rw[Yh,u_,h l (by simp),jO fun m hm=>h m (by simp [hm]),z_,ab0,ab1,Nat.add_comm]
def eu (p:bN):Prop:=∀ (r:Rw) M R,r.Ok->R (.lst (bZ r)) M->p [aU r] M R
theorem sB {r:Rw} (o:r.Ok) (hR:R (.lst (bZ r)) M):Fn Γ gB [.sh (aU r),.no,.no,.no,.no] M R:=by
 unfold gB;symm;refine⟨sz (by simp),?_⟩
 cases r with
 | row zs =>
  have KN:zs.length<=40:=o.2;left;refine gL rfl ?_;right;refine⟨_,rfl,?_⟩;and_intros;rw[a_];refine⟨⟨by omega,by omega⟩,?_⟩;refine aq (fun i ρ M'=>M'=M/\∃ o2,ρ=[.sh (aU (.row zs)),.ow (.lst ((Xa i).map (pO (.row zs)))),o2,.no,.no]) ⟨rfl,_,rfl⟩ ?_ ?_
  ·rintro i x ρ M' N' hx ⟨rfl,o2,rfl⟩ dy;obtain⟨hi,rfl⟩:=aB hx;rw[i_] at hi;rw[Xd];and_intros;refine sqo fun N3 cE=>?_
   and_intros;refine⟨_,rfl,?_⟩;refine⟨_,K18.cY (by omega) (by omega),sz (by simp),by rw[a_,H_];exact uP (by omega),?_⟩;subst cE;have e:Dt.tup [.str (atS zs i),.int 0,.int i]=pO (.row zs) i:=rfl;rw[e,ou];exact dy _ _ ⟨rfl,_,rfl⟩
  ·rintro ρ M' ⟨rfl,o2,rfl⟩;rw[ai,i_];subst hN2;show N _ _;left;refine er 0 (by decide +kernel) rfl ?_;left;refine er 0 (by decide +kernel) rfl ?_;left;left;exact hR
 | af ns =>
  have KN:ns.length<=40:=o.2;left;refine er 1 (by decide +kernel) rfl ?_;left;refine gL rfl ?_;right;refine⟨_,rfl,?_⟩;and_intros;rw[a_];refine⟨⟨by omega,by omega⟩,?_⟩;refine aq (fun i ρ M'=>M'=M/\∃ o2,ρ=[.sh (aU (.af ns)),.ow (.lst ((Xa i).map (pO (.af ns)))),o2,.no,.no]) ⟨rfl,_,rfl⟩ ?_ ?_
  ·rintro i x ρ M' N' hx ⟨rfl,o2,rfl⟩ dy;obtain⟨hi,rfl⟩:=aB hx;rw[i_] at hi;rw[Xd];obtain⟨n,hn⟩:∃ n,ns[i]? = some n:=⟨_,b_ hi⟩;have wI:∀ {k:Dt->Prop},k (aJ n)->jB (.lst (ns.map aJ)) i k:=fun h=>⟨aJ n,aP (by rw[f_,hn];rfl),h⟩
   and_intros;refine sqo fun N3 cE=>?_
   and_intros;refine⟨_,rfl,wI (Es ⟨_,rfl,wI (wA ⟨sz (by simp),by rw[a_,H_];exact uP (by omega),?_⟩)⟩)⟩;subst cE
   have e:Dt.tup [.str n.1,.int n.2,.int i]=pO (.af ns) i:=by
    show _=Dt.tup [.str ((Rw.af ns).names.getD i ""),.int (ns.getD i ("",0)).2,.int i];rw[getD_some hn,getD_some (show (Rw.af ns).names[i]? = some n.1 by show (ns.map _)[i]? = _;rw[f_,hn];rfl)]
   rw[e,ou];exact dy _ _ ⟨rfl,_,rfl⟩
  ·rintro ρ M' ⟨rfl,o2,rfl⟩;rw[ai,i_];subst hN2;show N _ _;left;refine er 1 (by decide +kernel) rfl ?_;left;subst hN;refine sqo fun N hN=>?_
   unfold bZ at hR;rw[show (Rw.af ns).names.length=ns.length from a_ _] at hR;exact hR
 | table w ls =>
  have o:aN w ls:=o;have o1:=o.len;have o2:=o.BM;left;refine er 2 (by decide +kernel) rfl ?_;left;refine er 2 (by decide +kernel) rfl ?_;left;refine gL rfl ?_;right;refine⟨_,rfl,?_⟩;and_intros;rw[a_];refine⟨⟨by omega,by omega⟩,?_⟩;refine aq (fun i ρ M'=>M'=M/\∃ o3 o4,ρ=[.sh (aU (.table w ls)),.ow (.lst ((Xa (i*w)).map (pO (.table w ls)))),.no,o3,o4]) ⟨rfl,_,_,by rw[Nat.zero_mul];rfl⟩ ?_ ?_
  ·rintro i x ρ M' N' hx ⟨rfl,o3,o4,rfl⟩ dy;obtain⟨hi,rfl⟩:=aB hx;rw[i_] at hi;rw[Xd];obtain⟨l,hl⟩:∃ l,ls[i]? = some l:=⟨_,b_ hi⟩;have hw:=o.mK l (q_ hl);and_intros;refine sqo fun N3 cE=>?_
   and_intros;refine⟨_,rfl,?_⟩;and_intros;refine⟨⟨by omega,by omega⟩,?_⟩;refine aq (fun j ρ B3=>B3=M'/\∃ o4,ρ=[.sh (aU (.table w ls)),.ow (.lst ((Xa (i*w+j)).map (pO (.table w ls)))),.no,.sh (.int i),o4]) ⟨rfl,_,rfl⟩ ?_ ?_
   ·rintro j x ρ B3 W4 t6 ⟨rfl,o4,rfl⟩ RU;obtain⟨hj,rfl⟩:=aB t6;rw[i_] at hj;rw[Xd];have hp:0<w:=by omega
    have W5:i*w<=12*12:=aaO (by omega) (by omega);and_intros;refine sqo fun N4 kz=>?_
    and_intros;refine⟨_,rfl,?_⟩;refine⟨a7 l,aP (by rw[f_,hl];rfl),?_⟩;refine⟨_,K18.cY (zs:=l) (by omega) (by omega),sz (by simp),by rw[a_,H_];exact uP (by omega),?_⟩;subst kz;have q1:(i*w+j) / w=i:=by rw[Nat.mul_comm,adn hp,abe hj,Z5]
    have q2:(i*w+j) % w=j:=by rw[ac6,abf hj]
    have e:Dt.tup [.str (atS l j),.int i,.int j]=pO (.table w ls) (i*w+j):=by
     have hg:l[j]? = some (l[j]'(by omega)):=b_ _;have hn:(Rw.table w ls).names[i*w+j]? = some (l[j]'(by omega)):=(fq hp o.mK).mpr ⟨l,by rw[q1];exact hl,by rw[q2];exact hg⟩;show _=Dt.tup [.str ((Rw.table w ls).names.getD (i*w+j) ""),.int (((i*w+j) / w:Nat):Int),.int (((i*w+j) % w:Nat):Int)];rw[getD_some hn,q1,q2,sd hg]
    rw[e,ou];exact RU _ _ ⟨rfl,_,rfl⟩
   ·rintro ρ B3 ⟨rfl,o4,rfl⟩;rw[ai,i_];subst cE;exact dy _ _ ⟨rfl,_,_,by rw[ab0,ab1]⟩
  ·rintro ρ M' ⟨rfl,o3,o4,rfl⟩;rw[ai,i_];subst hN2;show N _ _;left;subst hN;refine sqo fun N hN=>?_
   unfold bZ at hR;rw[show (Rw.table w ls).names.length=ls.length*w from jO o.mK] at hR;exact hR
end
section
variable {Γ:Gm}{M:Mem}{R:Dt->Mem->Prop}
theorem iB {r:Rw}{i:Nat}{k:Dt->Prop} (hi:i<r.names.length) (h:k (pO r i)):jB (.lst (bZ r)) i k:=⟨pO r i,aP (by unfold bZ;rw[f_,XO hi];rfl),h⟩
theorem uU {r:Rw}{i:Nat}{k:Dt->Prop} (h:k (.str (r.names.getD i ""))):jB (pO r i) 0 k:=⟨_,rfl,h⟩
theorem Ev {r:Rw}{i:Nat}{k:Dt->Prop} (h:k (.int (Tv r i))):jB (pO r i) 1 k:=⟨_,rfl,h⟩
theorem OC {r:Rw}{i:Nat}{k:Dt->Prop} (h:k (.int (Pp r i))):jB (pO r i) 2 k:=⟨_,rfl,h⟩
theorem Ew {x y:Int}{Q:Bool->Prop}:vv (.int x) (.int y) Q=Q (decide (x=y)):=rfl
theorem zo {w i j:Nat} (hw:0<w):(i % w=j % w/\i / w<j / w)↔(i<j/\i % w=j % w):=by
 have e1:=aau i w;have e2:=aau j w;constructor
 ·rintro⟨h1,h2⟩;have:=Nat.mul_lt_mul_of_pos_left h2 hw;exact⟨by omega,h1⟩
 ·rintro⟨h1,h2⟩;refine⟨h2,?_⟩;rcases XU (i / w) (j / w) with h | h
  ·exact h
  ·have:=Zy w h;omega
theorem OD {w:Nat}{ls:List (List Str)}{i:Nat} (o:aN w ls) (hi:i<(Rw.table w ls).names.length):0<w:=w_pos o.mK (b_ hi)
def gM (p:bN):Prop:=∀ (r:Rw) (i j:Nat) M R,r.Ok->i<r.names.length->j<r.names.length->(∀ c:Bool,(c=true↔i<j/\r.under i j)->R (.bl c) M)->p [aU r,.lst (bZ r),.int i,.int j] M R
theorem kf {r:Rw}{i j:Nat} (o:r.Ok) (hi:i<r.names.length) (hj:j<r.names.length) (hR:∀ c:Bool,(c=true↔i<j/\r.under i j)->R (.bl c) M):Fn Γ cw [.sh (aU r),.sh (.lst (bZ r)),.sh (.int i),.sh (.int j),.no] M R:=by
 unfold cw
 cases r with
 | table w ls =>
  have hw:=OD o hi;symm;refine gL rfl ?_;right;refine iB hi (OC (iB hj (OC ?_)));rw[Ew];by_cases e:Pp (.table w ls) i=Pp (.table w ls) j
  ·refine bJ (c_ e) (iB hi (Ev (iB hj (Ev (hR _ ?_)))));have e:((i % w:Nat):Int)=((j % w:Nat):Int):=e;rw[Xk];show ((i / w:Nat):Int)<((j / w:Nat):Int)↔i<j/\i % w=j % w;rw[←zo hw];omega
  ·refine bz (by rw[d_ e];decide) (hR _ ⟨fun z=>(nomatch z),fun⟨_,h⟩=>absurd ?_ e⟩);show ((i % w:Nat):Int)=((j % w:Nat):Int);have h:i % w=j % w:=h;omega
 | row zs =>
  symm;refine er 0 (by decide +kernel) rfl ?_;left;refine gL rfl ?_;refine sqo fun N2 hN2=>?_
  exact hR false ⟨fun z=>(nomatch z),fun⟨_,h⟩=>h.elim⟩
 | af ns =>
  have nl:(Rw.af ns).names.length=ns.length:=a_ _;have KN:ns.length<=40:=o.2;symm;refine er 1 (by decide +kernel) rfl ?_;left;refine B0 ?_;rw[show vv (.str (rws (BZ (.af ns)))) (.str "row")=fun Q=>Q false from by funext Q;show Q (decide _)=Q false;rw[d_ (by show ¬ rws 1=_;decide +kernel)]];and_intros;by_cases e:(j:Int)<=i
  ·refine bJ (c_ e) ?_;refine sqo fun N2 hN2=>?_
   exact hR false ⟨fun z=>(nomatch z),fun⟨h,_⟩=>by omega⟩
  refine bz (by rw[d_ e];decide) ?_;left;refine⟨⟨by omega,by omega⟩,⟨by omega,by omega⟩,?_⟩;refine iA (T:=R (.bl false) M) (fun ρ=>∃ o4,ρ=[.sh (aU (.af ns)),.sh (.lst (bZ (.af ns))),.sh (.int i),.sh (.int j),o4]) (fun k=>i+1+k<=j/\(ns.getD (i+1+k) ("",0)).2<=(ns.getD i ("",0)).2) ⟨_,rfl⟩ ?_ ?_ ?_
  ·rintro k x hx ρ N' ⟨o4,rfl⟩ hy hn;obtain⟨hk,rfl⟩:=aB hx;rw[show (i:Int)+1+(k:Int)=((i+1+k:Nat):Int) by omega];and_intros;right;refine iB (by omega) (Ev (iB hi (Ev ?_)));show if decide ((ns.getD (i+1+k) ("",0)).2<=(ns.getD i ("",0)).2)=true then _ else _
   by_cases e1:(ns.getD (i+1+k) ("",0)).2<=(ns.getD i ("",0)).2
   ·refine bJ (c_ e1) ?_;refine sqo fun N3 cE=>?_
    exact hy ⟨by omega,e1⟩
   ·refine bz (by rw[d_ e1];decide) ?_;subst hN2;exact hn (fun h=>e1 h.2) _ ⟨_,rfl⟩
  ·rintro⟨k,h1,h2⟩;refine hR false ⟨fun z=>(nomatch z),fun⟨_,h⟩=>?_⟩;have:=h (i+1+k) (by omega) h1;omega
  ·rintro kt ρ ⟨o4,rfl⟩;subst hN;refine sqo fun N hN=>?_
   refine hR true ⟨fun _=>⟨by omega,fun k h1 h2=>?_⟩,fun _=>rfl⟩;rcases Int.lt_or_le (ns.getD i ("",0)).2 (ns.getD k ("",0)).2 with h | h
   ·exact h
   ·refine absurd ⟨k-(i+1),?_,by omega,by rw[show i+1+(k-(i+1))=k by omega];exact h⟩ kt;rw[ai];omega
end
section
variable {Γ:Gm}{M:Mem}{R:Dt->Mem->Prop}
noncomputable def bW (zs:List Str) (a:Str):List Nat:=(Xa zs.length).filter fun k=>decide (zs.getD k "" = a)
theorem bA {zs:List Str}{a:Str}{k:Nat}:k∈bW zs a↔zs[k]? = some a:=by
 unfold bW;rw[Xr,Xi,Xk];constructor
 ·rintro⟨h1,h2⟩;have hg:=b_ h1;rw[getD_some hg] at h2;rw[hg,h2]
 ·intro h;exact⟨(j_.mp h).1,getD_some h⟩
theorem lK {zs:List Str}{a:Str}:(bW zs a).Pairwise (·<·):=List.Pairwise.sublist ZA abx
noncomputable def B4 (zs:List Str) (a:Str):Dt->l_ Dt:=OB fun i=>decide (zs.getD i.toNat "" = a)
noncomputable def dN (k:Nat):Dt:=.int k
theorem uV {zs:List Str}{a:Str}:(bv 0 zs.length).filterMap (B4 zs a)=(bW zs a).map dN:=by
 unfold bv bW;generalize Xa zs.length=l
 induction l with
 | nil=>rfl
 | cons k l ih =>
  rw[p_,Xb,ih,Xm]
  have e:B4 zs a (.int (0+(k:Int)))=if decide (zs.getD k "" = a)=true then some (.int (0+(k:Int))) else none:=by
   show (if decide (zs.getD (0+(k:Int)).toNat "" = a)=true then _ else _)=_;rw[Xd,i_]
  rw[e];by_cases h:decide (zs.getD k "" = a)=true
  ·rw[s_ h,s_ h,p_];show Dt.int (0+(k:Int))::_=dN k::_;rw[Xd];rfl
  ·rw[n_ h,n_ h]
theorem cP {r:Rw} (o:r.Ok):r.names.length<=144:=by
 cases r with
 | row zs=>have:=o.2;show zs.length<=144;omega
 | af ns=>have:=o.2;show (ns.map _).length<=144;rw[a_];omega
 | table w ls =>
  have o:aN w ls:=o;show ls.flatten.length<=144;rw[jO o.mK];exact aaO (n₁:=ls.length) (m₁:=w) (n₂:=12) (m₂:=12) o.len o.BM
noncomputable def ox:Flt->l_ (Str×Str)
 | .before a b=>some (a,b) | .under a b=>some (a,b) | _=>none
theorem OE {f:Flt}{a b:Str}{k:Dt->Prop} (e:ox f=some (a,b)) (h:k (.str a)):jB (ax f) 1 k:=by
 cases f<;>first | (cases e;done) | (cases e;unfold ax;exact⟨_,rfl,h⟩)
theorem OF {f:Flt}{a b:Str}{k:Dt->Prop} (e:ox f=some (a,b)) (h:k (.str b)):jB (ax f) 2 k:=by
 cases f<;>first | (cases e;done) | (cases e;unfold ax;exact⟨_,rfl,h⟩)
def oy (p:bN):Prop:=∀ (f:Flt) (a b:Str) (r:Rw) M R,ox f=some (a,b)->r.Ok->(∀ c:Bool,(c=true↔f.holds r)->R (.bl c) M)->p [ax f,aU r] M R
theorem lY (KO:eu (Γ.fn 23)) (RV:gM (Γ.fn 24)) {f:Flt}{a b:Str}{r:Rw} (e:ox f=some (a,b)) (o:r.Ok) (hR:∀ c:Bool,(c=true↔f.holds r)->R (.bl c) M):Fn Γ dj [.sh (ax f),.sh (aU r),.no,.no,.no,.no,.no] M R:=by
 unfold dj;have Kg:=cP o;have sl:(bZ r).length=r.names.length:=by unfold bZ;rw[a_,H_]
 symm;refine KO r _ _ o ?_;left;rw[sl]
 have test:∀ (m:Str) (x:Dt),x∈bv 0 r.names.length->∀ K:l_ Dt->Mem->Prop,K (B4 r.names m x) M->∃ i:Nat,x=.int i/\i<r.names.length/\(if decide (r.names.getD i "" = m)=true then K (some (.int i)) M else K none M):=fun m x hx K hK=>by
  obtain⟨i,V7⟩:=S_.mp hx;obtain⟨hi,rfl⟩:=aB V7;rw[Xd] at hK ⊢;refine⟨i,rfl,hi,?_⟩;have hK:K (if decide (r.names.getD ((i:Int)).toNat "" = m)=true then some (.int i) else none) M:=hK;rw[i_] at hK;by_cases h:decide (r.names.getD i "" = m)=true
  ·rw[s_ h] at hK ⊢;exact hK
  ·rw[n_ h] at hK ⊢;exact hK
 refine⟨⟨by omega,by omega⟩,by rw[ai];exact sz (by omega),?_⟩;rw[i_];refine aV (B4 r.names a) (fun x hx K hK=>?_) ?_
 ·obtain⟨i,rfl,hi,ht⟩:=test a x hx K hK;and_intros;exact iB hi (uU (OE e ht))
 rw[uV];left;rw[sl];refine⟨⟨by omega,by omega⟩,by rw[ai];exact sz (by omega),?_⟩;rw[i_];refine aV (B4 r.names b) (fun x hx K hK=>?_) ?_
 ·obtain⟨i,rfl,hi,ht⟩:=test b x hx K hK;and_intros;exact iB hi (uU (OF e ht))
 rw[uV];left
 cases f with
 | before a' b' =>
  cases e
  refine eZ rfl ?_;right;rw[a_,a_]
  have Tw:¬ (∃ i j:Nat,i∈bW r.names a/\j∈bW r.names b/\i<j)->R (.bl false) M:=fun h=>hR false ⟨fun z=>(nomatch z),fun q=>absurd (show ∃ i j:Nat,i∈bW r.names a/\j∈bW r.names b/\i<j by
   unfold Flt.holds at q;obtain⟨i,j,h1,h2,h3,_⟩:=q;exact⟨i,j,bA.mpr h2,bA.mpr h3,h1⟩) h⟩
  have sa:=lK (zs:=r.names) (a:=a);have sb:=lK (zs:=r.names) (a:=b)
  cases ea:bW r.names a with
  | nil =>
   refine bz (by simp) (Tw ?_);rintro⟨i,j,h1,_⟩;rw[ea] at h1;cases h1
  | cons i0 O =>
   refine bJ (by simp) ?_;rcases List.eq_nil_or_concat (bW r.names b) with eb | ⟨P,j1,eb⟩
   ·rw[eb];refine bz (by simp) (Tw ?_);rintro⟨i,j,_,h2,_⟩;rw[eb] at h2;cases h2
   ·rw[List.concat_eq_append] at eb;rw[eb];refine bJ (by simp) ?_;refine⟨dN i0,aP (j:=0) rfl,dN j1,by rw[E_];exact mZ _ _,?_⟩;refine hR _ ?_;rw[Xk];unfold Flt.holds;rw[ea] at sa;rw[eb] at sb;constructor
    ·intro h;exact⟨i0,j1,by omega,bA.mp (by rw[ea];simp),bA.mp (by rw[eb];simp),XD⟩
    ·rintro⟨i,j,h1,h2,h3,_⟩;have h2:=bA.mpr h2;have h3:=bA.mpr h3;rw[ea] at h2;rw[eb] at h3
     have q1:i0<=i:=by
      rcases w_.mp h2 with rfl | h
      ·exact t_ _
      ·exact XT ((YA.mp sa).1 i h)
     have q2:j<=j1:=by
      rcases N_.mp h3 with h | h
      ·exact XT ((ab4.mp sb).2.2 j h j1 (by simp))
      ·rw[x_.mp h];exact t_ _
     omega
 | under a' b' =>
  cases e
  refine bg 3 (by decide +kernel) rfl ?_;left;refine gJ (T:=R (.bl true) M) (fun ρ=>∃ o5 o6,ρ=[.sh (ax (.under a b)),.sh (aU r),.sh (.lst (bZ r)),.sh (.lst ((bW r.names a).map dN)),.sh (.lst ((bW r.names b).map dN)),o5,o6]) (fun x=>∃ i j:Nat,x=dN i/\j∈bW r.names b/\i<j/\r.under i j) ⟨_,_,rfl⟩ ?_ ?_ ?_
  ·rintro x hx ρ N' ⟨o5,o6,rfl⟩ hy hn;obtain⟨i,hi,rfl⟩:=m_.mp hx;have QB:=(j_.mp (bA.mp hi)).1;and_intros;right;refine gJ (T:=R (.bl true) M) (fun ρ=>∃ o6,ρ=[.sh (ax (.under a b)),.sh (aU r),.sh (.lst (bZ r)),.sh (.lst ((bW r.names a).map dN)),.sh (.lst ((bW r.names b).map dN)),.sh (dN i),o6]) (fun x=>∃ j:Nat,x=dN j/\j∈bW r.names b/\i<j/\r.under i j) ⟨_,rfl⟩ ?_ ?_ ?_
   ·rintro x hx ρ N3 ⟨o6,rfl⟩ V8 EO;obtain⟨j,hj,rfl⟩:=m_.mp hx;have V9:=(j_.mp (bA.mp hj)).1
    have go:¬ (i<j/\r.under i j)->N3 ([.sh (ax (.under a b)),.sh (aU r),.sh (.lst (bZ r)),.sh (.lst ((bW r.names a).map dN)),.sh (.lst ((bW r.names b).map dN)),.sh (dN i),.sh (dN j)]) M:=fun h=>by
     refine EO ?_ _ ⟨_,rfl⟩;rintro⟨j',e',_,h1,h2⟩;have:j=j':=by injection e' with e';omega
     subst this;exact h ⟨h1,h2⟩
    unfold dN at go ⊢;and_intros;refine sqo fun N4 kz=>?_
    and_intros
    have cont:¬ (i<j/\r.under i j)->N4 ([.sh (ax (.under a b)),.sh (aU r),.sh (.lst (bZ r)),.sh (.lst ((bW r.names a).map dN)),.sh (.lst ((bW r.names b).map dN)),.sh (.int i),.sh (.int j)]) M:=fun h=>by
     subst kz;refine sqo fun N5 OG=>?_
     and_intros;refine bg 3 (by decide +kernel) rfl ?_;subst OG;exact go h
    refine eZ rfl ?_;by_cases h:(i:Int)=(j:Int)
    ·refine bz (by rw[c_ h];decide) ?_;exact cont fun z=>by omega
    ·refine bJ (by rw[d_ h];decide) ?_;refine RV r i j _ _ o QB V9 fun c hc=>?_
     cases c with
     | true =>
      and_intros;refine sqo fun N6 W6=>?_
      exact V8 ⟨j,rfl,hj,hc.mp rfl⟩
     | false =>
      and_intros;exact cont fun z=>nomatch (hc.mpr z)
   ·rintro⟨x,hx,j,rfl,h0,h1,h2⟩;exact hy ⟨i,j,rfl,h0,h1,h2⟩
   ·rintro kt ρ ⟨o6,rfl⟩;subst hN2;refine hn ?_ _ ⟨_,_,rfl⟩;rintro⟨i',j,e',h0,h1,h2⟩;have:i=i':=by injection e' with e';omega
    subst this;exact kt ⟨dN j,m_.mpr ⟨j,h0,rfl⟩,j,rfl,h0,h1,h2⟩
  ·rintro⟨x,hx,i,j,rfl,h0,h1,h2⟩;obtain⟨i',EW,e'⟩:=m_.mp hx;have:i'=i:=by injection e' with e';omega
   subst this;refine hR true ⟨fun _=>?_,fun _=>rfl⟩;unfold Flt.holds;exact⟨i',j,h1,bA.mp EW,bA.mp h0,h2⟩
  ·rintro kt ρ ⟨o5,o6,rfl⟩;subst hN;refine sqo fun N hN=>?_
   refine hR false ⟨fun z=>(nomatch z),fun q=>?_⟩;unfold Flt.holds at q;obtain⟨i,j,h1,h2,h3,h4⟩:=q;exact absurd ⟨dN i,m_.mpr ⟨i,bA.mpr h2,rfl⟩,i,j,rfl,bA.mpr h3,h1,h4⟩ kt
 | _=>cases e
end
section
variable {Γ:Gm}{M:Mem}{R:Dt->Mem->Prop}
def iC (n:Nat) (p:bN):Prop:=∀ (f:Flt) (r:Rw) M R,f.Ok->r.Ok->f.dep<=n->(∀ c:Bool,(c=true↔f.holds r)->R (.bl c) M)->p [ax f,aU r] M R
noncomputable def OH:Dt->Dt | .tup (d::_)=>d | _=>.az
theorem B5 {r:Rw}:(bZ r).map OH=r.names.map .str:=by
 unfold bZ;rw[C_];show (Xa r.names.length).map (fun k=>Dt.str (r.names.getD k ""))=_;rw[show (fun k=>Dt.str (r.names.getD k ""))=Dt.str ∘ fun k=>r.names.getD k "" from rfl,←C_,range_getD]
noncomputable def uW (m:Str):Dt->l_ Dt
 | .tup [.str z,x,y]=>if z=m then some (.tup [.str z,x,y]) else none
 | _=>none
theorem qM {m:Str}{r:Rw}:((bZ r).filterMap (uW m)).length=r.names.count m:=by
 have h:∀ l:List Nat,((l.map (pO r)).filterMap (uW m)).length=(l.map fun k=>r.names.getD k "").count m:=fun l=>by
  induction l with
  | nil=>rfl
  | cons k l ih =>
   rw[p_,Xb,p_,List.count_cons];have e:uW m (pO r k)=if r.names.getD k "" = m then some (pO r k) else none:=rfl
   rw[e];by_cases h:r.names.getD k "" = m
   ·rw[s_ h,z_,ih,s_ (by simpa using h)]
   ·rw[n_ h,ih,n_ (by simpa using h),Z5]
 have:=h (Xa r.names.length);rw[range_getD] at this;exact this
theorem gN {g:Dt->Mem->(Dt->Mem->Prop)->Prop}{P:Flt->Prop}{K:List Dt->Mem->Prop} (sg:Bool):∀ (fs:List Flt),(∀ f∈fs,∀ k:Dt->Mem->Prop,(∀ c:Bool,(c=true↔P f)->k (.bl c) M)->g (ax f) M k)->(∀ ds:List Dt,ds.length<=fs.length->(ds=[]↔¬ ∃ f∈fs,(sg=true↔P f))->K ds M) ->
  eh (fun x M K=>g x M fun d M2=>bF d fun c=>if (if sg=true then c else !c)=true then K (some x) M2 else K none M2) (fs.map ax) M K
 | [],_,h=>h [] (t_ _) (Iff.intro (fun _ q=>by obtain⟨_,q1,_⟩:=q;cases q1) fun _=>rfl)
 | f::fs,hg,h=>by
  refine hg f (by simp) _ fun c hc=>?_
  show if (if sg=true then c else !c)=true then _ else _
  by_cases e:(if sg=true then c else !c)=true
  ·refine bJ e ?_;refine gN sg fs (fun f' Kf=>hg f' (by simp [Kf])) fun ds hl hd=>h (ax f::ds) (by simp;omega) ⟨fun z=>(nomatch z),fun z=>absurd ⟨f,by simp,?_⟩ z⟩
   rw[←hc]
   cases sg<;>cases c<;>simp_all
  ·refine bz e ?_;refine gN sg fs (fun f' Kf=>hg f' (by simp [Kf])) fun ds hl hd=>h ds (by simp;omega) (hd.trans ?_)
   have kt:¬ (sg=true↔P f):=by
    rw[←hc]
    cases sg<;>cases c<;>simp_all
   constructor
   ·rintro z ⟨f',h1,h2⟩;rcases w_.mp h1 with rfl | h1
    ·exact kt h2
    ·exact z ⟨f',h1,h2⟩
   ·rintro z ⟨f',h1,h2⟩;exact z ⟨f',by simp [h1],h2⟩
theorem sC {n:Nat} (KO:eu (Γ.fn 23)) (Wa:oy (Γ.fn 26)) (KP:iC n (Γ.fn 27)) {f:Flt}{r:Rw} (of:f.Ok) (o:r.Ok) (hd:f.dep<=n+1) (hR:∀ c:Bool,(c=true↔f.holds r)->R (.bl c) M):Fn Γ cy [.sh (ax f),.sh (aU r)] M R:=by
 unfold cy;have Kg:=cP o;have sl:(bZ r).length=r.names.length:=by unfold bZ;rw[a_,H_]
 have pairs:∀ a b,ox f=some (a,b)->tag f≠0->tag f≠1->tag f<5->Fn Γ cy [.sh (ax f),.sh (aU r)] M R:=fun a b e t0 t1 t5=>by
  unfold cy
  have no:∀ (t:Nat) (w:Str) (A B:Prop),RQ t=w->tag f≠t->t<8->B->jB (ax f) 0 fun x=>vv x (.str w) fun c=>if c=true then A else B:=fun t w A B ew ht t8 hB=>by
   refine bg (tag f) ?_ rfl hB;rw[←ew];have Wb:=t5;revert t0 t1 ht;generalize tag f=u at Wb;intro t0 t1 ht;have hu:u=2∨u=3∨u=4:=by omega
   have QC:t=0∨t=1∨t=2∨t=3∨t=4∨t=5∨t=6∨t=7:=by omega
   rcases hu with rfl | rfl | rfl<;>rcases QC with rfl | rfl | rfl | rfl | rfl | rfl | rfl | rfl<;>first | exact absurd rfl ht | decide +kernel
  symm;refine no 0 _ _ _ rfl t0 (by omega) ?_;left;refine no 1 _ _ _ rfl t1 (by omega) ?_;left;refine no 5 _ _ _ rfl (by omega) (by omega) ?_;left;refine no 6 _ _ _ rfl (by omega) (by omega) ?_;left;refine no 7 _ _ _ rfl (by omega) (by omega) ?_;left;exact Wa f a b r _ _ e o hR
 cases f with
 | before a b=>exact pairs a b rfl (by simp [tag]) (by simp [tag]) (by simp [tag])
 | under a b=>exact pairs a b rfl (by simp [tag]) (by simp [tag]) (by simp [tag])
 | has m =>
  symm;refine eZ rfl ?_;refine sqo fun N2 hN2=>?_
  unfold ax;and_intros;refine⟨_,rfl,KO r _ _ o ?_⟩;and_intros;refine⟨by rw[sl];exact sz (by omega),comp_map OH (fun x hx K hK=>?_) ?_⟩
  ·obtain⟨k,hk,rfl⟩:=m_.mp hx;exact uU hK
  ·rw[B5];refine j6 (hR _ ?_);rw[Xk];unfold Flt.holds;exact acA.symm
 | many k m =>
  symm;refine bg 1 (by decide +kernel) rfl ?_;left;refine eZ rfl ?_;refine sqo fun N2 hN2=>?_
  unfold ax;and_intros;refine KO r _ _ o ?_;and_intros;refine⟨by rw[sl];exact sz (by omega),aV (uW m) (fun x hx K hK=>?_) ?_⟩
  ·obtain⟨k',hk,rfl⟩:=m_.mp hx;refine uU ⟨_,rfl,?_⟩;have hK:K (if r.names.getD k' "" = m then some (pO r k') else none) M:=hK;show if decide (r.names.getD k' "" = m)=true then _ else _
   by_cases h:r.names.getD k' "" = m
   ·rw[s_ h] at hK;exact bJ (c_ h) hK
   ·rw[n_ h] at hK;exact bz (by rw[d_ h];decide) hK
  ·and_intros;rw[qM];refine⟨_,rfl,hR _ ?_⟩;rw[Xk];unfold Flt.holds;exact Iff.rfl
 | all fs =>
  symm;refine bg 6 (by decide +kernel) rfl ?_;left;refine bg 6 (by decide +kernel) rfl ?_;left;refine bg 6 (by decide +kernel) rfl ?_;left;refine eZ rfl ?_;refine sqo fun N2 hN2=>?_
  unfold ax;rw[cM];and_intros;refine⟨_,rfl,?_⟩;and_intros;refine⟨by rw[a_];exact sz (by have:=of.1;omega),?_⟩;refine gN (P:=fun f=>f.holds r) (g:=fun x M k=>Γ.fn 27 [x,aU r] M k) false fs (fun f hf k hk=>KP f r _ _ (dz.mp of.2 f hf) o (by have:=dA f hf;unfold Flt.dep at hd;omega) hk) fun ds hl he=>?_
  and_intros;refine hR _ ?_;rw[Xk];unfold Flt.holds;rw[dY,show ((ds.length:Int)=0↔ds=[]) from by rw[←abj];omega,he];constructor
  ·intro h f hf;exact YJ fun q=>h ⟨f,hf,⟨fun z=>(nomatch z),fun z=>absurd z q⟩⟩
  ·rintro h ⟨f,hf,q⟩;exact nomatch (q.mpr (h f hf))
 | any fs =>
  symm;refine bg 7 (by decide +kernel) rfl ?_;left;refine bg 7 (by decide +kernel) rfl ?_;left;refine bg 7 (by decide +kernel) rfl ?_;left;refine bg 7 (by decide +kernel) rfl ?_;left;refine eZ rfl ?_;refine sqo fun N2 hN2=>?_
  unfold ax;rw[cM];and_intros;refine⟨_,rfl,?_⟩;and_intros;refine⟨by rw[a_];exact sz (by have:=of.1;omega),?_⟩;refine gN (P:=fun f=>f.holds r) (g:=fun x M k=>Γ.fn 27 [x,aU r] M k) true fs (fun f hf k hk=>KP f r _ _ (dz.mp of.2 f hf) o (by have:=dA f hf;unfold Flt.dep at hd;omega) hk) fun ds hl he=>?_
  and_intros;refine hR _ ?_;rw[Xk];unfold Flt.holds;rw[dZ,show ((0:Int)<(ds.length:Int)↔¬ ds=[]) from by rw[←abj];omega,he];constructor
  ·intro h;obtain⟨f,hf,q⟩:=Classical.not_not.mp h;exact⟨f,hf,q.mp rfl⟩
  ·rintro⟨f,hf,q⟩ h;exact h ⟨f,hf,⟨fun _=>q,fun _=>rfl⟩⟩
end
section
variable {Γ:Gm}{M:Mem}{R:Dt->Mem->Prop}
def xZ (p:bN) (ds:List Dt) (n:Nat):Prop:=∀ M R,(∀ f:Flt,f.Ok->f.dep<=n->R (ax f) M)->p ds M R
theorem fB {w:Str}{d:Dt}{f:Flt}{Q:Dt->Prop} (e:ax f=.tup [.str w,d]) (h:Q (ax f)):([Dt.str w,d]:List Dt).length<=sizeLine/\Q (.tup [.str w,d]):=⟨sz (by simp),by rw[←e];exact h⟩
theorem fC {w:Str}{d d':Dt}{f:Flt}{Q:Dt->Prop} (e:ax f=.tup [.str w,d,d']) (h:Q (ax f)):([Dt.str w,d,d']:List Dt).length<=sizeLine/\Q (.tup [.str w,d,d']):=⟨sz (by simp),by rw[←e];exact h⟩
def uX (p:bN):Prop:=∀ (c:Int) (zs:List Str),fA zs->xZ p [.int c,.lst (zs.map .str),.bl true] 2
theorem pP {c:Int}{zs:List Str} (hz:fA zs) (hR:∀ f:Flt,f.Ok->f.dep<=2->R (ax f) M):Fn Γ eW [.sh (.int c),.sh (.lst (zs.map .str)),.sh (.bl true),.no,.no,.no] M R:=by
 unfold eW;obtain⟨z4,Po,hz⟩:=hz
 have pick:∀ q:Int,∃ m:Str,aC m=true/\mz (zs.map Dt.str) (q % ((zs.length:Nat):Int))=some (.str m):=fun q=>by
  obtain⟨n,e,hn⟩:=aQ q (show (0:Int)<(zs.length:Nat) by omega);rw[e];exact⟨atS zs n,hz _ (getD_mem (by omega)),K18.cY (by omega) (by omega)⟩
 symm;rw[a_];obtain⟨a,ha,ea⟩:=pick (c / 16);refine⟨⟨by decide,by decide⟩,by omega,_,ea,?_⟩;left;rw[a_];obtain⟨b,hb,eb⟩:=pick (c / 64);refine⟨⟨by decide,by decide⟩,by omega,_,eb,?_⟩;left;refine⟨by decide,?_⟩;generalize c % 8=w;left
 have FC:N [.sh (.int c),.sh (.lst (zs.map .str)),.sh (.bl true),.sh (.str a),.sh (.str b),.sh (.int w)] M:=by
  rw[hN];refine sqo fun N hN=>?_
  have uY:N [.sh (.int c),.sh (.lst (zs.map .str)),.sh (.bl true),.sh (.str a),.sh (.str b),.sh (.int w)] M:=by
   rw[hN];symm;refine⟨by decide,?_⟩;by_cases e0:w % 4=0
   ·refine bJ (c_ e0) ?_;refine sqo fun N2 hN2=>?_
    exact fB (f:=.has a) (Q:=fun d=>R d M) (by unfold ax;rfl) (hR _ (by unfold Flt.Ok;exact ha) (by unfold Flt.dep;omega))
   refine bz (by rw[d_ e0];decide) ?_;left;refine⟨by decide,?_⟩;by_cases e1:w % 4=1
   ·refine bJ (c_ e1) ?_;right;refine⟨⟨by decide,by decide⟩,by decide,?_⟩;exact fC (f:=.many (1+c / 8 % 6) a) (Q:=fun d=>R d M) (by unfold ax;rfl) (hR _ (by unfold Flt.Ok;exact ha) (by unfold Flt.dep;omega))
   refine bz (by rw[d_ e1];decide) ?_;left;refine⟨by decide,?_⟩;by_cases e2:w % 4=2
   ·refine bJ (c_ e2) ?_;refine sqo fun N2 hN2=>?_
    exact fC (f:=.before a b) (Q:=fun d=>R d M) (by unfold ax;rfl) (hR _ (by unfold Flt.Ok;exact⟨ha,hb⟩) (by unfold Flt.dep;omega))
   refine bz (by rw[d_ e2];decide) ?_;subst hN;refine sqo fun N hN=>?_
   exact fC (f:=.under a b) (Q:=fun d=>R d M) (by unfold ax;rfl) (hR _ (by unfold Flt.Ok;exact⟨ha,hb⟩) (by unfold Flt.dep;omega))
  and_intros;by_cases e7:w=7
  ·refine bJ (c_ e7) ?_;exact uY
  ·refine bz (by rw[d_ e7];decide) uY
 by_cases e6:w=6
 ·refine bJ (c_ e6) ?_;exact FC
 ·refine bz (by rw[d_ e6];decide) FC
end
section
variable {Γ:Gm}{M:Mem}{R:Dt->Mem->Prop}
noncomputable def OI:List Str:=["whole","fault","most","answers","questions"]
noncomputable def dr (r:Rw) (f:Flt) (a b:Addr):Dt:=.obj 4 OI [bm r,bI f,.int 10000,.jz a,.jz b]
theorem CM (g:GB Γ) {f:Str} (h:Tn 4 f=true):Γ.at_ 4 f=true:=by rw[g.at_];exact h
theorem Tx (g:GB Γ) {r:Rw}{f:Flt}{a b:Addr}{k:Dt->Prop} (h:k (bm r)):d5 Γ "whole" (dr r f a b) k:=⟨CM g (by decide +kernel),_,xU,h⟩
theorem Wc (g:GB Γ) {r:Rw}{f:Flt}{a b:Addr}{k:Dt->Prop} (h:k (bI f)):d5 Γ "fault" (dr r f a b) k:=⟨CM g (by decide +kernel),_,(ww (by decide +kernel)).trans xU,h⟩
theorem Wd (g:GB Γ) {r:Rw}{f:Flt}{a b:Addr}{k:Dt->Prop} (h:k (.int 10000)):d5 Γ "most" (dr r f a b) k:=⟨CM g (by decide +kernel),_,(ww (by decide +kernel)).trans ((ww (by decide +kernel)).trans xU),h⟩
theorem RW (g:GB Γ) {r:Rw}{f:Flt}{a b:Addr}{k:Dt->Prop} (h:k (.jz a)):d5 Γ "answers" (dr r f a b) k:=⟨CM g (by decide +kernel),_,(ww (by decide +kernel)).trans ((ww (by decide +kernel)).trans ((ww (by decide +kernel)).trans xU)),h⟩
theorem Tz (g:GB Γ) {r:Rw}{f:Flt}{a b:Addr}{k:Dt->Prop} (h:k (.jz b)):d5 Γ "questions" (dr r f a b) k:=⟨CM g (by decide +kernel),_,(ww (by decide +kernel)).trans ((ww (by decide +kernel)).trans ((ww (by decide +kernel)).trans ((ww (by decide +kernel)).trans xU))),h⟩
def x0 (p:Et):Prop:=∀ (r:Rw) (f:Flt) M k,(∀ a b:Addr,M a=none->M b=none->a≠b->k (dr r f a b) (cf (cf M a (.md [])) b (.ml [])))->p (.obj 4 [] []) [bm r,bI f,.int 10000] M k
theorem pQ {f g:Str}{d e:Dt}{fs:List Str}{ds:List Dt} (h:¬ g=f):putD f d (g::fs) (e::ds)=(g::(putD f d fs ds).1,e::(putD f d fs ds).2):=by
 show (if g=f then _ else _)=_;rw[n_ h]
theorem sD (g:GB Γ) {r:Rw}{f:Flt}{k:Dt->Mem->Prop} (h:∀ a b:Addr,M a=none->M b=none->a≠b->k (dr r f a b) (cf (cf M a (.md [])) b (.ml []))):In Γ gm [.ow (.obj 4 [] []),.sh (bm r),.sh (bI f),.sh (.int 10000)] M 4 k:=by
 unfold gm;symm;rw[putN];refine⟨CM g (by decide +kernel),by simp,?_⟩;left;rw[pQ (by decide +kernel),putN];refine⟨CM g (by decide +kernel),by simp,?_⟩;left;rw[pQ (by decide +kernel),pQ (by decide +kernel),putN];refine⟨CM g (by decide +kernel),by simp,?_⟩;left;intro a ha;rw[pQ (by decide +kernel),pQ (by decide +kernel),pQ (by decide +kernel),putN];refine⟨CM g (by decide +kernel),by simp,?_⟩;left;refine⟨sz (by simp),fun b hb=>?_⟩;rw[pQ (by decide +kernel),pQ (by decide +kernel),pQ (by decide +kernel),pQ (by decide +kernel),putN];refine⟨CM g (by decide +kernel),by simp,?_⟩;subst hN;have zI:a≠b:=fun z=>by subst z;unfold cf at hb;rw[s_ rfl] at hb;cases hb
 have GX:M b=none:=by unfold cf at hb;rw[n_ (YE zI)] at hb;exact hb
 exact⟨rfl,h a b ha GX zI⟩
def x3 (p:bN):Prop:=∀ (r:Rw) (f:Flt) (a b:Addr) (qs:List Dt) M R,M b=some (.ml qs)->R (.int qs.length) M->p [dr r f a b] M R
theorem pS (g:GB Γ) {r:Rw}{f:Flt}{a b:Addr}{qs:List Dt} (hb:M b=some (.ml qs)) (hR:R (.int qs.length) M):Fn Γ eR [.sh (dr r f a b)] M R:=by
 unfold eR;symm;refine Tz g ?_;show (match M b with | some (.ml xs)=>_ | some (.mo c fs xs)=>_ | _=>False);rw[hb];exact hR
def sE (p:bN):Prop:=∀ (r:Rw) (f:Flt) (a b:Addr) M R,R (bm r) M->p [dr r f a b] M R
theorem pU (g:GB Γ) {r:Rw}{f:Flt}{a b:Addr} (hR:R (bm r) M):Fn Γ eS [.sh (dr r f a b)] M R:=by
 unfold eS;symm;exact Tx g hR
noncomputable def fI (zs:List Str):P_:=.tuple (zs.map .str)
noncomputable def cB:Rw->P_
 | .row zs=>.tuple [.str "row",fI zs]
 | .af ns=>.tuple [.str "forest",.tuple (pi ns)]
 | .table w ls=>.tuple [.str "table",.int w,.tuple (ls.map fI)]
theorem toPs_strs:∀ zs:List Str,toPs (zs.map Dt.str)=some (zs.map ZN)
 | []=>rfl
 | z::zs=>by
  rw[p_];unfold toPs;rw[toPs_strs zs];rfl
theorem toPs_nodes:∀ ns:List Nd,toPs (ns.map aJ)=some (pi ns)
 | []=>rfl
 | n::ns=>by
  rw[p_];unfold toPs;rw[toPs_nodes ns];rfl
theorem toPs_tups:∀ ls:List (List Str),toPs (ls.map d7)=some (ls.map fI)
 | []=>rfl
 | l::ls=>by
  rw[p_];unfold toPs;rw[toPs_tups ls]
  have e:toP (d7 l)=some (fI l):=by
   show (toPs (l.map Dt.str)).map YV=_;rw[toPs_strs];rfl
  rw[e];rfl
theorem toP_form (r:Rw):toP (nU r)=some (cB r):=by
 cases r with
 | row zs =>
  have e:toP (.fE (zs.map Dt.str))=some (fI zs):=by
   show (toPs (zs.map Dt.str)).map YV=_;rw[toPs_strs];rfl
  show (toPs [.str "row",.fE (zs.map Dt.str)]).map YV=_;unfold toPs toPs toPs;rw[e];rfl
 | af ns =>
  have e:toP (.tup (ns.map aJ))=some (.tuple (pi ns)):=by
   show (toPs (ns.map aJ)).map YV=_;rw[toPs_nodes];rfl
  show (toPs [.str "forest",.tup (ns.map aJ)]).map YV=_;unfold toPs toPs toPs;rw[e];rfl
 | table w ls =>
  have e:toP (.tup (ls.map d7))=some (.tuple (ls.map fI)):=by
   show (toPs (ls.map d7)).map YV=_;rw[toPs_tups];rfl
  show (toPs [.str "table",.int w,.tup (ls.map d7)]).map YV=_;unfold toPs toPs toPs toPs;rw[e];rfl
end
section
variable {Γ:Gm}{M:Mem}{R:Dt->Mem->Prop}
theorem oz:∀ {zs:List Str},(∀ z∈zs,aC z=true)->XA (zs.map ZN)=true
 | [],_=>by simp [XA]
 | z::zs,h=>by
  rw[p_];simp only[XA,Zq,G_];exact⟨m7 (h z (by simp)),oz fun y hy=>h y (by simp [hy])⟩
theorem oA:∀ zs:List Str,XJ (zs.map ZN)=0
 | []=>by simp [XJ]
 | z::zs=>by
  rw[p_];simp only[XJ,Z1,oA zs];rfl
theorem qN:∀ {ls:List (List Str)},(∀ l∈ls,∀ z∈l,aC z=true)->XA (ls.map fI)=true
 | [],_=>by simp [XA]
 | l::ls,h=>by
  rw[p_];unfold fI;simp only[XA,Zq,G_];exact⟨oz (h l (by simp)),qN fun y hy=>h y (by simp [hy])⟩
theorem qO:∀ ls:List (List Str),XJ (ls.map fI)<=1
 | []=>by simp [XJ]
 | l::ls=>by
  have:=qO ls;rw[p_];have e:(fI l).depth=1:=by unfold fI;simp only[Z1,oA]
  simp only[XJ,e];omega
theorem zp {r:Rw} (o:r.Ok):pk (cB r):=by
 cases r with
 | row zs =>
  refine⟨?_,?_⟩
  ·show ([ZN "row",fI zs]:List P_).all (kI 6)=true;simp only[Xx,abA,Y1,G_];refine⟨rfl,?_⟩;show (zs.map ZN).all (kI 5)=true;rw[Yt];exact V_.mpr fun _ _=>rfl
  ·unfold Xg cB fI;simp only[Zq,XA,Z1,XJ,oA,oz o.1,Y1];rw[G_];exact⟨by decide +kernel,by decide⟩
 | af ns =>
  have c:=jN fun n hn=>m7 (lx o.1 n hn).1
  have d:=ly ns;refine⟨?_,?_⟩
  ·show ([ZN "forest",.tuple (pi ns)]:List P_).all (kI 6)=true;simp only[Xx,abA,Y1,G_];refine⟨rfl,?_⟩;show (pi ns).all (kI 5)=true;unfold pi;rw[Yt];exact V_.mpr fun _ _=>rfl
  ·unfold Xg cB;simp only[Zq,XA,Z1,XJ,c,Y1];rw[G_];exact⟨by decide +kernel,c_ (by omega)⟩
 | table w ls =>
  have o:aN w ls:=o;have c:=qN o.Pl;have d:=qO ls;refine⟨?_,?_⟩
  ·show ([ZN "table",.int w,.tuple (ls.map fI)]:List P_).all (kI 6)=true;simp only[Xx,abA,Y1,G_];refine⟨rfl,rfl,?_⟩;show (ls.map fI).all (kI 5)=true;rw[Yt];refine V_.mpr fun l _=>?_
   show (l.map ZN).all (kI 4)=true;rw[Yt];exact V_.mpr fun _ _=>rfl
  ·unfold Xg cB;simp only[Zq,XA,Z1,XJ,c,Y1];rw[G_];exact⟨by decide +kernel,c_ (by omega)⟩
theorem uZ (r:Rw):∃ ps,cB r=.tuple ps:=by cases r<;>exact⟨_,rfl⟩
theorem map_inj {α β:Type}{f:α->β} (hf:∀ a b,f a=f b->a=b):∀ {xs ys:List α},xs.map f=ys.map f->xs=ys
 | [],[],_=>rfl
 | [],_::_,h=>by cases h
 | _::_,[],h=>by cases h
 | x::xs,y::ys,h=>by
  rw[p_,p_] at h;injection h with h1 h2
  rw[hf x y h1,map_inj hf h2]
theorem u3 {a b:List Str} (h:fI a=fI b):a=b:=by
 unfold fI at h;injection h with h
 exact map_inj (fun x y e=>by injection e) h
theorem qP {r s:Rw} (h:cB r=cB s):r=s:=by
 cases r with
 | row a =>
  cases s with
  | row b =>
   injection h with h;injection h with h1 h2;injection h2 with h2
   rw[u3 h2]
  | af b =>
   injection h with h;injection h with h1 h2;injection h1 with h1
   exact absurd h1 (by decide +kernel)
  | table w b =>
   injection h with h;injection h with h1 h2;injection h1 with h1
   exact absurd h1 (by decide +kernel)
 | af a =>
  cases s with
  | row b =>
   injection h with h;injection h with h1 h2;injection h1 with h1
   exact absurd h1 (by decide +kernel)
  | af b =>
   injection h with h;injection h with h1 h2;injection h2 with h2
   injection h2 with h2
   have:a=b:=map_inj (fun x y e=>by
    injection e with e;injection e with e1 e2;injection e1 with e1;injection e2 with e2;injection e2 with e2
    exact Prod.ext e1 e2) h2
   rw[this]
  | table w b =>
   injection h with h;injection h with h1 h2;injection h1 with h1
   exact absurd h1 (by decide +kernel)
 | table w a =>
  cases s with
  | row b =>
   injection h with h;injection h with h1 h2;injection h1 with h1
   exact absurd h1 (by decide +kernel)
  | af b =>
   injection h with h;injection h with h1 h2;injection h1 with h1
   exact absurd h1 (by decide +kernel)
  | table v b =>
   injection h with h;injection h with h1 h2;injection h2 with h2 h3;injection h2 with h2;injection h3 with h3;injection h3 with h3
   have:a=b:=map_inj (fun x y e=>u3 e) h3;rw[this,show w=v by omega]
end
section
variable {Γ:Gm}{M:Mem}{R:Dt->Mem->Prop}
noncomputable def pW (f:Flt) (rs:List Rw):List (P_×Dt):=rs.map fun r=>(cB r,.bl (bP (f.holds r)))
def fD (M:Mem) (f:Flt) (a b:Addr) (rs:List Rw):Prop:=a≠b/\M a=some (.md (pW f rs))/\∃ qs,M b=some (.ml qs)/\qs.length=rs.length
theorem iN {r:Rw}{f:Flt}{a b:Addr}{k:Nat->List Str->Prop}:fh M (dr r f a b) k=k 4 OI:=rfl
theorem oB {f:Flt}{r:Rw}:∀ {rs:List Rw},r∉rs->fR (pW f rs) (cB r)=none
 | [],_=>rfl
 | s::rs,h=>by
  show fR ((cB s,_)::pW f rs) (cB r)=none;rw[kP,n_ fun z=>h (by rw[qP z];simp),oB fun z=>h (by simp [z])]
theorem oE {f:Flt}{r:Rw}:∀ {rs:List Rw},r∈rs->fR (pW f rs) (cB r)=some (.bl (bP (f.holds r)))
 | [],h=>nomatch h
 | s::rs,h=>by
  show fR ((cB s,_)::pW f rs) (cB r)=_;rw[kP];by_cases e:cB s=cB r
  ·rw[s_ e,qP e]
  ·rw[n_ e];rcases w_.mp h with rfl | h
   ·exact absurd rfl e
   ·exact oE h
theorem oF {r:Rw} (o:r.Ok) {Q:P_->Prop} (h:Q (cB r)):y9 (nU r) Q:=by
 obtain⟨ps,e⟩:=uZ r;exact⟨ps,by rw[toP_form,e],by rw[←e];exact zp o,by rw[←e];exact h⟩
theorem B6 {a:Addr}{kvs:List (P_×Dt)}{k:Addr->List (P_×Dt)->Prop} (h:M a=some (.md kvs)) (q:k a kvs):HF M (.jz a) k:=by
 show (match M a with | some (.md kvs)=>k a kvs | _=>False);rw[h];exact q
theorem FD {a:Addr}{ds:List Dt}{k:Addr->List Dt->Prop} (h:M a=some (.ml ds)) (q:k a ds):HG M (.jz a) k:=by
 show (match M a with | some (.ml ds)=>k a ds | _=>False);rw[h];exact q
theorem iO {a:Addr}{o:MO}:cf M a o a=some o:=by unfold cf;rw[s_ rfl]
theorem kg {a b:Addr}{o:MO} (h:b≠a):cf M a o b=M b:=by unfold cf;rw[n_ h]
def FE (n:Nat) (p:bN):Prop:=∀ (r:Rw) (f:Flt) (a b:Addr) (ps:List Int) (r':Rw) (rs:List Rw) M R,fD M f a b rs->rs.length<=9000->r'∉rs->r'.Ok->f.Ok->f.dep<=n->(∀ M',fD M' f a b (rs++[r'])->(∀ x,x≠a->x≠b->M' x=M x)->R .az M')->p [dr r f a b,.lst (ps.map .int),bm r'] M R
theorem u4 (g:GB Γ) (h:Γ.hm=wE) {n:Nat} (p2:x3 (Γ.me 2)) (p5:mP n (Γ.me 5)) (RX:wy (Γ.me 11)) {r:Rw}{f:Flt}{a b:Addr}{ps:List Int}{r':Rw}{rs:List Rw} (st:fD M f a b rs) (h9:rs.length<=9000) (hn:r'∉rs) (o:r'.Ok) (of:f.Ok) (hd:f.dep<=n) (hR:∀ M',fD M' f a b (rs++[r'])->(∀ x,x≠a->x≠b->M' x=M x)->R .az M'):Fn Γ ie [.sh (dr r f a b),.sh (.lst (ps.map .int)),.sh (bm r'),.no] M R:=by
 unfold ie;obtain⟨zI,ha,qs,hb,hq⟩:=st;symm;rw[iN];refine⟨by rw[h];rfl,p2 _ _ _ _ qs _ _ hb (Wd g ?_)⟩;and_intros;refine bz (by rw[d_ (by omega)];decide) ?_;left;refine Wc g ?_;rw[su];refine⟨Ke h _,p5 f r' _ _ of o hd fun c hc=>?_⟩;left;refine RW g ?_;and_intros;rw[cN];refine⟨fv h (by omega) _,RX r' _ _ (oF o (B6 ha ⟨oB hn,?_,?_⟩))⟩
 ·unfold pW;rw[a_];exact uP (by omega)
 have e1:pW f rs++[(cB r',.bl c)]=pW f (rs++[r']):=by
  unfold pW;rw[E_,xY hc];rfl
 rw[e1];have GX:cf M a (.md (pW f (rs++[r']))) b=some (.ml qs):=by rw[kg (YE zI)];exact hb
 left;refine Tz g (FD GX ⟨sz (by simp),FD GX ⟨uP (by omega),?_⟩⟩);subst hN;refine hR _ ⟨zI,by rw[kg zI,iO],_,iO,by simp [hq]⟩ fun x h1 h2=>by rw[kg h2,kg h1]
def mR (n:Nat) (p:bN):Prop:=∀ (r:Rw) (f:Flt) (a b:Addr) (ps:List Int) (rs:List Rw) M R,fD M f a b rs->rs.length<=9000->r.Ok->placesOk 0 r.many ps->f.Ok->f.dep<=n->(∀ M',(r.left ps∈rs->M'=M)->(r.left ps∉rs->fD M' f a b (rs++[r.left ps]))->(∀ x,x≠a->x≠b->M' x=M x)->R (.bl (bP (f.holds (r.left ps)))) M')->p [dr r f a b,.lst (ps.map .int)] M R
theorem pX (g:GB Γ) (h:Γ.hm=wE) {n:Nat} (p1:FE n (Γ.me 1)) (J9:wC (Γ.me 10)) (RX:wy (Γ.me 11)) {r:Rw}{f:Flt}{a b:Addr}{ps:List Int}{rs:List Rw} (st:fD M f a b rs) (h9:rs.length<=9000) (o:r.Ok) (hp:placesOk 0 r.many ps) (of:f.Ok) (hd:f.dep<=n) (hR:∀ M',(r.left ps∈rs->M'=M)->(r.left ps∉rs->fD M' f a b (rs++[r.left ps]))->(∀ x,x≠a->x≠b->M' x=M x)->R (.bl (bP (f.holds (r.left ps)))) M'):Fn Γ eQ [.sh (dr r f a b),.sh (.lst (ps.map .int)),.no,.no] M R:=by
 unfold eQ;have ol:=bR o hp;symm;refine Tx g ?_;rw[cN];refine⟨fv h (by omega) _,J9 r ps _ _ o hp ?_⟩;left;rw[cN];refine⟨fv h (by omega) _,RX _ _ _ ?_⟩;left;refine RW g (oF ol (B6 st.2.1 ?_))
 have fin:∀ M' RY,fD M' f a b RY->r.left ps∈RY->(r.left ps∈rs->M'=M)->(r.left ps∉rs->fD M' f a b (rs++[r.left ps]))->(∀ x,x≠a->x≠b->M' x=M x)->N [.sh (dr r f a b),.sh (.lst (ps.map .int)),.sh (bm (r.left ps)),.sh (nU (r.left ps))] M':=fun M' RY kn hm h1 h2 h3=>by
  rw[hN];right;exact RW g (oF ol (B6 kn.2.1 ⟨_,oE hm,hR M' h1 h2 h3⟩))
 by_cases hm:r.left ps∈rs
 ·rw[oE hm];refine bz (by simp) (fin M rs st hm (fun _=>rfl) (fun z=>absurd hm z) fun _ _ _=>rfl)
 ·rw[oB hm];refine bJ (by simp) ?_;right;rw[iN];refine⟨by rw[h];rfl,p1 r f a b ps _ rs _ _ st h9 hm ol of hd fun M' kn hx=>?_⟩;subst hN2;exact fin M' _ kn (by simp) (fun z=>absurd z hm) (fun _=>kn) hx
end
section
variable {Γ:Gm}{M:Mem}{R:Dt->Mem->Prop}
def x4 (p:bN):Prop:=∀ (r:Rw) (c:Int),r.Ok->0<r.names.length->xZ p [aU r,.lst (bZ r),.int c] 1
theorem wJ {r:Rw} (o:r.Ok):∀ z∈r.names,aC z=true:=by
 cases r with
 | row zs=>exact o.1
 | af ns =>
  intro z hz;obtain⟨n,hn,rfl⟩:=m_.mp hz;exact (lx o.1 n hn).1
 | table w ls =>
  have o:aN w ls:=o;intro z hz;obtain⟨l,hl,hz⟩:=ac7.mp hz;exact o.Pl l hl z hz
theorem lg {r:Rw} (o:r.Ok) {i:Nat} (hi:i<r.names.length):aC (r.names.getD i "")=true:=wJ o _ (getD_mem hi)
theorem lh {g:Dt->Mem->(Dt->Mem->Prop)->Prop}{K:List Dt->Mem->Prop}:∀ (is:List Nat),(∀ i∈is,∀ k:Dt->Mem->Prop,(∀ c:Bool,k (.bl c) M)->g (.int i) M k)->(∀ js:List Nat,(∀ j∈js,j∈is)->K (js.map fun j:Nat=>.int j) M) ->
  eh (fun x M K=>g x M fun d M2=>bF d fun c=>if c=true then K (some x) M2 else K none M2) (is.map fun j:Nat=>Dt.int j) M K
 | [],_,h=>h [] (fun _ z=>nomatch z)
 | i::is,hg,h=>by
  refine hg i (by simp) _ fun c=>?_
  show if c=true then _ else _
  cases c with
  | true=>exact bJ rfl (lh is (fun j hj=>hg j (by simp [hj])) fun js RZ=>h (i::js) fun j hj=>by rcases w_.mp hj with rfl | hj;simp;simp [RZ j hj])
  | false=>exact bz (by decide) (lh is (fun j hj=>hg j (by simp [hj])) fun js RZ=>h js fun j hj=>by simp [RZ j hj])
theorem Ex {n:Nat}:bv 0 n=(Xa n).map fun j:Nat=>Dt.int j:=by
 unfold bv;refine W_ fun k _=>?_
 rw[Xd]
theorem sF (RV:gM (Γ.fn 24)) {r:Rw}{c:Int} (o:r.Ok) (hn:0<r.names.length) (hR:∀ f:Flt,f.Ok->f.dep<=1->R (ax f) M):Fn Γ gC [.sh (aU r),.sh (.lst (bZ r)),.sh (.int c),.no,.no,.no,.no] M R:=by
 unfold gC;have Kg:=cP o;have sl:(bZ r).length=r.names.length:=by unfold bZ;rw[a_,H_]
 obtain⟨i,ei,hi⟩:=aQ c (show (0:Int)<(r.names.length:Nat) by omega);have hi:i<r.names.length:=by omega
 have ma:=lg o hi;symm;rw[sl,ei];refine⟨by omega,?_⟩;left;refine iB hi (uU ?_);generalize ea:r.names.getD i "" = a at ma;left;refine⟨⟨by decide,by decide⟩,by decide,?_⟩;generalize c / 40 % 4=w;left;rw[sl];refine⟨⟨by omega,by omega⟩,by rw[ai];exact sz (by omega),?_⟩;rw[i_,Ex];refine lh (g:=fun x M k=>Γ.fn 24 [aU r,.lst (bZ r),.int i,x] M k) _ (fun j hj k hk=>RV r i j _ _ o hi (Xi.mp hj) fun c _=>hk c) fun lows OJ=>?_
 left
 have uY:∀ N0,N0=(fun ρ' M'=>ex Γ ((S.ite ((C.cmp rL.gt (C.v 5) (C.i 0)).and (C.cmp rL.lt (C.bin qB.add (C.v 3) (C.i 1)) (C.v 1).len).one) ((S.ret ((C.s "before").cons ((C.v 4).cons ((((C.v 1).ix (C.bin qB.add (C.bin qB.add (C.v 3) (C.i 1)) (C.bin qB.mod (C.bin qB.fdiv (C.v 2) (C.i 160)) (C.bin qB.sub (C.bin qB.sub (C.v 1).len (C.v 3)) (C.i 1))))).ix (C.i 0)).cons C.nil))).tup).seq S.skip) S.skip).seq ((S.ret ((C.s "has").cons ((C.v 4).cons C.nil)).tup).seq S.skip)) ρ' M' { nx:=fun _ M'=>R .az M',rt:=R })->N0 [.sh (aU r),.sh (.lst (bZ r)),.sh (.int c),.sh (.int i),.sh (.str a),.sh (.int w),.sh (.lst (lows.map fun j:Nat=>Dt.int j))] M:=fun N0 e0=>by
  rw[e0];refine sqo fun N hN=>?_
  have has:N [.sh (aU r),.sh (.lst (bZ r)),.sh (.int c),.sh (.int i),.sh (.str a),.sh (.int w),.sh (.lst (lows.map fun j:Nat=>Dt.int j))] M:=by
   rw[hN];refine sqo fun N2 hN2=>?_
   exact fB (f:=.has a) (Q:=fun d=>R d M) (by unfold ax;rfl) (hR _ (by unfold Flt.Ok;exact ma) (by unfold Flt.dep;omega))
  and_intros;by_cases w0:0<w
  ·refine bJ (c_ w0) ?_;rw[sl];by_cases li:(i:Int)+1<(r.names.length:Nat)
   ·refine bJ (c_ li) ?_;right;rw[sl];obtain⟨q,eq,hq⟩:=aQ (c / 160) (show (0:Int)<((r.names.length:Nat):Int)-(i:Int)-1 by omega);rw[eq,show (i:Int)+1+(q:Int)=((i+1+q:Nat):Int) by omega];refine⟨⟨by decide,by decide⟩,by omega,iB (by omega) (uU ?_)⟩;exact fC (f:=.before a (r.names.getD (i+1+q) "")) (Q:=fun d=>R d M) (by unfold ax;rfl) (hR _ (by unfold Flt.Ok;exact⟨ma,lg o (by omega)⟩) (by unfold Flt.dep;omega))
   ·exact bz (by rw[d_ li];decide) has
  ·exact bz (by rw[d_ w0];decide) has
 by_cases w1:w=1
 ·refine bJ (c_ w1) ?_;right;refine⟨⟨by decide,by decide⟩,by rw[sl];exact sz (by omega),aV (uW a) (fun x hx K hK=>?_) ?_⟩
  ·obtain⟨k',hk,rfl⟩:=m_.mp hx;refine uU ?_;have hK:K (if r.names.getD k' "" = a then some (pO r k') else none) M:=hK;rw[show vv (.str (r.names.getD k' "")) (.str a)=fun Q=>Q (decide (r.names.getD k' "" = a)) from rfl];by_cases h:r.names.getD k' "" = a
   ·rw[s_ h] at hK;exact bJ (c_ h) hK
   ·rw[n_ h] at hK;exact bz (by rw[d_ h];decide) hK
  ·rw[qM];have cp:0<r.names.count a:=acA.mpr (by rw[←ea];exact getD_mem hi);refine⟨by omega,?_⟩;exact fC (f:=.many (1+c / 160 % ((r.names.count a:Nat):Int)) a) (Q:=fun d=>R d M) (by unfold ax;rfl) (hR _ (by unfold Flt.Ok;exact ma) (by unfold Flt.dep;omega))
 refine bz (by rw[d_ w1];decide) ?_;left;by_cases w2:w=2
 ·refine bJ (c_ w2) ?_;rw[a_];by_cases l0:(0:Int)<(lows.length:Nat)
  ·refine bJ (c_ l0) ?_;right;rw[a_];obtain⟨q,eq,hq⟩:=aQ (c / 160) l0;rw[eq];have hl:=b_ (show q<lows.length by omega);have hj:=Xi.mp (OJ _ (q_ hl));refine⟨⟨by decide,by decide⟩,l0,.int ((lows[q]'(by omega):Nat):Int),aP (by rw[f_,hl];rfl),iB hj (uU ?_)⟩;exact fC (f:=.under a (r.names.getD (lows[q]'(by omega)) "")) (Q:=fun d=>R d M) (by unfold ax;rfl) (hR _ (by unfold Flt.Ok;exact⟨ma,lg o hj⟩) (by unfold Flt.dep;omega))
  ·exact bz (by rw[d_ l0];decide) (uY _ hN)
 ·exact bz (by rw[d_ w2];decide) (uY _ hN)
end
section
variable {Γ:Gm}{M:Mem}{R:Dt->Mem->Prop}
theorem oG {n:Nat}:∀ {fs:List Flt},(∀ f∈fs,f.dep<=n)->ss fs<=n
 | [],_=>Yb _
 | f::fs,h=>by
  unfold ss;have:=h f (by simp);have:=oG (fs:=fs) fun g hg=>h g (by simp [hg])
  omega
def wK (n m:Nat) (fs:List Flt):Prop:=fs.length<=m/\(∀ f∈fs,f.Ok)/\∀ f∈fs,f.dep<=n
theorem oH {n m:Nat}{fs:List Flt} (h:wK n m fs) (hm:m<=100):(Flt.all fs).Ok/\(Flt.all fs).dep<=n+1:=by
 unfold Flt.Ok Flt.dep;have:=oG h.2.2;exact⟨⟨by have:=h.1;omega,dz.mpr h.2.1⟩,by omega⟩
theorem sG {n m:Nat}{fs:List Flt} (h:wK n m fs) (hm:m<=100):(Flt.any fs).Ok/\(Flt.any fs).dep<=n+1:=by
 unfold Flt.Ok Flt.dep;have:=oG h.2.2;exact⟨⟨by have:=h.1;omega,dz.mpr h.2.1⟩,by omega⟩
theorem lL {fs:List Flt}:ax (.all fs)=.tup [.str "all",.lst (fs.map ax)]:=by unfold ax;rw[cM]
theorem x5 {fs:List Flt}:ax (.any fs)=.tup [.str "any",.lst (fs.map ax)]:=by unfold ax;rw[cM]
def iY (p:bN):Prop:=∀ (ns:List Int) (k:Nat) (zs:List Str),fA zs->xZ p [ky ns,.int k,.lst (zs.map .str),.bl true] 4
theorem jt (nZ:cO (Γ.fn 12)) (RT:BY (Γ.fn 17)) (TB:uX (Γ.fn 29)) {ns:List Int}{k:Nat}{zs:List Str} (hz:fA zs) (hR:∀ f:Flt,f.Ok->f.dep<=4->R (ax f) M):Fn Γ bY [.sh (ky ns),.sh (.int k),.sh (.lst (zs.map .str)),.sh (.bl true),.no,.no,.no,.no,.no,.no,.no] M R:=by
 unfold bY;symm;refine nZ _ _ _ _ (by omega) fun h=>?_
 left;refine⟨sz (by simp),?_⟩;left;refine nZ _ _ _ _ (by omega) fun c1=>RT _ _ _ fun rest=>?_
 obtain⟨t,et,ht⟩:=aQ h (show (0:Int)<3 by decide);left;rw[et];refine⟨by decide,⟨by omega,by omega⟩,?_⟩;refine aq (fun i ρ M'=>M'=M/\∃ fs:List Flt,fs.length=i/\(∀ f∈fs,f.Ok)/\(∀ f∈fs,f.dep<=3)/\∃ (rs:Int) (o7 o8 o9 Ey:Sl),ρ=[.sh (ky ns),.sh (.int k),.sh (.lst (zs.map .str)),.sh (.bl true),.sh (.int h),.ow (.lst (fs.map ax)),.sh (.int rs),o7,o8,o9,Ey]) ⟨rfl,[],rfl,fun _ z=>(nomatch z),fun _ z=>(nomatch z),_,_,_,_,_,rfl⟩ ?_ ?_
 ·rintro i x ρ M' N' hx ⟨rfl,fs,hl,aY,KQ,rs,o7,o8,o9,Ey,rfl⟩ dy;obtain⟨hi,rfl⟩:=aB hx;rw[Xd];have hi:i<4:=by omega
  and_intros;right;refine⟨.inl ⟨by decide,by decide⟩,nZ _ _ _ _ (by omega) fun ca=>?_⟩;subst hN2;right;refine⟨.inl ⟨by decide,by decide⟩,nZ _ _ _ _ (by omega) fun cb=>?_⟩;subst hN2;refine sqo fun N2 hN2=>?_
  have tail:∀ (ca cb rs:Int),N2 [.sh (ky ns),.sh (.int k),.sh (.lst (zs.map .str)),.sh (.bl true),.sh (.int h),.ow (.lst (fs.map ax)),.sh (.int rs),.sh (.int i),.sh (.int ca),.sh (.int cb),Ey] M':=fun ca cb rs=>by
   rw[hN2];refine sqo fun N3 cE=>?_
   and_intros;refine TB ca zs hz _ _ fun f1 k1 d1=>?_
   subst cE;refine sqo fun N3 cE=>?_
   have last:∀ f,f.Ok->f.dep<=3->N3 [.sh (ky ns),.sh (.int k),.sh (.lst (zs.map .str)),.sh (.bl true),.sh (.int h),.ow (.lst (fs.map ax)),.sh (.int rs),.sh (.int i),.sh (.int ca),.sh (.int cb),.sh (ax f)] M':=fun f fo fd=>by
    rw[cE];refine sqo fun N4 kz=>?_
    and_intros;refine⟨by rw[a_];exact uP (by omega),?_⟩;subst kz;rw[show fs.map ax++[ax f]=(fs++[f]).map ax by rw[E_];rfl];refine dy _ _ ⟨rfl,fs++[f],by simp [hl],fun x hx=>?_,fun x hx=>?_,_,_,_,_,_,rfl⟩
    ·rcases N_.mp hx with h | h
     ·exact aY x h
     ·rw[x_.mp h];exact fo
    ·rcases N_.mp hx with h | h
     ·exact KQ x h
     ·rw[x_.mp h];exact fd
   and_intros;refine⟨⟨by decide,by decide⟩,by decide,?_⟩;by_cases e:ca / 256 % 3=1
   ·refine bJ (c_ e) ?_;refine sqo fun N4 kz=>?_
    and_intros;refine TB cb zs hz _ _ fun f2 k2 d2=>⟨sz (by simp),sz (by simp),?_⟩
    subst kz;have ak:=sG (n:=2) (m:=2) (fs:=[f1,f2]) ⟨by simp,fun x hx=>by simp only[w_,X_,aaN] at hx;rcases hx with rfl | rfl;exact k1;exact k2,fun x hx=>by simp only[w_,X_,aaN] at hx;rcases hx with rfl | rfl;exact d1;exact d2⟩ (by omega);have:=last (.any [f1,f2]) ak.1 ak.2;rw[x5] at this;exact this
   ·exact bz (by rw[d_ e];decide) (last f1 k1 (by omega))
  and_intros;refine⟨⟨by decide,by decide⟩,by decide,?_⟩;by_cases e:h / 216 % 2=1
  ·refine bJ (c_ e) ?_;refine sqo fun N3 cE=>?_
   and_intros;refine⟨by decide,?_⟩;subst cE;refine sqo fun N3 cE=>?_
   and_intros;refine⟨⟨by decide,by decide⟩,by decide,?_⟩;subst cE;refine sqo fun N3 cE=>?_
   and_intros;refine⟨⟨by decide,by decide⟩,⟨by decide,by decide⟩,?_⟩;subst cE;exact tail _ _ _
  ·exact bz (by rw[d_ e];decide) (tail _ _ _)
 ·rintro ρ M' ⟨rfl,fs,hl,aY,KQ,rs,o7,o8,o9,Ey,rfl⟩;rw[ai] at hl;have Wf:1<=fs.length/\fs.length<=3:=by omega
  left;rw[a_];by_cases e:((fs.length:Nat):Int)=1
  ·refine bJ (c_ e) ?_;right;have hg:=b_ (show 0<fs.length by omega);have hm:=q_ hg;exact⟨ax (fs[0]'(by omega)),aP (j:=0) (by rw[f_,hg];rfl),hR _ (aY _ hm) (by have:=KQ _ hm;omega)⟩
  ·refine bz (by rw[d_ e];decide) ?_;left;left;obtain⟨v,hv,_,ev⟩:=jM (xs:=([.str "all",.str "all",.str "any"]:List Dt)) (i:=h / 3) (m:=3) (by decide) (by decide);refine⟨sz (by simp),⟨by decide,by decide⟩,by decide,v,ev,sz (by simp),?_⟩;have ok:wK 3 3 fs:=⟨Wf.2,aY,KQ⟩;simp only[w_,X_,aaN] at hv;rcases hv with rfl | rfl | rfl
   ·have ak:=oH ok (by omega);have:=hR (.all fs) ak.1 ak.2;rw[lL] at this;exact this
   ·have ak:=oH ok (by omega);have:=hR (.all fs) ak.1 ak.2;rw[lL] at this;exact this
   ·have ak:=sG ok (by omega);have:=hR (.any fs) ak.1 ak.2;rw[x5] at this;exact this
end
section
variable {Γ:Gm}{M:Mem}{R:Dt->Mem->Prop}
theorem sH {n:Nat}{f h:Flt} (f1:f.Ok) (f2:f.dep<=n) (h1:h.Ok) (h2:h.dep<=n):wK n 2 [f,h] :=
 ⟨by simp,fun x hx=>by simp only[w_,X_,aaN] at hx;rcases hx with rfl | rfl;exact f1;exact h1,fun x hx=>by simp only[w_,X_,aaN] at hx;rcases hx with rfl | rfl;exact f2;exact h2⟩
theorem lZ (nZ:cO (Γ.fn 12)) (KO:eu (Γ.fn 23)) (Wg:iY (Γ.fn 30)) (TC:x4 (Γ.fn 31)) {ns:List Int}{k:Nat}{zs:List Str}{r:Rw} (hz:fA zs) (o:r.Ok) (hR:∀ f:Flt,f.Ok->f.dep<=6->R (ax f) M):Fn Γ dk [.sh (ky ns),.sh (.int k),.sh (.lst (zs.map .str)),.sh (aU r),.sh (.bl true),.no,.no,.no,.no,.no,.no,.no] M R:=by
 unfold dk;have Kg:=cP o;have sl:(bZ r).length=r.names.length:=by unfold bZ;rw[a_,H_]
 symm;refine nZ _ _ _ _ (by omega) fun h=>?_
 left;refine Wg ns k zs hz _ _ fun f of fd=>?_
 left;refine KO r _ _ o ?_;left;refine⟨⟨by decide,by decide⟩,by decide,?_⟩;generalize h / 9 % 8=w;left;rw[sl];by_cases e0:((r.names.length:Nat):Int)=0
 ·refine bJ (c_ e0) ?_;refine sqo fun N2 hN2=>?_
  exact hR f of (by omega)
 have hn:0<r.names.length:=by omega
 refine bz (by rw[d_ e0];decide) ?_;by_cases e7:w=7
 ·refine bJ (c_ e7) ?_;refine sqo fun N2 hN2=>?_
  exact hR f of (by omega)
 refine bz (by rw[d_ e7];decide) ?_;left;refine⟨sz (by simp),?_⟩;obtain⟨t,et,ht⟩:=aQ (h / 72) (show (0:Int)<5 by decide);left;rw[et];refine⟨⟨by decide,by decide⟩,by decide,⟨by omega,by omega⟩,?_⟩;refine aq (fun i ρ M'=>M'=M/\∃ fs:List Flt,wK 1 i fs/\∃ Ey:Sl,ρ=[.sh (ky ns),.sh (.int k),.sh (.lst (zs.map .str)),.sh (aU r),.sh (.bl true),.sh (.int h),.sh (ax f),.sh (.lst (bZ r)),.sh (.int w),.ow (.lst (fs.map ax)),Ey,.no]) ⟨rfl,[],⟨by simp,fun _ z=>(nomatch z),fun _ z=>(nomatch z)⟩,_,rfl⟩ ?_ ?_
 ·rintro i x ρ M' N' hx ⟨rfl,fs,⟨hl,aY,KQ⟩,Ey,rfl⟩ dy;obtain⟨hi,rfl⟩:=aB hx;rw[Xd];have hi:i<7:=by omega
  and_intros;right;refine nZ _ _ _ _ (by omega) fun ca=>?_
  and_intros;refine⟨.inl ⟨by decide,by decide⟩,TC r _ o hn _ _ fun f' R0 Pk=>⟨by rw[a_];exact uP (by omega),?_⟩⟩;subst hN2;rw[show fs.map ax++[ax f']=(fs++[f']).map ax by rw[E_];rfl];refine dy _ _ ⟨rfl,fs++[f'],⟨by simp;omega,fun x hx=>?_,fun x hx=>?_⟩,_,rfl⟩
  ·rcases N_.mp hx with h | h
   ·exact aY x h
   ·rw[x_.mp h];exact R0
  ·rcases N_.mp hx with h | h
   ·exact KQ x h
   ·rw[x_.mp h];exact Pk
 ·rintro ρ M' ⟨rfl,fs,OL,Ey,rfl⟩;rw[ai] at OL;have OL:wK 1 10 fs:=⟨by have:=OL.1;omega,OL.2⟩;have ak:=oH OL (by omega);subst hN;refine sqo fun N hN=>?_
  have rest:N [.sh (ky ns),.sh (.int k),.sh (.lst (zs.map .str)),.sh (aU r),.sh (.bl true),.sh (.int h),.sh (ax f),.sh (.lst (bZ r)),.sh (.int w),.ow (.lst (fs.map ax)),Ey,.no] M':=by
   rw[hN];symm;by_cases e4:w<4
   ·refine bJ (c_ e4) ?_;right;subst hN2;refine sqo fun N2 hN2=>?_
    exact fB (f:=.all fs) (Q:=fun d=>R d M') lL (hR _ ak.1 (by have:=ak.2;omega))
   refine bz (by rw[d_ e4];decide) ?_;left;by_cases e5:w=4
   ·refine bJ (c_ e5) ?_;right;subst hN2;right;refine⟨sz (by simp),sz (by simp),?_⟩;have bk:=sG (sH (n:=4) of fd ak.1 (by have:=ak.2;omega)) (by omega);exact fB (f:=.any [f,.all fs]) (Q:=fun d=>R d M') (by rw[x5,p_,p_,X2,lL]) (hR _ bk.1 (by have:=bk.2;omega))
   refine bz (by rw[d_ e5];decide) ?_;left;by_cases e6:w=5
   ·refine bJ (c_ e6) ?_;right;subst hN2;right;refine⟨sz (by simp),sz (by simp),?_⟩;have bk:=oH (sH (n:=4) ak.1 (by have:=ak.2;omega) of fd) (by omega);exact fB (f:=.all [.all fs,f]) (Q:=fun d=>R d M') (by rw[lL,p_,p_,X2,lL]) (hR _ bk.1 (by have:=bk.2;omega))
   refine bz (by rw[d_ e6];decide) ?_;left;refine⟨⟨by decide,by decide⟩,by rw[ai];exact sz (by decide),?_⟩;refine fz (P:=fun d=>∃ f':Flt,d=ax f'/\f'.Ok/\f'.dep<=1) (fun x hx K hK=>?_) fun ds zn hP=>?_
   ·obtain⟨q,Wh⟩:=S_.mp hx;obtain⟨hq,rfl⟩:=aB Wh;rw[Xd];and_intros;refine nZ _ _ _ _ (by omega) fun ca=>?_
    and_intros;exact⟨.inl ⟨by decide,by decide⟩,TC r _ o hn _ _ fun f' R0 Pk=>hK _ ⟨f',rfl,R0,Pk⟩⟩
   ·obtain⟨gs,rfl,Wi⟩:∃ gs:List Flt,ds=gs.map ax/\wK 1 2 gs:=by
     rw[ai] at zn
     have:∀ {es:List Dt},(∀ d∈es,∃ f':Flt,d=ax f'/\f'.Ok/\f'.dep<=1)->∃ gs:List Flt,es=gs.map ax/\(∀ f'∈gs,f'.Ok)/\∀ f'∈gs,f'.dep<=1:=fun {es}=>by
      induction es with
      | nil=>exact fun _=>⟨[],rfl,fun _ z=>(nomatch z),fun _ z=>nomatch z⟩
      | cons d es ih =>
       intro hP;obtain⟨f',rfl,q1,q2⟩:=hP d (by simp);obtain⟨gs,rfl,q3,q4⟩:=ih fun e he=>hP e (by simp [he])
       refine⟨f'::gs,rfl,fun x hx=>?_,fun x hx=>?_⟩
       ·rcases w_.mp hx with rfl | hx;exact q1;exact q3 x hx
       ·rcases w_.mp hx with rfl | hx;exact q2;exact q4 x hx
     obtain⟨gs,rfl,q3,q4⟩:=this hP;rw[a_] at zn;exact⟨gs,rfl,by rw[zn];decide,q3,q4⟩
    have gk:=oH Wi (by omega);left;left;refine⟨sz (by simp),sz (by simp),sz (by simp),?_⟩;have bk:=sG (sH (n:=2) ak.1 ak.2 gk.1 gk.2) (by omega);exact fB (f:=.any [.all fs,.all gs]) (Q:=fun d=>R d M') (by rw[x5,p_,p_,X2,lL,lL]) (hR _ bk.1 (by have:=bk.2;omega))
  and_intros;exact rest
end
section
variable {Γ:Gm}{M:Mem}{R:Dt->Mem->Prop}
noncomputable def R1 (zs:List Str):Dt->Dt | .int q=>.str (atS zs q) | _=>.az
noncomputable def qQ (ls:List (List Str)):Dt->l_ Dt
 | .int q=>if q<(ls.length:Int) then some (a7 (ls.getD q.toNat [])) else none
 | _=>none
theorem qR {ls:List (List Str)}:∀ {ps:List Int},(ps.map Dt.int).filterMap (qQ ls)=(linesOf ls.length ps).map fun q=>a7 (ls.getD q.toNat [])
 | []=>rfl
 | q::ps=>by
  have ih:=qR (ls:=ls) (ps:=ps);unfold SH.linesOf at ih ⊢;rw[p_,Xb,Xm,ih];by_cases h:q<(ls.length:Int)
  ·rw[show qQ ls (.int q)=some (a7 (ls.getD q.toNat [])) from s_ h,s_ (by simpa using h)];rfl
  ·rw[show qQ ls (.int q)=none from n_ h,n_ (by simpa using h)]
noncomputable def markL (qs:List Int):Dt->Dt
 | .lst ds=>.lst (qs.map fun q=>ds.getD q.toNat .az)
 | _=>.az
theorem oI {qs:List Int}{l:List Str} (h:∀ j∈qs,0<=j/\j<(l.length:Int)):markL qs (a7 l)=a7 (qs.map (atS l)):=k8 (l:=l) h
theorem iD {r:Rw}{ps:List Int} (o:r.Ok) (hp:placesOk 0 r.many ps) (Wj:∀ ns,r≠.af ns) (hR:R (aU (r.left ps)) M):Fn Γ b4 [.sh (aU r),.sh (.lst (ps.map .int)),.no,.no,.no,.no,.no,.no,.no] M R:=by
 unfold b4
 cases r with
 | af ns=>exact absurd rfl (Wj ns)
 | row zs =>
  have pa:=ao hp;have pl:((ps.length:Nat):Int)<=(zs.length:Nat)-0:=places_len hp (by omega);have o2:=o.2;symm;refine gL rfl ?_;right;refine⟨by rw[a_];exact sz (by omega),comp_map (R1 zs) (fun x hx K hK=>?_) ⟨sz (by simp),?_⟩⟩
  ·obtain⟨q,hq,rfl⟩:=m_.mp hx;obtain⟨h0,h1⟩:=pa q hq;exact⟨_,rfl,_,K18.cY h0 h1,hK⟩
  ·rw[C_];show R (.tup [.str "row",.lst (ps.map fun q=>.str (atS zs q))]) M
   have e:aU ((Rw.row zs).left ps)=.tup [.str "row",.lst (ps.map fun q=>.str (atS zs q))]:=by
    show Dt.tup [.str "row",.lst ((ps.map (atS zs)).map .str)]=_;rw[C_];rfl
   rw[e] at hR;exact hR
 | table w ls =>
  have jy:placesOk 0 ((ls.length:Int)+(w:Int)) ps:=by have:=hp;rwa [show ((Rw.table w ls).many:Int)=(ls.length:Int)+(w:Int) from XV _ _] at this
  have pl:=places_len jy (by omega);have la:=hJ (n:=ls.length) jy;have ca:=i9 jy;have o:aN w ls:=o;have o1:=o.len;have o2:=o.BM;have l1:=d9 (n:=ls.length) jy;have l2:=fJ (n:=ls.length) jy;symm;refine er 2 (by decide +kernel) rfl ?_;left;refine gL rfl ?_;right;refine⟨by rw[a_];exact sz (by omega),aV (so ls.length) (fun x hx K hK=>?_) ?_⟩
  ·obtain⟨q,hq,rfl⟩:=m_.mp hx;refine⟨_,rfl,?_⟩;and_intros;rw[a_];by_cases h:(ls.length:Int)<=q
   ·refine bJ (c_ h) ⟨_,rfl,?_⟩;and_intros;rw[a_];rw[show so ls.length (.int q)=some (.int (q-ls.length)) from s_ h] at hK;exact hK
   ·refine bz (by rw[d_ h];decide) ?_;rw[show so ls.length (.int q)=none from n_ h] at hK;exact hK
  rw[n5];subst hN2;right;refine⟨by rw[a_];exact sz (by omega),aV (qQ ls) (fun x hx K hK=>?_) ?_⟩
  ·obtain⟨q,hq,rfl⟩:=m_.mp hx;have:=ao jy q hq;refine⟨_,rfl,?_⟩;and_intros;rw[a_];by_cases h:q<(ls.length:Int)
   ·refine bJ (c_ h) ⟨_,rfl,a7 (ls.getD q.toNat []),?_,?_⟩
    ·obtain⟨n,rfl⟩:=Xh this.1;rw[i_];refine aP ?_;rw[f_,b_ (show n<ls.length by omega),getD_some (b_ (show n<ls.length by omega))];rfl
    ·rw[show qQ ls (.int q)=some (a7 (ls.getD q.toNat [])) from s_ h] at hK;exact hK
   ·refine bz (by rw[d_ h];decide) ?_;rw[show qQ ls (.int q)=none from n_ h] at hK;exact hK
  rw[qR];subst hN2;right;refine⟨by rw[a_];exact sz (by omega),comp_map (markL (aM ls.length ps)) (fun x hx K hK=>?_) ⟨sz (by simp),?_⟩⟩
  ·obtain⟨q,hq,rfl⟩:=m_.mp hx;have:=la q hq;have hm:=getD_mem (xs:=ls) (i:=q.toNat) (a:=[]) (by omega);have hw:=o.mK _ hm;refine⟨by rw[a_];exact sz (by omega),comp_map (R1 (ls.getD q.toNat [])) (fun y hy K' Wk=>?_) ?_⟩
   ·obtain⟨j,hj,rfl⟩:=m_.mp hy;have:=ca j hj;exact⟨_,K18.cY (zs:=ls.getD q.toNat []) (by omega) (by omega),Wk⟩
   ·rw[oI fun j hj=>by have:=ca j hj;omega] at hK
    have e:((aM ls.length ps).map Dt.int).map (R1 (ls.getD q.toNat []))=((aM ls.length ps).map (atS (ls.getD q.toNat []))).map .str:=by
     rw[C_,C_];rfl
    rw[e];exact hK
  ·have e:((linesOf ls.length ps).map fun q=>a7 (ls.getD q.toNat [])).map (markL (aM ls.length ps))=(iw ls ps).map a7:=by
    unfold iw;rw[C_,C_];refine W_ fun q hq=>oI fun j hj=>?_
    have:=la q hq;have:=ca j hj;have hw:=o.mK _ (getD_mem (xs:=ls) (i:=q.toNat) (a:=[]) (by omega));omega
   rw[e,a_];exact hR
end
section
variable {Γ:Gm}{M:Mem}{R:Dt->Mem->Prop}
theorem x6 {ns:List Nd} (hd:aG 0 ns):∀ i,i<=ns.length->(∀ t j:Nat,(way (ns.take i))[t]? = some (j:Int)->(ns.getD j ("",0)).2=(t:Int))/\∀ j:Nat,(j:Int)∈way (ns.take i)↔j<i/\∀ x,j<x->x<i->(ns.getD j ("",0)).2<(ns.getD x ("",0)).2:=by
 intro i
 induction i with
 | zero =>
  intro _;rw[XS];exact⟨fun t j h=>(nomatch h),fun j=>⟨fun h=>(nomatch h),fun h=>absurd h.1 (Nat.not_lt_zero _)⟩⟩
 | succ i ih =>
  intro hi;obtain⟨LO,O6⟩:=ih (by omega);have hn:ns[i]? = some ns[i]:=b_ (by omega);have hf:=ud hd hn;have ge:ns.getD i ("",0)=ns[i]:=by rw[v_,hn];rfl
  rw[fK hn] at hf;rw[cT hn];refine⟨fun t j h=>?_,fun j=>?_⟩
  ·rw[List.getElem?_append] at h;by_cases ht:t<((way (ns.take i)).take ns[i].2.toNat).length
   ·rw[s_ ht,aaM] at h;split at h
    ·exact LO t j h
    ·exact nomatch h
   ·rw[n_ ht] at h
    have h0:t-((way (ns.take i)).take ns[i].2.toNat).length=0:=by
     rcases ZM (t-((way (ns.take i)).take ns[i].2.toNat).length) with h1 | h1
     ·exact h1
     ·rw[XE (by rw[R_];omega)] at h;exact nomatch h
    rw[h0] at h;have ej:(i:Int)=(j:Int):=by simpa using h
    have:j=i:=by omega
    subst this;rw[ge];omega
  ·rw[N_,x_];constructor
   ·rintro (h | h)
    ·obtain⟨t,ht,e⟩:=XG.mp h
     have e1:(way (ns.take i))[t]? = some (j:Int):=by
      rw[acV] at e;rw[Xc] at ht;rw[b_ (by omega),e]
     have d1:=LO t j e1;obtain⟨h1,h2⟩:=(O6 j).mp (XH h);refine⟨by omega,fun x hx W7=>?_⟩;rcases XU x i with Pm | Pm
     ·exact h2 x hx Pm
     ·have:x=i:=by omega
      subst this;rw[ge,d1];rw[Xc] at ht;omega
    ·have:j=i:=by omega
     subst this;exact⟨by omega,fun x h1 h2=>by omega⟩
   ·rintro⟨h1,h2⟩;rcases XU j i with hj | hj
    ·refine .inl ?_;have hm:=(O6 j).mpr ⟨hj,fun x a b=>h2 x a (by omega)⟩;obtain⟨t,ht,e⟩:=XG.mp hm;have e1:(way (ns.take i))[t]? = some (j:Int):=by rw[b_ ht,e]
     have d1:=LO t j e1;have d2:=h2 i hj (by omega);rw[ge,d1] at d2;refine XG.mpr ⟨t,by rw[Xc];omega,?_⟩;rw[acV];exact e
    ·refine .inr ?_;have:j=i:=by omega
     rw[this]
theorem sI {ns:List Nd} (hd:aG 0 ns) {k:Nat} (hk:k<ns.length) (j:Nat):(j:Int)∈ja ns k↔j<k/\∀ x,j<x->x<=k->(ns.getD j ("",0)).2<(ns.getD x ("",0)).2:=by
 have hn:ns[k]? = some ns[k]:=b_ hk;have h1:=(x6 hd (k+1) (by omega)).2 j;rw[cT hn,N_,x_,←fK hn] at h1;constructor
 ·intro h;have hj:=(((x6 hd k (XT hk)).2 j).mp (XH (by rw[fK hn] at h;exact h))).1;exact⟨hj,fun x a b=>(h1.mp (.inl h)).2 x a (by omega)⟩
 ·rintro⟨a,b⟩;rcases h1.mpr ⟨by omega,fun x c d=>b x c (by omega)⟩ with h | h
  ·exact h
  ·omega
theorem wL {ns:List Nd}:∀ i,i<=ns.length->(way (ns.take i)).Pairwise (·<·):=by
 intro i
 induction i with
 | zero=>intro _;rw[XS];exact ZX
 | succ i ih =>
  intro hi;rw[cT (b_ (by omega:i<ns.length)),ab4];refine⟨(ih (by omega)).sublist (aaX _ _),List.pairwise_singleton _ _,fun x hx y hy=>?_⟩;rw[x_.mp hy];exact (xo i (by omega) x (XH hx)).2
theorem wM {ns:List Nd}{k:Nat} (hk:k<ns.length):(ja ns k).Pairwise (·<·):=by
 rw[fK (b_ hk)];exact (wL k (by omega)).sublist (aaX _ _)
theorem u5 {P:Int->Bool}{j:Int}:∀ {l:List Int},l.Pairwise (·<·)->(l.filter fun q=>P q&&decide (j<=q)).length=(l.filter fun q=>P q&&decide (j+1<=q)).length+(if j∈l/\P j=true then 1 else 0)
 | [],_=>by simp
 | x::l,h=>by
  obtain⟨h1,h2⟩:=YA.mp h;have ih:=u5 (P:=P) (j:=j) h2;rw[Xm,Xm];rcases Int.lt_trichotomy x j with hx | hx | hx
  ·rw[n_ (by rw[d_ (by omega)];simp),n_ (by rw[d_ (by omega)];simp),ih];congr 1;by_cases e:j∈l/\P j=true
   ·rw[s_ e,s_ ⟨by simp [e.1],e.2⟩]
   ·rw[n_ e,n_ fun z=>e ⟨by rcases w_.mp z.1 with q | q;omega;exact q,z.2⟩]
  ·subst hx;have nm:x∉l:=fun z=>by have:=h1 x z;omega
   have f1:(P x&&decide (x<=x))=P x:=by simp
   have f2:(P x&&decide (x+1<=x))=false:=by rw[d_ (by omega)];simp
   have g1:(if x∈l/\P x=true then 1 else 0)=0:=n_ fun z=>nm z.1
   rw[g1] at ih;rw[f1,f2,n_ r_]
   cases e:P x with
   | true =>
    have g2:(if x∈x::l/\true=true then 1 else 0)=1:=s_ ⟨by simp,rfl⟩;rw[g2,s_ rfl,z_,ih]
   | false =>
    have g2:(if x∈x::l/\false=true then 1 else 0)=0:=n_ fun z=>nomatch z.2
    rw[g2,n_ r_,ih]
  ·have f1:(P x&&decide (j<=x))=P x:=by rw[c_ (by omega)];simp
   have f2:(P x&&decide (j+1<=x))=P x:=by rw[c_ (by omega)];simp
   have nm:j∉x::l:=fun z=>by rcases w_.mp z with q | q;omega;have:=h1 j q;omega
   have g1:(if j∈l/\P j=true then 1 else 0)=0:=n_ fun z=>nm (by simp [z.1])
   have g2:(if j∈x::l/\P j=true then 1 else 0)=0:=n_ fun z=>nm z.1
   rw[g1] at ih;rw[f1,f2,g2]
   cases e:P x with
   | true=>rw[s_ rfl,s_ rfl,z_,z_,ih]
   | false=>rw[n_ r_,n_ r_,ih]
theorem oJ {x:Int}{zs:List Int}{Q:Bool->Prop} (h:Q (decide (x∈zs))):y8 (.int x) (.lst (zs.map .int)) Q:=by
 refine .inl ⟨zs.map .int,rfl,rfl,by rw[Yt];exact V_.mpr fun _ _=>rfl,?_⟩;rw[aby]
 have e:(zs.any ((fun z=>CH z (.int x)) ∘ Dt.int))=decide (x∈zs):=by
  rw[X6,aaf,Xk];constructor
  ·rintro⟨z,h1,h2⟩;have h2:(z==x)=true:=h2;rw[←YY.mp h2];exact h1
  ·intro h1;exact⟨x,h1,show (x==x)=true from Y4 x⟩
 rw[e];exact h
theorem pY {ns:List Nd}{ps:List Int} (o:(Rw.af ns).Ok) (hp:placesOk 0 (Rw.af ns).many ps) (hR:R (aU ((Rw.af ns).left ps)) M):Fn Γ b4 [.sh (aU (.af ns)),.sh (.lst (ps.map .int)),.no,.no,.no,.no,.no,.no,.no] M R:=by
 unfold b4;have hp:placesOk 0 (ns.length:Nat) ps:=hp;have pa:=ao hp;have pl:=places_len hp (by omega);have KN:ns.length<=40:=o.2;symm;refine er 1 (by decide +kernel) rfl ?_;left;refine er 1 (by decide +kernel) rfl ?_;left;refine⟨sz (by simp),?_⟩;left;refine aq (fun i ρ M'=>M'=M/\∃ o5 o6 o7 o8,ρ=[.sh (aU (.af ns)),.sh (.lst (ps.map .int)),.no,.no,.ow (.lst (((ps.take i).map (cD ns ps)).map aJ)),o5,o6,o7,o8]) ⟨rfl,_,_,_,_,rfl⟩ ?_ ?_
 ·rintro i x ρ M' N' hx ⟨rfl,o5,o6,o7,o8,rfl⟩ dy;rw[f_] at hx;obtain⟨p,TD,rfl⟩:=k_.mp hx;have pm:=q_ TD;obtain⟨p0,p1⟩:=pa p pm;obtain⟨m,rfl⟩:=Xh p0;have hm:m<ns.length:=by omega
  have wI:∀ {q:Nat},q<ns.length->∀ {k:Dt->Prop},k (aJ (ns.getD q ("",0)))->jB (.lst (ns.map aJ)) q k:=fun {q} hq {k} h=>⟨_,aP (by rw[f_,b_ hq,getD_some (b_ hq)];rfl),h⟩
  and_intros;right;refine⟨_,rfl,wI hm (wA ?_)⟩;subst hN2;right;subst hN2;right;refine⟨by omega,by omega,?_⟩;rw[i_];have dep:∀ q,(ns.getD q ("",0)).2=(ns.getD q ("",0)).2:=fun _=>rfl
  refine aq (fun t ρ B3=>B3=M'/\t<=m/\∃ (D:Int) (o8:Sl),(∀ x,m-t<=x->x<=m->D<=(ns.getD x ("",0)).2)/\(∃ x,m-t<=x/\x<=m/\(ns.getD x ("",0)).2=D)/\ρ=[.sh (aU (.af ns)),.sh (.lst (ps.map .int)),.no,.no,.ow (.lst (((ps.take i).map (cD ns ps)).map aJ)),.sh (.int m),.sh (.int D),.sh (.int (((ja ns m).filter fun q=>decide (q∈ps)&&decide (((m-t:Nat):Int)<=q)).length:Nat)),o8]) ⟨rfl,Yb _,(ns.getD m ("",0)).2,o8,?_,⟨m,by omega,t_ _,rfl⟩,?_⟩ ?_ ?_
  ·intro x h1 h2;have:x=m:=by omega
   subst this;exact ada _
  ·have e:(ja ns m).filter (fun q=>decide (q∈ps)&&decide (((m-0:Nat):Int)<=q))=[]:=by
    rw[X3];intro q hq;have:=mC (XT hm) q hq;rw[d_ (show ¬ ((m-0:Nat):Int)<=q by omega)];simp
   rw[e];rfl
  ·rintro t x ρ B3 N3 t6 ⟨rfl,ht,D,o8,d1,⟨y,y1,y2,y3⟩,rfl⟩ cE;have Wl:t<m:=by have:=(j_.mp t6).1;rwa [aaw,ai] at this
   have ex:x=.int ((m-t-1:Nat):Int):=by
    rw[abM (by rw[ai];exact Wl),ai] at t6;obtain⟨_,e⟩:=aB t6;rw[e,Xd,show m-1-t=m-t-1 by omega]
   subst ex;generalize hj:m-t-1=j at *;have TF:j<ns.length:=by omega
   have OM:(j:Int)∈ja ns m↔(ns.getD j ("",0)).2<D:=by
    rw[sI o.1 hm];constructor
    ·rintro⟨_,q⟩;rw[←y3];exact q y (by omega) y2
    ·intro q;exact⟨by omega,fun x x1 x2=>by have:=d1 x (by omega) x2;omega⟩
   have st:=u5 (P:=fun q=>decide (q∈ps)) (j:=(j:Int)) (wM hm);rw[show (j:Int)+1=((m-t:Nat):Int) by omega] at st;and_intros;refine sqo fun N4 kz=>?_
   and_intros;refine⟨_,rfl,wI TF (wA ?_)⟩;and_intros;have e1:m-(t+1)=j:=by omega
   by_cases lt:(ns.getD j ("",0)).2<D
   ·refine bJ (c_ lt) ?_;refine sqo fun N5 OG=>?_
    and_intros;refine⟨_,rfl,wI TF (wA ?_)⟩;subst OG;refine sqo fun N5 OG=>?_
    and_intros;refine oJ ?_;and_intros;subst OG;subst kz;refine cE _ _ ⟨rfl,by omega,_,.sh (.int j),fun x x1 x2=>?_,⟨j,by omega,by omega,rfl⟩,?_⟩
    ·rcases XU j x with q | q
     ·have:=d1 x (by omega) x2;omega
     ·have:x=j:=by omega
      subst this;exact ada _
    ·rw[st];have q:=OM.mpr lt;by_cases hk:(j:Int)∈ps
     ·rw[s_ (c_ hk),s_ ⟨q,c_ hk⟩];rfl
     ·rw[n_ (by rw[d_ hk];decide),n_ fun z=>by rw[d_ hk] at z;exact nomatch z.2];simp
   ·refine bz (by rw[d_ lt];decide) ?_;subst kz;refine cE _ _ ⟨rfl,by omega,D,.sh (.int j),fun x x1 x2=>?_,⟨y,by omega,y2,y3⟩,?_⟩
    ·rcases XU j x with q | q
     ·exact d1 x (by omega) x2
     ·have:x=j:=by omega
      subst this;omega
    ·rw[st,n_ fun z=>lt (OM.mp z.1),Z5]
  ·rintro ρ B3 ⟨rfl,_,D,o8,_,_,rfl⟩;rw[aaw,ai];subst hN2;refine sqo fun N4 kz=>?_
   and_intros;refine⟨_,rfl,wI hm (Es ⟨sz (by simp),by rw[a_,a_,Xc];exact uP (by omega),?_⟩)⟩;subst kz
   have e2:(ja ns m).filter (fun q=>decide (q∈ps)&&decide (((m-m:Nat):Int)<=q))=kept ps (ja ns m):=by
    unfold kept;refine List.filter_congr fun q hq=>?_
    have:=mC (XT hm) q hq;rw[c_ (show ((m-m:Nat):Int)<=q by omega),Y1]
   rw[e2]
   have e3:((ps.take i).map (cD ns ps)).map aJ++[.tup [.str (ns.getD m ("",0)).1,.int ((kept ps (ja ns m)).length:Nat)]]=((ps.take (i+1)).map (cD ns ps)).map aJ:=by
    rw[dW TD,E_,E_];rfl
   rw[e3];exact dy _ _ ⟨rfl,_,_,_,_,rfl⟩
 ·rintro ρ M' ⟨rfl,o5,o6,o7,o8,rfl⟩;rw[a_,Yx];left;left;exact⟨sz (by simp),hR⟩
theorem u6 {r:Rw}{ps:List Int} (o:r.Ok) (hp:placesOk 0 r.many ps) (hR:R (aU (r.left ps)) M):Fn Γ b4 [.sh (aU r),.sh (.lst (ps.map .int)),.no,.no,.no,.no,.no,.no,.no] M R:=by
 cases r with
 | af ns=>exact pY o hp hR
 | row zs=>exact iD o hp (fun _ z=>nomatch z) hR
 | table w ls=>exact iD o hp (fun _ z=>nomatch z) hR
end
section
variable {Γ:Gm}{M:Mem}{R:Dt->Mem->Prop}
noncomputable def bB:List Str:=["halves","trees","ones","marks"]
noncomputable def bo (l:List Int):Dt:=.lst (l.map .int)
def gO (p:bN):Prop:=∀ (z:Str) M R,z∈bB->R .az M->p [.str z] M R
theorem kh {x:Str}{zs:List Str}:((zs.map Dt.str).any fun z=>CH z (.str x))=decide (x∈zs):=by
 rw[aby,X6,aaf,Xk];constructor
 ·rintro⟨z,hz,q⟩;have:z=x:=by simpa [CH,HE,yD] using q
  rw[←this];exact hz
 ·exact fun h=>⟨x,h,by simp [CH,HE,yD]⟩
theorem sJ (g:GB Γ) {z:Str} (hz:z∈bB) (hR:R .az M):Fn Γ gi [.sh (.str z)] M R:=by
 unfold gi;symm;rw[g.cs];refine .inl ⟨bB.map .str,rfl,rfl,by rw[Yt];exact V_.mpr fun _ _=>rfl,?_⟩;rw[kh,c_ hz];refine bz (by decide) ?_;subst hN;exact hR
theorem sK:∀ {zs:List Str},zs.Nodup->bf zs=zs:=by
 intro zs;suffices ∀ (zs acc:List Str),(acc++zs).Nodup->zs.foldl hV acc=acc++zs from fun h=>this zs [] (by simpa using h)
 intro zs
 induction zs with
 | nil=>intro acc _;simp
 | cons z zs ih =>
  intro acc h
  have nm:z∉acc:=fun q=>by
   rw[ZY] at h;exact (h.2.2 z q z (by simp)) rfl
  have e:hV acc z=acc++[z]:=by unfold hV;rw[n_ (by simpa using nm)]
  rw[Zi,e,ih _ (by simpa using h)];simp
def iZ (p:bN):Prop:=∀ (zs:List Str) M R,zs≠[]->zs.Nodup->zs.length<64->(∀ z∈zs,z∈bB)->R .az M->p [.lst (zs.map .str)] M R
theorem pZ (R3:gO (Γ.fn 42)) {zs:List Str} (h0:zs≠[]) (hn:zs.Nodup) (hl:zs.length<64) (hz:∀ z∈zs,z∈bB) (hR:R .az M):Fn Γ eP [.sh (.lst (zs.map .str)),.no] M R:=by
 unfold eP;have e0:(zs.map Dt.str).isEmpty=false:=by cases zs with | nil=>exact absurd rfl h0 | cons _ _=>rfl
 symm;rw[e0];left;refine aq (fun i ρ M'=>M'=M/\∃ o,ρ=[.sh (.lst (zs.map .str)),o]) ⟨rfl,_,rfl⟩ ?_ ?_
 ·rintro i x ρ M' N' hx ⟨rfl,o,rfl⟩ dy;rw[f_] at hx;obtain⟨z,Wm,rfl⟩:=k_.mp hx;and_intros;right;refine R3 z _ _ (hz z (q_ Wm)) ?_;subst hN2;exact dy _ _ ⟨rfl,_,rfl⟩
 ·rintro ρ M' ⟨rfl,o,rfl⟩;left;refine⟨zs,rfl,hl,?_⟩;and_intros;rw[sK hn,a_];refine bz (by rw[d_ (by omega)];decide) ?_;subst hN;exact hR
def lM (p:bN):Prop:=∀ (ps:List Int) (s:Nat) M R,ps.length<=40->1<=s->s<=40->R (.lst ((b9 s ps).map bo)) M->p [bo ps,.int s] M R
theorem tV {xs:List Dt}{a s:Nat}:cutD xs (some (a:Int)) (some ((a:Int)+(s:Int)))=(xs.drop a).take s:=by
 rw[←XV];unfold cutD;rw[HT.iI,HT.iI];rcases abB a xs.length with h | h
 ·rw[X7 h];rcases abB (a+s) xs.length with h2 | h2
  ·rw[X7 h2,abi]
  ·rw[aai h2,Xv (by rw[XZ];exact t_ _),Xv (by rw[XZ];omega)]
 ·rw[aai h,Z2 h,Z2 (t_ _),List.take_nil,List.take_nil]
theorem u7 {ps:List Int}{s:Nat} (hl:ps.length<=40) (h1:1<=s) (h2:s<=40) (hR:R (.lst ((b9 s ps).map bo)) M):Fn Γ ib [.sh (bo ps),.sh (.int s)] M R:=by
 unfold ib bo;symm;rw[a_];refine⟨ps.length,s,rfl,⟨by omega,by omega,by omega,by omega⟩,fun n hn=>?_⟩
 have en:n=iT s ps.length:=by
  have this:∀ i:Nat,i<n↔i<iT s ps.length:=fun i=>(hn i).trans ((by rw[←X8,Int.ofNat_lt]:(i:Int)*(s:Int)<(ps.length:Int)↔i*s<ps.length).trans (jT h1).symm)
  rcases Nat.lt_trichotomy n (iT s ps.length) with h | h | h
  ·exact absurd ((this n).mpr h) (Xp _)
  ·exact h
  ·exact absurd ((this _).mp h) (Xp _)
 subst en;have hc:=rJ (n:=ps.length) h1;refine⟨by rw[a_,H_];exact sz (by omega),comp_map (fun d=>match d with | .int q=>bo ((ps.drop q.toNat).take s) | _=>.az) (fun x hx K hK=>?_) ?_⟩
 ·obtain⟨i,hi,rfl⟩:=m_.mp hx;and_intros;rw[show (i:Int)*(s:Int)=((i*s:Nat):Int) by rw[X8]] at hK ⊢;rw[tV,←aa3,←Y0];dsimp only at hK;rw[i_] at hK;exact hK
 ·unfold b9 at hR;rw[C_] at hR ⊢;refine (congrArg (fun l=>R (.lst l) M) (W_ fun i _=>?_)).mp hR;show bo _=bo _;rw[show (i:Int)*(s:Int)=((i*s:Nat):Int) by rw[X8],i_]
noncomputable def Pq (ps:List Int) (b:Bool):Dt->l_ Dt
 | .int q=>if (b ^^ decide (q∈ps))=true then some (.int q) else none
 | _=>none
theorem wN {ps:List Int}{b:Bool}{q:Int}:Pq ps b (.int q)=if (b ^^ decide (q∈ps))=true then some (.int q) else none:=rfl
theorem sL {ps:List Int}{b:Bool}:∀ qs:List Int,(qs.map Dt.int).filterMap (Pq ps b)=(qs.filter fun q=>b ^^ decide (q∈ps)).map Dt.int
 | []=>rfl
 | q::qs=>by
  rw[p_,Xb,sL qs,Xm,wN];by_cases e:(b ^^ decide (q∈ps))=true
  ·rw[s_ e,s_ e];rfl
  ·rw[n_ e,n_ e]
def qS (p:bN):Prop:=∀ (qs ps:List Int) M R,qs.length<=1000->R (bo (qs.filter fun q=>decide (q∈ps))) M->p [bo qs,bo ps] M R
theorem zq {qs ps:List Int} (hl:qs.length<=1000) (hR:R (bo (qs.filter fun q=>decide (q∈ps))) M):Fn Γ kY [.sh (bo qs),.sh (bo ps)] M R:=by
 unfold kY bo;symm;refine⟨by rw[a_];exact sz hl,aV (Pq ps false) (fun x hx K hK=>?_) ?_⟩
 ·obtain⟨q,hq,rfl⟩:=m_.mp hx;and_intros;refine oJ ?_;rw[wN,Zr] at hK;by_cases e:q∈ps
  ·rw[c_ e] at hK;exact bJ (c_ e) hK
  ·rw[d_ e] at hK;exact bz (by rw[d_ e];decide) hK
 ·rw[sL];simp only[Zr];exact hR
def lj (p:bN):Prop:=∀ (qs ps:List Int) M R,qs.length<=1000->R (bo (qs.filter fun q => !decide (q∈ps))) M->p [bo qs,bo ps] M R
theorem zt {qs ps:List Int} (hl:qs.length<=1000) (hR:R (bo (qs.filter fun q => !decide (q∈ps))) M):Fn Γ k5 [.sh (bo qs),.sh (bo ps)] M R:=by
 unfold k5 bo;symm;refine⟨by rw[a_];exact sz hl,aV (Pq ps true) (fun x hx K hK=>?_) ?_⟩
 ·obtain⟨q,hq,rfl⟩:=m_.mp hx;and_intros;refine oJ ?_;rw[wN,ZG] at hK;by_cases e:q∈ps
  ·rw[c_ e] at hK;exact bz (by rw[c_ e];decide) hK
  ·rw[d_ e] at hK;exact bJ (by rw[d_ e];decide) hK
 ·rw[sL];simp only[ZG];exact hR
def qT (p:bN):Prop:=∀ (ps:List Int) M R,ps.length<=1000->R (.lst ((ps.map fun p=>[p]).map bo)) M->p [bo ps] M R
theorem zu {ps:List Int} (hl:ps.length<=1000) (hR:R (.lst ((ps.map fun p=>[p]).map bo)) M):Fn Γ kZ [.sh (bo ps)] M R:=by
 unfold kZ bo;symm;refine⟨by rw[a_];exact sz hl,comp_map (fun d=>.lst [d]) (fun x hx K hK=>?_) ?_⟩
 ·exact⟨sz (by simp),hK⟩
 ·rw[C_] at hR ⊢;exact hR
end
section
variable {Γ:Gm}{M:Mem}{R:Dt->Mem->Prop}
theorem x8 {xs:List Dt}{x:Dt}:mz (xs++[x]) (-1)=some x:=by
 unfold mz CC;rw[n_ (by decide),s_ (by rw[u_,R_];omega),Option.bind_some];rw[show ((-1:Int)+((xs++[x]).length:Nat)).toNat=xs.length by rw[u_,R_];omega,Xj (t_ _),Nat.sub_self];rfl
def x9 (p:bN):Prop:=∀ (n:Nat) M R,n<=40->R (.lst ((dJ n).map dN)) M->p [.int n] M R
theorem sM {n:Nat} (hn:n<=40) (hR:R (.lst ((dJ n).map dN)) M):Fn Γ gj [.sh (.int n),.no] M R:=by
 unfold gj;symm;by_cases e:(n:Int)=0
 ·refine bJ (c_ e) ?_;refine sqo fun N2 hN2=>?_
  have:n=0:=by omega
  subst this;exact⟨sz (by simp),hR⟩
 refine bz (by rw[d_ e];decide) ?_;left;refine⟨sz (by simp),?_⟩;left;refine⟨fun m ρ M'=>M'=M/\∃ (B:List Nat) (k f:Nat),m=k/\1<=k/\k<=f/\B.length+k<=50/\dJ n=B++uk f k/\ρ=[.sh (.int n),.ow (.lst (B.map dN++[dN k]))],⟨n,rfl,[],n,n,rfl,by omega,t_ _,by simp;omega,rfl,rfl⟩,?_⟩;rintro m ρ M' ⟨rfl,B,k,f,rfl,h1,hf,hB,hs,rfl⟩;obtain⟨f',q1,q2⟩:=yX (f:=f) (n:=m) (by omega) hf;and_intros;refine⟨_,x8,?_⟩;show if decide ((1:Int)<(m:Int))=true then _ else _
 by_cases e1:1<m
 ·refine bJ (c_ (by omega)) ?_;right;refine⟨_,x8,?_⟩;show z8 _ _/\_;refine⟨⟨by decide,by decide⟩,by rw[u_,a_,R_];exact uP (by omega),?_⟩;subst hN2;rw[n_ (by omega:¬ m=1)] at q1 q2;have e2:((m:Int)+1) / 2=(((m+1) / 2:Nat):Int):=by omega
  refine⟨(m+1) / 2,by omega,rfl,B++[m],(m+1) / 2,f',rfl,by omega,q1,by rw[u_,R_];omega,by rw[hs,q2,YQ];rfl,?_⟩;rw[e2,E_];rfl
 ·refine bz (by rw[d_ (by omega)];decide) ?_;have e2:m=1:=by omega
  subst e2;rw[s_ rfl] at q2;left;left;rw[hs,q2,E_] at hR;exact hR
def lN (p:bN):Prop:=∀ (ps:List Int) M R,ps.length<=40->R (.lst ((fM ps).map bo)) M->p [bo ps] M R
theorem u8 (Wn:x9 (Γ.fn 44)) (Wo:lM (Γ.fn 45)) {ps:List Int} (hl:ps.length<=40) (hR:R (.lst ((fM ps).map bo)) M):Fn Γ ic [.sh (bo ps),.no,.no] M R:=by
 unfold ic;obtain⟨s7,sk⟩:=qA _ hl;symm;refine⟨sz (by simp),?_⟩;left;unfold bo;and_intros;rw[a_];refine Wn _ _ _ hl ?_;and_intros;refine aq (fun i ρ M'=>M'=M/\∃ o,ρ=[.sh (bo ps),.ow (.lst ((((dJ ps.length).take i).flatMap fun s=>b9 s ps).map bo)),o]) ⟨rfl,_,rfl⟩ ?_ ?_
 ·rintro i x ρ M' N' hx ⟨rfl,o,rfl⟩ dy;rw[f_] at hx;obtain⟨s,hs,rfl⟩:=k_.mp hx;have hm:=sk s (q_ hs);have hi:=(j_.mp hs).1;unfold dN;and_intros;right;refine Wo ps s _ _ hl hm.1 hm.2 ?_;and_intros;have fw:=um hl ((dJ ps.length).take i) fun s hs=>(sk s (XH hs)).1
  have cl:=rJ (n:=ps.length) hm.1;refine⟨by rw[a_,a_,hW];refine sz ?_;have:=List.length_take_le i (dJ ps.length);omega,?_⟩;subst hN2;rw[←E_];refine dy _ _ ⟨rfl,.sh (.int s),?_⟩;rw[adG,hs,List.flatMap_append,Option.toList_some,List.flatMap_singleton]
 ·rintro ρ M' ⟨rfl,o,rfl⟩;rw[a_,Yx];left;left;exact hR
noncomputable def zO (ps:List Int) (q:Int):Int:=ps.getD q.toNat 0
theorem B7 {ps:List Int}{q:Int} (h0:0<=q) (h1:q<ps.length):mz (ps.map Dt.int) q=some (.int (zO ps q)):=by
 obtain⟨n,rfl⟩:=Xh h0;refine aP ?_;unfold zO;have hn:n<ps.length:=by omega
 rw[f_,i_,v_,b_ hn];rfl
def gX (p:bN):Prop:=∀ (qs ps:List Int) M R,(∀ q∈qs,0<=q/\q<ps.length)->qs.length<=1000->R (bo (qs.map (zO ps))) M->p [bo qs,bo ps] M R
theorem l5 {qs ps:List Int} (hp:∀ q∈qs,0<=q/\q<ps.length) (hl:qs.length<=1000) (hR:R (bo (qs.map (zO ps))) M):Fn Γ de [.sh (bo qs),.sh (bo ps)] M R:=by
 unfold de bo;symm;refine⟨by rw[a_];exact sz hl,comp_map (fun d=>match d with | .int q=>.int (zO ps q) | _=>.az) (fun x hx K hK=>?_) ?_⟩
 ·obtain⟨q,hq,rfl⟩:=m_.mp hx;obtain⟨h0,h1⟩:=hp q hq;and_intros;exact⟨_,B7 h0 h1,hK⟩
 ·unfold bo at hR;rw[C_] at hR ⊢;exact hR
def gY (p:bN):Prop:=∀ (zs:List Str) M R,zs.length<=900->R (.lst ((bf zs).map .str)) M->p [.lst (zs.map .str)] M R
theorem l6 {zs:List Str} (hl:zs.length<=900) (hR:R (.lst ((bf zs).map .str)) M):Fn Γ dc [.sh (.lst (zs.map .str))] M R:=by
 unfold dc;symm;refine⟨by rw[a_];exact sz (by omega),comp_map (fun d=>.tup [d,.bl true]) (fun x hx K hK=>?_) ?_⟩
 ·exact⟨sz (by simp),hK⟩
 ·refine⟨zs,by rw[C_];rfl,hl,hR⟩
noncomputable def ya:Rw->Nat->List Int
 | .af ns,i=>iz i (bS ns i+1)
 | _,i=>[(i:Int)]
theorem Kh {i n:Nat}:(iz i n).map Dt.int=bv i n:=by
 unfold iz bv;rw[C_];refine W_ fun k _=>?_
 show Dt.int ((i+k:Nat):Int)=Dt.int ((i:Int)+(k:Int));rw[XV]
def B8 (p:bN):Prop:=∀ (r:Rw) (i:Nat) M R,r.Ok->i<r.many->R (bo (ya r i)) M->p [bm r,.int i] M R
theorem qa {d:Dt}{i:Nat} (hR:R (bo [(i:Int)]) M):Fn Γ eJ [.sh d,.sh (.int i)] M R:=by
 unfold eJ;symm;exact⟨sz (by simp),hR⟩
theorem l7 {d:Dt}{i:Nat} (hR:R (bo [(i:Int)]) M):Fn Γ db [.sh d,.sh (.int i)] M R:=by
 unfold db;symm;exact⟨sz (by simp),hR⟩
noncomputable def lm (ls:List (List Str)) (m:Str):List Int:=(ls.zipIdx.filter fun p=>decide (m∈p.1)).map fun p=>(p.2:Int)
noncomputable def ju:Rw->Str->List Int
 | .table _ ls,m=>lm ls m
 | r,m=>iX r.names m
def u9 (p:bN):Prop:=∀ (r:Rw) (m:Str) M R,r.Ok->R (bo (ju r m)) M->p [bm r,.str m] M R
noncomputable def B9 (f:Dt->Bool):Dt->l_ Dt
 | .tup [i,l]=>if f l=true then some i else none
 | _=>none
theorem vb {f:Dt->Bool}{i l:Dt}:B9 f (.tup [i,l])=if f l=true then some i else none:=rfl
noncomputable def Ez (m:Str):Dt->Bool
 | .tup ds=>ds.any fun z=>CH z (.str m)
 | _=>false
theorem lO {m:Str}:∀ (ls:List (List Str)) (k:Nat),(((ls.map d7).zipIdx k).map fun p=>Dt.tup [.int (p.2:Int),p.1]).filterMap (B9 (Ez m))=(((ls.zipIdx k).filter fun p=>decide (m∈p.1)).map fun p=>(p.2:Int)).map Dt.int
 | [],k=>rfl
 | l::ls,k=>by
  have e0:Ez m (d7 l)=decide (m∈l):=kh;rw[p_,aah,p_,Xb,lO ls (k+1),aah,Xm,vb,e0];by_cases e:m∈l
  ·rw[c_ e];rfl
  ·rw[d_ e];rfl
theorem lq (g:GB Γ) {w:Nat}{ls:List (List Str)}{m:Str} (hl:ls.length<=1000) (hR:R (bo (lm ls m)) M):Fn Γ cI [.sh (bm (.table w ls)),.sh (.str m)] M R:=by
 unfold cI bm;symm;refine Er g ?_;and_intros;refine⟨by rw[a_,YC,a_];exact sz hl,aV (B9 (Ez m)) (fun x hx K hK=>?_) ?_⟩
 ·obtain⟨⟨d,k⟩,hp,rfl⟩:=m_.mp hx;have hd:=(adl hp).2.2
  obtain⟨l,hz,rfl⟩:∃ l,l∈ls/\d=d7 l:=by
   have:=m_.mp (show d∈ls.map d7 by rw[hd];exact Yv _);obtain⟨z,h1,h2⟩:=this;exact⟨z,h1,h2.symm⟩
  and_intros;refine .inl ⟨l.map .str,rfl,rfl,by rw[Yt];exact V_.mpr fun _ _=>rfl,?_⟩;dsimp only at hK;rw[vb,show Ez m (d7 l)=decide (m∈l) from kh] at hK;rw[kh];by_cases e:m∈l
  ·rw[c_ e] at hK ⊢;exact hK
  ·rw[d_ e] at hK ⊢;exact hK
 ·rw[lO];exact hR
end
section
variable {Γ:Gm}{M:Mem}{R:Dt->Mem->Prop}
noncomputable def oK (r:Rw) (ps:List Int):List (List Int):=ps.map fun p=>(ya r p.toNat).filter fun q=>decide (q∈ps)
noncomputable def oM (r:Rw) (ps:List Int):List (List Int):=(bf (r.left ps).names).map fun m=>(ju (r.left ps) m).map (zO ps)
noncomputable def bG (r:Rw) (ps:List Int) (z:Str):List (List Int):=if z = "halves" then fM ps else if z = "trees" then oK r ps else if z = "ones" then ps.map fun p=>[p] else oM r ps
theorem ez {r:Rw} (o:r.Ok):r.many<=40:=by
 cases r with
 | row zs=>exact o.2
 | af ns=>exact o.2
 | table w ls=>have o:aN w ls:=o;show ls.length+w<=40;have:=o.len;have:=o.BM;omega
theorem Ca {r:Rw}{i:Nat} (o:r.Ok) (hi:i<r.many):(ya r i).length<=1000:=by
 cases r with
 | row zs=>show 1<=1000;decide
 | table w ls=>show 1<=1000;decide
 | af ns =>
  have:=mM ns i;have:=o.2;show (iz i (bS ns i+1)).length<=1000;unfold iz;rw[a_,H_];omega
def oN (p:bN):Prop:=∀ (r:Rw) (ps:List Int) M R,r.Ok->placesOk 0 r.many ps->R (.lst ((oK r ps).map bo)) M->p [bm r,bo ps] M R
theorem wO (h:Γ.hm=wE) (Kb:B8 (Γ.me 15)) (Wp:qS (Γ.fn 47)) {r:Rw}{ps:List Int} (o:r.Ok) (hp:placesOk 0 r.many ps) (hR:R (.lst ((oK r ps).map bo)) M):Fn Γ jm [.sh (bm r),.sh (bo ps)] M R:=by
 have pa:=ao hp;have pl:=places_len hp (by omega);have Ki:=ez o;unfold jm;rw[bo];symm;refine⟨by rw[a_];exact sz (by omega),comp_map (fun d=>match d with | .int q=>bo ((ya r q.toNat).filter fun q=>decide (q∈ps)) | _=>.az) (fun x hx K hK=>?_) ?_⟩
 ·obtain⟨q,hq,rfl⟩:=m_.mp hx;obtain⟨i,rfl⟩:=Xh (pa q hq).1;have hi:i<r.many:=by have:=(pa _ hq).2;omega
  dsimp only at hK;rw[i_] at hK;and_intros;rw[cN];exact⟨fv h (by omega) _,Kb r i _ _ o hi (Wp _ ps _ _ (Ca o hi) hK)⟩
 ·unfold oK at hR;rw[C_] at hR ⊢;exact hR
theorem vd {r:Rw}{ps:List Int}{m:Str} (o:r.Ok) (hp:placesOk 0 r.many ps):∀ q∈ju (r.left ps) m,0<=q/\q<ps.length:=fun q hq=>by
 cases r with
 | row zs =>
  obtain⟨i,rfl,h⟩:=cL.mp hq;have hi:=(j_.mp h).1;change i<(ps.map (atS zs)).length at hi;rw[a_] at hi;omega
 | af ns =>
  obtain⟨i,rfl,h⟩:=cL.mp hq;have hi:=(j_.mp h).1;change i<((b0 ns ps).map (·.1)).length at hi;rw[a_,show (b0 ns ps).length=ps.length from a_ _] at hi;omega
 | table w ls =>
  change q∈lm (iw ls ps) m at hq;unfold lm at hq;obtain⟨⟨l,i⟩,h,rfl⟩:=m_.mp hq;have h1:=Ym.mp (Xr.mp h).1;have hi:=(j_.mp h1).1;dsimp only at hi ⊢;rw[show (iw ls ps).length=(linesOf ls.length ps).length from a_ _] at hi;have:=tW (n:=ls.length) ps;omega
theorem wP {r:Rw}{m:Str}:(ju r m).length<=r.names.length+(match r with | .table _ ls=>ls.length | _=>0):=by
 cases r with
 | row zs=>exact qI
 | af ns=>exact qI
 | table w ls =>
  show (lm ls m).length<=_+ls.length;unfold lm;rw[a_];refine U_ (Zk _ _) ?_;rw[YC];omega
theorem zw {r:Rw}{m:Str} (o:r.Ok):(ju r m).length<=1000:=by
 have h:=wP (r:=r) (m:=m);have n:=cP o
 cases r with
 | row zs=>dsimp only at h;omega
 | af ns=>dsimp only at h;omega
 | table w ls=>have o:aN w ls:=o;have:=o.len;dsimp only at h;omega
theorem nq (acc:List Str) (z:Str):(hV acc z).length<=acc.length+1:=by
 unfold hV;split
 ·omega
 ·rw[u_];exact t_ _
theorem fL (zs:List Str):(bf zs).length<=zs.length:=by
 unfold bf;suffices ∀ acc:List Str,(zs.foldl hV acc).length<=acc.length+zs.length by simpa using this []
 induction zs with
 | nil=>intro acc;exact t_ _
 | cons z zs ih =>
  intro acc;have:=ih (hV acc z);have:=nq acc z;rw[Zi,z_];omega
def oO (p:bN):Prop:=∀ (r:Rw) (ps:List Int) M R,r.Ok->placesOk 0 r.many ps->R (.lst ((oM r ps).map bo)) M->p [bm r,bo ps] M R
theorem wQ (h:Γ.hm=wE) (p6:xV (Γ.me 6)) (J9:wC (Γ.me 10)) (nZ:u9 (Γ.me 12)) (Wq:gY (Γ.fn 50)) (Wr:gX (Γ.fn 51)) {r:Rw}{ps:List Int} (o:r.Ok) (hp:placesOk 0 r.many ps) (hR:R (.lst ((oM r ps).map bo)) M):Fn Γ jn [.sh (bm r),.sh (bo ps),.no] M R:=by
 have ol:=bR o hp;have nl:=cP ol;unfold jn;symm;rw[cN];refine⟨fv h (by omega) _,J9 r ps _ _ o hp ?_⟩;left;rw[cN];refine⟨fv h (by omega) _,p6 _ _ _ (Wq _ _ _ (by omega) ?_)⟩;and_intros;refine⟨by rw[a_];have:=fL (r.left ps).names;exact sz (by omega),comp_map (fun d=>match d with | .str m=>bo ((ju (r.left ps) m).map (zO ps)) | _=>.az) (fun x hx K hK=>?_) ?_⟩
 ·obtain⟨m,_,rfl⟩:=m_.mp hx;and_intros;rw[cN];exact⟨fv h (by omega) _,nZ _ m _ _ ol (Wr _ ps _ _ (vd o hp) (zw ol) hK)⟩
 ·unfold oM at hR;rw[C_] at hR ⊢;exact hR
def vf (p:bN):Prop:=∀ (z:Str) (r:Rw) (ps:List Int) M R,z∈bB->r.Ok->placesOk 0 r.many ps->R (.lst ((bG r ps z).map bo)) M->p [.str z,bm r,bo ps] M R
theorem Cb (h:Γ.hm=wE) (p7:bO (Γ.fn 7)) (p9:jr (Γ.me 9)) (R3:gO (Γ.fn 42)) (Ws:lN (Γ.fn 46)) (Wt:oN (Γ.fn 48)) (Wu:qT (Γ.fn 49)) (Wv:oO (Γ.fn 52)) {z:Str}{r:Rw}{ps:List Int} (hz:z∈bB) (o:r.Ok) (hp:placesOk 0 r.many ps) (hR:R (.lst ((bG r ps z).map bo)) M):Fn Γ nP [.sh (.str z),.sh (bm r),.sh (bo ps)] M R:=by
 have pl:=places_len hp (by omega);have Ki:=ez o;unfold nP;unfold bG at hR;symm;refine R3 z _ _ hz ?_;left;rw[cN];refine⟨fv h (by omega) _,p9 _ _ _ (p7 ps _ _ _ hp ?_)⟩;left;by_cases e1:z = "halves"
 ·refine bJ (c_ e1) ?_;refine sqo fun N2 hN2=>?_
  rw[s_ e1] at hR;exact Ws ps _ _ (by omega) hR
 refine bz (by rw[d_ e1];decide) ?_;rw[n_ e1] at hR;left;by_cases e2:z = "trees"
 ·refine bJ (c_ e2) ?_;refine sqo fun N2 hN2=>?_
  rw[s_ e2] at hR;exact Wt r ps _ _ o hp hR
 refine bz (by rw[d_ e2];decide) ?_;rw[n_ e2] at hR;left;by_cases e3:z = "ones"
 ·refine bJ (c_ e3) ?_;refine sqo fun N2 hN2=>?_
  rw[s_ e3] at hR;exact Wu ps _ _ (by omega) hR
 refine bz (by rw[d_ e3];decide) ?_;rw[n_ e3] at hR;left;exact Wv r ps _ _ o hp hR
end
section
variable {Γ:Gm}{M:Mem}{R:Dt->Mem->Prop}
noncomputable def minus (ps g:List Int):List Int:=ps.filter fun q => !decide (q∈g)
theorem qU {ps g:List Int}{q:Int}:q∈minus ps g↔q∈ps/\q∉g:=by
 unfold minus;rw[Xr];simp
theorem oP {ps g:List Int}{m:Int} (h:placesOk 0 m ps):placesOk 0 m (minus ps g):=by
 rw[be] at h ⊢;exact⟨fun p hp=>h.1 p (qU.mp hp).1,h.2.sublist ZA⟩
theorem Cc {ps g:List Int}{p:Int} (h:p∈ps) (hg:p∈g):(minus ps g).length<ps.length:=by
 unfold minus;exact List.length_filter_lt_length_iff_exists.mpr ⟨p,h,by simpa using hg⟩
theorem EA {ps:List Int}{q:Int} (h0:0<=q) (h1:q<ps.length):zO ps q∈ps:=by
 unfold zO;exact getD_mem (by omega)
theorem wR {z:Str}{zs:List Str} (h:z∈bf zs):z∈zs:=by
 unfold bf at h
 have:∀ (zs acc:List Str),z∈zs.foldl hV acc->z∈acc∨z∈zs:=fun zs=>by
  induction zs with
  | nil=>exact fun acc h=>.inl h
  | cons y zs ih =>
   intro acc h;rw[Zi] at h;rcases ih _ h with h | h
   ·unfold hV at h;split at h
    ·exact .inl h
    ·rcases N_.mp h with h | h
     ·exact .inl h
     ·exact .inr (by rw[x_.mp h];simp)
   ·exact .inr (by simp [h])
 rcases this zs [] h with h | h
 ·exact nomatch h
 ·exact h
theorem Cd:∀ n≤40,n≠0->1∈dJ n:=by decide
theorem Ce:∀ n≤40,((dJ n).map fun s=>iT s n).sum<=90:=by decide
theorem wS {ps:List Int} (h:ps.length<=40):(fM ps).length<=90:=by
 unfold fM;rw[List.length_flatMap];simp only[hW];exact Ce _ h
theorem zx {r:Rw}{ps:List Int}{z:Str} (o:r.Ok) (hp:placesOk 0 r.many ps):∀ g∈bG r ps z,∃ p∈ps,p∈g:=fun g hg=>by
 have pa:=ao hp;have pl:=places_len hp (by omega);have Ki:=ez o;unfold bG at hg;split at hg
 ·unfold fM at hg;obtain⟨s,hs,hg⟩:=abk.mp hg;have h1:=((qA _ (show ps.length<=40 by omega)).2 s hs).1;unfold b9 at hg;obtain⟨i,hi,rfl⟩:=m_.mp hg;have hi:=(jT h1).mp (Xi.mp hi)
  have e:((ps.drop (i*s)).take s)[0]? = some ps[i*s]:=by
   rw[aaM,s_ (by omega),YD,Z5,b_ hi]
  exact⟨_,Yv hi,q_ e⟩
 ·split at hg
  ·obtain⟨p,jy,rfl⟩:=m_.mp hg;refine⟨p,jy,Xr.mpr ⟨?_,c_ jy⟩⟩;have h0:=(pa p jy).1
   cases r with
   | row zs=>show p∈[((p.toNat:Nat):Int)];rw[acd h0];simp
   | table w ls=>show p∈[((p.toNat:Nat):Int)];rw[acd h0];simp
   | af ns =>
    show p∈iz p.toNat (bS ns p.toNat+1);unfold iz;exact m_.mpr ⟨0,Xi.mpr (by omega),by omega⟩
  ·split at hg
   ·obtain⟨p,jy,rfl⟩:=m_.mp hg;exact⟨p,jy,by simp⟩
   ·obtain⟨m,hm,rfl⟩:=m_.mp hg;have hm:=wR hm
    obtain⟨q,hq⟩:∃ q,q∈ju (r.left ps) m:=by
     cases hr:r.left ps with
     | row zs =>
      rw[hr] at hm;obtain⟨i,h⟩:=S_.mp hm;exact⟨_,cL.mpr ⟨i,rfl,h⟩⟩
     | af ns =>
      rw[hr] at hm;obtain⟨i,h⟩:=S_.mp hm;exact⟨_,cL.mpr ⟨i,rfl,h⟩⟩
     | table w ls =>
      rw[hr] at hm;obtain⟨l,hl,hm⟩:=ac7.mp hm;obtain⟨i,h⟩:=S_.mp hl;exact⟨_,m_.mpr ⟨(l,i),Xr.mpr ⟨Ym.mpr h,c_ hm⟩,rfl⟩⟩
    obtain⟨h0,h1⟩:=vd o hp q hq;exact⟨_,EA h0 h1,m_.mpr ⟨q,hq,rfl⟩⟩
theorem zy {r:Rw}{ps:List Int}{z:Str}{p:Int} (hl:ps.length<=40) (hz:z = "halves" ∨ z = "ones") (h:p∈ps):[p]∈bG r ps z:=by
 unfold bG;rcases hz with rfl | rfl
 ·rw[s_ rfl];obtain⟨i,hi,e⟩:=XG.mp h;refine abk.mpr ⟨1,Cd _ hl (by omega),m_.mpr ⟨i,Xi.mpr ((jT (by omega)).mpr (by omega)),?_⟩⟩;rw[Nat.mul_one,XM hi,e];rfl
 ·rw[n_ (by decide +kernel),n_ (by decide +kernel),s_ rfl];exact m_.mpr ⟨p,h,rfl⟩
noncomputable def sN (r:Rw) (ps:List Int):List Rw:=(bB.flatMap (bG r ps)).map fun g=>r.left (minus ps g)
noncomputable def sO:Rw->Nat
 | .table _ _=>282
 | _=>210
theorem vg {r:Rw}{ps:List Int} (o:r.Ok) (hp:placesOk 0 r.many ps):(sN r ps).length<=sO r:=by
 have pl:=places_len hp (by omega);have Ki:=ez o;have hh:=wS (show ps.length<=40 by omega)
 have e:(sN r ps).length=(fM ps).length+(ps.length+(ps.length+(bf (r.left ps).names).length)):=by
  unfold sN bB;rw[a_];simp only[acR,List.flatMap_nil,u_,ZI,Z5];unfold bG;rw[s_ rfl,n_ (by decide +kernel),s_ rfl,n_ (by decide +kernel),n_ (by decide +kernel),s_ rfl,n_ (by decide +kernel),n_ (by decide +kernel),n_ (by decide +kernel)];unfold oK oM;rw[a_,a_,a_]
 have fl:=fL (r.left ps).names;rw[e]
 cases r with
 | row zs =>
  have:(Rw.left (.row zs) ps).names.length=ps.length:=a_ _;show _<=210;omega
 | af ns =>
  have:(Rw.left (.af ns) ps).names.length=ps.length:=by show ((b0 ns ps).map (·.1)).length=_;rw[a_];exact a_ _
  show _<=210;omega
 | table w ls =>
  have nl:=cP (bR o hp);have o:aN w ls:=o;have:=o.len;have:=o.BM;change (ps.length:Int)<=((ls.length+w:Nat):Int)-0 at pl;show _<=282;omega
theorem EB {r:Rw} (o:r.Ok):(r.many+1)*sO r<=8999:=by
 have Ki:=ez o
 cases r with
 | row zs=>show _*210<=8999;omega
 | af ns=>show _*210<=8999;omega
 | table w ls =>
  have o:aN w ls:=o;have:=o.len;have:=o.BM;show (ls.length+w+1)*282<=8999;omega
theorem ki {α:Type}:∀ {xs L:List α},xs.Nodup->(∀ x∈xs,x∈L)->xs.length<=L.length
 | [],_,_,_=>Yb _
 | x::xs,L,hn,h=>by
  haveI:DecidableEq α:=fun _ _=>Y9 _
  obtain⟨h1,h2⟩:=Zg.mp hn;have hx:=h x (by simp);have:=ki (L:=L.erase x) h2 fun y hy=>(List.mem_erase_of_ne (a:=y) (b:=x) fun z=>h1 (by rw[←z];exact hy)).mpr (h y (by simp [hy]))
  have l1:=List.length_erase_of_mem hx;have l2:=Zf hx;rw[z_];omega
def oQ (M:Mem) (f:Flt) (a b:Addr) (L:List Rw):Prop:=∃ rs,fD M f a b rs/\rs.Nodup/\∀ x∈rs,x∈L
theorem Cf {p:bN}{n:Nat} (p0:mR n p) {r:Rw}{f:Flt}{a b:Addr}{ps:List Int}{L:List Rw} (st:oQ M f a b L) (hL:L.length<=9000) (hm:r.left ps∈L) (o:r.Ok) (hp:placesOk 0 r.many ps) (of:f.Ok) (hd:f.dep<=n)
  (hR:∀ M',oQ M' f a b L->R (.bl (bP (f.holds (r.left ps)))) M'):p [dr r f a b,bo ps] M R:=by
 obtain⟨rs,s1,s2,s3⟩:=st;refine p0 r f a b ps rs M R s1 (U_ (ki s2 s3) hL) o hp of hd fun M' h1 h2 _=>?_
 by_cases e:r.left ps∈rs
 ·rw[h1 e];exact hR M ⟨rs,s1,s2,s3⟩
 ·refine hR M' ⟨_,h2 e,?_,fun x hx=>?_⟩
  ·rw[ZY];exact⟨s2,by simp,fun x hx y hy z=>e (by rw[x_.mp hy] at z;rw[←z];exact hx)⟩
  ·rcases N_.mp hx with h | h
   ·exact s3 x h
   ·rw[x_.mp h];exact hm
end
section
variable {Γ:Gm}{M:Mem}{R:Dt->Mem->Prop}
def Kj (r:Rw) (f:Flt) (ps:List Int) (z:Str):Prop:=∀ g∈bG r ps z,¬ f.holds (r.left (minus ps g))
theorem Cg {r:Rw}{ps g:List Int}{z:Str} (hz:z∈bB) (hg:g∈bG r ps z):r.left (minus ps g)∈sN r ps :=
 m_.mpr ⟨g,abk.mpr ⟨z,hz,hg⟩,rfl⟩
def Ch (n:Nat) (p:bN):Prop:=∀ (r:Rw) (f:Flt) (a b:Addr) (z:Str) (ps:List Int) (L:List Rw) M R,oQ M f a b L->L.length<=9000->(∀ x∈sN r ps,x∈L)->z∈bB->r.Ok->placesOk 0 r.many ps->f.Ok->f.dep<=n ->
 (∀ M',oQ M' f a b L->Kj r f ps z->R .az M')->(∀ g M',oQ M' f a b L->g∈bG r ps z->f.holds (r.left (minus ps g))->R (bo g) M')->p [dr r f a b,.str z,bo ps] M R
theorem l8 (h:Γ.hm=wE) {n:Nat} (p0:mR n (Γ.me 0)) (p3:sE (Γ.me 3)) (Ww:vf (Γ.fn 53)) (R4:lj (Γ.fn 54)) {r:Rw}{f:Flt}{a b:Addr}{z:Str}{ps:List Int}{L:List Rw} (st:oQ M f a b L) (hL:L.length<=9000) (hA:∀ x∈sN r ps,x∈L) (hz:z∈bB) (o:r.Ok) (hp:placesOk 0 r.many ps) (of:f.Ok) (hd:f.dep<=n)
  (hR:∀ M',oQ M' f a b L->Kj r f ps z->R .az M') (hS:∀ g M',oQ M' f a b L->g∈bG r ps z->f.holds (r.left (minus ps g))->R (bo g) M'):Fn Γ dh [.sh (dr r f a b),.sh (.str z),.sh (bo ps),.no] M R:=by
 have pl:=places_len hp (by omega);have Ki:=ez o;unfold dh;symm;rw[iN];refine⟨by rw[h];rfl,p3 _ _ _ _ _ _ (Ww z r ps _ _ hz o hp ?_)⟩;and_intros;refine aq (fun i ρ M'=>oQ M' f a b L/\(∀ g∈(bG r ps z).take i,¬ f.holds (r.left (minus ps g)))/\∃ o',ρ=[.sh (dr r f a b),.sh (.str z),.sh (bo ps),o']) ⟨st,fun g hg=>(by rw[XS] at hg;exact nomatch hg),_,rfl⟩ ?_ ?_
 ·rintro i x ρ M' N' hx ⟨kn,hv,o',rfl⟩ dy;rw[f_] at hx;obtain⟨g,hg,rfl⟩:=k_.mp hx;have EV:=q_ hg;and_intros;right;rw[iN];refine⟨by rw[h];rfl,R4 ps g _ _ (by omega) (Cf p0 kn hL (hA _ (Cg hz EV)) o (oP hp) of hd fun M2 ER=>?_)⟩;show bF (Dt.bl (bP (f.holds (r.left (minus ps g))))) _;by_cases e:f.holds (r.left (minus ps g))
  ·rw[←xY (c:=true) ⟨fun _=>e,fun _=>rfl⟩];and_intros;refine sqo fun N3 cE=>?_
   exact hS g M2 ER EV e
  ·rw[←xY (c:=false) ⟨fun z=>(nomatch z),fun z=>absurd z e⟩];and_intros;subst hN2;refine dy _ _ ⟨ER,fun g' xB=>?_,_,rfl⟩;rw[adG,hg] at xB;rcases N_.mp xB with q | q
   ·exact hv g' q
   ·rw[x_.mp q];exact e
 ·rintro ρ M' ⟨kn,hv,o',rfl⟩;rw[a_,Yx] at hv;left;exact hR M' kn hv
theorem Ci {l t i:Nat} (h1:1<=l) (h4:l<=4) (ht:t<l) (hi:i+1<l):((t+1) % l+l-1-(i+1)) % l=(t+l-1-i) % l:=by
 have:l=1∨l=2∨l=3∨l=4:=by omega
 rcases this with rfl | rfl | rfl | rfl<;>omega
theorem ON {l t:Nat} (h1:1<=l) (h4:l<=4) (ht:t<l):((t+1) % l+l-1-0) % l=t:=by
 have:l=1∨l=2∨l=3∨l=4:=by omega
 rcases this with rfl | rfl | rfl | rfl<;>omega
theorem EC {l t j:Nat} (h1:1<=l) (h4:l<=4) (ht:t<l) (hj:j<l):∃ i,i<l/\(t+l-1-i) % l=j:=by
 refine⟨(t+l-1-j) % l,aaj _ h1,?_⟩;have:l=1∨l=2∨l=3∨l=4:=by omega
 rcases this with rfl | rfl | rfl | rfl<;>omega
theorem Cj {r:Rw} (o:r.Ok) (fl:r.Full):r.left (SH.upTo r.many)=r:=by
 have rg:∀ zs:List Str,(SH.upTo zs.length).map (atS zs)=zs:=fun zs=>by
  rw[nn];exact range_getD zs ""
 cases r with
 | row zs=>show Rw.row _=_;rw[show (Rw.row zs).many=zs.length from rfl,rg]
 | af ns=>show Rw.af _=_;rw[show (Rw.af ns).many=ns.length from rfl,yS o.1]
 | table w ls =>
  have o:aN w ls:=o;show Rw.table (aM ls.length (SH.upTo (ls.length+w))).length (iw ls (SH.upTo (ls.length+w)))=_;unfold iw;rw[yT,v3]
  have e:((SH.upTo ls.length).map fun i=>(SH.upTo w).map fun j=>atS (ls.getD i.toNat []) j)=ls:=by
   rw[nn];refine Eq.trans (W_ fun i hi=>?_) (range_getD ls []);rw[i_];have hl:(ls.getD i []).length=w:=o.mK _ (getD_mem (Xi.mp hi));rw[←hl];exact rg _
  rw[e,show (SH.upTo w).length=w by unfold SH.upTo;rw[a_,H_]]
end
section
variable {Γ:Gm}{M:Mem}{R:Dt->Mem->Prop}
def vh (n:Nat) (p:bN):Prop:=∀ (r:Rw) (f:Flt) (a b:Addr) (zs:List Str) M R,fD M f a b []->zs.Nodup->(∀ z∈zs,z∈bB)->(("halves" : Str)∈zs∨("ones" : Str)∈zs)->r.Ok->r.Full->f.Ok->f.dep<=n->f.holds r ->
 (∀ ps d M',placesOk 0 r.many ps->f.holds (r.left ps)->(∀ p∈ps,¬ f.holds (r.left (minus ps [p])))->R (.tup [.str "small",bo ps,d]) M')->p [dr r f a b,.lst (zs.map .str)] M R
theorem Ck (h:Γ.hm=wE) {n:Nat} (p0:mR n (Γ.me 0)) (p3:sE (Γ.me 3)) (p9:jr (Γ.me 9)) (Wx:iZ (Γ.fn 43)) (R4:lj (Γ.fn 54)) (Wy:Ch n (Γ.fn 55)) {r:Rw}{f:Flt}{a b:Addr}{zs:List Str} (st:fD M f a b []) (hn:zs.Nodup) (hz:∀ z∈zs,z∈bB) (TH:("halves" : Str)∈zs∨("ones" : Str)∈zs) (o:r.Ok) (fl:r.Full) (of:f.Ok) (hd:f.dep<=n) (hh:f.holds r)
  (hR:∀ ps d M',placesOk 0 r.many ps->f.holds (r.left ps)->(∀ p∈ps,¬ f.holds (r.left (minus ps [p])))->R (.tup [.str "small",bo ps,d]) M'):Fn Γ nQ [.sh (dr r f a b),.sh (.lst (zs.map .str)),.no,.no,.no,.no,.no,.no] M R:=by
 have Ki:=ez o;have z4:zs.length<=4:=ki hn hz;have z0:zs≠[]:=fun e=>by subst e;rcases TH with q | q<;>exact nomatch q
 have z1:1<=zs.length:=by cases zs with | nil=>exact absurd rfl z0 | cons _ _=>rw[z_];omega
 have ca:=EB o;have lf:=Cj o fl;unfold nQ;symm;refine Wx zs _ _ z0 hn (by omega) hz ?_;left;rw[iN];refine⟨by rw[h];rfl,p3 _ _ _ _ _ _ ?_⟩;and_intros;rw[cN];refine⟨fv h (by omega) _,p9 _ _ _ ?_⟩;and_intros;refine⟨⟨by omega,by omega⟩,by omega,?_⟩;rw[i_,show bv 0 r.many=(SH.upTo r.many).map Dt.int by unfold bv SH.upTo;rw[C_];rfl];have uo:=jS r.many;have ul:(SH.upTo r.many).length=r.many:=by unfold SH.upTo;rw[a_,H_]
 have h0:oQ M f a b (r.left (SH.upTo r.many)::sN r (SH.upTo r.many)):=⟨[],st,adE,fun x hx=>nomatch hx⟩;have l0:=vg o uo;left;rw[iN];have c1:sO r<=(r.many+1)*sO r:=Nat.le_mul_of_pos_left _ (by omega);refine⟨by rw[h];rfl,Cf p0 h0 (by rw[z_];omega) (by simp) o uo of hd fun M1 s1=>?_⟩;rw[lf,←xY (c:=true) ⟨fun _=>hh,fun _=>rfl⟩];and_intros;left;refine⟨sz (by simp),?_⟩;left;left;left
 refine⟨fun m ρ M'=>∃ (ps:List Int) (ds:List Dt) (t v:Nat) (L:List Rw) (o6 o7:Sl),m=ps.length*10+(zs.length-v)/\placesOk 0 r.many ps/\f.holds (r.left ps)/\t<zs.length/\v<=zs.length/\(∀ i<v,∀ z,zs[(t+zs.length-1-i) % zs.length]? = some z->Kj r f ps z) /\
  oQ M' f a b L/\(∀ x∈sN r ps,x∈L)/\L.length<=1+(r.many+1-ps.length)*sO r/\ds.length+ps.length<=r.many/\ρ=[.sh (dr r f a b),.sh (.lst (zs.map .str)),.sh (bo ps),.ow (.lst ds),.sh (.int t),.sh (.int v),o6,o7],
  ⟨_,SH.upTo r.many,[],0,0,_,_,_,rfl,uo,by rw[lf];exact hh,by omega,by omega,fun i hi=>(by omega),s1,fun x hx=>by simp [hx],?_,by rw[ul];simp,rfl⟩,?_⟩
 ·rw[ul,z_,show r.many+1-r.many=1 by omega];omega
 rintro m ρ M' ⟨ps,ds,t,v,L,o6,o7,rfl,hp,hf,ht,hv,hw,sA,hA,hL,L7,rfl⟩;have pl:=places_len hp (by omega)
 have L9:L.length<=9000:=by
  have:(r.many+1-ps.length)*sO r<=(r.many+1)*sO r:=ab5 _ (by omega);omega
 and_intros;rw[a_];by_cases e:v<zs.length
 ·refine bJ (c_ (by omega)) ?_;obtain⟨z,R5⟩:∃ z,zs[t]? = some z:=⟨_,b_ ht⟩;symm;refine⟨.str z,aP (by rw[f_,R5];rfl),?_⟩;left;have zr:=hz z (q_ R5);right;refine Wy r f a b z ps L _ _ sA L9 hA zr o hp of hd (fun M2 s2 va=>?_) fun g M2 s2 hg Wz=>?_
  ·subst hN2;and_intros;left;refine⟨trivial,?_⟩;refine bJ rfl ?_;right;subst hN2;right;rw[a_];refine⟨by omega,?_⟩;subst hN2;subst hN;have et:((t:Int)+1) % (zs.length:Int)=(((t+1) % zs.length:Nat):Int):=by rw[abh];rfl
   refine⟨ps.length*10+(zs.length-(v+1)),by omega,ps,ds,(t+1) % zs.length,v+1,L,_,_,rfl,hp,hf,aaj _ z1,by omega,fun i hi z' CL=>?_,s2,hA,hL,L7,by rw[et,XV];rfl⟩
   cases i with
   | zero=>rw[ON z1 z4 ht,R5] at CL;cases CL;exact va
   | succ i =>
    rw[Ci z1 z4 ht (by omega)] at CL;exact hw i (by omega) z' CL
  ·subst hN2;and_intros;left;refine⟨trivial,?_⟩;refine bz (show ¬ false=true by decide) ?_;right;subst hN2;right;refine R4 ps g _ _ (by omega) ?_;and_intros;subst hN2;right;refine⟨sz (by simp),uP (by omega),?_⟩;subst hN2;subst hN;obtain⟨p,q1,q2⟩:=zx o hp g hg;have lt:=Cc q1 q2;have mo:=oP (g:=g) hp;have al:=vg o mo;obtain⟨rs,a1,a2,a3⟩:=s2;refine⟨(minus ps g).length*10+(zs.length-0),by omega,minus ps g,_,t,0,L++sN r (minus ps g),_,_,rfl,mo,Wz,ht,by omega,fun i hi=>(by omega),⟨rs,a1,a2,fun x hx=>Zm _ (a3 x hx)⟩,fun x hx=>L_ _ hx,?_,?_,rfl⟩
   ·rw[u_];have e1:(r.many+1-ps.length+1)*sO r<=(r.many+1-(minus ps g).length)*sO r:=ab5 _ (by omega);rw[ab0,ab1] at e1;omega
   ·rw[u_,R_];omega
 ·refine bz (by rw[d_ (by omega)];decide) ?_;have ve:v=zs.length:=by omega
  subst ve;left;left;refine⟨sz (by simp),hR ps _ _ hp hf fun p R6 hq=>?_⟩
  obtain⟨z,hm,WA⟩:∃ z,z∈zs/\(z = "halves" ∨ z = "ones"):=by
   rcases TH with q | q
   ·exact⟨_,q,.inl rfl⟩
   ·exact⟨_,q,.inr rfl⟩
  obtain⟨j,hj,ej⟩:=XG.mp hm;obtain⟨i,hi,ei⟩:=EC z1 z4 ht hj;exact hw i hi z (by rw[ei,b_ hj,ej]) [p] (zy (by omega) WA R6) hq
end
section
theorem Kk {ps:List Int}:∀ {qs:List Int},ps.Pairwise (·<·)->qs.Pairwise (·<·)->(∀ p∈ps,p∈qs)->ps.Sublist qs:=by
 intro qs
 induction qs generalizing ps with
 | nil =>
  intro _ _ h
  cases ps with
  | nil=>exact acB
  | cons p ps=>exact nomatch h p (by simp)
 | cons q qs ih =>
  intro h1 h2 h;obtain⟨a1,a2⟩:=YA.mp h2
  cases ps with
  | nil=>exact List.nil_sublist _
  | cons p ps =>
   obtain⟨b1,b2⟩:=YA.mp h1;by_cases e:p=q
   ·subst e;refine List.Sublist.cons_cons _ (ih b2 a2 fun x hx=>?_);rcases w_.mp (h x (by simp [hx])) with z | z
    ·have:=b1 x hx;omega
    ·exact z
   ·have W8:q<p:=by
     rcases w_.mp (h p (by simp)) with z | z
     ·exact absurd z e
     ·exact a1 p z
    refine List.Sublist.cons _ (ih h1 a2 fun x hx=>?_);rcases w_.mp (h x hx) with z | z
    ·rcases w_.mp hx with y | y
     ·omega
     ·have:=b1 x y;omega
    ·exact z
theorem Cm {f:Int->Int->Str}{C D:List Int} (hc:C.Sublist D):∀ {A B:List Int},A.Sublist B->((A.map fun i=>C.map (f i)).flatten).Sublist ((B.map fun i=>D.map (f i)).flatten):=fun {A B} h=>by
 induction h with
 | slnil=>exact acB
 | cons a _ ih =>
  rw[p_,Yh];exact ih.trans (List.sublist_append_right _ _)
 | cons_cons a _ ih =>
  rw[p_,Yh,p_,Yh];exact (hc.map _).append ih
theorem qV {xs ys:List Str}{a b:Str} (h:xs.Sublist ys):(∃ i j:Nat,i<j/\xs[i]? = some a/\xs[j]? = some b)->∃ i j:Nat,i<j/\ys[i]? = some a/\ys[j]? = some b:=by
 induction h with
 | slnil=>exact fun h=>h
 | cons y _ ih =>
  intro h;obtain⟨i,j,h1,h2,h3⟩:=ih h;exact⟨i+1,j+1,by omega,by simpa using h2,by simpa using h3⟩
 | cons_cons y hs ih =>
  rintro⟨i,j,h1,h2,h3⟩;obtain⟨j,rfl⟩:∃ k,j=k+1:=⟨j-1,by omega⟩;rw[Yi] at h3
  cases i with
  | zero =>
   obtain⟨k,hk⟩:=S_.mp (hs.subset (q_ h3));exact⟨0,k+1,by omega,by simpa using h2,by simpa using hk⟩
  | succ i =>
   rw[Yi] at h2;obtain⟨i',j',q1,q2,q3⟩:=ih ⟨i,j,by omega,h2,h3⟩;exact⟨i'+1,j'+1,by omega,by simpa using q2,by simpa using q3⟩
theorem zA {r:Rw}{ps qs:List Int} (h:ps.Sublist qs):(r.left ps).names.Sublist (r.left qs).names:=by
 cases r with
 | row zs=>exact h.map _
 | af ns =>
  show ((b0 ns ps).map (·.1)).Sublist ((b0 ns qs).map (·.1));unfold b0;rw[C_,C_];exact h.map fun p:Int=>(ns.getD p.toNat ("",0)).1
 | table w ls=>exact Cm ((h.filter _).map _) (h.filter _)
noncomputable def R7 (ns:List Nd) (p:Int):Str:=(ns.getD p.toNat ("",0)).1
theorem sP {ns:List Nd}{ps:List Int}{i:Nat}{a:Str}:((Rw.af ns).left ps).names[i]? = some a↔∃ p,ps[i]? = some p/\R7 ns p=a:=by
 show ((b0 ns ps).map (·.1))[i]? = some a↔_;unfold b0;rw[C_,f_];constructor
 ·intro h;obtain⟨p,h1,h2⟩:=k_.mp h;exact⟨p,h1,h2⟩
 ·rintro⟨p,h1,h2⟩;rw[h1,←h2];rfl
theorem yb {ns:List Nd}{ps:List Int}{a b:Str} (hd:aG 0 ns) (hp:placesOk 0 ns.length ps):((Rw.af ns).left ps).rel ((Rw.af ns).left ps).under a b↔∃ p∈ps,∃ q∈ps,R7 ns p=a/\R7 ns q=b/\p∈ja ns q.toNat:=by
 have dl:=SH.bR hd hp;have ll:(b0 ns ps).length=ps.length:=a_ _;constructor
 ·rintro⟨i,j,h1,h2,h3,h4⟩;obtain⟨p,p1,p2⟩:=sP.mp h2;obtain⟨q,q1,q2⟩:=sP.mp h3;have hj:=(j_.mp q1).1;refine⟨p,q_ p1,q,q_ q1,p2,q2,?_⟩;have ha:(i:Int)∈ja (b0 ns ps) j:=(sI dl (by rw[ll];exact hj) i).mpr ⟨h1,h4⟩;have hm:=uc hd hp q1
  have:p∈kept ps (ja ns q.toNat):=by
   rw[←hm];refine m_.mpr ⟨i,ha,?_⟩;rw[i_,getD_some p1]
  exact (Xr.mp this).1
 ·rintro⟨p,R6,q,hq,h1,h2,h3⟩;obtain⟨j,q1⟩:=S_.mp hq;have hj:=(j_.mp q1).1;have hm:=uc hd hp q1;have hk:p∈kept ps (ja ns q.toNat):=Xr.mpr ⟨h3,c_ R6⟩;rw[←hm] at hk;obtain⟨j0,ha,e⟩:=m_.mp hk;have am:=mC (ns:=b0 ns ps) (k:=j) (by rw[ll];omega) j0 ha;obtain⟨i,rfl⟩:=Xh am.1;obtain⟨_,h4⟩:=(sI dl (by rw[ll];exact hj) i).mp ha;rw[i_] at e;have hi:i<ps.length:=by omega
  exact⟨i,j,by omega,sP.mpr ⟨p,by rw[b_ hi,←e,v_,b_ hi];rfl,h1⟩,sP.mpr ⟨q,q1,h2⟩,h4⟩
theorem vi {ls:List (List Str)}{ps:List Int}{c:Nat} (hc:c<(aM ls.length ps).length):((iw ls ps).map fun l=>l.getD c "")=(linesOf ls.length ps).map fun i=>atS (ls.getD i.toNat []) ((aM ls.length ps).getD c 0):=by
 unfold iw;rw[C_];refine W_ fun i _=>?_
 show ((aM ls.length ps).map fun j=>atS (ls.getD i.toNat []) j).getD c "" = _;have hg:=b_ hc;rw[getD_some (x:=atS (ls.getD i.toNat []) (aM ls.length ps)[c]) (by rw[f_,hg];rfl),getD_some hg]
theorem wT {r:Rw}{ps qs:List Int}{a b:Str} (o:r.Ok) (hp:placesOk 0 r.many ps) (hq:placesOk 0 r.many qs) (h:ps.Sublist qs) (hu:(r.left ps).rel (r.left ps).under a b):(r.left qs).rel (r.left qs).under a b:=by
 have ol:=bR o hp;have oq:=bR o hq
 cases r with
 | row zs=>obtain⟨_,_,_,_,_,z⟩:=hu;exact (show False from z).elim
 | af ns =>
  obtain⟨p,h1,q,h2,h3⟩:=(yb o.1 hp).mp hu;exact (yb o.1 hq).mpr ⟨p,h.subset h1,q,h.subset h2,h3⟩
 | table w ls =>
  obtain⟨c,hc,q⟩:=(mO ol).mp hu;have sc:(aM ls.length ps).Sublist (aM ls.length qs):=(h.filter _).map _;have hm:(aM ls.length ps).getD c 0∈aM ls.length qs:=sc.subset (getD_mem hc);obtain⟨d,hd,e⟩:=XG.mp hm;refine (mO oq).mpr ⟨d,hd,?_⟩;rw[vi hc] at q;rw[vi hd,v_,b_ hd];show ∃ r s:Nat,r<s/\((linesOf ls.length qs).map fun i=>atS (ls.getD i.toNat []) (aM ls.length qs)[d])[r]? = some a/\((linesOf ls.length qs).map fun i=>atS (ls.getD i.toNat []) (aM ls.length qs)[d])[s]? = some b;rw[e];exact qV ((h.filter _).map _) q
theorem grow {r:Rw}{ps qs:List Int} (o:r.Ok) (hp:placesOk 0 r.many ps) (hq:placesOk 0 r.many qs) (sub:∀ p∈ps,p∈qs):∀ {n:Nat}{f:Flt},f.dep<=n->f.holds (r.left ps)->f.holds (r.left qs):=by
 have hs:=Kk (be.mp hp).2 (be.mp hq).2 sub;have hn:=zA (r:=r) hs;intro n
 induction n with
 | zero=>exact fun {f} h=>absurd h (by cases f<;>(unfold Flt.dep;omega))
 | succ n ih =>
  intro f hd h
  cases f with
  | has m=>unfold Flt.holds at h ⊢;have:=hn.count_le m;omega
  | many k m=>unfold Flt.holds at h ⊢;have:=hn.count_le m;omega
  | before a b =>
   unfold Flt.holds at h ⊢;obtain⟨i,j,h1,h2,h3,_⟩:=h;obtain⟨i',j',q1,q2,q3⟩:=qV hn ⟨i,j,h1,h2,h3⟩;exact⟨i',j',q1,q2,q3,trivial⟩
  | under a b=>unfold Flt.holds at h ⊢;exact wT o hp hq hs h
  | all fs =>
   unfold Flt.holds at h ⊢;unfold Flt.dep at hd;rw[dY] at h ⊢;exact fun f hf=>ih (by have:=dA f hf;omega) (h f hf)
  | any fs =>
   unfold Flt.holds at h ⊢;unfold Flt.dep at hd;rw[dZ] at h ⊢;obtain⟨f,hf,h⟩:=h;exact⟨f,hf,ih (by have:=dA f hf;omega) h⟩
end
section
variable {Γ:Gm}{M:Mem}{R:Dt->Mem->Prop}
noncomputable def oR (f s i:Nat):List Str:=(Xa i).map fun k=>bB.getD ((f+k*s) % 4) ""
theorem vj:∀ f<4,∀ i≤4,(oR f 1 i).Nodup/\(oR f 3 i).Nodup:=by decide +kernel
theorem zB {f s i:Nat}:∀ z∈oR f s i,z∈bB:=fun z hz=>by
 obtain⟨k,_,rfl⟩:=m_.mp hz;exact getD_mem (aaj _ (by decide))
def oS (p:List Dt->Mem->(List Dt->Mem->Prop)->Prop):Prop:=∀ (c:Int) M (R:List Dt->Mem->Prop),(∀ zs:List Str,zs.Nodup->zs.length<=4->(∀ z∈zs,z∈bB)->R (zs.map .str) M)->p [.int c] M R
theorem l9 {c:Int}{Q:List Dt->Mem->Prop} (hR:∀ zs:List Str,zs.Nodup->zs.length<=4->(∀ z∈zs,z∈bB)->Q (zs.map .str) M):ex Γ dm [.sh (.int c),.no,.no,.no,.no] M { nx:=fun _ _=>False,rt:=fun _ _=>False,ro:=Q }:=by
 unfold dm;obtain⟨f,ef,hf⟩:=aQ c (show (0:Int)<4 by decide);obtain⟨n,en,hn⟩:=aQ (c / 4) (show (0:Int)<4 by decide);obtain⟨b,eb,hb⟩:=aQ (c / 16) (show (0:Int)<2 by decide);symm;refine⟨sz (by simp),?_⟩;left;refine⟨by decide,?_⟩;rw[ef];left;refine⟨sz (by simp),?_⟩;left;rw[en];refine⟨⟨by decide,by decide⟩,by decide,⟨by omega,by omega⟩,?_⟩;refine aq (fun i ρ M'=>M'=M/\∃ o,ρ=[.sh (.int c),.sh (.lst (bB.map .str)),.sh (.int f),.ow (.lst ((oR f (1+2*b) i).map .str)),o]) ⟨rfl,_,rfl⟩ ?_ ?_
 ·rintro i x ρ M' N' hx ⟨rfl,o,rfl⟩ dy;obtain⟨hi,rfl⟩:=aB hx;rw[Xd];have hi:i<4:=by omega
  and_intros;right;rw[eb]
  have e1:((f:Int)+(i:Int)*(1+2*(b:Int))) % 4=(((f+i*(1+2*b)) % 4:Nat):Int):=by
   rw[abh,XV,X8,XV,X8];rfl
  refine⟨⟨by decide,by decide⟩,by decide,.inl ⟨by omega,by omega⟩,.inl ⟨by omega,by omega⟩,by decide,.str (bB.getD ((f+i*(1+2*b)) % 4) ""),?_,?_⟩
  ·rw[e1];refine aP ?_;have hl:(f+i*(1+2*b)) % 4<bB.length:=aaj _ (by decide);rw[f_,v_,b_ hl];rfl
  ·refine⟨by rw[a_];unfold oR;rw[a_,H_];exact uP (by omega),?_⟩;subst hN2;refine dy _ _ ⟨rfl,.sh (.int i),?_⟩;unfold oR;rw[aas,E_,E_];rfl
 ·rintro ρ M' ⟨rfl,o,rfl⟩;rw[ai];left;have TJ:(1+(n:Int)).toNat<=4:=by omega
  have nd:=vj f (by omega) _ TJ;refine hR _ ?_ (by unfold oR;rw[a_,H_];exact TJ) zB;have:b=0∨b=1:=by omega
  rcases this with rfl | rfl
  ·exact nd.1
  ·exact nd.2
end
section
variable {Γ:Gm}{M:Mem}{R:Dt->Mem->Prop}
noncomputable def ED (ps:List Int) (m:Int):Dt->l_ Dt
 | .int k=>if m / 2 ^ (k % 23).toNat % 2=1 then some (.int (zO ps k)) else none
 | _=>none
theorem yc {ps:List Int}{m k:Int}:ED ps m (.int k)=if m / 2 ^ (k % 23).toNat % 2=1 then some (.int (zO ps k)) else none:=rfl
theorem yd {ps:List Int}{m:Int}:∀ l:List Nat,(l.map fun k:Nat=>Dt.int (0+(k:Int))).filterMap (ED ps m)=((l.filter fun k:Nat=>decide (m / 2 ^ ((k:Int) % 23).toNat % 2=1)).map fun k:Nat=>ps.getD k 0).map Dt.int
 | []=>rfl
 | k::l=>by
  rw[p_,Xb,yd l,Xm,Xd,yc];by_cases e:m / 2 ^ ((k:Int) % 23).toNat % 2=1
  ·rw[s_ e,s_ (c_ e)];unfold zO;rw[i_];rfl
  ·rw[n_ e,n_ (by rw[d_ e];decide)]
theorem EE {ps:List Int}{m:Int}:∃ g:List Int,(bv 0 ps.length).filterMap (ED ps m)=g.map Dt.int/\g.Sublist ps:=by
 refine⟨((Xa ps.length).filter fun k:Nat=>decide (m / 2 ^ ((k:Int) % 23).toNat % 2=1)).map fun k:Nat=>ps.getD k 0,yd _,?_⟩;have:=(ZA (l:=Xa ps.length) (p:=fun k:Nat=>decide (m / 2 ^ ((k:Int) % 23).toNat % 2=1))).map fun k:Nat=>ps.getD k 0
 rw[range_getD ps 0] at this;exact this
noncomputable def R8 (x:Int):Dt->l_ Dt
 | .int q=>if (!decide (q=x))=true then some (.int q) else none
 | _=>none
theorem Kl {x q:Int}:R8 x (.int q)=if (!decide (q=x))=true then some (.int q) else none:=rfl
theorem ye {x:Int}:∀ qs:List Int,(qs.map Dt.int).filterMap (R8 x)=(qs.filter fun q => !decide (q=x)).map Dt.int
 | []=>rfl
 | q::qs=>by
  rw[p_,Xb,ye qs,Xm,Kl];by_cases e:(!decide (q=x))=true
  ·rw[s_ e,s_ e];rfl
  ·rw[n_ e,n_ e]
noncomputable def wU (n:Nat):Dt->l_ Dt
 | .lst l=>if decide ((l.length:Int)<n)=true then some (.lst l) else none
 | _=>none
theorem Cn {n:Nat}{g:List Int}:wU n (bo g)=if decide (((g.map Dt.int).length:Int)<n)=true then some (bo g) else none:=rfl
theorem qW {n:Nat}:∀ gs:List (List Int),(gs.map bo).filterMap (wU n)=(gs.filter fun g=>decide (g.length<n)).map bo
 | []=>rfl
 | g::gs=>by
  rw[p_,Xb,qW gs,Xm,Cn,a_];by_cases e:g.length<n
  ·rw[s_ (c_ (by omega)),s_ (c_ e)];rfl
  ·rw[n_ (by rw[d_ (by omega)];decide),n_ (by rw[d_ e];decide)]
def yf (p:bN):Prop:=∀ (ps:List Int) (c:Int) M R,ps.length<=40->(∀ gs:List (List Int),(∀ g∈gs,g.length<ps.length/\g.Sublist ps)->R (.lst (gs.map bo)) M)->p [bo ps,.int c] M R
theorem sQ {ps:List Int}{c:Int} (hl:ps.length<=40) (hR:∀ gs:List (List Int),(∀ g∈gs,g.length<ps.length/\g.Sublist ps)->R (.lst (gs.map bo)) M):Fn Γ gD [.sh (bo ps),.sh (.int c),.no,.no,.no] M R:=by
 unfold gD;rw[bo];symm;refine⟨⟨by decide,by decide,by decide⟩,⟨by decide,by decide⟩,by decide,?_⟩;subst hN;refine sqo fun N hN=>?_
 have tail:∀ ms:List Int,ms.length<=32->N [.sh (.lst (ps.map .int)),.sh (.int c),.sh (.lst (ms.map .int)),.no,.no] M:=fun ms W9=>by
  rw[hN];symm;refine⟨by rw[a_];exact sz (by omega),comp_map (fun d=>match d with | .int x=>bo (ps.filter fun q => !decide (q=x)) | _=>.az) (fun x hx K hK=>?_) ?_⟩
  ·obtain⟨x,_,rfl⟩:=m_.mp hx;refine⟨by rw[a_];exact sz (by omega),aV (R8 x) (fun y hy K2 sR=>?_) ?_⟩
   ·obtain⟨y,_,rfl⟩:=m_.mp hy;and_intros;change K2 (if (!decide (y=x))=true then some (Dt.int y) else none) M at sR;by_cases e:y=x
    ·rw[c_ e] at sR ⊢;exact sR
    ·rw[d_ e] at sR ⊢;exact sR
   ·rw[ye];exact hK
  ·rw[C_];have e0:ps.map ((fun d=>match d with | .int x=>bo (ps.filter fun q => !decide (q=x)) | _=>.az) ∘ Dt.int)=(ps.map fun x=>ps.filter fun q => !decide (q=x)).map bo:=by rw[C_];rfl
   rw[e0];left;refine aq (fun i ρ M'=>M'=M/\∃ (gs:List (List Int)) (o:Sl),gs.length<=40+i/\(∀ g∈gs,g.Sublist ps)/\ρ=[.sh (.lst (ps.map .int)),.sh (.int c),.sh (.lst (ms.map .int)),.ow (.lst (gs.map bo)),o]) ⟨rfl,_,_,by rw[a_];omega,fun g hg=>?_,rfl⟩ ?_ ?_
   ·obtain⟨x,_,rfl⟩:=m_.mp hg;exact ZA
   ·rintro i x ρ M' N' hx ⟨rfl,gs,o,h1,h2,rfl⟩ dy;rw[f_] at hx;obtain⟨m,hm,rfl⟩:=k_.mp hx;have hi:=(j_.mp hm).1;and_intros;right;rw[a_];obtain⟨g,eg,hg⟩:=EE (ps:=ps) (m:=m);refine⟨⟨by omega,by omega⟩,by rw[ai];exact sz (by omega),aV (ED ps m) (fun y hy K2 sR=>?_) ?_⟩
    ·obtain⟨k,mD⟩:=S_.mp hy;obtain⟨hk,rfl⟩:=aB mD;rw[i_] at hk;rw[Xd] at sR ⊢;and_intros;refine⟨by decide,by omega,by decide,?_⟩;rw[yc] at sR;by_cases e:m / 2 ^ ((k:Int) % 23).toNat % 2=1
     ·rw[s_ e] at sR;refine bJ (c_ e) ?_;exact⟨_,B7 (by omega) (by omega),sR⟩
     ·rw[n_ e] at sR;exact bz (by rw[d_ e];decide) sR
    ·rw[i_,eg];refine⟨by rw[a_];exact uP (by omega),?_⟩;subst hN2;refine dy _ _ ⟨rfl,gs++[g],.sh (.int m),by rw[u_,R_];omega,fun g' EV=>?_,by rw[E_];rfl⟩;rcases N_.mp EV with q | q
     ·exact h2 g' q
     ·rw[x_.mp q];exact hg
   ·rintro ρ M' ⟨rfl,gs,o,h1,h2,rfl⟩;rw[a_] at h1;left;left;refine⟨by rw[a_];exact sz (by omega),aV (wU ps.length) (fun y hy K2 sR=>?_) ?_⟩
    ·obtain⟨g,_,rfl⟩:=m_.mp hy;unfold bo at sR ⊢;and_intros;change K2 (if decide (((g.map Dt.int).length:Int)<(ps.length:Nat))=true then some (Dt.lst (g.map Dt.int)) else none) M' at sR;rw[show (ps.map Dt.int).length=ps.length from a_ _];by_cases e:decide (((g.map Dt.int).length:Int)<(ps.length:Nat))=true
     ·rw[s_ e] at sR;exact bJ e sR
     ·rw[n_ e] at sR;exact bz e sR
    ·rw[qW];refine hR _ fun g hg=>?_
     obtain⟨q1,q2⟩:=Xr.mp hg;exact⟨of_decide_eq_true q2,h2 g q1⟩
 and_intros;rw[a_];by_cases e:(5:Int)<(ps.length:Nat)
 ·refine bJ (c_ e) ?_;right;refine⟨⟨by decide,by decide⟩,by rw[ai];exact sz (by decide),fz (P:=fun d=>∃ i:Int,d=.int i) (fun x hx K hK=>?_) fun ds hd hP=>?_⟩
  ·obtain⟨k,mD⟩:=S_.mp hx;obtain⟨hk,rfl⟩:=aB mD;and_intros;have L3:k<16:=hk;refine⟨⟨by decide,by decide,by decide⟩,by decide,.inl ⟨by decide,by decide⟩,.inr ⟨by omega,by omega⟩,by decide,hK _ ⟨_,rfl⟩⟩
  ·have:∀ {es:List Dt},(∀ d∈es,∃ i:Int,d=.int i)->∃ ms:List Int,es=ms.map Dt.int:=fun {es}=>by
    induction es with
    | nil=>exact fun _=>⟨[],rfl⟩
    | cons d es ih =>
     intro hP;obtain⟨i,rfl⟩:=hP d (by simp);obtain⟨ms,rfl⟩:=ih fun e he=>hP e (by simp [he])
     exact⟨i::ms,rfl⟩
   obtain⟨ms,rfl⟩:=this hP;rw[a_,ai] at hd;subst hN2;exact tail ms (by rw[hd];decide)
 ·refine bz (by rw[d_ e];decide) ?_;have e3:bv 0 32=((Xa 32).map fun i:Nat=>(i:Int)).map Dt.int:=by unfold bv;rw[C_];exact W_ fun k _=>by show Dt.int _=Dt.int _;rw[Xd]
  have:=tail ((Xa 32).map fun i:Nat=>(i:Int)) (by rw[a_,H_];decide);rw[←e3] at this;exact this
end
section
variable {Γ:Gm}{M:Mem}{R:Dt->Mem->Prop}
def oT (p:bN):Prop:=∀ (r:Rw) (ps:List Int) M R,r.Ok->placesOk 0 r.many ps->R (aU (r.left ps)) M->p [aU r,.lst (ps.map .int)] M R
def oU (p:bN):Prop:=∀ (ns:List Int) (k:Nat) (zs:List Str) (r:Rw),fA zs->r.Ok->xZ p [ky ns,.int k,.lst (zs.map .str),aU r,.bl true] 6
theorem missing {α:Type}{ps g:List α} (hs:g.Sublist ps) (hl:g.length<ps.length) (hn:ps.Nodup):∃ p∈ps,p∉g:=by
 refine YJ fun h=>?_
 have:∀ p∈ps,p∈g:=fun p hp=>YJ fun q=>h ⟨p,hp,q⟩
 have:=ki hn this;omega
theorem OO (nZ:cO (Γ.fn 12)) (RP:oj (Γ.fn 13)) (WB:uT (Γ.fn 19)) (WC:oU (Γ.fn 32)) (TK:oT (Γ.fn 21)) (WD:B2 (Γ.fn 22)) (KP:iC 6 (Γ.fn 27)) (RS:gK 6 (Γ.fn 28)) (q4:x0 (Γ.bu 4)) (WE:vh 6 (Γ.fn 56)) (WF:oS (Γ.fo 57)) (WG:yf (Γ.fn 76)) {ns:List Int} (hR:∀ M',R (.bl true) M'):Fn Γ BL [.sh (ky ns),.no,.no,.no,.no,.no,.no,.no] M R:=by
 unfold BL;symm;refine nZ _ _ _ _ (by omega) fun c0=>RP _ _ _ fun zs z4 Po hz=>?_
 have mk:fA zs:=⟨z4,Po,hz⟩;left;refine WB ns 15 zs mk _ _ fun r o hf=>?_
 left;refine WC ns 8 zs r mk o _ _ fun f of hd=>?_
 have Ki:=ez o;left;refine KP f r _ _ of o hd fun c hc=>?_
 cases c with
 | false =>
  and_intros;refine sqo fun N2 hN2=>?_
  exact hR _
 | true =>
  have hh:=hc.mp rfl;and_intros;left;refine nZ _ _ _ _ (by omega) fun c1=>WF c1 _ _ fun ws wn w4 wr=>?_
  subst hN;refine sqo fun N hN=>?_
  have tail:∀ us:List Str,us.Nodup->(∀ z∈us,z∈bB)->(("halves" : Str)∈us∨("ones" : Str)∈us)->N [.sh (ky ns),.sh (.lst (zs.map .str)),.sh (aU r),.sh (ax f),.ow (.lst (us.map .str)),.no,.no,.no] M:=fun us un ur uh=>by
   rw[hN];symm;refine WD r _ _ o hf (RS f _ _ of hd (q4 r f _ _ fun a b ha hb zI=>?_));left;left;refine WE r f a b us _ _ ⟨zI,by rw[kg zI,iO];rfl,[],iO,rfl⟩ un ur uh o hf of hd hh fun ps d M2 hp h1 h2=>?_
   have pl:=places_len hp (by omega);left;refine⟨_,rfl,?_⟩;and_intros;refine⟨_,rfl,TK r ps _ _ o hp (KP f _ _ _ of (bR o hp) hd fun c hc=>?_)⟩;have:c=true:=hc.mpr h1;subst this;and_intros;left;refine⟨_,rfl,?_⟩;and_intros;refine nZ _ _ _ _ (by omega) fun c2=>WG ps c2 _ _ (by omega) fun gs hg=>?_
   and_intros;refine aq (fun i ρ M'=>∃ o7:Sl,ρ=[.sh (ky ns),.sh (.lst (zs.map .str)),.sh (aU r),.sh (ax f),.sh (.lst (us.map .str)),.sh (dr r f a b),.sh (.tup [.str "small",bo ps,d]),o7]) ⟨_,rfl⟩ ?_ ?_
   ·rintro i x ρ M' N' hx ⟨o7,rfl⟩ dy;rw[f_] at hx;obtain⟨g,WH,rfl⟩:=k_.mp hx;obtain⟨g1,g2⟩:=hg g (q_ WH);have pw:=be.mp hp;have gp:placesOk 0 r.many g:=be.mpr ⟨fun q hq=>pw.1 q (g2.subset hq),pw.2.sublist g2⟩;and_intros;right;refine TK r g _ _ o gp (KP f _ _ _ of (bR o gp) hd fun c hc=>?_)
    have:c=false:=by
     cases c with
     | false=>rfl
     | true =>
      obtain⟨p,k1,k2⟩:=missing g2 g1 (pw.2.imp fun h=>by omega);refine absurd (grow o gp (oP (g:=[p]) hp) (fun q hq=>qU.mpr ⟨g2.subset hq,fun z=>k2 (by rw[x_.mp z] at hq;exact hq)⟩) hd (hc.mp rfl)) (h2 p k1)
    subst this;and_intros;subst hN2;exact dy _ _ ⟨_,rfl⟩
   ·rintro ρ M' ⟨o7,rfl⟩;left;exact hR _
  and_intros;refine j6 ?_;by_cases e1:("halves" : Str)∈ws
  ·rw[c_ e1];exact tail ws wn wr (.inl e1)
  rw[d_ e1];and_intros;refine j6 ?_;by_cases e2:("ones" : Str)∈ws
  ·rw[c_ e2];exact tail ws wn wr (.inr e2)
  rw[d_ e2];and_intros;right;refine⟨sz (by simp),nZ _ _ _ _ (by omega) fun c2=>?_⟩;and_intros;obtain⟨v,hv,_,ev⟩:=jM (xs:=([.str "halves",.str "ones"]:List Dt)) (i:=c2 / 64) (m:=2) (by decide) (by decide);refine⟨⟨by decide,by decide⟩,by decide,v,ev,by rw[a_];exact uP (by omega),?_⟩;subst hN2;simp only[w_,X_,aaN] at hv
  have add:∀ u:Str,u∉ws->u∈bB->(u = "halves" ∨ u = "ones")->N [.sh (ky ns),.sh (.lst (zs.map .str)),.sh (aU r),.sh (ax f),.ow (.lst (ws.map .str++[.str u])),.no,.no,.no] M:=fun u hu hr hh=>by
   have:=tail (ws++[u]) (by rw[ZY];exact⟨wn,by simp,fun x hx y hy z=>hu (by rw[x_.mp hy] at z;rw[←z];exact hx)⟩) (fun z hz=>by
    rcases N_.mp hz with q | q
    ·exact wr z q
    ·rw[x_.mp q];exact hr) (by rcases hh with rfl | rfl<;>simp)
   rw[E_] at this;exact this
  rcases hv with rfl | rfl
  ·exact add _ e1 (by unfold bB;simp) (.inl rfl)
  ·exact add _ e2 (by unfold bB;simp) (.inr rfl)
end
theorem up1 {n:Nat} (h:1<=n):∃ m,n=m+1:=⟨n-1,by omega⟩
theorem Co {n:Nat} (h:2<=n):∃ m,n=m+2:=⟨n-2,by omega⟩
theorem gb {n:Nat}:GB (Pr.Γ n):=⟨Pg.Oe n,Pg.JZ n⟩
theorem oV {n m c:Nat}{fs:List Str} (h:Pr.hm m c fs=true):(Pr.Γ n).hm m c fs=true:=by rw[Pg.jf];exact h
theorem qX {n k:Nat}{d:Dt} (h:Pr.cs k=d):(Pr.Γ n).cs k=d:=by rw[Pg.JZ];exact h
theorem sS (f:Flt):0<f.dep:=by cases f<;>(unfold Flt.dep;omega)
theorem oW {n:Nat} (h:1<=n):jq ((Pr.Γ n).fn 0):=by
 obtain⟨j,rfl⟩:=up1 (n:=n) (by omega);exact fun i M R h1=>⟨_,rfl,rfl,wu h1⟩
theorem qY {n:Nat} (h:1<=n):k6 ((Pr.Γ n).fn 1):=by
 obtain⟨j,rfl⟩:=up1 (n:=n) (by omega);exact fun z M R h1 h2=>⟨_,rfl,rfl,zl (qX (by kernel_rfl)) (qX (by kernel_rfl)) h1 h2⟩
theorem gP {n:Nat} (h:1<=n):dw ((Pr.Γ n).fn 2):=by
 obtain⟨j,rfl⟩:=up1 (n:=n) (by omega);exact fun ds m M R h1 h2=>⟨_,rfl,rfl,rX h1 h2⟩
theorem i5 {n:Nat} (h:2<=n):eY ((Pr.Γ n).fn 3):=by
 obtain⟨j,rfl⟩:=up1 (n:=n) (by omega);exact fun zs m M R h1 h2 h3=>⟨_,rfl,rfl,pC (qY (by omega)) (gP (by omega)) h1 h2 h3⟩
theorem sT {n:Nat} (h:2<=n):j4 ((Pr.Γ n).fn 4):=by
 obtain⟨j,rfl⟩:=up1 (n:=n) (by omega);exact fun n d M R h1 h2 h3 h4=>⟨_,rfl,rfl,rY (oW (by omega)) (qY (by omega)) h1 h2 h3 h4⟩
theorem qb {n:Nat} (h:3<=n):iV ((Pr.Γ n).fn 5):=by
 obtain⟨j,rfl⟩:=up1 (n:=n) (by omega);exact fun ns M R h1 h2 h3=>⟨_,rfl,rfl,pD (gP (by omega)) (sT (by omega)) (qX (by kernel_rfl)) (qX (by kernel_rfl)) h1 h2 h3⟩
theorem qc {n:Nat} (h:3<=n):iW ((Pr.Γ n).fn 6):=by
 obtain⟨j,rfl⟩:=up1 (n:=n) (by omega);exact fun w ls M R h1 h2=>⟨_,rfl,rfl,pE (gP (by omega)) (i5 (by omega)) (qX (by kernel_rfl)) (qX (by kernel_rfl)) h1 h2⟩
theorem cC {n:Nat} (h:2<=n):bO ((Pr.Γ n).fn 7):=by
 obtain⟨j,rfl⟩:=up1 (n:=n) (by omega);exact fun ps m M R h1 h2=>⟨_,rfl,rfl,nR (oW (by omega)) h1 h2⟩
theorem jv {n:Nat} (h:1<=n):gF ((Pr.Γ n).fn 8):=by
 obtain⟨j,rfl⟩:=up1 (n:=n) (by omega);exact fun t zs ps M R h1 h2 h3 h4=>⟨_,rfl,rfl,wv h1 h2 h3 h4⟩
theorem eA {n:Nat} (h:1<=n):iu ((Pr.Γ n).fn 9):=by
 obtain⟨j,rfl⟩:=up1 (n:=n) (by omega);exact fun zs m M R h1 h2=>⟨_,rfl,rfl,uF h1 h2⟩
theorem iE {n:Nat} (h:1<=n):dX ((Pr.Γ n).fn 10):=by
 obtain⟨j,rfl⟩:=up1 (n:=n) (by omega);exact fun t zs a b M R h1 h2=>⟨_,rfl,rfl,nT h1 h2⟩
theorem sU {n:Nat} (h:2<=n):mN ((Pr.Γ n).bu 16):=by
 obtain⟨j,rfl⟩:=Co (n:=n) (by omega);exact fun c zs M k h1 h2=>⟨_,_,_,_,_,rfl,rfl,rfl,rfl,se gb h1 h2⟩
theorem FF {n:Nat} (h:4<=n):BQ ((Pr.Γ n).bu 17):=by
 obtain⟨j,rfl⟩:=Co (n:=n) (by omega);exact fun zs M k h1 h2=>⟨_,_,_,_,_,rfl,rfl,rfl,rfl,wB gb (i5 (by omega)) (sU (by omega)) h1 h2⟩
theorem vk {n:Nat} (h:5<=n):n0 ((Pr.Γ n).bu 18):=by
 obtain⟨j,rfl⟩:=Co (n:=n) (by omega);exact fun ns M k h1 h2=>⟨_,_,_,_,_,rfl,rfl,rfl,rfl,pJ gb (qb (by omega)) (sU (by omega)) h1 h2⟩
theorem yg {n:Nat} (h:5<=n):si ((Pr.Γ n).bu 19):=by
 obtain⟨j,rfl⟩:=Co (n:=n) (by omega);exact fun w ls M k h1 h2=>⟨_,_,_,_,_,rfl,rfl,rfl,rfl,sj gb (qc (by omega)) (sU (by omega)) h1 h2⟩
theorem jw {n:Nat} (h:1<=n):jr ((Pr.Γ n).me 9):=by
 obtain⟨j,rfl⟩:=up1 (n:=n) (by omega);intro r M R h1
 cases r with
 | row zs=>exact⟨_,_,_,_,_,rfl,⟨rfl,rfl⟩,rfl,rfl,wx gb h1⟩
 | af ns=>exact⟨_,_,_,_,_,rfl,⟨rfl,rfl⟩,rfl,rfl,pG gb h1⟩
 | table w ls=>exact⟨_,_,_,_,_,rfl,⟨rfl,rfl⟩,rfl,rfl,rZ gb h1⟩
theorem Cp {n:Nat} (h:1<=n):wy ((Pr.Γ n).me 11):=by
 obtain⟨j,rfl⟩:=up1 (n:=n) (by omega);intro r M R h1
 cases r with
 | row zs=>exact⟨_,_,_,_,_,rfl,⟨rfl,rfl⟩,rfl,rfl,wz gb h1⟩
 | af ns=>exact⟨_,_,_,_,_,rfl,⟨rfl,rfl⟩,rfl,rfl,pH gb h1⟩
 | table w ls=>exact⟨_,_,_,_,_,rfl,⟨rfl,rfl⟩,rfl,rfl,r6 gb h1⟩
theorem EF {n:Nat} (h:1<=n):xV ((Pr.Γ n).me 6):=by
 obtain⟨j,rfl⟩:=up1 (n:=n) (by omega);intro r M R h1;have q:=pI (Γ:=Pr.Γ j) (r:=r) gb h1
 cases r<;>exact⟨_,_,_,_,_,rfl,⟨rfl,rfl⟩,rfl,rfl,q⟩
theorem vm {n:Nat} (h:2<=n):lH ((Pr.Γ n).me 8):=by
 obtain⟨j,rfl⟩:=up1 (n:=n) (by omega);intro r a b M R h1;have q:=j5 (Γ:=Pr.Γ j) (r:=r) gb (iE (by omega)) h1
 cases r<;>exact⟨_,_,_,_,_,rfl,⟨rfl,rfl⟩,rfl,rfl,q⟩
theorem qZ {n:Nat} (h:1<=n):k7 ((Pr.Γ n).me 7):=by
 obtain⟨j,rfl⟩:=up1 (n:=n) (by omega);intro r m M R h1;have q:=lW (Γ:=Pr.Γ j) (r:=r) gb h1
 cases r<;>exact⟨_,_,_,_,_,rfl,⟨rfl,rfl⟩,rfl,rfl,q⟩
theorem wV {n:Nat} (h:2<=n):nV ((Pr.Γ n).me 12):=by
 obtain⟨j,rfl⟩:=up1 (n:=n) (by omega);intro r m M R h1 h2 h3
 cases r with
 | row zs=>exact⟨_,_,_,_,_,rfl,⟨rfl,rfl⟩,rfl,rfl,iy gb (eA (by omega)) h1 h3⟩
 | af ns=>exact⟨_,_,_,_,_,rfl,⟨rfl,rfl⟩,rfl,rfl,eo gb (eA (by omega)) h1 h3⟩
 | table w ls=>exact absurd rfl (h2 _ _)
theorem zC {n:Nat} (h:2<=n):qH ((Pr.Γ n).me 15):=by
 obtain⟨j,rfl⟩:=up1 (n:=n) (by omega);exact fun ns i M R h1 h2 h3=>⟨_,_,_,_,_,rfl,⟨rfl,rfl⟩,rfl,rfl,fm gb (jw (by omega)) (oV (by kernel_rfl)) h1 h2 h3⟩
theorem wW {n:Nat} (h:3<=n):nW ((Pr.Γ n).me 13):=by
 obtain⟨j,rfl⟩:=up1 (n:=n) (by omega);intro r a b M R h1 h2
 cases r with
 | row zs=>exact⟨_,_,_,_,_,rfl,⟨rfl,rfl⟩,rfl,rfl,nX h2⟩
 | af ns=>exact⟨_,_,_,_,_,rfl,⟨rfl,rfl⟩,rfl,rfl,j7 gb (jv (by omega)) (wV (by omega)) (zC (by omega)) (oV (by kernel_rfl)) (oV (by kernel_rfl)) h1 h2⟩
 | table w ls=>exact⟨_,_,_,_,_,rfl,⟨rfl,rfl⟩,rfl,rfl,k9 gb (iE (by omega)) h1 h2⟩
theorem Km {n:Nat} (h:2<=n):B8 ((Pr.Γ n).me 15):=by
 obtain⟨j,rfl⟩:=up1 (n:=n) (by omega);intro r i M R h1 h2 h3
 cases r with
 | row zs=>exact⟨_,_,_,_,_,rfl,⟨rfl,rfl⟩,rfl,rfl,qa h3⟩
 | af ns=>exact⟨_,_,_,_,_,rfl,⟨rfl,rfl⟩,rfl,rfl,fm gb (jw (by omega)) (oV (by kernel_rfl)) h1 h2 (by rw[←Kh];exact h3)⟩
 | table w ls=>exact⟨_,_,_,_,_,rfl,⟨rfl,rfl⟩,rfl,rfl,l7 h3⟩
theorem Cq {n:Nat} (h:2<=n):u9 ((Pr.Γ n).me 12):=by
 obtain⟨j,rfl⟩:=up1 (n:=n) (by omega);intro r m M R h1 h2
 cases r with
 | row zs=>exact⟨_,_,_,_,_,rfl,⟨rfl,rfl⟩,rfl,rfl,iy gb (eA (by omega)) (U_ h1.2 (by decide)) h2⟩
 | af ns=>exact⟨_,_,_,_,_,rfl,⟨rfl,rfl⟩,rfl,rfl,eo gb (eA (by omega)) (by rw[a_];exact U_ h1.2 (by decide)) h2⟩
 | table w ls=>exact⟨_,_,_,_,_,rfl,⟨rfl,rfl⟩,rfl,rfl,lq gb (by have o:aN _ _:=h1;have:=o.len;omega) h2⟩
theorem Cr {n:Nat} (h:6<=n):wC ((Pr.Γ n).me 10):=by
 obtain⟨j,rfl⟩:=up1 (n:=n) (by omega);intro r ps M R h1 h2 h3
 cases r with
 | row zs=>exact⟨_,_,_,_,_,rfl,⟨rfl,rfl⟩,rfl,rfl,wD gb (cC (by omega)) (jv (by omega)) (jw (by omega)) (oV (by kernel_rfl)) (FF (by omega)) h1 h2 h3⟩
 | af ns=>exact⟨_,_,_,_,_,rfl,⟨rfl,rfl⟩,rfl,rfl,pK gb (cC (by omega)) (jw (by omega)) (oV (by kernel_rfl)) (vk (by omega)) h1 h2 h3⟩
 | table w ls=>exact⟨_,_,_,_,_,rfl,⟨rfl,rfl⟩,rfl,rfl,sr gb (cC (by omega)) (jv (by omega)) (jw (by omega)) (oV (by kernel_rfl)) (yg (by omega)) h1 h2 h3⟩
theorem EG:∀ {k n:Nat},4+k<=n->mP k ((Pr.Γ n).me 5):=by
 intro k
 induction k with
 | zero=>exact fun {n} h=>fun f r M R h1 h2 h3 h4=>absurd (sS f) (by omega)
 | succ k ih =>
  intro n h;obtain⟨j,rfl⟩:=up1 (n:=n) (by omega);intro f r M R h1 h2 h3 h4
  cases f with
  | has m' =>
   unfold Flt.Ok at h1;unfold Flt.dep at h3;exact⟨_,_,_,_,_,rfl,⟨rfl,rfl⟩,rfl,rfl,uJ gb (Pg.jf _) (qZ (by omega)) h4⟩
  | many k' m' =>
   unfold Flt.Ok at h1;unfold Flt.dep at h3;exact⟨_,_,_,_,_,rfl,⟨rfl,rfl⟩,rfl,rfl,sv gb (Pg.jf _) (qZ (by omega)) h4⟩
  | before a b =>
   unfold Flt.Ok at h1;unfold Flt.dep at h3;exact⟨_,_,_,_,_,rfl,⟨rfl,rfl⟩,rfl,rfl,n9 gb (Pg.jf _) (vm (by omega)) h4⟩
  | under a b =>
   unfold Flt.Ok at h1;unfold Flt.dep at h3;exact⟨_,_,_,_,_,rfl,⟨rfl,rfl⟩,rfl,rfl,pL gb (Pg.jf _) (wW (by omega)) h2 h4⟩
  | all fs =>
   unfold Flt.Ok at h1;unfold Flt.dep at h3;exact⟨_,_,_,_,_,rfl,⟨rfl,rfl⟩,rfl,rfl,uK gb (Pg.jf _) (ih (by omega)) h1.2 h2 (by omega) h4⟩
  | any fs =>
   unfold Flt.Ok at h1;unfold Flt.dep at h3;exact⟨_,_,_,_,_,rfl,⟨rfl,rfl⟩,rfl,rfl,uL gb (Pg.jf _) (ih (by omega)) h1.2 h2 (by omega) h4⟩
theorem OP {n:Nat} (h:2<=n):Fy ((Pr.Γ n).bu 6):=by
 obtain⟨j,rfl⟩:=Co (n:=n) (by omega);exact fun m M k h1=>⟨_,_,_,_,_,rfl,rfl,rfl,rfl,wF gb h1⟩
theorem Kn {n:Nat} (h:2<=n):BW ((Pr.Γ n).bu 7):=by
 obtain⟨j,rfl⟩:=Co (n:=n) (by omega);exact fun n m M k h1=>⟨_,_,_,_,_,rfl,rfl,rfl,rfl,uM gb h1⟩
theorem Cs {n:Nat} (h:2<=n):sy 9 ((Pr.Γ n).bu 9):=by
 obtain⟨j,rfl⟩:=Co (n:=n) (by omega);exact fun a b M k h1=>⟨_,_,_,_,_,rfl,rfl,rfl,rfl,lI gb (.inl rfl) h1⟩
theorem zD {n:Nat} (h:2<=n):sy 10 ((Pr.Γ n).bu 10):=by
 obtain⟨j,rfl⟩:=Co (n:=n) (by omega);exact fun a b M k h1=>⟨_,_,_,_,_,rfl,rfl,rfl,rfl,lI gb (.inr rfl) h1⟩
theorem wX {n:Nat} (h:2<=n):mQ 13 ((Pr.Γ n).bu 13):=by
 obtain⟨j,rfl⟩:=Co (n:=n) (by omega);exact fun ds M k h1=>⟨_,_,_,_,_,rfl,rfl,rfl,rfl,j8 gb (.inl rfl) h1⟩
theorem wY {n:Nat} (h:2<=n):mQ 14 ((Pr.Γ n).bu 14):=by
 obtain⟨j,rfl⟩:=Co (n:=n) (by omega);exact fun ds M k h1=>⟨_,_,_,_,_,rfl,rfl,rfl,rfl,j8 gb (.inr rfl) h1⟩
theorem sV:∀ {k n:Nat},3+k<=n->gK k ((Pr.Γ n).fn 28):=by
 intro k
 induction k with
 | zero=>exact fun {n} h=>fun f M R h1 h2 h3=>absurd (sS f) (by omega)
 | succ k ih =>
  intro n h;obtain⟨j,rfl⟩:=up1 (n:=n) (by omega);exact fun f M R h1 h2 h3=>⟨_,rfl,rfl,j9 (ih (by omega)) (OP (by omega)) (Kn (by omega)) (Cs (by omega)) (zD (by omega)) (wX (by omega)) (wY (by omega)) h1 h2 h3⟩
theorem dD {n:Nat} (h:1<=n):cO ((Pr.Γ n).fn 12):=by
 obtain⟨j,rfl⟩:=up1 (n:=n) (by omega);exact fun ns k M R h1 h2=>⟨_,rfl,rfl,oh h1 h2⟩
theorem wZ {n:Nat} (h:1<=n):oj ((Pr.Γ n).fn 13):=by
 obtain⟨j,rfl⟩:=up1 (n:=n) (by omega);exact fun c M R h1=>⟨_,rfl,rfl,lX h1⟩
theorem zE {n:Nat} (h:1<=n):qL ((Pr.Γ n).fn 14):=by
 obtain⟨j,rfl⟩:=up1 (n:=n) (by omega);exact fun c M R h1=>⟨_,rfl,rfl,om h1⟩
theorem Ct {n:Nat} (h:2<=n):uQ ((Pr.Γ n).fn 15):=by
 obtain⟨j,rfl⟩:=up1 (n:=n) (by omega);exact fun ns f m zs M R h1 h2 h3=>⟨_,rfl,rfl,pM (dD (by omega)) h1 h2 h3⟩
theorem vn {n:Nat} (h:2<=n):lJ ((Pr.Γ n).fn 16):=by
 obtain⟨j,rfl⟩:=up1 (n:=n) (by omega);exact fun ns f zs M R h1 h2 h3=>⟨_,rfl,rfl,lb (dD (by omega)) h1 h2 h3⟩
theorem FG {n:Nat} (h:1<=n):BY ((Pr.Γ n).fn 17):=by
 obtain⟨j,rfl⟩:=up1 (n:=n) (by omega);exact fun r M R h1=>⟨_,rfl,rfl,wH h1⟩
theorem sW {n:Nat} (h:1<=n):ka ((Pr.Γ n).fn 18):=by
 obtain⟨j,rfl⟩:=up1 (n:=n) (by omega);exact fun c zs h1 M R hR=>⟨_,rfl,rfl,kb h1 hR⟩
theorem Cu {n:Nat} (h:3<=n):uT ((Pr.Γ n).fn 19):=by
 obtain⟨j,rfl⟩:=up1 (n:=n) (by omega);exact fun ns f zs h1 M R hR=>⟨_,rfl,rfl,pN (dD (by omega)) (zE (by omega)) (Ct (by omega)) (vn (by omega)) (FG (by omega)) (sW (by omega)) h1 hR⟩
theorem w5 {n:Nat} (h:1<=n):oT ((Pr.Γ n).fn 21):=by
 obtain⟨j,rfl⟩:=up1 (n:=n) (by omega);exact fun r ps M R h1 h2 h3=>⟨_,rfl,rfl,u6 h1 h2 h3⟩
theorem Ko {n:Nat} (h:6<=n):B2 ((Pr.Γ n).fn 22):=by
 obtain⟨j,rfl⟩:=up1 (n:=n) (by omega);exact fun r M R h1 h2 h3=>⟨_,rfl,rfl,uR (FF (by omega)) (vk (by omega)) (yg (by omega)) h1 h2 h3⟩
theorem iF {n:Nat} (h:1<=n):eu ((Pr.Γ n).fn 23):=by
 obtain⟨j,rfl⟩:=up1 (n:=n) (by omega);exact fun r M R h1 h2=>⟨_,rfl,rfl,sB h1 h2⟩
theorem kj {n:Nat} (h:1<=n):gM ((Pr.Γ n).fn 24):=by
 obtain⟨j,rfl⟩:=up1 (n:=n) (by omega);exact fun r i j M R h1 h2 h3 h4=>⟨_,rfl,rfl,kf h1 h2 h3 h4⟩
theorem w6 {n:Nat} (h:2<=n):oy ((Pr.Γ n).fn 26):=by
 obtain⟨j,rfl⟩:=up1 (n:=n) (by omega);exact fun f a b r M R h1 h2 h3=>⟨_,rfl,rfl,lY (iF (by omega)) (kj (by omega)) h1 h2 h3⟩
theorem vo:∀ {k n:Nat},3+k<=n->iC k ((Pr.Γ n).fn 27):=by
 intro k
 induction k with
 | zero=>exact fun {n} h=>fun f r M R h1 h2 h3 h4=>absurd (sS f) (by omega)
 | succ k ih =>
  intro n h;obtain⟨j,rfl⟩:=up1 (n:=n) (by omega);exact fun f r M R h1 h2 h3 h4=>⟨_,rfl,rfl,sC (iF (by omega)) (w6 (by omega)) (ih (by omega)) h1 h2 h3 h4⟩
theorem Cv {n:Nat} (h:1<=n):uX ((Pr.Γ n).fn 29):=by
 obtain⟨j,rfl⟩:=up1 (n:=n) (by omega);exact fun c zs h1 M R hR=>⟨_,rfl,rfl,pP h1 hR⟩
theorem qd {n:Nat} (h:2<=n):iY ((Pr.Γ n).fn 30):=by
 obtain⟨j,rfl⟩:=up1 (n:=n) (by omega);exact fun ns k zs h1 M R hR=>⟨_,rfl,rfl,jt (dD (by omega)) (FG (by omega)) (Cv (by omega)) h1 hR⟩
theorem EH {n:Nat} (h:2<=n):x4 ((Pr.Γ n).fn 31):=by
 obtain⟨j,rfl⟩:=up1 (n:=n) (by omega);exact fun r c h1 h2 M R hR=>⟨_,rfl,rfl,sF (kj (by omega)) h1 h2 hR⟩
theorem w9 {n:Nat} (h:3<=n):oU ((Pr.Γ n).fn 32):=by
 obtain⟨j,rfl⟩:=up1 (n:=n) (by omega);exact fun ns k zs r h1 h2 M R hR=>⟨_,rfl,rfl,lZ (dD (by omega)) (iF (by omega)) (qd (by omega)) (EH (by omega)) h1 h2 hR⟩
theorem EI {n:Nat} (h:2<=n):x0 ((Pr.Γ n).bu 4):=by
 obtain⟨j,rfl⟩:=Co (n:=n) (by omega);exact fun r f M k h1=>⟨_,_,_,_,_,rfl,rfl,rfl,rfl,sD gb h1⟩
theorem EJ {n:Nat} (h:1<=n):x3 ((Pr.Γ n).me 2):=by
 obtain⟨j,rfl⟩:=up1 (n:=n) (by omega);exact fun r f a b qs M R h1 h2=>⟨_,_,_,_,_,rfl,⟨rfl,rfl⟩,rfl,rfl,pS gb h1 h2⟩
theorem yh {n:Nat} (h:1<=n):sE ((Pr.Γ n).me 3):=by
 obtain⟨j,rfl⟩:=up1 (n:=n) (by omega);exact fun r f a b M R h1=>⟨_,_,_,_,_,rfl,⟨rfl,rfl⟩,rfl,rfl,pU gb h1⟩
theorem OQ {k n:Nat} (h:5+k<=n):FE k ((Pr.Γ n).me 1):=by
 obtain⟨j,rfl⟩:=up1 (n:=n) (by omega);exact fun r f a b ps r' rs M R h1 h2 h3 h4 h5 h6 h7=>⟨_,_,_,_,_,rfl,⟨rfl,rfl⟩,rfl,rfl,u4 gb (Pg.jf _) (EJ (by omega)) (EG (by omega)) (Cp (by omega)) h1 h2 h3 h4 h5 h6 h7⟩
theorem yi {k n:Nat} (h:7+k<=n):mR k ((Pr.Γ n).me 0):=by
 obtain⟨j,rfl⟩:=up1 (n:=n) (by omega);exact fun r f a b ps rs M R h1 h2 h3 h4 h5 h6 h7=>⟨_,_,_,_,_,rfl,⟨rfl,rfl⟩,rfl,rfl,pX gb (Pg.jf _) (OQ (by omega)) (Cr (by omega)) (Cp (by omega)) h1 h2 h3 h4 h5 h6 h7⟩
theorem km {n:Nat} (h:1<=n):gO ((Pr.Γ n).fn 42):=by
 obtain⟨j,rfl⟩:=up1 (n:=n) (by omega);exact fun z M R h1 h2=>⟨_,rfl,rfl,sJ gb h1 h2⟩
theorem qe {n:Nat} (h:2<=n):iZ ((Pr.Γ n).fn 43):=by
 obtain⟨j,rfl⟩:=up1 (n:=n) (by omega);exact fun zs M R h1 h2 h3 h4 h5=>⟨_,rfl,rfl,pZ (km (by omega)) h1 h2 h3 h4 h5⟩
theorem EK {n:Nat} (h:1<=n):x9 ((Pr.Γ n).fn 44):=by
 obtain⟨j,rfl⟩:=up1 (n:=n) (by omega);exact fun n M R h1 h2=>⟨_,rfl,rfl,sM h1 h2⟩
theorem vp {n:Nat} (h:1<=n):lM ((Pr.Γ n).fn 45):=by
 obtain⟨j,rfl⟩:=up1 (n:=n) (by omega);exact fun ps s M R h1 h2 h3 h4=>⟨_,rfl,rfl,u7 h1 h2 h3 h4⟩
theorem vq {n:Nat} (h:2<=n):lN ((Pr.Γ n).fn 46):=by
 obtain⟨j,rfl⟩:=up1 (n:=n) (by omega);exact fun ps M R h1 h2=>⟨_,rfl,rfl,u8 (EK (by omega)) (vp (by omega)) h1 h2⟩
theorem zF {n:Nat} (h:1<=n):qS ((Pr.Γ n).fn 47):=by
 obtain⟨j,rfl⟩:=up1 (n:=n) (by omega);exact fun qs ps M R h1 h2=>⟨_,rfl,rfl,zq h1 h2⟩
theorem xa {n:Nat} (h:3<=n):oN ((Pr.Γ n).fn 48):=by
 obtain⟨j,rfl⟩:=up1 (n:=n) (by omega);exact fun r ps M R h1 h2 h3=>⟨_,rfl,rfl,wO (Pg.jf _) (Km (by omega)) (zF (by omega)) h1 h2 h3⟩
theorem zG {n:Nat} (h:1<=n):qT ((Pr.Γ n).fn 49):=by
 obtain⟨j,rfl⟩:=up1 (n:=n) (by omega);exact fun ps M R h1 h2=>⟨_,rfl,rfl,zu h1 h2⟩
theorem mh {n:Nat} (h:1<=n):gY ((Pr.Γ n).fn 50):=by
 obtain⟨j,rfl⟩:=up1 (n:=n) (by omega);exact fun zs M R h1 h2=>⟨_,rfl,rfl,l6 h1 h2⟩
theorem mj {n:Nat} (h:1<=n):gX ((Pr.Γ n).fn 51):=by
 obtain⟨j,rfl⟩:=up1 (n:=n) (by omega);exact fun qs ps M R h1 h2 h3=>⟨_,rfl,rfl,l5 h1 h2 h3⟩
theorem xb {n:Nat} (h:7<=n):oO ((Pr.Γ n).fn 52):=by
 obtain⟨j,rfl⟩:=up1 (n:=n) (by omega);exact fun r ps M R h1 h2 h3=>⟨_,rfl,rfl,wQ (Pg.jf _) (EF (by omega)) (Cr (by omega)) (Cq (by omega)) (mh (by omega)) (mj (by omega)) h1 h2 h3⟩
theorem Cw {n:Nat} (h:8<=n):vf ((Pr.Γ n).fn 53):=by
 obtain⟨j,rfl⟩:=up1 (n:=n) (by omega);exact fun z r ps M R h1 h2 h3 h4=>⟨_,rfl,rfl,Cb (Pg.jf _) (cC (by omega)) (jw (by omega)) (km (by omega)) (vq (by omega)) (xa (by omega)) (zG (by omega)) (xb (by omega)) h1 h2 h3 h4⟩
theorem q8 {n:Nat} (h:1<=n):lj ((Pr.Γ n).fn 54):=by
 obtain⟨j,rfl⟩:=up1 (n:=n) (by omega);exact fun qs ps M R h1 h2=>⟨_,rfl,rfl,zt h1 h2⟩
theorem Kp {k n:Nat} (h:9+k<=n):Ch k ((Pr.Γ n).fn 55):=by
 obtain⟨j,rfl⟩:=up1 (n:=n) (by omega);exact fun r f a b z ps L M R h1 h2 h3 h4 h5 h6 h7 h8 h9 Fe=>⟨_,rfl,rfl,l8 (Pg.jf _) (yi (by omega)) (yh (by omega)) (Cw (by omega)) (q8 (by omega)) h1 h2 h3 h4 h5 h6 h7 h8 h9 Fe⟩
theorem Cy {k n:Nat} (h:10+k<=n):vh k ((Pr.Γ n).fn 56):=by
 obtain⟨j,rfl⟩:=up1 (n:=n) (by omega);exact fun r f a b zs M R h1 h2 h3 h4 h5 h6 h7 h8 h9 Fe=>⟨_,rfl,rfl,Ck (Pg.jf _) (yi (by omega)) (yh (by omega)) (jw (by omega)) (qe (by omega)) (q8 (by omega)) (Kp (by omega)) h1 h2 h3 h4 h5 h6 h7 h8 h9 Fe⟩
theorem xc {n:Nat} (h:1<=n):oS ((Pr.Γ n).fo 57):=by
 obtain⟨j,rfl⟩:=up1 (n:=n) (by omega);exact fun c M R h1=>⟨_,rfl,rfl,l9 h1⟩
theorem EL {n:Nat} (h:1<=n):yf ((Pr.Γ n).fn 76):=by
 obtain⟨j,rfl⟩:=up1 (n:=n) (by omega);exact fun ps c M R h1 h2=>⟨_,rfl,rfl,sQ h1 h2⟩
theorem Kq:∀ (ns:List Int) M k,ns.length<=63->(∀ M',k (.bl true) M')->(Pr.Γ 17).fn 36 [.nA (ns.map .int)] M k:=fun ns M k h1 h2=>by
 have h:17<=17:=t_ _;exact⟨_,rfl,rfl,OO (Γ:=Pr.Γ 16) (dD (by decide)) (wZ (by decide)) (Cu (by decide)) (w9 (by decide)) (w5 (by decide)) (Ko (by decide)) (vo (by decide)) (sV (by decide)) (EI (by decide)) (Cy (by decide)) (xc (by decide)) (EL (by decide)) h2⟩
end K18
namespace PySem.W.Fast
def tw4651717242480865868:Nat:=0
def tw5185844422584116531:Nat:=0
def tw11641603749027354990:Nat:=0
def tw2232309799618633749:Nat:=0
def tw16598021432571894133:Nat:=0
def tw8903598567697214699:Nat:=0
def tw14223711959312561086:Nat:=0
def tw10590944183424860398:Nat:=0
def tw3810434501774837300:Nat:=0
def tw2734268168103594080:Nat:=0
def tw6355554576836779760:Nat:=0
def tw4008011282367813042:Nat:=0
def tw12926518860279817758:Nat:=0
def tw11768521967008837953:Nat:=0
def tw8402696917280853200:Nat:=0
def tw5862852336762401563:Nat:=0
def tw8471682929306200381:Nat:=0
def tw643649977431952600:Nat:=0
def tw13393379447830123367:Nat:=0
def tw10834580519652285395:Nat:=0
def tw6099832476936632727:Nat:=0
def tw12127380708778328651:Nat:=0
def tw17093666812683081078:Nat:=0
def tw10682805289123125905:Nat:=0
def tw4985604298359932682:Nat:=0
def tw9893496624701324632:Nat:=0
def tw15821502414737480561:Nat:=0
def tw18077204015223889975:Nat:=0
def tw5444936165515801819:Nat:=0
def tw310923128727921820:Nat:=0
def tw15457724398285520527:Nat:=0
def tw14811743773576803796:Nat:=0
def tw14607775229049731007:Nat:=0
def tw14396676930823305293:Nat:=0
def tw11473047644745820292:Nat:=0
def tw14940467246687692205:Nat:=0
def tw2604352447952689536:Nat:=0
def tw8075514594700130231:Nat:=0
def tw11818272538145575678:Nat:=0
def tw5333819173169171224:Nat:=0
def tw13264961529433061927:Nat:=0
def tw13373592897139718237:Nat:=0
def tw937628505095710326:Nat:=0
def tw18106791330014752789:Nat:=0
def tw4214046892640854388:Nat:=0
def tw12354176455077190903:Nat:=0
def tw10006790092410468407:Nat:=0
def tw6194075689639767684:Nat:=0
def tw4249260102790944212:Nat:=0
def tw4222024952330080457:Nat:=0
def tw7343031550554982081:Nat:=0
def tw1901429498553869479:Nat:=0
def tw14716590522690879670:Nat:=0
def tw378905888171850795:Nat:=0
def tw3659288581407863746:Nat:=0
def tw2092746999156370883:Nat:=0
def tw9584586136371755766:Nat:=0
def tw15106119284564694500:Nat:=0
def tw7513121256028604164:Nat:=0
def tw3431145848255988242:Nat:=0
def tw14746565097656358236:Nat:=0
def tw562181877417176075:Nat:=0
def tw1710821248664474025:Nat:=0
def tw907834262445286340:Nat:=0
def tw12992912785765980832:Nat:=0
def tw14324011320542882555:Nat:=0
def tw9710934516274878251:Nat:=0
def tw2692377101721953303:Nat:=0
def tw12649248150542435747:Nat:=0
def tw9135894587082016592:Nat:=0
def tw10560290758136024974:Nat:=0
def tw3549263327456402197:Nat:=0
def tw11170803601230159357:Nat:=0
def tw7845453408003438077:Nat:=0
def tw9969138893936867389:Nat:=0
def tw4447225626068789508:Nat:=0
def tw16191162046665012451:Nat:=0
def tw7824274360920859220:Nat:=0
def tw1162771641486945046:Nat:=0
def tw13195844286620712606:Nat:=0
def tw2407550422642476666:Nat:=0
def tw15766575763434542198:Nat:=0
def tw16013223082820778871:Nat:=0
def tw16042927600668534013:Nat:=0
def tw5105308628468956459:Nat:=0
def tw1171350499293897857:Nat:=0
def tw443534008044973177:Nat:=0
def tw823887088383875357:Nat:=0
def tw11973623110538076883:Nat:=0
def tw2663667890513406883:Nat:=0
def tw8382383298343742005:Nat:=0
def tw12166580973287593302:Nat:=0
def tw4194457044768837566:Nat:=0
def tw16997084016774572383:Nat:=0
def tw779709139766862843:Nat:=0
def tw15810175893157954932:Nat:=0
def tw4343128141092636791:Nat:=0
def tw16014547211188666524:Nat:=0
def tw15247436900113365221:Nat:=0
def tw44776559134230685:Nat:=0
def tw15051116476030945119:Nat:=0
def tw11308379277610002066:Nat:=0
def tw15281061810577198576:Nat:=0
def tw8894024010041509208:Nat:=0
def tw10386116731699365419:Nat:=0
def tw9214472092604844428:Nat:=0
def tw1073462348576181001:Nat:=0
def tw11456007310148968575:Nat:=0
def tw9156915940842748815:Nat:=0
def tw897989640627879661:Nat:=0
def tw17988278108839193719:Nat:=0
def tw4654612474474299470:Nat:=0
def tw3160623332598272005:Nat:=0
def tw12903958228018713385:Nat:=0
def tw4721794226902198639:Nat:=0
def tw14368701288198486501:Nat:=0
def tw15228568146124549121:Nat:=0
def tw4406220818628116367:Nat:=0
def tw17154007513374526525:Nat:=0
def tw6404090203190661633:Nat:=0
def tw180010985256358357:Nat:=0
def tw11940206737168373831:Nat:=0
def tw470149020203082676:Nat:=0
def tw2868306983939350869:Nat:=0
def tw17908197155267926099:Nat:=0
def tw8522987383972301376:Nat:=0
def tw2862900906445359785:Nat:=0
def tw5293781176801639731:Nat:=0
def tw15146047769310406016:Nat:=0
def tw2635185525668565591:Nat:=0
def tw3182824337481877612:Nat:=0
def tw4954039407100811626:Nat:=0
def tw12537083471534865403:Nat:=0
def tw14945652872350869279:Nat:=0
def tw1240928147122323916:Nat:=0
def tw8429186001776144821:Nat:=0
def tw9489881921256190391:Nat:=0
def tw14008607541550292205:Nat:=0
def tw1960113519158882505:Nat:=0
def tw7182256115742589021:Nat:=0
def tw7261497419601446924:Nat:=0
def tw1655016311632670492:Nat:=0
def tw14297632174740576919:Nat:=0
def tw8765420280983522312:Nat:=0
def tw4380068217947151361:Nat:=0
def tw15895819474386537623:Nat:=0
def tw10267304637644702496:Nat:=0
def tw1364836567458266508:Nat:=0
def tw476391784839873011:Nat:=0
def tw11976647003020088989:Nat:=0
def tw1874688618307722877:Nat:=0
def tw11884137773622197665:Nat:=0
def tw3653542770343989849:Nat:=0
def tw10887668919260597935:Nat:=0
def tw18002362009177419790:Nat:=0
def tw11772577323895273529:Nat:=0
def tw8343326470251631108:Nat:=0
def tw15620550232050531398:Nat:=0
def tw15948514113327958070:Nat:=0
def tw15805645437221337741:Nat:=0
def tw8429459833373204009:Nat:=0
def tw6307415257184303182:Nat:=0
def tw10763713888282253233:Nat:=0
def tw1801561361237000113:Nat:=0
def tw6447368397583495263:Nat:=0
def tw6227066583816650199:Nat:=0
def tw7371779428620455563:Nat:=0
def tw3838452775137097289:Nat:=0
def tw1306599387545746179:Nat:=0
def tw9551459669520855414:Nat:=0
def tw7463706057082653537:Nat:=0
def tw13405129303225802997:Nat:=0
def tw712308814872723321:Nat:=0
def tw13043663326251122551:Nat:=0
def tw15045859654161398286:Nat:=0
def tw14686522569128701289:Nat:=0
def tw10783617266225476194:Nat:=0
def tw8205473560921328908:Nat:=0
def tw7959066098711753623:Nat:=0
def tw2129457690972582012:Nat:=0
def tw3513292026643987563:Nat:=0
def tw9252452524482679507:Nat:=0
def tw17424466117661787113:Nat:=0
def tw800881928163296575:Nat:=0
def tw2640490511654737165:Nat:=0
def tw9475640324081714043:Nat:=0
def tw17706444665622834819:Nat:=0
def tw10842541346423734332:Nat:=0
def tw15846397169126315681:Nat:=0
def tw8425289675437738866:Nat:=0
def tw17605430802554620460:Nat:=0
def tw17875055925097780050:Nat:=0
def tw10790897807368900470:Nat:=0
def tw17428706441363119252:Nat:=0
def tw17975741530449127493:Nat:=0
def tw6313439047581932094:Nat:=0
def tw2397725176262233065:Nat:=0
def tw13972863740077959795:Nat:=0
def tw5090611003527129268:Nat:=0
def tw15467890767110154327:Nat:=0
def tw11460360566768147394:Nat:=0
def tw15627146102022500589:Nat:=0
def tw9800986267261432474:Nat:=0
def tw11489410589822918290:Nat:=0
def tw4006748186233527887:Nat:=0
def tw1941467406441451916:Nat:=0
def tw10631360176051072635:Nat:=0
def tw11095524937602160731:Nat:=0
def tw14855713342964682742:Nat:=0
def tw6458367896853002196:Nat:=0
def tw352555260505509990:Nat:=0
def tw8007971058184308978:Nat:=0
def tw6663426262052202334:Nat:=0
def tw13607140101676000435:Nat:=0
def tw16042038825405709243:Nat:=0
def tw8484012533060999751:Nat:=0
def tw2735180594232801634:Nat:=0
def tw14945661261295856528:Nat:=0
def tw14194580194515029879:Nat:=0
def tw599149279205852514:Nat:=0
def tw9479984448148475281:Nat:=0
def tw16837840766454202066:Nat:=0
def tw3835618305451047049:Nat:=0
def tw6697602478527720140:Nat:=0
def tw528021021309002977:Nat:=0
def tw11168854924034541546:Nat:=0
def tw3756131297870057594:Nat:=0
def tw6093828499495260765:Nat:=0
def tw2687807992898349259:Nat:=0
def tw10255027290954885809:Nat:=0
def tw3838280146393260794:Nat:=0
def tw4682067913960944980:Nat:=0
def tw4684071419374849935:Nat:=0
def tw2933610866618046014:Nat:=0
def tw7543246944270697313:Nat:=0
def tw11985350309579542969:Nat:=0
def tw15855931369832066875:Nat:=0
def tw1282865458837750784:Nat:=0
def tw13384641864698171678:Nat:=0
def tw14284682218358307656:Nat:=0
def tw1086523348293029676:Nat:=0
def tw1666098849886615892:Nat:=0
def tw8394013929354918851:Nat:=0
def tw12817553513593256096:Nat:=0
def tw4604163095781540284:Nat:=0
def tw3894486918372899699:Nat:=0
def tw9565709816432683104:Nat:=0
def tw13860821305667126904:Nat:=0
def tw6197630922332353442:Nat:=0
def tw17459560897198134754:Nat:=0
def tw8283363525806523920:Nat:=0
def tw9535790766071926545:Nat:=0
def tw10966119363056215507:Nat:=0
def tw15025761233644186199:Nat:=0
def tw9228011855753694613:Nat:=0
def tw1564220653688854722:Nat:=0
def tw710934421969417470:Nat:=0
def tw12482865638312272381:Nat:=0
def tw4197790498698212640:Nat:=0
def tw3532647383775131480:Nat:=0
def tw12066409665986415145:Nat:=0
def tw13266015514800817976:Nat:=0
def tw16214299788001019874:Nat:=0
def tw13172701501779057568:Nat:=0
def tw17478984287525289683:Nat:=0
def tw17978621622395143289:Nat:=0
def tw555681820134795094:Nat:=0
def tw12993520953719853490:Nat:=0
def tw16253808544869104894:Nat:=0
def tw6568461236473456172:Nat:=0
def tw3288406344863937425:Nat:=0
def tw7468668924086405109:Nat:=0
def tw2005132755879991164:Nat:=0
def tw120857805051889880:Nat:=0
def tw6125390788645682961:Nat:=0
def tw9079754372200945097:Nat:=0
def tw3711692944178901080:Nat:=0
def tw2528048272899055973:Nat:=0
def tw14020724083827410307:Nat:=0
def tw17001520474497104600:Nat:=0
def tw11012400760965115586:Nat:=0
def tw2842958830053899500:Nat:=0
def tw4301027850999195373:Nat:=0
def tw15508706129067009651:Nat:=0
def tw10581554008782549682:Nat:=0
def tw2051099178900817174:Nat:=0
def tw8453900282785301762:Nat:=0
def tw16813411217293752674:Nat:=0
def tw10999018373919786739:Nat:=0
def tw459944667761950935:Nat:=0
def tw12814095991750780025:Nat:=0
def tw352624622854294267:Nat:=0
def tw6100647570098956751:Nat:=0
def tw16504781398266917300:Nat:=0
def tw14236183532446409467:Nat:=0
def tw17490219479299490603:Nat:=0
def tw7564224534826055468:Nat:=0
def tw2998148722887727379:Nat:=0
def tw15781914242412060324:Nat:=0
def tw8450298085347404297:Nat:=0
def tw4600934012275454449:Nat:=0
def tw13051354040381128594:Nat:=0
def tw5030442087510425518:Nat:=0
def tw10600418506052422301:Nat:=0
def tw10822934170587714260:Nat:=0
def tw3902417803341210270:Nat:=0
def tw7868616446322436584:Nat:=0
def tw14167034383199634896:Nat:=0
def tw11083008851838485047:Nat:=0
def tw17567275093919511132:Nat:=0
def tw17676937674115684869:Nat:=0
def tw7309163733446911618:Nat:=0
def tw4858053019665010446:Nat:=0
def tw93352475939565158:Nat:=0
def tw5665913278400172257:Nat:=0
def tw5351456917186426285:Nat:=0
def tw14376786099052057080:Nat:=0
def tw1335895304622246487:Nat:=0
def tw9995496828901925476:Nat:=0
def tw11405990602555705771:Nat:=0
def tw6968554585515859419:Nat:=0
def tw9813079512076243889:Nat:=0
def tw14883606718208126385:Nat:=0
def tw12655578091426185363:Nat:=0
def tw14967044721651675387:Nat:=0
def tw13454952372793615512:Nat:=0
def tw16855123837524968491:Nat:=0
def tw18103098787781192062:Nat:=0
def tw1858297764263023734:Nat:=0
def tw18216165235968754829:Nat:=0
def tw5077522777153456235:Nat:=0
def tw12346622810358194846:Nat:=0
def tw4223843061508022835:Nat:=0
def tw14202927159916291784:Nat:=0
def tw8886848611596085579:Nat:=0
def tw5143096061627607429:Nat:=0
def tw3526705439967521163:Nat:=0
def tw1270601094883701270:Nat:=0
def tw6386941511121778079:Nat:=0
def tw10821234282320288991:Nat:=0
def tw15467870312179949891:Nat:=0
def tw4422947876799629900:Nat:=0
def tw904214792824719365:Nat:=0
def tw11059348892788240101:Nat:=0
def tw1272308681520452607:Nat:=0
def tw129717683601821914:Nat:=0
def tw4187583807895351642:Nat:=0
def tw1215419734470617659:Nat:=0
def tw6524817910125045754:Nat:=0
def tw10080163851743852309:Nat:=0
def tw17895386450542323886:Nat:=0
def tw17977631599254920030:Nat:=0
def tw17726393740126005778:Nat:=0
def tw1907879633735115788:Nat:=0
def tw15974305173037145772:Nat:=0
def tw14592744132451250694:Nat:=0
def tw10203694254917096166:Nat:=0
def tw391484072336969154:Nat:=0
def tw6920062320235638055:Nat:=0
def tw16317593891327741954:Nat:=0
def tw8629007298093734246:Nat:=0
def tw14083822025806769635:Nat:=0
def tw906759067060741776:Nat:=0
def tw5567085126937111832:Nat:=0
def tw10788558146842848272:Nat:=0
def tw1532616155666362256:Nat:=0
def tw4094817603240228026:Nat:=0
def tw15339201762675754995:Nat:=0
def tw4119061544472549765:Nat:=0
def tw14535539815215112470:Nat:=0
def tw6828637052293697360:Nat:=0
def tw14560485947358239299:Nat:=0
def tw17458840623844118429:Nat:=0
def tw191375148977377506:Nat:=0
def tw9162640184667254021:Nat:=0
def tw16120162542881114907:Nat:=0
def tw15906966331906335908:Nat:=0
def tw12047235073896577919:Nat:=0
def tw16503329268884698460:Nat:=0
def tw12845747874826427519:Nat:=0
def tw5643634034414104591:Nat:=0
def tw7296557066380562008:Nat:=0
def tw7317757460834198449:Nat:=0
def tw12941487019113311606:Nat:=0
def tw7594115223083884247:Nat:=0
def tw1031993705695497158:Nat:=0
def tw5098781168840688033:Nat:=0
def tw11013051103611290154:Nat:=0
def tw14661080424351606095:Nat:=0
def tw7279674077203994746:Nat:=0
def tw10401667393079229476:Nat:=0
def tw15348975900617028386:Nat:=0
def tw15807405867247769353:Nat:=0
def tw16450755991774196380:Nat:=0
def tw14299997954959526629:Nat:=0
def tw7554091166834563732:Nat:=0
def tw14753069206044034878:Nat:=0
def tw12224994512896319980:Nat:=0
def tw17286055914565350955:Nat:=0
def tw9442709424516128866:Nat:=0
def tw10487582275603679865:Nat:=0
def tw7669643314103874726:Nat:=0
def tw11999796361803742010:Nat:=0
def tw9033667896491900110:Nat:=0
def tw5071119568262576598:Nat:=0
def tw14090362922457184880:Nat:=0
def tw15806725756182800675:Nat:=0
def tw4731898435950066717:Nat:=0
def tw7280441969111120112:Nat:=0
def tw9686836439643829735:Nat:=0
def tw5652779161889058337:Nat:=0
def tw3835773134918342964:Nat:=0
def tw1348613419917335118:Nat:=0
def tw13725369349895094279:Nat:=0
def tw7359353056415928211:Nat:=0
end PySem.W.Fast
open PySem PySem.W PyProof.Rows
set_option maxRecDepth 100000 in
set_option maxHeartbeats 0 in
theorem PySem.Challenge.cw_shrinkhouse_k27_whole_no_part_fails_holds : PySem.Challenge.rw_shrinkhouse_k27_whole_no_part_fails.Holds := by
 w_on;o_law;k_head;(case hw=>w_witness2)
 k_fill
 exact PV.Ep (p:=K18.Pr) (l:=PySem.Challenge.rw_shrinkhouse_k27_whole_no_part_fails) (lw:=36) (n:=17) rfl rfl rfl ⟨rfl,by decide,by decide⟩ (fun w h Y=>PySem.W.kIn_of Y) (fun w=>by kernel_rfl) rfl rfl rfl K18.Kq
#print axioms PySem.Challenge.cw_shrinkhouse_k27_whole_no_part_fails_holds
