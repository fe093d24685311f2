import PyProof.Rows.All
import Wide.All
import OpenK.AllK
import Wide.FinOn
import Lean
import PyProof.EqAt
import PyProof.EqKinds
import PyProof.TupleCall
import PyProof.StrLawsIn
import KE.KTryMore
import KE.KDictOf
import PyProof.Draws
import PyProof.EnumMake
import PyProof.Rows.EnumRows
import PyProof.ZipIter
import KE.KRevIter
import KE.KDictList
import PyProof.ListRange
import PyProof.RulesTry
import PySem.Challenge.RW_shrinkhouse_k19_no_question_twice
set_option autoImplicit false
set_option Elab.async false
set_option linter.all false
set_option maxRecDepth 100000
set_option maxHeartbeats 4000000
set_option compiler.extract_closed false
open List renaming length_map→a_, getElem?_eq_getElem→c_, getElem?_map→h_, getElem?_eq_some_iff→i_, map_cons→o_, mem_cons→t_, mem_map→x_, mem_of_getElem?→y_, getD_eq_getElem?_getD→A_, size_toArray→B_, mem_singleton→D_, mem_cons_of_mem→E_, length_append→F_, length_cons→G_, map_append→I_, map_map→L_, mem_append_right→O_, mem_cons_self→S_, mem_append→U_, mem_iff_getElem?→V_, all_eq_true→Wm, length_take→Wp, lookup_cons→Wr, length_singleton→Ws, length_range→Wu, range→Wv, filterMap_cons→Ww, getElem?_append_right→Wy, all_cons→WC, getElem?_append_left→WD, getElem?_eq_none→WI, append_nil→WJ, mem_range→WK, not_mem_nil→WM, mem_of_mem_take→WQ, take_of_length_le→W2, map_congr_left→W5, filter_cons→Xd, map_nil→Xg, take_zero→Xj, getElem?_range→Xm, drop_eq_getElem_cons→Xo, getElem?_zip_eq_some→Xp, getElem?_drop→Xs, mem_iff_getElem→Xv, find?_cons→XB, length_set→XC, getElem?_set_self→XF, length_drop→XJ, any_eq_true→XM, zip_cons_cons→XS, take_append_drop→XT, mem_filter→XW, lookup→X0, take_add_one→X1, all_map→X2, take_length→X8, filter_eq_nil_iff→Yh, any_cons→Ym, append_assoc→Yp, getElem?_set_ne→Yr, getElem_mem→Yy, nodup_cons→YJ, pairwise_cons→YR, getElem?_cons_succ→Y0, flatten_cons→Y9, any_map→Zc, length_pos_of_mem→Zd, length_replicate→Zg, contains_iff_mem→Zj, zipIdx_cons→Zl, map_take→Zs, mem_append_left→Zv, length→Zw, mem_zipIdx_iff_getElem?→ZE, length_reverse→ZJ, forIn_nil→ZX, length_zipIdx→ZY, take_sublist→Z5, ext_getElem?→Z7, getElem?_replicate→aaj, cons_append→aal, filter_cons_of_pos→aam, filter_cons_of_neg→aan, length_eq_zero_iff→aap, pairwise_lt_range→aaD, of_mem_zip→aaI, forIn_cons→aaJ, length_nil→aaK, range_succ→aaN, length_zip→aaO, length_filter_le→aaS, getElem?_reverse→aaU, getElem?_zipIdx→aa9, mem_of_mem_drop→aa_, pairwise_append→abb, takeWhile_cons→abl, length_take_le→abm, mem_map_of_mem→abn, contains→abt, map_drop→abu, mem_filterMap→abx, getElem_range→abG, getElem?_take→abJ, count_pos_iff→abK, all_nil→ab5, getElem_take→ab6, countP_cons→ace, drop_length→ach, isEmpty_iff→aci, foldl_cons→acs, zipIdx_nil→act, countP_map→acu, replicate→acF, drop_zero→acN
open PySem renaming wpAny_bind→d_, Shared→j_, wpAny_pure→r_, PyData→H_, Program→N_, starEach→T_, compareOp→Wx, wpAny_truthy_bool→WF, Around→WO, wpAny_field→WP, cellsFrom→WR, FuncData→W4, behindInMarks→W7, bootBuiltins→W8, wpAny_callSpecial?_slot→Xc, foldedSetIterable→Xe, wpAny_newObj_type→Xf, wpAny_seqItems→Xi, wpAny_call_entry→Xr, rawInt→Xt, strIterType→Xu, mem_of_lookup→Xw, swapsWith→Xx, wpAny_mono→Xz, NameKind→XE, attributeBase→XH, backTo→XO, wpAny_setField_rec→XR, wpAny_passesOwn→XX, IsPair→X5, wpAny_getItem_str_slice→X7, wpAny_of_eq→X_, sysModules→Yd, wpAny_pyIter_tuple→Yg, wpAny_pyIter_list→Yo, keywordEach→Yt, binaryOp→YE, ReadsAll→YG, wpAny_specialOf→YM, wpAny_Call_Name_kw→YN, wpAny_rule→YQ, sliceBounds→YX, Operator→Y1, wpAny_pyIter_rangeiter→Y3, eqIsQuiet_byValue→Za, codeAny→Zo, wpAny_holding→Zp, Keyword→Zq, Builtin→Zr, wpAny_updateSeq_pair→Zy, letOwnedTupleGo→Zz, post_val_or_str→ZA, pyHashByItsType→ZD, wpAny_typeOf→ZM, backToKw→ZW, getItem→Z6, wpAny_comprehension_free→Z_, wpAny_onRaise→aac, wpAny_pyHash_int→aaf, wpAny_pyHash_str→aag, PassesOwn→aah, Paired→aaq, builtinsNs→aar, holding→aas, assignEach→aat, wpAny_pyNext_list_item→aau, wpAny_pyNext_range_end→aav, codeAny_mono→aaw, IsPart→aay, wpAny_Call_method_late→aaA, call_meets→aaB, callerA→aaC, wpAny_execs_nil→aaF, codeAny_builtin→aaL, wpAny_loadPart'→aaM, wpAny_isTrue_Compare1→aaQ, wpAny_pyNext_list_end→aaR, isTrue→aaX, wpAny_loadName_local→aaY, IsRangeIter→aaZ, subscripted→aa3, compEnvC→aa5, newFunctionEnv→aa6, standAt→abg, wpAny_loadName_cell→abh, rangeSize_one→abo, Within→abL, bindArgs→abS, valueAt→abX, tupleKind→ab7, assign→ab8, pyNext→ab9, getMethod→aca, Arguments→acb, sizeLine_eq→acl, wpAny_letGo→acn, UnaryOp→acy, BindsTo→acz, IsRange→acB, call→acJ
open PySem.W renaming Frag→e_, findIn→WG, keepIn→WH, kia_one→WZ, emptyDict→W6, instObj→Xy, fnOf→XG, codeIn→Ys, plainGet→Yw, nsIn→Yz, callWith_K→YO, hasDictIn→Y4, isFn→Y5, kitOne→Y6, methodCall_KW→Zh, mg_of→Zu, plainGet_of→ZI, lookIn→ZT, methodObj→Z1, plainOver→Z3, specialIn→Z4, cellsFrom_some→aax, takerIn→aaG, makesIn→aaH, kitx_list→abO, kitx_dict→abP, handedIn→ab_, OpenLaw→acp, readsIn→acq, findCls→acr, CFound→acO, WalkO→acR
open PySem.Heap renaming get?_push_of_some→l_, get?_push_size→v_, lt_size→z_, size_push→WX, SameBut→Ye, IsTuple→abY
open Option renaming map_eq_some_iff→m_, map_some→YL, isSome_iff_exists→Z9, getD_none→aak, isSome_some→abC, getD_some→acd
open Int renaming toNat_natCast→n_, zero_add→Wt, eq_ofNat_of_zero_le→WL, emod_nonneg→XA, natCast_add→XZ, emod_lt_of_pos→Yf, natCast_mul→ZG, toNat→ZP, fdiv_eq_ediv_of_nonneg→ZS, mul_one→Z2, le_refl→abd, mul_zero→ab4
open Bool renaming and_eq_true→q_, false_ne_true→s_, and_true→WN, eq_iff_iff→W9, false_xor→Zb, true_xor→Zt, and_self→abq, false_or→abr, false_eq_true→abB, or_eq_true→acv, false_and→acE
open Nat renaming le_refl→w_, lt_of_lt_of_le→C_, le_trans→Q_, ne_of_lt→R_, lt_irrefl→WT, le_of_lt→W0, lt_or_ge→Xa, zero_le→Xn, div_add_mod→XD, min_eq_left→XY, lt_succ_self→Yx, div_eq_of_lt→YA, mod_eq_of_lt→YB, lt_of_le_of_lt→YT, eq_zero_or_pos→YU, ne_of_gt→Y2, add_zero→Ze, le_add_right→Zm, mul_add_mod'→Zn, mul_add_div→ZF, mul_le_mul_left→ZK, mul_le_mul→ZZ, mul_comm→aaE, le_succ→aa1, le_of_eq→abN, lt_trans→abV, sub_zero→ab2, add_comm→ab3, min_eq_right→acj, mod_lt→acP
open PySem.SeqAt renaming shaped→J_, canLay_of_shaped→Xk, room_of_shaped→aa7, notIn_listAt→abA, eqAt_reads→acg, in_listAt→aco
open Option.some renaming inj→K_
open PySem.PyData renaming canLayAll0→M_, eqv→P_, depthAll→Wn, canLay0→WY, tuple→W3, depth→Xh, eqvAll→Yn, list→Yv, str→YV, strOk→abW, int→acL
open PySem.Value renaming ref→Wo, none→Yb, type→Yc, int→Zk, bool→ZQ, str→aae, float→ack, isStrOf→acQ, builtin→acS
open PySem.PyData.eqvAll renaming eq_2→Wz, eq_1→YS
open Ne renaming symm→WA
open PyProof.Rows renaming slot_tuple_getitem→WB, callWith_type1→WW, boot_list→Yi, boot_range→Yj, boot_tuple→YZ, AllBare→ZL, subscriptTail_builtinR→aaz, boot_int→aaT, envOfC→aa2, entry_tuple_getitem→abi, subscriptTail→abp, IntsAre→acA
open PySem.Builtin.SmallTypes renaming nextOf→WE, ownedTupleIsFree→YI, ownedTupleHandOut→abk
open False renaming elim→WS
open PySem.NameKind renaming free→WU, cell→XI
open True renaming intro→WV
open PySem.Str renaming empty→W1, ofString→W_, length_append→X3, length→abz
open PySem.Builtin.Str renaming occurrences→Xb
open PySem.Txt renaming slice→XN
open PySem.F renaming slot_tuple_iterator_next→XQ, plainAttrs_list→X9, slot_list_getattribute→YH, slot_tuple_hash→Y_, slot_list_append→Zf, slot_range_reversed→Zi, args_tuple_iterator_next_1→ZB, slot_zip_next→ZC, entry_tuple_iterator_next→ZN, type_list_append→aad, slot_tuple_count→aaV, slot_list_extend→aaW, plain_reversed_new→aa8, slot_list_clear→abe, args_zip_next_1→ab1
open PySem.Builtin.Slice renaming slicePlaces→XU, sliceAdjust→YC, sliceApplied→ZU
open PySem.Builtin.Tuple renaming tupleHashOf→XV, tupleExact→X4, tupleItemsOf→ZV
open Sum renaming inl→Ya, inr→abf
open ForInStep renaming yield→Yk
open PySem.PyData.eqv renaming eq_8→Yl, eq_7→aaP, eq_6→acw, eq_5→acx
open PySem.Builtin.List renaming listTooLong→YF
open PySem.Builtin.Range renaming rangeSize→YW, rangeFitsLong→ZO
open Classical renaming propDecidable→YY, byContradiction→Z0
open PySem.Calls renaming callWith_builtin→Y7, Name_function_global→ZR, evalArgs_plain→aa4
open List.Pairwise renaming nil→Y8
open PySem.Around renaming under_plainId→Zx, under→abQ
open Array renaming length_toList→ZH, forIn_toList→abI
open PySem.Paired renaming length→Z8
open PySem.Data renaming cell→aai, fields→aa0, seq→acK
open PySem.Builtin.Dict renaming updateFrom→aao
open PySem.Heap.SameBut renaming update→abj
open PySem.SeqAt.EqAt renaming int_str→abv, str_int→abw
open PySem.Code renaming quiet_builtin→abE, isFrame→abR
open PySem.Obj renaming data_mapFields→abF
open PySem.SeqAt.Reads renaming unique→abH
open PySem.WalksT renaming enumerateD→abZ
open PySem.Shared renaming heap→acm
open PyProof.Rows.IsTup renaming new→acU
open Iff renaming rfl→acX
open Sum.inl renaming inj→ac0
noncomputable abbrev b_:=@of_decide_eq_true
noncomputable abbrev f_:=@decide_eq_true
noncomputable abbrev g_:=@decide_eq_false
noncomputable abbrev k_:=@Option
noncomputable abbrev p_:=@if_neg
noncomputable abbrev u_:=@if_pos
noncomputable abbrev Wq:=@decide_eq_true_iff
noncomputable abbrev Xl:=@beq_eq_false_iff_ne
noncomputable abbrev Xq:=@beq_iff_eq
noncomputable abbrev X6:=@beq_self_eq_true
noncomputable abbrev Yq:=@decide_eq_true_eq
noncomputable abbrev Yu:=@or_false
noncomputable abbrev YD:=@String
noncomputable abbrev YK:=@if_true
namespace L2
open PySem PySem.Spec PyProof.Rows
noncomputable abbrev Key:=Sum Int Str
noncomputable def qj:Key->Value->Bool
 | .inl k,v=>Value.isInt k v
 | .inr x,v=>acQ x v
noncomputable def OY (w:World):Key->Int
 | .inl k=>hashInt k
 | .inr x=>hashStr w x
theorem bq:∀ {k:Key}{v:Value},qj k v=true->(∃ i t,k=Ya i/\v=Zk i t)∨(∃ x t,k=abf x/\v=aae x t)
 | .inl i,v,h=>by
  obtain⟨t,e⟩:=Value.isInt_shape (k:=i) (v:=v) h;exact .inl ⟨i,t,rfl,e⟩
 | .inr x,v,h=>by
  obtain⟨t,e⟩:=Value.isStrOf_shape (x:=x) (v:=v) h;exact .inr ⟨x,t,rfl,e⟩
theorem xM (i:Int) (t:Tok):qj (.inl i) (.int i t)=true:=by simp [qj,Value.isInt]
theorem xN (x:Str) (t:Tok):qj (.inr x) (.str x t)=true:=by simp [qj,acQ]
theorem EW (a b:Int):decide ((Ya a:Key)=Ya b)=(a==b):=by
 by_cases e:a=b
 ·subst e;simp
 ·have h:¬ (Ya a:Key)=Ya b:=fun q=>e (ac0 q)
  rw[g_ h];exact (Xl.mpr e).symm
theorem EX (a b:Str):decide ((abf a:Key)=abf b)=decide (a=b):=by
 by_cases e:a=b
 ·subst e;simp
 ·have h:¬ (abf a:Key)=abf b:=fun q=>e (Sum.inr.inj q)
  rw[g_ h,g_ e]
theorem EY (a:Int) (b:Str):decide ((Ya a:Key)=abf b)=false:=g_ (fun q=>nomatch q)
theorem EZ (a:Str) (b:Int):decide ((abf a:Key)=Ya b)=false:=g_ (fun q=>nomatch q)
noncomputable def aW (prog:N_) (w:World):PySem.KeyKind prog w Key where
 is:=qj
 hash:=OY w
 inj:=fun v a b ha hb=>by
  rcases bq ha with ⟨i,t,rfl,rfl⟩ | ⟨x,t,rfl,rfl⟩
  ·rcases bq hb with ⟨j,u,rfl,e⟩ | ⟨y,u,rfl,e⟩
   ·injection e with e1 _;rw[e1]
   ·exact nomatch e
  ·rcases bq hb with ⟨j,u,rfl,e⟩ | ⟨y,u,rfl,e⟩
   ·exact nomatch e
   ·injection e with e1 _;rw[e1]
 byValue:=fun k v h=>by
  rcases bq h with ⟨i,t,rfl,rfl⟩ | ⟨x,t,rfl,rfl⟩<;>rfl
 pyHash:=fun hv h=>by
  rcases bq hv with ⟨i,t,rfl,rfl⟩ | ⟨x,t,rfl,rfl⟩
  ·exact aaf h
  ·exact aag h
 eqBool:=fun hu hv h=>by
  rcases bq hu with ⟨i,t,rfl,rfl⟩ | ⟨x,t,rfl,rfl⟩
  ·rcases bq hv with ⟨j,u,rfl,rfl⟩ | ⟨y,u,rfl,rfl⟩
   ·rw[EW] at h;exact wpAny_eqBool_int h
   ·rw[EY] at h;exact abv i t y u _ _ _ _ h
  ·rcases bq hv with ⟨j,u,rfl,rfl⟩ | ⟨y,u,rfl,rfl⟩
   ·rw[EZ] at h;exact abw x t j u _ _ _ _ h
   ·rw[EX] at h;exact wpAny_eqBool_str h
 «strs»:=fun k x t v h=>by
  rcases bq h with ⟨i,u,rfl,e⟩ | ⟨y,u,rfl,e⟩
  ·exact nomatch e
  ·injection e with e1 _
   subst e1
   cases v<;>rfl
theorem sS (prog:N_) (w:World) (i:Int) (t:Tok):(aW prog w).is (.inl i) (.int i t)=true:=xM i t
theorem sT (prog:N_) (w:World) (x:Str) (t:Tok):(aW prog w).is (.inr x) (.str x t)=true:=xN x t
end L2
namespace L2
open PySem PySem.Spec PyProof.Rows
inductive V where
 | aJ | bl (b:Bool) | int (i:Int) | str (x:Str) | wI (b:Array UInt8) | E1 (b:UInt64) | ref (a:Addr) | ty (n:YD)
 deriving DecidableEq
def RelV:V->Value->Prop
 | .aJ,u=>u=Yb
 | .bl b,u=>u=ZQ b
 | .int i,u=>∃ t,u=Zk i t
 | .str x,u=>∃ t,u=aae x t
 | .wI b,u=>∃ t,u=Value.bytes b t
 | .E1 b,u=>∃ t,u=ack b t
 | .ref a,u=>u=Wo a
 | .ty n,u=>u=Yc n
abbrev Vals:List V->List Value->Prop:=aaq RelV
theorem Vals.length {xs:List V}{us:List Value} (r:Vals xs us):xs.length=us.length:=Z8 r
theorem Vals.get:∀ {xs:List V}{us:List Value}{i:Nat}{x:V},Vals xs us->xs[i]? = some x->∃ u,us[i]? = some u/\RelV x u
 | _,_,_,_,.nil,e=>by simp at e
 | _,_,0,_,.cons r _,e=>by simp at e;subst e;exact⟨_,rfl,r⟩
 | _,_,i+1,x,.cons _ t,e=>by
  obtain⟨u,h1,h2⟩:=Vals.get (i:=i) (x:=x) t (by simpa using e);exact⟨u,by simpa using h1,h2⟩
theorem Vals.append:∀ {xs ys:List V}{us ws:List Value},Vals xs us->Vals ys ws->Vals (xs++ys) (us++ws)
 | _,_,_,_,.nil,s=>s
 | _,_,_,_,.cons r t,s=>.cons r (Vals.append t s)
theorem Vals.take:∀ {xs:List V}{us:List Value} (n:Nat),Vals xs us->Vals (xs.take n) (us.take n)
 | _,_,0,_=>.nil
 | _,_,_+1,.nil=>.nil
 | _,_,n+1,.cons r t=>.cons r (Vals.take n t)
theorem Vals.drop:∀ {xs:List V}{us:List Value} (n:Nat),Vals xs us->Vals (xs.drop n) (us.drop n)
 | _,_,0,r=>r
 | _,_,_+1,.nil=>.nil
 | _,_,n+1,.cons _ t=>Vals.drop n t
def jP:k_ V->k_ Value->Prop
 | some v,some u=>RelV v u
 | none,none=>True
 | _,_=>False
def KV {κ:Type}:List (κ×V)->List (κ×Value)->Prop:=aaq fun (p:κ×V) (q:κ×Value)=>p.1=q.1/\RelV p.2 q.2
noncomputable def kV:Key->V
 | .inl i=>.int i
 | .inr x=>.str x
inductive HO where
 | lst (xs:List V)
 | tup (xs:List V)
 | dK (am:List (Key×V)) | dT (am:List (List Key×V))
 | set (S:Int->Bool) (n:Nat)
 | ins (C dx:Addr) (fs:List (Str×V))
 | own (x:Addr)
 | xd (fs:List (Str×V))
 | met (f x:Addr)
 | xO (lo hi:Int)
 | dS (o:Obj) (u:HO)
 | E2 (ps:Array Value)
 | ext (φ:Heap->Prop)
noncomputable abbrev Hp:=Addr->k_ HO
noncomputable def upd (H:Hp) (a:Addr) (o:HO):Hp:=fun b=>if b=a then some o else H b
theorem az {H:Hp}{a:Addr}{o:HO}:upd H a o a=some o:=by unfold upd;rw[u_ rfl]
theorem aw {H:Hp}{a b:Addr}{o:HO} (h:b≠a):upd H a o b=H b:=by unfold upd;rw[p_ h]
theorem aD {H:Hp}{a b:Addr}{o:HO} (h:H a=some o) (h':H b=none):a≠b:=by
 intro e;subst e;rw[h] at h';cases h'
section
variable (P:N_) (w:World)
def aS (H:Hp) (h:Heap) (a:Addr):HO->Prop
 | .lst xs=>xs.length<=sizeLine/\∃ (ai:List Value) (n:Nat),Vals xs ai/\h.get? a=some { cls:=.type "list",data:=.seq ai.toArray n }
 | .tup xs=>xs.length<=sizeLine/\∃ ai:List Value,Vals xs ai/\IsTup h a ai.toArray
 | .dK am=>am.length<=sizeLine/\(a==Yd)=false/\∃ vs,KV am vs/\h.DictOf (aW P w) a vs
 | .dT am=>am.length<=sizeLine/\(a==Yd)=false/\∃ xs:List (List Key×Addr×Value),
   aaq (fun (p:List Key×V) (q:List Key×Addr×Value)=>p.1=q.1/\H q.2.1=some (.tup (p.1.map kV))/\RelV p.2 q.2.2) am xs /\
   ∃ o es ep,h.get? a=some o/\o.ExactDict/\o.data=.dict es ep/\es.toList=xs.map (entryOfKey (ab7 (aW P w)))/\(xs.map (·.1)).Nodup
 | .set S n=>h.SetOf (intKind P w) a S n
 | .ins C dx fs=>H dx=some (.own a)/\fs.length<=1000/\dx≠a/\h.get? a=some (Xy C dx) /\
   ∃ mA,h.Ns1 dx mA/\(∀ f,jP (fs.lookup f) (mA f))/\abL mA (fs.map (·.1))
 | .own _=>∃ o,h.get? a=some o
 | .xd fs=>∃ mA,h.Ns1 a mA/\∀ f,jP (fs.lookup f) (mA f)
 | .xO lo hi=>∃ t u v,h.get? a=some { cls:=.type "range",data:=.fields #[.int lo t,.int hi u,.int 1 v] }
 | .dS o u=>h.get? a=some o/\aS H h a u
 | .E2 ps=>h.get? a=some { cls:=.none,data:=.fields ps }
 | .met f x=>h.get? a=some (Z1 (.ref f) (.ref x))
 | .ext φ=>φ h/\(∃ o,h.get? a=some o)/\∀ h1 h2:Heap,φ h1->(∀ o,h1.get? a=some o->h2.get? a=some o)->φ h2
def iX (H:Hp) (h:Heap):Prop:=∀ a o,H a=some o->aS P w H h a o
end
section
variable {P:N_}{w:World}{H H':Hp}{h h':Heap}{a:Addr}{o:HO}
theorem aS.lt (x:aS P w H h a o):a<h.objs.size:=by
 cases o with
 | lst xs=>obtain⟨_,_,_,_,e⟩:=x;exact z_ e
 | tup xs=>obtain⟨_,_,_,p⟩:=x;exact p.lt
 | dK am=>obtain⟨_,_,_,_,o,_,_,e,_⟩:=x;exact z_ e
 | dT am=>obtain⟨_,_,_,_,o,_,_,e,_⟩:=x;exact z_ e
 | set S n=>obtain⟨o,_,_,_,e,_⟩:=x;exact z_ e
 | ins C dx fs=>obtain⟨_,_,_,e,_⟩:=x;exact z_ e
 | own y=>obtain⟨_,e⟩:=x;exact z_ e
 | xd fs=>obtain⟨_,⟨_,_,_,e,_⟩,_⟩:=x;exact z_ e
 | xO lo hi=>obtain⟨_,_,_,e⟩:=x;exact z_ e
 | dS ob u=>obtain⟨e,_⟩:=x;exact z_ e
 | E2 ps=>exact z_ (show h.get? a=some _ from x)
 | met f y=>exact z_ (show h.get? a=some _ from x)
 | ext φ=>obtain⟨_,⟨_,e⟩,_⟩:=x;exact z_ e
theorem aaq.J6 {α β:Type}{F G:α->β->Prop}:∀ {l₁:List α}{l₂:List β},aaq F l₁ l₂->(∀ a b,F a b->G a b)->aaq G l₁ l₂
 | _,_,.nil,_=>.nil
 | _,_,.cons r t,f=>.cons (f _ _ r) (aaq.J6 t f)
theorem aS.eE (x:aS P w H h a o) (k:∀ b u,(b=a∨H b=some (.own a))->h.get? b=some u->h'.get? b=some u)
  (ho:∀ b,H b=some (.own a)->H' b=some (.own a)) (ht:∀ b xs,H b=some (.tup xs)->H' b=some (.tup xs)):aS P w H' h' a o:=by
 induction o with
 | lst xs=>obtain⟨z,ai,n,r,e⟩:=x;exact⟨z,ai,n,r,k _ _ (.inl rfl) e⟩
 | tup xs=>obtain⟨z,ai,r,ob,e,c⟩:=x;exact⟨z,ai,r,ob,k _ _ (.inl rfl) e,c⟩
 | dK am=>obtain⟨z,y,vs,r,ob,es,ep,e,c⟩:=x;exact⟨z,y,vs,r,ob,es,ep,k _ _ (.inl rfl) e,c⟩
 | dT am =>
  obtain⟨z,y,xs,r,ob,es,ep,e,c⟩:=x;exact⟨z,y,xs,aaq.J6 r fun p q z=>⟨z.1,ht _ _ z.2.1,z.2.2⟩,ob,es,ep,k _ _ (.inl rfl) e,c⟩
 | set S n=>obtain⟨ob,es,ep,t,e,c⟩:=x;exact⟨ob,es,ep,t,k _ _ (.inl rfl) e,c⟩
 | ins C dx fs =>
  obtain⟨d,z,ne,e,mA,⟨od,es,ep,e2,c⟩,r⟩:=x;exact⟨ho _ d,z,ne,k _ _ (.inl rfl) e,mA,⟨od,es,ep,k _ _ (.inr d) e2,c⟩,r⟩
 | own y=>obtain⟨ob,e⟩:=x;exact⟨ob,k _ _ (.inl rfl) e⟩
 | xd fs=>obtain⟨mA,⟨od,es,ep,e,c⟩,r⟩:=x;exact⟨mA,⟨od,es,ep,k _ _ (.inl rfl) e,c⟩,r⟩
 | xO lo hi=>obtain⟨t,u,v,e⟩:=x;exact⟨t,u,v,k _ _ (.inl rfl) e⟩
 | dS ob u ih=>obtain⟨e,q⟩:=x;exact⟨k _ _ (.inl rfl) e,ih q⟩
 | E2 ps =>
  have e:h.get? a=some { cls:=.none,data:=.fields ps }:=x;show h'.get? a=some { cls:=.none,data:=.fields ps };exact k a _ (.inl rfl) e
 | met f y =>
  have e:h.get? a=some (Z1 (.ref f) (.ref y)):=x;show h'.get? a=some (Z1 (.ref f) (.ref y));exact k a _ (.inl rfl) e
 | ext φ=>obtain⟨p,⟨o,e⟩,st⟩:=x;exact⟨st _ _ p fun o q=>k _ _ (.inl rfl) q,⟨o,k _ _ (.inl rfl) e⟩,st⟩
theorem iX.lt (x:iX P w H h) (e:H a=some o):a<h.objs.size:=(x a o e).lt
theorem iX.fresh (x:iX P w H h) (e:h.objs.size<=a):H a=none:=by
 cases q:H a with
 | none=>rfl
 | some u=>exact absurd (C_ (x.lt q) e) (WT _)
theorem iX.kept (x:iX P w H h) (k:∀ b u,h.get? b=some u->h'.get? b=some u):iX P w H h':=fun a o e =>
 (x a o e).eE (fun b u _ q=>k b u q) (fun _ q=>q) fun _ _ q=>q
theorem iX.laid (x:iX P w H h) (k:∀ b u,h.get? b=some u->h'.get? b=some u) (hp:h.objs.size<=a) (new:aS P w (upd H a o) h' a o):iX P w (upd H a o) h':=fun b u e=>by
 have hn:=x.fresh hp;by_cases hb:b=a
 ·subst hb;rw[az] at e;cases e;exact new
 ·rw[aw hb] at e;exact (x b u e).eE (fun c v _ q=>k c v q) (fun c q=>by rw[aw (aD q hn)];exact q) fun c xs q=>by rw[aw (aD q hn)];exact q
end
def Rd (H:Hp) (a:Addr) (u:HO):Prop:=H a=some u∨∃ o,H a=some (.dS o u)
theorem Rd.ok {P:N_}{w:World}{H:Hp}{h:Heap}{a:Addr}{u:HO} (r:Rd H a u) (x:iX P w H h):aS P w H h a u:=by
 rcases r with r | ⟨o,r⟩
 ·exact x a u r
 ·obtain⟨_,q⟩:=x a _ r;exact q
def J7:k_ HO->Prop
 | some (.lst _)=>True
 | some (.dK _)=>True
 | some (.dT _)=>True
 | some (.set _ _)=>True
 | some (.ins _ _ _)=>True
 | some (.ext _)=>True
 | _=>False
section
variable {P:N_}{w:World}{H:Hp}{h h':Heap}{x e:Addr}{o':HO}
theorem iX.write (ok:iX P w H h) (mu:J7 (H x)) (he:e=x∨H e=some (.own x)) (k:∀ b u,b≠e->h.get? b=some u->h'.get? b=some u) (JH:∃ u,h'.get? e=some u)
  (new:aS P w (upd H x o') h' x o'):iX P w (upd H x o') h':=fun b u q=>by
 have J8:∀ c y,H c=some (.own y)->c≠x:=fun c y r z=>by subst z;rw[r] at mu;exact mu
 have OZ:∀ c xs,H c=some (.tup xs)->c≠x:=fun c xs r z=>by subst z;rw[r] at mu;exact mu
 by_cases hb:b=x
 ·subst hb;rw[az] at q;cases q;exact new
 ·rw[aw hb] at q;by_cases E3:b=e
  ·have q':H b=some (.own x):=by
    rcases he with z | z
    ·exact absurd (E3.trans z) hb
    ·rw[E3];exact z
   rw[q] at q';cases q';obtain⟨v,hv⟩:=JH;exact⟨v,by rw[E3];exact hv⟩
  ·refine (ok b u q).eE (fun c v hc r=>k c v ?_ r) (fun c r=>by rw[aw (J8 c b r)];exact r) fun c xs r=>by rw[aw (OZ c xs r)];exact r
   rcases hc with rfl | hc
   ·exact E3
   ·rintro rfl;rcases he with z | z
    ·exact J8 c b hc z
    ·rw[hc] at z;cases z;exact hb rfl
end
structure Un (fs ex:List Addr) (H H':Hp) (h h':Heap):Prop where
 keep:∀ b o,h.get? b=some o->H b=none->b∉fs->b∉ex->h'.get? b=some o
 slot:∀ b o,h.get? b=some o->H b=none->b∈fs->b∉ex->∃ sl,h'.get? b=some { o with slots:=sl }
 free:∀ b o,h.get? b=some o->H b=none->b∉ex->H' b=none
 there:∀ b o,h.get? b=some o->b∉ex->∃ o',h'.get? b=some o'
 oZ:∀ b xs,H b=some (.tup xs)->H' b=some (.tup xs)
 nq:∀ b o u,H b=some (.dS o u)->H' b=some (.dS o u)
 rj:∀ b ps,H b=some (.E2 ps)->∃ more,H' b=some (.E2 (ps++more))
section
variable {fs fA ex VY:List Addr}{H H1 H2:Hp}{h h1 h2 h':Heap}{a x e:Addr}{o:HO}
theorem Un.any (u:Un fs ex H H1 h h1) {b:Addr}{ob:Obj} (q:h.get? b=some ob) (n:H b=none) (hx:b∉ex):∃ sl,h1.get? b=some { ob with slots:=sl }:=by
 by_cases hb:b∈fs
 ·exact u.slot b ob q n hb hx
 ·exact⟨ob.slots,u.keep b ob q n hb hx⟩
theorem Un.kept (k:∀ b u,h.get? b=some u->h'.get? b=some u):Un fs ex H H h h' :=
 ⟨fun b ob q _ _ _=>k b ob q,fun b ob q _ _ _=>⟨ob.slots,k b ob q⟩,fun _ _ _ n _=>n,fun b ob q _=>⟨ob,k b ob q⟩,fun _ _ q=>q,fun _ _ _ q=>q,fun _ ps q=>⟨#[],by rw[q];simp⟩⟩
theorem Un.refl:Un fs ex H H h h:=Un.kept fun _ _ q=>q
theorem Un.laid (k:∀ b u,h.get? b=some u->h'.get? b=some u) (hp:h.objs.size<=a) (hn:H a=none):Un fs ex H (upd H a o) h h' where
 keep:=fun b u q _ _ _=>k b u q
 slot:=fun b u q _ _ _=>⟨u.slots,k b u q⟩
 free:=fun b u q n _=>by rw[aw (R_ (C_ (z_ q) hp))];exact n
 there:=fun b u q _=>⟨u,k b u q⟩
 oZ:=fun b xs q=>by rw[aw (aD q hn)];exact q
 nq:=fun b u xs q=>by rw[aw (aD q hn)];exact q
 rj:=fun b ps q=>⟨#[],by rw[aw (aD q hn),q];simp⟩
theorem Un.write (mu:J7 (H x)) (he:e=x∨H e=some (.own x)) (k:∀ b u,b≠e->h.get? b=some u->h'.get? b=some u) (JH:∃ u,h'.get? e=some u):Un fs ex H (upd H x o) h h':=by
 have hx:∀ b,H b=none->b≠x:=fun b n z=>by subst z;rw[n] at mu;exact mu
 have hb:∀ b,H b=none->b≠e:=fun b n z=>by
  subst z;rcases he with r | r
  ·exact hx b n r
  ·rw[n] at r;cases r
 have hm:∀ b u,H b=some u->¬ J7 (some u)->b≠x:=fun b u q nm z=>by subst z;rw[q] at mu;exact nm mu
 refine⟨fun b u q n _ _=>k b u (hb b n) q,fun b u q n _ _=>⟨u.slots,k b u (hb b n) q⟩,fun b u q n _=>by rw[aw (hx b n)];exact n,fun b u q _=>?_,
  fun b xs q=>by rw[aw (hm b _ q fun z=>z)];exact q,fun b u xs q=>by rw[aw (hm b _ q fun z=>z)];exact q,fun b ps q=>⟨#[],by rw[aw (hm b _ q fun z=>z),q];simp⟩⟩
 by_cases E3:b=e
 ·subst E3;exact JH
 ·exact⟨u,k b u E3 q⟩
end
noncomputable def N9 (h:Heap) (H:Hp):List Addr:=(Wv h.objs.size).filter fun a=>(H a).isSome
noncomputable def rl (h:Heap) (H:Hp):Heap:=PySem.W.hideAll h (N9 h H)
theorem xP (h:Heap) (H:Hp):(rl h H).objs.size=h.objs.size:=PySem.W.hideAll_size _ _
theorem y6 {h:Heap}{H:Hp}{b:Addr}{o:Obj} (e:h.get? b=some o) (n:H b=none):(rl h H).get? b=some o :=
 PySem.W.hideAll_get _ e fun hm=>by
  have q:(H b).isSome=true:=(XW.mp hm).2;rw[n] at q;simp at q
theorem BW {h:Heap}{H:Hp}{b:Addr}{o:Obj} (e:(rl h H).get? b=some o):h.get? b=some o/\H b=none:=by
 have e':h.get? b=some o:=PySem.W.of_hideAll (N9 h H) e;refine⟨e',?_⟩
 cases q:H b with
 | none=>rfl
 | some x =>
  have hm:b∈N9 h H:=XW.mpr ⟨WK.mpr (z_ e'),by simp [q]⟩;have z:(rl h H).get? b=none:=PySem.W.hideAll_none (N9 h H) hm;rw[z] at e;cases e
noncomputable def BX (g h:Heap) (L:Addr):List (Addr×Obj):=(Wv h.objs.size).filterMap fun a=>if a=L∨(g.get? a).isSome=true then none else (h.get? a).map fun o=>(a,o)
noncomputable def rest (g h:Heap) (L d:Addr):List (Addr×Obj):=(BX g h L).filter fun p=>decide (p.1≠d)
end L2
namespace L2
open PySem PySem.Spec PyProof.Rows
structure Mod (K:e_) (mg:Str->k_ Value) (base:Heap):Prop where
 JI:K.In base
 glob:base.Ns mainGlobals mg
 blt:∃ mb,base.Ns aar mb/\∀ x:Str,x ≠ "__name__" ->mb x=W8 x
 nolimit:base.NoLimit
structure Cx where
 prog:N_
 w:World
 K:e_
 mg:Str->k_ Value
 base:Heap
 A:WO
 N:List Str
 s₀:j_
 H₀:Hp
 env:Env
 outer:List Env
 stack:List Env
 ex:List Addr
 fn:Str->Bool
 calm:Bool
 pn:List (Addr×Obj)
 xe:Value->j_->Prop
noncomputable def sP (l:List Env):List Addr:=l.filterMap (·.frame)
noncomputable abbrev Cx.fs (X:Cx):List Addr:=sP X.outer
def yW (sc:Scope) (x:Str):Prop:=sc.names.lookup x=some .local∨sc.names.lookup x=some .cell∨sc.names.lookup x=some .free
def Loc (sc:Scope) (x:Str):Prop:=sc.names.lookup x=some .local∨sc.names.lookup x=some .cell
def Look (env:Env) (h:Heap) (m:Str->k_ Value) (x:Str) (u:Value):Prop :=
 (env.kindOf x=some .local/\m x=some u)∨((env.kindOf x=some .cell∨env.kindOf x=some .free)/\∃ c,env.cells.lookup x=some c/\h.IsCell c (some u))
structure Cx.Ok (X:Cx):Prop where
 mod:Mod X.K X.mg X.base
 kind:X.env.scope.kind=.function
 glob:X.env.globals=mainGlobals
 blt:X.env.builtins=aar
 above:X.s₀.heap.objs.size<=X.env.locals
 inj:∀ x y c,X.env.cells.lookup x=some c->X.env.cells.lookup y=some c->x=y
 has:∀ x,(X.env.kindOf x=some .cell∨X.env.kindOf x=some .free)->∃ c,X.env.cells.lookup x=some c
 xQ:∀ x c,X.fn x=true->X.env.cells.lookup x=some c->X.s₀.heap.objs.size<=c
 hd:X.calm=true->X.A.handled=none
 frames:X.A.frames=some X.stack
 Oa:X.stack=X.outer∨(X.stack=X.env::X.outer/\X.env.frame=some X.env.locals)
 RM:∀ b∈X.ex,b≠X.env.locals/\∀ x c,X.env.cells.lookup x=some c->c≠b
 bs:∀ b o,X.base.get? b=some o->X.s₀.heap.get? b=some o/\X.H₀ b=none
 BY:X.base.objs.size<=X.s₀.heap.objs.size
 y7:∀ b o,X.base.get? b=some o->b∉X.ex
 BZ:∀ b∈X.ex,b∉X.fs
 jQ:X.s₀.heap.FunFrames X.base X.outer
 E4:∀ b∈X.fs,X.H₀ b=none
structure Inv (X:Cx) (pins:List (Addr×Obj)) (σ:List (k_ V)) (H:Hp) (s:j_):Prop where
 ok:X.Ok
 os:s.os=X.s₀.os
 bare:ZL s.gens
 base:Un X.fs X.ex X.H₀ H X.s₀.heap s.heap
 loc:∃ m,s.heap.Ns X.env.locals m/\∀ (i:Nat) (x:Str) (v:V),X.N[i]? = some x->σ[i]? = some (some v)->yW X.env.scope x->∃ u,RelV v u/\Look X.env s.heap m x u
 cell:∀ x c,X.env.cells.lookup x=some c->∃ v,s.heap.IsCell c v
 free:H X.env.locals=none
 i8:∀ x c,X.env.cells.lookup x=some c->H c=none
 pin:∀ p∈X.pn++pins,s.heap.get? p.1=some p.2/\H p.1=none/\p.1≠X.env.locals/\p.1∉X.fs/\∀ v,p.2.data≠.cell v
 be:iX X.prog X.w H s.heap
 len:σ.length=X.N.length
section
variable {X:Cx}{pins:List (Addr×Obj)}{σ:List (k_ V)}{H H':Hp}{s:j_}{h':Heap}
theorem Cx.Ok.O0 (ok:X.Ok) {b:Addr}{o:Obj} (e:X.base.get? b=some o):b∉X.fs:=fun hb=>by
 have:=(ok.jQ.mem hb).1;rw[e] at this;cases this
theorem Inv.bs (I:Inv X pins σ H s):∀ b o,X.base.get? b=some o->s.heap.get? b=some o/\H b=none:=fun b o e =>
 ⟨I.base.keep b o (I.ok.bs b o e).1 (I.ok.bs b o e).2 (I.ok.O0 e) (I.ok.y7 b o e),I.base.free b o (I.ok.bs b o e).1 (I.ok.bs b o e).2 (I.ok.y7 b o e)⟩
theorem Inv.bk (I:Inv X pins σ H s):∀ b o,X.base.get? b=some o->s.heap.get? b=some o:=fun b o e=>(I.bs b o e).1
theorem Inv.mod (I:Inv X pins σ H s):Mod X.K X.mg X.base:=I.ok.mod
theorem Inv.kU (I:Inv X pins σ H s):X.K.In s.heap:=I.ok.mod.JI.keeps I.bk
theorem Inv.lt (I:Inv X pins σ H s):X.env.locals<s.heap.objs.size:=let ⟨_,hn,_⟩:=I.loc;hn.lt
theorem Inv.sz (I:Inv X pins σ H s):X.s₀.heap.objs.size<=s.heap.objs.size:=Q_ I.ok.above (W0 I.lt)
theorem Inv.O1 (I:Inv X pins σ H s) {a:Addr} (h:s.heap.objs.size<=a):a∉X.fs:=fun hb=>by
 obtain⟨_,o,ho,_⟩:=I.ok.jQ.mem hb;exact absurd (C_ (z_ ho) (Q_ I.sz h)) (WT _)
theorem Inv.E5 (I:Inv X pins σ H s):∀ x c,X.env.cells.lookup x=some c->c≠X.env.locals:=fun x c e z=>by
 obtain⟨v,o,ho,hd⟩:=I.cell x c e;obtain⟨m,⟨o',es,ep,kX,o0,_⟩,_⟩:=I.loc;rw[z,kX] at ho;cases ho;rw[o0] at hd;cases hd
theorem Inv.jQ (I:Inv X pins σ H s):s.heap.FunFrames X.base X.outer:=by
 have all:∀ (l:List Env),(∀ b∈sP l,b∈X.fs)->X.s₀.heap.FunFrames X.base l->s.heap.FunFrames X.base l:=by
  intro l
  induction l with
  | nil=>intro _ _;trivial
  | cons env r ih =>
   intro hs hl;obtain⟨hk,⟨L,o,hf,hn,ho,hd⟩,hr⟩:=hl;have hL:L∈X.fs:=hs L (by unfold sP;rw[Ww,hf];exact S_);obtain⟨sl,e⟩:=I.base.slot L o ho (I.ok.E4 L hL) hL fun z=>I.ok.BZ L z hL
   exact⟨hk,⟨L,_,hf,hn,e,hd⟩,ih (fun b hb=>hs b (by unfold sP;rw[Ww,hf];exact E_ _ hb)) hr⟩
 exact all X.outer (fun _ hb=>hb) I.ok.jQ
theorem Inv.stack (I:Inv X pins σ H s):s.heap.FunFrames X.base X.stack:=by
 rcases I.ok.Oa with e | ⟨e,hf⟩
 ·rw[e];exact I.jQ
 ·rw[e];obtain⟨m,hn,_⟩:=I.loc;refine .cons (by rw[I.ok.kind];decide) hf hn ?_ I.jQ;exact Heap.get?_none_of_le (Q_ I.ok.BY I.ok.above)
theorem Inv.nr (I:Inv X pins σ H s):∀ b∈sP X.stack,b∈X.env.locals::X.fs:=fun b hb=>by
 rcases I.ok.Oa with e | ⟨e,hf⟩
 ·rw[e] at hb;exact E_ _ hb
 ·rw[e] at hb;unfold sP at hb;rw[Ww,hf] at hb;exact hb
theorem Inv.wJ (I:Inv X pins σ H s):∀ b∈sP X.stack,H b=none:=fun b hb=>by
 rcases t_.mp (I.nr b hb) with e | hb
 ·rw[e];exact I.free
 ·obtain⟨_,o,ho,_⟩:=I.ok.jQ.mem hb;exact I.base.free b o ho (I.ok.E4 b hb) fun z=>I.ok.BZ b z hb
theorem Inv.step {g':Array GenState}{t':Nat}{d':Drawn}{ch:List Addr} (I:Inv X pins σ H s)
  (sQ:∀ b∈ch,(b∈X.ex∨X.s₀.heap.objs.size<=b)/\b≠X.env.locals/\(∀ x c,X.env.cells.lookup x=some c->c≠b)/\∀ p∈X.pn++pins,p.1≠b)
  (keep:∀ b o,b≠X.env.locals->b∉X.fs->b∉ch->s.heap.get? b=some o->H b=none->h'.get? b=some o)
  (slot:∀ b o,b≠X.env.locals->b∈X.fs->b∉ch->s.heap.get? b=some o->H b=none->∃ sl,h'.get? b=some { o with slots:=sl }) (free:∀ b o,b∉ch->s.heap.get? b=some o->H b=none->H' b=none)
  (there:∀ b o,b∉ch->s.heap.get? b=some o->∃ o',h'.get? b=some o')
  (oZ:∀ b xs,H b=some (.tup xs)->H' b=some (.tup xs)) (nq:∀ b o u,H b=some (.dS o u)->H' b=some (.dS o u)) (rj:∀ b ps,H b=some (.E2 ps)->∃ more,H' b=some (.E2 (ps++more)))
  (ns:∀ m,s.heap.Ns X.env.locals m->h'.Ns X.env.locals m) (be:iX X.prog X.w H' h') (hg:ZL g') :
  Inv X pins σ H' { s with heap:=h',gens:=g',drawn:=d',toks:=t' }:=by
 have RN:∀ b o,X.s₀.heap.get? b=some o->b≠X.env.locals:=fun b o e=>R_ (C_ (z_ e) I.ok.above)
 have Ob:∀ b o,X.s₀.heap.get? b=some o->b∉X.ex->b∉ch:=fun b o e hx hb=>by
  rcases (sQ b hb).1 with z | z
  ·exact hx z
  ·exact absurd (C_ (z_ e) z) (WT _)
 have cellK:∀ x c,X.env.cells.lookup x=some c->∀ v,s.heap.IsCell c v->h'.IsCell c v:=fun x c e v ⟨o,ho,hd⟩=>by
  have J9:c∉ch:=fun z=>(sQ c z).2.2.1 x c e rfl
  by_cases hc:c∈X.fs
  ·obtain⟨sl,q⟩:=slot c o (I.E5 x c e) hc J9 ho (I.i8 x c e);exact⟨_,q,hd⟩
  ·exact⟨o,keep c o (I.E5 x c e) hc J9 ho (I.i8 x c e),hd⟩
 refine⟨I.ok,I.os,hg,⟨fun b o e n hb hx=>?_,fun b o e n hb hx=>?_,fun b o e n hx=>?_,fun b o e hx=>?_,fun b xs e=>oZ b xs (I.base.oZ b xs e),fun b o xs e=>nq b o xs (I.base.nq b o xs e),fun b ps e=>?_⟩,?_,fun x c e=>?_,?_,fun x c e=>?_,fun p hp=>?_,be,I.len⟩
 ·exact keep b o (RN b o e) hb (Ob b o e hx) (I.base.keep b o e n hb hx) (I.base.free b o e n hx)
 ·obtain⟨sl,e1⟩:=I.base.slot b o e n hb hx;obtain⟨Tl,e2⟩:=slot b _ (RN b o e) hb (Ob b o e hx) e1 (I.base.free b o e n hx);exact⟨Tl,e2⟩
 ·obtain⟨o',e1⟩:=I.base.there b o e hx;exact free b o' (Ob b o e hx) e1 (I.base.free b o e n hx)
 ·obtain⟨o',e1⟩:=I.base.there b o e hx;exact there b o' (Ob b o e hx) e1
 ·obtain⟨m1,e1⟩:=I.base.rj b ps e;obtain⟨m2,e2⟩:=rj b _ e1;exact⟨m1++m2,by rw[e2,Array.append_assoc]⟩
 ·obtain⟨m,hn,hl⟩:=I.loc;refine⟨m,ns m hn,fun i x v e1 e2 e3=>?_⟩;obtain⟨u,r,l⟩:=hl i x v e1 e2 e3;refine⟨u,r,?_⟩;rcases l with l | ⟨k,c,e,z⟩
  ·exact .inl l
  ·exact .inr ⟨k,c,e,cellK x c e _ z⟩
 ·obtain⟨v,z⟩:=I.cell x c e;exact⟨v,cellK x c e v z⟩
 ·obtain⟨m,⟨o,_,_,ho,_⟩,_⟩:=I.loc;exact free _ o (fun z=>(sQ _ z).2.1 rfl) ho I.free
 ·obtain⟨v,o,ho,hd⟩:=I.cell x c e;exact free c o (fun z=>(sQ c z).2.2.1 x c e rfl) ho (I.i8 x c e)
 ·obtain⟨e,n,ne,nf,d⟩:=I.pin p hp;have J9:p.1∉ch:=fun z=>(sQ p.1 z).2.2.2 p hp rfl
  exact⟨keep p.1 p.2 ne nf J9 e n,free p.1 p.2 J9 e n,ne,nf,d⟩
theorem Inv.un {t':Nat} (I:Inv X pins σ H s) (u:Un X.fs [] H H' s.heap h') (be:iX X.prog X.w H' h'):Inv X pins σ H' { s with heap:=h',toks:=t' }:=by
 obtain⟨m,⟨o,es,ep,ho,r⟩,_⟩:=id I.loc;obtain⟨sl,hL⟩:=u.any ho I.free (by simp)
 exact I.step (g':=s.gens) (d':=s.drawn) (ch:=[]) (fun _ z=>nomatch z) (fun b o _ hb _ e n=>u.keep b o e n hb (by simp)) (fun b o _ hb _ e n=>u.slot b o e n hb (by simp)) (fun b o _ e n=>u.free b o e n (by simp)) (fun b o _ e=>u.there b o e (by simp)) u.oZ u.nq u.rj (fun m' hm=>by
  obtain⟨o',O2,O3,kX,r'⟩:=hm;rw[ho] at kX;cases kX;exact⟨_,O2,O3,hL,r'⟩) be I.bare
theorem Inv.call {g':Array GenState}{t':Nat}{d':Drawn}{ch:List Addr} (I:Inv X pins σ H s) (u:Un (sP X.stack) ch H H' s.heap h') (be:iX X.prog X.w H' h') (hg:ZL g')
  (sQ:∀ b∈ch,(b∈X.ex∨X.s₀.heap.objs.size<=b)/\b≠X.env.locals/\(∀ x c,X.env.cells.lookup x=some c->c≠b)/\∀ p∈X.pn++pins,p.1≠b) :
  Inv X pins σ H' { s with heap:=h',gens:=g',drawn:=d',toks:=t' }:=by
 obtain⟨m,⟨o,es,ep,ho,r⟩,_⟩:=id I.loc;obtain⟨sl,hL⟩:=u.any ho I.free fun z=>(sQ _ z).2.1 rfl
 exact I.step (ch:=ch) sQ (fun b o hL hb hc e n=>u.keep b o e n (fun z=>(t_.mp (I.nr b z)).elim hL hb) hc) (fun b o _ _ hc e n=>u.any e n hc) (fun b o hc e n=>u.free b o e n hc) (fun b o hc e=>u.there b o e hc) u.oZ u.nq u.rj (fun m' hm=>by
  obtain⟨o',O2,O3,kX,r'⟩:=hm;rw[ho] at kX;cases kX;exact⟨_,O2,O3,hL,r'⟩) be hg
theorem Inv.turned {t':Nat}{it:Addr} (I:Inv X pins σ H s) (k:∀ b o,b≠it->s.heap.get? b=some o->h'.get? b=some o) (hn:H it=none) (hL:it≠X.env.locals)
  (h1:it∈X.ex∨X.s₀.heap.objs.size<=it) (h2:∀ x c,X.env.cells.lookup x=some c->c≠it) (h3:∀ p∈X.pn++pins,p.1≠it):Inv X pins σ H { s with heap:=h',toks:=t' }:=by
 have DS:∀ b u,H b=some u->b≠it:=fun b u e z=>by rw[z,hn] at e;cases e
 refine I.step (g':=s.gens) (d':=s.drawn) (ch:=[it]) (fun b hb=>?_) (fun b o _ _ hc e _=>k b o (fun z=>hc (by simp [z])) e) (fun b o _ _ hc e _=>⟨o.slots,k b o (fun z=>hc (by simp [z])) e⟩) (fun _ _ _ _ n=>n)
  (fun b o hc e=>⟨o,k b o (fun z=>hc (by simp [z])) e⟩) (fun _ _ e=>e) (fun _ _ _ e=>e) (fun b ps e=>⟨#[],by rw[e];simp⟩) (fun m hm=>?_) (fun b u e=>?_) I.bare
 ·have e:b=it:=by simpa using hb
  subst e;exact⟨h1,hL,h2,h3⟩
 ·obtain⟨o,es,ep,ho,r⟩:=hm;exact⟨o,es,ep,k _ o (WA hL) ho,r⟩
 ·refine (I.be b u e).eE (fun c v hc q=>k c v ?_ q) (fun _ q=>q) fun _ _ q=>q
  rcases hc with z | z
  ·rw[z];exact DS b u e
  ·exact DS c _ z
theorem Inv.tok (I:Inv X pins σ H s) (t:Nat):Inv X pins σ H { s with toks:=t }:=I.un (h':=s.heap) (t':=t) Un.refl I.be
theorem Inv.kept {t':Nat} (I:Inv X pins σ H s) (k:∀ b u,s.heap.get? b=some u->h'.get? b=some u):Inv X pins σ H { s with heap:=h',toks:=t' }:=I.un (Un.kept k) (I.be.kept k)
theorem Inv.laid {a:Addr}{o:HO}{t':Nat} (I:Inv X pins σ H s) (k:∀ b u,s.heap.get? b=some u->h'.get? b=some u) (hp:s.heap.objs.size<=a) (new:aS X.prog X.w (upd H a o) h' a o) :
  Inv X pins σ (upd H a o) { s with heap:=h',toks:=t' }:=I.un (Un.laid k hp (I.be.fresh hp)) (I.be.laid k hp new)
theorem Inv.write {x e:Addr}{o:HO}{t':Nat} (I:Inv X pins σ H s) (mu:J7 (H x)) (he:e=x∨H e=some (.own x)) (k:∀ b u,b≠e->s.heap.get? b=some u->h'.get? b=some u) (JH:∃ u,h'.get? e=some u)
  (new:aS X.prog X.w (upd H x o) h' x o):Inv X pins σ (upd H x o) { s with heap:=h',toks:=t' }:=I.un (Un.write mu he k JH) (I.be.write mu he k JH new)
theorem Inv.iO {pins':List (Addr×Obj)} (I:Inv X pins σ H s) (h:∀ p∈pins',s.heap.get? p.1=some p.2/\H p.1=none/\p.1≠X.env.locals/\p.1∉X.fs/\∀ v,p.2.data≠.cell v):Inv X pins' σ H s :=
 ⟨I.ok,I.os,I.bare,I.base,I.loc,I.cell,I.free,I.i8,fun p hp=>(U_.mp hp).elim (fun z=>I.pin p (Zv _ z)) (h p),I.be,I.len⟩
theorem sU {N:List Str} (hN:N.Nodup) {i j:Nat}{x:Str} (a:N[i]? = some x) (b:N[j]? = some x):i=j:=by
 obtain⟨h1,e1⟩:=i_.mp a;obtain⟨h2,e2⟩:=i_.mp b;exact (List.getElem_inj hN).mp (e1.trans e2.symm)
theorem xR {M:Model}{A:WO}{E:Value->j_->Prop}{i:Nat}{x:Str}{v:V}{u:Value}{Q:Unit->j_->Prop} (I:Inv X pins σ H s) (hN:X.N.Nodup) (hi:X.N[i]? = some x) (hx:Loc X.env.scope x) (r:RelV v u)
  (h : ∀ s', Inv X pins (σ.set i (some v)) H s' ->(∃ a, Ye a s.heap s'.heap /\ (a = X.env.locals ∨ X.env.cells.lookup x = some a)) ->Q () s') (hf : X.fn x = true ∨ X.env.scope.names.lookup x = some .local := by first | exact .inl rfl | exact .inr rfl | assumption) : wpAny M A (storeName X.env x u) Q E s := by
 obtain⟨m,hn,hl⟩:=id I.loc;have O4:(X.env.scope.kind==.class||(X.env.scope.kind==.module&&X.env.locals != X.env.globals))=false:=by rw[I.ok.kind];rfl
 have RO:i<σ.length:=by rw[I.len];exact (i_.mp hi).1
 have E5:=I.E5
 have tracked:∀ {a:Addr}{h':Heap},(∃ o,s.heap.get? a=some o/\H a=none)->Ye a s.heap h'->iX X.prog X.w H h':=fun {a h'} ha hs b ob e=>by
  obtain⟨_,_,DT⟩:=ha;refine (I.be b ob e).eE (fun c w' hc q=>(hs.2 c ?_).trans q) (fun _ q=>q) fun _ _ q=>q
  rintro rfl;rcases hc with rfl | hc
  ·rw[DT] at e;cases e
  ·rw[DT] at hc;cases hc
 rcases hx with hk | hk
 ·refine wpAny_storeName_local hk hn (fun h' BD hs=>?_) O4;obtain⟨oL,_,_,Tn,_⟩:=id hn;refine h _ ⟨I.ok,I.os,I.bare,⟨fun b o e n hb hx=>?_,fun b o e n hb hx=>?_,I.base.free,fun b o e hx=>?_,I.base.oZ,I.base.nq,I.base.rj⟩,⟨_,BD,fun j y v' e1 e2 e3=>?_⟩,fun y c e=>?_,I.free,I.i8,fun p hp=>?_,tracked ⟨oL,Tn,I.free⟩ hs,by simpa using I.len⟩ ⟨_,hs,.inl rfl⟩
  ·exact (hs.2 b (R_ (C_ (z_ e) I.ok.above))).trans (I.base.keep b o e n hb hx)
  ·obtain⟨sl,e1⟩:=I.base.slot b o e n hb hx;exact⟨sl,(hs.2 b (R_ (C_ (z_ e) I.ok.above))).trans e1⟩
  ·obtain⟨o',e1⟩:=I.base.there b o e hx;exact⟨o',(hs.2 b (R_ (C_ (z_ e) I.ok.above))).trans e1⟩
  ·by_cases hj:j=i
   ·subst hj;rw[hi] at e1;cases e1;rw[XF RO] at e2
    cases e2
    exact⟨u,r,.inl ⟨hk,by simp⟩⟩
   ·rw[Yr (WA hj)] at e2;obtain⟨u',r',q⟩:=hl j y v' e1 e2 e3;refine⟨u',r',?_⟩;rcases q with ⟨k,e⟩ | ⟨k,c,e,z⟩
    ·refine .inl ⟨k,?_⟩;have:y≠x:=fun e=>hj (sU hN e1 (e▸hi))
     simp [this,e]
    ·exact .inr ⟨k,c,e,z.sameBut hs (E5 y c e)⟩
  ·obtain⟨w',z⟩:=I.cell y c e;exact⟨w',z.sameBut hs (E5 y c e)⟩
  ·obtain⟨e,n,ne,nf,d⟩:=I.pin p hp;exact⟨(hs.2 p.1 ne).trans e,n,ne,nf,d⟩
 ·have O5:X.fn x=true:=by
   rcases hf with z | z
   ·exact z
   ·rw[z] at hk;cases hk
  obtain⟨c,hc⟩:=I.ok.has x (.inl hk);obtain⟨w',z⟩:=I.cell x c hc;refine wpAny_storeName_cell I.ok.kind hk hc z (fun h' E6 hs=>?_);obtain⟨oc,JJ,O6⟩:=id z;refine h { s with heap:=h' } ⟨I.ok,I.os,I.bare,⟨fun b o e n hb hx=>?_,fun b o e n hb hx=>?_,I.base.free,fun b o e hx=>?_,I.base.oZ,I.base.nq,I.base.rj⟩,⟨m,hn.sameBut hs (WA (E5 x c hc)),fun j y v' e1 e2 e3=>?_⟩,fun y c' e=>?_,I.free,I.i8,fun p hp=>?_,tracked ⟨oc,JJ,I.i8 x c hc⟩ hs,by simpa using I.len⟩ ⟨c,hs,.inr hc⟩
  ·exact (hs.2 b (R_ (C_ (z_ e) (I.ok.xQ x c O5 hc)))).trans (I.base.keep b o e n hb hx)
  ·obtain⟨sl,e1⟩:=I.base.slot b o e n hb hx;exact⟨sl,(hs.2 b (R_ (C_ (z_ e) (I.ok.xQ x c O5 hc)))).trans e1⟩
  ·obtain⟨o',e1⟩:=I.base.there b o e hx;exact⟨o',(hs.2 b (R_ (C_ (z_ e) (I.ok.xQ x c O5 hc)))).trans e1⟩
  ·by_cases hj:j=i
   ·subst hj;rw[hi] at e1;cases e1;rw[XF RO] at e2
    cases e2
    exact⟨u,r,.inr ⟨.inl hk,c,hc,E6⟩⟩
   ·rw[Yr (WA hj)] at e2;obtain⟨u',r',q⟩:=hl j y v' e1 e2 e3;refine⟨u',r',?_⟩;rcases q with q | ⟨k,c',e,z'⟩
    ·exact .inl q
    ·refine .inr ⟨k,c',e,z'.sameBut hs ?_⟩;rintro rfl;exact hj (sU hN e1 (I.ok.inj _ _ _ e hc▸hi))
  ·by_cases RP:c'=c
   ·subst RP;exact⟨_,E6⟩
   ·obtain⟨w2,z2⟩:=I.cell y c' e;exact⟨w2,z2.sameBut hs RP⟩
  ·obtain⟨e,n,ne,nf,d⟩:=I.pin p hp;refine⟨(hs.2 p.1 ?_).trans e,n,ne,nf,d⟩;intro q;rw[q,JJ] at e;have q':oc=p.2:=K_ e;exact d w' (by rw[←q'];exact O6)
theorem jR {M:Model}{A:WO}{E:Value->j_->Prop}{i:Nat}{x:Str}{v:V}{u:Value}{Q:Unit->j_->Prop} (I:Inv X pins σ H s) (hN:X.N.Nodup) (hi:X.N[i]? = some x) (hx:Loc X.env.scope x) (r:RelV v u)
  (h : ∀ s', Inv X pins (σ.set i (some v)) H s' ->Q () s') (hf : X.fn x = true ∨ X.env.scope.names.lookup x = some .local := by first | exact .inl rfl | exact .inr rfl | assumption) : wpAny M A (storeName X.env x u) Q E s :=
 xR I hN hi hx r (fun s' I' _=>h s' I') hf
theorem Inv.Ka {s':j_}{ch:List Addr} (I:Inv X pins σ H s) (ho:s'.os=s.os) (u:Un (sP X.stack) ch H H' s.heap s'.heap) (be:iX X.prog X.w H' s'.heap) (hg:ZL s'.gens)
  (sQ:∀ b∈ch,(b∈X.ex∨X.s₀.heap.objs.size<=b)/\b≠X.env.locals/\(∀ x c,X.env.cells.lookup x=some c->c≠b)/\∀ p∈X.pn++pins,p.1≠b):Inv X pins σ H' s':=by
 obtain⟨h',g',d',t',o'⟩:=s';have e:o'=s.os:=ho;subst e;exact I.call (g':=g') (t':=t') (d':=d') u be hg sQ
end
noncomputable abbrev XK:=Value->k_ Addr->Hp->Prop
noncomputable abbrev St:=List (k_ V)
noncomputable abbrev VK:=V->Hp->Prop
noncomputable abbrev TE:=St->Hp->VK->Prop
noncomputable abbrev TT:=St->Hp->(Bool->Hp->Prop)->Prop
noncomputable abbrev TA:=St->Hp->(List V->Hp->Prop)->Prop
structure Ends where
 nx:St->Hp->Prop
 rt:VK
 bk:St->Hp->Prop:=fun _ _=>False
 ct:St->Hp->Prop:=fun _ _=>False
noncomputable abbrev TS:=Ends->St->Hp->Prop
def EP (X:Cx) (pins:List (Addr×Obj)) (σ:St) (Q:VK) (u:Value) (s':j_):Prop:=∃ v H',Inv X pins σ H' s'/\RelV v u/\Q v H'
def TP (X:Cx) (pins:List (Addr×Obj)) (σ:St) (Q:Bool->Hp->Prop) (b:Bool) (s':j_):Prop:=∃ H',Inv X pins σ H' s'/\Q b H'
def AP (X:Cx) (pins:List (Addr×Obj)) (σ:St) (Q:List V->Hp->Prop) (us:List Value) (s':j_):Prop:=∃ vs H',Inv X pins σ H' s'/\Vals vs us/\Q vs H'
def SP (X:Cx) (pins:List (Addr×Obj)) (D:Ends) (f:Flow) (s':j_):Prop :=
 match f with
 | .next=>∃ σ' H',Inv X pins σ' H' s'/\D.nx σ' H'
 | .brk=>∃ σ' H',Inv X pins σ' H' s'/\D.bk σ' H'
 | .cont=>∃ σ' H',Inv X pins σ' H' s'/\D.ct σ' H'
 | .ret u=>∃ v σ' H',Inv X pins σ' H' s'/\RelV v u/\D.rt v H'
def PE (X:Cx) (e:Expr) (t:TE):Prop :=
 ∀ (pins:List (Addr×Obj)) (s:j_) (σ:St) (H:Hp) (Q:VK),Inv X pins σ H s->t σ H Q->wpAny (model X.prog X.w) X.A (eval e X.env) (EP X pins σ Q) X.xe s
def PT (X:Cx) (e:Expr) (t:TT):Prop :=
 ∀ (pins:List (Addr×Obj)) (s:j_) (σ:St) (H:Hp) (Q:Bool->Hp->Prop),Inv X pins σ H s->t σ H Q->wpAny (model X.prog X.w) X.A (aaX e X.env (eval e X.env)) (TP X pins σ Q) X.xe s
def PW (X:Cx) (e:Expr) (t:TT):Prop :=
 ∀ (whole:Sem Value) (pins:List (Addr×Obj)) (s:j_) (σ:St) (H:Hp) (Q:Bool->Hp->Prop),Inv X pins σ H s->t σ H Q->wpAny (model X.prog X.w) X.A (aaX e X.env whole) (TP X pins σ Q) X.xe s
theorem PW.pt {X:Cx}{e:Expr}{t:TT} (h:PW X e t):PT X e t:=h _
def PA (X:Cx) (es:List Expr) (t:TA):Prop :=
 ∀ (pos:Pos) (pins:List (Addr×Obj)) (s:j_) (σ:St) (H:Hp) (Q:List V->Hp->Prop),Inv X pins σ H s->t σ H Q->wpAny (model X.prog X.w) X.A (spliced (XO pos (T_ es X.env))) (AP X pins σ Q) X.xe s
def PS (X:Cx) (st:Stmt) (t:TS):Prop :=
 ∀ (pins:List (Addr×Obj)) (s:j_) (σ:St) (H:Hp) (D:Ends),Inv X pins σ H s->t D σ H->wpAny (model X.prog X.w) X.A (exec st X.env) (SP X pins D) X.xe s
def kY (X:Cx) (st:List Stmt) (t:TS):Prop :=
 ∀ (pins:List (Addr×Obj)) (s:j_) (σ:St) (H:Hp) (D:Ends),Inv X pins σ H s->t D σ H->wpAny (model X.prog X.w) X.A (execs st X.env) (SP X pins D) X.xe s
theorem bf {α:Type}{t:Sem α}{Q Q':α->j_->Prop}{M:Model}{A:WO}{E:Value->j_->Prop}{s:j_} (h:wpAny M A t Q E s) (hQ:∀ a s,Q a s->Q' a s):wpAny M A t Q' E s:=Xz h hQ fun _ _ x=>x
end L2
namespace L2
open PySem PySem.Spec PyProof.Rows
section
variable {X:Cx}
theorem bin {a b:Expr}{ta tb:TE} (ha:PE X a ta) (hb:PE X b tb) {pins:List (Addr×Obj)}{s:j_}{σ:St}{H:Hp}{R:V->V->Hp->Prop} (I:Inv X pins σ H s) (h:ta σ H fun x H1=>tb σ H1 fun y H2=>R x y H2)
  {α:Type}{Q:α->j_->Prop}{f:Value->Value->Sem α}
  (hf:∀ v u s2 x y H2,Inv X pins σ H2 s2->RelV x v->RelV y u->R x y H2->wpAny (model X.prog X.w) X.A (f v u) Q X.xe s2) :
  wpAny (model X.prog X.w) X.A (eval a X.env) (fun v s₁=>wpAny (model X.prog X.w) X.A (eval b X.env) (fun u s₂=>wpAny (model X.prog X.w) X.A (f v u) Q X.xe s₂) X.xe s₁) X.xe s:=by
 refine bf (ha pins s σ H _ I h) fun v s1 ⟨x,H1,I1,r1,q1⟩=>?_
 refine bf (hb pins s1 σ H1 _ I1 q1) fun u s2 ⟨y,H2,I2,r2,q2⟩=>?_
 exact hf v u s2 x y H2 I2 r1 r2 q2
def O7 (i:Nat):TE:=fun σ H Q=>∃ v,σ[i]? = some (some v)/\Q v H
def tC (v:V):TE:=fun _ H Q=>Q v H
theorem kZ {i:Nat}{x:Str}{pos:Pos} (hN:X.N[i]? = some x) (hv:yW X.env.scope x) (hd:(x==("__debug__" : Str))=false:=by decide) (jS:(x==("__classdict__" : Str))=false:=by decide):PE X (.Name x pos) (O7 i):=by
 intro pins s σ H Q I h;obtain⟨v,e,h⟩:=h;obtain⟨m,hn,hl⟩:=I.loc;obtain⟨u,r,l⟩:=hl i x v hN e hv;have fin:EP X pins σ Q u s:=⟨v,H,I,r,h⟩;rcases l with ⟨hk,hm⟩ | ⟨hk,c,hc,qk⟩
 ·exact wpAny_Name (aaY I.ok.kind hk hn hm fin) hd
 ·rcases hk with hk | hk
  ·exact wpAny_Name (abh I.ok.kind hk hc qk fin) hd
  ·exact wpAny_Name (wpAny_loadName_free I.ok.kind hk hc qk fin jS) hd
theorem E7 {i j pos}:PE X (.Constant (.int i) j pos) (tC (.int i)):=fun _ _ _ H _ I h=>wpAny_Constant_int ⟨.int i,H,I.tok _,⟨_,rfl⟩,h⟩
theorem Kb {b j pos}:PE X (.Constant (.bool b) j pos) (tC (.bl b)):=fun _ _ _ H _ I h=>Constant_bool ⟨.bl b,H,I,rfl,h⟩
theorem E8 {x j pos}:PE X (.Constant (.str x) j pos) (tC (.str x)):=fun _ _ _ H _ I h=>Calls.Constant_str ⟨.str x,H,I.tok _,⟨_,rfl⟩,h⟩
def Gl (X:Cx) (x:Str):Prop:=X.env.kindOf x=some .globalImplicit
theorem mN {E:Value->j_->Prop}{pins:List (Addr×Obj)}{s:j_}{σ:St}{H:Hp}{x:Str}{u:Value}{pos:Pos}{Q:Value->j_->Prop} (I:Inv X pins σ H s) (hg:Gl X x) (hm:X.mg x=some u) (h:Q u s)
  (hd:(x==("__debug__" : Str))=false:=by decide):wpAny (model X.prog X.w) X.A (eval (.Name x pos) X.env) Q E s :=
 ZR I.ok.kind hg (Calls.loadGlobal_global (by rw[I.ok.glob];exact I.mod.glob.keeps I.bk) hm h) hd
theorem gX {E:Value->j_->Prop}{pins:List (Addr×Obj)}{s:j_}{σ:St}{H:Hp}{x:Str}{u:Value}{pos:Pos}{Q:Value->j_->Prop} (I:Inv X pins σ H s) (hg:Gl X x) (hm:X.mg x=none) (hv:W8 x=some u) (h:Q u s)
  (hn:x ≠ "__name__" := by decide) (hd:(x==("__debug__" : Str))=false:=by decide):wpAny (model X.prog X.w) X.A (eval (.Name x pos) X.env) Q E s:=by
 obtain⟨mb,h1,h2⟩:=I.mod.blt;exact ZR I.ok.kind hg (Calls.loadGlobal_builtin (by rw[I.ok.glob];exact I.mod.glob.keeps I.bk) hm (by rw[I.ok.blt];exact h1.keeps I.bk) ((h2 x hn).trans hv) h) hd
theorem B0 {x:Str}{v:V}{u:Value}{pos:Pos} (hg:Gl X x) (hm:X.mg x=some u) (r:RelV v u) (hd:(x==("__debug__" : Str))=false:=by decide):PE X (.Name x pos) (tC v) :=
 fun _ _ _ H _ I h=>mN I hg hm ⟨v,H,I,r,h⟩ hd
theorem B2 {x:Str}{v:V}{u:Value}{pos:Pos} (hg:Gl X x) (hm:X.mg x=none) (hv:W8 x=some u) (r:RelV v u) (hn:x ≠ "__name__" := by decide) (hd:(x==("__debug__" : Str))=false:=by decide):PE X (.Name x pos) (tC v) :=
 fun _ _ _ H _ I h=>gX I hg hm hv ⟨v,H,I,r,h⟩ hn hd
variable {a b:Expr}{ta tb:TE}{pos:Pos}
def PC (X:Cx) (op:CmpOp) (a b:Expr) (t:TE):Prop :=
 ∀ (pins:List (Addr×Obj)) (s:j_) (σ:St) (H:Hp) (Q:VK),Inv X pins σ H s->t σ H Q ->
  wpAny (model X.prog X.w) X.A (eval a X.env) (fun v s₁=>wpAny (model X.prog X.w) X.A (eval b X.env) (fun u s₂=>wpAny (model X.prog X.w) X.A (Wx op v u) (EP X pins σ Q) X.xe s₂) X.xe s₁) X.xe s
theorem sV (b:Expr) {op:CmpOp} (h:op≠.In) (h2:op≠.NotIn):W7 op b=false:=by
 have e1:(op==CmpOp.In)=false:=by cases op<;>first | rfl | exact absurd rfl h
 have e2:(op==CmpOp.NotIn)=false:=by cases op<;>first | rfl | exact absurd rfl h2
 cases b<;>simp [W7,e1,e2]
def tB (t:TE):TT:=fun σ H Q=>t σ H fun x H1=>∃ c,x=.bl c/\Q c H1
theorem y8 {op:CmpOp}{t:TE} (h:PC X op a b t) (h1:W7 op b=false:=by first | exact sV _ (by decide) (by decide) | rfl):PE X (.Compare a [op] [b] pos) t:=fun pins s σ H Q I hw=>wpAny_Compare1 (h pins s σ H Q I hw) h1
theorem y9 {op:CmpOp}{t:TE} (h:PC X op a b t) (h1:W7 op b=false:=by first | exact sV _ (by decide) (by decide) | rfl):PT X (.Compare a [op] [b] pos) (tB t):=by
 intro pins s σ H Q I hw;refine aaQ (bf (h pins s σ H _ I hw) fun v s1 h1=>bf h1 fun u s2 h2=>bf h2 fun c s3 ⟨x,H1,I1,r1,q1⟩=>?_) h1;obtain⟨d,rfl,q⟩:=q1
 cases r1
 exact WF ⟨H1,I1,q⟩
theorem E9 {e:Expr}{t:TE} (h:PE X e t) (he:∀ whole,aaX e X.env whole=(do let v ←whole;abg e.pos;aas [v] (truthy v)):=by intro _;rfl):PT X e (tB t):=by
 intro pins s σ H Q I hw;refine isTrue_plain (bf (h pins s σ H _ I hw) fun v s1 ⟨x,H1,I1,r1,q1⟩=>?_) (he _);obtain⟨d,rfl,q⟩:=q1
 cases r1
 exact WF ⟨H1,I1,q⟩
variable {tA Oc:TT}{rest:List Expr}
def O8 (t u:TT):TT:=fun σ H Q=>t σ H fun c H1=>if c=true then u σ H1 Q else Q false H1
def To (t u:TT):TT:=fun σ H Q=>t σ H fun c H1=>if c=true then Q true H1 else u σ H1 Q
def O9 (t:TT):TT:=fun σ H Q=>t σ H fun c H1=>Q (!c) H1
theorem B3 (ha:PT X a tA):PW X (.BoolOp .And [a] pos) tA:=by
 intro wh pins s σ H Q I h;refine isTrue_and (bf (ha pins s σ H Q I h) fun c s1 e=>?_)
 cases c with
 | true=>exact isTrue_and_nil e
 | false=>exact e
theorem Fa (ha:PT X a tA):PW X (.BoolOp .Or [a] pos) tA:=by
 intro wh pins s σ H Q I h;refine isTrue_or (bf (ha pins s σ H Q I h) fun c s1 e=>?_)
 cases c with
 | false=>exact isTrue_or_nil e
 | true=>exact e
theorem Fb (ha:PT X a tA) (hb:PW X (.BoolOp .And (b::rest) pos) Oc):PW X (.BoolOp .And (a::b::rest) pos) (O8 tA Oc):=by
 intro wh pins s σ H Q I h;refine isTrue_and (bf (ha pins s σ H _ I h) fun c s1 ⟨H1,I1,q1⟩=>?_)
 cases c with
 | true=>exact hb wh pins s1 σ H1 Q I1 q1
 | false=>exact⟨H1,I1,q1⟩
theorem Kc (ha:PT X a tA) (hb:PW X (.BoolOp .Or (b::rest) pos) Oc):PW X (.BoolOp .Or (a::b::rest) pos) (To tA Oc):=by
 intro wh pins s σ H Q I h;refine isTrue_or (bf (ha pins s σ H _ I h) fun c s1 ⟨H1,I1,q1⟩=>?_)
 cases c with
 | true=>exact⟨H1,I1,q1⟩
 | false=>exact hb wh pins s1 σ H1 Q I1 q1
theorem Fc (ha:PT X a tA):PT X (.UnaryOp .Not a pos) (O9 tA):=by
 intro pins s σ H Q I h;exact isTrue_not (ha pins s σ H (fun c H1=>Q (!c) H1) I h)
def Kd (ta tb:TE):TE:=fun σ H Q=>ta σ H fun x H1=>∃ c,x=.bl c/\if c=true then tb σ H1 Q else Q (.bl false) H1
def Pa (ta tb:TE):TE:=fun σ H Q=>ta σ H fun x H1=>∃ c,x=.bl c/\if c=true then Q (.bl true) H1 else tb σ H1 Q
def Ke (ta:TE):TE:=fun σ H Q=>ta σ H fun x H1=>∃ c,x=.bl c/\Q (.bl (!c)) H1
theorem Fd {op}{t:TE} (h:PE X a t):PE X (.BoolOp op [a] pos) t:=fun pins s σ H Q I hw=>BoolOp_one (h pins s σ H Q I hw)
theorem Fe (ha:PE X a ta) (hb:PE X (.BoolOp .And (b::rest) pos) tb):PE X (.BoolOp .And (a::b::rest) pos) (Kd ta tb):=by
 intro pins s σ H Q I h;refine BoolOp_and (bf (ha pins s σ H _ I h) fun v s1 ⟨x,H1,I1,r1,q1⟩=>?_);obtain⟨c,rfl,q1⟩:=q1
 cases r1
 refine WF ?_
 cases c with
 | true=>exact hb pins s1 σ H1 Q I1 q1
 | false=>exact⟨.bl false,H1,I1,rfl,q1⟩
theorem Kf (ha:PE X a ta) (hb:PE X (.BoolOp .Or (b::rest) pos) tb):PE X (.BoolOp .Or (a::b::rest) pos) (Pa ta tb):=by
 intro pins s σ H Q I h;refine BoolOp_or (bf (ha pins s σ H _ I h) fun v s1 ⟨x,H1,I1,r1,q1⟩=>?_);obtain⟨c,rfl,q1⟩:=q1
 cases r1
 refine WF ?_
 cases c with
 | false=>exact hb pins s1 σ H1 Q I1 q1
 | true=>exact⟨.bl true,H1,I1,rfl,q1⟩
theorem Ff (ha:PE X a ta):PE X (.UnaryOp .Not a pos) (Ke ta):=by
 intro pins s σ H Q I h;refine UnaryOp_ (bf (ha pins s σ H _ I h) fun v s1 ⟨x,H1,I1,r1,q1⟩=>?_);obtain⟨c,rfl,q1⟩:=q1
 cases r1
 exact not_of (WF ⟨.bl (!c),H1,I1,rfl,q1⟩)
def Tp (t:TT) (ta tb:TE):TE:=fun σ H Q=>t σ H fun c H1=>if c=true then ta σ H1 Q else tb σ H1 Q
theorem za {c:Expr} (hc:PT X c tA) (ha:PE X a ta) (hb:PE X b tb):PE X (.IfExp c a b pos) (Tp tA ta tb):=by
 intro pins s σ H Q I h;refine wpAny_IfExp (bf (hc pins s σ H _ I h) fun d s1 ⟨H1,I1,q1⟩=>?_)
 cases d with
 | true=>exact ha pins s1 σ H1 Q I1 q1
 | false=>exact hb pins s1 σ H1 Q I1 q1
end
end L2
namespace L2
open PySem PySem.Spec PyProof.Rows
def cr (K:e_) (H:Hp) (a:Addr) (xs:List V):Prop :=
 Rd H a (.lst xs) ∨
  ∃ (o:Obj) (ai:Array Value) (n:Nat),K.lookup a=some o/\o.cls=.type "list" /\ o.dict=none/\o.data=.seq ai n/\ai.size<=sizeLine/\Vals xs ai.toList
def eD (K:e_) (H:Hp) (a:Addr) (xs:List V):Prop :=
 Rd H a (.tup xs) ∨
  ∃ (o:Obj) (ai:Array Value) (n:Nat),K.lookup a=some o/\o.cls=.type "tuple" /\ o.data=.seq ai n/\ai.size<=sizeLine/\Vals xs ai.toList
noncomputable def Pb:Value->k_ V
 | .none=>some .aJ
 | .bool b=>some (.bl b)
 | .int i _=>some (.int i)
 | .str x _=>some (.str x)
 | .bytes b _=>some (.wI b)
 | .float b _=>some (.E1 b)
 | .ref a=>some (.ref a)
 | .type n=>some (.ty n)
 | _=>none
theorem RelV.abs {x:V}{u:Value} (r:RelV x u):Pb u=some x:=by
 cases x with
 | aJ=>cases r;rfl
 | bl _=>cases r;rfl
 | int _=>obtain⟨t,rfl⟩:=r;rfl
 | str _=>obtain⟨t,rfl⟩:=r;rfl
 | wI _=>obtain⟨t,rfl⟩:=r;rfl
 | E1 _=>obtain⟨t,rfl⟩:=r;rfl
 | ref _=>cases r;rfl
 | ty _=>cases r;rfl
theorem RelV.inj {x y:V}{u:Value} (r:RelV x u) (q:RelV y u):x=y:=K_ (r.abs.symm.trans q.abs)
theorem Vals.inj:∀ {xs ys:List V}{us:List Value},Vals xs us->Vals ys us->xs=ys
 | _,_,_,.nil,.nil=>rfl
 | _,_,_,.cons r t,.cons r' t'=>by rw[r.inj r',Vals.inj t t']
section
variable {X:Cx}{pins:List (Addr×Obj)}{σ:St}{H:Hp}{s:j_}{a:Addr}{xs ys:List V}
theorem cr.of {K:e_} (h:H a=some (.lst xs)):cr K H a xs:=.inl (.inl h)
theorem eD.of {K:e_} (h:H a=some (.tup xs)):eD K H a xs:=.inl (.inl h)
theorem Inv.list (I:Inv X pins σ H s) (h:cr X.K H a xs):∃ ai:List Value,Vals xs ai/\PlainL s.heap a ai.toArray/\xs.length<=sizeLine:=by
 rcases h with h | ⟨o,ai,n,hk,hc,hd,hs,hz,r⟩
 ·obtain⟨z,ai,n,r,e⟩:=h.ok I.be;exact⟨ai,r,⟨_,n,e,rfl,rfl,rfl⟩,z⟩
 ·refine⟨ai.toList,r,⟨o,n,I.kU a o hk,hc,hd,by simpa using hs⟩,?_⟩;have e:=r.length;simp only[ZH] at e
  lia
theorem Inv.tuple (I:Inv X pins σ H s) (h:eD X.K H a xs):∃ ai:List Value,Vals xs ai/\IsTup s.heap a ai.toArray/\xs.length<=sizeLine:=by
 rcases h with h | ⟨o,ai,n,hk,hc,hs,hz,r⟩
 ·obtain⟨z,ai,r,p⟩:=h.ok I.be;exact⟨ai,r,p,z⟩
 ·refine⟨ai.toList,r,⟨o,I.kU a o hk,hc,n,by simpa using hs⟩,?_⟩;have e:=r.length;simp only[ZH] at e
  lia
theorem Inv.zb (I:Inv X pins σ H s) (h:cr X.K H a xs) (h':cr X.K H a ys):xs=ys:=by
 obtain⟨ai,r,⟨o,n,e,_,_,d⟩,_⟩:=I.list h;obtain⟨its',r',⟨o',n',e',_,_,d'⟩,_⟩:=I.list h';rw[e] at e';cases e';rw[d] at d';injection d' with d1 _
 have:ai=its':=by simpa using congrArg Array.toList d1
 subst this;exact r.inj r'
theorem Inv.ql (I:Inv X pins σ H s) (h:eD X.K H a xs) (h':eD X.K H a ys):xs=ys:=by
 obtain⟨ai,r,⟨o,e,_,n,d⟩,_⟩:=I.tuple h;obtain⟨its',r',⟨o',e',_,n',d'⟩,_⟩:=I.tuple h';rw[e] at e';cases e';rw[d] at d';injection d' with d1 _
 have:ai=its':=by simpa using congrArg Array.toList d1
 subst this;exact r.inj r'
end
noncomputable abbrev Cx.pb (X:Cx) (E:Value->j_->Prop):Cx:={ X with xe:=E }
noncomputable abbrev Cx.Kg (X:Cx):Cx:=X.pb fun _ _=>False
theorem Cx.Ok.pb {X:Cx} (ok:X.Ok) (E:Value->j_->Prop):(X.pb E).Ok :=
 ⟨ok.mod,ok.kind,ok.glob,ok.blt,ok.above,ok.inj,ok.has,ok.xQ,ok.hd,ok.frames,ok.Oa,ok.RM,ok.bs,ok.BY,ok.y7,ok.BZ,ok.jQ,ok.E4⟩
theorem Cx.Ok.gY {X:Cx}{E:Value->j_->Prop} (ok:(X.pb E).Ok):X.Ok :=
 ⟨ok.mod,ok.kind,ok.glob,ok.blt,ok.above,ok.inj,ok.has,ok.xQ,ok.hd,ok.frames,ok.Oa,ok.RM,ok.bs,ok.BY,ok.y7,ok.BZ,ok.jQ,ok.E4⟩
section
variable {X:Cx}{pins:List (Addr×Obj)}{σ:St}{H:Hp}{s:j_}{E:Value->j_->Prop}
theorem Inv.pb (I:Inv X pins σ H s) (E:Value->j_->Prop):Inv (X.pb E) pins σ H s:=⟨I.ok.pb E,I.os,I.bare,I.base,I.loc,I.cell,I.free,I.i8,I.pin,I.be,I.len⟩
theorem Inv.gY (I:Inv (X.pb E) pins σ H s):Inv X pins σ H s:=⟨I.ok.gY,I.os,I.bare,I.base,I.loc,I.cell,I.free,I.i8,I.pin,I.be,I.len⟩
theorem SP.gY {D:Ends}{f:Flow}{s':j_} (h:SP (X.pb E) pins D f s'):SP X pins D f s':=by
 cases f with
 | next=>obtain⟨σ',H',I,q⟩:=h;exact⟨σ',H',I.gY,q⟩
 | brk=>obtain⟨σ',H',I,q⟩:=h;exact⟨σ',H',I.gY,q⟩
 | cont=>obtain⟨σ',H',I,q⟩:=h;exact⟨σ',H',I.gY,q⟩
 | ret u=>obtain⟨v,σ',H',I,r,q⟩:=h;exact⟨v,σ',H',I.gY,r,q⟩
theorem kY.Kg {st:List Stmt}{t:TS} (h:kY X.Kg st t):kY X st t:=fun pins s σ H D I hw =>
 Xz (h pins s σ H D (I.pb _) hw) (fun _ _ q=>q.gY) fun _ _ z=>WS z
end
section
variable {X:Cx}{st:Stmt}{rest:List Stmt}{t u:TS}{e:Expr}{te:TE}{pos:Pos}
def DU:TS:=fun D σ H=>D.nx σ H
def Pc (t u:TS):TS:=fun D σ H=>t { D with nx:=u D } σ H
theorem B4:kY X [] DU:=fun _ _ σ H _ I h=>aaF ⟨σ,H,I,h⟩
theorem zc (h1:PS X st t) (h2:kY X rest u):kY X (st::rest) (Pc t u):=by
 intro pins s σ H D I h;refine wpAny_execs_cons (bf (h1 pins s σ H { D with nx:=u D } I h) fun f s1 q=>?_)
 cases f with
 | next =>
  obtain⟨σ',H',I',q⟩:=q;exact h2 pins s1 σ' H' D I' q
 | ret v=>exact q
 | brk=>exact q
 | cont=>exact q
theorem B5:PS X (.Pass pos) DU:=fun _ _ σ H _ I h=>wpAny_Pass ⟨σ,H,I,h⟩
theorem Inv.quiet {pins:List (Addr×Obj)}{σ:St}{H:Hp}{s:j_} (I:Inv X pins σ H s):interactive X.env=false:=by simp [interactive,I.ok.kind]
def Kh (te:TE):TS:=fun D σ H=>te σ H fun _ H1=>D.nx σ H1
theorem iP (he:PE X e te) (hs:Xx e none pos.line X.env=pure false:=by rfl):PS X (.Expr e pos) (Kh te):=by
 intro pins s σ H D I h;exact wpAny_Expr_any (bf (he pins s σ H _ I h) fun v s1 ⟨x,H1,I1,r1,q1⟩=>⟨σ,H1,I1,q1⟩) I.quiet hs
def Pd (te:TE):TS:=fun D σ H=>te σ H D.rt
theorem Fg (he:PE X e te):PS X (.Return (some e) pos) (Pd te):=by
 intro pins s σ H D I h;exact wpAny_Return_some (bf (he pins s σ H _ I h) fun v s1 ⟨x,H1,I1,r1,q1⟩=>⟨x,σ,H1,I1,r1,q1⟩)
def Pe (c:TT) (t u:TS):TS:=fun D σ H=>c σ H fun b H1=>if b=true then t D σ H1 else u D σ H1
theorem Ki {c:Expr}{a b:List Stmt}{tc:TT} (hc:PT X c tc) (ha:kY X a t) (hb:kY X b u):PS X (.If c a b pos) (Pe tc t u):=by
 intro pins s σ H D I h;refine wpAny_If (bf (hc pins s σ H _ I h) fun d s1 ⟨H1,I1,q1⟩=>?_)
 cases d with
 | true=>exact ha pins s1 σ H1 D I1 q1
 | false=>exact hb pins s1 σ H1 D I1 q1
def Fh:TS:=fun _ _ _=>False
theorem zd:PS X st Fh:=fun _ _ _ _ _ _ h=>h.elim
end
noncomputable abbrev TG:=V->St->Hp->(St->Hp->Prop)->Prop
noncomputable abbrev Fi:=List V->St->Hp->(St->Hp->Prop)->Prop
def PG (X:Cx) (target:Expr) (t:TG):Prop :=
 ∀ (pins:List (Addr×Obj)) (s:j_) (σ:St) (H:Hp) (v:V) (u:Value) (Q:St->Hp->Prop),Inv X pins σ H s->RelV v u->t v σ H Q ->
  wpAny (model X.prog X.w) X.A (ab8 target X.env u) (fun _ s'=>∃ σ' H',Inv X pins σ' H' s'/\Q σ' H') X.xe s
def Od (X:Cx) (ts:List Expr) (t:Fi):Prop :=
 ∀ (pins:List (Addr×Obj)) (s:j_) (σ:St) (H:Hp) (vs:List V) (us:List Value) (Q:St->Hp->Prop),Inv X pins σ H s->Vals vs us->t vs σ H Q ->
  wpAny (model X.prog X.w) X.A (assignInOrder ((aat ts X.env).map (·.2)) us) (fun _ s'=>∃ σ' H',Inv X pins σ' H' s'/\Q σ' H') X.xe s
noncomputable abbrev Oe:=V->V->Hp->VK->Prop
def Og (X:Cx) (op:Y1) (t:Oe):Prop :=
 ∀ (pins:List (Addr×Obj)) (s:j_) (σ:St) (H:Hp) (x y:V) (v u:Value) (Q:VK),Inv X pins σ H s->RelV x v->RelV y u->t x y H Q ->
  wpAny (model X.prog X.w) X.A (inplaceOp op v u) (EP X pins σ Q) X.xe s
section
variable {X:Cx}{pos:Pos}
def dU (i:Nat):TG:=fun v σ H Q=>Q (σ.set i (some v)) H
theorem mO {i : Nat} {x : Str} (hN : X.N.Nodup) (hi : X.N[i]? = some x) (hx : Loc X.env.scope x) (hf : X.fn x = true ∨ X.env.scope.names.lookup x = some .local := by first | exact .inl rfl | exact .inr rfl | assumption) : PG X (.Name x pos) (dU i) := by
 intro pins s σ H v u Q I r h;exact wpAny_assign_Name (jR I hN hi hx r (fun s' I'=>⟨_,H,I',h⟩) hf)
def ze:Fi:=fun vs σ H Q=>vs=[]/\Q σ H
def jT (t:TG) (u:Fi):Fi:=fun vs σ H Q=>∃ v r,vs=v::r/\t v σ H fun σ' H'=>u r σ' H' Q
theorem B6:Od X [] ze:=by
 intro pins s σ H vs us Q I r h;obtain⟨e,h⟩:=h;subst e
 cases r
 exact assignInOrder_nil ⟨σ,H,I,h⟩
theorem sW {e:Expr}{es:List Expr}{t:TG}{u:Fi} (h1:PG X e t) (h2:Od X es u)
  (hs:(aat (e::es) X.env).map (·.2)=ab8 e X.env::(aat es X.env).map (·.2):=by rfl):Od X (e::es) (jT t u):=by
 intro pins s σ H vs us Q I r h;obtain⟨v,vr,e1,h⟩:=h;subst e1
 cases r with
 | cons r rr =>
  rw[hs];refine assignInOrder_cons (bf (h1 pins s σ H _ _ _ I r h) fun _ s1 ⟨σ1,H1,I1,q1⟩=>?_);exact h2 pins s1 σ1 H1 _ _ Q I1 rr q1
def zf (K:e_) (n:Nat) (t:Fi):TG:=fun v σ H Q=>∃ a xs,v=.ref a/\eD K H a xs/\xs.length=n/\t xs σ H Q
theorem Fj {es:List Expr}{k:Nat}{t:Fi}{n:Nat} (hc:X.calm=true) (h:Od X es t)
  (hn:(aat es X.env).length=n:=by rfl) (Pf:(aat es X.env).findIdx? (·.1)=none:=by rfl):PG X (.Tuple es k pos) (zf X.K n t):=by
 intro pins s σ H v u Q I r hw;obtain⟨a,xs,e1,hq,hl,hw⟩:=hw;subst e1
 cases r
 obtain⟨ai,rv,ht,hz⟩:=I.tuple hq;refine assign_Tuple_tuple (I.ok.hd hc) ht (by simp [hn,←hl,rv.length]) Pf fun h' hx=>?_
 have I1:Inv X pins σ H { s with heap:=h' }:=I.kept (t':=s.toks) fun b o e=>hx b o (R_ (z_ e)) e
 exact h pins _ σ H xs _ Q I1 (by simpa using rv) hw
def Kj (te:TE) (g:TG):TS:=fun D σ H=>te σ H fun x H1=>g x σ H1 D.nx
theorem vd {i : Nat} {x : Str} {e : Expr} {te : TE} {pos' : Pos} (hN : X.N.Nodup) (hi : X.N[i]? = some x) (hx : Loc X.env.scope x) (he : PE X e te) (hs : Xx e (some (.Name x pos')) pos.line X.env = pure false := by rfl) (hf : X.fn x = true ∨ X.env.scope.names.lookup x = some .local := by first | exact .inl rfl | exact .inr rfl | assumption) :
  PS X (.Assign [.Name x pos'] e pos) (Kj te (dU i)):=by
 intro pins s σ H D I h;refine wpAny_Assign_Name (bf (he pins s σ H _ I h) fun v s1 ⟨y,H1,I1,r1,q1⟩=>?_) hs;exact jR I1 hN hi hx r1 (fun s2 I2=>⟨_,H1,I2,q1⟩) hf
def Ph (i:Nat) (te:TE) (ti:Oe):TS:=fun D σ H=>∃ x,σ[i]? = some (some x)/\te σ H fun y H1=>ti x y H1 fun z H2=>D.nx (σ.set i (some z)) H2
theorem Fk {i : Nat} {x : Str} {e : Expr} {te : TE} {op : Y1} {ti : Oe} {pos' : Pos} (hN : X.N.Nodup) (hi : X.N[i]? = some x) (hx : Loc X.env.scope x) (he : PE X e te) (ho : Og X op ti) (hf : X.fn x = true ∨ X.env.scope.names.lookup x = some .local := by first | exact .inl rfl | exact .inr rfl | assumption) :
  PS X (.AugAssign (.Name x pos') op e pos) (Ph i te ti):=by
 intro pins s σ H D I h;obtain⟨v,e1,h⟩:=h;obtain⟨m,hn,hl⟩:=I.loc;have JK:yW X.env.scope x:=by rcases hx with k | k;exact .inl k;exact .inr (.inl k)
 obtain⟨u,r,l⟩:=hl i x v hi e1 JK;refine wpAny_AugAssign_Name ?_
 have go:wpAny (model X.prog X.w) X.A (eval e X.env) (fun w s₂=>wpAny (model X.prog X.w) X.A (inplaceOp op u w) (fun r s₃=>wpAny (model X.prog X.w) X.A (storeName X.env x r) (fun _=>SP X pins D .next) X.xe s₃) X.xe s₂) X.xe s:=by
  refine bf (he pins s σ H _ I h) fun w s1 ⟨y,H1,I1,r1,q1⟩=>?_
  refine bf (ho pins s1 σ H1 v y u w _ I1 r r1 q1) fun z s2 ⟨zv,H2,I2,r2,q2⟩=>?_
  exact jR I2 hN hi hx r2 (fun s3 I3=>⟨_,H2,I3,q2⟩) hf
 rcases l with ⟨hk,hm⟩ | ⟨hk,c,hc,qk⟩
 ·exact aaY I.ok.kind hk hn hm go
 ·rcases hk with hk | hk
  ·exact abh I.ok.kind hk hc qk go
  ·rcases hx with k | k
   ·have:X.env.scope.names.lookup x=some .free:=hk;rw[k] at this;cases this
   ·have:X.env.scope.names.lookup x=some .free:=hk;rw[k] at this;cases this
def Pj (f:Int->Int->Int):Oe:=fun x y H Q=>∃ i j,x=.int i/\y=.int j/\Q (.int (f i j)) H
theorem Fl:Og X .Add (Pj fun i j=>i+j):=by
 intro pins s σ H x y v u Q I r1 r2 h;obtain⟨i,j,e1,e2,q⟩:=h;subst e1;subst e2;obtain⟨t,rfl⟩:=r1;obtain⟨t',rfl⟩:=r2;exact iadd_int ⟨.int _,H,I.tok _,⟨_,rfl⟩,q⟩
theorem Fm:Og X .Sub (Pj fun i j=>i-j):=by
 intro pins s σ H x y v u Q I r1 r2 h;obtain⟨i,j,e1,e2,q⟩:=h;subst e1;subst e2;obtain⟨t,rfl⟩:=r1;obtain⟨t',rfl⟩:=r2;exact isub_int ⟨.int _,H,I.tok _,⟨_,rfl⟩,q⟩
end
section
variable {X:Cx}{pos:Pos}
def Fo (c:TT) (tb:TS):TS:=fun D σ H=>∃ W:Nat->St->Hp->Prop,(∃ m,W m σ H)/\∀ m σ H,W m σ H ->
 c σ H fun b H1=>if b=true then ∃ N:St->Hp->Prop,(∀ σ' H',N σ' H'->∃ m',m'<m/\W m' σ' H')/\tb { D with nx:=N,ct:=N,bk:=D.nx } σ H1 else D.nx σ H1
theorem zg {c:Expr}{body:List Stmt}{tc:TT}{tb:TS} (hp:aah (model X.prog X.w) X.A X.env X.xe) (hc:PT X c tc) (hb:kY X body tb):PS X (.While c body [] pos) (Fo tc tb):=by
 intro pins s σ H D I h;obtain⟨W,⟨m0,w0⟩,turn⟩:=h;refine wpAny_While (codeAny_whileLoop (fun n s'=>∃ σ' H',Inv X pins σ' H' s'/\W n σ' H') ?_ m0 ⟨σ,H,I,w0⟩);rintro n s1 ⟨σ1,H1,I1,w1⟩;refine XX hp (bf (hc pins s1 σ1 H1 _ I1 (turn n σ1 H1 w1)) fun b s2 ⟨H2,I2,q2⟩=>?_)
 cases b with
 | true =>
  obtain⟨N,hN,q2⟩:=q2;rw[u_ rfl];refine XX hp (bf (hb pins s2 σ1 H2 _ I2 q2) fun f s3 q3=>?_)
  cases f with
  | next =>
   obtain⟨σ3,H3,I3,n3⟩:=q3;obtain⟨m',hm,w3⟩:=hN σ3 H3 n3;exact⟨m',hm,σ3,H3,I3,w3⟩
  | cont =>
   obtain⟨σ3,H3,I3,n3⟩:=q3;obtain⟨m',hm,w3⟩:=hN σ3 H3 n3;exact⟨m',hm,σ3,H3,I3,w3⟩
  | brk=>exact q3
  | ret v=>exact q3
 | false =>
  rw[p_ s_];exact aaF ⟨σ1,H2,I2,q2⟩
end
structure It where
 go:Nat->Hp->Prop
 DV:Nat->Hp->V->Hp->Prop
 stop:Nat->Hp->Prop
def mq (X:Cx) (pins:List (Addr×Obj)) (H:Hp) (b:Addr):Prop :=
 H b=none/\b≠X.env.locals/\b∉X.fs/\(b∈X.ex∨X.s₀.heap.objs.size<=b)/\(∀ x c,X.env.cells.lookup x=some c->c≠b)/\∀ p∈X.pn++pins,p.1≠b
theorem Inv.ve {X:Cx}{pins:List (Addr×Obj)}{σ:St}{H H':Hp}{s:j_}{b:Addr} (I:Inv X pins σ H s) (hb:s.heap.objs.size<=b) (hn:H' b=none):mq X pins H' b:=by
 refine⟨hn,Y2 (C_ I.lt hb),I.O1 hb,.inr (Q_ I.sz hb),fun x c e z=>?_,fun p hp z=>?_⟩
 ·obtain⟨v,q⟩:=I.cell x c e;exact absurd (C_ q.lt (by rw[z];exact hb)) (WT _)
 ·exact absurd (C_ (z_ (I.pin p hp).1) (by rw[z];exact hb)) (WT _)
structure Turn (P:N_) (w:World) (K:e_) (tg:Expr) (J:It) (fp:List Addr) (it:Addr) (tn:Nat->Heap->Prop):Prop where
 mem:it∈fp
 obj:∀ i h,tn i h->∀ b∈fp,∃ o,h.get? b=some o/\∀ v,o.data≠.cell v
 keep:∀ i h h',tn i h->(∀ b∈fp,∀ o,h.get? b=some o->h'.get? b=some o)->tn i h'
 item:∀ (X:Cx),X.prog=P->X.w=w->X.K=K->X.calm=true->∀ (i:Nat) (pins:List (Addr×Obj)) (s:j_) (σ:St) (H:Hp) (E:Value->j_->Prop),Inv X pins σ H s->(∀ b∈fp,mq X pins H b)->tn i s.heap->J.go i H ->
  wpAny (model P w) X.A (ab9 (.ref it)) (fun r s1=>∃ u,r=some u /\
   wpAny (model P w) X.A (Zz tg (.ref it) u) (fun _ s2=>∃ x H',Inv X pins σ H' s2/\RelV x u/\J.DV i H x H'/\tn (i+1) s2.heap/\∀ b∈fp,H' b=none) E s1) E s
 done:∀ (X:Cx),X.prog=P->X.w=w->X.K=K->X.calm=true->∀ (i:Nat) (pins:List (Addr×Obj)) (s:j_) (σ:St) (H:Hp) (E:Value->j_->Prop),Inv X pins σ H s->(∀ b∈fp,mq X pins H b)->tn i s.heap->J.stop i H ->
  wpAny (model P w) X.A (ab9 (.ref it)) (fun r s1=>r=none/\Inv X pins σ H s1) E s
 self:∀ (A:WO) (i:Nat) (s:j_) (Q:Value->j_->Prop) (E:Value->j_->Prop),tn i s.heap->Q (.ref it) s->wpAny (model P w) A (pyIter (.ref it)) Q E s
noncomputable abbrev TI:=St->Hp->(It->Hp->Prop)->Prop
def RQ (X:Cx) (pins:List (Addr×Obj)) (σ:St) (tg:Expr) (R:It->Hp->Prop) (Oh:Value) (s2:j_):Prop :=
 ∃ (it:Addr) (fp:List Addr) (tn:Nat->Heap->Prop) (J:It) (H':Hp),Oh=.ref it/\Inv X pins σ H' s2/\Turn X.prog X.w X.K tg J fp it tn/\tn 0 s2.heap/\(∀ b∈fp,mq X pins H' b)/\R J H'
def PI (X:Cx) (tg iter:Expr) (wi:TI):Prop :=
 ∀ (pins:List (Addr×Obj)) (s:j_) (σ:St) (H:Hp) (R:It->Hp->Prop),Inv X pins σ H s->wi σ H R ->
  wpAny (model X.prog X.w) X.A (eval iter X.env) (fun v s1=>wpAny (model X.prog X.w) X.A (pyIter v) (RQ X pins σ tg R) X.xe s1) X.xe s
theorem sX {M:Model}{A:WO}{E:Value->j_->Prop}{s:j_}{tg:Expr}{it:Addr}{u:Value}{o:Obj}{n:YD}{vs:Array Value}{Q:Unit->j_->Prop} (ho:s.heap.get? it=some o) (hc:o.cls=.type n) (hd:o.data=.fields vs)
  (hn:["enumerate","zip","dict_itemiterator","dict_reverseitemiterator","odict_iterator","itertools.zip_longest","itertools.pairwise"].contains n=false) (hQ:Q () s):wpAny M A (Zz tg (.ref it) u) Q E s:=by
 unfold Zz
 cases tg<;>first
  | exact r_ hQ
  | (cases u<;>first
    | exact r_ hQ
    | (refine d_ (wpAny_load ho ?_)
       rw[hc,hd];show wpAny M A (if (["enumerate","zip","dict_itemiterator","dict_reverseitemiterator","odict_iterator","itertools.zip_longest","itertools.pairwise"].contains n&&vs[0]? == some (Xt _))=true then _ else _) Q E s;rw[p_ (by intro h;rw[hn,acE] at h;cases h)];exact r_ hQ))
noncomputable def JL (K:e_) (a:Addr):It :=
 ⟨fun i H=>∃ xs x,cr K H a xs/\xs[i]? = some x,fun i H x H'=>H'=H/\∀ xs,cr K H a xs->xs[i]? = some x,fun i H=>∃ xs,cr K H a xs/\xs.length<=i⟩
noncomputable def Oi (K:e_) (a:Addr):It :=
 ⟨fun i H=>∃ xs x,eD K H a xs/\xs[i]? = some x,fun i H x H'=>H'=H/\∀ xs,eD K H a xs->xs[i]? = some x,fun i H=>∃ xs,eD K H a xs/\xs.length<=i⟩
noncomputable def Kk (lo:Int) (n:Nat):It:=⟨fun i _=>i<n,fun i H x H'=>H'=H/\x=.int (lo+i),fun i _=>n<=i⟩
theorem qm {P:N_}{w:World}{K:e_}{tg:Expr} (a it:Addr):Turn P w K tg (JL K a) [it] it (fun i h=>h.IsListIter it a i) where
 mem:=by simp
 obj:=fun i h st b hb=>by
  have e:b=it:=by simpa using hb
  subst e;obtain⟨o,e,c,d⟩:=st;exact⟨o,e,fun v z=>by rw[d] at z;cases z⟩
 keep:=fun i h h' st k=>st.at fun o e=>k it (by simp) o e
 item:=by
  intro X hP hw hK hc i pins s σ H E I hf st hg;subst hP hw hK;obtain⟨xs,x,hq,hx⟩:=hg;obtain⟨ai,rv,p,hz⟩:=I.list hq;obtain⟨u,hu,ru⟩:=rv.get hx;obtain⟨f0,f1,f2,f3,f4,f5⟩:=hf it (by simp);refine aau st p.isList (x:=u) (by simpa using hu) fun h' rn sb=>?_
  have I1:Inv X pins σ H { s with heap:=h' }:=I.turned (t':=s.toks) (fun b o hb e=>(sb.2 b hb).trans e) f0 f1 f3 f4 f5;obtain⟨o,e,c,d⟩:=id rn;exact⟨u,rfl,sX (s:={ s with heap:=h' }) e c d (by decide) ⟨x,H,I1,ru,⟨rfl,fun ys hy=>by rw[I.zb hy hq];exact hx⟩,rn,fun b hb=>(hf b hb).1⟩⟩
 done:=by
  intro X hP hw hK hc i pins s σ H E I hf st hg;subst hP hw hK;obtain⟨xs,hq,hx⟩:=hg;obtain⟨ai,rv,p,hz⟩:=I.list hq;obtain⟨f0,f1,f2,f3,f4,f5⟩:=hf it (by simp);have hl:=rv.length;exact aaR (I.ok.hd hc) st p.isList (by simp;lia) fun h' eb=>⟨rfl,I.turned (t':=s.toks) (fun b o hb e=>eb b o hb e) f0 f1 f3 f4 f5⟩
 self:=fun _ _ _ _ _ st h=>wpAny_pyIter_listiter st h
theorem vf {P:N_}{w:World}{K:e_}{tg:Expr} (a it:Addr):Turn P w K tg (Oi K a) [it] it (fun i h=>h.IsTupleIter it a i) where
 mem:=by simp
 obj:=fun i h st b hb=>by
  have e:b=it:=by simpa using hb
  subst e;obtain⟨o,e,c,d⟩:=st;exact⟨o,e,fun v z=>by rw[d] at z;cases z⟩
 keep:=fun i h h' st k=>st.at fun o e=>k it (by simp) o e
 item:=by
  intro X hP hw hK hc i pins s σ H E I hf st hg;subst hP hw hK;obtain⟨xs,x,hq,hx⟩:=hg;obtain⟨ai,rv,p,hz⟩:=I.tuple hq;obtain⟨u,hu,ru⟩:=rv.get hx;obtain⟨f0,f1,f2,f3,f4,f5⟩:=hf it (by simp);refine wpAny_pyNext_tuple_item st (show s.heap.IsTuple a ai.toArray from p) (x:=u) (by simpa using hu) fun h' rn sb=>?_
  have I1:Inv X pins σ H { s with heap:=h' }:=I.turned (t':=s.toks) (fun b o hb e=>(sb.2 b hb).trans e) f0 f1 f3 f4 f5;obtain⟨o,e,c,d⟩:=id rn;exact⟨u,rfl,sX (s:={ s with heap:=h' }) e c d (by decide) ⟨x,H,I1,ru,⟨rfl,fun ys hy=>by rw[I.ql hy hq];exact hx⟩,rn,fun b hb=>(hf b hb).1⟩⟩
 done:=by
  intro X hP hw hK hc i pins s σ H E I hf st hg;subst hP hw hK;obtain⟨xs,hq,hx⟩:=hg;obtain⟨ai,rv,p,hz⟩:=I.tuple hq;obtain⟨f0,f1,f2,f3,f4,f5⟩:=hf it (by simp);have hl:=rv.length;exact wpAny_pyNext_tuple_end (I.ok.hd hc) st (show s.heap.IsTuple a ai.toArray from p) (by simp;lia) fun h' eb=>⟨rfl,I.turned (t':=s.toks) (fun b o hb e=>eb b o hb e) f0 f1 f3 f4 f5⟩
 self:=fun _ _ _ _ _ st h=>wpAny_pyIter_tupleiter st h
theorem vg {P:N_}{w:World}{K:e_}{tg:Expr} (it:Addr) (lo:Int) (n:Nat):Turn P w K tg (Kk lo n) [it] it (fun i h=>aaZ h it (lo+(i:Nat)*1) ((n:Int)-(i:Nat)) 1) where
 mem:=by simp
 obj:=fun i h st b hb=>by
  have e:b=it:=by simpa using hb
  subst e
  exact⟨_,st,fun v z=>by
   have z':aa0 _=aai v:=z
   cases z'⟩
 keep:=fun i h h' st k=>k it (by simp) _ st
 item:=by
  intro X hP hw hK hc i pins s σ H E I hf st hg;subst hP hw hK;obtain⟨f0,f1,f2,f3,f4,f5⟩:=hf it (by simp);have W:=Walks.range (prog:=X.prog) (w:=X.w) (I.ok.hd hc) it lo 1 n;refine W.item i s _ _ hg st fun v h' tk hv rn kk=>?_
  obtain⟨t,rfl⟩:=hv;have I1:Inv X pins σ H { s with heap:=h',toks:=tk }:=I.turned (fun b o hb e=>kk b o (by simpa using hb) e) f0 f1 f3 f4 f5;refine⟨_,rfl,sX (s:={ s with heap:=h',toks:=tk }) (n := "range_iterator") rn rfl rfl (by decide) ⟨.int (lo+i),H,I1,⟨t,?_⟩,⟨rfl,rfl⟩,rn,fun b hb=>(hf b hb).1⟩⟩;rw[Z2]
 done:=by
  intro X hP hw hK hc i pins s σ H E I hf st hg;subst hP hw hK;obtain⟨f0,f1,f2,f3,f4,f5⟩:=hf it (by simp);exact aav (I.ok.hd hc) st (by have:n<=i:=hg;lia) fun h' eb=>⟨rfl,I.turned (t':=s.toks) (fun b o hb e=>eb b o hb e) f0 f1 f3 f4 f5⟩
 self:=fun _ _ _ _ _ st h=>Y3 st h
end L2
namespace L2
open PySem PySem.Spec PyProof.Rows
section
variable {X:Cx}{tg:Expr}
def DW (K:e_) (tl:TE):TI:=fun σ H R=>tl σ H fun x H1=>∃ a,x=.ref a/\(∃ xs,cr K H1 a xs)/\R (JL K a) H1
theorem wK {l:Expr}{tl:TE} (hl:PE X l tl):PI X tg l (DW X.K tl):=by
 intro pins s σ H R I h;refine bf (hl pins s σ H _ I h) fun v s1 ⟨x,H1,I1,r1,q1⟩=>?_
 obtain⟨a,e,⟨xs,hq⟩,q⟩:=q1;subst e
 cases r1
 obtain⟨ai,rv,p,hz⟩:=I1.list hq;refine Yo p.isList ?_;refine⟨s1.heap.objs.size,[s1.heap.objs.size],_,_,H1,rfl,I1.kept (t':=s1.toks) fun b o e=>l_ _ e,qm a _,⟨_,v_ _ rfl,rfl,rfl⟩,fun b hb=>?_,q⟩;have e:b=s1.heap.objs.size:=by simpa using hb
 subst e;exact I1.ve (w_ _) (I1.be.fresh (w_ _))
theorem sY {pins:List (Addr×Obj)}{σ:St}{H:Hp}{s:j_}{R:It->Hp->Prop}{E:Value->j_->Prop}{lo hi:Int}{t u v:Tok}{tk:Nat} (I:Inv X pins σ H s) (h1 : -(2 ^ 62)<=lo) (h2:lo<2 ^ 62) (h3 : -(2 ^ 62)<=hi) (h4:hi<2 ^ 62)
  (q:R (Kk lo (hi-lo).toNat) H):wpAny (model X.prog X.w) X.A (pyIter (.ref s.heap.objs.size)) (RQ X pins σ tg R) E { s with heap:=s.heap.push { cls:=.type "range",data:=.fields #[.int lo t,.int hi u,.int 1 v] },toks:=tk }:=by
 refine wpAny_pyIter_range (IsRange.new ..) (small_one h1 h2 h3 h4) ?_;have I1:Inv X pins σ H { s with heap:=s.heap.push { cls:=.type "range",data:=.fields #[.int lo t,.int hi u,.int 1 v] },toks:=tk }:=I.kept fun b o e=>l_ _ e
 refine⟨(s.heap.push { cls:=.type "range",data:=.fields #[.int lo t,.int hi u,.int 1 v] }).objs.size,[(s.heap.push { cls:=.type "range",data:=.fields #[.int lo t,.int hi u,.int 1 v] }).objs.size],_,_,H,rfl,
  I1.kept (t':=tk) fun b o e=>l_ _ e,vg _ lo (hi-lo).toNat,?_,fun b hb=>?_,q⟩
 ·have e1:lo+((0:Nat):Int)*1=lo:=by simp
  have e2:(((hi-lo).toNat:Nat):Int)-((0:Nat):Int)=YW lo hi 1:=by rw[abo];split<;>lia
  show aaZ _ _ (lo+((0:Nat):Int)*1) ((((hi-lo).toNat:Nat):Int)-((0:Nat):Int)) 1;rw[e1,e2];exact v_ _ rfl
 ·have e:b=(s.heap.push { cls:=.type "range",data:=.fields #[.int lo t,.int hi u,.int 1 v] }).objs.size:=by simpa using hb
  subst e;exact I1.ve (w_ _) (I1.be.fresh (w_ _))
def Kl (ta:TA):TI:=fun σ H R=>ta σ H fun vs H1=>∃ j:Int,vs=[.int j] /\ -(2 ^ 62)<=j/\j<2 ^ 62/\R (Kk 0 j.toNat) H1
def Km (ta:TA):TI:=fun σ H R=>ta σ H fun vs H1=>∃ i j:Int,vs=[.int i,.int j]/\(-(2 ^ 62)<=i/\i<2 ^ 62 /\ -(2 ^ 62)<=j/\j<2 ^ 62)/\R (Kk i (j-i).toNat) H1
theorem xS {a:Expr}{ta:TA}{p pos:Pos} (hg:Gl X "range") (hm:X.mg "range" = none) (ha:PA X [a] ta) (hs:T_ [a] X.env=[(false,eval a X.env)]:=by rfl):PI X tg (.Call (.Name "range" p) [a] [] pos) (Kl ta):=by
 intro pins s σ H R I h;refine Call_ (gX I hg hm Yj (WW (bf (ha pos pins s σ H _ I h) fun us s1 ⟨vs,H1,I1,r1,q1⟩=>?_) hs rfl));obtain⟨j,e,q1,q2,q⟩:=q1;subst e
 cases r1 with
 | cons r rr =>
  cases rr
  obtain⟨t,rfl⟩:=r;exact call_range_1 (sY I1 (by lia) (by lia) q1 q2 (by simpa using q))
theorem xT {a b:Expr}{ta:TA}{p pos:Pos} (hg:Gl X "range") (hm:X.mg "range" = none) (ha:PA X [a,b] ta) (hs:T_ [a,b] X.env=[(false,eval a X.env),(false,eval b X.env)]:=by rfl) (mP:T_ [b] X.env=[(false,eval b X.env)]:=by rfl) :
  PI X tg (.Call (.Name "range" p) [a,b] [] pos) (Km ta):=by
 intro pins s σ H R I h;refine Call_ (gX I hg hm Yj (WW (bf (ha pos pins s σ H _ I h) fun us s1 ⟨vs,H1,I1,r1,q1⟩=>?_) (by rw[hs,mP]) (by rw[mP];rfl)));obtain⟨i,j,e,⟨q1,q2,q3,q4⟩,q⟩:=q1;subst e
 cases r1 with
 | cons r rr =>
  cases rr with
  | cons r' rr =>
   cases rr
   obtain⟨t,rfl⟩:=r;obtain⟨t',rfl⟩:=r';exact call_range_2 (sY I1 q1 q2 q3 q4 q)
def Pk (wi:TI) (g:TG) (tb:TS):TS:=fun D σ H=>wi σ H fun J H1=>∃ W:Nat->Nat->St->Hp->Prop,(∃ m,W 0 m σ H1)/\∀ i m σ H,W i m σ H ->
 (J.stop i H/\D.nx σ H)∨(J.go i H/\∃ N:St->Hp->Prop,(∀ σ' H',N σ' H'->∃ m',m'<m/\W (i+1) m' σ' H')/\∀ x H',J.DV i H x H'->g x σ H' fun σ2 H2=>tb { D with nx:=N,ct:=N,bk:=D.nx } σ2 H2)
noncomputable def k6 (fp:List Addr) (h:Heap):List (Addr×Obj):=fp.filterMap fun b=>(h.get? b).map fun o=>(b,o)
theorem fN {fp:List Addr}{h:Heap}{b:Addr}{o:Obj} (hb:b∈fp) (e:h.get? b=some o):(b,o)∈k6 fp h:=abx.mpr ⟨b,hb,by rw[e];rfl⟩
theorem xU {fp:List Addr}{h:Heap}{p:Addr×Obj} (hp:p∈k6 fp h):p.1∈fp/\h.get? p.1=some p.2:=by
 obtain⟨b,hb,e⟩:=abx.mp hp
 cases q:h.get? b with
 | none=>rw[q] at e;cases e
 | some o =>
  rw[q] at e;have e':(b,o)=p:=K_ e;subst e';exact⟨hb,q⟩
theorem Inv.pinned {pins:List (Addr×Obj)}{σ:St}{H:Hp}{s:j_}{fp:List Addr} (I:Inv X pins σ H s) (hf:∀ b∈fp,mq X pins H b) (ho:∀ b∈fp,∃ o,s.heap.get? b=some o/\∀ v,o.data≠.cell v):Inv X (pins++k6 fp s.heap) σ H s :=
 I.iO fun p hp=>(U_.mp hp).elim (fun z=>I.pin p (O_ _ z)) fun z=>by
  obtain⟨hb,e⟩:=xU z;obtain⟨f0,f1,f2,_⟩:=hf p.1 hb;obtain⟨o,e',d⟩:=ho p.1 hb;rw[e] at e';cases e';exact⟨e,f0,f1,f2,d⟩
theorem Inv.jU {pins pl:List (Addr×Obj)}{σ:St}{H:Hp}{s:j_} (I:Inv X (pins++pl) σ H s):Inv X pins σ H s:=I.iO fun p hp=>I.pin p (O_ _ (Zv _ hp))
theorem zh {iter:Expr}{body:List Stmt}{wi:TI}{g:TG}{tb:TS}{pos:Pos} (hp:aah (model X.prog X.w) X.A X.env X.xe) (hc:X.calm=true) (hi:PI X tg iter wi) (hg:PG X tg g) (hb:kY X body tb)
  (hs:∀ x,Xe iter X.env x=pure x:=by intro _;rfl):PS X (.For tg iter body [] pos) (Pk wi g tb):=by
 intro pins s σ H D I h;refine wpAny_For (bf (hi pins s σ H _ I h) fun v s1 h1=>bf h1 fun Oh s2 h2=>?_) hs;obtain⟨it,fp,tn,J,H2,e,I2,T,xV,f2,W,⟨m0,w0⟩,turn⟩:=h2;subst e;have Fp:∀ {H':Hp},(∀ b∈fp,H' b=none)->∀ b∈fp,mq X pins H' b:=fun hn b hb=>⟨hn b hb,(f2 b hb).2⟩
 refine codeAny_forLoop_any (fun n s'=>∃ i σ' H',Inv X pins σ' H' s'/\tn i s'.heap/\(∀ b∈fp,H' b=none)/\W i n σ' H') ?_ m0 ⟨0,σ,H2,I2,xV,fun b hb=>(f2 b hb).1,w0⟩;rintro n s3 ⟨i,σ3,H3,I3,BE,RS,w3⟩;rcases turn i n σ3 H3 w3 with ⟨stop,qn⟩ | ⟨go,N,hN,step⟩
 ·refine XX hp (bf (T.done X rfl rfl rfl hc i pins s3 σ3 H3 X.xe I3 (Fp RS) BE stop) fun r s4 ⟨hr,I4⟩=>?_);subst hr;exact aaF ⟨σ3,H3,I4,qn⟩
 ·refine XX hp (bf (T.item X rfl rfl rfl hc i pins s3 σ3 H3 X.xe I3 (Fp RS) BE go) fun r s4 ⟨u,hr,h4⟩=>?_);subst hr;refine XX hp (bf h4 fun _ s5 ⟨x,H5,I5,r5,y5,B7,Pl⟩=>?_);have Pm:=I5.pinned (Fp Pl) (T.obj _ _ B7);refine XX hp (bf (hg _ s5 σ3 H5 x u _ Pm r5 (step x H5 y5)) fun _ s6 ⟨σ6,H6,I6,q6⟩=>?_);refine XX hp (bf (hb _ s6 σ6 H6 _ I6 q6) fun f s7 q7=>?_)
  have again:∀ {σ7:St}{H7:Hp},Inv X (pins++k6 fp s5.heap) σ7 H7 s7->N σ7 H7->∃ m,m<n/\∃ i σ' H',Inv X pins σ' H' s7/\tn i s7.heap/\(∀ b∈fp,H' b=none)/\W i m σ' H':=fun {σ7 H7} I7 n7=>by
   obtain⟨m',hm,w7⟩:=hN σ7 H7 n7;refine⟨m',hm,i+1,σ7,H7,I7.jU,T.keep _ _ _ B7 fun b hb o e=>(I7.pin (b,o) (O_ _ (O_ _ (fN hb e)))).1,fun b hb=>?_,w7⟩;obtain⟨o,e,d⟩:=T.obj _ _ B7 b hb;exact (I7.pin (b,o) (O_ _ (O_ _ (fN hb e)))).2.1
  cases f with
  | next=>obtain⟨σ7,H7,I7,n7⟩:=q7;exact again I7 n7
  | cont=>obtain⟨σ7,H7,I7,n7⟩:=q7;exact again I7 n7
  | brk=>obtain⟨σ7,H7,I7,q7⟩:=q7;exact⟨σ7,H7,I7.jU,q7⟩
  | ret v=>obtain⟨x7,σ7,H7,I7,r7,q7⟩:=q7;exact⟨x7,σ7,H7,I7.jU,r7,q7⟩
end
end L2
namespace L2
open PySem PySem.Spec PyProof.Rows
noncomputable abbrev R2:=V->V->Hp->VK->Prop
def eV (X:Cx) (f:Value->Value->Sem Value) (r:R2):Prop :=
 ∀ (pins:List (Addr×Obj)) (s:j_) (σ:St) (H:Hp) (x y:V) (v u:Value) (Q:VK),Inv X pins σ H s->RelV x v->RelV y u->r x y H Q ->
  wpAny (model X.prog X.w) X.A (f v u) (EP X pins σ Q) X.xe s
def Pn (X:Cx) (f:Value->Sem Value) (r:V->Hp->VK->Prop):Prop :=
 ∀ (pins:List (Addr×Obj)) (s:j_) (σ:St) (H:Hp) (x:V) (v:Value) (Q:VK),Inv X pins σ H s->RelV x v->r x H Q ->
  wpAny (model X.prog X.w) X.A (f v) (EP X pins σ Q) X.xe s
def bz (X:Cx) (f:Value) (r:List V->Hp->VK->Prop):Prop :=
 ∀ (pins:List (Addr×Obj)) (s:j_) (σ:St) (H:Hp) (xs:List V) (us:List Value) (Q:VK),Inv X pins σ H s->Vals xs us->r xs H Q ->
  wpAny (model X.prog X.w) X.A (call f us) (EP X pins σ Q) X.xe s
def Po (X:Cx) (r:V->Hp->(Bool->Hp->Prop)->Prop):Prop :=
 ∀ (pins:List (Addr×Obj)) (s:j_) (σ:St) (H:Hp) (x:V) (v:Value) (Q:Bool->Hp->Prop),Inv X pins σ H s->RelV x v->r x H Q ->
  wpAny (model X.prog X.w) X.A (truthy v) (TP X pins σ Q) X.xe s
def yX (r:R2) (ta tb:TE):TE:=fun σ H Q=>ta σ H fun x H1=>tb σ H1 fun y H2=>r x y H2 Q
def Tq (r:V->Hp->VK->Prop) (ta:TE):TE:=fun σ H Q=>ta σ H fun x H1=>r x H1 Q
def rI (C:Int->Int->Prop) (g:Int->Int->V):R2:=fun x y H Q=>∃ i j,x=.int i/\y=.int j/\C i j/\Q (g i j) H
def wL (g:Int->Int->V):R2:=fun x y H Q=>∃ i j,x=.int i/\y=.int j/\Q (g i j) H
def rU (g:Int->V):V->Hp->VK->Prop:=fun x H Q=>∃ i,x=.int i/\Q (g i) H
section
variable {X:Cx}{a b c:Expr}{ta tb tc:TE}{pos:Pos}
theorem Fq (ha:PE X a ta) (hb:PE X b tb) {pins:List (Addr×Obj)}{s:j_}{σ:St}{H:Hp}{R:V->V->Hp->Prop} (I:Inv X pins σ H s)
  (h:ta σ H fun x H1=>tb σ H1 fun y H2=>R x y H2) {Q:Value->j_->Prop}{f:Value->Value->Sem Value}
  (hf:∀ v u s2 x y H2,Inv X pins σ H2 s2->RelV x v->RelV y u->R x y H2->wpAny (model X.prog X.w) X.A (f v u) Q X.xe s2) :
  wpAny (model X.prog X.w) X.A (eval a X.env) (fun v s₁=>wpAny (model X.prog X.w) X.A (eval b X.env) (fun u s₂=>wpAny (model X.prog X.w) X.A (f v u) Q X.xe s₂) X.xe s₁) X.xe s:=by
 refine bf (ha pins s σ H _ I h) fun v s1 ⟨x,H1,I1,r1,q1⟩=>?_
 refine bf (hb pins s1 σ H1 _ I1 q1) fun u s2 ⟨y,H2,I2,r2,q2⟩=>?_
 exact hf v u s2 x y H2 I2 r1 r2 q2
theorem DX {op:Y1}{r:R2} (ho:eV X (YE op) r) (ha:PE X a ta) (hb:PE X b tb):PE X (.BinOp a op b pos) (yX r ta tb):=by
 intro pins s σ H Q I h;exact wpAny_BinOp (Fq ha hb I h fun v u s2 x y H2 I2 rx ry q=>ho pins s2 σ H2 x y v u Q I2 rx ry q)
theorem Kn {op:acy}{r:V->Hp->VK->Prop} (ho:Pn X (unaryOp op) r) (ha:PE X a ta):PE X (.UnaryOp op a pos) (Tq r ta):=by
 intro pins s σ H Q I h;exact UnaryOp_ (bf (ha pins s σ H _ I h) fun v s1 ⟨x,H1,I1,r1,q1⟩=>ho pins s1 σ H1 x v Q I1 r1 q1)
theorem BF {f:Value->Value->Sem Value}{C:Int->Int->Prop}{g:Int->Int->Int}
  (rule:∀ (i j:Int) (t u:Tok) (s:j_) (Q:Value->j_->Prop) (E:Value->j_->Prop),C i j->Q (.int (g i j) s.toks) { s with toks:=s.toks+1 }->wpAny (model X.prog X.w) X.A (f (.int i t) (.int j u)) Q E s) :
  eV X f (rI C fun i j=>.int (g i j)):=by
 intro pins s σ H x y v u Q I rx ry h;obtain⟨i,j,rfl,rfl,hc,q⟩:=h;obtain⟨t,rfl⟩:=rx;obtain⟨t',rfl⟩:=ry;exact rule i j t t' s _ _ hc ⟨.int (g i j),H,I.tok _,⟨_,rfl⟩,q⟩
theorem Ko {f:Value->Value->Sem Value}{g:Int->Int->Int}
  (rule:∀ (i j:Int) (t u:Tok) (s:j_) (Q:Value->j_->Prop) (E:Value->j_->Prop),Q (.int (g i j) s.toks) { s with toks:=s.toks+1 }->wpAny (model X.prog X.w) X.A (f (.int i t) (.int j u)) Q E s) :
  eV X f (wL fun i j=>.int (g i j)):=by
 intro pins s σ H x y v u Q I rx ry h;obtain⟨i,j,rfl,rfl,q⟩:=h;obtain⟨t,rfl⟩:=rx;obtain⟨t',rfl⟩:=ry;exact rule i j t t' s _ _ ⟨.int (g i j),H,I.tok _,⟨_,rfl⟩,q⟩
theorem B8 {f:Value->Value->Sem Value}{g:Int->Int->Bool}
  (rule:∀ (i j:Int) (t u:Tok) (s:j_) (Q:Value->j_->Prop) (E:Value->j_->Prop),Q (.bool (g i j)) s->wpAny (model X.prog X.w) X.A (f (.int i t) (.int j u)) Q E s) :
  eV X f (wL fun i j=>.bl (g i j)):=by
 intro pins s σ H x y v u Q I rx ry h;obtain⟨i,j,rfl,rfl,q⟩:=h;obtain⟨t,rfl⟩:=rx;obtain⟨t',rfl⟩:=ry;exact rule i j t t' s _ _ ⟨.bl (g i j),H,I,rfl,q⟩
def B9 (i j:Int):Prop:=0<j/\j<1073741824
def Ca (i j:Int):Prop:=0<=j/\j<=1000000/\i.natAbs<2 ^ 64
def xW (i j:Int):Prop:=(-(2 ^ 64)<i/\i<2 ^ 64)∨(-(2 ^ 64)<j/\j<2 ^ 64)
theorem xW.ok {i j:Int} (h:xW i j):IntMulOk i j:=by
 rcases h with ⟨h1,h2⟩ | ⟨h1,h2⟩
 ·exact .of_left (intBits_le_64 h1 h2)
 ·exact .of_right (intBits_le_64 h1 h2)
theorem vh (k:Nat):(0:Int)<=2 ^ k:=by
 rw[two_pow_cast];exact Int.natCast_nonneg _
theorem Fs:eV X (YE .Add) (wL fun i j=>.int (i+j)):=Ko fun _ _ _ _ _ _ _ q=>add_int q
theorem Ft:eV X (YE .Sub) (wL fun i j=>.int (i-j)):=Ko fun _ _ _ _ _ _ _ q=>sub_int q
theorem Fu:eV X (YE .Mult) (rI xW fun i j=>.int (i*j)):=BF fun _ _ _ _ _ _ _ hc q=>mul_int q hc.ok
theorem Cb:eV X (YE .FloorDiv) (rI B9 fun i j=>.int (i / j)):=BF fun i j _ _ _ _ _ hc q=>by
 have h1:(0:Int)<j:=hc.1;have h2:j<1073741824:=hc.2;exact floordiv_int (by lia) (by rw[ZS i (by lia)];exact q) (.inl (PyProof.noPylong_small (by lia)))
theorem Fv:eV X (YE .Mod) (rI (fun _ j=>0<j) fun i j=>.int (i % j)):=BF fun i j _ _ _ _ _ hc q=>by
 have h1:(0:Int)<j:=hc;exact mod_int' (by lia) (by rw[Int.fmod_eq_emod_of_nonneg i (by lia)];exact q)
theorem Fw:eV X (YE .Pow) (rI Ca fun i j=>.int (i ^ j.toNat)):=BF fun _ _ _ _ _ _ _ hc q=>pow_int_small hc.1 hc.2.1 hc.2.2 q
theorem Fy:eV X (YE .RShift) (rI (fun _ j=>0<=j) fun i j=>.int (i / 2 ^ j.toNat)):=BF fun i j _ _ _ _ _ hc q =>
 rshift_int hc (by rw[ZS i (vh _)];exact q)
theorem Tr {f:Value->Sem Value}{g:Int->Int}
  (rule:∀ (i:Int) (t:Tok) (s:j_) (Q:Value->j_->Prop) (E:Value->j_->Prop),Q (.int (g i) s.toks) { s with toks:=s.toks+1 }->wpAny (model X.prog X.w) X.A (f (.int i t)) Q E s) :
  Pn X f (rU fun i=>.int (g i)):=by
 intro pins s σ H x v Q I rx h;obtain⟨i,rfl,q⟩:=h;obtain⟨t,rfl⟩:=rx;exact rule i t s _ _ ⟨.int (g i),H,I.tok _,⟨_,rfl⟩,q⟩
theorem Fz:Pn X (unaryOp .USub) (rU fun i=>.int (-i)):=Tr fun _ _ _ _ _ q=>neg_int q
end
noncomputable def FA:V->V->Bool
 | .aJ,.aJ=>true | .aJ,.int _=>true | .int _,.aJ=>true | .aJ,.bl _=>true | .bl _,.aJ=>true | .aJ,.str _=>true | .str _,.aJ=>true
 | .int _,.int _=>true | .bl _,.bl _=>true | .str _,.str _=>true | .wI _,.wI _=>true
 | .int _,.str _=>true | .str _,.int _=>true | .bl _,.str _=>true | .str _,.bl _=>true
 | _,_=>false
def RT:R2:=fun x y H Q=>FA x y=true/\Q (.bl (decide (x=y))) H
def RU:R2:=fun x y H Q=>FA x y=true/\Q (.bl (!decide (x=y))) H
theorem wM {i j:Int}:decide (V.int i=V.int j)=(i==j):=by
 rw[W9];simp
theorem zi {i j:Bool}:decide (V.bl i=V.bl j)=(i==j):=by
 rw[W9];simp
theorem wN {i j:Str}:decide (V.str i=V.str j)=(i==j):=by
 rw[W9];simp
theorem wO {i j:Array UInt8}:decide (V.wI i=V.wI j)=(i.toList==j.toList):=by
 rw[W9]
 cases i
 cases j
 simp
section
variable {X:Cx}{a b c:Expr}{ta tb tc:TE}{pos:Pos}
theorem aH {pins:List (Addr×Obj)}{σ:St}{H:Hp}{s:j_}{Q:VK}{k k':Bool} (I:Inv X pins σ H s) (q:Q (.bl k) H) (e:k=k'):EP X pins σ Q (.bool k') s:=by
 subst e;exact⟨.bl k,H,I,rfl,q⟩
theorem Kp:eV X (Wx .Eq) RT:=by
 intro pins s σ H x y v u Q I rx ry h;obtain⟨hs,q⟩:=h
 cases x with
 | aJ =>
  cases rx
  cases y with
  | aJ=>cases ry;exact PySem.EqNone.eq_none_none (aH I q (by simp))
  | bl j=>cases ry;exact PySem.EqNone.eq_none_bool (aH I q (by simp))
  | int j=>obtain⟨t',rfl⟩:=ry;exact PySem.EqNone.eq_none_int (aH I q (by simp))
  | str j=>obtain⟨t',rfl⟩:=ry;exact PySem.EqNone.eq_none_str (aH I q (by simp))
  | _=>exact absurd (show false=true from hs) s_
 | bl i =>
  cases rx
  cases y with
  | aJ=>cases ry;exact PySem.EqNone.eq_bool_none (aH I q (by simp))
  | bl j=>cases ry;exact eq_bool (aH I q zi)
  | str j=>obtain⟨t',rfl⟩:=ry;exact PySem.EqMixed.eq_bool_str (aH I q (by simp))
  | _=>exact absurd (show false=true from hs) s_
 | int i =>
  obtain⟨t,rfl⟩:=rx
  cases y with
  | aJ=>cases ry;exact PySem.EqNone.eq_int_none (aH I q (by simp))
  | int j=>obtain⟨t',rfl⟩:=ry;exact eq_int (aH I q wM)
  | str j=>obtain⟨t',rfl⟩:=ry;exact PySem.EqMixed.eq_int_str (aH I q (by simp))
  | _=>exact absurd (show false=true from hs) s_
 | str i =>
  obtain⟨t,rfl⟩:=rx
  cases y with
  | aJ=>cases ry;exact PySem.EqNone.eq_str_none (aH I q (by simp))
  | bl j=>cases ry;exact PySem.EqMixed.eq_str_bool (aH I q (by simp))
  | int j=>obtain⟨t',rfl⟩:=ry;exact PySem.EqMixed.eq_str_int (aH I q (by simp))
  | str j=>obtain⟨t',rfl⟩:=ry;exact eq_str (aH I q wN)
  | _=>exact absurd (show false=true from hs) s_
 | wI i =>
  obtain⟨t,rfl⟩:=rx
  cases y with
  | wI j=>obtain⟨t',rfl⟩:=ry;exact PySem.W.eq_bytes (aH I q wO)
  | _=>exact absurd (show false=true from hs) s_
 | _=>cases y<;>exact absurd (show false=true from hs) s_
theorem Kq:eV X (Wx .NotEq) RU:=by
 intro pins s σ H x y v u Q I rx ry h;obtain⟨hs,q⟩:=h
 cases x with
 | aJ =>
  cases rx
  cases y with
  | aJ=>cases ry;exact PySem.EqNone.ne_none_none (aH I q (by simp))
  | bl j=>cases ry;exact PySem.EqNone.ne_none_bool (aH I q (by simp))
  | int j=>obtain⟨t',rfl⟩:=ry;exact PySem.EqNone.ne_none_int (aH I q (by simp))
  | str j=>obtain⟨t',rfl⟩:=ry;exact PySem.EqNone.ne_none_str (aH I q (by simp))
  | _=>exact absurd (show false=true from hs) s_
 | bl i =>
  cases rx
  cases y with
  | aJ=>cases ry;exact PySem.EqNone.ne_bool_none (aH I q (by simp))
  | bl j=>cases ry;exact ne_bool (aH I q (congrArg not zi))
  | str j=>obtain⟨t',rfl⟩:=ry;exact PySem.EqMixed.ne_bool_str (aH I q (by simp))
  | _=>exact absurd (show false=true from hs) s_
 | int i =>
  obtain⟨t,rfl⟩:=rx
  cases y with
  | aJ=>cases ry;exact PySem.EqNone.ne_int_none (aH I q (by simp))
  | int j=>obtain⟨t',rfl⟩:=ry;exact ne_int (aH I q (congrArg not wM))
  | str j=>obtain⟨t',rfl⟩:=ry;exact PySem.EqMixed.ne_int_str (aH I q (by simp))
  | _=>exact absurd (show false=true from hs) s_
 | str i =>
  obtain⟨t,rfl⟩:=rx
  cases y with
  | aJ=>cases ry;exact PySem.EqNone.ne_str_none (aH I q (by simp))
  | bl j=>cases ry;exact PySem.EqMixed.ne_str_bool (aH I q (by simp))
  | int j=>obtain⟨t',rfl⟩:=ry;exact PySem.EqMixed.ne_str_int (aH I q (by simp))
  | str j=>obtain⟨t',rfl⟩:=ry;exact ne_str (aH I q (congrArg not wN))
  | _=>exact absurd (show false=true from hs) s_
 | wI i =>
  obtain⟨t,rfl⟩:=rx
  cases y with
  | wI j=>obtain⟨t',rfl⟩:=ry;exact PySem.W.ne_bytes (aH I q (congrArg not wO))
  | _=>exact absurd (show false=true from hs) s_
 | _=>cases y<;>exact absurd (show false=true from hs) s_
theorem Kr:eV X (Wx .Lt) (wL fun i j=>.bl (decide (i<j))):=B8 fun _ _ _ _ _ _ _ q=>lt_int q
theorem Ks:eV X (Wx .LtE) (wL fun i j=>.bl (decide (i<=j))):=B8 fun _ _ _ _ _ _ _ q=>le_int q
theorem Kt:eV X (Wx .Gt) (wL fun i j=>.bl (decide (j<i))):=B8 fun _ _ _ _ _ _ _ q=>gt_int q
theorem Ku:eV X (Wx .GtE) (wL fun i j=>.bl (decide (j<=i))):=B8 fun _ _ _ _ _ _ _ q=>ge_int q
theorem qo:eV X (Wx .In) (fun x y H Q=>∃ i j,x=.str i/\y=.str j/\Q (.bl (!(Xb j i 0 j.length 1).isEmpty)) H):=by
 intro pins s σ H x y v u Q I rx ry h;obtain⟨i,j,rfl,rfl,q⟩:=h;obtain⟨t,rfl⟩:=rx;obtain⟨t',rfl⟩:=ry;exact in_str (aH I q rfl)
theorem FC:eV X (Wx .Is) (fun x y H Q=>y=.aJ/\Q (.bl (decide (x=.aJ))) H):=by
 intro pins s σ H x y v u Q I rx ry h;obtain⟨rfl,q⟩:=h
 cases ry
 refine is_none_gen (aH I q ?_)
 cases x<;>first
  | (cases rx;rfl)
  | (obtain⟨t,rfl⟩:=rx;rfl)
theorem Cc:eV X (Wx .IsNot) (fun x y H Q=>y=.aJ/\Q (.bl (!decide (x=.aJ))) H):=by
 intro pins s σ H x y v u Q I rx ry h;obtain⟨rfl,q⟩:=h
 cases ry
 refine isnot_none_gen (aH I q ?_)
 cases x<;>first
  | (cases rx;rfl)
  | (obtain⟨t,rfl⟩:=rx;rfl)
theorem eV.or {f:Value->Value->Sem Value}{r r':R2} (h:eV X f r) (h':eV X f r'):eV X f (fun x y H Q=>r x y H Q∨r' x y H Q):=by
 intro pins s σ H x y v u Q I rx ry q;rcases q with q | q
 ·exact h pins s σ H x y v u Q I rx ry q
 ·exact h' pins s σ H x y v u Q I rx ry q
theorem zj (b:Expr) {op:CmpOp} (h:op≠.In:=by decide) (h2:op≠.NotIn:=by decide):W7 op b=false:=by
 have e1:(op==CmpOp.In)=false:=by cases op<;>first | rfl | exact absurd rfl h
 have e2:(op==CmpOp.NotIn)=false:=by cases op<;>first | rfl | exact absurd rfl h2
 cases b<;>simp [W7,e1,e2]
theorem jV {op:CmpOp}{r:R2} (ho:eV X (Wx op) r) (ha:PE X a ta) (hb:PE X b tb) (hm:W7 op b=false):PE X (.Compare a [op] [b] pos) (yX r ta tb):=by
 intro pins s σ H Q I h;exact wpAny_Compare1 (Fq ha hb I h fun v u s2 x y H2 I2 rx ry q=>ho pins s2 σ H2 x y v u Q I2 rx ry q) hm
def DY (t:TE):TT:=fun σ H Q=>t σ H fun x H'=>∃ k,x=.bl k/\Q k H'
theorem Cd {op:CmpOp}{r:R2} (ho:eV X (Wx op) r) (ha:PE X a ta) (hb:PE X b tb) (hm:W7 op b=false):PT X (.Compare a [op] [b] pos) (DY (yX r ta tb)):=by
 intro pins s σ H Q I h
 refine aaQ (bf (ha pins s σ H _ I h) fun v s1 ⟨x,H1,I1,r1,q1⟩=>bf (hb pins s1 σ H1 _ I1 q1) fun u s2 ⟨y,H2,I2,r2,q2⟩ =>
  bf (ho pins s2 σ H2 x y v u _ I2 r1 r2 q2) fun c s3 ⟨z,H3,I3,r3,k,e,q3⟩=>?_) hm
 subst e
 cases r3
 exact WF ⟨H3,I3,q3⟩
def vi (r r':R2) (ta tb tc:TE):TE:=fun σ H Q=>ta σ H fun x H1=>tb σ H1 fun y H2=>r x y H2 fun z H3=>∃ k,z=.bl k /\
 (if k=true then tc σ H3 fun w' H4=>r' y w' H4 Q else Q (.bl false) H3)
theorem zk {op FD:CmpOp}{r r':R2} (ho:eV X (Wx op) r) (kX:eV X (Wx FD) r') (ha:PE X a ta) (hb:PE X b tb) (hc:PE X c tc)
  (hm:lastMarks [op,FD] [b,c]=false:=by with_unfolding_all rfl):PE X (.Compare a [op,FD] [b,c] pos) (vi r r' ta tb tc):=by
 intro pins s σ H Q I h
 refine Compare_chain (bf (ha pins s σ H _ I h) fun v s1 ⟨x,H1,I1,r1,q1⟩=>chain_link (bf (hb pins s1 σ H1 _ I1 q1) fun u s2 ⟨y,H2,I2,r2,q2⟩ =>
  bf (ho pins s2 σ H2 x y v u _ I2 r1 r2 q2) fun d s3 ⟨z,H3,I3,r3,k,e,q3⟩=>?_)) hm
 subst e
 cases r3
 refine WF ?_
 cases k with
 | false=>exact ite_ff ⟨.bl false,H3,I3,rfl,q3⟩
 | true=>exact ite_tt (chain_last (bf (hc pins s3 σ H3 _ I3 q3) fun w' s4 ⟨z',H4,I4,r4,q4⟩=>kX pins s4 σ H4 y z' u w' Q I4 r2 r4 q4))
theorem zl {op FD:CmpOp}{r r':R2} (ho:eV X (Wx op) r) (kX:eV X (Wx FD) r') (ha:PE X a ta) (hb:PE X b tb) (hc:PE X c tc)
  (hm:lastMarks [op,FD] [b,c]=false:=by with_unfolding_all rfl):PT X (.Compare a [op,FD] [b,c] pos) (DY (vi r r' ta tb tc)):=by
 intro pins s σ H Q I h
 refine isTrue_chain (bf (ha pins s σ H _ I h) fun v s1 ⟨x,H1,I1,r1,q1⟩=>test_link (bf (hb pins s1 σ H1 _ I1 q1) fun u s2 ⟨y,H2,I2,r2,q2⟩ =>
  bf (ho pins s2 σ H2 x y v u _ I2 r1 r2 q2) fun d s3 ⟨z,H3,I3,r3,k,e,q3⟩=>?_)) hm
 subst e
 cases r3
 refine WF ?_
 cases k with
 | false =>
  obtain⟨k',e',q'⟩:=q3
  cases e'
  exact ite_ff ⟨H3,I3,q'⟩
 | true =>
  refine ite_tt (test_last (bf (hc pins s3 σ H3 _ I3 q3) fun w' s4 ⟨z',H4,I4,r4,q4⟩=>bf (kX pins s4 σ H4 y z' u w' _ I4 r2 r4 q4) fun d' s5 ⟨z2,H5,I5,r5,k2,e2,q5⟩=>?_));subst e2
  cases r5
  exact WF ⟨H5,I5,q5⟩
def Kv (K:e_) (x:V) (H:Hp) (k:Bool):Prop :=
 match x with
 | .aJ=>k=false
 | .bl b=>k=b
 | .int i=>k=(i != 0)
 | .str y=>y.length<=sizeLine/\k=((y.length:Int) != 0)
 | .wI y=>y.size<=sizeLine/\k=((y.size:Int) != 0)
 | .ref p=>(∃ xs,cr K H p xs/\k = !xs.isEmpty)∨(∃ xs,eD K H p xs/\k = !xs.isEmpty)∨∃ am,H p=some (.dK am)/\k = !am.isEmpty
 | _=>False
theorem vj {κ:Type}{am:List (κ×V)}{vs:List (κ×Value)} (r:KV am vs):(!vs.isEmpty) = !am.isEmpty:=by
 cases r<;>rfl
theorem nu {xs:List V}{ai:List Value} (r:Vals xs ai):(!ai.toArray.isEmpty) = !xs.isEmpty:=by
 cases r<;>simp
theorem k7:(sizeLine:Nat)<2 ^ 63:=by rw[acl];decide
theorem FE:Po X (fun x H Q=>∃ k,Kv X.K x H k/\Q k H):=by
 intro pins s σ H x v Q I rx h;obtain⟨k,e,q⟩:=h;have hl:=k7;have hs:sizeLine=16777216:=acl
 cases x with
 | aJ =>
  cases rx
  have e':k=false:=e;subst e';exact truthy_none ⟨H,I,q⟩
 | bl b =>
  cases rx
  have e':k=b:=e;subst e';exact WF ⟨H,I,q⟩
 | int i =>
  obtain⟨t,rfl⟩:=rx;have e':k=(i != 0):=e;subst e';exact PySem.P.truthy_int ⟨H,I,q⟩
 | str y =>
  obtain⟨t,rfl⟩:=rx;obtain⟨hy,e'⟩:y.length<=sizeLine/\k=((y.length:Int) != 0):=e;subst e';exact PySem.P.truthy_str (by lia) ⟨H,I.tok _,q⟩
 | wI y =>
  obtain⟨t,rfl⟩:=rx;obtain⟨hy,e'⟩:y.size<=sizeLine/\k=((y.size:Int) != 0):=e;subst e';exact PySem.W.truthy_bytes (by lia) ⟨H,I.tok _,q⟩
 | ref p =>
  cases rx
  have e':(∃ xs,cr X.K H p xs/\k = !xs.isEmpty)∨(∃ xs,eD X.K H p xs/\k = !xs.isEmpty)∨∃ am,H p=some (.dK am)/\k = !am.isEmpty:=e;rcases e' with ⟨xs,hx,e'⟩ | ⟨xs,hx,e'⟩ | ⟨am,hx,e'⟩
  ·subst e';obtain⟨ai,r,pl,hz⟩:=I.list hx;have hlen:=r.length;exact wpAny_truthy_list pl.isList (by simp only[B_];lia) ⟨H,I.tok _,by rw[nu r];exact q⟩
  ·subst e';obtain⟨ai,r,pl,hz⟩:=I.tuple hx;have hlen:=r.length;exact truthy_tuple pl (by simp only[B_];lia) ⟨H,I.tok _,by rw[nu r];exact q⟩
  ·subst e';obtain⟨hz,hS,vs,r,m⟩:am.length<=sizeLine/\(p==Yd)=false/\∃ vs,KV am vs/\s.heap.DictOf (aW X.prog X.w) p vs:=I.be p _ hx;have hlen:am.length=vs.length:=Z8 r;exact wpAny_truthy_dict hS m (by lia) ⟨H,I.tok _,by rw[vj r];exact q⟩
 | _=>exact (show False from e).elim
theorem zm (ha:PE X a ta) (he:∀ whole,aaX a X.env whole=(do let v ←whole;abg a.pos;aas [v] (truthy v))) :
  PT X a (fun σ H Q=>ta σ H fun x H'=>∃ k,Kv X.K x H' k/\Q k H'):=by
 intro pins s σ H Q I h;exact isTrue_plain (bf (ha pins s σ H _ I h) fun v s1 ⟨x,H1,I1,r1,q1⟩=>FE pins s1 σ H1 x v Q I1 r1 q1) (he _)
theorem vk:eV X (YE .Add) (fun x y H Q=>∃ i j,x=.str i/\y=.str j/\i.length+j.length<=sizeLine/\Q (.str (i++j)) H):=by
 intro pins s σ H x y v u Q I rx ry h;obtain⟨i,j,rfl,rfl,hz,q⟩:=h;obtain⟨t,rfl⟩:=rx;obtain⟨t',rfl⟩:=ry;exact add_str (fun t' tk=>⟨.str (i++j),H,I.tok _,⟨_,rfl⟩,q⟩) hz
theorem vals1 {x:V}{us:List Value} (r:Vals [x] us):∃ u,us=[u]/\RelV x u:=by
 cases r with
 | cons r1 r2=>cases r2;exact⟨_,rfl,r1⟩
theorem vals2 {x y:V}{us:List Value} (r:Vals [x,y] us):∃ u w',us=[u,w']/\RelV x u/\RelV y w':=by
 cases r with
 | cons r1 r2 =>
  cases r2 with
  | cons r3 r4=>cases r4;exact⟨_,_,rfl,r1,r3⟩
theorem xX (hc:X.calm=true):bz X (.builtin "min") (fun xs H Q=>∃ i j,xs=[.int i,.int j]/\Q (.int (if j<i then j else i)) H):=by
 intro pins s σ H xs us Q I r h;obtain⟨i,j,rfl,q⟩:=h;obtain⟨u,w',rfl,⟨t,rfl⟩,⟨t',rfl⟩⟩:=vals2 r;refine min_two_ints (I.ok.hd hc) fun h' tk k=>⟨_,H,I.kept k,?_,q⟩
 by_cases hj:j<i
 ·rw[u_ hj,u_ hj];exact⟨_,rfl⟩
 ·rw[p_ hj,p_ hj];exact⟨_,rfl⟩
theorem xY:bz X (.type "int") (fun xs H Q=>(∃ i,xs=[.int i]/\Q (.int i) H)∨∃ k,xs=[.bl k]/\Q (.int (if k then 1 else 0)) H):=by
 intro pins s σ H xs us Q I r h;rcases h with ⟨i,rfl,q⟩ | ⟨k,rfl,q⟩
 ·obtain⟨u,rfl,t,rfl⟩:=vals1 r;exact call_int_int ⟨.int i,H,I,⟨_,rfl⟩,q⟩
 ·obtain⟨u,rfl,r1⟩:=vals1 r
  cases r1
  exact call_int_bool ⟨.int (if k then 1 else 0),H,I.tok _,⟨_,rfl⟩,q⟩
end
end L2
namespace L2
open PySem PySem.Spec PyProof.Rows
structure vm (h:Heap) (x dx C:Addr) (mA:Str->k_ Value):Prop where
 obj:h.get? x=some (Xy C dx)
 ns:h.Ns1 dx mA
 ne:dx≠x
theorem xZ {h:Heap}{dx:Addr}{mA:Str->k_ Value} (n:h.Ns1 dx mA):∃ od,h.get? dx=some od/\∀ name,ZT name od=some (mA name):=by
 obtain⟨o,es,ep,ho,hd,hk,_,hm⟩:=n;refine⟨o,ho,fun name=>?_⟩;have e:=hm name;unfold nsFind findBy at e;rw[←Array.find?_toList] at e;unfold ZT;rw[hd];dsimp only;split
 ·rename_i y q;rw[q] at e;exact congrArg some e
 ·rename_i q;rw[q] at e
  have a:es.toList.any (·.refKey)=false:=by
   rw[List.any_eq_false];intro y hy;obtain⟨z,t,FF⟩:=hk y (Array.mem_toList_iff.mp hy);simp [DictEntry.refKey,FF]
  have a':¬ es.toList.any (·.refKey)=true:=by rw[a];exact s_
  rw[p_ a'];exact congrArg some e
theorem vm.look {h:Heap}{x dx C:Addr}{mA:Str->k_ Value} (I:vm h x dx C mA):∃ od,PySem.W.InstAt h x (Xy C dx) C (some od)/\∀ name,ZT name od=some (mA name) :=
 let ⟨od,ho,hl⟩:=xZ I.ns
 ⟨od,⟨I.obj,rfl,rfl,ho⟩,hl⟩
section
variable {prog:N_}{w:World}{A:WO}{E:Value->j_->Prop}{s:j_}{K:e_}{x dx C f:Addr}{mA:Str->k_ Value}{name:Str}{v:Value}
theorem get_map {expr:Bool}{Q:Value->j_->Prop} (X:K.In s.heap) (I:vm s.heap x dx C mA) (hg:Yw K C name=true) (hh:Y4 K C=true)
  (ha:WG K (.ref C) name=some none) (hv:mA name=some v) (zn:ab_ v=true) (h:Q v { s with toks:=s.toks+1 }) :
  wpAny (model prog w) A (getAttr (.ref x) name expr) Q E s:=by
 obtain⟨od,J,hl⟩:=I.look;exact PySem.W.get_value X J (ZI hg).1 (PySem.W.findObj_own hh ha rfl (by rw[hl,hv])) zn h
theorem zo {pl:Sem Bool}{Q:Value×List Value->j_->Prop} (X:K.In s.heap) (I:vm s.heap x dx C mA) (hg:Yw K C name=true)
  (hf:WG K (.ref C) name=some (some (.ref f))) (ht:Y5 K (.ref f)=true) (hv:mA name=none) (h:Q (.ref f,[.ref x]) s) :
  wpAny (model prog w) A (aca (.ref x) name pl) Q E s:=by
 obtain⟨od,J,hl⟩:=I.look;exact PySem.W.method_fn X J (ZI hg).1 (ZI hg).2 hf (Xq.mp ht) (by show (ZT name od).map (·.isSome)=some false;rw[hl,hv];rfl) h
theorem Ce {ns:List Str}{Q:Unit->j_->Prop} (X:K.In s.heap) (I:vm s.heap x dx C mA)
  (hs:WG K (.ref C) "__setattr__" = some (some (.builtin "object.__setattr__"))) (hp:Z3 K C=true) (ht:aaG K C name=some none) (hh:Y4 K C=true)
  (hw:abL mA ns) (hsz:ns.length<=sizeLine)
  (h:∀ h',vm h' x dx C (fun y=>if y=name then some v else mA y)->Ye dx s.heap h'->Q () { s with heap:=h',toks:=s.toks+2 }) :
  wpAny (model prog w) A (setAttr (.ref x) name v) Q E s:=by
 obtain⟨od,J,hl⟩:=I.look;refine PySem.W.set_plain X J hs (PySem.W.osa_open (s:={ s with toks:=s.toks+1 }) (r:=none) X J hp ht fun b=>?_);obtain⟨cd,hc,o0⟩:=PySem.W.any_some hh;have hx:s.heap.get? x=some ⟨.ref C,some dx,.plain,#[]⟩:=I.obj;refine d_ (r_ (d_ (d_ (wpAny_loadPart hx (d_ (PySem.W.Looks.here (s:={ s with toks:=s.toks+1 }) (PySem.W.looks_clsIn X hc) ?_))))));rw[o0];refine r_ (a:=some dx) (d_ (r_ (d_ ?_)));refine wpAny_nsSet1 (s:={ s with toks:=s.toks+1 }) I.ns fun h' FG mP=>?_
 obtain⟨oD,VZ,V0,Ts,Tt,Tv⟩:=FG.count (PySem.Within.cons name v hw);refine d_ (wpAny_lookBehind Ts (by rw[Tt];exact pastItsLine_dict (Q_ Tv (by rw[G_];lia))) ?_);exact r_ (h _ ⟨(mP.2 _ (WA I.ne)).trans I.obj,FG,I.ne⟩ mP)
theorem zp {R:Result->j_->Prop}{vs:List Value}{kw:List (Str×Value)} (X:K.In s.heap) (hm:aaH K C=true)
  (hi:WG K (.ref C) "__init__" = some (some (.ref f))) (hf:PySem.W.typeIn K (.ref f)=some (.type "function"))
  (h:Zo (model prog w) (A.under (.builtin "type.__call__" ⟨.ref C::vs,kw⟩)) (.call (.ref f) ⟨.ref (s.heap.objs.size+1)::vs,kw⟩) (PySem.W.InitBack (s.heap.objs.size+1) R)
   { s with heap:=(s.heap.push W6).push (Xy C s.heap.objs.size) }) :
  Zo (model prog w) A (.call (.ref C) ⟨vs,kw⟩) R s:=by
 obtain⟨hh,g,d,t,os⟩:=s;exact PySem.W.make_core (PySem.W.makes_of X hm) (PySem.W.looks_findIn X hi) (fun self=>PySem.W.bind_fn X self hf) (.inl rfl) h
end
noncomputable def fO (f:Str) (v:V):List (Str×V)->List (Str×V)
 | []=>[(f,v)]
 | (g,x)::r=>if g=f then (g,v)::r else (g,x)::fO f v r
theorem lP (f g:Str) (v:V):∀ fs:List (Str×V),(fO f v fs).lookup g=if g=f then some v else fs.lookup g
 | []=>by
  show X0 g [(f,v)]=_;by_cases h:g=f
  ·have hb:(g==f)=true:=Xq.mpr h;simp only[X0,hb,u_ h]
  ·have hb:(g==f)=false:=Xl.mpr h;simp only[X0,hb,p_ h]
 | (k,x)::r=>by
  have ih:=lP f g v r;rw[show fO f v ((k,x)::r)=(if k=f then (k,v)::r else (k,x)::fO f v r) from rfl];by_cases hk:k=f
  ·rw[u_ hk];by_cases h:g=k
   ·have hb:(g==k)=true:=Xq.mpr h;simp only[X0,hb,u_ (h.trans hk)]
   ·have hb:(g==k)=false:=Xl.mpr h;simp only[X0,hb,p_ (fun e:g=f=>h (e.trans hk.symm))]
  ·rw[p_ hk];by_cases h:g=k
   ·have hb:(g==k)=true:=Xq.mpr h;simp only[X0,hb,p_ (fun e:g=f=>hk (h.symm.trans e))]
   ·have hb:(g==k)=false:=Xl.mpr h;simp only[X0,hb];exact ih
theorem k8 (f:Str) (v:V):∀ fs:List (Str×V),f∈(fO f v fs).map (·.1)/\∀ g,g∈fs.map (·.1)->g∈(fO f v fs).map (·.1)
 | []=>⟨by simp [fO],fun g h=>by simp at h⟩
 | (k,x)::r=>by
  obtain⟨i1,i2⟩:=k8 f v r;rw[show fO f v ((k,x)::r)=(if k=f then (k,v)::r else (k,x)::fO f v r) from rfl];by_cases hk:k=f
  ·rw[u_ hk];subst hk;exact⟨by simp,fun g h=>by simpa using h⟩
  ·rw[p_ hk];refine⟨?_,fun g h=>?_⟩
   ·rw[o_];exact E_ _ i1
   ·rw[o_] at h ⊢;rcases t_.mp h with e | e
    ·exact t_.mpr (.inl e)
    ·exact E_ _ (i2 g e)
theorem lQ (f:Str) (v:V):∀ fs:List (Str×V),(fO f v fs).length<=fs.length+1
 | []=>by simp [fO]
 | (k,x)::r=>by
  have ih:=lQ f v r;rw[show fO f v ((k,x)::r)=(if k=f then (k,v)::r else (k,x)::fO f v r) from rfl];by_cases hk:k=f
  ·rw[u_ hk,G_,G_];lia
  ·rw[p_ hk,G_,G_];lia
theorem jP.some_of {v:V}{o:k_ Value} (r:jP (some v) o):∃ u,o=some u/\RelV v u:=by
 cases o with
 | none=>exact (show False from r).elim
 | some u=>exact⟨u,rfl,r⟩
theorem jP.none_of {o:k_ Value} (r:jP none o):o=none:=by
 cases o with
 | none=>rfl
 | some u=>exact (show False from r).elim
theorem x3 {v:V}{u:Value} (r:RelV v u):ab_ u=true:=by
 cases v with
 | aJ=>cases (show u=Yb from r);rfl
 | bl b=>cases (show u=ZQ b from r);rfl
 | int i=>obtain⟨t,e⟩:=(show ∃ t,u=Zk i t from r);cases e;rfl
 | str x=>obtain⟨t,e⟩:=(show ∃ t,u=aae x t from r);cases e;rfl
 | wI b=>obtain⟨t,e⟩:=(show ∃ t,u=Value.bytes b t from r);cases e;rfl
 | E1 b=>obtain⟨t,e⟩:=(show ∃ t,u=ack b t from r);cases e;rfl
 | ref a=>cases (show u=Wo a from r);rfl
 | ty n=>cases (show u=Yc n from r);rfl
section
variable {P:N_}{w:World}{H H':Hp}{h h':Heap}{a C dx:Addr}{fs fA:List (Str×V)}
theorem mQ (be:iX P w H h) (e:H a=some (.ins C dx fs)):∃ mA,vm h a dx C mA/\(∀ f,jP (fs.lookup f) (mA f))/\abL mA (fs.map (·.1))/\fs.length<=1000/\H dx=some (.own a):=by
 obtain⟨d,z,ne,ob,mA,n,r,q⟩:=(show aS P w H h a (.ins C dx fs) from be a _ e);exact⟨mA,⟨ob,n,ne⟩,r,q,z,d⟩
end
structure sZ (K:e_) (C:Addr):Prop where
 pg:Yw K C W1=true
 hd:Y4 K C=true
 po:Z3 K C=true
 sa:WG K (.ref C) "__setattr__" = some (some (.builtin "object.__setattr__"))
theorem sZ.get {K:e_}{C:Addr} (c:sZ K C) (f:Str):Yw K C f=true:=c.pg
def dW (K:e_) (C:Addr) (f:Str):Prop:=WG K (.ref C) f=some none
theorem dW.Kw {K:e_}{C:Addr}{f:Str} (n:dW K C f):aaG K C f=some none:=by
 unfold aaG;rw[show WG K (.ref C) f=some none from n];rfl
structure Meth (K:e_) (C:Addr) (m:Str) (f:Addr):Prop where
 at_:WG K (.ref C) m=some (some (.ref f))
 fn:Y5 K (.ref f)=true
 kp:WH K (.ref f)=true
section
variable {X:Cx}{pins:List (Addr×Obj)}{σ:St}{H:Hp}{s:j_}{a C dx:Addr}{fs:List (Str×V)}{f:Str}{v:V}{A:WO}{E:Value->j_->Prop}
theorem vn {b:Bool}{Q:Value->j_->Prop} (I:Inv X pins σ H s) (e:H a=some (.ins C dx fs)) (c:sZ X.K C) (n:dW X.K C f) (l:fs.lookup f=some v)
  (h:∀ u s',Inv X pins σ H s'->RelV v u->Q u s'):wpAny (model X.prog X.w) A (getAttr (.ref a) f b) Q E s:=by
 obtain⟨mA,O,r,_,_,_⟩:=mQ I.be e;obtain⟨u,hu,ru⟩:=jP.some_of (v:=v) (o:=mA f) (by rw[←l];exact r f);exact get_map I.kU O (c.get f) c.hd n hu (x3 ru) (h u _ (I.tok _) ru)
theorem nv {m:Str}{g:Addr}{pl:Sem Bool}{Q:Value×List Value->j_->Prop} (I:Inv X pins σ H s) (e:H a=some (.ins C dx fs)) (c:sZ X.K C) (k:Meth X.K C m g) (l:fs.lookup m=none)
  (h:Q (.ref g,[.ref a]) s):wpAny (model X.prog X.w) A (aca (.ref a) m pl) Q E s:=by
 obtain⟨mA,O,r,_,_,_⟩:=mQ I.be e;have hn:mA m=none:=jP.none_of (by rw[←l];exact r m);exact zo I.kU O (c.get m) k.at_ k.fn hn h
theorem vo {y:V}{u:Value}{Q:Unit->j_->Prop} (I:Inv X pins σ H s) (e:H a=some (.ins C dx fs)) (c:sZ X.K C) (n:dW X.K C f) (hl:fs.length<1000) (ry:RelV y u)
  (h:∀ s',Inv X pins σ (upd H a (.ins C dx (fO f y fs))) s'->Q () s'):wpAny (model X.prog X.w) A (setAttr (.ref a) f u) Q E s:=by
 obtain⟨mA,O,r,wi,_,ho⟩:=mQ I.be e;have hz:(fs.map (·.1)).length<=sizeLine:=by rw[a_,acl];lia
 refine Ce I.kU O c.sa c.po n.Kw c.hd wi hz fun h' O' sb=>h _ ?_
 have hd:∃ o,h'.get? dx=some o:=let ⟨o,_,_,e',_⟩:=O'.ns;⟨o,e'⟩;refine I.write (x:=a) (e:=dx) (by rw[e];exact WV) (.inr ho) (fun b q hb z=>(sb.2 b hb).trans z) hd ?_;refine⟨by rw[aw O.ne];exact ho,?_,O.ne,O'.obj,_,O'.ns,fun g=>?_,fun g hg=>?_⟩
 ·have:=lQ f y fs;lia
 ·show jP ((fO f y fs).lookup g) (if g=f then some u else mA g);rw[lP];by_cases q:g=f
  ·rw[u_ q,u_ q];exact ry
  ·rw[p_ q,p_ q];exact r g
 ·by_cases q:g=f
  ·rw[q];exact (k8 f y fs).1
  ·refine (k8 f y fs).2 g (wi g fun z=>hg ?_);show (if g=f then some u else mA g)=none;rw[p_ q];exact z
theorem Inv.made (I:Inv X pins σ H s):Inv X pins σ (upd (upd H s.heap.objs.size (.own (s.heap.objs.size+1))) (s.heap.objs.size+1) (.ins C s.heap.objs.size []))
  { s with heap:=(s.heap.push W6).push (Xy C s.heap.objs.size) }:=by
 have e1:(s.heap.push W6).get? s.heap.objs.size=some W6:=v_ s.heap rfl
 have e2:((s.heap.push W6).push (Xy C s.heap.objs.size)).get? (s.heap.objs.size+1)=some (Xy C s.heap.objs.size):=by
  have:=v_ (s.heap.push W6) (o:=Xy C s.heap.objs.size) rfl;rwa [WX] at this
 have e3:(s.heap.push W6).Ns s.heap.objs.size (fun _=>none):=⟨W6,#[],_,e1,rfl,(fun e he=>absurd he (by simp)),fun _=>rfl⟩;have I1:=I.laid (a:=s.heap.objs.size) (o:=.own (s.heap.objs.size+1)) (h':=s.heap.push W6) (t':=s.toks) (fun b u q=>l_ _ q) (w_ _) ⟨_,e1⟩;refine I1.laid (a:=s.heap.objs.size+1) (o:=.ins C s.heap.objs.size []) (t':=s.toks) (fun b u q=>l_ _ q) (abN (WX _ _)) ?_;have ne:s.heap.objs.size≠s.heap.objs.size+1:=R_ (Yx _);refine⟨by rw[aw ne,az],Xn _,ne,e2,fun _=>none,(Heap.Ns1.of_empty e3).at fun o q=>l_ _ q,fun _=>WV,fun y hy=>absurd rfl hy⟩
theorem Cf {prog:N_}{w:World}{env:Env}{e:Expr}{f:Str}{pos:Pos}{s:j_}{Q:Value->j_->Prop} (hb:XH e f env (eval e env)=eval e env)
  (h:wpAny (model prog w) A (eval e env) (fun o s₁=>wpAny (model prog w) A (getAttr o f true) Q E s₁) E s):wpAny (model prog w) A (eval (.Attribute e f pos) env) Q E s :=
 Attribute_any_ h (by rw[arm_eval_Attribute,hb])
end
def Pp (K:e_) (ta:TE) (f:Str):TE:=fun σ H Q=>ta σ H fun x H1=>∃ a C dx fs v,x=.ref a/\H1 a=some (.ins C dx fs)/\sZ K C/\dW K C f/\fs.lookup f=some v/\Q v H1
def Pq (K:e_) (ta tv:TE) (f:Str):TS:=fun D σ H=>tv σ H fun y H1=>ta σ H1 fun x H2=>∃ a C dx fs,x=.ref a/\H2 a=some (.ins C dx fs)/\sZ K C/\dW K C f/\fs.length<1000 /\
 D.nx σ (upd H2 a (.ins C dx (fO f y fs)))
section
variable {X:Cx}{o e value:Expr}{f:Str}{pos pos' Kx:Pos}{ta tv:TE}
theorem FH (he:PE X e ta) (hb:XH e f X.env (eval e X.env)=eval e X.env):PE X (.Attribute e f pos) (Pp X.K ta f):=by
 intro pins s σ H Q I h;refine Cf hb (bf (he pins s σ H _ I h) fun u s1 ⟨x,H1,I1,rx,a,C,dx,fs,v,ex,ea,c,n,l,q⟩=>?_);subst ex;obtain rfl:u=Wo a:=rx;exact vn I1 ea c n l fun u' s2 I2 ru=>⟨v,H1,I2,ru,q⟩
theorem FI (ha:PE X o ta) (hv:PE X value tv) (hs:Xx value (some (.Attribute o f pos')) pos.line X.env=pure false):PS X (.Assign [.Attribute o f pos'] value pos) (Pq X.K ta tv f):=by
 intro pins s σ H D I h;refine plainObj_wpAny_Assign_Attribute (bf (hv pins s σ H _ I h) fun u s1 ⟨y,H1,I1,ry,q⟩=>bf (ha pins s1 σ H1 _ I1 q) fun ov s2 ⟨x,H2,I2,rx,a,C,dx,fs,ex,ea,c,n,l,q2⟩=>?_) hs;subst ex;obtain rfl:ov=Wo a:=rx;exact vo I2 ea c n l ry fun s3 I3=>⟨σ,_,I3,q2⟩
end
section
variable {X:Cx}{pins:List (Addr×Obj)}{σ:St}{H:Hp}{s:j_}{A:WO}{E:Value->j_->Prop}{Q:Value->j_->Prop}{c:Value}{b:Bool}
inductive jg (K:e_) (H:Hp):V->Value->Prop where
 | aJ:jg K H .aJ (.type "NoneType")
 | bl (x:Bool):jg K H (.bl x) (.type "bool")
 | int (i:Int):jg K H (.int i) (.type "int")
 | str (x:Str):jg K H (.str x) (.type "str")
 | E1 (x:UInt64):jg K H (.E1 x) (.type "float")
 | lst {a:Addr}{xs:List V} (e:H a=some (.lst xs)):jg K H (.ref a) (.type "list")
 | dS {a:Addr}{o:Obj}{xs:List V} (e:H a=some (.dS o (.lst xs))):jg K H (.ref a) (.type "list")
 | tup {a:Addr}{xs:List V} (e:H a=some (.tup xs)):jg K H (.ref a) (.type "tuple")
 | dK {a:Addr}{am:List (Key×V)} (e:H a=some (.dK am)):jg K H (.ref a) (.type "dict")
 | dT {a:Addr}{am:List (List Key×V)} (e:H a=some (.dT am)):jg K H (.ref a) (.type "dict")
 | ins {a C dx:Addr}{fs:List (Str×V)} (e:H a=some (.ins C dx fs)) (cl:sZ K C) (ha:WG K (.ref C) "__class__" = some (some (.builtin "object.__class__")))
   (hn:Z4 K (.builtin "object.__class__") "__get__" = some (some (.builtin "getset_descriptor.__get__"))) (RV:PySem.W.takesIn K (.builtin "object.__class__")=some true)
   (hm:PySem.W.mroIn K C (.type "object")=some true):jg K H (.ref a) (.ref C)
theorem x5 {x:V}{u t:Value} (I:Inv X pins σ H s) (rx:RelV x u) (ty:jg X.K H x t) (e:Y6 X.K t c=some b) (h:∀ tk,Q (.bool b) { s with toks:=tk }) :
  wpAny (model X.prog X.w) A (call (.builtin "isinstance") [u,c]) Q E s:=by
 cases ty with
 | aJ=>cases (show u=Yb from rx);exact WZ PySem.W.kitx_none I.kU WV e (fun z=>nomatch z) h
 | bl y=>cases (show u=ZQ y from rx);exact WZ PySem.W.kitx_bool I.kU WV e (fun z=>nomatch z) h
 | int i=>obtain⟨t,q⟩:=(show ∃ t,u=Zk i t from rx);cases q;exact WZ PySem.W.kitx_int I.kU WV e (fun z=>nomatch z) h
 | str y=>obtain⟨t,q⟩:=(show ∃ t,u=aae y t from rx);cases q;exact WZ PySem.W.kitx_str I.kU WV e (fun z=>nomatch z) h
 | E1 y=>obtain⟨t,q⟩:=(show ∃ t,u=ack y t from rx);cases q;exact WZ PySem.W.kitx_float I.kU WV e (fun z=>nomatch z) h
 | @lst a xs ea =>
  cases (show u=Wo a from rx)
  obtain⟨_,_,n,_,h1⟩:=(show aS X.prog X.w H s.heap a (.lst xs) from I.be a _ ea);exact WZ abO I.kU ⟨_,h1,rfl⟩ e (fun z=>nomatch z) h
 | @dS a ob xs ea =>
  cases (show u=Wo a from rx)
  obtain⟨_,_,_,n,_,h1⟩:=(show aS X.prog X.w H s.heap a (.dS ob (.lst xs)) from I.be a _ ea);exact WZ abO I.kU ⟨_,h1,rfl⟩ e (fun z=>nomatch z) h
 | @tup a xs ea =>
  cases (show u=Wo a from rx)
  obtain⟨_,_,_,p⟩:=(show aS X.prog X.w H s.heap a (.tup xs) from I.be a _ ea);obtain⟨o,h1,h2,_⟩:=p;exact WZ PySem.W.kitx_tuple I.kU ⟨o,h1,h2⟩ e (fun z=>nomatch z) h
 | @dK a am ea =>
  cases (show u=Wo a from rx)
  obtain⟨_,_,vs,_,p⟩:=(show aS X.prog X.w H s.heap a (.dK am) from I.be a _ ea);obtain⟨o,es,ep,h1,h2,_⟩:=p;exact WZ abP I.kU ⟨o,h1,h2.1⟩ e (fun z=>nomatch z) h
 | @dT a am ea =>
  cases (show u=Wo a from rx)
  obtain⟨_,_,xs,_,o,es,ep,h1,h2,_⟩:=(show aS X.prog X.w H s.heap a (.dT am) from I.be a _ ea);exact WZ abP I.kU ⟨o,h1,h2.1⟩ e (fun z=>nomatch z) h
 | @ins a C dx fs ea cl ha hn RV hm =>
  cases (show u=Wo a from rx)
  obtain⟨mA,O,_⟩:=mQ I.be ea;obtain⟨od,J,_⟩:=O.look;exact WZ (PySem.W.kitx_own (cl.get _) cl.hd ha hn RV hm) I.kU J e (fun z=>nomatch z) h
end
end L2
namespace L2
open PySem PySem.Spec PyProof.Rows
structure b0 (k:Nat) (A:WO):Prop where
 hd:A.handled=none
 dp:A.depth+3*k+5<recursionLimit
 un:A.units+16*k+200<cLine
theorem b0.mono {j k:Nat}{A:WO} (r:b0 k A) (h:j<=k):b0 j A:=⟨r.hd,by have:=r.dp;lia,by have:=r.un;lia⟩
theorem b0.deeper {k:Nat}{A:WO} (r:b0 (k+1) A) (env:Env):b0 k (A.deeper env) :=
 ⟨r.hd,by have:=r.dp;show A.depth+1+3*k+5<_;lia,by have:=r.un;show A.units+3+16*k+200<_;lia⟩
theorem vp {A:WO}{C:Addr}{us:List Value}{kw:List (Str×Value)}:(A.under (.builtin "type.__call__" ⟨.ref C::us,kw⟩)).depth=A.depth+1:=by
 first | rfl | simp [abQ,Code.weight,Code.isCreation,Code.isGuard,Code.isCaller,Code.frames,abR,guardIds]
theorem vq {A:WO}{C:Addr}{us:List Value}{kw:List (Str×Value)}:(A.under (.builtin "type.__call__" ⟨.ref C::us,kw⟩)).units=A.units+1:=by
 first | rfl | simp [abQ,Code.cUnits,Code.frames,abR]
theorem b0.make {k:Nat}{A:WO} (r:b0 (k+1) A) (C:Addr) (us:List Value) (kw:List (Str×Value)):b0 k (A.under (.builtin "type.__call__" ⟨.ref C::us,kw⟩)) :=
 ⟨r.hd,by have:=r.dp;rw[vp];lia,by have:=r.un;rw[vq];lia⟩
theorem b0.depth {k:Nat}{A:WO} (r:b0 k A):A.depth<recursionLimit:=by have:=r.dp;lia
theorem b0.units {k:Nat}{A:WO} (r:b0 k A):A.units+64<cLine:=by have:=r.un;lia
def Ky:TA:=fun _ H Q=>Q [] H
def Kz (ta:TE) (tr:TA):TA:=fun σ H Q=>ta σ H fun x H1=>tr σ H1 fun xs H2=>Q (x::xs) H2
section
variable {X:Cx}{e:Expr}{es:List Expr}{te:TE}{t:TA}{pos:Pos}
theorem bw:PA X [] Ky:=fun _ _ _ _ H Q I h=>Calls.spliced_nil ⟨[],H,I,.nil,h⟩
theorem aC (ha:PE X e te) (hr:PA X es t) (hs:T_ (e::es) X.env=(false,eval e X.env)::T_ es X.env:=by rfl):PA X (e::es) (Kz te t):=by
 intro pos pins s σ H Q I h;rw[hs];show wpAny _ _ (spliced ((false,eval e X.env)::XO pos (T_ es X.env))) _ _ s;refine Calls.spliced_cons (bf (ha pins s σ H _ I h) fun u s1 ⟨x,H1,I1,r1,q1⟩=>?_);exact bf (hr pos pins s1 σ H1 _ I1 q1) fun us s2 ⟨xs,H2,I2,r2,q2⟩=>⟨x::xs,H2,I2,.cons r1 r2,q2⟩
def Ps (t:TA):TE:=fun σ H Q=>t σ H fun xs H1=>xs.length<=sizeLine/\∀ p,H1 p=none->Q (.ref p) (upd H1 p (.tup xs))
def Pt (t:TA):TE:=fun σ H Q=>t σ H fun xs H1=>xs.length<=sizeLine/\∀ p,H1 p=none->Q (.ref p) (upd H1 p (.lst xs))
theorem FJ {x1} (h:PA X es t):PE X (.Tuple es x1 pos) (Ps t):=by
 intro pins s σ H Q I hq;refine wpAny_Tuple_spliced (bf (h pos pins s σ H _ I hq) fun us s1 ⟨xs,H1,I1,r,z,q⟩=>⟨by rw[←r.length];exact z,?_⟩);have hf:H1 s1.heap.objs.size=none:=I1.be.fresh (w_ _);refine⟨.ref s1.heap.objs.size,upd H1 s1.heap.objs.size (.tup xs),I1.laid (t':=s1.toks) (fun b u e=>l_ _ e) (w_ _) ?_,rfl,q _ hf⟩;exact⟨z,us,r,⟨_,v_ _ rfl,rfl,_,rfl⟩⟩
theorem FK (h:PA X es t):PE X (.List es pos) (Pt t):=by
 intro pins s σ H Q I hq;refine wpAny_List_spliced (bf (h pos pins s σ H _ I hq) fun us s1 ⟨xs,H1,I1,r,z,q⟩=>⟨by rw[←r.length];exact z,?_⟩);have hf:H1 s1.heap.objs.size=none:=I1.be.fresh (w_ _);refine⟨.ref s1.heap.objs.size,upd H1 s1.heap.objs.size (.lst xs),I1.laid (t':=s1.toks) (fun b u e=>l_ _ e) (w_ _) ?_,rfl,q _ hf⟩;exact⟨z,us,0,r,v_ _ rfl⟩
end
noncomputable abbrev Sp:=List V->Hp->VK->XK->Prop
noncomputable abbrev vt:=List Env->Hp->j_->XK->Value->j_->Prop
structure vv (P:N_) (w:World) (K:e_) (mg:Str->k_ Value) (base:Heap) (A:WO) (outer:List Env) (s:j_) (H:Hp):Prop where
 frames:A.frames=some outer
 mod:Mod K mg base
 bs:∀ b o,base.get? b=some o->s.heap.get? b=some o/\H b=none
 BY:base.objs.size<=s.heap.objs.size
 jQ:s.heap.FunFrames base outer
 E4:∀ b∈sP outer,H b=none
 be:iX P w H s.heap
 bare:ZL s.gens
def CE (outer:List Env) (P:N_) (w:World) (H:Hp) (s:j_) (Q:VK) (u:Value) (s':j_):Prop :=
 ∃ v H',s'.os=s.os/\ZL s'.gens/\Un (sP outer) [] H H' s.heap s'.heap/\iX P w H' s'.heap/\RelV v u/\Q v H'
def CR (CX:vt) (outer:List Env) (P:N_) (w:World) (H:Hp) (s:j_) (Q:VK) (E:XK) (r:Result) (s':j_):Prop :=
 match r with
 | .ok (.ret u)=>CE outer P w H s Q u s'
 | .ok _=>False
 | .error e=>CX outer H s E e s'
structure bO (P:N_) (w:World) (K:e_) (mg:Str->k_ Value) (base:Heap) (CX:vt) (k:Nat) (f:Addr) (fd:W4) (ps:List Str) (sp:Sp):Prop where
 len:∀ vs H Q E,sp vs H Q E->vs.length=ps.length
 run:∀ (A:WO) (outer:List Env) (s:j_) (H:Hp) (args:Args) (us:List Value) (vs:List V) (Q:VK) (E:XK),b0 k A->vv P w K mg base A outer s H->acz s fd args (ps.zip us)->Vals vs us->sp vs H Q E ->
  Zo (model P w) A (.call (.ref f) args) (CR CX outer P w H s Q E) s
theorem bO.mono {P:N_}{w:World}{K:e_}{mg:Str->k_ Value}{base:Heap}{CX:vt}{j k:Nat}{f:Addr}{fd:W4}{ps:List Str}{sp:Sp} (F:bO P w K mg base CX j f fd ps sp) (h:j<=k) :
  bO P w K mg base CX k f fd ps sp:=⟨F.len,fun A outer s H args us vs Q E hr=>F.run A outer s H args us vs Q E (hr.mono h)⟩
theorem bO.imp {P:N_}{w:World}{K:e_}{mg:Str->k_ Value}{base:Heap}{CX:vt}{k:Nat}{f:Addr}{fd:W4}{ps:List Str}{sp RW:Sp} (F:bO P w K mg base CX k f fd ps sp)
  (h:∀ vs H Q E,RW vs H Q E->sp vs H Q E):bO P w K mg base CX k f fd ps RW :=
 ⟨fun vs H Q E q=>F.len vs H Q E (h _ _ _ _ q),fun A outer s H args us vs Q E hr he hb hv hs=>F.run A outer s H args us vs Q E hr he hb hv (h _ _ _ _ hs)⟩
theorem vv.make {P:N_}{w:World}{K:e_}{mg:Str->k_ Value}{base:Heap}{A:WO}{outer:List Env}{s:j_}{H:Hp} (e:vv P w K mg base A outer s H) (C:Addr) (us:List Value) (kw:List (Str×Value)) :
  vv P w K mg base (A.under (.builtin "type.__call__" ⟨.ref C::us,kw⟩)) outer s H:=⟨by first | exact e.frames | (simpa [abQ,Code.envs,abR,pushEnvs] using e.frames),e.mod,e.bs,e.BY,e.jQ,e.E4,e.be,e.bare⟩
section
variable {X:Cx}{pins:List (Addr×Obj)}{σ:St}{H:Hp}{s s':j_}
theorem Inv.KA (I:Inv X pins σ H s):vv X.prog X.w X.K X.mg X.base X.A X.stack s H :=
 ⟨I.ok.frames,I.ok.mod,I.bs,Q_ I.ok.BY I.sz,I.stack,I.wJ,I.be,I.bare⟩
theorem Inv.after {Q:VK}{u:Value} (I:Inv X pins σ H s) (h:CE X.stack X.prog X.w H s Q u s'):EP X pins σ Q u s':=by
 obtain⟨v,H',os,bare,un,be,r,q⟩:=h;obtain⟨hh,g,d,t,Tw⟩:=s';obtain rfl:Tw=s.os:=os;exact⟨v,H',I.call (h':=hh) (g':=g) (d':=d) (t':=t) (ch:=[]) un be bare (fun b z=>absurd z (by simp)),r,q⟩
end
def DZ (sp:Sp) (dvs:List V) (E:XK) (t:TA):TE:=fun σ H Q=>t σ H fun vs H1=>sp (vs++dvs) H1 Q E
def Binds (K:e_) (fd:W4) (ps:List Str) (ds:List Value):Prop :=
 ∀ (s:j_) (us:List Value),K.In s.heap->(us++ds).length=ps.length->acz s fd ⟨us,[]⟩ (ps.zip (us++ds))
theorem Binds.all {K:e_}{fd:W4}{ps:List Str} (h:∀ us:List Value,us.length=ps.length->abS fd ⟨us,[]⟩=pure (ps.zip us)):Binds K fd ps []:=fun s us _ hl=>by
 rw[WJ] at hl ⊢;exact .of_eq (h us hl)
def Passes (CX:vt) (X:Cx) (E:XK):Prop:=∀ (pins:List (Addr×Obj)) (σ:St) (H:Hp) (s:j_) (e:Value) (s':j_),Inv X pins σ H s->CX X.stack H s E e s'->X.xe e s'
section
variable {X:Cx}{CX:vt}{k:Nat}{f C:Addr}{fd:W4}{ps:List Str}{sp:Sp}{dvs:List V}{ds:List Value}{E:XK}{x m:Str}{p pos apos:Pos}{e o:Expr}{es:List Expr}{ta:TE}{t:TA}
theorem rp {pins:List (Addr×Obj)}{σ:St}{H:Hp}{s:j_}{Q:VK}{us:List Value}{vs:List V} (F:bO X.prog X.w X.K X.mg X.base CX k f fd ps sp) (hr:b0 k X.A) (hb:Binds X.K fd ps ds) (hd:Vals dvs ds) (hx:Passes CX X E)
  (I:Inv X pins σ H s) (r:Vals vs us) (h:sp (vs++dvs) H Q E):wpAny (model X.prog X.w) X.A (call (.ref f) us) (EP X pins σ Q) X.xe s:=by
 have r2:Vals (vs++dvs) (us++ds):=r.append hd;have hl:(us++ds).length=ps.length:=by rw[←r2.length];exact F.len _ _ _ _ h
 refine wpAny_call (aaw (F.run X.A X.stack s H ⟨us,[]⟩ (us++ds) (vs++dvs) Q E hr I.KA (hb s us I.kU hl) r2 h) fun r s' hq=>?_)
 cases r with
 | error e=>exact hx pins σ H s e s' I hq
 | ok fl =>
  cases fl with
  | ret u=>exact I.after hq
  | next=>exact WS hq
  | brk=>exact WS hq
  | cont=>exact WS hq
theorem wP (F:bO X.prog X.w X.K X.mg X.base CX k f fd ps sp) (hr:b0 k X.A) (hg:Gl X x) (hm:X.mg x=some (.ref f)) (hk:WH X.K (.ref f)=true) (hb:Binds X.K fd ps ds) (hd:Vals dvs ds) (hx:Passes CX X E)
  (ha:PA X (e::es) t) (k9:(x==("__debug__" : Str))=false:=by decide) (he:T_ (e::es) X.env=(false,eval e X.env)::T_ es X.env:=by rfl) (D0:(XO pos (T_ es X.env)).any (·.1)=false:=by rfl) :
  PE X (.Call (.Name x p) (e::es) [] pos) (DZ sp dvs E t):=by
 intro pins s σ H Q I h;refine YN (mN I hg hm ?_ k9);refine YO (h₀:=X.base) I.ok.mod.JI hk (bf (ha pos pins s σ H _ I h) fun us s1 ⟨vs,H1,I1,r,q⟩=>⟨I1.kU,?_⟩) he D0;exact rp F hr hb hd hx I1 r q
structure Mk (K:e_) (C f:Addr):Prop where
 makes:aaH K C=true
 init:WG K (.ref C) "__init__" = some (some (.ref f))
 fn:Y5 K (.ref f)=true
 kp:WH K (.ref C)=true
theorem zq {pins:List (Addr×Obj)}{σ:St}{H:Hp}{s:j_}{Q:VK}{us:List Value}{vs:List V} (M:Mk X.K C f) (F:bO X.prog X.w X.K X.mg X.base CX k f fd ps sp) (hr:b0 (k+1) X.A) (hb:Binds X.K fd ps ds) (hd:Vals dvs ds)
  (hx:Passes CX X E) (I:Inv X pins σ H s) (r:Vals vs us)
  (h:∀ x dx,H x=none->H dx=none->dx≠x->sp (.ref x::(vs++dvs)) (upd (upd H dx (.own x)) x (.ins C dx [])) (fun v H2=>v=.aJ/\Q (.ref x) H2) E) :
  wpAny (model X.prog X.w) X.A (call (.ref C) us) (EP X pins σ Q) X.xe s:=by
 have hq:=h (s.heap.objs.size+1) s.heap.objs.size (I.be.fresh (aa1 _)) (I.be.fresh (w_ _)) (R_ (Yx _));have I2:=Inv.made (C:=C) I;have r2:Vals (V.ref (s.heap.objs.size+1)::(vs++dvs)) (Wo (s.heap.objs.size+1)::(us++ds)):=.cons rfl (r.append hd)
 have hl:(Wo (s.heap.objs.size+1)::us++ds).length=ps.length:=by
  have e:=r2.length;rw[F.len _ _ _ _ hq] at e;exact e.symm
 refine wpAny_call (zp (f:=f) I.kU M.makes M.init (Xq.mp M.fn) (aaw (F.run _ X.stack _ _ ⟨Wo (s.heap.objs.size+1)::us,[]⟩ (Wo (s.heap.objs.size+1)::(us++ds)) _ _ E (hr.make C us [])
  (I2.KA.make C us []) (hb _ (Wo (s.heap.objs.size+1)::us) I2.kU hl) r2 hq) fun r s' x6=>?_))
 cases r with
 | error e=>exact hx pins σ _ _ e s' I2 x6
 | ok fl =>
  cases fl with
  | ret u =>
   obtain⟨v,H',I3,rv,ev,q3⟩:=I2.after x6;subst ev;exact⟨rv,⟨V.ref (s.heap.objs.size+1),H',I3,rfl,q3⟩⟩
  | next=>exact WS x6
  | brk=>exact WS x6
  | cont=>exact WS x6
end
structure mR (N P:List Str) (sc:Scope):Prop where
 kind:sc.kind=.function
 co:sc.isCoroutine=false
 gen:sc.isGenerator=false
 nd:N.Nodup
 pre:N.take P.length=P
 par:∀ x∈P,sc.names.lookup x=some .local∨sc.names.lookup x=some .cell
 FL:∀ y∈sc.names,y.2≠.free
theorem qq {kindOf:Str->k_ XE}{x:Str}:∀ {binds:List (Str×Value)}{m:Str->k_ Value},(∀ v,(x,v)∉binds)->bindL kindOf binds m x=m x
 | [],_,_=>rfl
 | (n,v)::r,m,h=>by
  unfold bindL;rw[qq fun w hw=>h w (E_ _ hw)];split
  ·have:x≠n:=by rintro rfl;exact h v S_
   simp [this]
  ·rfl
theorem qr {kindOf:Str->k_ XE}{x:Str}:∀ {binds:List (Str×Value)}{m:Str->k_ Value},(∀ v,(x,v)∉binds)->bindC kindOf binds m x=m x
 | [],_,_=>rfl
 | (n,v)::r,m,h=>by
  unfold bindC;rw[qr fun w hw=>h w (E_ _ hw)];split
  ·rfl
  ·have:x≠n:=by rintro rfl;exact h v S_
   simp [this]
theorem qt {kindOf:Str->k_ XE}{x:Str}{v:Value}:∀ {P:List Str}{vs:List Value}{i:Nat}{m:Str->k_ Value},P.Nodup->P[i]? = some x->vs[i]? = some v->kindOf x=some .local ->
  bindL kindOf (P.zip vs) m x=some v
 | [],_,_,_,_,h,_,_=>by simp at h
 | _::_,[],_,_,_,_,h,_=>by simp at h
 | p::P,w::vs,0,m,nd,h1,h2,hk=>by
  simp at h1 h2;subst h1;subst h2;show bindL kindOf ((p,w)::P.zip vs) m p=_;unfold bindL;rw[qq fun v hv=>(YJ.mp nd).1 (aaI hv).1,u_ hk];simp
 | p::P,w::vs,i+1,m,nd,h1,h2,hk=>by
  show bindL kindOf ((p,w)::P.zip vs) m x=_;unfold bindL;exact qt (i:=i) (YJ.mp nd).2 (by simpa using h1) (by simpa using h2) hk
theorem qu {kindOf:Str->k_ XE}{x:Str}{v:Value}:∀ {P:List Str}{vs:List Value}{i:Nat}{m:Str->k_ Value},P.Nodup->P[i]? = some x->vs[i]? = some v->kindOf x≠some .local ->
  bindC kindOf (P.zip vs) m x=some v
 | [],_,_,_,_,h,_,_=>by simp at h
 | _::_,[],_,_,_,_,h,_=>by simp at h
 | p::P,w::vs,0,m,nd,h1,h2,hk=>by
  simp at h1 h2;subst h1;subst h2;show bindC kindOf ((p,w)::P.zip vs) m p=_;unfold bindC;rw[qr fun v hv=>(YJ.mp nd).1 (aaI hv).1,p_ hk];simp
 | p::P,w::vs,i+1,m,nd,h1,h2,hk=>by
  show bindC kindOf ((p,w)::P.zip vs) m x=_;unfold bindC;exact qu (i:=i) (YJ.mp nd).2 (by simpa using h1) (by simpa using h2) hk
noncomputable def start (N:List Str) (vs:List V):St:=vs.map some++acF (N.length-vs.length) none
noncomputable def vw (CX:vt) (P:N_) (w:World) (K:e_) (mg:Str->k_ Value) (base:Heap) (N:List Str) (qual:Str) (scope:Scope) (f:Addr) (cd:Value) (A:WO) (outer:List Env) (s:j_) (H:Hp) (E:XK):Cx where
 prog:=P
 w:=w
 K:=K
 mg:=mg
 base:=base
 A:=A.deeper (aa2 qual scope s.heap.objs.size f cd)
 N:=N
 s₀:=s
 H₀:=H
 env:=aa2 qual scope s.heap.objs.size f cd
 outer:=outer
 stack:=aa2 qual scope s.heap.objs.size f cd::outer
 ex:=[]
 calm:=true
 fn:=fun _=>true
 pn:=[]
 xe:=fun e s'=>wpAny (model P w) (A.deeper (aa2 qual scope s.heap.objs.size f cd)) (leaving (aa2 qual scope s.heap.objs.size f cd) e) (fun _ zr=>CX outer H s E e zr) (fun e' zr=>CX outer H s E e' zr) s'
theorem tj {sc:Scope}{n:Nat}{x:Str} (h:sc.names.lookup x=some .cell):∃ c,(WR n sc.names []).lookup x=some c:=by
 have q:=aax sc.names n [] (.inl h);exact Z9.mp q
theorem x8 {CX:vt}{P:N_}{w:World}{K:e_}{mg:Str->k_ Value}{base:Heap}{N ps:List Str}{qual:Str}{scope:Scope}{f:Addr}{cd:Value}{A:WO}{outer:List Env}{s s1:j_}{H:Hp}{E:XK}{us:List Value}{vs:List V}
  (S:mR N ps scope) (hd:A.handled=none) (e0:vv P w K mg base A outer s H) (hl:vs.length=ps.length) (r:Vals vs us)
  (x:InCallC s s.heap.objs.size (bindL (aa2 qual scope s.heap.objs.size f cd).kindOf (ps.zip us) fun _=>none) (WR (s.heap.objs.size+1) scope.names []) (bindC (aa2 qual scope s.heap.objs.size f cd).kindOf (ps.zip us) fun _=>none) s1) :
  Inv (vw CX P w K mg base N qual scope f cd A outer s H E) [] (start N vs) H s1:=by
 have D0:ps.length<=N.length:=by have:=congrArg Zw S.pre;rw[Wp] at this;lia
 obtain⟨h1,tk,rfl,hk⟩:=x.done;have KC:∀ b:Addr,b∉(vw CX P w K mg base N qual scope f cd A outer s H E).ex:=fun b z=>absurd (show b∈([]:List Addr) from z) (by simp)
 refine⟨⟨e0.mod,S.kind,rfl,rfl,w_ _,fun y z c h1 h2=>?_,fun y hy=>?_,fun y c _ h=>?_,fun _=>hd,Around.frames_deeper e0.frames,.inr ⟨rfl,rfl⟩,fun b z=>absurd z (KC b),e0.bs,e0.BY,fun b _ _=>KC b,fun b z=>absurd z (KC b),e0.jQ,e0.E4⟩,
  rfl,e0.bare,Un.kept hk,⟨_,x.toInCall.ns,fun i y v h1 h2 h3=>?_⟩,fun y c h=>⟨_,x.cell y c h⟩,e0.be.fresh (w_ _),fun y c h=>?_,fun p hp=>absurd (show p∈([]:List (Addr×Obj)) from hp) (by simp),e0.be.kept hk,?_⟩
 ·exact name_of_addr x.apart (Xw h1) (Xw h2)
 ·have hy:scope.names.lookup y=some .cell∨scope.names.lookup y=some .free:=hy;rcases hy with hy | hy
  ·exact tj hy
  ·exact absurd rfl (S.FL _ (Xw hy))
 ·exact W0 (x.above y c (Xw h))
 ·have hi:i<vs.length:=by
   unfold start at h2;by_cases hi:i<vs.length
   ·exact hi
   ·rw[Wy (by simpa using hi)] at h2;rw[aaj] at h2;split at h2<;>cases h2
  have ha:vs[i]? = some v:=by
   unfold start at h2;rw[WD (by simpa using hi),h_] at h2
   cases e:vs[i]? with
   | none=>rw[e] at h2;cases h2
   | some a=>rw[e] at h2;cases h2;rfl
  obtain⟨u,hu,rv⟩:=r.get ha
  have hp:ps[i]? = some y:=by
   rw[←S.pre,List.getElem?_take_of_lt (by lia)];exact h1
  have RX:ps.Nodup:=by rw[←S.pre];exact S.nd.sublist (Z5 _ _)
  refine⟨u,rv,?_⟩;rcases S.par y (y_ hp) with k | k
  ·exact .inl ⟨k,qt RX hp hu k⟩
  ·obtain⟨c,e⟩:=tj (n:=s.heap.objs.size+1) k;refine .inr ⟨.inl k,c,e,?_⟩;have q:=x.cell y c e;rw[qu RX hp hu (by show scope.names.lookup y≠_;rw[k];decide)] at q;exact q
 ·exact e0.be.fresh (W0 (x.above y c (Xw h)))
 ·unfold start;show _=N.length;rw[F_,a_,Zg]
  lia
theorem KD {CX:vt}{P:N_}{w:World}{K:e_}{mg:Str->k_ Value}{base:Heap}{k:Nat}{f:Addr}{name qual:Str}{params:acb}{body:List Stmt}{scope:Scope}{dV kV doc pm jh ct oc:Value}{an od:k_ Addr}
  {zu:Array (k_ Value)}{N ps:List Str}{sp:Sp} (lk:K.lookup f=some ⟨oc,od,.func (XG name qual params body scope dV kV doc pm an jh ct),zu⟩) (jS:Ys K jh qual=true) (S:mR N ps scope)
  (len:∀ vs H Q E,sp vs H Q E->vs.length=ps.length)
  (zw:∀ (A:WO) (outer:List Env) (s:j_) (H:Hp) (vs:List V) (Q:VK) (E:XK),b0 k (A.deeper (aa2 qual scope s.heap.objs.size f jh))->sp vs H Q E ->
   ∃ t,kY (vw CX P w K mg base N qual scope f jh A outer s H E) body t/\t { nx:=fun _ H'=>Q .aJ H',rt:=Q } (start N vs) H) :
  bO P w K mg base CX (k+1) f (XG name qual params body scope dV kV doc pm an jh ct) ps sp:=by
 refine⟨len,fun A outer s H args us vs Q E hr e0 hb r BG=>?_⟩;have hl:=len _ _ _ _ BG;have KX:K.In s.heap:=e0.mod.JI.keeps fun b o e=>(e0.bs b o e).1
 have lim:s.heap.NoLimit:=e0.mod.nolimit.keeps fun b o e=>(e0.bs b o e).1
 have KG:∀ y∈ps.zip us,scope.names.lookup y.1=some .local∨(scope.names.lookup y.1=some .cell/\((WR (s.heap.objs.size+1) scope.names []).lookup y.1).isSome=true):=fun⟨n,v⟩ hy=>by
  rcases S.par n (aaI hy).1 with q | q
  ·exact .inl q
  ·exact .inr ⟨q,aax _ _ _ (.inl q)⟩
 refine codeAny_call_function hr.depth (KX _ _ lk) rfl S.co S.gen rfl (PySem.W.codeRec_of KX jS) (hb _ _ _ _ ?_);refine wpAny_newFunctionEnv_cells S.kind KG fun env he s1 x=>?_
 subst he;refine⟨lim.keeps x.toInCall.keep,codeAny_func ?_⟩;obtain⟨t,ht,hq⟩:=zw A outer s H vs Q E (hr.deeper _) BG;have I:Inv (vw CX P w K mg base N qual scope f jh A outer s H E) [] (start N vs) H s1:=x8 S hr.hd e0 hl r x;refine Xz (ht [] s1 (start N vs) H _ I hq) (fun fl s' hs=>?_) fun e s' hs=>hs
 have fin:∀ {σ':St}{H':Hp}{v:V}{u:Value},Inv (vw CX P w K mg base N qual scope f jh A outer s H E) [] σ' H' s'->RelV v u->Q v H'->CE outer P w H s Q u s' :=
  fun {σ' H' v u} J rv q=>⟨v,H',J.os,J.bare,J.base,J.be,rv,q⟩
 cases fl with
 | ret u =>
  obtain⟨v,σ',H',J,rv,q⟩:=hs;exact fin J rv q
 | next =>
  obtain⟨σ',H',J,q⟩:=hs;exact fin (v:=V.aJ) (u:=Yb) J rfl q
 | brk =>
  obtain⟨_,_,_,q⟩:=hs;exact WS q
 | cont =>
  obtain⟨_,_,_,q⟩:=hs;exact WS q
end L2
namespace L2
open PySem PySem.Spec PyProof.Rows
section
variable {X:Cx}{x:Str}{p pos:Pos}{e:Expr}{es:List Expr}{t:TA}{id T:YD}{r:List V->Hp->VK->Prop}
def RY (r:List V->Hp->VK->Prop) (t:TA):TE:=fun σ H Q=>t σ H fun vs H1=>r vs H1 Q
theorem nw (hc:bz X (.builtin id) r) (hg:Gl X x) (hm:X.mg x=none) (hv:W8 x=some (.builtin id)) (ha:PA X (e::es) t) (hn:x ≠ "__name__" := by decide) (k9:(x==("__debug__" : Str))=false:=by decide)
  (he:T_ (e::es) X.env=(false,eval e X.env)::T_ es X.env:=by rfl) (D0:(XO pos (T_ es X.env)).any (·.1)=false:=by rfl):PE X (.Call (.Name x p) (e::es) [] pos) (RY r t):=by
 intro pins s σ H Q I h;refine YN (gX I hg hm hv ?_ hn k9);exact PyProof.Rows.callWith_builtin1 (bf (ha pos pins s σ H _ I h) fun us s1 ⟨vs,H1,I1,r1,q1⟩=>hc pins s1 σ H1 vs us Q I1 r1 q1) he D0
theorem cS (hc:bz X (.type T) r) (hg:Gl X x) (hm:X.mg x=none) (hv:W8 x=some (.type T)) (ha:PA X (e::es) t) (hn:x ≠ "__name__" := by decide) (k9:(x==("__debug__" : Str))=false:=by decide)
  (he:T_ (e::es) X.env=(false,eval e X.env)::T_ es X.env:=by rfl) (D0:(XO pos (T_ es X.env)).any (·.1)=false:=by rfl):PE X (.Call (.Name x p) (e::es) [] pos) (RY r t):=by
 intro pins s σ H Q I h;refine YN (gX I hg hm hv ?_ hn k9);exact WW (bf (ha pos pins s σ H _ I h) fun us s1 ⟨vs,H1,I1,r1,q1⟩=>hc pins s1 σ H1 vs us Q I1 r1 q1) he D0
end
end L2
namespace HT
open PySem PyProof.Rows
section
variable {prog:N_}{w:World}{A:WO}{E:Value->j_->Prop}{s:j_}
noncomputable def bS (n d:Nat):k_ Int->Nat
 | none=>d
 | some v=>if v<0 then (v+(n:Int)).toNat else min v.toNat n
theorem tm (n d:Nat):bS n d none=d:=rfl
theorem mS (n d k:Nat):bS n d (some (k:Int))=min k n:=by
 show (if (k:Int)<0 then ((k:Int)+(n:Int)).toNat else min (k:Int).toNat n)=min k n;rw[p_ (by lia),n_]
theorem FM (n d:Nat) (hd:d<=n) (o:k_ Int):bS n d o<=n:=by
 cases o with
 | none=>exact hd
 | some v =>
  show (if v<0 then (v+(n:Int)).toNat else min v.toNat n)<=n;by_cases hv:v<0
  ·rw[u_ hv];lia
  ·rw[p_ hv];exact Nat.min_le_right _ _
theorem wQ (v:Int) (n d:Nat):(if v<0 then max (v+(n:Int)) 0 else min v (n:Int))=((bS n d (some v):Nat):Int):=by
 show (if v<0 then max (v+(n:Int)) 0 else min v (n:Int))=(((if v<0 then (v+(n:Int)).toNat else min v.toNat n):Nat):Int);by_cases hv:v<0
 ·simp only[u_ hv];lia
 ·simp only[p_ hv];lia
theorem vA (lo hi:k_ Int) (n:Nat):YC lo hi 1 (n:Int)=(((bS n 0 lo:Nat):Int),((bS n n hi:Nat):Int)):=by
 have h1:¬ ((1:Int)<0):=by lia
 unfold YC;simp only[h1,if_false];refine Prod.ext ?_ ?_
 ·cases lo with
  | none=>rfl
  | some v=>exact wQ v n 0
 ·cases hi with
  | none=>rfl
  | some v=>exact wQ v n n
theorem vB (i j:Nat):XU (i:Int) (j:Int) 1=j-i:=by
 unfold XU;have h1:(1:Int)>0:=by lia
 simp only[h1,YK,Int.ediv_one];split<;>lia
theorem ny {v:Value}{o:k_ Int}{Q:k_ Int->j_->Prop} (p:aay v o) (h:Q o s):wpAny (model prog w) A (Builtin.Slice.slicePartIndex v) Q E s:=by
 cases p with
 | none=>exact slicePart_none h
 | int i t=>exact slicePart_int h
theorem fC {sl:Addr}{vl vu:Value}{lo hi:k_ Int}{n:Nat}{Q:Int×Int×Nat->j_->Prop} (hs:s.heap.IsSliceOf sl vl vu .none) (pl:aay vl lo) (pu:aay vu hi)
  (h:Q (((bS n 0 lo:Nat):Int),1,bS n n hi-bS n 0 lo) s):wpAny (model prog w) A (ZU (.ref sl) (pure (n:Int))) Q E s:=by
 obtain⟨os,FN,Oj,Cg⟩:=id hs;unfold ZU Builtin.Slice.sliceFields;refine d_ (d_ (WP FN Cg (x:=vl) rfl (d_ (WP FN Cg (x:=vu) rfl (d_ (WP FN Cg (x:=.none) rfl (r_ ?_)))))));refine d_ (slicePart_none ?_);show wpAny _ _ (if ((1:Int)==0)=true then _ else _) _ _ s;rw[p_ (by decide)];refine d_ (ny pl (d_ (ny pu (d_ (r_ ?_)))));show wpAny _ _ (match YC lo hi 1 (n:Int) with | (lo,hi)=>pure (lo,(1:Int),XU lo hi 1)) _ _ s;rw[vA lo hi n];show wpAny _ _ (pure (((bS n 0 lo:Nat):Int),(1:Int),XU ((bS n 0 lo:Nat):Int) ((bS n n hi:Nat):Int) 1)) _ _ s;rw[vB];exact r_ h
theorem zx (xs:Array Value) (i k:Nat):((Wv k).filterMap fun (m:Nat)=>xs[((i:Int)+(m:Int)*1).toNat]?).toArray=((xs.toList.drop i).take k).toArray:=by
 have e:(fun (m:Nat)=>xs[((i:Int)+(m:Int)*1).toNat]?)=fun m=>xs[i+m]? := by
  funext m
  have:((i:Int)+(m:Int)*1).toNat=i+m:=by lia
  rw[this]
 rw[e];have:=pick_run xs i k;rw[List.filterMap_map] at this;have e2:((fun x=>xs[x]?) ∘ fun x=>i+x)=fun m=>xs[i+m]? := rfl
 rw[e2] at this;rw[this]
theorem jW {t sl:Addr}{items:Array Value}{vl vu:Value}{lo hi:k_ Int}{Q:Value->j_->Prop} (ht:IsTup s.heap t items) (hs:s.heap.IsSliceOf sl vl vu .none) (pl:aay vl lo) (pu:aay vu hi)
  (hw:¬ (bS items.size 0 lo=0/\bS items.size items.size hi=items.size))
  (h:Q (.ref s.heap.objs.size) { s with heap:=s.heap.push { cls:=.type "tuple",data:=.seq ((items.toList.drop (bS items.size 0 lo)).take (bS items.size items.size hi-bS items.size 0 lo)).toArray } })
  (hsz:items.size<=sizeLine):wpAny (model prog w) A (Z6 (.ref t) (.ref sl)) Q E s:=by
 have wR:sizeOk (.seq ((items.toList.drop (bS items.size 0 lo)).take (bS items.size items.size hi-bS items.size 0 lo)).toArray):=by
  show ((items.toList.drop (bS items.size 0 lo)).take (bS items.size items.size hi-bS items.size 0 lo)).toArray.size<=sizeLine;rw[B_,Wp,XJ,ZH]
  lia
 have hj:bS items.size items.size hi<=items.size:=FM _ _ (w_ _) hi;obtain⟨os,FN,Oj,Cg⟩:=id hs;have Pu:s.TypeIs (.ref sl) "slice" := ⟨os,FN,Oj⟩;unfold Z6
 try with_reducible refine Zp ?_
 first | refine d_ (r_ ?_) | skip
 refine d_ (wpAny_sequenceKey ht.typeIs (by decide) ?_)
 refine d_ (Xc (name:=W_ "__getitem__") ht.typeIs WB
  (Xr WB ht.typeIs abi ?_ (args_tuple_getitem _ _)))
 show wpAny _ _ (ZV (.ref t) >>= _) _ _ s;refine d_ (tupleItemsOf_ ht ?_);refine d_ (ZM Pu ?_);rw[u_ (by decide)];refine d_ (fC hs pl pu ?_)
 have gP:¬ ((((bS items.size 0 lo:Nat):Int)==0&&(1:Int)==1&&(bS items.size items.size hi-bS items.size 0 lo)==items.size)=true):=by
  intro q;rw[q_,q_] at q;have q1:((bS items.size 0 lo:Nat):Int)=0:=eq_of_beq q.1.1;have q2:bS items.size items.size hi-bS items.size 0 lo=items.size:=eq_of_beq q.2;exact hw ⟨by lia,by lia⟩
 show wpAny _ _ (if (((bS items.size 0 lo:Nat):Int)==0&&(1:Int)==1&&(bS items.size items.size hi-bS items.size 0 lo)==items.size)=true then _ else _) _ _ s;rw[p_ gP,zx]
 first
  | exact d_ (m:=X4 _) (Xf (r_ ⟨_,rfl,r_ h⟩) wR)
  | exact d_ (m:=X4 _) (Xf (d_ (r_ (r_ ⟨_,rfl,r_ h⟩))) wR)
  | exact d_ (d_ (m:=X4 _) (Xf (r_ (r_ ⟨_,rfl,r_ h⟩)) wR))
  | exact d_ (d_ (m:=X4 _) (Xf (r_ ⟨_,rfl,r_ h⟩) wR))
end
end HT
namespace L2
open PySem PySem.Spec PyProof.Rows
noncomputable abbrev TO:=St->Hp->(k_ Int->Hp->Prop)->Prop
def PO (X:Cx) (e:k_ Expr) (t:TO):Prop :=
 ∀ (pins:List (Addr×Obj)) (s:j_) (σ:St) (H:Hp) (Q:k_ Int->Hp->Prop),Inv X pins σ H s->t σ H Q ->
  wpAny (model X.prog X.w) X.A (evalPart e X.env) (fun u s'=>∃ o H',Inv X pins σ H' s'/\aay u o/\Q o H') X.xe s
def Ch:TO:=fun _ H Q=>Q none H
def KH (t:TE):TO:=fun σ H Q=>t σ H fun x H1=>∃ i,x=.int i/\Q (some i) H1
section
variable {X:Cx}{e:Expr}{te:TE}{lo hi:k_ Expr}{tl th:TO}{pos p2:Pos}
theorem Ci:PO X none Ch:=by
 intro pins s σ H Q I h;rw[evalPart_none];exact r_ ⟨none,H,I,.none,h⟩
theorem Cj (h:PE X e te):PO X (some e) (KH te):=by
 intro pins s σ H Q I hw;rw[evalPart_some];refine bf (h pins s σ H _ I hw) fun u s1 ⟨x,H1,I1,r1,q1⟩=>?_
 obtain⟨i,rfl,q⟩:=q1;obtain⟨t,rfl⟩:=r1;exact⟨some i,H1,I1,.int i t,q⟩
def KI (X:Cx) (r:V->k_ Int->k_ Int->Hp->VK->Prop):Prop :=
 ∀ (pins:List (Addr×Obj)) (s:j_) (σ:St) (H:Hp) (x:V) (v vl vu:Value) (lo hi:k_ Int) (sl:Addr) (Q:VK),Inv X pins σ H s->RelV x v->s.heap.IsSliceOf sl vl vu .none->aay vl lo->aay vu hi->r x lo hi H Q ->
  ∃ T id,typeLookup (.type T) "__getitem__" = pure (some (.builtin id))/\s.TypeIs v T/\wpAny (model X.prog X.w) X.A (Z6 v (.ref sl)) (EP X pins σ Q) X.xe s
def RZ (r:V->k_ Int->k_ Int->Hp->VK->Prop) (te:TE) (tl th:TO):TE:=fun σ H Q=>te σ H fun x H1=>tl σ H1 fun l H2=>th σ H2 fun u H3=>r x l u H3 Q
theorem nz {r:V->k_ Int->k_ Int->Hp->VK->Prop} (hr:KI X r) (he:PE X e te) (hl:PO X lo tl) (hu:PO X hi th):PE X (.Subscript e (.Slice lo hi none p2) pos) (RZ r te tl th):=by
 intro pins s σ H Q I h;refine Subscript_ (bf (he pins s σ H _ I h) fun v s1 ⟨x,H1,I1,r1,q1⟩=>?_);refine wpAny_Slice (bf (hl pins s1 σ H1 _ I1 q1) fun vl s2 ⟨l,H2,I2,pl,q2⟩=>bf (hu pins s2 σ H2 _ I2 q2) fun vu s3 ⟨u,H3,I3,pu,q3⟩=>?_);rw[evalPart_none];refine r_ ?_;have I4:Inv X pins σ H3 { s3 with heap:=s3.heap.push { cls:=.type "slice",data:=.fields #[vl,vu,.none] } }:=I3.kept (t':=s3.toks) fun b ob q=>l_ _ q
 obtain⟨T,id,hT,ht,hg⟩:=hr pins { s3 with heap:=s3.heap.push { cls:=.type "slice",data:=.fields #[vl,vu,.none] } } σ H3 x v vl vu l u s3.heap.objs.size Q I4 r1 (Heap.IsSliceOf.new ..) pl pu q3;show wpAny (model X.prog X.w) X.A (abp e (.Slice lo hi none p2) v (.ref s3.heap.objs.size)) (EP X pins σ Q) X.xe { s3 with heap:=s3.heap.push { cls:=.type "slice",data:=.fields #[vl,vu,.none] } };exact tail_any (ops:=[.ref s3.heap.objs.size,v]) ht hT hg (by with_unfolding_all rfl)
noncomputable def mr (xs:List V) (lo hi:k_ Int):List V:=(xs.drop (HT.bS xs.length 0 lo)).take (HT.bS xs.length xs.length hi-HT.bS xs.length 0 lo)
theorem lR (xs:List V) (lo hi:k_ Int):(mr xs lo hi).length<=xs.length:=by
 unfold mr;rw[Wp,XJ]
 lia
def Pw (K:e_):V->k_ Int->k_ Int->Hp->VK->Prop:=fun x lo hi H Q=>∃ a xs,x=.ref a/\eD K H a xs /\
 ¬ (HT.bS xs.length 0 lo=0/\HT.bS xs.length xs.length hi=xs.length)/\∀ p,H p=none->Q (.ref p) (upd H p (.tup (mr xs lo hi)))
theorem FO:KI X (Pw X.K):=by
 intro pins s σ H x v vl vu lo hi sl Q I rx hs pl pu h;obtain⟨a,xs,rfl,hx,hw,q⟩:=h
 cases rx
 obtain⟨ai,r,ht,hz⟩:=I.tuple hx;have hlen:ai.toArray.size=xs.length:=by rw[B_];exact r.length.symm
 refine⟨"tuple",_,WB.lookup,ht.typeIs,?_⟩;refine HT.jW ht hs pl pu (by rw[hlen];exact hw) ?_ (by rw[hlen];exact hz);rw[hlen];refine⟨.ref s.heap.objs.size,_,I.laid (t':=s.toks) (o:=.tup (mr xs lo hi)) (fun b ob q=>l_ _ q) (w_ _) ?_,rfl,q _ (I.be.fresh (w_ _))⟩;exact⟨Q_ (lR xs lo hi) hz,_,(r.drop (HT.bS xs.length 0 lo)).take (HT.bS xs.length xs.length hi-HT.bS xs.length 0 lo),acU _ _⟩
end
end L2
namespace L2
open PySem PySem.Spec PyProof.Rows
noncomputable def Ck (n:Nat) (i:Int):k_ Nat:=if 0<=i then (if i<n then some i.toNat else none) else if -(n:Int)<=i then some (i+n).toNat else none
noncomputable def pd {α:Type} (xs:List α) (i:Int):k_ α:=(Ck xs.length i).bind fun j=>xs[j]?
theorem Cm {n:Nat}{i:Int}{j:Nat} (h:Ck n i=some j):seqIndex? i n=some j/\j<n /\ -(n:Int)<=i/\i<n:=by
 unfold Ck at h;by_cases h0:0<=i
 ·rw[u_ h0] at h;by_cases h1:i<n
  ·rw[u_ h1] at h;have e:i.toNat=j:=K_ h;exact⟨by rw[seqIndex_of h0 h1,e],by lia,by lia,h1⟩
  ·rw[p_ h1] at h;cases h
 ·rw[p_ h0] at h;by_cases h1 : -(n:Int)<=i
  ·rw[u_ h1] at h;have e:(i+n).toNat=j:=K_ h;exact⟨by rw[seqIndex_neg (by lia) h1,e],by lia,h1,by lia⟩
  ·rw[p_ h1] at h;cases h
theorem rz {α:Type}{xs:List α}{i:Int}{v:α} (h:pd xs i=some v):∃ j,seqIndex? i xs.length=some j/\xs[j]? = some v/\j<xs.length /\ -(xs.length:Int)<=i/\i<xs.length:=by
 unfold pd at h
 cases e:Ck xs.length i with
 | none=>rw[e] at h;cases h
 | some j =>
  rw[e] at h;obtain⟨h1,h2,h3,h4⟩:=Cm e;exact⟨j,h1,h,h2,h3,h4⟩
theorem aN {α:Type}{xs:List α}{j:Nat}{v:α} (h:xs[j]? = some v):pd xs (j:Int)=some v:=by
 have hj:j<xs.length:=(i_.mp h).1
 have e:Ck xs.length (j:Int)=some j:=by
  unfold Ck;rw[u_ (by lia),u_ (by lia)];simp
 unfold pd;rw[e];exact h
theorem jX {α:Type} (xs:List α) (v:α):pd (xs++[v]) (-1)=some v:=by
 have hl:(xs++[v]).length=xs.length+1:=by simp
 have e:Ck (xs++[v]).length (-1)=some xs.length:=by
  unfold Ck;rw[hl,p_ (by decide),u_ (by lia)];congr 1
  lia
 unfold pd;rw[e];show (xs++[v])[xs.length]? = some v;simp
def wS (b:Expr):Prop:=∀ o i,aa3 b false o i=operate [o,i] (Z6 o i)
def Cn (X:Cx) (r:R2):Prop :=
 ∀ (value slice:Expr) (pins:List (Addr×Obj)) (s:j_) (σ:St) (H:Hp) (x y:V) (v u:Value) (Q:VK),Inv X pins σ H s->RelV x v->RelV y u->r x y H Q ->
  aa3 slice false v u=operate [v,u] (Z6 v u)->wpAny (model X.prog X.w) X.A (abp value slice v u) (EP X pins σ Q) X.xe s
def R0 (X:Cx) (id:YD) (r:V->List V->Hp->VK->Prop):Prop :=
 ∀ (pins:List (Addr×Obj)) (s:j_) (σ:St) (H:Hp) (x:V) (xs:List V) (v:Value) (us:List Value) (Q:VK),Inv X pins σ H s->RelV x v->Vals xs us->r x xs H Q ->
  wpAny (model X.prog X.w) X.A (call (.builtin id) (v::us)) (EP X pins σ Q) X.xe s
section
variable {X:Cx}{a b:Expr}{ta tb:TE}{pos:Pos}
theorem Cn.or {r r':R2} (h:Cn X r) (h':Cn X r'):Cn X (fun x y H Q=>r x y H Q∨r' x y H Q):=by
 intro value slice pins s σ H x y v u Q I rx ry q hs;rcases q with q | q
 ·exact h value slice pins s σ H x y v u Q I rx ry q hs
 ·exact h' value slice pins s σ H x y v u Q I rx ry q hs
theorem D3 {r:R2} (hr:Cn X r) (ha:PE X a ta) (hb:PE X b tb) (hs:wS b):PE X (.Subscript a b pos) (yX r ta tb):=by
 intro pins s σ H Q I h;exact Subscript_ (Fq ha hb I h fun v u s2 x y H2 I2 rx ry q=>hr a b pins s2 σ H2 x y v u Q I2 rx ry q (hs _ _))
def KJ (K:e_):R2:=fun x y H Q=>∃ p xs i v,x=.ref p/\y=.int i/\cr K H p xs/\pd xs i=some v/\Q v H
def KL (K:e_):R2:=fun x y H Q=>∃ p xs i v,x=.ref p/\y=.int i/\eD K H p xs/\pd xs i=some v/\Q v H
def KN:R2:=fun x y H Q=>∃ z i c,x=.str z/\y=.int i/\z.length<=sizeLine/\pd z.cps.toList i=some c/\Q (.str ⟨#[c]⟩) H
theorem wT:Cn X (KJ X.K):=by
 intro value slice pins s σ H x y v u Q I rx ry h hs;obtain⟨p,xs,i,z,rfl,rfl,hq,he,q⟩:=h
 cases rx
 obtain⟨t,rfl⟩:=ry;obtain⟨ai,r,pl,hz⟩:=I.list hq;obtain⟨j,h1,h2,h3,h4,h5⟩:=rz he;obtain⟨w,ew,Px⟩:=r.get h2;have hl:=r.length;have hn:=k7;have fin:EP X pins σ Q w s:=⟨z,H,I,Px,q⟩;by_cases h0:0<=i
 ·have hj:i.toNat=j:=by
   rw[seqIndex_of h0 h5] at h1;exact K_ h1
  exact item_listR pl.isList h0 (by lia) (by rw[hj];simpa using ew) fin hs
 ·have hj:(i+(ai.toArray.size:Int)).toNat=j:=by
   rw[seqIndex_neg (by lia) h4] at h1;rw[B_,←hl];exact K_ h1
  exact aaz (x:=w) pl.isList.typeIs slot_list_getitem.lookup
   (wpAny_getItem_list_neg (Q:=fun r s'=>r=w/\EP X pins σ Q r s') pl.isList (by lia) (by rw[B_]<;>lia) (by lia) (by rw[hj];simpa using ew) ⟨rfl,fin⟩) hs
theorem zy:Cn X (KL X.K):=by
 intro value slice pins s σ H x y v u Q I rx ry h hs;obtain⟨p,xs,i,z,rfl,rfl,hq,he,q⟩:=h
 cases rx
 obtain⟨t,rfl⟩:=ry;obtain⟨ai,r,pl,hz⟩:=I.tuple hq;obtain⟨j,h1,h2,h3,h4,h5⟩:=rz he;obtain⟨w,ew,Px⟩:=r.get h2;have hl:=r.length;have hn:=k7;have fin:EP X pins σ Q w s:=⟨z,H,I,Px,q⟩
 exact aaz (x:=w) pl.typeIs WB.lookup
  (getItem_tuple (j:=j) (Q:=fun r s'=>r=w/\EP X pins σ Q r s') pl (by lia) (by lia) (by rw[B_,←hl];exact h1) (by simpa using ew) ⟨rfl,fin⟩) hs
theorem FP:Cn X KN:=by
 intro value slice pins s σ H x y v u Q I rx ry h hs;obtain⟨z,i,c,rfl,rfl,hz,he,q⟩:=h;obtain⟨t,rfl⟩:=rx;obtain⟨t',rfl⟩:=ry;obtain⟨j,h1,h2,h3,h4,h5⟩:=rz he;have hl:z.cps.toList.length=z.length:=by simp [abz]
 rw[hl] at h1 h4 h5;have hn:=k7
 exact tail_any (typeIs_str s z t) slot_str_getitem.lookup (getItem_str (c:=c) (by
  have e1:decide (i < -(2 ^ 63:Int))=false:=g_ (by lia);have e2:decide (i>=2 ^ 63)=false:=g_ (by lia);rw[e1,e2,Bool.or_false]) (by rw[h1];simpa using h2) ⟨.str ⟨#[c]⟩,H,I.tok _,⟨_,rfl⟩,q⟩) hs
def Py (K:e_):R2:=fun x y H Q=>KJ K x y H Q∨KL K x y H Q∨KN x y H Q
theorem FQ:Cn X (Py X.K):=wT.or (zy.or FP)
theorem rA (lo hi:k_ Int) (n:Nat):(YX lo hi none n).1=((HT.bS n 0 lo:Nat):Int)/\(YX lo hi none n).2.1=((HT.bS n n hi:Nat):Int)/\(YX lo hi none n).2.2=1:=by
 refine⟨?_,?_,rfl⟩
 ·cases lo with
  | none=>simp [YX,HT.bS]
  | some i =>
   simp only[YX,HT.bS,aak,show (1:Int)>0 by decide,YK];by_cases h:i<0
   ·simp only[h,YK]<;>lia
   ·simp only[h,if_false]<;>lia
 ·cases hi with
  | none=>simp [YX,HT.bS]
  | some i =>
   simp only[YX,HT.bS,aak,show (1:Int)>0 by decide,YK];by_cases h:i<0
   ·simp only[h,YK]<;>lia
   ·simp only[h,if_false]<;>lia
theorem pe (ai:List Value) (lo hi:k_ Int):slicePick ai.toArray lo hi none=((ai.drop (HT.bS ai.length 0 lo)).take (HT.bS ai.length ai.length hi-HT.bS ai.length 0 lo)).toArray:=by
 obtain⟨h1,h2,h3⟩:=rA lo hi ai.toArray.size;unfold slicePick;rw[h1,h2,h3];simp only[sliceRange_one,pick_run,B_]<;>rfl
def PB (K:e_):V->k_ Int->k_ Int->Hp->VK->Prop:=fun x lo hi H Q=>∃ a xs,x=.ref a/\cr K H a xs/\∀ p,H p=none->Q (.ref p) (upd H p (.lst (mr xs lo hi)))
theorem Co:KI X (PB X.K):=by
 intro pins s σ H x v vl vu lo hi sl Q I rx hs pl pu h;obtain⟨a,xs,rfl,hx,q⟩:=h
 cases rx
 obtain⟨ai,r,ht,hz⟩:=I.list hx;have hlen:=r.length;refine⟨"list",_,slot_list_getitem.lookup,ht.isList.typeIs,?_⟩;refine wpAny_getItem_list_slice ht.isList hs pl pu .none (by simp) ?_ (by rw[B_]<;>lia);rw[pe,←hlen];refine⟨.ref s.heap.objs.size,_,I.laid (t':=s.toks) (o:=.lst (mr xs lo hi)) (fun b ob q=>l_ _ q) (w_ _) ?_,rfl,q _ (I.be.fresh (w_ _))⟩;exact⟨Q_ (lR xs lo hi) hz,_,0,(r.drop (HT.bS xs.length 0 lo)).take (HT.bS xs.length xs.length hi-HT.bS xs.length 0 lo),v_ _ rfl⟩
noncomputable def eK:V->Bool
 | .aJ=>true
 | .bl _=>true
 | .int _=>true
 | .str _=>true
 | _=>false
noncomputable def zA:V->V->Bool
 | .aJ,.aJ=>true
 | .bl a,.bl b=>a==b
 | .bl a,.int b=>(if a then 1 else 0)==b
 | .int a,.bl b=>a==(if b then 1 else 0)
 | .int a,.int b=>a==b
 | .str a,.str b=>a==b
 | _,_=>false
theorem FR {A:WO}{s:j_}{y x:V}{u v:Value} (ry:RelV y u) (rx:RelV x v) (fy:eK y=true) (fx:eK x=true):SeqAt.EqAt A s u v (zA y x):=by
 cases y with
 | aJ =>
  cases ry
  cases x with
  | aJ=>cases rx;exact SeqAt.EqAt.same _
  | bl b=>cases rx;exact SeqAt.EqAt.none_bool b
  | int b=>obtain⟨t,rfl⟩:=rx;exact SeqAt.EqAt.none_int b t
  | str b=>obtain⟨t,rfl⟩:=rx;exact SeqAt.EqAt.none_str b t
  | _=>exact absurd (show false=true from fx) s_
 | bl a =>
  cases ry
  cases x with
  | aJ=>cases rx;exact SeqAt.EqAt.bool_none a
  | bl b=>cases rx;exact SeqAt.EqAt.bool_bool a b
  | int b=>obtain⟨t,rfl⟩:=rx;exact SeqAt.EqAt.bool_int a b t
  | str b=>obtain⟨t,rfl⟩:=rx;exact SeqAt.EqAt.bool_str a b t
  | _=>exact absurd (show false=true from fx) s_
 | int a =>
  obtain⟨t',rfl⟩:=ry
  cases x with
  | aJ=>cases rx;exact SeqAt.EqAt.int_none a t'
  | bl b=>cases rx;exact SeqAt.EqAt.int_bool a t' b
  | int b=>obtain⟨t,rfl⟩:=rx;exact SeqAt.EqAt.int_int a t' b t
  | str b=>obtain⟨t,rfl⟩:=rx;exact abv a t' b t
  | _=>exact absurd (show false=true from fx) s_
 | str a =>
  obtain⟨t',rfl⟩:=ry
  cases x with
  | aJ=>cases rx;exact SeqAt.EqAt.str_none a t'
  | bl b=>cases rx;exact SeqAt.EqAt.str_bool a t' b
  | int b=>obtain⟨t,rfl⟩:=rx;exact abw a t' b t
  | str b=>obtain⟨t,rfl⟩:=rx;exact SeqAt.EqAt.str_str a t' b t
  | _=>exact absurd (show false=true from fx) s_
 | _=>exact absurd (show false=true from fy) s_
noncomputable def tu (x:V) (u:Value):Bool:=match u with
 | .none=>zA .aJ x
 | .bool b=>zA (.bl b) x
 | .int i _=>zA (.int i) x
 | .str z _=>zA (.str z) x
 | _=>false
theorem vC {x y:V}{u:Value} (r:RelV y u) (f:eK y=true):tu x u=zA y x:=by
 cases y with
 | aJ=>cases r;rfl
 | bl b=>cases r;rfl
 | int i=>obtain⟨t,rfl⟩:=r;rfl
 | str z=>obtain⟨t,rfl⟩:=r;rfl
 | _=>exact absurd (show false=true from f) s_
theorem jY {x:V}:∀ {xs:List V}{us:List Value},Vals xs us->xs.all eK=true->us.any (tu x)=xs.any fun y=>zA y x
 | _,_,.nil,_=>rfl
 | y::xs,u::us,.cons r t,f=>by
  rw[WC,q_] at f;rw[Ym,Ym,vC r f.1,jY t f.2]
theorem fD {A:WO}{s:j_}{x:V}{v:Value} (rx:RelV x v) (fx:eK x=true):∀ {xs:List V}{us:List Value},Vals xs us->xs.all eK=true->∀ u∈us,SeqAt.EqAt A s u v (tu x u)
 | _,_,.nil,_=>fun u hu=>by cases hu
 | y::xs,u::us,.cons r t,f=>fun u' hu=>by
  rw[WC,q_] at f;rcases t_.mp hu with rfl | hu
  ·rw[vC r f.1];exact FR r rx f.1 fx
  ·exact fD rx fx t f.2 u' hu
noncomputable def Ol (x:V) (xs:List V):Bool:=xs.any fun y=>zA y x
def Om (K:e_) (neg:Bool):R2:=fun x y H Q=>∃ p xs,y=.ref p/\(cr K H p xs∨eD K H p xs)/\eK x=true/\xs.all eK=true/\Q (.bl (if neg then !Ol x xs else Ol x xs)) H
theorem x9:eV X (Wx .In) (Om X.K false):=by
 intro pins s σ H x y v u Q I rx ry h;obtain⟨p,xs,rfl,hq,fx,fs,q⟩:=h
 cases ry
 rcases hq with hq | hq
 ·obtain⟨ai,r,pl,hz⟩:=I.list hq;refine aco (tu x) pl.isList (fun w hw=>fD rx fx r fs w (by simpa using hw)) ⟨.bl _,H,I,rfl,?_⟩;rw[show ai.toArray.any (tu x)=ai.any (tu x) by simp,jY r fs];exact q
 ·obtain⟨ai,r,pl,hz⟩:=I.tuple hq;refine SeqAt.in_tupleAt (tu x) pl (fun w hw=>fD rx fx r fs w (by simpa using hw)) ⟨.bl _,H,I,rfl,?_⟩;rw[show ai.toArray.any (tu x)=ai.any (tu x) by simp,jY r fs];exact q
theorem rB:eV X (Wx .NotIn) (Om X.K true):=by
 intro pins s σ H x y v u Q I rx ry h;obtain⟨p,xs,rfl,hq,fx,fs,q⟩:=h
 cases ry
 rcases hq with hq | hq
 ·obtain⟨ai,r,pl,hz⟩:=I.list hq;refine abA (tu x) pl.isList (fun w hw=>fD rx fx r fs w (by simpa using hw)) ⟨.bl _,H,I,rfl,?_⟩;rw[show ai.toArray.any (tu x)=ai.any (tu x) by simp,jY r fs];exact q
 ·obtain⟨ai,r,pl,hz⟩:=I.tuple hq;refine SeqAt.notIn_tupleAt (tu x) pl (fun w hw=>fD rx fx r fs w (by simpa using hw)) ⟨.bl _,H,I,rfl,?_⟩;rw[show ai.toArray.any (tu x)=ai.any (tu x) by simp,jY r fs];exact q
theorem rC:bz X (.builtin "len") (fun xs H Q=>∃ p ys,xs=[.ref p]/\(cr X.K H p ys∨eD X.K H p ys)/\Q (.int ys.length) H):=by
 intro pins s σ H xs us Q I r h;obtain⟨p,ys,rfl,hq,q⟩:=h;obtain⟨u,rfl,rx⟩:=vals1 r
 cases rx
 have hn:=k7;rcases hq with hq | hq
 ·obtain⟨ai,r',pl,hz⟩:=I.list hq;have hlen:=r'.length;exact Calls.call_len_list pl.isList (by simp only[B_]<;>lia) ⟨.int ys.length,H,I.tok _,⟨s.toks+1,by rw[B_,hlen]⟩,q⟩
 ·obtain⟨ai,r',pl,hz⟩:=I.tuple hq;have hlen:=r'.length;exact len_tuple pl (by simp only[B_]<;>lia) ⟨.int ys.length,H,I.tok _,⟨s.toks+1,by rw[B_,hlen]⟩,q⟩
theorem rD:bz X (.builtin "len") (fun xs H Q=>∃ z,xs=[.str z]/\z.length<=sizeLine/\Q (.int z.length) H):=by
 intro pins s σ H xs us Q I r h;obtain⟨z,rfl,hz,q⟩:=h;obtain⟨u,rfl,t,rfl⟩:=vals1 r;have hn:=k7;exact len_str (by lia) ⟨.int z.length,H,I.tok _,⟨_,rfl⟩,q⟩
theorem bz.or {f:Value}{r r':List V->Hp->VK->Prop} (h:bz X f r) (h':bz X f r'):bz X f (fun xs H Q=>r xs H Q∨r' xs H Q):=by
 intro pins s σ H xs us Q I rs q;rcases q with q | q
 ·exact h pins s σ H xs us Q I rs q
 ·exact h' pins s σ H xs us Q I rs q
theorem rE:bz X (.type "list") (fun xs H Q=>∃ p ys,xs=[.ref p]/\(cr X.K H p ys∨eD X.K H p ys)/\∀ l,H l=none->Q (.ref l) (upd H l (.lst ys))):=by
 intro pins s σ H xs us Q I r h;obtain⟨p,ys,rfl,hq,q⟩:=h;obtain⟨u,rfl,rx⟩:=vals1 r
 cases rx
 have fin:∀ (ai:List Value),Vals ys ai->ys.length<=sizeLine->∀ (h':Heap) (c':Nat),(∀ b o',s.heap.get? b=some o'->h'.get? b=some o') ->
   h'.get? s.heap.objs.size=some { cls:=.type "list",dict:=none,data:=.seq ai.toArray c',slots:=#[] }->EP X pins σ Q (.ref s.heap.objs.size) { s with heap:=h' }:=fun ai r' hz h' c' kp e =>
  ⟨.ref s.heap.objs.size,_,I.laid (t':=s.toks) kp (w_ _) (show aS X.prog X.w _ h' _ (.lst ys) from ⟨hz,ai,c',r',e⟩),rfl,q _ (I.be.fresh (w_ _))⟩
 rcases hq with hq | hq
 ·obtain⟨ai,r',pl,hz⟩:=I.list hq;have hlen:=r'.length;obtain⟨o,ho,hc,n,hd⟩:=pl.isList;exact call_list_seq p (.inl rfl) ho hc hd (fun h' c' kp e=>fin ai r' hz h' c' kp e) (by simp only[B_]<;>lia)
 ·obtain⟨ai,r',pl,hz⟩:=I.tuple hq;have hlen:=r'.length;obtain⟨o,ho,hc,n,hd⟩:=pl;exact call_list_seq p (.inr rfl) ho hc hd (fun h' c' kp e=>fin ai r' hz h' c' kp e) (by simp only[B_]<;>lia)
theorem ph:bz X (.type "tuple") (fun xs H Q=>∃ p ys,xs=[.ref p]/\((cr X.K H p ys/\∀ l,H l=none->Q (.ref l) (upd H l (.tup ys)))∨(eD X.K H p ys/\Q (.ref p) H))):=by
 intro pins s σ H xs us Q I r h;obtain⟨p,ys,rfl,h⟩:=h;obtain⟨u,rfl,rx⟩:=vals1 r
 cases rx
 rcases h with ⟨hq,q⟩ | ⟨hq,q⟩
 ·obtain⟨ai,r',pl,hz⟩:=I.list hq;have hlen:=r'.length;refine call_tuple_list pl.isList (fun h' kp=>?_) (by simp only[B_]<;>lia);have I1:Inv X pins σ H { s with heap:=h' }:=I.kept (t':=s.toks) kp
  have I2:Inv X pins σ (upd H h'.objs.size (.tup ys)) { s with heap:=h'.push { cls:=.type "tuple",data:=.seq ai.toArray } } :=
   I1.laid (t':=s.toks) (fun b o e=>l_ _ e) (w_ _) (show aS X.prog X.w _ _ _ (.tup ys) from ⟨hz,ai,r',acU _ _⟩)
  exact⟨.ref h'.objs.size,_,I2,rfl,q _ (I1.be.fresh (w_ _))⟩
 ·obtain⟨ai,r',pl,hz⟩:=I.tuple hq;exact call_tuple_same pl ⟨.ref p,H,I,rfl,q⟩
def Oo (K:e_) (T:YD) (x:V) (H:Hp):Prop:=match x with
 | .str _=>T = "str"
 | .int _=>T = "int"
 | .ref p=>(T = "list" /\ ∃ xs,cr K H p xs)∨(T = "tuple" /\ ∃ o,K.lookup p=some o/\o.cls=.type "tuple" /\ o.dict=none) ∨
   (T = "dict" /\ ((∃ am,H p=some (.dK am))∨∃ am,H p=some (.dT am)))∨(T = "set" /\ ∃ S n,H p=some (.set S n))
 | _=>False
theorem zB {pins:List (Addr×Obj)}{σ:St}{H:Hp}{s:j_}{T:YD}{x:V}{v:Value} (I:Inv X pins σ H s) (r:RelV x v) (ty:Oo X.K T x H) :
  s.TypeIs v T/\∀ a,v=.ref a->∃ ob,s.heap.get? a=some ob/\ob.dict=none:=by
 cases x with
 | str z =>
  obtain⟨t,rfl⟩:=r
  cases (show T = "str" from ty)
  exact⟨typeIs_str s z t,fun _ e=>nomatch e⟩
 | int i =>
  obtain⟨t,rfl⟩:=r
  cases (show T = "int" from ty)
  exact⟨typeIs_int s i t,fun _ e=>nomatch e⟩
 | ref p =>
  cases r
  rcases ty with ⟨rfl,xs,hq⟩ | ⟨rfl,o,hk,hc,hd⟩ | ⟨rfl,hk⟩ | ⟨rfl,S,n,hk⟩
  ·obtain⟨ai,_,pl,_⟩:=I.list hq;refine⟨pl.isList.typeIs,fun a e=>?_⟩
   cases e
   obtain⟨o,n,e,c,hd,_⟩:=pl;exact⟨o,e,hd⟩
  ·refine⟨⟨o,I.kU p o hk,hc⟩,fun a e=>?_⟩
   cases e
   exact⟨o,I.kU _ o hk,hd⟩
  ·have z:∃ o,s.heap.get? p=some o/\o.ExactDict:=by
    rcases hk with ⟨am,hk⟩ | ⟨am,hk⟩
    ·obtain⟨_,_,_,_,o,_,_,e,ex,_⟩:=I.be p _ hk;exact⟨o,e,ex⟩
    ·obtain⟨_,_,_,_,o,_,_,e,ex,_⟩:=I.be p _ hk;exact⟨o,e,ex⟩
   obtain⟨o,e,ex⟩:=z;refine⟨⟨o,e,ex.1⟩,fun a e2=>?_⟩
   cases e2
   exact⟨o,e,ex.2.1⟩
  ·obtain⟨o,_,_,_,e,ex,_⟩:=I.be p _ hk;refine⟨⟨o,e,ex.1⟩,fun a e2=>?_⟩
   cases e2
   exact⟨o,e,ex.2.1⟩
 | _=>exact WS ty
def PD (K:e_) (T:YD) (r:V->List V->Hp->VK->Prop) (to:TE):TE:=fun σ H Q=>to σ H fun x H1=>Oo K T x H1/\r x [] H1 Q
def Tx (K:e_) (T:YD) (r:V->List V->Hp->VK->Prop) (to:TE) (t:TA):TE:=fun σ H Q=>to σ H fun x H1=>Oo K T x H1/\t σ H1 fun xs H2=>r x xs H2 Q
variable {o e:Expr}{es:List Expr}{to:TE}{t:TA}{name:Str}{apos bB:Pos}{T id:YD}{r:V->List V->Hp->VK->Prop}
theorem FS (pa:PlainAttrs T) (slot:Slot T name id) (PF:typeOf (.builtin id)=pure (.type "method_descriptor")) (hm:R0 X id r) (ho:PE X o to)
  (gZ:XH o name X.env (eval o X.env)=eval o X.env:=by rfl) (br:(apos.endLine==bB.line)=true:=by rfl):PE X (.Call (.Attribute o name apos) [] [] bB) (PD X.K T r to):=by
 intro pins s σ H Q I h;refine wpAny_Call_method0_late gZ br (bf (ho pins s σ H _ I h) fun v s1 ⟨x,H1,I1,r1,ty,q1⟩=>?_);obtain⟨h1,h2⟩:=zB I1 r1 ty;exact⟨T,id,pa,slot,PF,h1,h2,Y7 rfl (PySem.evalArgs_none (hm pins s1 σ H1 x [] v [] Q I1 r1 .nil q1))⟩
theorem zC (pa:PlainAttrs T) (slot:Slot T name id) (PF:typeOf (.builtin id)=pure (.type "method_descriptor")) (hm:R0 X id r) (ho:PE X o to) (ha:PA X (e::es) t)
  (gZ:XH o name X.env (eval o X.env)=eval o X.env:=by rfl)
  (FT:((XO bB (T_ (e::es) X.env)).all (fun x => !x.1)&&(ZW bB (Yt [] X.env)).all (fun x=>x.1.isSome)
   && decide ((e::es).length+([]:List Zq).length+(if ([]:List Zq).isEmpty then 0 else 1)<30))=true:=by rfl)
  (br:(apos.endLine==bB.line)=true:=by rfl) (hs:T_ (e::es) X.env=(false,eval e X.env)::T_ es X.env:=by rfl) (vD:(XO bB (T_ es X.env)).any (·.1)=false:=by rfl) :
  PE X (.Call (.Attribute o name apos) (e::es) [] bB) (Tx X.K T r to t):=by
 intro pins s σ H Q I h;refine aaA gZ FT br rfl (bf (ho pins s σ H _ I h) fun v s1 ⟨x,H1,I1,r1,ty,q1⟩=>?_);obtain⟨h1,h2⟩:=zB I1 r1 ty;refine⟨T,id,pa,slot,PF,h1,h2,?_⟩;have hA:=ha bB pins s1 σ H1 _ I1 q1;rw[hs] at hA ⊢;refine Y7 (by show (false||(XO bB (T_ es X.env)).any (·.1))=false;rw[vD]<;>rfl) (aa4 ?_);exact bf hA fun us s2 ⟨vs,H2,I2,r2,q2⟩=>hm pins s2 σ H2 x vs v us Q I2 r1 r2 q2
end
end L2
namespace L2
open PySem PySem.Spec PyProof.Rows
def Op (X:Cx) (id:YD) (r:V->List V->Hp->VK->Prop):Prop :=
 ∀ (pins:List (Addr×Obj)) (s:j_) (σ:St) (H:Hp) (x:V) (xs:List V) (v:Value) (us:List Value) (Q:VK),Inv X pins σ H s->RelV x v->Vals xs us->r x xs H Q ->
  wpAny (model X.prog X.w) X.A (call (.builtin id) (v::us)) (EP X pins σ Q) X.xe s
theorem Vals.one:∀ {x:V}{us:List Value},Vals [x] us->∃ u,us=[u]/\RelV x u
 | _,_,.cons r .nil=>⟨_,rfl,r⟩
theorem Vals.zero:∀ {us:List Value},Vals [] us->us=[]
 | _,.nil=>rfl
section
variable {X:Cx}{pins:List (Addr×Obj)}{σ:St}{H:Hp}{s:j_}{l b:Addr}{xs ys zs:List V}
theorem Inv.FU {ai its':List Value}{n:Nat}{f:Array Value->Array Value}{t':Nat} (I:Inv X pins σ H s) (hH:H l=some (.lst xs))
  (e:s.heap.get? l=some { cls:=.type "list",data:=.seq ai.toArray n }) (hf:f ai.toArray=its'.toArray) (hv:Vals ys its') (hz:ys.length<=sizeLine) :
  Inv X pins σ (upd H l (.lst ys)) { s with heap:=s.heap.update l (Obj.mapSeq f),toks:=t' }:=by
 have q:=PySem.IsL.update e f;rw[hf] at q;refine I.write (x:=l) (e:=l) (by rw[hH];exact trivial) (.inl rfl) (fun b' u hb hu=>(Heap.get?_update_other s.heap (Obj.mapSeq f) (WA hb)).trans hu) ⟨_,q⟩ ?_;exact⟨hz,its',_,hv,q⟩
theorem Inv.PH {ai:List Value}{t':Nat} (I:Inv X pins σ H s) (hv:Vals ys ai) (hz:ys.length<=sizeLine) :
  Inv X pins σ (upd H s.heap.objs.size (.lst ys)) { s with heap:=s.heap.push { cls:=.type "list",data:=.seq ai.toArray },toks:=t' } :=
 I.laid (fun _ _ q=>l_ _ q) (w_ _) ⟨hz,ai,0,hv,v_ _ rfl⟩
theorem Inv.fresh (I:Inv X pins σ H s):H s.heap.objs.size=none:=I.be.fresh (w_ _)
theorem Inv.ya (I:Inv X pins σ H s) (hH:H l=some (.lst xs)):xs.length<=sizeLine/\∃ (ai:List Value) (n:Nat),Vals xs ai/\xs.length=ai.length/\s.heap.get? l=some { cls:=.type "list",data:=.seq ai.toArray n }:=by
 obtain⟨z,ai,n,r,e⟩:=I.be l _ hH;exact⟨z,ai,n,r,r.length,e⟩
theorem zD {n:Nat} (h:n<=sizeLine):YF n=false:=by
 unfold YF;exact g_ (by lia)
end
section
variable {X:Cx}
def Cp:V->List V->Hp->VK->Prop:=fun x vs H Q=>∃ l xs y,x=.ref l/\vs=[y]/\H l=some (.lst xs)/\xs.length<sizeLine/\Q .aJ (upd H l (.lst (xs++[y])))
theorem qv:Op X "list.append" Cp:=by
 intro pins s σ H x vs v us Q I rx rv h;obtain⟨l,xs,y,rfl,rfl,hH,hz,q⟩:=h
 cases rx
 obtain⟨u,rfl,ru⟩:=rv.one;obtain⟨z,ai,n,r,hl,e⟩:=I.ya hH;refine aaB Zf ⟨_,e,rfl⟩ F.entry_list_append (F.args_list_append_2 _ _) (PySem.list_append l ai.toArray n u (by rw[B_];lia)) ⟨e,?_⟩;refine⟨.aJ,_,I.FU (its':=ai++[u]) hH e (by simp) (r.append (.cons ru .nil)) ?_,rfl,q⟩;rw[F_,Ws]
 lia
def Cq:V->List V->Hp->VK->Prop:=fun x vs H Q=>∃ l b xs zs,x=.ref l/\vs=[.ref b]/\H l=some (.lst xs)/\H b=some (.lst zs)/\xs.length+zs.length<=sizeLine/\Q .aJ (upd H l (.lst (xs++zs)))
theorem yb:Op X "list.extend" Cq:=by
 intro pins s σ H x vs v us Q I rx rv h;obtain⟨l,b,xs,zs,rfl,rfl,hH,hB,hz,q⟩:=h
 cases rx
 obtain⟨u,rfl,ru⟩:=rv.one
 cases ru
 obtain⟨z,ai,n,r,hl,e⟩:=I.ya hH;obtain⟨z2,jZ,n2,r2,FV,e2⟩:=I.ya hB;have hsz:ai.toArray.size+jZ.toArray.size<=sizeLine:=by rw[B_,B_];lia
 have KO:¬ (!ai.toArray.isEmpty&&YF (ai.toArray.size+jZ.toArray.size))=true:=by
  rw[zD hsz,Bool.and_false];exact s_
 refine aaB aaW ⟨_,e,rfl⟩ F.entry_list_extend (F.args_list_extend_2 _ _)
  (AutoSeq1.list_extend_list_list_0 l ai.toArray n b jZ.toArray n2 KO (by rw[B_];lia) (by lia)) ⟨e,e2,?_⟩
 refine⟨.aJ,_,I.FU (its':=ai++jZ) hH e (by simp) (r.append r2) ?_,rfl,q⟩;rw[F_]
 lia
def FW:V->List V->Hp->VK->Prop:=fun x vs H Q=>∃ l xs,x=.ref l/\vs=[]/\H l=some (.lst xs)/\Q .aJ (upd H l (.lst []))
theorem zE:Op X "list.clear" FW:=by
 intro pins s σ H x vs v us Q I rx rv h;obtain⟨l,xs,rfl,rfl,hH,q⟩:=h
 cases rx
 have PJ:=rv.zero;subst PJ;obtain⟨z,ai,n,r,hl,e⟩:=I.ya hH;refine aaB abe ⟨_,e,rfl⟩ F.entry_list_clear (F.args_list_clear_1 _) (AutoSeq1.list_clear_list_0 l ai.toArray n (by rw[B_];lia)) ⟨e,?_⟩;exact⟨.aJ,_,I.FU (its':=[]) (ys:=[]) hH e rfl .nil (Xn _),rfl,q⟩
def PK:R2:=fun x y H Q=>∃ l b xs zs,x=.ref l/\y=.ref b/\H l=some (.lst xs)/\H b=some (.lst zs)/\xs.length+zs.length<=sizeLine/\∀ p,H p=none->Q (.ref p) (upd H p (.lst (xs++zs)))
theorem FY:eV X (YE .Add) PK:=by
 intro pins s σ H x y v u Q I rx ry h;obtain⟨l,b,xs,zs,rfl,rfl,hH,hB,hz,q⟩:=h
 cases rx
 cases ry
 obtain⟨z,ai,n,r,hl,e⟩:=I.ya hH;obtain⟨z2,jZ,n2,r2,FV,e2⟩:=I.ya hB;refine PySem.P.add_list e e2 ?_ (by rw[B_,B_];lia);have ea:ai.toArray++jZ.toArray=(ai++jZ).toArray:=by simp
 rw[ea];exact⟨.ref _,_,I.PH (t':=s.toks) (r.append r2) (by rw[F_];lia),rfl,q _ I.fresh⟩
end
end L2
namespace Att
open PySem PySem.W PySem.Calls PyProof.Rows
theorem ms {P:Params}{h:Heap}:∀ (ns:List Int) (vs:List Value),WellAll P h vs (ns.map WData.int)->acA vs ns:=by
 intro ns
 induction ns with
 | nil =>
  intro vs w;rw[Xg] at w
  cases w
  exact .nil
 | cons n ns ih =>
  intro vs w;rw[o_] at w
  cases w with
  | cons a b =>
   cases a
   exact .cons _ _ (ih _ b)
theorem yc {l:OpenLaw}{n:Nat} (hn:l.most=some n) {P:Params}{h:Heap}{args:List WData}{vals:List Value}
  (pi:l.row.toRowW.claim.pre args=true) (PL:WellAll P h vals args) :
  ∃ a vs ns,vals=[Wo a]/\args=[WData.list (ns.map WData.int)]/\h.get? a=some { cls:=.type "list",data:=.seq vs.toArray }/\acA vs ns/\ns.length<=n:=by
 have Tz:WShape.hasAll [] args [.list .int]=true:=(pre_splitW pi).1;have hc:l.pre.holds [] { args:=args }=true:=(pre_splitW pi).2;obtain⟨d,r,rfl,h1,h2⟩:=hasAllW_cons Tz;obtain rfl:=hasAllW_nil h2;obtain⟨xs,rfl,h3⟩:=hasW_list h1;obtain⟨ns,rfl⟩:=items_int h3
 have hlen:ns.length<=n:=by
  unfold OpenLaw.pre at hc
  have h4:(WTm.not (.lt (.lit (.int (n:Int))) (.len (.arg 0)))).holds [] { args:=[.list (ns.map .int)] }=true:=by
   have h4:=(holds_andW hc).1;rw[hn] at h4;exact h4
  have h5:=condW_of h4 (w_not (w_lt w_lit (w_len_list (w_arg rfl))));rw[a_] at h5;refine Nat.le_of_not_lt fun q=>?_
  have q':(n:Int)<((ns.length:Nat):Int):=by lia
  first
   | (rw[f_ q'] at h5;exact absurd h5 (by decide))
   | (simp at h5;lia)
 cases PL with
 | cons w1 w2 =>
  cases w2
  cases w1 with
  | list ho PN=>exact⟨_,_,ns,rfl,rfl,ho,ms ns _ PN,hlen⟩
theorem yd (l:OpenLaw) (args:List WData):l.row.toRowW.claim.post args (.bool true) args=true :=
 postW_of (r:=l.row.toRowW) (X:=(true==true))
  (show WShape.has [] (.bool true) .bool=true by first | rfl | decide | simp [WShape.has,WShape.arms,WShape.armsAll])
  (show (WTm.eq .res (.lit (.bool true))).value [] { args:=args,res:=some (.bool true),after:=args }=some (.bool (true==true)) from w_eq_bool (w_res rfl) w_lit) rfl
theorem tw {l:OpenLaw}{n:Nat}{q:Program}{loose:List Str}{XP:(Str->Option Value)->Heap->Prop}{YP:World->Heap->Prop}{d:DefRec}
  (hn:l.most=some n) (KP:d.params.defaults=[])
  (call:∀ (w:World) (s₀ s₁:j_) (mg mb:Str->k_ Value) (fa:Addr) (o:Obj) (pm cd doc:Value) (a:Addr) (vs:List Value) (ns:List Int),
   Ground q loose [] XP w s₀ mg mb s₁.heap->YP w s₁.heap ->
   s₁.heap.get? fa=some o->o.data=.func (docDef d.name d.params d.body d.scope pm cd doc)->s₁.heap.CodeRec cd d.name->mg d.name=some (.ref fa) ->
   s₁.heap.get? a=some { cls:=.type "list",data:=.seq vs.toArray }->acA vs ns->ns.length<=n->s₁.gens=#[] ->
   Zo (model l.prog w) aaC (.call (.ref fa) ⟨[.ref a],[]⟩) (fun r s'=>r=.ok (.ret (.bool true))/\OldK s₁.heap s'.heap/\s'.os=s₁.os/\ZL s'.gens) s₁) :
  WalkO q loose XP YP l.row.toRowW d [] (fun f vs=>acJ f vs):=by
 intro w s₀ s₁ mg mb G Y fa o pm cd doc dV kV ho hd jS hD FZ hg args vals as pi TB V1 PL V2;obtain rfl:dV=.none:=Dflts.none hD KP;obtain rfl:kV=.none:=Dflts.noKw hD;obtain⟨a,vs,ns,rfl,rfl,F0,hints,hlen⟩:=yc hn pi PL;refine enter_call (aaw (call w s₀ s₁ mg mb fa o pm cd doc a vs ns G Y ho (fd_plain hd) jS FZ F0 hints hlen hg) fun r s' hq=>?_);obtain⟨rfl,h2,h3,h4⟩:=hq;exact⟨.inl ⟨.bool true,.bool true,[],rfl,fun _=>rfl,.bool true,yd l _,fun _=>⟨Y8,fun _ hm=>(nomatch hm)⟩⟩,h2,h3,h4⟩
end Att
namespace L2
open PySem PySem.Spec PyProof.Rows
theorem qw:∀ {vs:List Value}{ns:List Int},acA vs ns->Vals (ns.map V.int) vs
 | _,_,.nil=>.nil
 | _,_,.cons n t h=>.cons ⟨t,rfl⟩ (qw h)
def F3 (H:Hp):Prop:=∀ b,H b=none∨∃ o xs,H b=some (.dS o (.lst xs))
theorem zF {P:N_}{w:World}{K:e_}{mg mb:Str->k_ Value}{CX:vt}{k:Nat}{fa a:Addr}{fd:W4}{x:Str}{sp:Sp}{s₁:j_}{vs:List Value}{ns:List Int}
  (KX:K.In s₁.heap) (Oq:s₁.heap.Ns mainGlobals mg) (hb:s₁.heap.Ns aar mb) (TC:∀ x:Str,x ≠ "__name__" ->mb x=W8 x) (PP:s₁.heap.NoLimit) (hg:s₁.gens=#[])
  (ha:s₁.heap.get? a=some { cls:=.type "list",data:=.seq vs.toArray }) (hi:acA vs ns) (hl:ns.length<=sizeLine) (hr:b0 k aaC)
  (F:∀ base:Heap,K.In base->base.Ns mainGlobals mg->bO P w K mg base CX k fa fd [x] sp) (KQ:∀ (s:j_) (u:Value),acz s fd ⟨[u],[]⟩ [(x,u)])
  (BG:∀ H:Hp,F3 H->cr K H a (ns.map V.int)->sp [.ref a] H (fun v _=>v=.bl true) fun _ _ _=>False)
  (PQ:∀ H e s',CX [] H s₁ (fun _ _ _=>False) e s'->False) :
  Zo (model P w) aaC (.call (.ref fa) ⟨[.ref a],[]⟩) (fun r s'=>r=.ok (.ret (.bool true))/\OldK s₁.heap s'.heap/\s'.os=s₁.os/\ZL s'.gens) s₁:=by
 have rv:=qw hi;have PR:=hi.length
 have core:∀ H:Hp,F3 H->cr K H a (ns.map V.int)->iX P w H s₁.heap->(∀ b,H b≠none->b=a)->(H a≠none->K.lookup a=none) ->
   Zo (model P w) aaC (.call (.ref fa) ⟨[.ref a],[]⟩) (fun r s'=>r=.ok (.ret (.bool true))/\OldK s₁.heap s'.heap/\s'.os=s₁.os/\ZL s'.gens) s₁:=by
  intro H hO hS be hA hK;have eL:∀ {b:Addr}{o:Obj},s₁.heap.get? b=some o->H b=none->(rl s₁.heap H).get? b=some o:=fun e n=>y6 e n
  have KC:∀ {b:Addr}{o:Obj}{es:Array DictEntry}{ep:Nat},s₁.heap.get? b=some o->o.data=.dict es ep->H b=none:=fun {b o es ep} e d=>by
   cases q:H b with
   | none=>rfl
   | some u =>
    have e':b=a:=hA b (by rw[q];simp);subst e';rw[ha] at e;cases e;have d':acK vs.toArray _=Data.dict es ep:=d
    cases d'
  have Ot:∀ {b:Addr}{m:Str->k_ Value},s₁.heap.Ns b m->(rl s₁.heap H).Ns b m:=fun {b m} ⟨o,es,ep,e,d,r⟩=>⟨o,es,ep,eL e (KC e d),d,r⟩
  have R1:K.In (rl s₁.heap H):=fun b o e=>eL (KX b o e) (by
   cases q:H b with
   | none=>rfl
   | some u =>
    have e':b=a:=hA b (by rw[q];simp);subst e';rw[hK (by rw[q];simp)] at e;cases e)
  have hM:Mod K mg (rl s₁.heap H):=⟨R1,Ot Oq,⟨mb,Ot hb,TC⟩,let ⟨mc,h1,h2⟩:=PP;⟨mc,Ot h1,h2⟩⟩;have e0:vv P w K mg (rl s₁.heap H) aaC [] s₁ H:=⟨rfl,hM,fun b o e=>BW e,abN (xP _ _),trivial,fun b hb=>absurd (show b∈([]:List Addr) from hb) (by simp),be,.of_eq hg⟩;refine aaw ((F _ R1 (Ot Oq)).run aaC [] s₁ H ⟨[.ref a],[]⟩ [.ref a] [.ref a] _ _ hr e0 (KQ s₁ (.ref a)) (.cons rfl .nil) (BG H hO hS)) fun r s' h=>?_
  cases r with
  | error e=>exact (PQ H e s' h).elim
  | ok fl =>
   cases fl with
   | next=>exact WS h
   | brk=>exact WS h
   | cont=>exact WS h
   | ret u =>
    obtain⟨v,H',os,bare,un,PU,r',q⟩:=h;have q':v=.bl true:=q;subst q';obtain rfl:u=ZQ true:=r';refine⟨rfl,OldK.of_keep fun b o e=>?_,os,bare⟩
    cases q:H b with
    | none=>exact un.keep b o e q (by intro z;exact absurd (show b∈([]:List Addr) from z) (by simp)) (by simp)
    | some u =>
     rcases hO b with z | ⟨ob,xs,z⟩
     ·rw[q] at z;cases z
     ·have z2:=un.nq b ob _ z;obtain⟨e1,_⟩:=be b _ z;obtain⟨e2,_⟩:=PU b _ z2;rw[e] at e1;cases e1;exact e2
 cases hk:K.lookup a with
 | some o =>
  have e:=KX a o hk;rw[ha] at e
  cases e
  refine core (fun _=>none) (fun _=>.inl rfl) (.inr ⟨_,vs.toArray,_,hk,rfl,rfl,rfl,by rw[B_,PR];exact hl,by simpa using rv⟩) (fun b u z=>by have z':(none:k_ HO)=some u:=z;cases z') (fun b z=>absurd rfl z) fun z=>absurd rfl z
 | none =>
  refine core (fun b=>if b=a then some (.dS { cls:=.type "list",data:=.seq vs.toArray } (.lst (ns.map V.int))) else none) (fun b=>?_) (.inl (.inr ⟨{ cls:=.type "list",data:=.seq vs.toArray },u_ rfl⟩)) (fun b u z=>?_) (fun b z=>?_) fun _=>hk
  ·by_cases hb:b=a
   ·exact .inr ⟨_,_,u_ hb⟩
   ·exact .inl (p_ hb)
  ·by_cases hb:b=a
   ·have z':=(u_ hb).symm.trans z
    cases z'
    subst hb;exact⟨ha,by rw[a_];exact hl,vs,_,rv,ha⟩
   ·have z':=(p_ hb).symm.trans z
    cases z'
  ·by_cases hb:b=a
   ·exact hb
   ·exact absurd (p_ hb) z
end L2
namespace L2
open PySem PySem.Spec PyProof.Rows
theorem Cr {l:acp}{n k:Nat}{q:N_}{loose:List Str}{XP:(Str->k_ Value)->Heap->Prop}{YP:World->Heap->Prop}{d:DefRec}{K:Params->e_}{CX:World->vt}{sp:World->Sp}{x:Str}
  (hn:l.most=some n) (FG:n<=sizeLine) (KP:d.params.defaults=[]) (hr:b0 k aaC)
  (hY:∀ (w:World) (h:Heap),YP w h->(K w.params).In h)
  (F:∀ (w:World) (mg:Str->k_ Value) (fa:Addr) (h:Heap),(K w.params).In h->h.Ns mainGlobals mg->mg d.name=some (.ref fa) ->
   ∃ fd:W4,(∀ (s:j_) (u:Value),acz s fd ⟨[u],[]⟩ [(x,u)]) /\
    ∀ base:Heap,(K w.params).In base->base.Ns mainGlobals mg->bO l.prog w (K w.params) mg base (CX w) k fa fd [x] (sp w))
  (BG:∀ (w:World) (H:Hp) (a:Addr) (ns:List Int),ns.length<=n->F3 H->cr (K w.params) H a (ns.map V.int)->sp w [.ref a] H (fun v _=>v=.bl true) fun _ _ _=>False)
  (PQ:∀ (w:World) (H:Hp) (s:j_) (e:Value) (s':j_),CX w [] H s (fun _ _ _=>False) e s'->False) :
  acR q loose XP YP l.row.toRowW d [] (fun f vs=>acJ f vs):=by
 refine Att.tw hn KP fun w s₀ s₁ mg mb fa o pm cd doc a vs ns G Y ho hd jS FZ F0 hints hlen hg=>?_
 have KX:=hY w _ Y;obtain⟨fd,hb,hF⟩:=F w mg fa _ KX G.T.g FZ;exact zF KX G.T.g G.T.b G.T.builtins G.T.nolimit hg F0 hints (Q_ hlen FG) hr hF hb (fun H hO hS=>BG w H a ns hlen hO hS) fun H e s'=>PQ w H s₁ e s'
end L2
namespace L2
open PySem PySem.Spec PyProof.Rows
noncomputable def mT (s:Stmt):acb:=match s with
 | .FunctionDef _ a _ _ _ _ _ _ _ _=>a
 | _=>{ posonlyargs:=[],args:=[],vararg:=none,kwonlyargs:=[],kw_defaults:=[],kwarg:=none,defaults:=[] }
noncomputable def iQ (s:Stmt):List Stmt:=match s with
 | .FunctionDef _ _ b _ _ _ _ _ _ _=>b
 | _=>[]
noncomputable def bK (s:Stmt):Scope:=match s with
 | .FunctionDef _ _ _ _ _ _ sc _ _ _=>sc
 | _=>{ kind:=.function,names:=[],isGenerator:=false,isCoroutine:=false }
abbrev lS:vt:=fun _ _ _ _ _ _=>False
abbrev E0:XK:=fun _ _ _=>False
theorem qx {X:Cx}:Passes lS X E0:=fun _ _ _ _ _ _ _ h=>h.elim
structure zG (K:e_) (x qual:Str) (st:Stmt) (f:Addr) (fd:W4):Prop where
 ex:∃ (oc:Value) (od:k_ Addr) (kV doc pm:Value) (an:k_ Addr) (jh ct:Value) (zu:Array (k_ Value)),
  fd=XG x qual (mT st) (iQ st) (bK st) .none kV doc pm an jh ct/\K.lookup f=some ⟨oc,od,.func fd,zu⟩/\Ys K jh qual=true
 kp:WH K (.ref f)=true
section
variable {P:N_}{w:World}{K:e_}{mg:Str->k_ Value}{base:Heap}
theorem zG.ok {x qual:Str}{st:Stmt}{f:Addr}{fd:W4}{N ps:List Str}{k:Nat}{sp:Sp} (F:zG K x qual st f fd) (S:mR N ps (bK st)) (len:∀ vs H Q E,sp vs H Q E->vs.length=ps.length)
  (zw:∀ (jh:Value) (A:WO) (outer:List Env) (s:j_) (H:Hp) (vs:List V) (Q:VK) (E:XK),b0 k (A.deeper (aa2 qual (bK st) s.heap.objs.size f jh))->sp vs H Q E ->
   ∃ t,kY (vw lS P w K mg base N qual (bK st) f jh A outer s H E).Kg (iQ st) t/\t { nx:=fun _ H'=>Q .aJ H',rt:=Q } (start N vs) H):bO P w K mg base lS (k+1) f fd ps sp:=by
 obtain⟨oc,od,kV,doc,pm,an,jh,ct,zu,rfl,lk,jS⟩:=F.ex;refine KD lk jS S len fun A outer s H vs Q E hr BG=>?_
 obtain⟨t,h,q⟩:=zw jh A outer s H vs Q E hr BG;exact⟨t,h.Kg,q⟩
theorem zG.binds {x qual:Str}{st:Stmt}{f:Addr}{fd:W4}{ps:List Str} (F:zG K x qual st f fd)
  (h:∀ (kV doc pm:Value) (an:k_ Addr) (jh ct:Value) (us:List Value),us.length=ps.length->abS (XG x qual (mT st) (iQ st) (bK st) .none kV doc pm an jh ct) ⟨us,[]⟩=pure (ps.zip us)):Binds K fd ps []:=by
 obtain⟨oc,od,kV,doc,pm,an,jh,ct,zu,rfl,lk,jS⟩:=F.ex;exact .all (h kV doc pm an jh ct)
theorem F4 {x qual:Str}{st:Stmt}{f:Addr}{oc:Value}{od an:k_ Addr}{zu:Array (k_ Value)}{kV doc pm jh ct:Value} (l:K.lookup f=some ⟨oc,od,.func (XG x qual (mT st) (iQ st) (bK st) .none kV doc pm an jh ct),zu⟩)
  (c:Ys K jh qual=true) (k:WH K (.ref f)=true):zG K x qual st f (XG x qual (mT st) (iQ st) (bK st) .none kV doc pm an jh ct):=⟨⟨oc,od,kV,doc,pm,an,jh,ct,zu,rfl,l,c⟩,k⟩
end
def ah (H H':Hp):Prop:=∀ b o,H b=some o->H' b=some o
theorem ah.refl (H:Hp):ah H H:=fun _ _ h=>h
theorem ah.trans {H H1 H2:Hp} (a:ah H H1) (b:ah H1 H2):ah H H2:=fun c o h=>b c o (a c o h)
theorem ah.free {H H':Hp} (e:ah H H') {l:Addr} (h:H' l=Option.none):H l=Option.none:=by
 cases q:H l with
 | none=>rfl
 | some o =>
  rw[e l o q] at h
  cases h
theorem ah.seq {K:e_}{H H':Hp}{a:Addr}{xs:List V} (e:ah H H') (h:cr K H a xs):cr K H' a xs:=by
 rcases h with (h | ⟨o,h⟩) | h
 ·exact .inl (.inl (e _ _ h))
 ·exact .inl (.inr ⟨o,e _ _ h⟩)
 ·exact .inr h
end L2
namespace L2
open PySem PySem.Spec PyProof.Rows
section
variable {P:N_}{w:World}{H:Hp}{h:Heap}{a:Addr}{o:HO}
theorem iX.KR (x:iX P w H h) (hn:H a=none) (new:aS P w (upd H a o) h a o):iX P w (upd H a o) h:=fun b u e=>by
 by_cases hb:b=a
 ·subst hb;rw[az] at e;cases e;exact new
 ·rw[aw hb] at e;exact (x b u e).eE (fun c v _ q=>q) (fun c q=>by rw[aw (aD q hn)];exact q) fun c xs q=>by rw[aw (aD q hn)];exact q
end
noncomputable def PX (x:Str):It:=⟨fun i _=>i<x.cps.size,fun i H v H'=>H'=H/\∃ c,x.cps[i]? = some c/\v=.str ⟨#[c]⟩,fun i _=>i=x.cps.size⟩
theorem qy {prog:N_}{w:World}{A:WO} (hh:A.handled=none) (I:Addr) (x:Str) (t:Tok):Walks prog w A I [I] [I] x.cps.size (SignAt x) (fun i h=>h.IsStrIter I (Xu x) x t i):=by
 cases ha:x.cps.all (·<128)
 ·have e:Xu x = "str_iterator" := by simp [Xu,ha]
  rw[e];exact Walks.strWide hh I x t
 ·have e:Xu x = "str_ascii_iterator" := by simp [Xu,ha]
  rw[e];exact Walks.strAscii hh I x t
theorem zH {P:N_}{w:World}{K:e_}{tg:Expr} (it:Addr) (x:Str) (t:Tok):Turn P w K tg (PX x) [it] it (fun i h=>h.IsStrIter it (Xu x) x t i) where
 mem:=by simp
 obj:=fun i h st b hb=>by
  have e:b=it:=by simpa using hb
  subst e;obtain⟨o,ho,_,hd⟩:=st;exact⟨o,ho,fun v q=>by rw[hd] at q;cases q⟩
 keep:=fun i h h' st k=>by
  obtain⟨o,ho,r⟩:=st;exact⟨o,k it (by simp) o ho,r⟩
 item:=by
  intro X hP hw hK hc i pins s σ H E I hf st hg;subst hP hw hK;obtain⟨f0,f1,f2,f3,f4,f5⟩:=hf it (by simp);refine (qy (I.ok.hd hc) it x t).item i s _ _ hg st fun v h' tk hv rn kk=>?_
  obtain⟨c,u,hx,rfl⟩:=hv;have I1:Inv X pins σ H { s with heap:=h',toks:=tk }:=I.turned (fun b o hb e=>kk b o (by simpa using hb) e) f0 f1 f3 f4 f5;obtain⟨o,ho,JM,hd⟩:=id rn;refine⟨_,rfl,sX (s:={ s with heap:=h',toks:=tk }) (n:=Xu x) ho JM hd ?_ ⟨.str ⟨#[c]⟩,H,I1,⟨u,rfl⟩,⟨rfl,c,hx,rfl⟩,rn,fun b hb=>(hf b hb).1⟩⟩;unfold Xu;split<;>decide
 done:=by
  intro X hP hw hK hc i pins s σ H E I hf st hg;subst hP hw hK;obtain⟨f0,f1,f2,f3,f4,f5⟩:=hf it (by simp);have TD:i=x.cps.size:=hg;subst TD;exact (qy (I.ok.hd hc) it x t).done s _ _ st fun h' tk kk=>⟨rfl,I.turned (fun b o hb e=>kk b o (by simpa using hb) e) f0 f1 f3 f4 f5⟩
 self:=fun A i s Q E st h=>by
  cases ha:x.cps.all (·<128)
  ·have e:Xu x = "str_iterator" := by simp [Xu,ha]
   rw[e] at st;exact wpAny_pyIter_striter_wide st h
  ·have e:Xu x = "str_ascii_iterator" := by simp [Xu,ha]
   rw[e] at st;exact wpAny_pyIter_striter_ascii st h
section
variable {prog:N_}{w:World}{A:WO}{R:Result->j_->Prop}{s:j_}
theorem tx {elt target iter:Expr}{ifs:List Expr}{scope:Scope}{pos:Pos}{it acc:Value}{env:Env} (I:Nat->j_->Prop)
  (turn:∀ n s,I n s->wpAny (model prog w) A (ab9 it) (fun r s₁=>match r with
   | none=>R (.ok .next) s₁
   | some v=>wpAny (model prog w) A (Zz target it v) (fun _ R3=>wpAny (model prog w) A (ab8 target env v) (fun _ s₂ =>
     wpAny (model prog w) A (forIn ifs true fun c r=>if r=true then do let ok ←aaX c env (eval c env);pure (Yk ok) else pure (Yk r)) (fun ok s₃ =>
      if ok=true then wpAny (model prog w) A (eval elt env) (fun x s₄ =>
       wpAny (model prog w) A (call (.builtin "list.append") [acc,x]) (fun _ s₅=>∃ m,m<n/\I m s₅) (fun _ _=>False) s₄) (fun _ _=>False) s₃
      else ∃ m,m<n/\I m s₃) (fun _ _=>False) s₂) (fun _ _=>False) R3) (fun _ _=>False) s₁) (fun _ _=>False) s)
  (n:Nat) (h:I n s) :
  Zo (model prog w) A (.compLoop (.ListComp elt [⟨target,iter,ifs,0⟩] scope pos) 0 it acc env) R s:=by
 refine codeAny_loop rfl I (fun n s hI=>?_) n h;show wpAny _ A ((compTurn (.ListComp elt [⟨target,iter,ifs,0⟩] scope pos) 0 it acc env).onRaise (fun x=>do noteFrame x env;theTreesLotGoes x)) _ _ s;refine wpAny_noted ?_;rw[compTurn_list];refine d_ (wpAny_standAt (d_ (Xz (turn n s hI) (fun r s₁ h₁=>?_) fun _ _ h'=>h'.elim)))
 cases r with
 | none=>exact r_ h₁
 | some v =>
  refine d_ (Xz h₁ (fun _ R3 TF=>d_ (Xz TF (fun _ s₂ h₂=>d_ (Xz h₂ (fun ok s₃ h₃=>?_) fun _ _ h'=>h'.elim)) fun _ _ h'=>h'.elim)) fun _ _ h'=>h'.elim)
  cases ok with
  | false=>exact r_ ⟨rfl,h₃⟩
  | true =>
   exact d_ (d_ (Xz h₃ (fun x s₄ h₄=>d_ (Xz h₄ (fun _ s₅ h₅=>r_ (r_ ⟨rfl,h₅⟩)) fun _ _ h'=>h'.elim)) fun _ _ h'=>h'.elim))
end
noncomputable def g0 (env:Env):List (Str×XE)->List (Str×Addr)->List (Str×Addr)
 | [],acc=>acc
 | (n,k)::r,acc=>g0 env r (if k==.free then (n,(env.cells.lookup n).getD 0)::acc else acc)
theorem gQ {scope:Scope}{env:Env} (h:∀ y∈scope.names,y.2=.free->∃ c,env.cells.lookup y.1=some c):closureFor scope env=pure (g0 env scope.names []):=by
 simp only[closureFor]
 suffices hh:∀ (l:List (Str×XE)) (acc:List (Str×Addr)),(∀ y∈l,y.2=.free->∃ c,env.cells.lookup y.1=some c) ->
   (forIn l acc fun x r=>if (x.2==WU)=true then do let a ←cellOf env x.1;pure (Yk ((x.1,a)::r)) else pure (Yk r):Sem (List (Str×Addr)))=pure (g0 env l acc) by
  have:=hh scope.names [] h;simp only[bind_pure];exact this
 intro l
 induction l with
 | nil=>intro acc _;rfl
 | cons y r ih =>
  intro acc hy;obtain⟨n,k⟩:=y;rw[aaJ]
  cases hk:(k==WU) with
  | true =>
   obtain⟨c,hc⟩:=hy (n,k) S_ (by simpa using hk);have e1:cellOf env n=pure c:=by unfold cellOf;rw[hc]
   simp only[hk,YK,e1,pure_bind];rw[ih _ fun z hz=>hy z (E_ _ hz)];simp only[g0,hk,YK,hc,acd]
  | false =>
   simp only[hk,abB,if_false,pure_bind];rw[ih _ fun z hz=>hy z (E_ _ hz)];simp only[g0,hk,abB,if_false]
theorem tD {env:Env}{x:Str}{c:Addr}:∀ {l:List (Str×XE)}{acc:List (Str×Addr)},(∀ y∈l,y.2=.free->∃ c,env.cells.lookup y.1=some c)->(acc.lookup x=some c->env.cells.lookup x=some c)->(g0 env l acc).lookup x=some c->env.cells.lookup x=some c
 | [],_,_,ha,e=>ha e
 | (n,k)::r,acc,hl,ha,e=>by
  refine tD (l:=r) (fun z hz=>hl z (E_ _ hz)) (fun q=>?_) e
  cases hk:(k==WU) with
  | false=>rw[hk] at q;exact ha q
  | true =>
   rw[hk] at q;obtain⟨c',hc⟩:=hl (n,k) S_ (by simpa using hk);simp only[YK,hc,acd,Wr] at q
   cases hx:(x==n) with
   | true=>rw[hx] at q;cases q;rw[show x=n from by simpa using hx];exact hc
   | false=>rw[hx] at q;exact ha q
theorem tE {env:Env}{x:Str}{c:Addr}:∀ {l:List (Str×XE)}{acc:List (Str×Addr)},(g0 env l acc).lookup x=some c->acc.lookup x=some c∨(x,WU)∈l
 | [],_,e=>.inl e
 | (n,k)::r,acc,e=>by
  rcases tE (l:=r) e with q | q
  ·cases hk:(k==WU) with
   | false=>rw[hk] at q;exact .inl q
   | true =>
    rw[hk] at q;simp only[YK,Wr] at q
    cases hx:(x==n) with
    | true =>
     have e1:x=n:=by simpa using hx
     have e2:k=WU:=by simpa using hk
     subst e1 e2;exact .inr S_
    | false=>rw[hx] at q;exact .inl q
  ·exact .inr (E_ _ q)
theorem nA {env:Env}{x:Str}:∀ {l:List (Str×XE)}{acc:List (Str×Addr)},(∃ c,acc.lookup x=some c)∨(x,WU)∈l->∃ c,(g0 env l acc).lookup x=some c
 | [],_,h=>h.elim (fun z=>z) fun z=>nomatch z
 | (n,k)::r,acc,h=>by
  refine nA (l:=r) ?_;rcases h with ⟨c,h⟩ | h
  ·refine .inl ?_
   cases hk:(k==WU) with
   | false=>exact⟨c,h⟩
   | true =>
    simp only[YK,Wr]
    cases hx:(x==n) with
    | true=>exact⟨_,rfl⟩
    | false=>exact⟨c,h⟩
  ·rcases t_.mp h with h | h
   ·cases h
    refine .inl ?_;rw[u_ (by rfl),Wr];exact⟨_,by rw[show (x==x)=true from by simp]⟩
   ·exact .inr h
theorem lookup_mem {α:Type}{x:Str}{k:α}:∀ {l:List (Str×α)},l.lookup x=some k->(x,k)∈l
 | (n,z)::r,e=>by
  rw[Wr] at e
  cases hx:(x==n) with
  | true=>rw[hx] at e;cases e;rw[show x=n from by simpa using hx];exact S_
  | false=>rw[hx] at e;exact E_ _ (lookup_mem e)
theorem qz (env:Env) (n:Str) (z:XE):∃ z',(if (z==WU&&env.scope.kind==.function&&env.kindOf n==some .cell)=true then (n,XI) else (n,z))=(n,z')/\(z'=z∨(z=.free/\z'=.cell)):=by
 by_cases hc:(z==WU&&env.scope.kind==.function&&env.kindOf n==some .cell)=true
 ·rw[u_ hc];simp only[q_] at hc;exact⟨_,rfl,.inr ⟨by simpa using hc.1.1,rfl⟩⟩
 ·rw[p_ hc];exact⟨_,rfl,.inl rfl⟩
theorem bu {env:Env}{x:Str}:∀ {l:List (Str×XE)}{k:XE},l.lookup x=some k ->
  ((l.map fun (n,k)=>if (k==WU&&env.scope.kind==.function&&env.kindOf n==some .cell) then (n,XI) else (n,k)).lookup x=some k) ∨
  (k=.free/\(l.map fun (n,k)=>if (k==WU&&env.scope.kind==.function&&env.kindOf n==some .cell) then (n,XI) else (n,k)).lookup x=some .cell)
 | (n,z)::r,k,e=>by
  obtain⟨z',e1,e2⟩:=qz env n z;have ih:=fun h=>bu (env:=env) (x:=x) (l:=r) (k:=k) h
  rw[Wr] at e;rw[o_];dsimp only;rw[e1,Wr]
  cases hx:(x==n) with
  | true =>
   rw[hx] at e
   cases e
   rcases e2 with e2 | ⟨e2,e3⟩
   ·rw[e2];exact .inl rfl
   ·rw[e3];exact .inr ⟨e2,rfl⟩
  | false=>rw[hx] at e;exact ih e
theorem j2 {env:Env}{x:Str}:∀ {l:List (Str×XE)},l.lookup x=none ->
  (l.map fun (n,k)=>if (k==WU&&env.scope.kind==.function&&env.kindOf n==some .cell) then (n,XI) else (n,k)).lookup x=none
 | [],_=>rfl
 | (n,z)::r,e=>by
  obtain⟨z',e1,e2⟩:=qz env n z;have ih:=fun h=>j2 (env:=env) (x:=x) (l:=r) h
  rw[Wr] at e;rw[o_];dsimp only;rw[e1,Wr]
  cases hx:(x==n) with
  | true=>rw[hx] at e;cases e
  | false=>rw[hx] at e;exact ih e
structure bm (N:List Str) (R4 scope:Scope) (own cu:List Str) (ix:List Nat):Prop where
 kind:scope.kind=.function
 cell:∀ y∈scope.names,y.2=.cell->scope.names.lookup y.1=some .cell
 names:∀ y∈scope.names,y.2=.local->scope.names.lookup y.1=some .local
 free:∀ y∈scope.names,y.2=.free->y.1∈cu
 F5:∀ x∈own,Loc scope x
 F6:∀ x∈cu,scope.names.lookup x=some .free
 out:∀ x∈cu,R4.names.lookup x=some .cell∨R4.names.lookup x=some .free
 R5:ix.map (fun i=>N[i]?)=cu.map some
 nd:(own++cu).Nodup
noncomputable def Cx.comp (X:Cx) (scope:Scope) (own cu:List Str) (C:Addr) (s₀:j_) (H₀:Hp) (ex:List Addr) (pn:List (Addr×Obj)):Cx :=
 { X with N:=own++cu,s₀:=s₀,H₀:=H₀,env:=aa5 scope (WR (C+1) scope.names (g0 X.env scope.names [])) C X.env,outer:=X.stack,ex:=ex,fn:=fun x=>own.contains x,pn:=pn,xe:=fun _ _=>False }
noncomputable def pk (σ:St) (own:List Str) (ix:List Nat):St:=own.map (fun _=>none)++ix.map (fun i=>(σ[i]?).join)
theorem b4:∀ (l:List (Str×XE)) (n:Nat) (acc:List (Str×Addr)),WR n l acc=WR n l []++acc
 | [],_,_=>rfl
 | (x,k)::r,n,acc=>by
  unfold WR;split
  ·rw[b4 r (n+1) (_::acc),b4 r (n+1) [_],Yp];rfl
  ·exact b4 r n acc
theorem dX {x:Str}{c:Addr}:∀ {l:List (Str×XE)}{n:Nat},(x,c)∈WR n l []->(x,XI)∈l
 | (y,k)::r,n,h=>by
  unfold WR at h;split at h
  ·rename_i hk;rw[b4] at h;rcases U_.mp h with q | q
   ·exact E_ _ (dX q)
   ·cases D_.mp q
    rw[show k=.cell by simpa using hk];exact S_
  ·exact E_ _ (dX h)
theorem cZ {x:Str}:∀ {l:List (Str×XE)}{n:Nat}{acc:List (Str×Addr)},(∃ c,acc.lookup x=some c)∨(x,XI)∈l->∃ c,(WR n l acc).lookup x=some c
 | [],_,_,h=>h.elim (fun z=>z) fun z=>nomatch z
 | (y,k)::r,n,acc,h=>by
  unfold WR;split
  ·refine cZ ?_
   cases hx:(x==y) with
   | true=>exact .inl ⟨n,by rw[Wr,hx]⟩
   | false =>
    rw[Wr,hx];refine h.imp id fun q=>?_
    rcases t_.mp q with z | z
    ·cases z;rw[X6] at hx;cases hx
    ·exact z
  ·rename_i hk;refine cZ (h.imp id fun q=>?_);rcases t_.mp q with z | z
   ·cases z;exact absurd rfl hk
   ·exact z
theorem gU {M:Model}{A:WO}{E:Value->j_->Prop}{s:j_}{scope:Scope}{globals:Addr}{closure:List (Str×Addr)}{qual:Str}{func:k_ Addr}{code:Value}{outer:Env}{builtins:Addr}{Q:Env->j_->Prop}
  (hQ:∀ h',(∀ b o,s.heap.get? b=some o->h'.get? b=some o)->h'.Ns s.heap.objs.size (fun _=>none)->CellsOk h' (s.heap.objs.size+1) (WR (s.heap.objs.size+1) scope.names []) ->
   Q (newEnv scope s.heap.objs.size globals (WR (s.heap.objs.size+1) scope.names closure) qual func code (some outer) builtins) { s with heap:=h' }) :
  wpAny M A (aa6 scope globals closure [] qual func code (some outer) builtins) Q E s:=by
 simp only[aa6,abC,YK];refine d_ (wpAny_alloc (d_ (wpAny_layCells _ (fun name kind cells=>by cases TH:kind==XI<;>simp [TH]) _ _ _ _ ?_)));have ok:=cellsFrom_ok scope.names (s.heap.push { cls:=.type "dict",data:=.dict #[] }) (s.heap.objs.size+1) [] ⟨fun _ _ hm=>(nomatch hm),Y8⟩ (by rw[WX];exact w_ _);rw[WX] at ok;rw[show ({ s with heap:=s.heap.push { cls:=.type "dict",data:=.dict #[] } }:j_).heap.objs.size=s.heap.objs.size+1 from WX ..,ZX];exact d_ (r_ (r_ (hQ _ (fun b o e=>pushCells_keeps _ _ b o (l_ _ e)) ((Heap.Ns.new s.heap (.type "dict")).keeps (pushCells_keeps _ _)) ok)))
section
variable {X:Cx}{pins:List (Addr×Obj)}{σ:St}{H:Hp}{s:j_}{scope:Scope}{own cu:List Str}{ix:List Nat}
theorem bm.has (S:bm X.N X.env.scope scope own cu ix) (ok:X.Ok):∀ y∈scope.names,y.2=.free->∃ c,X.env.cells.lookup y.1=some c:=fun y hy hf=>ok.has y.1 (S.out y.1 (S.free y hy hf))
theorem bm.cv {C:Addr}{h₁:Heap} (S:bm X.N X.env.scope scope own cu ix) (ok:X.Ok) (oc:CellsOk h₁ (C+1) (WR (C+1) scope.names [])) {x:Str}{c:Addr} (e:(WR (C+1) scope.names (g0 X.env scope.names [])).lookup x=some c) :
  ((x,c)∈WR (C+1) scope.names []/\C<c/\h₁.IsCell c none)∨(X.env.cells.lookup x=some c/\x∈cu):=by
 rw[b4,List.lookup_append,Option.or_eq_some_iff] at e;rcases e with e | ⟨_,e⟩
 ·have:=oc.empty x c (Xw e);exact .inl ⟨Xw e,this.2,this.1⟩
 ·refine .inr ⟨tD (S.has ok) (fun q=>by simp at q) e,?_⟩;rcases tE e with q | q
  ·cases q
  ·exact S.free _ q rfl
theorem Inv.comp (I:Inv X pins σ H s) (S:bm X.N X.env.scope scope own cu ix) {fp:List Addr} (hf:∀ b∈fp,mq X pins H b) (ho:∀ b∈fp,∃ o,s.heap.get? b=some o)
  {h₁:Heap}{tk:Nat}{C:Addr}{m:Str->k_ Value} (hC:s.heap.objs.size<=C) (old:∀ b o,s.heap.get? b=some o->h₁.get? b=some o) (Oq:h₁.Ns C m) (oc:CellsOk h₁ (C+1) (WR (C+1) scope.names [])) :
  Inv (X.comp scope own cu C s H fp (X.pn++pins)) [] (pk σ own ix) H { s with heap:=h₁,toks:=tk }:=by
 have cv:=fun x c e=>S.cv I.ok oc (x:=x) (c:=c) e
 have TJ:∀ {x c},X.env.cells.lookup x=some c->c<s.heap.objs.size:=fun {x c} e=>by obtain⟨v,q⟩:=I.cell x c e;exact q.lt
 have ap:∀ {x c y},C<c->X.env.cells.lookup y=some c->x=y:=fun h e=>absurd (C_ (TJ e) hC) (Nat.not_lt.mpr (W0 h))
 have kc:∀ {x},x∈cu->(x,XI)∉scope.names:=fun {x} hx z=>nomatch (S.F6 x hx).symm.trans (S.cell _ z rfl)
 have lc:∀ {x c},x∈cu->(WR (C+1) scope.names (g0 X.env scope.names [])).lookup x=some c->X.env.cells.lookup x=some c:=fun {x c} hx e=>by
  rcases cv x c e with ⟨z,_⟩ | ⟨z,_⟩
  ·exact absurd (dX z) (kc hx)
  ·exact z
 have kk:∀ x,((aa5 scope (WR (C+1) scope.names (g0 X.env scope.names [])) C X.env).kindOf x=some .cell∨(aa5 scope (WR (C+1) scope.names (g0 X.env scope.names [])) C X.env).kindOf x=some .free)->(x,XI)∈scope.names∨(x,WU)∈scope.names:=fun x hx=>by
  cases e:scope.names.lookup x with
  | none =>
   have q:=j2 (env:=X.env) e;rcases hx with hx | hx<;>exact nomatch q.symm.trans (show _=some _ from hx)
  | some k =>
   rcases bu (env:=X.env) e with q | ⟨q,_⟩
   ·rcases hx with hx | hx<;>cases K_ (q.symm.trans (show _=some _ from hx))
    ·exact .inl (lookup_mem e)
    ·exact .inr (lookup_mem e)
   ·exact .inr (by rw[←q];exact lookup_mem e)
 have PY:∀ x∈cu,(aa5 scope (WR (C+1) scope.names (g0 X.env scope.names [])) C X.env).kindOf x=some .cell∨(aa5 scope (WR (C+1) scope.names (g0 X.env scope.names [])) C X.env).kindOf x=some .free:=fun x hx=>by
  rcases bu (env:=X.env) (S.F6 x hx) with q | ⟨_,q⟩
  ·exact .inr q
  ·exact .inl q
 have lt:∀ {b:Addr}{o:Obj},s.heap.get? b=some o->b<C:=fun e=>C_ (z_ e) hC
 have R6:∀ b,b∈sP X.stack->b∈X.env.locals::X.fs:=I.nr
 refine⟨⟨I.ok.mod,S.kind,I.ok.glob,I.ok.blt,hC,fun x y c e1 e2=>?_,fun x hx=>cZ ((kk x hx).symm.imp (fun z=>nA (.inr z)) id),fun x c hx e=>?_,I.ok.hd,I.ok.frames,.inl rfl,fun b hb=>?_,
  I.bs,Q_ I.ok.BY I.sz,fun b o e hb=>?_,fun b hb F7=>?_,I.stack,I.wJ⟩,rfl,I.bare,Un.kept old,?_,fun x c e=>?_,I.be.fresh hC,fun x c e=>?_,fun p hp=>?_,I.be.kept old,?_⟩
 ·rcases cv x c e1 with ⟨a1,b1,_⟩ | ⟨a1,_⟩<;>rcases cv y c e2 with ⟨a2,b2,_⟩ | ⟨a2,_⟩
  ·exact name_of_addr oc.apart a1 a2
  ·exact ap b1 a2
  ·exact (ap b2 a1).symm
  ·exact I.ok.inj x y c a1 a2
 ·rcases cv x c e with ⟨_,z,_⟩ | ⟨_,z⟩
  ·exact Q_ hC (W0 z)
  ·have h1:x∈own:=by simpa [Cx.comp] using hx
   exact absurd rfl ((List.nodup_append.mp S.nd).2.2 x h1 x z)
 ·obtain⟨o,e⟩:=ho b hb;refine⟨R_ (lt e),fun x c q=>?_⟩;rcases cv x c q with ⟨_,z,_⟩ | ⟨z,_⟩
  ·exact Y2 (abV (lt e) z)
  ·exact (hf b hb).2.2.2.2.1 x c z
 ·rcases (hf b hb).2.2.2.1 with z | z
  ·exact I.ok.y7 b o e z
  ·exact absurd (C_ (z_ e) (Q_ I.ok.BY z)) (WT _)
 ·rcases t_.mp (R6 b F7) with z | z
  ·exact (hf b hb).2.1 z
  ·exact (hf b hb).2.2.1 z
 ·refine⟨m,Oq,fun i x v e1 e2 _=>?_⟩;by_cases hi:i<own.length
  ·have e3:(pk σ own ix)[i]? = some none:=by
    unfold pk;rw[WD (by simpa using hi),h_];rw[c_ hi];rfl
   rw[e3] at e2;cases e2
  ·have hj:own.length<=i:=Nat.not_lt.mp hi
   have Ou:cu[i-own.length]? = some x:=by
    have:(own++cu)[i]? = some x:=e1;rwa [Wy hj] at this
   have e4:(ix.map (fun i=>X.N[i]?))[i-own.length]? = some (some x):=by rw[S.R5,h_,Ou];rfl
   rw[h_] at e4
   cases q:ix[i-own.length]? with
   | none=>rw[q] at e4;cases e4
   | some j =>
    rw[q] at e4;have TK:X.N[j]? = some x:=K_ e4
    have e5:(σ[j]?).join=some v:=by
     unfold pk at e2;rw[Wy (by simpa using hj),h_,a_,q] at e2;exact K_ e2
    have e6:σ[j]? = some (some v):=by
     cases r:σ[j]? with
     | none=>rw[r] at e5;cases e5
     | some z=>rw[r] at e5;exact congrArg some e5
    have hx:x∈cu:=y_ Ou;obtain⟨mo,hn,hl⟩:=I.loc;obtain⟨u,ru,lu⟩:=hl j x v TK e6 (.inr (S.out x hx));refine⟨u,ru,.inr ⟨PY x hx,?_⟩⟩;rcases lu with ⟨kx,_⟩ | ⟨_,c,hc,qk⟩
    ·have TL : X.env.scope.names.lookup x = some .local := kx;rcases S.out x hx with z | z<;>exact nomatch TL.symm.trans z
    ·obtain⟨c',E6⟩:=cZ (n:=C+1) (.inl (nA (env:=X.env) (acc:=[]) (.inr (lookup_mem (S.F6 x hx)))));have:c'=c:=K_ ((lc hx E6).symm.trans hc);subst this;obtain⟨oc,JJ,KS⟩:=qk;exact⟨c',E6,oc,old _ _ JJ,KS⟩
 ·rcases cv x c e with ⟨_,_,z⟩ | ⟨z,_⟩
  ·exact⟨_,z⟩
  ·obtain⟨v,oc,JJ,KS⟩:=I.cell x c z;exact⟨v,oc,old _ _ JJ,KS⟩
 ·rcases cv x c e with ⟨_,z,_⟩ | ⟨z,_⟩
  ·exact I.be.fresh (Q_ hC (W0 z))
  ·exact I.i8 x c z
 ·have kW:p∈X.pn++pins:=by simpa [Cx.comp] using hp
  obtain⟨q1,q2,q3,q4,q5⟩:=I.pin p kW;refine⟨old _ _ q1,q2,R_ (lt q1),fun z=>?_,q5⟩;rcases t_.mp (R6 p.1 z) with y | y
  ·exact q3 y
  ·exact q4 y
 ·show (pk σ own ix).length=(own++cu).length;have:=congrArg Zw S.R5;rw[a_,a_] at this;unfold pk;rw[F_,F_,a_,a_,this]
end
def vF (X:Cx) (ifs:List Expr) (t:TT):Prop :=
 ∀ (pins:List (Addr×Obj)) (s:j_) (σ:St) (H:Hp) (Q:Bool->Hp->Prop),Inv X pins σ H s->t σ H Q ->
  wpAny (model X.prog X.w) X.A (forIn ifs true fun c r=>if r=true then do let ok ←aaX c X.env (eval c X.env);pure (Yk ok) else pure (Yk r)) (TP X pins σ Q) X.xe s
def KU:TT:=fun _ H Q=>Q true H
theorem zI {X:Cx}:vF X [] KU:=fun _ _ _ H _ I h=>wpAny_tests_nil ⟨H,I,h⟩
theorem zJ {X:Cx}{c:Expr}{t:TT} (h:PT X c t):vF X [c] t:=fun pins s σ H Q I q=>wpAny_tests_one (h pins s σ H Q I q)
def wU (own:List Str) (ix:List Nat) (wi:TI) (g:TG) (ti:TT) (te:TE):TE:=fun σ H Q=>wi σ H fun J H1 =>
 ∃ W:Nat->Nat->List V->St->Hp->Prop,(∃ m,W 0 m [] (pk σ own ix) H1)/\∀ i m ys σ' H,W i m ys σ' H ->
  (J.stop i H/\ys.length<=sizeLine/\∀ D,H D=none->Q (.ref D) (upd H D (.lst ys))) ∨
  (J.go i H/\∀ x H',J.DV i H x H'->g x σ' H' fun σ2 H2=>ti σ2 H2 fun b H3=>if b=true then te σ2 H3 fun y H4=>ys.length<sizeLine/\∃ m',m'<m/\W (i+1) m' (ys++[y]) σ2 H4 else ∃ m',m'<m/\W (i+1) m' ys σ2 H3)
section
variable {X:Cx}{pins:List (Addr×Obj)}{σ:St}{scope:Scope}{own cu:List Str}{ix:List Nat}{tg iter elt:Expr}{ifs:List Expr}{pos:Pos}
set_option maxHeartbeats 4000000 in
theorem nB {s:j_}{H:Hp}{it:Addr}{fp:List Addr}{tn:Nat->Heap->Prop}{J:It}{g:TG}{ti:TT}{te:TE}{Q:VK}{W:Nat->Nat->List V->St->Hp->Prop}{E:Value->j_->Prop}{RR:Value->Addr->Result->j_->Prop} (hc:X.calm=true)
  (I:Inv X pins σ H s) (S:bm X.N X.env.scope scope own cu ix) (T:Turn X.prog X.w X.K tg J fp it tn) (st:tn 0 s.heap) (hf:∀ b∈fp,mq X pins H b)
  (hb:∀ (C:Addr) (s₀:j_) (H₀:Hp) (ex:List Addr) (pn:List (Addr×Obj)),PG (X.comp scope own cu C s₀ H₀ ex pn) tg g/\vF (X.comp scope own cu C s₀ H₀ ex pn) ifs ti/\PE (X.comp scope own cu C s₀ H₀ ex pn) elt te)
  (h0:∃ m,W 0 m [] (pk σ own ix) H)
  (turn:∀ i m ys σ' H,W i m ys σ' H->(J.stop i H/\ys.length<=sizeLine/\∀ D,H D=none->Q (.ref D) (upd H D (.lst ys))) ∨
   (J.go i H/\∀ x H',J.DV i H x H'->g x σ' H' fun σ2 H2=>ti σ2 H2 fun b H3=>if b=true then te σ2 H3 fun y H4=>ys.length<sizeLine/\∃ m',m'<m/\W (i+1) m' (ys++[y]) σ2 H4 else ∃ m',m'<m/\W (i+1) m' ys σ2 H3))
  (TM:∀ (D C:Addr) (oC:Obj) (m:Str->k_ Value) (H':Hp) (s':j_),s'.heap.get? C=some oC->s'.heap.Ns C m->C≠X.env.locals->(X.s₀.heap.objs.size<=C)->(∀ x c,X.env.cells.lookup x=some c->c≠C)->(∀ p∈X.pn++pins,p.1≠C)->C∉X.fs->H' C=none ->
   Inv X pins σ H' s'->Q (.ref D) H'->RR (.ref D) C (.ok .next) s') :
  wpAny (model X.prog X.w) X.A (newList []) (fun acc s₃=>wpAny (model X.prog X.w) X.A (aa6 scope X.env.globals (g0 X.env scope.names []) [] X.env.qual none .none (some X.env)) (fun KW s₄ =>
   Zo (model X.prog X.w) X.A (.compStart (.ListComp elt [⟨tg,iter,ifs,0⟩] scope pos) 0 (.ref it) acc { KW with scope:=relabel scope X.env }) (RR acc KW.locals) s₄) E s₃) E s:=by
 refine Xf (gU fun h₁ Ov Cs KY=>?_);dsimp only at Ov Cs KY ⊢;generalize PZ:s.heap.push { cls:=.type "list",dict:=none,data:=.seq ([]:List Value).toArray }=HH at Ov Cs KY ⊢;generalize TN:HH.objs.size=C at Cs KY ⊢;generalize KZ:s.heap.objs.size=D;have hC:C=D+1:=by rw[←TN,←PZ,WX,KZ]
 have P0:D≠C:=by rw[hC];exact R_ (Yx _)
 have below:∀ b,b<s.heap.objs.size->b≠C/\b≠D:=fun b hb=>by rw[KZ] at hb;exact⟨by rw[hC];exact R_ (Nat.lt_succ_of_lt hb),R_ hb⟩
 have old:∀ b o,s.heap.get? b=some o->h₁.get? b=some o:=fun b o e=>Ov b o (PZ▸l_ _ e)
 have P4:h₁.get? D=some { cls:=.type "list",data:=.seq ([]:List Value).toArray 0 }:=Ov _ _ (by rw[←PZ,←KZ];exact v_ _ rfl);have F8:s.heap.objs.size<=C:=by rw[KZ,hC];exact aa1 _
 have K0:s.heap.objs.size<=D:=abN KZ
 have R7:D∉fp:=fun hm=>by
  obtain⟨o,e,_⟩:=T.obj _ _ st D hm;exact (below D (z_ e)).2 rfl
 have TQ:H D=none:=I.be.fresh K0;obtain⟨gG,gI,gE⟩:=hb C s H fp (X.pn++pins);have I0:∀ tk,Inv (X.comp scope own cu C s H fp (X.pn++pins)) [] (pk σ own ix) H { s with heap:=h₁,toks:=tk }:=fun tk=>I.comp S hf (fun b hb=>(T.obj _ _ st b hb).imp fun o e=>e.1) F8 old Cs KY
 have R8:∀ x c,(X.comp scope own cu C s H fp (X.pn++pins)).env.cells.lookup x=some c->X.env.cells.lookup x=some c∨C<c:=fun x c e=>(S.cv I.ok KY e).symm.imp (·.1) (·.2.1)
 have zK:∀ x c,X.env.cells.lookup x=some c->c<s.heap.objs.size:=fun x c e=>by obtain⟨v,q⟩:=I.cell x c e;exact q.lt
 have K1:∀ b∈sP X.stack,b<s.heap.objs.size:=fun b hb=>by
  rcases t_.mp (I.nr b hb) with z | z
  ·rw[z];exact I.lt
  ·obtain⟨_,o,ho,_⟩:=I.jQ.mem z;exact z_ ho
 have P5:∀ (H':Hp) (ps:List (Addr×Obj)),(∀ p∈ps,p.1=D)->(∀ b∈fp,H' b=none)->∀ b∈fp,mq (X.comp scope own cu C s H fp (X.pn++pins)) ps H' b:=fun H' ps TR hn b hb=>by
  obtain⟨o,e,_⟩:=T.obj _ _ st b hb;obtain⟨f0,f1,f2,f3,f4,f5⟩:=hf b hb;refine⟨hn b hb,(below b (z_ e)).1,fun z=>?_,.inl hb,fun x c q=>(R8 x c q).elim (f4 x c) fun z=>Y2 (C_ (z_ e) (Q_ F8 (W0 z))),fun p hp=>?_⟩
  ·rcases t_.mp (I.nr b z) with y | y
   ·exact f1 y
   ·exact f2 y
  ·rcases U_.mp hp with z | z
   ·exact f5 p z
   ·intro y;exact R7 (by rw[←TR p z,y];exact hb)
 have P6:∀ {H':Hp}{σ':St}{s':j_}{o:Obj},Inv (X.comp scope own cu C s H fp (X.pn++pins)) [] σ' H' s'->s'.heap.get? D=some o->(∀ v,o.data≠.cell v)->H' D=none->Inv (X.comp scope own cu C s H fp (X.pn++pins)) [(D,o)] σ' H' s':=fun {H' σ' s' o} I' e hd hn =>
  I'.iO fun p hp=>by
   have e1:p=(D,o):=by simpa using hp
   subst e1;exact⟨e,hn,P0,fun z=>WT _ (C_ (K1 D z) K0),hd⟩
 have loop:∀ s₃:j_,s₃={ s with heap:=h₁ } ->
   Zo (model X.prog X.w) X.A (.compLoop (.ListComp elt [⟨tg,iter,ifs,0⟩] scope pos) 0 (.ref it) (.ref D) (aa5 scope (WR (C+1) scope.names (g0 X.env scope.names [])) C X.env)) (RR (.ref D) C) s₃:=by
  rintro s₃ rfl;obtain⟨m0,w0⟩:=h0
  refine tx (fun n s'=>∃ i ys σ' H',Inv (X.comp scope own cu C s H fp (X.pn++pins)) [] σ' H' s'/\tn i s'.heap/\(∀ b∈fp,H' b=none)/\H' D=none /\
   (∃ (ai:List Value) (k:Nat),Vals ys ai/\s'.heap.get? D=some { cls:=.type "list",data:=.seq ai.toArray k })/\ys.length<=sizeLine/\W i n ys σ' H') ?_ m0
   ⟨0,[],_,H,I0 s.toks,T.keep _ _ _ st fun b _ o e=>old b o e,fun b hb=>(hf b hb).1,TQ,⟨[],0,.nil,P4⟩,Xn _,w0⟩
  rintro n s' ⟨i,ys,σ',H',I',rn,R9,JN,⟨ai,k,hv,TU⟩,Sb,w'⟩;have ID:=P6 I' TU (fun v q=>nomatch q) JN;rcases turn i n ys σ' H' w' with ⟨stop,hz,q⟩ | ⟨go,step⟩
  ·refine bf (T.done (X.comp scope own cu C s H fp (X.pn++pins)) rfl rfl rfl hc i [(D,_)] s' σ' H' _ ID (P5 H' _ (fun p hp=>by rw[D_.mp hp]) R9) rn stop) fun r zr ⟨hr,I2⟩=>?_
   subst hr;show RR (.ref D) C (.ok .next) zr;have P7:zr.heap.get? D=some { cls:=.type "list",data:=.seq ai.toArray k }:=(I2.pin (D,_) (O_ _ (D_.mpr rfl))).1;obtain⟨m2,FG,_⟩:=I2.loc;obtain⟨oC,es,ep,JO,_⟩:=id FG;have P8:iX X.prog X.w (upd H' D (.lst ys)) zr.heap:=I2.be.KR JN ⟨Sb,ai,k,hv,P7⟩
   have un:Un (sP X.stack) fp H (upd H' D (.lst ys)) s.heap zr.heap:=by
    have u0:Un (sP X.stack) fp H H' s.heap zr.heap:=I2.base;refine⟨u0.keep,u0.slot,fun b o e hn hx=>?_,u0.there,fun b xs e=>?_,fun b o u e=>?_,fun b ps e=>?_⟩
    ·rw[aw (below b (z_ e)).2];exact u0.free b o e hn hx
    ·rw[aw (aD (u0.oZ b xs e) JN)];exact u0.oZ b xs e
    ·rw[aw (aD (u0.nq b o u e) JN)];exact u0.nq b o u e
    ·obtain⟨more,e'⟩:=u0.rj b ps e;exact⟨more,by rw[aw (aD e' JN)];exact e'⟩
   have IX:Inv X pins σ (upd H' D (.lst ys)) zr:=I.Ka (ch:=fp) I2.os un P8 I2.bare fun b hb=>⟨(hf b hb).2.2.2.1,(hf b hb).2.1,(hf b hb).2.2.2.2.1,(hf b hb).2.2.2.2.2⟩
   refine TM D C oC m2 _ zr JO FG ?_ ?_ (fun x c e z=>?_) (fun p hp z=>?_) (fun z=>?_) ?_ IX (q D JN)
   ·exact fun z=>WT _ (C_ I.lt (by rw[←z];exact F8))
   ·exact Q_ I.sz F8
   ·exact WT _ (C_ (zK x c e) (by rw[z];exact F8))
   ·exact WT _ (C_ (z_ (I.pin p hp).1) (by rw[z];exact F8))
   ·obtain⟨_,o,ho,_⟩:=I.jQ.mem z;exact WT _ (C_ (z_ ho) F8)
   ·rw[aw P0.symm];exact I2.free
  ·refine bf (T.item (X.comp scope own cu C s H fp (X.pn++pins)) rfl rfl rfl hc i [(D,_)] s' σ' H' _ ID (P5 H' _ (fun p hp=>by rw[D_.mp hp]) R9) rn go) fun r s4 ⟨u,hr,h4⟩=>?_
   subst hr;refine bf h4 fun _ s5 ⟨x,H5,I5,r5,y5,B7,Pl⟩=>?_
   have TV:=I5.pin (D,_) (O_ _ (D_.mpr rfl));have Pm:=I5.pinned (P5 H5 _ (fun p hp=>by rw[D_.mp hp]) Pl) (T.obj _ _ B7);refine bf (gG _ s5 σ' H5 x u _ Pm r5 (step x H5 y5)) fun _ s6 ⟨σ6,H6,I6,q6⟩=>?_
   refine bf (gI _ s6 σ6 H6 _ I6 q6) fun ok s7 ⟨H7,I7,q7⟩=>?_
   have Sc:∀ {σ8:St}{H8:Hp}{s8:j_},Inv (X.comp scope own cu C s H fp (X.pn++pins)) ([(D,({ cls:=.type "list",data:=.seq ai.toArray k }:Obj))]++k6 fp s5.heap) σ8 H8 s8->tn (i+1) s8.heap/\(∀ b∈fp,H8 b=none):=fun {σ8 H8 s8} I8=>by
    refine⟨T.keep _ _ _ B7 fun b hb o e=>(I8.pin (b,o) (O_ _ (O_ _ (fN hb e)))).1,fun b hb=>?_⟩;obtain⟨o,e,d⟩:=T.obj _ _ B7 b hb;exact (I8.pin (b,o) (O_ _ (O_ _ (fN hb e)))).2.1
   have dK:∀ {σ8:St}{H8:Hp}{s8:j_},Inv (X.comp scope own cu C s H fp (X.pn++pins)) ([(D,({ cls:=.type "list",data:=.seq ai.toArray k }:Obj))]++k6 fp s5.heap) σ8 H8 s8->s8.heap.get? D=some { cls:=.type "list",data:=.seq ai.toArray k }/\H8 D=none:=fun {σ8 H8 s8} I8=>by
    have z:=I8.pin (D,_) (O_ _ (Zv _ (D_.mpr rfl)));exact⟨z.1,z.2.1⟩
   cases ok with
   | false =>
    obtain⟨m',hm,w7⟩:=q7;obtain⟨TW,TY⟩:=Sc I7;obtain⟨T0,T1⟩:=dK I7;exact⟨m',hm,i+1,ys,σ6,H7,I7.iO (fun p hp=>nomatch hp),TW,TY,T1,⟨ai,k,hv,T0⟩,Sb,w7⟩
   | true =>
    refine bf (gE _ s7 σ6 H7 _ I7 q7) fun xv s8 ⟨y,H8,I8,r8,Sd,m',hm,w8⟩=>?_
    obtain⟨T2,T3⟩:=Sc I8;obtain⟨T4,Se⟩:=dK I8;refine append_at (hsz:=by rw[B_,←hv.length];exact W0 Sd) T4 fun h9 Sf T5=>?_
    have I9:Inv (X.comp scope own cu C s H fp (X.pn++pins)) [] σ6 H8 { s8 with heap:=h9 }:=by
     refine (I8.iO (pins':=[]) fun p hp=>nomatch hp).turned (t':=s8.toks) (it:=D) (fun b o hb e=>Sf.extBut b o hb e) Se P0 (.inr K0) (fun x c e z=>?_) (fun p hp z=>?_)
     ·rcases R8 x c e with q | q
      ·exact WT _ (C_ (zK x c q) (by rw[z];exact K0))
      ·rw[z,hC] at q;exact WT _ (abV q (Yx _))
     ·have kW:p∈X.pn++pins:=by simpa [Cx.comp] using hp
      exact WT _ (C_ (z_ (I.pin p kW).1) (by rw[z];exact K0))
    refine⟨m',hm,i+1,ys++[y],σ6,H8,I9,T.keep _ _ _ T2 fun b hb o e=>Sf.extBut b o (fun z=>R7 (by rw[←z];exact hb)) e,T3,Se,⟨ai++[xv],k+1,hv.append (.cons r8 .nil),?_⟩,by rw[F_,Ws];exact Sd,w8⟩;rw[T5,List.push_toArray]
 exact codeAny_compStart_list (loop _ rfl) (T.self _ 0 _ _ _ (T.keep _ _ _ st fun b _ o e=>old b o e) (loop _ rfl))
theorem wV {wi:TI}{g:TG}{ti:TT}{te:TE} (hc:X.calm=true) (S:bm X.N X.env.scope scope own cu ix) (hi:PI X tg iter wi)
  (hb:∀ (C:Addr) (s₀:j_) (H₀:Hp) (ex:List Addr) (pn:List (Addr×Obj)),PG (X.comp scope own cu C s₀ H₀ ex pn) tg g/\vF (X.comp scope own cu C s₀ H₀ ex pn) ifs ti/\PE (X.comp scope own cu C s₀ H₀ ex pn) elt te)
  (hs:∀ x,Xe iter X.env x=pure x:=by intro _;rfl):PE X (.ListComp elt [⟨tg,iter,ifs,0⟩] scope pos) (wU own ix wi g ti te):=by
 intro pins s σ H Q I h;rw[eval_ListComp];refine Z_ (use:=none) rfl hs (gQ (S.has I.ok)) S.kind S.names (bf (hi pins s σ H _ I h) fun xv s₁ h₁=>bf h₁ fun Oh s₂ h₂=>?_);obtain⟨it,fp,tn,J,H2,e,I2,T,xV,f2,W,h0,turn⟩:=h₂;subst e;refine nB (Q:=Q) (RR:=fun acc C=>compPost (model X.prog X.w) X.A X.xe none (EP X pins σ Q) acc C) hc I2 S T xV f2 hb h0 turn ?_;intro D C oC m H' s' JO hn h1 h2 h3 h4 h5 h6 I' q;refine⟨m,hn,fun h' BH=>⟨.ref D,H',I'.turned (t':=s'.toks) (it:=C) (fun b o hb e=>BH.extBut b o hb e) h6 (WA h1.symm) (.inr h2) h3 h4,rfl,q⟩⟩
theorem Ct {wi:TI}{g:TG}{ti:TT}{te:TE}{i:Nat}{y:Str}{py ye:Pos} (hc:X.calm=true) (hN:X.N.Nodup) (hy:X.N[i]? = some y) (hx:Loc X.env.scope y) (S:bm X.N X.env.scope scope own cu ix) (hi:PI X tg iter wi)
  (hb:∀ (C:Addr) (s₀:j_) (H₀:Hp) (ex:List Addr) (pn:List (Addr×Obj)),PG (X.comp scope own cu C s₀ H₀ ex pn) tg g/\vF (X.comp scope own cu C s₀ H₀ ex pn) ifs ti/\PE (X.comp scope own cu C s₀ H₀ ex pn) elt te)
  (P9:Xx (.ListComp elt [⟨tg,iter,ifs,0⟩] scope pos) (some (.Name y py)) ye.line X.env=pure true:=by rfl)
  (hs : ∀ x, Xe iter X.env x = pure x := by intro _; rfl) (hf : X.fn y = true ∨ X.env.scope.names.lookup y = some .local := by first | exact .inl rfl | exact .inr rfl | assumption) :
  PS X (.Assign [.Name y py] (.ListComp elt [⟨tg,iter,ifs,0⟩] scope pos) ye) (Kj (wU own ix wi g ti te) (dU i)):=by
 intro pins s σ H D I h;rw[exec_Assign_Name_used _ _ _ _ P9];refine d_ (wpAny_standAt (d_ ?_));show wpAny _ X.A (do let _ ←comprehension (.ListComp elt [⟨tg,iter,ifs,0⟩] scope pos) scope X.env _ (newList []) false (eval iter X.env) (some (ab8 (.Name y py) X.env))) _ _ s
 refine d_ (Xz (Z_ (use:=some (ab8 (.Name y py) X.env)) (Q:=fun _ s'=>SP X pins D .next s') rfl hs (gQ (S.has I.ok)) S.kind S.names
  (bf (hi pins s σ H _ I h) fun xv s₁ h₁=>bf h₁ fun Oh s₂ h₂=>?_)) (fun _ s' hq=>r_ (r_ hq)) fun _ _ e=>e)
 obtain⟨it,fp,tn,J,H2,e,I2,T,xV,f2,W,h0,turn⟩:=h₂;subst e;refine nB (Q:=fun x H1=>dU i x σ H1 D.nx) (RR:=fun acc C=>compPost (model X.prog X.w) X.A X.xe (some (ab8 (.Name y py) X.env)) (fun _ s'=>SP X pins D .next s') acc C) hc I2 S T xV f2 hb h0 turn ?_;intro Da C oC m H' s' JO hn h1 h2 h3 h4 h5 h6 I' q
 have KS:∀ v,oC.data≠.cell v:=fun v z=>by
  obtain⟨o',es,ep,kX,o0,_⟩:=hn;rw[JO] at kX;cases kX;rw[o0] at z;cases z
 have Ip:Inv X (pins++[(C,oC)]) σ H' s':=I'.iO fun p hp=>by
  rcases U_.mp hp with z | z
  ·exact I'.pin p (O_ _ z)
  ·have e1:p=(C,oC):=by simpa using z
   subst e1;exact⟨JO,h6,h1,h5,KS⟩
 show wpAny _ X.A (ab8 (.Name y py) X.env (.ref Da)) _ _ _;refine wpAny_assign_Name (jR (v:=.ref Da) Ip hN hy hx rfl (fun s2 I3=>?_) hf);have pc:=I3.pin (C,oC) (O_ _ (O_ _ (by simp)));obtain⟨o',es,ep,kX,r'⟩:=hn;rw[JO] at kX;cases kX;refine⟨m,⟨oC,es,ep,pc.1,r'⟩,fun h' BH=>⟨_,H',(Inv.jU I3).turned (t':=s2.toks) (it:=C) (fun b o hb e=>BH.extBut b o hb e) h6 h1 (.inr h2) h3 h4,q⟩⟩
end
end L2
namespace L2
open PySem PySem.Spec PyProof.Rows
section
variable {X:Cx}
theorem yf:bz X (.builtin "isinstance") (fun xs H Q=>∃ x n t b,xs=[x,.ty n]/\jg X.K H x t/\Y6 X.K t (.type n)=some b/\Q (.bl b) H):=by
 intro pins s σ H xs us Q I r h;obtain⟨x,n,t,b,rfl,ty,e,q⟩:=h;obtain⟨u,w',rfl,rx,rc⟩:=vals2 r
 cases (show w'=Yc n from rc)
 exact x5 I rx ty e fun tk=>⟨.bl b,H,I.tok tk,rfl,q⟩
theorem K2 {x:Str}{n:YD}{pos:Pos} (hg:Gl X x) (hm:X.mg x=none) (hv:W8 x=some (.type n)) (hn:x ≠ "__name__" := by decide) (hd:(x==("__debug__" : Str))=false:=by decide):PE X (.Name x pos) (tC (.ty n)) :=
 B2 (v:=.ty n) hg hm hv rfl hn hd
theorem lT {prog:N_}{w:World}{A:WO}{bs:List Bool}{ai:List Value} (r:Vals (bs.map V.bl) ai):TruthOf prog w A (fun i v=>ai.toArray[i]? = some v) (fun i=>bs.getD i false):=by
 intro i v s Q E hv q;have zn:ai[i]? = some v:=by simpa using hv
 have hl:=r.length;rw[a_] at hl;have hi:i<ai.length:=(i_.mp zn).1
 have hb:(bs.map V.bl)[i]? = some (.bl (bs.getD i false)):=by
  rw[h_,A_,c_ (show i<bs.length by lia)];rfl
 obtain⟨u,hu,ru⟩:=Vals.get r hb;rw[zn] at hu
 cases hu
 cases (show v=ZQ _ from ru)
 exact WF q
theorem range_all (bs:List Bool):(Wv bs.length).all (fun i=>bs.getD i false)=bs.all id:=by
 rw[W9,Wm,Wm];constructor
 ·intro h b hb;obtain⟨i,hi,e⟩:=Xv.mp hb;have:=h i (WK.mpr hi);rw[A_,c_ hi,e] at this;exact this
 ·intro h i hi;have zL:=WK.mp hi;rw[A_,c_ zL];exact h _ (Yy zL)
theorem range_any (bs:List Bool):(Wv bs.length).any (fun i=>bs.getD i false)=bs.any id:=by
 rw[W9,XM,XM];constructor
 ·rintro⟨i,hi,e⟩;have zL:=WK.mp hi;rw[A_,c_ zL] at e;exact⟨_,Yy zL,e⟩
 ·rintro⟨b,hb,e⟩;obtain⟨i,hi,e'⟩:=Xv.mp hb;refine⟨i,WK.mpr hi,?_⟩;rw[A_,c_ hi,e'];exact e
theorem zM (hc:X.calm=true):bz X (.builtin "all") (fun xs H Q=>∃ (p:Addr) (bs:List Bool),xs=[.ref p]/\cr X.K H p (bs.map V.bl)/\Q (.bl (bs.all id)) H):=by
 intro pins s σ H xs us Q I r h;obtain⟨p,bs,rfl,hq,q⟩:=h;obtain⟨u,rfl,rx⟩:=vals1 r
 cases (show u=Wo p from rx)
 obtain⟨ai,rv,pl,hz⟩:=I.list hq;have i9:p<s.heap.objs.size:=by obtain⟨_,e,_⟩:=pl.isList;exact z_ e
 have hl:=rv.length;rw[a_] at hl;refine call_all_walk (Yo pl.isList ⟨s.heap.objs.size,_,_,_,_,_,_,rfl,Walks.list (A:=X.A.in1) (show X.A.in1.handled=none from I.ok.hd hc) s.heap.objs.size p (R_ i9) ai.toArray,⟨⟨_,v_ _ rfl,rfl,rfl⟩,pl.isList.push _⟩,lT rv,fun h' tk hk=>?_⟩);rw[B_,←hl,range_all];exact⟨.bl _,H,I.kept fun b o e=>hk b o (by simpa using R_ (z_ e)) (l_ _ e),rfl,q⟩
theorem zN (hc:X.calm=true):bz X (.builtin "any") (fun xs H Q=>∃ (p:Addr) (bs:List Bool),xs=[.ref p]/\cr X.K H p (bs.map V.bl)/\Q (.bl (bs.any id)) H):=by
 intro pins s σ H xs us Q I r h;obtain⟨p,bs,rfl,hq,q⟩:=h;obtain⟨u,rfl,rx⟩:=vals1 r
 cases (show u=Wo p from rx)
 obtain⟨ai,rv,pl,hz⟩:=I.list hq;have i9:p<s.heap.objs.size:=by obtain⟨_,e,_⟩:=pl.isList;exact z_ e
 have hl:=rv.length;rw[a_] at hl;refine call_any_walk (Yo pl.isList ⟨s.heap.objs.size,_,_,_,_,_,_,rfl,Walks.list (A:=X.A.in1) (show X.A.in1.handled=none from I.ok.hd hc) s.heap.objs.size p (R_ i9) ai.toArray,⟨⟨_,v_ _ rfl,rfl,rfl⟩,pl.isList.push _⟩,lT rv,fun h' tk hk=>?_⟩);rw[B_,←hl,range_any];exact⟨.bl _,H,I.kept fun b o e=>hk b o (by simpa using R_ (z_ e)) (l_ _ e),rfl,q⟩
def Qa:V->k_ Int->k_ Int->Hp->VK->Prop:=fun x lo hi H Q=>∃ z,x=.str z/\z.length<=sizeLine/\Q (.str (XN z lo hi)) H
theorem F9:KI X Qa:=by
 intro pins s σ H x v vl vu lo hi sl Q I rx hs pl pu h;obtain⟨z,rfl,hz,q⟩:=h;obtain⟨t,rfl⟩:=rx;refine⟨"str",_,F.slot_str_getitem.lookup,typeIs_str _ _ _,?_⟩;have fin:(XN z lo hi).length<=sizeLine/\∀ t' k,EP X pins σ Q (.str (XN z lo hi) t') { s with toks:=k }:=⟨Q_ (Txt.slice_le z _ _) hz,fun t' k=>⟨.str _,H,I.tok k,⟨t',rfl⟩,q⟩⟩;obtain⟨o,ho,hc,hd⟩:=hs
 cases pl with
 | none =>
  cases pu with
  | none=>exact X7 (l:=none) (u:=none) (st:=none) ⟨o,ho,hc,hd⟩ rfl (ZA fin)
  | int j uj=>exact X7 (l:=none) (u:=some (j,uj)) (st:=none) ⟨o,ho,hc,hd⟩ rfl (ZA fin)
 | int i ui =>
  cases pu with
  | none=>exact X7 (l:=some (i,ui)) (u:=none) (st:=none) ⟨o,ho,hc,hd⟩ rfl (ZA fin)
  | int j uj=>exact X7 (l:=some (i,ui)) (u:=some (j,uj)) (st:=none) ⟨o,ho,hc,hd⟩ rfl (ZA fin)
end
theorem Cu {α:Type}{xs:List α}{i:Int} (h0:0<=i) (h1:i<xs.length):∃ v,v∈xs/\xs[i.toNat]? = some v/\pd xs i=some v:=by
 obtain⟨n,rfl⟩:=WL h0;have hn:n<xs.length:=by lia
 exact⟨xs[n],Yy hn,by simp [hn],aN (c_ hn)⟩
theorem mU {α:Type}{xs:List α}{i m:Int} (h0:0<m) (h1:m<=xs.length):∃ v,v∈xs/\xs[(i % m).toNat]? = some v/\pd xs (i % m)=some v :=
 Cu (XA _ (by lia)) (by have:=Yf i h0;lia)
end L2
namespace L2
open PySem PySem.Spec PyProof.Rows
mutual
inductive bQ (K:e_) (H:Hp):V->H_->Prop
 | aJ:bQ K H .aJ .none
 | bl (b:Bool):bQ K H (.bl b) (.bool b)
 | int (i:Int):bQ K H (.int i) (.int i)
 | str (x:Str):bQ K H (.str x) (.str x)
 | lst {a:Addr}{xs:List V}{ds:List H_}:cr K H a xs->dC K H xs ds->bQ K H (.ref a) (.list ds)
 | tup {a:Addr}{xs:List V}{ds:List H_}:eD K H a xs->dC K H xs ds->bQ K H (.ref a) (.tuple ds)
inductive dC (K:e_) (H:Hp):List V->List H_->Prop
 | nil:dC K H [] []
 | cons {x:V}{d:H_}{xs:List V}{ds:List H_}:bQ K H x d->dC K H xs ds->dC K H (x::xs) (d::ds)
end
theorem bQ.reads {X:Cx}{pins:List (Addr×Obj)}{σ:St}{H:Hp}{s:j_} (I:Inv X pins σ H s) {v:V}{d:H_} (h:bQ X.K H v d):∀ u,RelV v u->∃ as,Reads s.heap u d as :=
 bQ.rec (motive_1:=fun v d _=>∀ u,RelV v u->∃ as,Reads s.heap u d as) (motive_2:=fun xs ds _=>∀ us,Vals xs us->∃ as,YG s.heap us ds as)
  (fun u r=>by cases (show u=Yb from r);exact⟨_,.none⟩)
  (fun b u r=>by cases (show u=ZQ b from r);exact⟨_,.bool b⟩)
  (fun i u r=>by obtain⟨t,rfl⟩:=(show ∃ t,u=Zk i t from r);exact⟨_,.int i t⟩)
  (fun x u r=>by obtain⟨t,rfl⟩:=(show ∃ t,u=aae x t from r);exact⟨_,.str x t⟩)
  (fun {a xs ds} hq _ ih u r=>by
   cases (show u=Wo a from r)
   obtain⟨ai,rv,pl,_⟩:=I.list hq;obtain⟨o,ho,hc,n,hd⟩:=pl.isList;obtain⟨as,ra⟩:=ih ai rv;exact⟨_,.list ho hc hd (by simpa using ra)⟩)
  (fun {a xs ds} hq _ ih u r=>by
   cases (show u=Wo a from r)
   obtain⟨ai,rv,pl,_⟩:=I.tuple hq;obtain⟨o,ho,hc,n,hd⟩:=pl;obtain⟨as,ra⟩:=ih ai rv;exact⟨_,.tuple ho hc hd (by simpa using ra)⟩)
  (fun us r=>by cases r;exact⟨_,.nil⟩)
  (fun {x d xs ds} _ _ K3 Ow us r=>by
   cases r with
   | cons r1 r2 =>
    obtain⟨as,ra⟩:=K3 _ r1;obtain⟨bs,rb⟩:=Ow _ r2;exact⟨_,.cons ra rb⟩) h
theorem cr.same {K:e_}{H H':Hp}{a:Addr}{xs:List V} (e:ah H H') (h:cr K H a xs):cr K H' a xs:=e.seq h
theorem eD.same {K:e_}{H H':Hp}{a:Addr}{xs:List V} (e:ah H H') (h:eD K H a xs):eD K H' a xs:=by
 rcases h with (h | ⟨o,h⟩) | h
 ·exact .inl (.inl (e _ _ h))
 ·exact .inl (.inr ⟨o,e _ _ h⟩)
 ·exact .inr h
theorem bQ.same {K:e_}{H H':Hp} (e:ah H H') {v:V}{d:H_} (h:bQ K H v d):bQ K H' v d :=
 bQ.rec (motive_1:=fun v d _=>bQ K H' v d) (motive_2:=fun xs ds _=>dC K H' xs ds) .aJ .bl .int .str (fun q _ ih=>.lst (q.same e) ih) (fun q _ ih=>.tup (q.same e) ih) .nil (fun _ _ a b=>.cons a b) h
section
variable {X:Cx}
def Cv (K:e_) (neg:Bool):R2:=fun x y H Q=>∃ d e,bQ K H x d/\bQ K H y e/\J_ d=true/\J_ e=true/\Q (.bl (if neg then !PyData.eqv d e else P_ d e)) H
theorem Ga (hu:X.A.units+64<cLine):eV X (Wx .Eq) (Cv X.K false):=by
 intro pins s σ H x y v u Q I rx ry h;obtain⟨d,e,hd,he,s1,s2,q⟩:=h;obtain⟨as,ra⟩:=hd.reads I v rx;obtain⟨bs,rb⟩:=he.reads I u ry;exact eq_dataH ra rb s1 s2 hu ⟨.bl _,H,I,rfl,q⟩
theorem Gb (hu:X.A.units+64<cLine):eV X (Wx .NotEq) (Cv X.K true):=by
 intro pins s σ H x y v u Q I rx ry h;obtain⟨d,e,hd,he,s1,s2,q⟩:=h;obtain⟨as,ra⟩:=hd.reads I v rx;obtain⟨bs,rb⟩:=he.reads I u ry;exact ne_dataH ra rb s1 s2 hu ⟨.bl _,H,I,rfl,q⟩
end
end L2
namespace L2
open PySem PySem.Spec PyProof.Rows
def Qb (φ:k_ Value->Prop) (e:Addr) (h:Heap):Prop:=∃ o fs,h.get? e=some o/\o.data=.fields fs/\φ fs[2]?
end L2
namespace L2
open PySem PySem.Spec PyProof.Rows
noncomputable abbrev Gd:=Hp->k_ Value->Prop
structure T6 (φ:Gd) (P:N_) (w:World) (outer:List Env) (H H':Hp) (s:j_) (ea:Addr) (cls:Value) (s':j_):Prop where
 os:s'.os=s.os
 bare:ZL s'.gens
 cx:Qb (φ H') ea s'.heap
 un:Un (sP outer) [] H H' s.heap s'.heap
 V3:∃ B a0,Heap.FlyingW B outer ea cls a0 s'.heap/\iX P w H' B/\(∀ b o,s.heap.get? b=some o->H b=none->b∉sP outer->B.get? b=some o)/\(∀ b o,s.heap.get? b=some o->b∉sP outer->∃ o',B.get? b=some o')
def T7 (φ:Gd) (P:N_) (w:World):vt:=fun outer H s E e s'=>∃ ea cls H',e=.ref ea/\T6 φ P w outer H H' s ea cls s'/\E cls none H'
end L2
namespace L2
open PySem PySem.Spec PyProof.Rows
def XP (φ:Gd) (X:Cx) (pins:List (Addr×Obj)) (σ:St) (E:XK) (ev:Value) (s':j_):Prop:=∃ H s0,Inv X pins σ H s0/\T7 φ X.prog X.w X.stack H s0 E ev s'
noncomputable abbrev TX:=St->Hp->VK->XK->Prop
end L2
namespace L2
open PySem PySem.Spec PyProof.Rows
structure Ge (K:e_) (B:Addr) (m:Str) (f:Addr):Prop where
 sp:Z4 K (.ref B) "__getattribute__" = some (some (.builtin "type.__getattribute__"))
 rd:acq K B (.type "type")=true
 fd:acr K (.ref B) (.type "type") m=some (.val (.ref f))
 kp:WH K (.ref f)=true
section
variable {X:Cx}{CX:vt}{k:Nat}{f B:Addr}{fd:W4}{ps:List Str}{sp:Sp}{dvs:List V}{ds:List Value}{E:XK}{x m:Str}{p pos apos:Pos}{e:Expr}{es:List Expr}{t:TA}
theorem Cw {pl:Sem Bool} (hg:Gl X x) (FZ:X.mg x=some (.ref B)) (c:Ge X.K B m f) (F:bO X.prog X.w X.K X.mg X.base CX k f fd ps sp) (hr:b0 k X.A) (hb:Binds X.K fd ps ds) (hd:Vals dvs ds) (hx:Passes CX X E) (ha:PA X (e::es) t)
  (k9:(x==("__debug__" : Str))=false:=by decide) (Pf:T_ (e::es) X.env=(false,eval e X.env)::T_ es X.env:=by rfl) (D0:(XO pos (T_ es X.env)).any (·.1)=false:=by rfl)
  (ht:eval (.Call (.Attribute (.Name x p) m apos) (e::es) [] pos) X.env=(do
   let ov ←eval (.Name x p) X.env
   abg apos.atName
   let (f,first) ←aas [ov] (aca ov m pl)
   callWith pos f first (XO pos (T_ (e::es) X.env)) (ZW pos (Yt [] X.env))):=by rfl) :
  PE X (.Call (.Attribute (.Name x p) m apos) (e::es) [] pos) (DZ sp dvs E t):=by
 intro pins s σ H Q I h;refine Zh (pl:=pl) (mN I hg FZ ?_ k9) ht;refine PySem.W.method_cls I.kU c.sp (PySem.W.cls_value I.kU c.rd c.fd rfl ?_);have I':=I.tok (s.toks+1);refine YO (first:=[]) (h₀:=X.base) I.ok.mod.JI c.kp (bf (ha pos pins { s with toks:=s.toks+1 } σ H _ I' h) fun us s2 ⟨vs,H2,I2,r,q2⟩=>⟨I2.kU,?_⟩) Pf D0;exact rp F hr hb hd hx I2 r q2
end
end L2
namespace L2
open PySem PySem.Spec PyProof.Rows
section
variable {X:Cx}
theorem bz.imp {f:Value}{r r':List V->Hp->VK->Prop} (h:bz X f r) (hi:∀ xs H Q,r' xs H Q->r xs H Q):bz X f r':=fun pins s σ H xs us Q I rs q=>h pins s σ H xs us Q I rs (hi _ _ _ q)
def K4 (K:e_):List V->Hp->VK->Prop:=fun xs H Q=>∃ p ys,xs=[.ref p]/\cr K H p ys/\∀ l,H l=none->Q (.ref l) (upd H l (.tup ys))
theorem yg:bz X (.type "tuple") (K4 X.K):=ph.imp fun _ _ _ ⟨p,ys,e,h,q⟩=>⟨p,ys,e,.inl ⟨h,q⟩⟩
end
theorem ah.upd {H H':Hp}{l:Addr}{o:HO} (s:ah H H') (h:H' l=none):ah H (upd H' l o):=fun b u e=>by
 have e':=s b u e;rw[aw (aD e' h)];exact e'
theorem ah.put {H:Hp}{l:Addr}{o:HO} (h:H l=none):ah H (L2.upd H l o):=(ah.refl H).upd h
end L2
namespace SH
open PySem L2
noncomputable abbrev zO:Str := "abcdefghijklmnopqrstuvwxyz"
noncomputable def vG (c:Nat):Bool := !(Xb zO ⟨#[c]⟩ 0 zO.length 1).isEmpty
noncomputable def ay (x:Str):Bool:=decide (1<=x.length)&&decide (x.length<=8)&&x.cps.toList.all vG
theorem dq {z:Str}{i m:Int} (h0:0<m) (h1:m<=z.length):∃ c,c∈z.cps.toList/\pd z.cps.toList (i % m)=some c:=by
 obtain⟨v,hm,_,e⟩:=mU (xs:=z.cps.toList) (i:=i) h0 (by simpa [abz] using h1);exact⟨v,hm,e⟩
theorem iR (c:Nat):(⟨#[c]⟩:Str).length=1:=rfl
theorem app_list (a y:Str):(a++y).cps.toList=a.cps.toList++y.cps.toList:=by
 rw[PySem.Str.cps_append,Array.toList_append]
theorem tF {c:Nat}:vG c=true↔c∈zO.cps.toList:=by
 unfold vG;rw[PySem.StrLaws.found_one,Yq]
theorem Cy {c:Nat} (h:vG c=true):c<0x110000:=by
 have h1:∀ d∈zO.cps.toList,d<0x110000:=by decide +kernel
 exact h1 c (tF.mp h)
theorem tG {z:Str} (h:ay z=true):1<=z.length/\z.length<=8/\∀ c∈z.cps.toList,vG c=true:=by
 unfold ay at h;simp only[q_,Yq,Wm] at h;exact⟨h.1.1,h.1.2,h.2⟩
theorem fP {z:Str} (h:ay z=true):abW z=true:=by
 unfold abW;rw[←Array.all_toList,Wm];intro c hc;exact f_ (Cy ((tG h).2.2 c hc))
theorem Cz {z:Str} (h1:1<=z.length) (h2:z.length<=8) (h3:∀ c∈z.cps.toList,vG c=true):ay z=true:=by
 unfold ay;simp only[q_,Yq,Wm];exact⟨⟨h1,h2⟩,h3⟩
end SH
namespace SH
open PySem L2
noncomputable abbrev Nd:=Str×Int
noncomputable def wW (n:Nd):Int:=min (n.2+1) 12
def aQ:Int->List Nd->Prop
 | _,[]=>True
 | d,n::r=>ay n.1=true/\0<=n.2/\n.2<=d/\aQ (wW n) r
noncomputable def aM:Int->List Nd->Int
 | d,[]=>d
 | _,n::r=>aM (wW n) r
theorem aV:∀ {d:Int}{a b:List Nd},aQ d (a++b)↔aQ d a/\aQ (aM d a) b
 | d,[],b=>by simp [aQ,aM]
 | d,n::r,b=>by
  have ih:=aV (d:=wW n) (a:=r) (b:=b);simp only[aal,aQ,aM,ih];constructor
  ·rintro⟨h1,h2,h3,h4,h5⟩;exact⟨⟨h1,h2,h3,h4⟩,h5⟩
  ·rintro⟨⟨h1,h2,h3,h4⟩,h5⟩;exact⟨h1,h2,h3,h4,h5⟩
theorem bg:∀ {d:Int}{a b:List Nd},aM d (a++b)=aM (aM d a) b
 | _,[],_=>rfl
 | _,n::r,b=>bg (d:=wW n) (a:=r) (b:=b)
theorem g9 {d:Int}{ns:List Nd}:aQ d ns->∀ n∈ns,ay n.1=true/\0<=n.2:=by
 induction ns generalizing d with
 | nil=>intro _ n h;exact nomatch h
 | cons m r ih =>
  rintro⟨h1,h2,_,h4⟩ n hn;rcases t_.mp hn with e | e
  ·rw[e];exact⟨h1,h2⟩
  ·exact ih h4 n e
noncomputable def iY (ns:List Nd):List H_:=ns.map fun n=>.tuple [.str n.1,.int n.2]
theorem dF:∀ {ns:List Nd},(∀ n∈ns,abW n.1=true)->M_ (iY ns)=true
 | [],_=>rfl
 | n::r,h=>by
  have h1:=h n S_;have h2:=dF (ns:=r) fun y hy=>h y (E_ _ hy)
  unfold iY at h2 ⊢;simp only[o_,M_,WY,h1,h2,abq]
theorem eM:∀ ns:List Nd,Wn (iY ns)<=1
 | []=>Xn _
 | n::r=>by
  have h2:=eM r;unfold iY at h2 ⊢;simp only[o_,Wn,Xh]
  lia
end SH
namespace L2
open PySem PySem.Spec PyProof.Rows
noncomputable def Gf (lo st:Int) (n:Nat):It:=⟨fun i _=>i<n,fun i H x H'=>H'=H/\x=.int (lo+i*st),fun i _=>n<=i⟩
theorem tH {P:N_}{w:World}{K:e_}{tg:Expr} (it:Addr) (lo c:Int) (n:Nat):Turn P w K tg (Gf lo c n) [it] it (fun i h=>aaZ h it (lo+(i:Nat)*c) ((n:Int)-(i:Nat)) c) where
 mem:=by simp
 obj:=fun i h st b hb=>by
  have e:b=it:=by simpa using hb
  subst e
  exact⟨_,st,fun v z=>by
   have z':aa0 _=aai v:=z
   cases z'⟩
 keep:=fun i h h' st k=>k it (by simp) _ st
 item:=by
  intro X hP hw hK hc i pins s σ H E I hf st hg;subst hP hw hK;obtain⟨f0,f1,f2,f3,f4,f5⟩:=hf it (by simp);have W:=Walks.range (prog:=X.prog) (w:=X.w) (I.ok.hd hc) it lo c n;refine W.item i s _ _ hg st fun v h' tk hv rn kk=>?_
  obtain⟨t,rfl⟩:=hv;have I1:Inv X pins σ H { s with heap:=h',toks:=tk }:=I.turned (fun b o hb e=>kk b o (by simpa using hb) e) f0 f1 f3 f4 f5;exact⟨_,rfl,sX (s:={ s with heap:=h',toks:=tk }) (n := "range_iterator") rn rfl rfl (by decide) ⟨.int (lo+i*c),H,I1,⟨t,rfl⟩,⟨rfl,rfl⟩,rn,fun b hb=>(hf b hb).1⟩⟩
 done:=by
  intro X hP hw hK hc i pins s σ H E I hf st hg;subst hP hw hK;obtain⟨f0,f1,f2,f3,f4,f5⟩:=hf it (by simp);exact aav (I.ok.hd hc) st (by have:n<=i:=hg;lia) fun h' eb=>⟨rfl,I.turned (t':=s.toks) (fun b o hb e=>eb b o hb e) f0 f1 f3 f4 f5⟩
 self:=fun _ _ _ _ _ st h=>Y3 st h
end L2
namespace SH
open PySem L2
noncomputable def fQ:V->H_
 | .str z=>.str z
 | _=>.none
theorem j3 {ls:List (List V)} (h:∀ l∈ls,l.length<=12):ls.flatten.length<=12*ls.length:=by
 induction ls with
 | nil=>exact w_ _
 | cons l r ih =>
  have h1:=h l S_;have h2:=ih fun y hy=>h y (E_ _ hy)
  rw[Y9,F_,G_]
  lia
end SH
namespace SH
open PySem L2
def placesOk:Int->Int->List Int->Prop
 | _,_,[]=>True
 | lo,m,p::r=>lo<=p/\p<m/\placesOk (p+1) m r
noncomputable def b5:Int->List Int->Int
 | lo,[]=>lo
 | _,p::r=>b5 (p+1) r
theorem gR:∀ {lo m:Int}{a b:List Int},placesOk lo m (a++b)↔placesOk lo m a/\placesOk (b5 lo a) m b
 | lo,m,[],b=>by simp [placesOk,b5]
 | lo,m,p::r,b=>by
  have ih:=gR (lo:=p+1) (m:=m) (a:=r) (b:=b);simp only[aal,placesOk,b5,ih];constructor
  ·rintro⟨h1,h2,h3,h4⟩;exact⟨⟨h1,h2,h3⟩,h4⟩
  ·rintro⟨⟨h1,h2,h3⟩,h4⟩;exact⟨h1,h2,h3,h4⟩
theorem gS:∀ {lo:Int}{a b:List Int},b5 lo (a++b)=b5 (b5 lo a) b
 | _,[],_=>rfl
 | _,p::r,b=>gS (lo:=p+1) (a:=r) (b:=b)
theorem aO:∀ {lo m:Int}{ps:List Int},placesOk lo m ps->∀ p∈ps,lo<=p/\p<m
 | _,_,[],_,_,hp=>nomatch hp
 | lo,m,q::r,h,p,hp=>by
  rcases t_.mp hp with e | e
  ·rw[e];exact⟨h.1,h.2.1⟩
  ·have:=aO h.2.2 p e;have:=h.1
   lia
theorem places_len:∀ {lo m:Int}{ps:List Int},placesOk lo m ps->lo<=m->(ps.length:Int)<=m-lo
 | _,_,[],_,h=>by simp;lia
 | lo,m,p::r,k,h=>by
  have ih:=places_len k.2.2 (by have:=k.2.1;lia);have:=k.1;rw[G_]
  lia
noncomputable def cw (n:Nat) (ps:List Int):List Int:=(ps.filter fun i=>decide ((n:Int)<=i)).map fun i=>i-n
noncomputable def linesOf (n:Nat) (ps:List Int):List Int:=ps.filter fun i=>decide (i<(n:Int))
theorem eO {n:Nat}:∀ {lo m:Int}{ps:List Int},placesOk lo m ps->((linesOf n ps).length:Int)<=max ((n:Int)-lo) 0
 | lo,m,[],_=>by simp [linesOf];lia
 | lo,m,p::r,k=>by
  have ih:=eO (n:=n) k.2.2;have h1:=k.1;unfold linesOf at ih ⊢;by_cases h:p<(n:Int)
  ·rw[aam (by simpa using h),G_];lia
  ·rw[aan (by simpa using h)];lia
theorem fR {n:Nat}:∀ {lo m:Int}{ps:List Int},placesOk lo m ps->((cw n ps).length:Int)<=max (m-max (n:Int) lo) 0
 | lo,m,[],_=>by simp [cw];lia
 | lo,m,p::r,k=>by
  have ih:=fR (n:=n) k.2.2;have h1:=k.1;have h2:=k.2.1;unfold cw at ih ⊢;rw[a_] at ih ⊢;by_cases h:(n:Int)<=p
  ·rw[aam (by simpa using h),G_];lia
  ·rw[aan (by simpa using h)];lia
theorem hG {n:Nat}{m:Int}{ps:List Int} (k:placesOk 0 m ps):∀ i∈linesOf n ps,0<=i/\i<(n:Int):=fun i hi=>by
 obtain⟨h1,h2⟩:=XW.mp hi;exact⟨(aO k i h1).1,by simpa using h2⟩
theorem ji {n w:Nat}{ps:List Int} (k:placesOk 0 ((n:Int)+(w:Int)) ps):∀ i∈cw n ps,0<=i/\i<(w:Int):=fun i hi=>by
 obtain⟨j,hj,rfl⟩:=x_.mp hi;obtain⟨h1,h2⟩:=XW.mp hj;have h3:(n:Int)<=j:=by simpa using h2
 have:=(aO k j h1).2
 lia
theorem lU:∀ (ps:List Int),M_ (ps.map acL)=true
 | []=>rfl
 | p::r=>by
  have ih:=lU r;simp only[o_,M_,WY,ih,abq]
theorem nC:∀ (ps:List Int),Wn (ps.map acL)<=0
 | []=>w_ _
 | p::r=>by
  have ih:=nC r;simp only[o_,Wn,Xh]
  lia
end SH
namespace L2
open PySem PySem.Spec PyProof.Rows
section
variable {κ:Type} [DecidableEq κ]
noncomputable def dG (am:List (κ×V)) (k:κ):k_ V:=(am.find? fun kv=>decide (kv.1=k)).map (·.2)
noncomputable def putK (am:List (κ×V)) (k:κ) (v:V):List (κ×V) :=
 if (am.any fun kv=>decide (kv.1=k))=true then am.map (fun kv=>if kv.1=k then (kv.1,v) else kv) else am++[(k,v)]
theorem bU {p:κ×V}{r:List (κ×V)}{k:κ} (e:p.1=k):dG (p::r) k=some p.2:=by simp [dG,XB,e]
theorem bV {p:κ×V}{r:List (κ×V)}{k:κ} (e:¬ p.1=k):dG (p::r) k=dG r k:=by simp [dG,XB,e]
theorem nD (k:κ):∀ am:List (κ×V),(am.any fun kv=>decide (kv.1=k))=(dG am k).isSome
 | []=>rfl
 | p::r=>by
  rw[Ym];by_cases e:p.1=k
  ·simp only[bU e,f_ e,Bool.true_or,abC]
  ·rw[bV e,g_ e,abr];exact nD k r
theorem tI (k j:κ) (y:V):∀ am:List (κ×V),dG (am.map fun kv=>if kv.1=k then (kv.1,y) else kv) j=(dG am j).map fun x=>if j=k then y else x
 | []=>rfl
 | p::r=>by
  have ih:=tI k j y r;rw[o_];by_cases h:p.1=k
  ·rw[u_ h];by_cases e:p.1=j
   ·rw[bU (p:=(p.1,y)) e,bU e,YL,u_ (e.symm.trans h)]
   ·rw[bV (p:=(p.1,y)) e,bV e,ih]
  ·rw[p_ h];by_cases e:p.1=j
   ·rw[bU (p:=p) e,bU e,YL,p_ (fun z=>h (e.trans z))]
   ·rw[bV (p:=p) e,bV e,ih]
theorem qA (k j:κ) (y:V):∀ am:List (κ×V),dG am k=none->dG (am++[(k,y)]) j=if j=k then some y else dG am j
 | [],_=>by
  by_cases e:k=j
  ·rw[u_ e.symm];exact bU (p:=(k,y)) e
  ·rw[p_ (fun z=>e z.symm)];exact bV (p:=(k,y)) e
 | p::r,hn=>by
  rw[aal];have hk:¬ p.1=k:=fun z=>by rw[bU z] at hn;cases hn
  rw[bV hk] at hn;have ih:=qA k j y r hn;by_cases e:p.1=j
  ·rw[bU e,bU e,p_ (fun z=>hk (e.trans z))]
  ·rw[bV e,bV e,ih]
theorem zP (am:List (κ×V)) (k j:κ) (y:V):dG (putK am k y) j=if j=k then some y else dG am j:=by
 unfold putK;by_cases a:(am.any fun kv=>decide (kv.1=k))=true
 ·rw[u_ a,tI];rw[nD] at a;by_cases e:j=k
  ·obtain⟨x,hx⟩:=Z9.mp a;rw[u_ e,e,hx,YL,u_ rfl]
  ·rw[p_ e]
   cases dG am j with
   | none=>rfl
   | some x=>rw[YL,p_ e]
 ·rw[p_ a];refine qA k j y am ?_;rw[nD] at a
  cases q:dG am k with
  | none=>rfl
  | some x=>rw[q] at a;exact (a rfl).elim
theorem tJ (am:List (κ×V)) (k:κ) (v:V):(putK am k v).length<=am.length+1:=by
 unfold putK;split
 ·rw[a_];lia
 ·rw[F_,G_,aaK];lia
theorem jP.qB {o:k_ V}{u:k_ Value} (r:jP o u):o.isSome=u.isSome:=by
 cases o with
 | none=>cases u with
  | none=>rfl
  | some _=>exact (show False from r).elim
 | some _=>cases u with
  | none=>exact (show False from r).elim
  | some _=>rfl
theorem KV.val {am:List (κ×V)}{vs:List (κ×Value)} (r:KV am vs) (k:κ):jP (dG am k) (abX vs k):=by
 unfold KV at r
 induction r with
 | nil=>exact WV
 | @cons p q ps qs h t ih =>
  obtain⟨h1,h2⟩:=h;by_cases e:p.1=k
  ·have e':q.1=k:=h1.symm.trans e;have b:abX (q::qs) k=some q.2:=by simp [abX,XB,e']
   rw[bU e,b];exact h2
  ·have e':¬ q.1=k:=fun z=>e (h1.trans z)
   have b:abX (q::qs) k=abX qs k:=by simp [abX,XB,e']
   rw[bV e,b];exact ih
theorem KV.any {am:List (κ×V)}{vs:List (κ×Value)} (r:KV am vs) (k:κ):(am.any fun kv=>decide (kv.1=k))=vs.any fun kv=>decide (kv.1=k):=by
 unfold KV at r
 induction r with
 | nil=>rfl
 | cons h t ih=>rw[Ym,Ym,ih,h.1]
theorem KV.Qc {am:List (κ×V)}{vs:List (κ×Value)} (r:KV am vs) (k:κ) {y:V}{u:Value} (ry:RelV y u) :
  KV (am.map fun kv=>if kv.1=k then (kv.1,y) else kv) (vs.map fun kv=>if kv.1=k then (kv.1,u) else kv):=by
 unfold KV at r ⊢
 induction r with
 | nil=>exact .nil
 | @cons p q ps qs h t ih =>
  rw[o_,o_];refine .cons ?_ ih;obtain⟨h1,h2⟩:=h;by_cases e:p.1=k
  ·rw[u_ e,u_ (h1.symm.trans e)];exact⟨h1,ry⟩
  ·rw[p_ e,p_ (fun z=>e (h1.trans z))];exact⟨h1,h2⟩
theorem KV.put {am:List (κ×V)}{vs:List (κ×Value)} (r:KV am vs) (k:κ) {y:V}{u:Value} (ry:RelV y u):KV (putK am k y) (stored vs k u):=by
 unfold putK stored;rw[r.any k];by_cases e:(vs.any fun kv=>decide (kv.1=k))=true
 ·rw[u_ e,u_ e];exact r.Qc k ry
 ·rw[p_ e,p_ e];exact Paired.snoc r ⟨rfl,ry⟩
theorem KV.length {am:List (κ×V)}{vs:List (κ×Value)} (r:KV am vs):am.length=vs.length:=Z8 r
end
theorem zQ {P:N_}{w:World}{k:Key}{u:Value} (r:RelV (kV k) u):(aW P w).is k u=true:=by
 cases k with
 | inl i=>obtain⟨t,e⟩:=(show ∃ t,u=Zk i t from r);subst e;exact sS P w i t
 | inr x=>obtain⟨t,e⟩:=(show ∃ t,u=aae x t from r);subst e;exact sT P w x t
theorem qC {P:N_}{w:World}:∀ {ks:List Key}{us:List Value},Vals (ks.map kV) us->ItemsAre (aW P w) ks us
 | [],_,r=>by rw[Xg] at r;cases r;exact .nil
 | k::ks,_,r=>by
  rw[o_] at r
  cases r with
  | cons h t=>exact .cons (zQ h) (qC t)
abbrev KT (H:Hp):List (List Key×V)->List (List Key×Addr×Value)->Prop:=aaq fun p q=>p.1=q.1/\H q.2.1=some (.tup (p.1.map kV))/\RelV p.2 q.2.2
theorem KT.val {H:Hp}{am:List (List Key×V)}{xs:List (List Key×Addr×Value)} (r:KT H am xs) (k:List Key):jP (dG am k) ((atKey xs k).map (·.2)):=by
 induction r with
 | nil=>exact WV
 | @cons p q ps qs h t ih =>
  obtain⟨h1,_,h2⟩:=h;by_cases e:p.1=k
  ·have e':q.1=k:=h1.symm.trans e;have b:atKey (q::qs) k=some q.2:=by simp [atKey,XB,e']
   rw[bU e,b];exact h2
  ·have e':¬ q.1=k:=fun z=>e (h1.trans z)
   have b:atKey (q::qs) k=atKey qs k:=by simp [atKey,XB,e']
   rw[bV e,b];exact ih
section
variable {P:N_}{w:World}{H:Hp}{h:Heap}{a:Addr}
theorem D4 {u:HO} (ok:iX P w H h) (e:Rd H a u):aS P w H h a u:=e.ok ok
theorem K5 {am:List (Key×V)} (ok:iX P w H h) (e:Rd H a (.dK am)):am.length<=sizeLine/\(a==Yd)=false/\∃ vs,KV am vs/\h.DictOf (aW P w) a vs :=
 show aS P w H h a (.dK am) from D4 ok e
theorem zR {ks:List Key} (ok:iX P w H h) (e:H a=some (.tup (ks.map kV))):(ab7 (aW P w)).is h ks a:=by
 obtain⟨_,ai,r,o,h1,h2,n,h3⟩:=(show aS P w H h a (.tup (ks.map kV)) from ok a _ e);exact⟨o,ai.toArray,n,h1,h2,h3,by simpa using qC r⟩
theorem K6 {am:List (List Key×V)} (ok:iX P w H h) (e:Rd H a (.dT am)):am.length<=sizeLine/\(a==Yd)=false /\
  ∃ xs,KT H am xs/\h.DictOfH (ab7 (aW P w)) a xs:=by
 obtain⟨z,y,xs,r,o,es,ep,h1,h2,h3,h4,h5⟩:=(show aS P w H h a (.dT am) from D4 ok e);refine⟨z,y,xs,r,o,es,ep,h1,h2,h3,h4,fun x hx=>?_,h5⟩
 have all:∀ {l:List (List Key×V)}{m:List (List Key×Addr×Value)},KT H l m->∀ x∈m,(ab7 (aW P w)).is h x.1 x.2.1:=by
  intro l m q
  induction q with
  | nil=>intro x hx;exact nomatch hx
  | @cons p q ps qs hq t ih =>
   intro x hx;rcases t_.mp hx with e | hx
   ·subst e;exact zR ok (by rw[←hq.1];exact hq.2.1)
   ·exact ih x hx
 exact all r x hx
end
def zS (H:Hp) (a:Addr) (y:V) (r:k_ V):Prop :=
 (∃ am k,Rd H a (.dK am)/\y=kV k/\r=dG am k)∨∃ am k b,Rd H a (.dT am)/\y=.ref b/\H b=some (.tup (k.map kV))/\r=dG am k
theorem zS.k {H:Hp}{a:Addr}{am:List (Key×V)}{k:Key} (e:H a=some (.dK am)):zS H a (kV k) (dG am k):=.inl ⟨am,k,.inl e,rfl,rfl⟩
section
variable {X:Cx}{pins:List (Addr×Obj)}{σ:St}{H:Hp}{s:j_}{a:Addr}{y v:V}{u r:Value}{o:k_ V}{A:WO}{E:Value->j_->Prop}
theorem Inv.big (I:Inv X pins σ H s):Yd<s.heap.objs.size:=by
 have h:mainGlobals<s.heap.objs.size:=(I.mod.glob.keeps I.bk).lt;exact abV (by decide) h
theorem Qd {Q:Value->j_->Prop} (hu:A.units+1<cLine) (I:Inv X pins σ H s) (g:zS H a y o) (ry:RelV y u) (h:∀ s',Inv X pins σ H s'->Q (.bool o.isSome) s') :
  wpAny (model X.prog X.w) A (Wx .In u (.ref a)) Q E s:=by
 rcases g with ⟨am,k,e,ey,l⟩ | ⟨am,k,b,e,ey,eb,l⟩
 ·subst ey;obtain⟨z,hd,vs,rel,dd⟩:=K5 I.be e;refine wpAny_in_of (zQ ry) hd dd.mapOf ?_;rw[←(rel.val k).qB,←l];exact h _ (I.tok _)
 ·subst ey
  cases (show u=Wo b from ry)
  obtain⟨z,hd,xs,rel,dd⟩:=K6 I.be e;refine wpAny_in_heap (tupleKind_room_in1 hu) (zR I.be eb) hd dd ?_;have q:=(rel.val k).qB;rw[Option.isSome_map] at q;rw[←q,←l];exact h _ (I.tok _)
theorem CA {h':Heap}{t':Nat}{ob:HO} (I:Inv X pins σ H s) (mu:J7 (H a)) (hs:Ye a s.heap h') (he:∃ q,h'.get? a=some q) (new:aS X.prog X.w (upd H a ob) h' a ob) :
  Inv X pins σ (upd H a ob) { s with heap:=h',toks:=t' } :=
 I.write (x:=a) (e:=a) mu (.inl rfl) (fun b q hb z=>(hs.2 b hb).trans z) he new
theorem Gg {P:N_}{w:World}{H':Hp}{h':Heap}{am:List (Key×V)}{vs:List (Key×Value)} (z:am.length<=sizeLine) (hd:(a==Yd)=false) (rel:KV am vs) (dd:h'.DictOf (aW P w) a vs) :
  aS P w H' h' a (.dK am):=⟨z,hd,vs,rel,dd⟩
end
def Gh (i:Expr):Prop:=∀ ov iv,aa3 i false ov iv=operate [ov,iv] (Z6 ov iv)
theorem CB {prog:N_}{w:World}{A:WO}{E:Value->j_->Prop}{s:j_}{env:Env}{value slice:Expr}{pos:Pos}{T id:YD}{Q:Value->j_->Prop}
  (hl:typeLookup (.type T) "__getitem__" = pure (some (.builtin id))) (hs:Gh slice)
  (h:wpAny (model prog w) A (eval value env) (fun o s₁=>wpAny (model prog w) A (eval slice env) (fun i s₂=>s₂.TypeIs o T/\wpAny (model prog w) A (Z6 o i) Q E s₂) E s₁) E s) :
  wpAny (model prog w) A (eval (.Subscript value slice pos) env) Q E s:=by
 refine Subscript_ (Xz h (fun o s₁ h₁=>Xz h₁ (fun i s₂ h₂=>?_) fun _ _ x=>x) fun _ _ x=>x);obtain⟨hT,h₂⟩:=h₂;unfold abp;refine d_ ?_;rw[getitemInPython_of_ne hT.not_modules];refine d_ (YM hT hl ?_)
 have fin:wpAny (model prog w) A (aa3 slice false o i) (fun r s₃=>wpAny (model prog w) A (letTemporaryGo value o r >>= fun _=>pure r) Q E s₃) E s₂:=by
  rw[hs o i];exact wpAny_operating (Xz h₂ (fun r s₃ h₃=>d_ (wpAny_letTemporaryGo (r_ h₃))) fun _ _ x=>x)
 first
  | exact r_ (d_ fin)
  | exact d_ (r_ (d_ fin))
  | exact d_ fin
def K7 (ty td:TE):TE:=fun σ H Q=>ty σ H fun y H1=>td σ H1 fun x H2=>∃ a o,x=.ref a/\zS H2 a y o/\Q (.bl o.isSome) H2
section
variable {X:Cx}{o i e value:Expr}{pos pos' Kx:Pos}{td ty tv:TE}
theorem zT (hu:X.A.units+1<cLine) (hi:PE X i ty) (ho:PE X o td):PC X .In i o (K7 ty td):=by
 intro pins s σ H Q I h;refine bf (hi pins s σ H _ I h) fun iv s1 ⟨y,H1,I1,ry,q1⟩=>bf (ho pins s1 σ H1 _ I1 q1) fun u s2 ⟨x,H2,I2,rx,a,ov,ex,g,q2⟩=>?_
 subst ex;obtain rfl:u=Wo a:=rx;exact Qd hu I2 g ry fun s3 I3=>⟨.bl ov.isSome,H2,I3,rfl,q2⟩
end
structure M1 (X:Cx) (o:Expr) (m:Str) (apos:Pos) (e:Expr) (bB:Pos):Prop where
 base:XH o m X.env (eval o X.env)=eval o X.env
 T8:((XO bB (T_ [e] X.env)).all (fun x => !x.1)&&(ZW bB (Yt [] X.env)).all (fun x=>x.1.isSome)
  && decide (([e]:List Expr).length+([]:List Zq).length+(if ([]:List Zq).isEmpty then 0 else 1)<30))=true
 line:(apos.endLine==bB.line)=true
 trees:XO bB (T_ [e] X.env)=[(false,eval e X.env)]
structure M2 (X:Cx) (o:Expr) (m:Str) (apos:Pos) (e f:Expr) (bB:Pos):Prop where
 base:XH o m X.env (eval o X.env)=eval o X.env
 T8:((XO bB (T_ [e,f] X.env)).all (fun x => !x.1)&&(ZW bB (Yt [] X.env)).all (fun x=>x.1.isSome)
  && decide (([e,f]:List Expr).length+([]:List Zq).length+(if ([]:List Zq).isEmpty then 0 else 1)<30))=true
 line:(apos.endLine==bB.line)=true
 trees:XO bB (T_ [e,f] X.env)=[(false,eval e X.env),(false,eval f X.env)]
end L2
namespace PySem
open Sem (wp)
theorem CC:typeLookup (.type "list") "keys" = pure none:=by rw[typeLookup_type,builtinLookup_eq_fast];kernel_rfl
theorem nE {prog:N_}{w:World}{A:WO}{E:Value->j_->Prop}{s:j_}{a:Addr}{o:Obj}{xs:Array Value}{k:Nat}{Q:k_ Value->j_->Prop}
  (hx:s.heap.get? a=some o) (hc:o.cls=.type "list") (tK:o.data=.seq xs k) (hd:o.dict=none) (hA:A.handled=none)
  (h:∀ h' tk,(∀ b ob,s.heap.get? b=some ob->h'.get? b=some ob)->Q none { s with heap:=h',toks:=tk }) :
  wpAny (model prog w) A (getAttr? (.ref a) "keys") Q E s:=by
 obtain⟨c,yh,dat,sl⟩:=o;simp only at hc tK hd;subst hc tK hd;obtain⟨hp,g,d,tk,os⟩:=s;have hT:∀ Qe,(⟨hp,g,d,Qe,os⟩:j_).TypeIs (.ref a) "list" := fun _=>⟨_,hx,rfl⟩
 have f1:=sub_AttributeError;have f3:=YH.lookup;have f4:=YH.bind (.ref a);have f5:=am_list_getattr_none;unfold getAttr? getAttrBy? getAttrBy
 repeat (any_goals (first | assumption | exact hT _ | ((with_reducible show wpAny _ _ (call (acS "list.__getattribute__") _ _) _ _ _);refine aaB YH (hT _) am_entry_list_getattribute (F.args_list_getattribute_2 _ _) (meets_getattribute_miss_list a xs k sl "keys" _ CC (by decide +kernel)) ⟨hx,hA,fun h' Qe e tL=>?_⟩) | wp_step))
 obtain⟨t',u',he⟩:=tL.there;show wpAny _ _ (getattributeRaised _ _ _ _ _ _ _) _ _ _;unfold getattributeRaised
 repeat (any_goals (first | assumption | wp_step))
 exact h h' Qe tL.keeps
end PySem
namespace L2
open PySem PySem.Spec PyProof.Rows
theorem lW:entryFor table "dict.update.loop" = some Zr.«dict.update.loop»:=entryFor_of_tree (by kernel_rfl)
theorem lX:plainId "dict.update.loop" = true:=by decide +kernel
section
variable {prog:N_}{w:World}{A:WO}{E:Value->j_->Prop}
theorem yi {d it l:Addr}{Q:Value->j_->Prop} (hA:A.handled=none) (yj:d≠it) (dD:d≠l) (K8:it≠l) (items:List Value) (lb:List (Key×Value)) (hsz:lb.length<=900) :
  ∀ (m i:Nat) (s:j_) (am:List (Key×Value)),items.length=i+m->am.length<=i->s.heap.IsListIter it l i->s.heap.IsList l items.toArray ->
   (∀ (j:Nat) (x:Value) (p:Key×Value),items[j]? = some x->lb[j]? = some p->∃ (t:Addr) (ku:Value),x=Wo t/\t≠d/\t≠it/\s.heap.IsTuple t #[ku,p.2]/\(aW prog w).is p.1 ku=true) ->
   items.length=lb.length->s.heap.DictOf (aW prog w) d am ->
   (∀ h' tk,(∀ b o,b≠d->b≠it->s.heap.get? b=some o->h'.get? b=some o)->h'.DictOf (aW prog w) d ((lb.drop i).foldl (fun a p=>stored a p.1 p.2) am)->Q .none { s with heap:=h',toks:=tk }) ->
   Zo (model prog w) A (.builtin "dict.update.loop" ⟨[.ref d,.ref it,Xt i,.none],[]⟩) (wants Q E) s:=by
 intro m
 induction m with
 | zero =>
  intro i s am hn hk hit hl hp hlen hd hQ;refine aaL lW ?_;rw[Zx lX];unfold Zr.«dict.update.loop»;refine d_ (aaR (by exact hA) hit hl (by simp;lia) fun h' hx=>?_);refine d_ (r_ ?_);refine r_ ?_;have o0:lb.drop i=[]:=List.drop_eq_nil_of_le (by lia);rw[o0] at hQ;exact hQ h' s.toks (fun b o _ hb e=>hx b o hb e) (hd.extBut hx yj)
 | succ m ih =>
  intro i s am hn hk hit hl hp hlen hd hQ;have hi:i<items.length:=by lia
  have Sg:i<lb.length:=by lia
  have ex:=c_ hi;have ep:=c_ Sg;obtain⟨t,ku,et,V4,T9,Qf,FF⟩:=hp i _ _ ex ep;refine aaL lW ?_;rw[Zx lX];unfold Zr.«dict.update.loop»;refine d_ (aau hit hl (x:=items[i]) (by simpa using ex) fun h1 Qg Qh=>?_);rw[et]
  have K9:h1.IsTuple t #[ku,lb[i].2]:=by
   obtain⟨o,ho,r⟩:=Qf;exact⟨o,(Qh.2 t T9).trans ho,r⟩
  have Ua:h1.DictOf (aW prog w) d am:=hd.sameBut Qh yj
  have hT:(⟨h1,s.gens,s.drawn,s.toks,s.os⟩:j_).TypeIs (.ref t) "tuple" := by
   obtain⟨o,ho,hc,r⟩:=K9;exact⟨_,ho,hc⟩
  refine d_ (Zp (d_ (wpAny_tryCatch ?_)));unfold Builtin.Dict.pairItems;refine d_ (ZM hT ?_);rw[u_ (by decide +kernel)];obtain⟨o,ho,hc,n,tK⟩:=id K9;refine d_ (Xi (s:=⟨h1,s.gens,s.drawn,s.toks,s.os⟩) ho tK ?_);refine r_ ?_
  have hz:am.length<=sizeLine:=by
   have h9:(1000:Nat)<=sizeLine:=by decide
   lia
  show wpAny _ _ (aas [ku,lb[i].2] (dictSet d ku lb[i].2)) _ _ _;refine Zp (wpAny_dictSet_pairs (s:=⟨h1,s.gens,s.drawn,s.toks,s.os⟩) FF Ua (fun h2 hd2 Sh=>?_) hz);refine r_ ?_;refine⟨abE _ (by decide +kernel),?_⟩;have e1:Xt ((i:Int)+1)=Xt ((i+1:Nat):Int):=rfl;have kp:∀ b o,b≠d->b≠it->s.heap.get? b=some o->h2.get? b=some o:=fun b o JP u9 e=>(Sh.2 b JP).trans ((Qh.2 b u9).trans e)
  rw[e1];refine ih (i+1) ⟨h2,s.gens,s.drawn,s.toks+1,s.os⟩ (stored am lb[i].1 lb[i].2) (by lia) ?_ ?_ ?_ ?_ hlen hd2 ?_
  ·unfold stored;split
   ·rw[a_];lia
   ·rw[F_,Ws];lia
  ·exact Qg.at fun o e=>(Sh.2 it (WA yj)).trans e
  ·exact hl.at fun o e=>kp l o (WA dD) (WA K8) e
  ·intro j x p hx kW;obtain⟨t',Ub,e',a1,a2,⟨o',kX,r'⟩,a4⟩:=hp j x p hx kW;exact⟨t',Ub,e',a1,a2,⟨o',kp t' o' a1 a2 kX,r'⟩,a4⟩
  ·intro h' tk k2 o0;refine hQ h' tk (fun b o JP u9 e=>k2 b o JP u9 (kp b o JP u9 e)) ?_;rw[Xo Sg];exact o0
end
end L2
namespace L2
open PySem PySem.Spec PyProof.Rows
theorem KV.fold {ks:List (Key×V)}{us:List (Key×Value)} (r:KV ks us):∀ {a:List (Key×V)}{b:List (Key×Value)},KV a b->KV (ks.foldl (fun a p=>putK a p.1 p.2) a) (us.foldl (fun a p=>stored a p.1 p.2) b):=by
 induction r with
 | nil=>intro a b h;exact h
 | @cons p q ps qs h t ih =>
  intro a b BI;refine ih ?_;obtain⟨e,rv⟩:=h;show KV (putK a p.1 p.2) (stored b q.1 q.2);rw[←e];exact KV.put BI p.1 rv
theorem zU (ks:List (Key×V)):∀ a:List (Key×V),(ks.foldl (fun a p=>putK a p.1 p.2) a).length<=a.length+ks.length:=by
 induction ks with
 | nil=>intro a;exact w_ _
 | cons p ps ih =>
  intro a;have h1:=ih (putK a p.1 p.2);have h2:=tJ a p.1 p.2;rw[acs,G_]
  lia
section
variable {X:Cx}
def Gi (K:e_):List V->Hp->VK->Prop:=fun xs H Q=>∃ (l:Addr) (ys:List V) (lb:List (Key×V)),xs=[.ref l]/\cr K H l ys/\ys.length=lb.length/\lb.length<=900 /\
 (∀ (j:Nat) (y:V) (p:Key×V),ys[j]? = some y->lb[j]? = some p->∃ t,y=.ref t/\H t=some (.tup [kV p.1,p.2]))/\∀ d,H d=none->Q (.ref d) (upd H d (.dK (lb.foldl (fun a p=>putK a p.1 p.2) [])))
theorem vH (hc:X.calm=true):bz X (.type "dict") (Gi X.K):=by
 intro pins s σ H xs us Q I r h;obtain⟨l,ys,lb,rfl,hq,hlen,hsz,hp,q⟩:=h;obtain⟨u,rfl,rx⟩:=vals1 r
 cases rx
 obtain⟨ai,rv,pl,hz⟩:=I.list hq;have V5:=rv.length;have hA:X.A.handled=none:=I.ok.hd hc
 have Ox:∃ us:List (Key×Value),KV lb us/\∀ (j:Nat) (x:Value) (p:Key×Value),ai[j]? = some x->us[j]? = some p->∃ (t:Addr) (ku:Value),x=Wo t/\s.heap.IsTuple t #[ku,p.2]/\(aW X.prog X.w).is p.1 ku=true:=by
  clear hq pl hz q r
  have gen:∀ (lb:List (Key×V)) (ys:List V) (ai:List Value),Vals ys ai->ys.length=lb.length->(∀ (j:Nat) (y:V) (p:Key×V),ys[j]? = some y->lb[j]? = some p->∃ t,y=.ref t/\H t=some (.tup [kV p.1,p.2])) ->
    ∃ us:List (Key×Value),KV lb us/\∀ (j:Nat) (x:Value) (p:Key×Value),ai[j]? = some x->us[j]? = some p->∃ (t:Addr) (ku:Value),x=Wo t/\s.heap.IsTuple t #[ku,p.2]/\(aW X.prog X.w).is p.1 ku=true:=by
   intro lb
   induction lb with
   | nil=>intro ys ai rv hl _;exact⟨[],.nil,fun j x p _ e=>by simp at e⟩
   | cons p ps ih =>
    intro ys ai rv hl hp
    cases rv with
    | nil=>simp at hl
    | @cons y u ys CD ru Uc =>
     obtain⟨us,k1,k2⟩:=ih ys CD Uc (by simpa using hl) fun j y' p' h1 h2=>hp (j+1) y' p' h1 h2
     obtain⟨t,e,ht⟩:=hp 0 y p rfl rfl;subst e
     cases ru
     obtain⟨V6,tv,tp,_⟩:=I.tuple (eD.of ht)
     cases tv with
     | cons rk Ud =>
      cases Ud with
      | cons Qi Ue =>
       cases Ue
       rename_i ku vu;refine⟨(p.1,vu)::us,.cons ⟨rfl,Qi⟩ k1,fun j x p' h1 h2=>?_⟩
       cases j with
       | zero =>
        simp at h1 h2;subst h1 h2;exact⟨t,ku,rfl,tp,zQ rk⟩
       | succ j=>exact k2 j x p' h1 h2
  exact gen lb ys ai rv hlen hp
 obtain⟨us,kv,PJ⟩:=Ox;have V7:=kv.length;obtain⟨o,n,ho,JM,Uf,tK⟩:=pl;refine callType_codes (Q₁:=fun obj s₁=>obj=.ref s.heap.objs.size/\s₁={ s with heap:=s.heap.push { cls:=.type "dict",data:=.dict #[] } }) PySem.F.kt_called_dict (PySem.F.kt_typeCall_dict_1 _) PySem.F.entry_dict_init (kt_code_dict_new _ ⟨rfl,rfl⟩) ?_;rintro obj s₁ ⟨rfl,rfl⟩;have Gj:(s.heap.push { cls:=.type "dict",data:=.dict #[] }).DictOf (aW X.prog X.w) s.heap.objs.size []:=Heap.DictOf.new s.heap;have Qj:∀ b o,s.heap.get? b=some o->(s.heap.push { cls:=.type "dict",data:=.dict #[] }).get? b=some o:=fun b o e=>l_ _ e
 refine⟨Gj.typeIs,PySem.F.args_dict_init_2 _ _,?_⟩;unfold Zr.«dict.__init__»;refine d_ ?_;unfold Builtin.Dict.selfAndRest;refine d_ (wpAny_notOrdered_dict Gj.typeIs ?_);show wpAny _ _ (pure (s.heap.objs.size,[Wo l])) _ _ _;refine r_ ?_;show wpAny _ _ (aao "dict.__init__" s.heap.objs.size (.ref l) [] .none) _ _ _;unfold aao;generalize hP:s.heap.push { cls:=.type "dict",data:=.dict #[] }=Si at *;have Ug:(⟨Si,s.gens,s.drawn,s.toks,s.os⟩:j_).TypeIs (.ref l) "list" := ⟨_,Qj _ _ ho,JM⟩;refine d_ (ZM Ug ?_);rw[u_ (by decide +kernel)];refine d_ (nE (s:=⟨Si,s.gens,s.drawn,s.toks,s.os⟩) (Qj _ _ ho) JM tK Uf hA fun h2 D5 Sj=>?_)
 rw[u_ (show (none:k_ Value).isNone=true from rfl)];refine d_ (YQ ?_);have zV:∀ b o,s.heap.get? b=some o->h2.get? b=some o:=fun b o e=>Sj b o (Qj b o e)
 have FV:h2.IsList l ai.toArray:=⟨o,zV _ _ ho,JM,n,tK⟩;refine d_ (Yo (s:=⟨h2,s.gens,s.drawn,D5,s.os⟩) FV ?_);refine r_ ?_;refine⟨abE _ (by decide +kernel),?_⟩
 have hd2:h2.DictOf (aW X.prog X.w) s.heap.objs.size []:=by
  obtain⟨o',es,ep,kX,r'⟩:=Gj;exact⟨o',es,ep,Sj _ _ kX,r'⟩
 have Uh:s.heap.objs.size<h2.objs.size:=by
  obtain⟨o',es,ep,kX,r'⟩:=hd2;exact z_ kX
 have Ui:l<h2.objs.size:=z_ (zV _ _ ho);have Gk:∀ b o,s.heap.get? b=some o->b≠s.heap.objs.size:=fun b o e=>R_ (z_ e)
 have Qk:∀ b o,s.heap.get? b=some o->∀ x,(h2.push x).get? b=some o:=fun b o e x=>l_ _ (zV b o e)
 refine yi (d:=s.heap.objs.size) (it:=h2.objs.size) (l:=l) (by exact hA) (R_ Uh) (WA (Gk _ _ ho)) (WA (R_ Ui)) ai us (by lia) ai.length 0 _ [] (by lia) (Xn _) ⟨_,v_ _ rfl,rfl,rfl⟩ ⟨o,Qk _ _ ho _,JM,n,tK⟩ ?_ (by lia) ?_ ?_
 ·intro j x p h1 Uj;obtain⟨t,ku,e,⟨ot,Gn,rt⟩,hk⟩:=PJ j x p h1 Uj;exact⟨t,ku,e,Gk _ _ Gn,R_ (z_ (zV _ _ Gn)),⟨ot,Qk _ _ Gn _,rt⟩,hk⟩
 ·obtain⟨o',es,ep,kX,r'⟩:=hd2;exact⟨o',es,ep,l_ _ kX,r'⟩
 ·intro h' tk k3 o0;refine⟨rfl,.ref s.heap.objs.size,_,I.laid (a:=s.heap.objs.size) (o:=.dK (lb.foldl (fun a p=>putK a p.1 p.2) [])) (t':=tk) (fun b q x6=>?_) (w_ _) (Gg ?_ (Xl.mpr (WA (R_ I.big))) (kv.fold .nil) o0),rfl,q _ (I.be.fresh (w_ _))⟩
  ·exact k3 b q (Gk _ _ x6) (R_ (z_ (zV _ _ x6))) (Qk _ _ x6 _)
  ·have h9:(1000:Nat)<=sizeLine:=by decide
   have h8:=zU lb [];rw[aaK] at h8
   lia
end
end L2
namespace PySem
open Sem (wp)
section
variable {prog:N_}{w:World}{A:WO}{E:Value->j_->Prop}{s:j_}
theorem vJ {it t:Addr}{i:Nat}{items:Array Value}{x:Value}{Q:Value->j_->Prop} (hI:s.heap.IsTupleIter it t i) (hT:s.heap.IsTuple t items) (hx:items[i]? = some x)
  (q:∀ h',h'.IsTupleIter it t (i+1)->Ye it s.heap h'->Q x { s with heap:=h' }):wpAny (model prog w) A (WE (.ref it)) Q E s:=by
 obtain⟨oi,D6,Sk,yj⟩:=id hI;obtain⟨ot,Gn,_,nt,Ql⟩:=hT;unfold WE;refine d_ (Xc (name:=W_ "__next__") hI.typeIs XQ (Xr XQ hI.typeIs ZN ?_ (ZB _)));refine d_ (m:=field (.ref it) 0) (WP D6 yj (x:=.ref t) rfl ?_);dsimp only;rw[p_ (show ¬ ((Wo t==Yb)=true) by exact s_)];refine d_ (m:=field (.ref it) 1) (WP D6 yj (x:=.int i 0) rfl ?_);refine d_ (m:=seqItems? (.ref t)) (Xi Gn Ql ?_);simp only[n_,hx];refine d_ (wpAny_setField D6 yj (by simp) (r_ ⟨x,rfl,r_ (q _ ⟨_,Heap.get?_update_self _ D6 (Obj.isFreed_of_fields (abF yj _)),(Obj.cls_mapFields ..).trans Sk,?_⟩ (abj ..))⟩));rw[abF yj];simp [Xt]
theorem yk {it t:Addr}{i:Nat}{items:Array Value}{Q:Value->j_->Prop} (hh:A.handled=none) (hI:s.heap.IsTupleIter it t i) (hT:s.heap.IsTuple t items) (hx:items[i]? = none)
  (q:∀ h' e,Heap.ExtBut it s.heap h'->(∃ o,h'.get? e=some o/\o.cls=.type "StopIteration")->E (.ref e) { s with heap:=h' }):wpAny (model prog w) A (WE (.ref it)) Q E s:=by
 obtain⟨oi,D6,Sk,yj⟩:=id hI;obtain⟨ot,Gn,_,nt,Ql⟩:=hT;unfold WE;refine d_ (Xc (name:=W_ "__next__") hI.typeIs XQ (Xr XQ hI.typeIs ZN ?_ (ZB _)));refine d_ (m:=field (.ref it) 0) (WP D6 yj (x:=.ref t) rfl ?_);dsimp only;rw[p_ (show ¬ ((Wo t==Yb)=true) by exact s_)];refine d_ (m:=field (.ref it) 1) (WP D6 yj (x:=.int i 0) rfl ?_);refine d_ (m:=seqItems? (.ref t)) (Xi Gn Ql ?_);simp only[n_,hx];refine d_ (YQ (d_ (wpAny_setField D6 yj (by simp) (d_ (m:=newExc (.type "StopIteration") []) ?_))));simp only[newExc,newTuple];refine d_ (Xf (d_ (m:=firstArgMember _ _) (X_ (a:=Yb) (by first | rfl | (simp only[firstArgMember];rfl)) (Xf ?_ (by size_fits)))) (by size_fits))
 simp only[raiseNew];refine d_ (wpAny_handled ?_)
 first | rw[show A.in1.handled=none by exact hh] | rw[hh]
 exact d_ (r_ (wpAny_throw (q _ _ (((abj ..).extBut.push _).push _) ⟨_,v_ _ rfl,rfl⟩)))
theorem Draws.tup (hh:A.handled=none) (it t:Addr) (BJ:t≠it) (items:Array Value):Draws prog w A it [it,t] items.size (fun i v=>items[i]? = some v) (fun i h=>h.IsTupleIter it t i/\h.IsTuple t items) where
 live:=fun _ _ st=>let ⟨o,ho,_⟩:=st.1;⟨o,ho⟩
 frame:=fun _ _ _ st hk=>⟨st.1.at fun o e=>hk it (by simp) o e,let ⟨o,ho,r⟩:=st.2;⟨o,hk t (by simp) o ho,r⟩⟩
 item:=fun i s Q E hi st hQ=>by
  refine vJ st.1 st.2 (x:=items[i]) (by simp [hi]) fun h' Qm BH=>hQ _ h' s.toks (by simp [hi]) ⟨Qm,?_⟩ BH
  obtain⟨o,ho,r⟩:=st.2;exact⟨o,(BH.2 t BJ).trans ho,r⟩
 done:=fun s Q E st hE=>yk hh st.1 st.2 (by simp) hE
theorem tM (l:Addr) (items:Array Value) (n:Nat) (yh:k_ Addr) (sl:Array (k_ Value)) :
  Meets (Zr.«enumerate.__new__» ⟨[.type "enumerate",.ref l],[]⟩) (fun _ R s=>s.heap.get? l=some { cls:=.type "tuple",dict:=yh,data:=.seq items n,slots:=sl } /\
   R (.ok (.ret (.ref (s.heap.push { cls:=.type "tuple_iterator",data:=.fields #[.ref l,.int 0 0] }).objs.size)))
    { s with heap:=(s.heap.push { cls:=.type "tuple_iterator",data:=.fields #[.ref l,.int 0 0] }).push { cls:=.type "enumerate",data:=.fields #[.none,.bool false,.ref s.heap.objs.size,Xt 0,.none,.none] } }) :=
 .of_wp fun prog w A R s h=>by
  obtain⟨hp,g,d,tk,os⟩:=s;obtain⟨hl,h⟩:=h;have Qn:=sub_enumerate;have hL:abY (acm ⟨hp,g,d,tk,os⟩) l items:=⟨_,hl,rfl,n,rfl⟩
  wp_walk using aaM hl
  refine wpAny_stack_any fun st=>r_ ?_
  split
  ·rename_i c _ _ _ _ _
   cases (c==Yc "enumerate")<;>(wp_walk using aaM hl,Yg hL;exact⟨_,rfl,h⟩)
  ·wp_walk using aaM hl,Yg hL
   exact⟨_,rfl,h⟩
theorem vK {l:Addr}{items:Array Value}{Q:Value->j_->Prop} (hL:s.heap.IsTuple l items)
  (h:∀ h',IsEnum h' (s.heap.objs.size+1) s.heap.objs.size 0 .none->h'.IsTupleIter s.heap.objs.size l 0->h'.objs.size=s.heap.objs.size+2->(∀ b o,s.heap.get? b=some o->h'.get? b=some o)->Q (.ref (s.heap.objs.size+1)) { s with heap:=h' }) :
  wpAny (model prog w) A (call (.type "enumerate") [.ref l]) Q E s:=by
 obtain⟨⟨c,yh,dt,sl⟩,hl,hc,n,hd⟩:=hL
 replace hc:c=.type "tuple" := hc
 replace hd:dt=.seq items n:=hd
 subst hc hd;refine callType_new F.called_enumerate (by decide) (F.typeCall_enumerate_1 _) (F.newCall_enumerate_1 _) (fun obj=>F.args_object_init_2 obj _) F.entry_enumerate_new (tM l items n yh sl) ⟨hl,?_⟩;generalize hI:({ cls:=.type "tuple_iterator",data:=.fields #[.ref l,.int 0 0] }:Obj)=oi;have hz:(s.heap.push oi).objs.size=s.heap.objs.size+1:=WX ..;show _/\_;rw[hz]
 have he:IsEnum ((s.heap.push oi).push { cls:=.type "enumerate",data:=.fields #[.none,.bool false,.ref s.heap.objs.size,Xt 0,.none,.none] }) (s.heap.objs.size+1) s.heap.objs.size 0 .none:=by
  have g:=v_ (s.heap.push oi) (o:={ cls:=.type "enumerate",data:=.fields #[.none,.bool false,.ref s.heap.objs.size,Xt 0,.none,.none] }) rfl;rw[hz] at g;exact g
 subst hI;exact⟨⟨_,he,rfl⟩,h _ he ⟨_,l_ _ (v_ _ rfl),rfl,rfl⟩ (by rw[WX,hz]) fun b o x=>l_ _ (l_ _ x)⟩
end
end PySem
namespace L2
open PySem PySem.Spec PyProof.Rows
theorem Inv.wX {X:Cx}{pins:List (Addr×Obj)}{σ:St}{H:Hp}{s:j_}{h':Heap}{t':Nat}{ch:List Addr} (I:Inv X pins σ H s) (sQ:∀ b∈ch,mq X pins H b) (k:∀ b o,b∉ch->s.heap.get? b=some o->h'.get? b=some o):Inv X pins σ H { s with heap:=h',toks:=t' }:=by
 have DS:∀ b u,H b=some u->b∉ch:=fun b u e z=>by rw[(sQ b z).1] at e;cases e
 refine I.step (g':=s.gens) (d':=s.drawn) (ch:=ch) (fun b hb=>?_) (fun b o _ _ hc e _=>k b o hc e) (fun b o _ _ hc e _=>⟨o.slots,k b o hc e⟩) (fun _ _ _ _ n=>n) (fun b o hc e=>⟨o,k b o hc e⟩) (fun _ _ e=>e) (fun _ _ _ e=>e) (fun b ps e=>⟨#[],by rw[e];simp⟩) (fun m hm=>?_) (fun b u e=>?_) I.bare
 ·obtain⟨f0,f1,f2,f3,f4,f5⟩:=sQ b hb;exact⟨f3,f1,f4,f5⟩
 ·obtain⟨o,es,ep,ho,r⟩:=hm;exact⟨o,es,ep,k _ o (fun z=>(sQ _ z).2.1 rfl) ho,r⟩
 ·refine (I.be b u e).eE (fun c v hc q=>k c v ?_ q) (fun _ q=>q) fun _ _ q=>q
  rcases hc with z | z
  ·rw[z];exact DS b u e
  ·exact DS c _ z
theorem Inv.nF {X:Cx}{pins:List (Addr×Obj)}{σ:St}{H:Hp}{s:j_}{h':Heap}{t':Nat}{ch:List Addr}{T:Addr}{ob:HO} (I:Inv X pins σ H s) (sQ:∀ b∈ch,mq X pins H b) (k:∀ b o,b∉ch->s.heap.get? b=some o->h'.get? b=some o)
  (hT:s.heap.objs.size<=T) (new:aS X.prog X.w (upd H T ob) h' T ob):Inv X pins σ (upd H T ob) { s with heap:=h',toks:=t' }:=by
 have hn:H T=none:=I.be.fresh hT;have DS:∀ b u,H b=some u->b∉ch:=fun b u e z=>by rw[(sQ b z).1] at e;cases e
 have up:∀ b u,H b=some u->(upd H T ob) b=some u:=fun b u e=>by rw[aw (aD e hn)];exact e
 refine I.step (g':=s.gens) (d':=s.drawn) (ch:=ch) (fun b hb=>?_) (fun b o _ _ hc e _=>k b o hc e) (fun b o _ _ hc e _=>⟨o.slots,k b o hc e⟩) (fun b o _ e n=>?_) (fun b o hc e=>⟨o,k b o hc e⟩) (fun b _ e=>up b _ e) (fun b _ _ e=>up b _ e) (fun b ps e=>⟨#[],by rw[up b _ e];simp⟩) (fun m hm=>?_) (fun b u e=>?_) I.bare
 ·obtain⟨f0,f1,f2,f3,f4,f5⟩:=sQ b hb;exact⟨f3,f1,f4,f5⟩
 ·rw[aw (R_ (C_ (z_ e) hT))];exact n
 ·obtain⟨o,es,ep,ho,r⟩:=hm;exact⟨o,es,ep,k _ o (fun z=>(sQ _ z).2.1 rfl) ho,r⟩
 ·by_cases hb:b=T
  ·subst hb;rw[az] at e;cases e;exact new
  ·rw[aw hb] at e;refine (I.be b u e).eE (fun c v hc q=>k c v ?_ q) (fun c q=>up c _ q) fun c _ q=>up c _ q
   rcases hc with z | z
   ·rw[z];exact DS b u e
   ·exact DS c _ z
noncomputable def Go (K:e_) (a:Addr):It :=
 ⟨fun i H=>∃ xs x,eD K H a xs/\xs[i]? = some x,fun i H v H'=>∃ T x,H T=none/\v=.ref T/\(∀ xs,eD K H a xs->xs[i]? = some x)/\H'=upd H T (.tup [.int i,x]),fun i H=>∃ xs,eD K H a xs/\xs.length=i⟩
theorem vL {P:N_}{w:World}{K:e_}{elts:List Expr}{kk:Nat}{tp:Pos} (e it a:Addr) (Oy:e≠it):Turn P w K (.Tuple elts kk tp) (Go K a) [e,it] e (fun i h=>(∃ old,IsEnum h e it i old)/\h.IsTupleIter it a i) where
 mem:=by simp
 obj:=fun i h st b hb=>by
  obtain⟨⟨old,he⟩,o,ho,hc,hd⟩:=st;rcases t_.mp hb with q | q
  ·subst q;exact⟨_,he,fun v z=>by have z':aa0 _=aai v:=z;cases z'⟩
  ·rw[D_.mp q];exact⟨o,ho,fun v z=>by rw[hd] at z;cases z⟩
 keep:=fun i h h' st k=>⟨st.1.imp fun old x=>k e (by simp) _ x,st.2.at fun o x=>k it (by simp) o x⟩
 item:=by
  intro X hP hw hK hc i pins s σ H E I hf st hg;subst hP hw hK;obtain⟨xs,x,hq,hx⟩:=hg;obtain⟨ai,rv,p,hz⟩:=I.tuple hq;obtain⟨u,hu,ru⟩:=rv.get hx;have hA:X.A.handled=none:=I.ok.hd hc;obtain⟨⟨old,he⟩,hI⟩:=id st
  have Qo:a≠it:=fun z=>by
   obtain⟨o1,g1,c1,_⟩:=p;obtain⟨o2,g2,c2,_⟩:=hI;rw[z,g2] at g1
   cases g1
   rw[c2] at c1;exact absurd c1 (by decide)
  have Qp:e≠a:=fun z=>by
   obtain⟨o1,g1,c1,_⟩:=p;have g2:s.heap.get? e=_:=he;rw[←z,g2] at g1
   cases g1
   exact absurd (show Yc "enumerate" = Yc "tuple" from c1) (by decide)
  have W:=abZ (prog:=X.prog) (w:=X.w) (A:=X.A) (Draws.tup (by exact hA) it a Qo ai.toArray) e Oy (by simp [Oy,Qp]) (by simp)
  have hi:i<ai.toArray.size:=by
   have:=(i_.mp hu).1;simpa using this
  refine W.item i s _ _ hi ⟨⟨old,he⟩,hI,p⟩ fun T vals h' tk hv hT Uk La k1=>?_
  obtain⟨t',x',tL,rfl⟩:=hv
  have ex:x'=u:=by
   have h2:ai.toArray[i]? = some u:=by simpa using hu
   rw[h2] at tL;exact (K_ tL).symm
  subst ex;refine⟨_,rfl,W.go elts kk tp i T _ _ _ La fun h2 Lb k2=>?_⟩;have Sm:=W.apart i T _ La
  have new:aS X.prog X.w (upd H T (.tup [.int i,x])) h2 T (.tup [.int i,x]):=by
   obtain⟨ot,g1,r1⟩:=Uk;exact⟨by show 2<=sizeLine;decide,[.int i t',x'],.cons ⟨t',rfl⟩ (.cons ru .nil),ot,k2 T ot Sm g1,r1⟩
  refine⟨.ref T,_,I.nF (ch:=[e,it]) (t':=tk) hf (fun b o hb g=>k2 b o hb (k1 b o hb g)) hT new,rfl,⟨T,x,I.be.fresh hT,rfl,fun ys hy=>by rw[I.ql hy hq];exact hx,rfl⟩,⟨Lb.1,Lb.2.1⟩,fun b hb=>?_⟩;have Ul:b≠T:=fun z=>Sm (by rw[←z];exact hb)
  rw[aw Ul];exact (hf b hb).1
 done:=by
  intro X hP hw hK hc i pins s σ H E I hf st hg;subst hP hw hK;obtain⟨xs,hq,hx⟩:=hg;obtain⟨ai,rv,p,hz⟩:=I.tuple hq;have hA:X.A.handled=none:=I.ok.hd hc;obtain⟨⟨old,he⟩,hI⟩:=id st
  have Qo:a≠it:=fun z=>by
   obtain⟨o1,g1,c1,_⟩:=p;obtain⟨o2,g2,c2,_⟩:=hI;rw[z,g2] at g1
   cases g1
   rw[c2] at c1;exact absurd c1 (by decide)
  have Qp:e≠a:=fun z=>by
   obtain⟨o1,g1,c1,_⟩:=p;have g2:s.heap.get? e=_:=he;rw[←z,g2] at g1
   cases g1
   exact absurd (show Yc "enumerate" = Yc "tuple" from c1) (by decide)
  have W:=abZ (prog:=X.prog) (w:=X.w) (A:=X.A) (Draws.tup (by exact hA) it a Qo ai.toArray) e Oy (by simp [Oy,Qp]) (by simp);have hl:=rv.length;have en:ai.toArray.size=i:=by simp;lia
  refine W.done s _ _ ?_ fun h' tk k1=>⟨rfl,I.wX (ch:=[e,it]) (t':=tk) hf fun b o hb g=>k1 b o hb g⟩
  rw[en];exact⟨⟨old,he⟩,hI,p⟩
 self:=fun _ _ _ _ _ st h=>by
  obtain⟨⟨old,he⟩,_⟩:=st;exact wpAny_pyIter_enum he h
section
variable {X:Cx}
def Gp (K:e_) (ta:TA):TI:=fun σ H R=>ta σ H fun vs H1=>∃ a,vs=[.ref a]/\(∃ xs,eD K H1 a xs)/\R (Go K a) H1
theorem zW {a:Expr}{ta:TA}{p pos:Pos}{elts:List Expr}{kk:Nat}{tp:Pos} (hg:Gl X "enumerate") (hm:X.mg "enumerate" = none) (ha:PA X [a] ta) (hs:T_ [a] X.env=[(false,eval a X.env)]:=by rfl) :
  PI X (.Tuple elts kk tp) (.Call (.Name "enumerate" p) [a] [] pos) (Gp X.K ta):=by
 intro pins s σ H R I h;refine Call_ (gX I hg hm boot_enumerate (WW (bf (ha pos pins s σ H _ I h) fun us s1 ⟨vs,H1,I1,r1,q1⟩=>?_) hs rfl));obtain⟨l,e,⟨xs,hq⟩,q⟩:=q1;subst e
 cases r1 with
 | cons r rr =>
  cases rr
  cases r
  obtain⟨ai,rv,p,hz⟩:=I1.tuple hq;refine vK p fun h' he hi hsz kp=>wpAny_pyIter_enum he ⟨s1.heap.objs.size+1,[s1.heap.objs.size+1,s1.heap.objs.size],_,_,H1,rfl,I1.kept (t':=s1.toks) kp,vL _ _ l (Y2 (Yx _)),⟨⟨_,he⟩,hi⟩,fun b hb=>?_,q⟩
  rcases t_.mp hb with z | z
  ·subst z;exact I1.ve (aa1 _) (I1.be.fresh (aa1 _))
  ·rw[D_.mp z];exact I1.ve (w_ _) (I1.be.fresh (w_ _))
end
end L2
namespace SH
open PySem L2
noncomputable def fE:List Int->Int->List Nd->List Int
 | W,_,[]=>W
 | W,k,n::r=>fE (W.take n.2.toNat++[k]) (k+1) r
noncomputable def way (ns:List Nd):List Int:=fE [] 0 ns
theorem j4:∀ (a b:List Nd) (W:List Int) (k:Int),fE W k (a++b)=fE (fE W k a) (k+a.length) b
 | [],b,W,k=>by show fE W k b=fE W (k+((0:Nat):Int)) b;rw[show k+((0:Nat):Int)=k by lia]
 | n::a,b,W,k=>by
  show fE _ (k+1) (a++b)=_;rw[j4 a b];show fE (fE _ (k+1) a) (k+1+a.length) b=fE (fE _ (k+1) a) (k+(n::a).length) b;rw[G_,show k+1+(a.length:Int)=k+((a.length+1:Nat):Int) by lia]
theorem tN (ns:List Nd) (n:Nd):way (ns++[n])=(way ns).take n.2.toNat++[(ns.length:Int)]:=by
 unfold way;rw[j4];show (fE [] 0 ns).take n.2.toNat++[0+(ns.length:Int)]=_;rw[Wt]
theorem dc {ns:List Nd}{i:Nat}{n:Nd} (h:ns[i]? = some n):way (ns.take (i+1))=(way (ns.take i)).take n.2.toNat++[(i:Int)]:=by
 have hi:=(i_.mp h).1;rw[X1,h];show way (ns.take i++[n])=_;rw[tN,Wp,XY (by lia)]
theorem wY {ns:List Nd}:∀ i,i<=ns.length->∀ j∈way (ns.take i),0<=j/\j<(i:Int):=by
 intro i
 induction i with
 | zero=>intro _ j hj;rw[Xj] at hj;exact nomatch hj
 | succ i ih =>
  intro hi j hj;rw[dc (c_ (by lia:i<ns.length))] at hj;rcases U_.mp hj with h | h
  ·have:=ih (by lia) j (WQ h);lia
  ·rw[D_.mp h];lia
theorem wZ {ns:List Nd}:∀ i,i<=ns.length->(way (ns.take i)).length<=i:=by
 intro i
 induction i with
 | zero=>intro _;rw[Xj];exact w_ _
 | succ i ih =>
  intro hi;rw[dc (c_ (by lia:i<ns.length)),F_,Wp,Ws];have:=ih (by lia)
  lia
noncomputable def pp (ns:List Nd) (k:Nat):List Int:=(way (ns.take k)).take ((ns.getD k ("",0)).2.toNat)
theorem w4 {ns:List Nd}{k:Nat} (hk:k<=ns.length):∀ j∈pp ns k,0<=j/\j<(k:Int):=fun j hj=>wY k hk j (WQ hj)
theorem hJ {ns:List Nd}{k:Nat}{n:Nd} (h:ns[k]? = some n):pp ns k=(way (ns.take k)).take n.2.toNat:=by
 unfold pp;rw[A_,h];rfl
theorem CF {ns:List Nd}{k:Nat} (hk:k<=ns.length):(pp ns k).length<=k:=by
 unfold pp;rw[Wp];have:=wZ (ns:=ns) k hk
 lia
noncomputable def kept (ps W:List Int):List Int:=W.filter fun j=>decide (j∈ps)
theorem hU (ps a b:List Int):kept ps (a++b)=kept ps a++kept ps b:=List.filter_append ..
theorem tO (ps:List Int) (k:Int):kept ps [k]=if k∈ps then [k] else []:=by
 unfold kept;by_cases h:k∈ps<;>simp [h]
theorem tP {ps a b:List Int} (h:a <+: b):kept ps a <+: kept ps b:=by
 obtain⟨c,rfl⟩:=h;exact⟨kept ps c,(hU ps a c).symm⟩
noncomputable def gV (ps W:List Int):List Int:=(Wv (W.length+1)).map fun j=>((kept ps (W.take j)).length:Int)
theorem yl (ps W:List Int) (d:Nat):(gV ps W).take (d+1)=gV ps (W.take d):=by
 unfold gV;rw[←Zs,List.take_range,Wp,show min (d+1) (W.length+1)=min d W.length+1 by lia];apply W5;intro j hj;have:=WK.mp hj;rw[List.take_take,XY (by lia)]
theorem qE (ps W:List Int) (k:Int):gV ps (W++[k])=gV ps W++[((kept ps W).length:Int)+if k∈ps then 1 else 0]:=by
 unfold gV;rw[F_,Ws,aaN,I_];congr 1
 ·apply W5;intro j hj;have:=WK.mp hj;rw[List.take_append_of_le_length (by lia)]
 ·rw[o_,Xg,W2 (by rw[F_,Ws];lia),hU,tO];by_cases h:k∈ps<;>simp [h]
theorem nG (ps W:List Int):(gV ps W).length=W.length+1:=by unfold gV;rw[a_,Wu]
theorem ym (ps W:List Int):(gV ps W)[W.length]? = some ((kept ps W).length:Int):=by
 unfold gV;rw[h_,Xm (by lia)];show some (((kept ps (W.take W.length)).length:Nat):Int)=_;rw[X8]
noncomputable def below (ps:List Int) (i:Nat):List Int:=ps.filter fun p=>decide (p<(i:Int))
theorem dY {i:Nat}:∀ {lo m:Int}{ps:List Int},placesOk lo m ps->(i:Int)<=lo->below ps i=[]:=fun {lo m ps} h hi=>by
 unfold below;rw[Yh];intro p hp;have:=(aO h p hp).1;simp;lia
theorem jj {i:Nat}:∀ {lo m:Int}{ps:List Int},placesOk lo m ps->below ps (i+1)=below ps i++(if (i:Int)∈ps then [(i:Int)] else [])
 | _,_,[],_=>rfl
 | lo,m,p::r,h=>by
  obtain⟨h1,h2,h3⟩:=h;have ih:=jj (i:=i) h3
  have e1:∀ k:Nat,below (p::r) k=if p<(k:Int) then p::below r k else below r k:=fun k=>by
   unfold below;rw[Xd];by_cases h:p<(k:Int)<;>simp [h]
  rw[e1,e1];by_cases i9:p<(i:Int)
  ·rw[u_ i9,u_ (by lia),ih]
   have:((i:Int)∈p::r)↔(i:Int)∈r:=by
    rw[t_];exact⟨fun z=>z.elim (fun z=>by lia) id,.inr⟩
   by_cases hm:(i:Int)∈r
   ·rw[u_ hm,u_ (this.mpr hm)];rfl
   ·rw[p_ hm,p_ (fun z=>hm (this.mp z))];rfl
  ·rw[p_ i9,dY h3 (by lia)];by_cases he:p=(i:Int)
   ·rw[u_ (by lia),dY h3 (by lia),u_ (by rw[he];exact S_),he];rfl
   ·rw[p_ (by lia),dY h3 (by lia),p_ ?_]
    ·rfl
    ·intro z;rcases t_.mp z with z | z
     ·exact he z.symm
     ·have:=(aO h3 _ z).1;lia
theorem qF {n:Nat}{lo:Int}{ps:List Int} (h:placesOk lo n ps):below ps n=ps:=by
 unfold below;rw[List.filter_eq_self];intro p hp;have:=(aO h p hp).2;simp;lia
theorem below_at:∀ {lo m:Int}{ps:List Int}{k:Nat}{p:Int},placesOk lo m ps->0<=lo->ps[k]? = some p->below ps p.toNat=ps.take k
 | _,_,[],k,p,_,_,hk=>by simp at hk
 | lo,m,q::r,0,p,h,h0,hk=>by
  obtain⟨h1,h2,h3⟩:=h;simp at hk;subst hk;rw[Xj];unfold below;rw[Yh];intro x hx;rcases t_.mp hx with z | z
  ·subst z;simp;lia
  ·have:=(aO h3 _ z).1;simp;lia
 | lo,m,q::r,k+1,p,h,h0,hk=>by
  obtain⟨h1,h2,h3⟩:=h;have JQ:r[k]? = some p:=hk;have:=(aO h3 _ (y_ JQ)).1;have ih:=below_at h3 (by lia) JQ;unfold below at ih ⊢;rw[Xd,u_ (by simp;lia),List.take_succ_cons,ih]
theorem yn {lo m:Int}{ps:List Int}{i:Nat} (h:placesOk lo m ps) (h0:0<=lo) (hi:(i:Int)∈ps):ps[(below ps i).length]? = some (i:Int):=by
 obtain⟨k,hk⟩:=List.getElem?_of_mem hi;have e:=below_at h h0 hk;rw[n_] at e;have:=(i_.mp hk).1;rw[e,Wp,XY (by lia)];exact hk
noncomputable def dZ (ns:List Nd) (ps:List Int) (p:Int):Nd:=((ns.getD p.toNat ("",0)).1,((kept ps (pp ns p.toNat)).length:Int))
noncomputable def D7 (ns:List Nd) (ps:List Int):List Nd:=ps.map (dZ ns ps)
theorem j5:∀ {d:Int}{ns:List Nd},d<=12->aM d ns<=12
 | _,[],h=>h
 | _,n::r,_=>j5 (ns:=r) (by show min (n.2+1) 12<=12;lia)
theorem rF {ns:List Nd}{i:Nat}{n:Nd} (hd:aQ 0 ns) (h:ns[i]? = some n):ay n.1=true/\0<=n.2/\n.2<=12:=by
 have e:ns=ns.take i++(n::ns.drop (i+1)):=by
  have q:=XT (i+1) ns;rw[X1,h,Yp] at q;exact q.symm
 rw[e] at hd;obtain⟨_,h1,h2,h3,_⟩:=aV.mp hd;have:=j5 (d:=0) (ns:=ns.take i) (by lia);exact⟨h1,h2,by lia⟩
theorem prefix_eq {a b:List Int} (h:a <+: b):b.take a.length=a:=by
 obtain⟨c,rfl⟩:=h;simp
theorem zX {ns:List Nd}{ps:List Int} (hd:aQ 0 ns) (hp:placesOk 0 ns.length ps):∀ i,i<=ns.length ->
  kept ps (way (ns.take i)) <+: (way ((below ps i).map (dZ ns ps))).map (fun j=>ps.getD j.toNat 0)/\aQ 0 ((below ps i).map (dZ ns ps))/\aM 0 ((below ps i).map (dZ ns ps))=min ((way ((below ps i).map (dZ ns ps))).length:Int) 12:=by
 intro i
 induction i with
 | zero =>
  intro _;rw[dY (i:=0) hp (by lia),Xj];exact⟨⟨[],rfl⟩,trivial,rfl⟩
 | succ i ih =>
  intro hi;obtain⟨h1,h2,h3⟩:=ih (by lia);have hn:ns[i]? = some ns[i]:=c_ (by lia);obtain⟨hm,d0,Sn⟩:=rF hd hn;rw[dc hn,hU,tO,jj hp];have pi:kept ps ((way (ns.take i)).take ns[i].2.toNat) <+: kept ps (way (ns.take i)):=tP (List.take_prefix ..);generalize hR:(below ps i).map (dZ ns ps)=R at h1 h2 h3 ⊢;by_cases hk:(i:Int)∈ps
  ·rw[u_ hk,I_,hR];rw[o_,Xg]
   have eN:dZ ns ps (i:Int)=(ns[i].1,((kept ps ((way (ns.take i)).take ns[i].2.toNat)).length:Int)):=by
    unfold dZ;rw[n_,hJ hn,A_,hn];rfl
   rw[tN,eN,n_];generalize hA:kept ps ((way (ns.take i)).take ns[i].2.toNat)=A at pi ⊢
   have lA:A.length<=ns[i].2.toNat:=by
    rw[←hA];refine Q_ (aaS ..) ?_;rw[Wp];lia
   have pV:A <+: (way R).map (fun j=>ps.getD j.toNat 0):=pi.trans h1;have lV:A.length<=(way R).length:=by have:=pV.length_le;rw[a_] at this;exact this
   have hl:R.length=(below ps i).length:=by rw[←hR,a_]
   have hg:ps.getD R.length 0=(i:Int):=by rw[hl,A_,yn hp (by lia) hk];rfl
   refine⟨?_,?_,?_⟩
   ·rw[I_,Zs,prefix_eq pV,o_,Xg,n_,hg];exact⟨[],by simp⟩
   ·exact aV.mpr ⟨h2,hm,by lia,by rw[h3];show (A.length:Int)<=_;lia,trivial⟩
   ·rw[bg];show min ((A.length:Int)+1) 12=_;rw[F_,Wp,Ws]
    lia
  ·rw[p_ hk,WJ,WJ,hR];exact⟨pi.trans h1,h2,h3⟩
theorem eP {ns:List Nd}{ps:List Int} (hd:aQ 0 ns) (hp:placesOk 0 ns.length ps):aQ 0 (D7 ns ps):=by
 have h:=(zX hd hp ns.length (w_ _)).2.1;rw[qF hp] at h;exact h
theorem zY (ps:List Int):∀ (acc:List (Key×V)) (j:Int),(dG ((ps.map fun q=>((Ya q:Key),V.bl true)).foldl (fun a p=>putK a p.1 p.2) acc) (Ya j)).isSome=(decide (j∈ps)||(dG acc (Ya j)).isSome):=by
 induction ps with
 | nil=>intro acc j;simp
 | cons p r ih =>
  intro acc j;rw[o_,acs,ih,zP];by_cases h:j=p
  ·subst h;simp
  ·have:¬ ((Ya j:Key)=Ya p):=fun z=>h (ac0 z)
   simp [this,h]
end SH
namespace L2
open PySem PySem.Spec PyProof.Rows
section
variable {X:Cx}
def CG:List V->Hp->VK->Prop:=fun xs H Q=>∃ n:Int,xs=[.int n]/\∀ r,H r=none->Q (.ref r) (upd H r (.xO 0 n))
def CH:List V->Hp->VK->Prop:=fun xs H Q=>∃ lo hi:Int,xs=[.int lo,.int hi]/\∀ r,H r=none->Q (.ref r) (upd H r (.xO lo hi))
theorem j6:bz X (.type "range") CG:=by
 intro pins s σ H xs us Q I r h;obtain⟨n,rfl,q⟩:=h;obtain⟨u,rfl,t,rfl⟩:=vals1 r;refine call_range_1 ⟨.ref s.heap.objs.size,_,I.laid (a:=s.heap.objs.size) (o:=.xO 0 n) (t':=s.toks+1+1) (fun b o e=>l_ _ e) (w_ _) ?_,rfl,q _ (I.be.fresh (w_ _))⟩;exact⟨_,_,_,v_ _ rfl⟩
theorem rG:bz X (.type "range") CH:=by
 intro pins s σ H xs us Q I r h;obtain⟨lo,hi,rfl,q⟩:=h
 cases r with
 | cons r1 rr =>
  cases rr with
  | cons r2 rr =>
   cases rr
   obtain⟨t,rfl⟩:=r1;obtain⟨t',rfl⟩:=r2;refine call_range_2 ⟨.ref s.heap.objs.size,_,I.laid (a:=s.heap.objs.size) (o:=.xO lo hi) (fun b o e=>l_ _ e) (w_ _) ?_,rfl,q _ (I.be.fresh (w_ _))⟩;exact⟨_,_,_,v_ _ rfl⟩
def Gq:List V->Hp->VK->Prop:=fun xs H Q=>∃ (r:Addr) (lo hi:Int),xs=[.ref r]/\H r=some (.xO lo hi)/\(-(2 ^ 62)<=lo/\lo<2 ^ 62 /\ -(2 ^ 62)<=hi/\hi<2 ^ 62)/\(hi-lo).toNat<=900/\∀ l,H l=none->Q (.ref l) (upd H l (.lst (((Wv (hi-lo).toNat).map fun i:Nat=>lo+(i:Int)).map V.int)))
theorem nH:∀ {ns:List Int}{vs:List Value},ns.length=vs.length->(∀ (i:Nat) (n:Int) (v:Value),ns[i]? = some n->vs[i]? = some v->∃ t,v=.int n t)->Vals (ns.map V.int) vs
 | [],[],_,_=>.nil
 | [],_::_,h,_=>by simp at h
 | _::_,[],h,_=>by simp at h
 | n::ns,v::vs,h,k=>by
  refine .cons ?_ (nH (by simpa using h) fun i n v h1 h2=>k (i+1) n v h1 h2);obtain⟨t,e⟩:=k 0 n v rfl rfl;exact⟨t,e⟩
theorem nI (hc:X.calm=true):bz X (.type "list") Gq:=by
 intro pins s σ H xs us Q I r h;obtain⟨ra,lo,hi,rfl,hr,⟨h1,h2,h3,h4⟩,hsz,q⟩:=h;obtain⟨u,rfl,rx⟩:=vals1 r
 cases rx
 have hA:X.A.handled=none:=I.ok.hd hc;obtain⟨t,u,v,e⟩:=(show aS X.prog X.w H s.heap ra (.xO lo hi) from I.be ra _ hr);have en:YW lo hi 1=(((hi-lo).toNat:Nat):Int):=by rw[abo];split<;>lia
 refine call_list_range hA (show acB s.heap ra lo hi 1 t u v from e) (small_one h1 h2 h3 h4) en (by lia) fun h' tk acc c kp he zL=>?_
 obtain⟨hz,Lc⟩:=zL;have z9:(1000:Nat)<=sizeLine:=by decide
 refine⟨.ref s.heap.objs.size,_,I.laid (a:=s.heap.objs.size) (o:=.lst (((Wv (hi-lo).toNat).map fun i:Nat=>lo+(i:Int)).map V.int)) (t':=tk) kp (w_ _) ⟨?_,acc.toList,c,?_,?_⟩,rfl,q _ (I.be.fresh (w_ _))⟩
 ·rw[a_,a_,Wu];lia
 ·refine nH (by rw[a_,Wu];simpa using hz.symm) fun i n w e1 e2=>?_
  rw[h_] at e1;obtain⟨j,ej,rfl⟩:=m_.mp e1;have hj:=(i_.mp ej);obtain⟨V8,Ld⟩:=hj;rw[abG] at Ld;subst Ld;obtain⟨t',e'⟩:=Lc i w (by simpa using e2);exact⟨t',by rw[e',Z2]⟩
 ·simpa using he
end
end L2
namespace SH
open PySem L2
theorem dH:∀ {lo m:Int}{ps:List Int},placesOk lo m ps↔(∀ p∈ps,lo<=p/\p<m)/\ps.Pairwise (·<·)
 | _,_,[]=>⟨fun _=>⟨(fun _ h=>nomatch h),Y8⟩,fun _=>trivial⟩
 | lo,m,p::r=>by
  constructor
  ·rintro⟨h1,h2,h3⟩;obtain⟨a,b⟩:=dH.mp h3;refine⟨fun q hq=>?_,YR.mpr ⟨fun q hq=>by have:=(a q hq).1;lia,b⟩⟩;rcases t_.mp hq with z | z
   ·subst z;exact⟨h1,h2⟩
   ·have:=a q z;lia
  ·rintro⟨a,b⟩;obtain⟨c,d⟩:=YR.mp b;have:=a p S_;exact⟨this.1,this.2,dH.mpr ⟨fun q hq=>⟨by have:=c q hq;lia,(a q (E_ _ hq)).2⟩,d⟩⟩
noncomputable def upTo (n:Nat):List Int:=(Wv n).map fun i:Nat=>(0:Int)+(i:Int)
theorem rH (n:Nat):placesOk 0 n (upTo n):=by
 refine dH.mpr ⟨fun p h=>?_,?_⟩
 ·obtain⟨i,hi,rfl⟩:=x_.mp h;have:=WK.mp hi
  lia
 ·refine List.pairwise_map.mpr (aaD.imp fun {x y} h=>?_)
  lia
theorem range_getD {α:Type} (xs:List α) (d:α):(Wv xs.length).map (fun i=>xs.getD i d)=xs:=by
 apply Z7;intro i;rw[h_];by_cases h:i<xs.length
 ·rw[Xm h,c_ h];show some (xs.getD i d)=_;rw[A_,c_ h];rfl
 ·rw[WI (by rw[Wu];lia),WI (by lia)];rfl
theorem zZ {ns:List Nd} (hd:aQ 0 ns):∀ i,i<=ns.length->aM 0 (ns.take i)=min ((way (ns.take i)).length:Int) 12:=by
 intro i
 induction i with
 | zero=>intro _;rw[Xj];rfl
 | succ i ih =>
  intro hi;have hn:ns[i]? = some ns[i]:=c_ (by lia);have h:=ih (by lia);obtain⟨_,d0,Sn⟩:=rF hd hn
  have e:ns=ns.take i++(ns[i]::ns.drop (i+1)):=by
   have q:=XT (i+1) ns;rw[X1,hn,Yp] at q;exact q.symm
  have o0:=hd;rw[e] at o0;obtain⟨_,_,_,h3,_⟩:=aV.mp o0;rw[dc hn,F_,Wp,Ws];have e2:ns.take (i+1)=ns.take i++[ns[i]]:=by rw[X1,hn];rfl
  rw[e2,bg];show min (ns[i].2+1) 12=_
  lia
theorem z0 {ns:List Nd} (hd:aQ 0 ns) {k:Nat}{n:Nd} (h:ns[k]? = some n):((pp ns k).length:Int)=n.2:=by
 have hk:=(i_.mp h).1;obtain⟨_,d0,Sn⟩:=rF hd h
 have e:ns=ns.take k++(n::ns.drop (k+1)):=by
  have q:=XT (k+1) ns;rw[X1,h,Yp] at q;exact q.symm
 have o0:=hd;rw[e] at o0;obtain⟨_,_,_,h3,_⟩:=aV.mp o0;have w:=zZ hd k (by lia);rw[hJ h,Wp]
 lia
end SH
namespace L2
open PySem PySem.Spec PyProof.Rows
theorem qG {x:V}:∀ {xs:List V}{us:List Value},Vals xs us->xs.all eK=true->us.countP (tu x)=xs.countP fun y=>zA y x
 | _,_,.nil,_=>rfl
 | y::xs,u::us,.cons r t,f=>by
  rw[WC,q_] at f;rw[ace,ace,vC r f.1,qG t f.2]
section
variable {X:Cx}
def w5 (K:e_):V->List V->Hp->VK->Prop:=fun x vs H Q=>∃ t xs y,x=.ref t/\vs=[y]/\eD K H t xs/\eK y=true/\xs.all eK=true/\Q (.int ((xs.countP fun z=>zA z y:Nat):Int)) H
theorem yo:Op X "tuple.count" (w5 X.K):=by
 intro pins s σ H x vs v us Q I rx rv h;obtain⟨t,xs,y,rfl,rfl,hq,fy,fs,q⟩:=h
 cases rx
 obtain⟨u,rfl,ru⟩:=rv.one;obtain⟨ai,r,p,hz⟩:=I.tuple hq;obtain⟨⟨oc,od,Um,zu⟩,ho,hc,n,hd⟩:=p
 replace hc:oc=.type "tuple" := hc
 replace hd:Um=.seq ai.toArray n:=hd
 subst hc hd;refine aaB aaV ⟨_,ho,rfl⟩ F.entry_tuple_count (F.args_tuple_count_2 _ _) (SeqAt.tuple_countAt t ai.toArray n od zu u (tu y)) ⟨ho,fun w hw=>fD ru fy r fs w (by simpa using hw),?_⟩;refine⟨.int _,H,I.tok _,⟨_,rfl⟩,?_⟩;rw[show ai.toArray.toList=ai by simp,qG r fs];exact q
end
def pq (H:Hp) (t:Addr) (xs:List V):Prop:=∃ o:Obj,H t=some (.dS o (.tup xs))/\o.cls=.type "tuple" /\ o.dict=none
theorem pq.sq {K:e_}{H:Hp}{t:Addr}{xs:List V} (h:pq H t xs):eD K H t xs:=let ⟨o,e,_⟩:=h;.inl (.inr ⟨o,e⟩)
theorem pq.keep {H H':Hp}{t:Addr}{xs:List V} (s:∀ b o,(∀ zs,o≠HO.lst zs)->H b=some o->H' b=some o) (h:pq H t xs):pq H' t xs:=let ⟨o,e,r⟩:=h;⟨o,s _ (.dS o _) (fun _ z=>nomatch z) e,r⟩
section
variable {X:Cx}
def Le (K:e_):List V->Hp->VK->Prop:=fun xs H Q=>∃ p ys,xs=[.ref p]/\cr K H p ys/\∀ l (o:Obj),H l=none->o.cls=.type "tuple" ->o.dict=none->Q (.ref l) (upd H l (.dS o (.tup ys)))
theorem yp:bz X (.type "tuple") (Le X.K):=by
 intro pins s σ H xs us Q I r h;obtain⟨p,ys,rfl,hq,q⟩:=h;obtain⟨u,rfl,rx⟩:=vals1 r
 cases rx
 obtain⟨ai,r',pl,hz⟩:=I.list hq;have hlen:=r'.length;refine call_tuple_list pl.isList (fun h' kp=>?_) (by simp only[B_]<;>lia);have I1:Inv X pins σ H { s with heap:=h' }:=I.kept (t':=s.toks) kp
 have I2:Inv X pins σ (upd H h'.objs.size (.dS { cls:=.type "tuple",data:=.seq ai.toArray } (.tup ys))) { s with heap:=h'.push { cls:=.type "tuple",data:=.seq ai.toArray } } :=
  I1.laid (t':=s.toks) (fun b o e=>l_ _ e) (w_ _) ⟨v_ _ rfl,hz,ai,r',acU _ _⟩
 exact⟨.ref h'.objs.size,_,I2,rfl,q _ _ (I1.be.fresh (w_ _)) rfl rfl⟩
def CI (K:e_) (to:TE) (t:TA):TE:=fun σ H Q=>to σ H fun x H1=>∃ p zs,x=.ref p/\pq H1 p zs/\t σ H1 fun xs H2=>w5 K x xs H2 Q
theorem yq {o e:Expr}{to:TE}{t:TA}{apos bB:Pos} (ho:PE X o to) (ha:PA X [e] t)
  (gZ:XH o "count" X.env (eval o X.env)=eval o X.env:=by rfl)
  (FT:((XO bB (T_ [e] X.env)).all (fun x => !x.1)&&(ZW bB (Yt [] X.env)).all (fun x=>x.1.isSome)
   && decide (([e]:List Expr).length+([]:List Zq).length+(if ([]:List Zq).isEmpty then 0 else 1)<30))=true:=by rfl)
  (br:(apos.endLine==bB.line)=true:=by rfl) (hs:T_ [e] X.env=(false,eval e X.env)::T_ [] X.env:=by rfl) (vD:(XO bB (T_ [] X.env)).any (·.1)=false:=by rfl) :
  PE X (.Call (.Attribute o "count" apos) [e] [] bB) (CI X.K to t):=by
 intro pins s σ H Q I h;refine aaA gZ FT br rfl (bf (ho pins s σ H _ I h) fun v s1 ⟨x,H1,I1,r1,p,zs,ex,⟨ob,hf,hc,hd⟩,q1⟩=>?_);subst ex
 cases r1
 obtain⟨e1,_⟩:=(show aS X.prog X.w H1 s1.heap p (.dS ob (.tup zs)) from I1.be p _ hf);refine⟨"tuple","tuple.count",PySem.F.plainAttrs_tuple,aaV,PySem.F.type_tuple_count,⟨ob,e1,hc⟩,fun a z=>by cases z;exact⟨ob,e1,hd⟩,?_⟩;have hA:=ha bB pins s1 σ H1 _ I1 q1;rw[hs] at hA ⊢;refine Y7 (by show (false||(XO bB (T_ [] X.env)).any (·.1))=false;rw[vD]<;>rfl) (aa4 ?_);exact bf hA fun us s2 ⟨vs,H2,I2,r2,q2⟩=>yo pins s2 σ H2 (.ref p) vs _ us Q I2 rfl r2 q2
end
theorem z6 {X:Cx}{i j:Nat}{x y:Str}{p1 p2 pos:Pos}{kk:Nat} (hc:X.calm=true) (hN:X.N.Nodup) (hi:X.N[i]? = some x) (hj:X.N[j]? = some y) (hx:Loc X.env.scope x) (hy:Loc X.env.scope y)
  (Uo : X.fn x = true ∨ X.env.scope.names.lookup x = some .local := by first | exact .inl rfl | exact .inr rfl | assumption) (Up : X.fn y = true ∨ X.env.scope.names.lookup y = some .local := by first | exact .inl rfl | exact .inr rfl | assumption) :
  PG X (.Tuple [.Name x p1,.Name y p2] kk pos) (zf X.K 2 (jT (dU i) (jT (dU j) ze))):=Fj hc (sW (mO hN hi hx Uo) (sW (mO hN hj hy Up) B6))
end L2
namespace SH
open PySem L2
theorem _root_.L2.pq.same {H H':Hp}{t:Addr}{xs:List V} (s:ah H H') (h:pq H t xs):pq H' t xs:=let ⟨o,e,r⟩:=h;⟨o,s _ _ e,r⟩
end SH
namespace PySem
open Sem (wp)
structure j7 (z TI TO i1 i2:Addr) (f1 f2:List Addr):Prop where
 zt:TO≠z
 kz:TI≠z
 kt:TI≠TO
 k1:TI≠i1
 k2:TI≠i2
 z1:z∉f1
 z2:z∉f2
 t1:TO∉f1
 t2:TO∉f2
 m1:i1∈f1
 m2:i2∈f2
 o1:i1∉f2
 o2:i2∉f1
section
variable {prog:N_}{w:World}{A:WO}{E:Value->j_->Prop}{s:j_}{z TI TO i1 i2:Addr}{f1 f2:List Addr}{n1 n2:Nat}{P1 P2:Nat->Value->Prop}{S1 S2:Nat->Heap->Prop}
theorem au {b:Addr}{h h':Heap} (e:Ye b h h') {c:Addr}{o:Obj} (hc:c≠b) (g:h.get? c=some o):h'.get? c=some o:=e.extBut _ _ hc g
theorem Draws.eE {it:Addr}{fp:List Addr}{n i:Nat}{P:Nat->Value->Prop}{St:Nat->Heap->Prop}{h h':Heap}{b:Addr} (D:Draws prog w A it fp n P St) (st:St i h) (hb:b∉fp) (e:Ye b h h'):St i h' :=
 D.frame i h h' st fun c hc o g=>au e (fun q=>hb (q▸hc)) g
theorem yr {i:Nat}{a b:Value}{Q:Value->j_->Prop} (W:j7 z TI TO i1 i2 f1 f2) (D1:Draws prog w A i1 f1 n1 P1 S1) (D2:Draws prog w A i2 f2 n2 P2 S2) (l1:i<n1) (l2:i<n2)
  (hz:IsZip s.heap z TI TO .none) (hI:X5 s.heap TI (.ref i1) (.ref i2)) (hO:X5 s.heap TO a b) (D8:S1 i s.heap) (xV:S2 i s.heap)
  (q:∀ h' tk x y,P1 i x->P2 i y->IsZip h' z TI TO (Xt s.heap.objs.size)->X5 h' TO x y->S1 (i+1) h'->S2 (i+1) h'->X5 h' s.heap.objs.size x y->(∀ c o,c≠z->c≠TO->c≠i1->c≠i2->s.heap.get? c=some o->h'.get? c=some o)->Q (.ref s.heap.objs.size) { s with heap:=h',toks:=tk }) :
  wpAny (model prog w) A (Zr.«zip.__next__» ⟨[.ref z],[]⟩) (fun fin s'=>∃ v,fin=.done (.ret v)/\Q v s') E s:=by
 refine d_ (m:=field (.ref z) 2) (WP hz rfl (x:=.bool false) rfl (d_ (m:=field (.ref z) 3) (WP hz rfl (x:=.ref TI) rfl (d_ (Xi hI rfl ?_)))));refine d_ (m:=YI (.ref z)) (d_ (WP hz rfl (x:=.none) rfl (r_ ?_)));simp only[YK];refine d_ (YQ (d_ (WP hz rfl (x:=.ref TO) rfl (d_ (XR hz (by simp) fun g1 D9 e1=>d_ ?_)))))
 replace D9:IsZip g1 z TI TO .ellipsis:=D9
 simp only[Zl,act,aaJ,ZX];refine d_ (d_ (aac (d_ (m:=WE (.ref i1)) (D1.item i _ _ _ l1 (D1.eE D8 W.z1 e1) fun x g2 D5 hx Lf e2=>r_ ?_))));have ne1:i1≠z:=fun q=>W.z1 (q▸W.m1)
 have ne2:i2≠z:=fun q=>W.z2 (q▸W.m2)
 have Qq:TO≠i1:=fun q=>W.t1 (q▸W.m1)
 have Uq:TO≠i2:=fun q=>W.t2 (q▸W.m2)
 have Lg:X5 g2 TO a b:=au e2 Qq (au e1 W.zt hO);refine d_ (Xi (s:={ s with heap:=g2,toks:=D5 }) Lg rfl (d_ (Zy (s:={ s with heap:=g2,toks:=D5 }) Lg fun g3 Oz e3=>d_ (acn (r_ ?_)))))
 replace Oz:X5 g3 TO x b:=Oz
 refine d_ (d_ (aac (d_ (m:=WE (.ref i2)) (D2.item i _ _ _ l2 (D2.eE (D2.eE (D2.eE xV W.z2 e1) W.o1 e2) W.t2 e3) fun y g4 Lh hy Qr e4=>r_ ?_))));have So:X5 g4 TO x b:=au e4 Uq Oz;refine d_ (Xi (s:={ s with heap:=g4,toks:=Lh }) So rfl (d_ (Zy (s:={ s with heap:=g4,toks:=Lh }) So fun g5 OA e5=>d_ (acn (r_ (r_ ?_))))))
 replace OA:X5 g5 TO x y:=OA
 have sz:g5.objs.size=s.heap.objs.size:=by rw[e5.1,e4.1,e3.1,e2.1,e1.1]
 have Sq:IsZip g5 z TI TO .ellipsis:=au e5 (WA W.zt) (au e4 (WA ne2) (au e3 (WA W.zt) (au e2 (WA ne1) D9)));have Ur:S1 (i+1) g5:=D1.eE (D1.eE (D1.eE Lf W.t1 e3) W.o2 e4) W.t1 e5;have Us:S2 (i+1) g5:=D2.eE Qr W.t2 e5;have k5:∀ c o,c≠z->c≠TO->c≠i1->c≠i2->s.heap.get? c=some o->g5.get? c=some o:=fun c o c1 c2 c3 c4 g=>au e5 c2 (au e4 c4 (au e3 c2 (au e2 c3 (au e1 c1 g))))
 refine d_ (Xi (s:={ s with heap:=g5,toks:=Lh }) OA rfl (d_ (wpAny_newTuple ?_)));refine d_ (m:=abk (.ref z) (.ref g5.objs.size)) ?_;have Sr:z<g5.objs.size:=z_ Sq;refine d_ (XR (s:={ s with heap:=g5.push { cls:=.type "tuple",data:=.seq #[x,y] },toks:=Lh }) (l_ _ Sq) (by simp) fun g7 Qs e7=>?_)
 replace Qs:IsZip g7 z TI TO (Xt g5.objs.size):=Qs
 refine XR Qs (by simp) fun g8 OB e8=>?_
 replace OB:IsZip g8 z TI TO (Xt g5.objs.size):=OB
 have up:∀ c o,c≠z->g5.get? c=some o->g8.get? c=some o:=fun c o c1 g=>au e8 c1 (au e7 c1 (l_ _ g))
 have hT:X5 g8 g5.objs.size x y:=au e8 (Y2 Sr) (au e7 (Y2 Sr) (v_ _ rfl));rw[sz] at OB hT;refine r_ ⟨_,rfl,?_⟩;rw[sz];exact q g8 Lh x y hx hy OB (up _ _ W.zt OA) (D1.frame _ _ _ Ur fun c hc o g=>up c o (fun q=>W.z1 (q▸hc)) g) (D2.frame _ _ _ Us fun c hc o g=>up c o (fun q=>W.z2 (q▸hc)) g) hT fun c o c1 c2 c3 c4 g=>up c o c1 (k5 c o c1 c2 c3 c4 g)
theorem z7 {i:Nat}{a b:Value}{Q:Fin->j_->Prop} (W:j7 z TI TO i1 i2 f1 f2) (D1:Draws prog w A i1 f1 n1 P1 S1) (D2:Draws prog w A i2 f2 n2 P2 S2) (he:i=n1∨(i<n1/\i=n2))
  (hz:IsZip s.heap z TI TO .none) (hI:X5 s.heap TI (.ref i1) (.ref i2)) (hO:X5 s.heap TO a b) (D8:S1 i s.heap) (xV:S2 i s.heap)
  (q:∀ h' tk e,(∀ c o,c≠z->c≠TO->c≠i1->c≠i2->s.heap.get? c=some o->h'.get? c=some o)->(∃ o,h'.get? e=some o/\o.cls=.type "StopIteration")->E (.ref e) { s with heap:=h',toks:=tk }) :
  wpAny (model prog w) A (Zr.«zip.__next__» ⟨[.ref z],[]⟩) Q E s:=by
 have ne1:i1≠z:=fun q=>W.z1 (q▸W.m1)
 have ne2:i2≠z:=fun q=>W.z2 (q▸W.m2)
 have Qq:TO≠i1:=fun q=>W.t1 (q▸W.m1)
 refine d_ (m:=field (.ref z) 2) (WP hz rfl (x:=.bool false) rfl (d_ (m:=field (.ref z) 3) (WP hz rfl (x:=.ref TI) rfl (d_ (Xi hI rfl ?_)))));refine d_ (m:=YI (.ref z)) (d_ (WP hz rfl (x:=.none) rfl (r_ ?_)));simp only[YK];refine d_ (YQ (d_ (WP hz rfl (x:=.ref TO) rfl (d_ (XR hz (by simp) fun g1 D9 e1=>d_ ?_)))))
 replace D9:IsZip g1 z TI TO .ellipsis:=D9
 simp only[Zl,act,aaJ,ZX]
 have away:∀ {g:Heap}{e:Addr},IsZip g z TI TO .ellipsis->(∃ o,g.get? e=some o/\o.cls=.type "StopIteration")->e≠z:=fun hg ⟨o,ho,hc⟩ x=>by
  subst x;rw[hg] at ho
  cases ho
  simp at hc
 refine d_ (d_ (aac ?_));refine d_ (m:=WE (.ref i1)) ?_;rcases he with rfl | ⟨lt,rfl⟩
 ·refine D1.done _ _ _ (D1.eE D8 W.z1 e1) fun g2 e x2 hs=>?_
  have Qt:IsZip g2 z TI TO .ellipsis:=x2 _ _ (WA ne1) D9;have Qu:=away Qt hs;obtain⟨o,ho,hc⟩:=hs;exact XR Qt (by simp) fun g3 _ e3=>q g3 s.toks e (fun c o c1 _ c3 _ g=>au e3 c1 (x2 _ _ c3 (au e1 c1 g))) ⟨o,au e3 Qu ho,hc⟩
 ·refine D1.item i _ _ _ lt (D1.eE D8 W.z1 e1) fun x g2 D5 hx Lf e2=>r_ ?_
  have Lg:X5 g2 TO a b:=au e2 Qq (au e1 W.zt hO);refine d_ (Xi (s:={ s with heap:=g2,toks:=D5 }) Lg rfl (d_ (Zy (s:={ s with heap:=g2,toks:=D5 }) Lg fun g3 Oz e3=>d_ (acn (r_ ?_)))));refine d_ (d_ (aac ?_));refine d_ (m:=WE (.ref i2)) ?_;refine D2.done _ _ _ (D2.eE (D2.eE (D2.eE xV W.z2 e1) W.o1 e2) W.t2 e3) fun g4 e x4 hs=>?_
  have Ss:IsZip g4 z TI TO .ellipsis:=x4 _ _ (WA ne2) (au e3 (WA W.zt) (au e2 (WA ne1) D9));have Qu:=away Ss hs;obtain⟨o,ho,hc⟩:=hs;exact XR Ss (by simp) fun g5 _ e5=>q g5 D5 e (fun c o c1 c2 c3 c4 g=>au e5 c1 (x4 _ _ c4 (au e3 c2 (au e2 c3 (au e1 c1 g))))) ⟨o,au e5 Qu ho,hc⟩
theorem vM {i:Nat}{a b:Value}{Q:k_ Value->j_->Prop} (W:j7 z TI TO i1 i2 f1 f2) (D1:Draws prog w A.in1 i1 f1 n1 P1 S1) (D2:Draws prog w A.in1 i2 f2 n2 P2 S2) (l1:i<n1) (l2:i<n2)
  (hz:IsZip s.heap z TI TO .none) (hI:X5 s.heap TI (.ref i1) (.ref i2)) (hO:X5 s.heap TO a b) (D8:S1 i s.heap) (xV:S2 i s.heap)
  (q:∀ h' tk x y,P1 i x->P2 i y->IsZip h' z TI TO (Xt s.heap.objs.size)->X5 h' TO x y->S1 (i+1) h'->S2 (i+1) h'->X5 h' s.heap.objs.size x y->(∀ c o,c≠z->c≠TO->c≠i1->c≠i2->s.heap.get? c=some o->h'.get? c=some o)->Q (some (.ref s.heap.objs.size)) { s with heap:=h',toks:=tk }) :
  wpAny (model prog w) A (ab9 (.ref z)) Q E s:=by
 have hT:s.TypeIs (.ref z) "zip" := ⟨_,hz,rfl⟩;unfold ab9;exact d_ (wpAny_attempt (Xc (name:=W_ "__next__") hT ZC (Xr ZC hT F.entry_zip_next (yr W D1 D2 l1 l2 hz hI hO D8 xV fun h' tk x y a1 a2 a3 a4 a5 a6 a7 a8=>r_ (q h' tk x y a1 a2 a3 a4 a5 a6 a7 a8)) (ab1 _))))
theorem yt {i:Nat}{a b:Value}{Q:k_ Value->j_->Prop} (W:j7 z TI TO i1 i2 f1 f2) (D1:Draws prog w A.in1 i1 f1 n1 P1 S1) (D2:Draws prog w A.in1 i2 f2 n2 P2 S2) (he:i=n1∨(i<n1/\i=n2))
  (hz:IsZip s.heap z TI TO .none) (hI:X5 s.heap TI (.ref i1) (.ref i2)) (hO:X5 s.heap TO a b) (D8:S1 i s.heap) (xV:S2 i s.heap)
  (q:∀ h' tk,(∀ c o,c≠z->c≠TO->c≠i1->c≠i2->s.heap.get? c=some o->h'.get? c=some o)->Q none { s with heap:=h',toks:=tk }):wpAny (model prog w) A (ab9 (.ref z)) Q E s:=by
 have hT:s.TypeIs (.ref z) "zip" := ⟨_,hz,rfl⟩;unfold ab9;refine d_ (wpAny_attempt (Xc (name:=W_ "__next__") hT ZC (Xr ZC hT F.entry_zip_next (z7 W D1 D2 he hz hI hO D8 xV fun h' tk e hk hs=>?_) (ab1 _))));obtain⟨o,ho,hc⟩:=hs;exact d_ (wpAny_isInstance (T := "StopIteration") (b:=true) ⟨o,ho,hc⟩ isSubtype_stop (r_ (q _ _ hk)))
noncomputable def JR (l:Addr):Obj:={ cls:=.type "tuple_iterator",data:=.fields #[.ref l,.int 0 0] }
theorem vN (l1 l2:Addr) (xs ys:Array Value) :
  Meets (Zr.«zip.__new__» ⟨[.type "zip",.ref l1,.ref l2],[]⟩) (fun _ R s=>s.heap.IsTuple l1 xs/\s.heap.IsTuple l2 ys /\
   ∀ g1 g2 g3 g4 g5:Heap,g1=s.heap.push (JR l1)->g2=g1.push (JR l2)->g3=g2.push { cls:=.type "tuple",data:=.seq #[.ref s.heap.objs.size,.ref g1.objs.size] }->g4=g3.push { cls:=.type "tuple",data:=.seq #[.none,.none] } ->
    g5=g4.push { cls:=.type "zip",data:=.fields #[.none,.bool false,.bool false,.ref g2.objs.size,.ref g3.objs.size] }->R (.ok (.ret (.ref g4.objs.size))) { s with heap:=g5 }) :=
 .of_wp fun prog w A R s h=>by
  obtain⟨hp,g,d,tk,os⟩:=s;obtain⟨h1,h2,h⟩:=h;have Qn:=sub_zip;have hA:abY (acm ⟨hp,g,d,tk,os⟩) l1 xs:=h1;have hB:abY (acm ⟨hp.push (JR l1),g,d,tk,os⟩) l2 ys:=Heap.IsTuple.push h2 _;unfold JR at hB
  wp_walk using Yg hA,Yg hB
  exact⟨_,rfl,h _ _ _ _ _ rfl rfl rfl rfl rfl⟩
theorem yu {l1 l2:Addr}{xs ys:Array Value}{Q:Value->j_->Prop} (h1:s.heap.IsTuple l1 xs) (h2:s.heap.IsTuple l2 ys)
  (q:∀ h',IsZip h' (s.heap.objs.size+4) (s.heap.objs.size+2) (s.heap.objs.size+3) .none->X5 h' (s.heap.objs.size+2) (.ref s.heap.objs.size) (.ref (s.heap.objs.size+1))->X5 h' (s.heap.objs.size+3) .none .none ->
   h'.IsTupleIter s.heap.objs.size l1 0->h'.IsTupleIter (s.heap.objs.size+1) l2 0->(∀ c o,s.heap.get? c=some o->h'.get? c=some o)->Q (.ref (s.heap.objs.size+4)) { s with heap:=h' }) :
  wpAny (model prog w) A (call (.type "zip") [.ref l1,.ref l2]) Q E s:=by
 refine callType_new F.called_zip (by decide) (F.typeCall_zip_2 _ _) (F.newCall_zip_2 _ _) (fun obj=>F.args_object_init_3 obj _ _) F.entry_zip_new (vN l1 l2 xs ys) ⟨h1,h2,?_⟩;intro g1 g2 g3 g4 g5 e1 e2 e3 e4 e5;have n1:g1.objs.size=s.heap.objs.size+1:=by rw[e1];exact WX ..
 have n2:g2.objs.size=s.heap.objs.size+2:=by rw[e2,WX,n1]
 have n3:g3.objs.size=s.heap.objs.size+3:=by rw[e3,WX,n2]
 have n4:g4.objs.size=s.heap.objs.size+4:=by rw[e4,WX,n3]
 have u1:∀ c o,s.heap.get? c=some o->g1.get? c=some o:=fun c o e=>by rw[e1];exact l_ _ e
 have u2:∀ c o,g1.get? c=some o->g2.get? c=some o:=fun c o e=>by rw[e2];exact l_ _ e
 have u3:∀ c o,g2.get? c=some o->g3.get? c=some o:=fun c o e=>by rw[e3];exact l_ _ e
 have u4:∀ c o,g3.get? c=some o->g4.get? c=some o:=fun c o e=>by rw[e4];exact l_ _ e
 have u5:∀ c o,g4.get? c=some o->g5.get? c=some o:=fun c o e=>by rw[e5];exact l_ _ e
 have a1:g1.get? s.heap.objs.size=some (JR l1):=by rw[e1];exact v_ _ rfl
 have a2:g2.get? g1.objs.size=some (JR l2):=by rw[e2];exact v_ _ rfl
 have a3:g3.get? g2.objs.size=some { cls:=.type "tuple",data:=.seq #[.ref s.heap.objs.size,.ref g1.objs.size] }:=by rw[e3];exact v_ _ rfl
 have a4:g4.get? g3.objs.size=some { cls:=.type "tuple",data:=.seq #[.none,.none] }:=by rw[e4];exact v_ _ rfl
 have a5:g5.get? g4.objs.size=some { cls:=.type "zip",data:=.fields #[.none,.bool false,.bool false,.ref g2.objs.size,.ref g3.objs.size] }:=by rw[e5];exact v_ _ rfl
 rw[n1] at a2 a3;rw[n2] at a3 a5;rw[n3] at a4 a5;rw[n4] at a5;show _/\_;rw[n4];exact⟨⟨_,a5,rfl⟩,q g5 a5 (u5 _ _ (u4 _ _ a3)) (u5 _ _ a4) ⟨_,u5 _ _ (u4 _ _ (u3 _ _ (u2 _ _ a1))),rfl,rfl⟩ ⟨_,u5 _ _ (u4 _ _ (u3 _ _ a2)),rfl,rfl⟩ fun c o e=>u5 _ _ (u4 _ _ (u3 _ _ (u2 _ _ (u1 _ _ e))))⟩
end
end PySem
namespace L2
open PySem PySem.Spec PyProof.Rows
noncomputable def Gr (a b:Addr):It :=
 ⟨fun i H=>∃ xs ys x y,Rd H a (.tup xs)/\Rd H b (.tup ys)/\xs[i]? = some x/\ys[i]? = some y,fun i H v H'=>∃ T x y,H T=none/\v=.ref T/\(∀ xs,Rd H a (.tup xs)->xs[i]? = some x)/\(∀ ys,Rd H b (.tup ys)->ys[i]? = some y)/\H'=upd H T (.tup [x,y]),
  fun i H=>∃ xs ys,Rd H a (.tup xs)/\Rd H b (.tup ys)/\i=min xs.length ys.length⟩
theorem Rd.one {H:Hp}{a:Addr}{xs ys:List V} (h1:Rd H a (.tup xs)) (h2:Rd H a (.tup ys)):xs=ys:=by
 rcases h1 with h1 | ⟨o,h1⟩<;>rcases h2 with h2 | ⟨o',h2⟩<;>(rw[h1] at h2;cases h2<;>rfl)
theorem Rd.ne {H:Hp}{a b:Addr}{u:HO} (h:Rd H a u) (n:H b=none):a≠b:=fun e=>by
 rcases h with h | ⟨o,h⟩<;>(rw[e,n] at h;cases h)
structure lg (z TI TO i1 i2:Addr):Prop where
 tz:TO≠z
 kz:TI≠z
 kt:TI≠TO
 k1:TI≠i1
 k2:TI≠i2
 z1:i1≠z
 z2:i2≠z
 t1:TO≠i1
 t2:TO≠i2
 ii:i1≠i2
theorem lg.of (n:Nat):lg (n+4) (n+2) (n+3) n (n+1):=by constructor<;>(intro e;have e':(_:Nat)=_:=e;lia)
theorem lg.away {z TI TO i1 i2 a b:Addr} (d:lg z TI TO i1 i2) (ha:∀ c∈[z,TI,TO,i1,i2],a≠c) (hb:∀ c∈[z,TI,TO,i1,i2],b≠c):j7 z TI TO i1 i2 [i1,a] [i2,b] where
 zt:=d.tz
 kz:=d.kz
 kt:=d.kt
 k1:=d.k1
 k2:=d.k2
 z1:=by simp [WA d.z1,WA (ha z (by simp))]
 z2:=by simp [WA d.z2,WA (hb z (by simp))]
 t1:=by simp [d.t1,WA (ha TO (by simp))]
 t2:=by simp [d.t2,WA (hb TO (by simp))]
 m1:=by simp
 m2:=by simp
 o1:=by simp [d.ii,WA (hb i1 (by simp))]
 o2:=by simp [WA d.ii,WA (ha i2 (by simp))]
theorem yv {P:N_}{w:World}{K:e_}{elts:List Expr}{kk:Nat}{tp:Pos}{z TI TO i1 i2:Addr} (a b:Addr) (d:lg z TI TO i1 i2):Turn P w K (.Tuple elts kk tp) (Gr a b) [z,TI,TO,i1,i2] z (fun i h=>IsZip h z TI TO .none/\X5 h TI (.ref i1) (.ref i2)/\(∃ x y,X5 h TO x y)/\h.IsTupleIter i1 a i/\h.IsTupleIter i2 b i) where
 mem:=by simp
 obj:=fun i h st c hc=>by
  obtain⟨hz,hI,⟨x,y,hO⟩,⟨o1,g1,c1,d1⟩,⟨o2,g2,c2,d2⟩⟩:=st;simp only[t_,WM,Yu] at hc;rcases hc with rfl | rfl | rfl | rfl | rfl
  ·exact⟨_,hz,fun v q=>by have q':aa0 _=aai v:=q;cases q'⟩
  ·exact⟨_,hI,fun v q=>by have q':acK _ _=aai v:=q;cases q'⟩
  ·exact⟨_,hO,fun v q=>by have q':acK _ _=aai v:=q;cases q'⟩
  ·exact⟨o1,g1,fun v q=>by rw[d1] at q;cases q⟩
  ·exact⟨o2,g2,fun v q=>by rw[d2] at q;cases q⟩
 keep:=fun i h h' st k=>by
  obtain⟨hz,hI,⟨x,y,hO⟩,h1,h2⟩:=st;exact⟨k z (by simp) _ hz,k TI (by simp) _ hI,⟨x,y,k TO (by simp) _ hO⟩,h1.at fun o e=>k i1 (by simp) o e,h2.at fun o e=>k i2 (by simp) o e⟩
 item:=by
  intro X hP hw hK hc i pins s σ H E I hf st hg;subst hP hw hK;obtain⟨xs,ys,x,y,ha,hb,hx,hy⟩:=hg;obtain⟨ai,rv,p,_⟩:=I.tuple (.inl ha);obtain⟨jZ,OC,p2,_⟩:=I.tuple (.inl hb);obtain⟨u,hu,ru⟩:=rv.get hx;obtain⟨v,hv,Qi⟩:=OC.get hy;have hA:X.A.handled=none:=I.ok.hd hc;obtain⟨hz,hI,⟨x0,y0,hO⟩,h1,h2⟩:=id st;have na:∀ c∈[z,TI,TO,i1,i2],a≠c:=fun c hc=>ha.ne (hf c hc).1
  have nb:∀ c∈[z,TI,TO,i1,i2],b≠c:=fun c hc=>hb.ne (hf c hc).1
  have li:i<ai.toArray.size:=by have:=(i_.mp hu).1;simpa using this
  have Ut:i<jZ.toArray.size:=by have:=(i_.mp hv).1;simpa using this
  refine vM (d.away na nb) (Draws.tup (by exact hA) i1 a (na i1 (by simp)) ai.toArray) (Draws.tup (by exact hA) i2 b (nb i2 (by simp)) jZ.toArray) li Ut hz hI hO ⟨h1,p⟩ ⟨h2,p2⟩ fun h' tk u' v' Sv zn a3 a4 a5 a6 a7 a8=>?_
  have eu:u'=u:=by
   have q:ai.toArray[i]? = some u:=by simpa using hu
   rw[q] at Sv;exact (K_ Sv).symm
  have ev:v'=v:=by
   have q:jZ.toArray[i]? = some v:=by simpa using hv
   rw[q] at zn;exact (K_ zn).symm
  subst eu ev;refine⟨_,rfl,wpAny_letOwnedTupleGo_zip (s:={ s with heap:=h',toks:=tk }) a3 fun g Gu e'=>?_⟩
  have kp:∀ c o,c∉[z,TI,TO,i1,i2]->s.heap.get? c=some o->g.get? c=some o:=fun c o hc q=>by
   simp only[t_,WM,Yu,not_or] at hc;exact au e' hc.1 (a8 c o hc.1 hc.2.2.1 hc.2.2.2.1 hc.2.2.2.2 q)
  have nT:∀ c∈[z,TI,TO,i1,i2],c≠s.heap.objs.size:=fun c hc=>by
   have:∃ o,s.heap.get? c=some o:=by
    simp only[t_,WM,Yu] at hc;rcases hc with rfl | rfl | rfl | rfl | rfl
    ·exact⟨_,hz⟩
    ·exact⟨_,hI⟩
    ·exact⟨_,hO⟩
    ·obtain⟨o,q,_⟩:=h1;exact⟨o,q⟩
    ·obtain⟨o,q,_⟩:=h2;exact⟨o,q⟩
   obtain⟨o,q⟩:=this;exact R_ (z_ q)
  have new:aS X.prog X.w (upd H s.heap.objs.size (.tup [x,y])) g s.heap.objs.size (.tup [x,y]) :=
   ⟨by show 2<=sizeLine;decide,[u',v'],.cons ru (.cons Qi .nil),_,au e' (WA (nT z (by simp))) a7,rfl,_,rfl⟩
  refine⟨.ref s.heap.objs.size,_,I.nF (ch:=[z,TI,TO,i1,i2]) (t':=tk) hf kp (w_ _) new,rfl,⟨s.heap.objs.size,x,y,I.be.fresh (w_ _),rfl,fun sR h=>by rw[←ha.one h];exact hx,fun V9 h=>by rw[←hb.one h];exact hy,rfl⟩,?_,fun c hc=>?_⟩
  ·exact⟨Gu,au e' d.kz (a8 _ _ d.kz d.kt d.k1 d.k2 hI),⟨_,_,au e' d.tz a4⟩,a5.1.at fun o q=>au e' d.z1 q,a6.1.at fun o q=>au e' d.z2 q⟩
  ·rw[aw (nT c hc)];exact (hf c hc).1
 done:=by
  intro X hP hw hK hc i pins s σ H E I hf st hg;subst hP hw hK;obtain⟨xs,ys,ha,hb,hi⟩:=hg;obtain⟨ai,rv,p,_⟩:=I.tuple (.inl ha);obtain⟨jZ,OC,p2,_⟩:=I.tuple (.inl hb);have hA:X.A.handled=none:=I.ok.hd hc;obtain⟨hz,hI,⟨x0,y0,hO⟩,h1,h2⟩:=id st;have na:∀ c∈[z,TI,TO,i1,i2],a≠c:=fun c hc=>ha.ne (hf c hc).1
  have nb:∀ c∈[z,TI,TO,i1,i2],b≠c:=fun c hc=>hb.ne (hf c hc).1
  have e1:=rv.length;have e2:=OC.length;refine yt (d.away na nb) (Draws.tup (by exact hA) i1 a (na i1 (by simp)) ai.toArray) (Draws.tup (by exact hA) i2 b (nb i2 (by simp)) jZ.toArray) (i:=i) (by simp only[B_];lia) hz hI hO ⟨h1,p⟩ ⟨h2,p2⟩ fun h' tk k1=>⟨rfl,I.wX (ch:=[z,TI,TO,i1,i2]) (t':=tk) hf fun c o hc q=>?_⟩
  simp only[t_,WM,Yu,not_or] at hc;exact k1 c o hc.1 hc.2.2.1 hc.2.2.2.1 hc.2.2.2.2 q
 self:=fun _ _ _ _ _ st h=>wpAny_pyIter_zip st.1 h
section
variable {X:Cx}
def Li (ta:TA):TI:=fun σ H R=>ta σ H fun vs H1=>∃ a b xs ys,vs=[.ref a,.ref b]/\Rd H1 a (.tup xs)/\Rd H1 b (.tup ys)/\R (Gr a b) H1
theorem CJ {a b:Expr}{ta:TA}{p pos:Pos}{elts:List Expr}{kk:Nat}{tp:Pos} (hg:Gl X "zip") (hm:X.mg "zip" = none) (ha:PA X [a,b] ta) (hs:T_ [a,b] X.env=[(false,eval a X.env),(false,eval b X.env)]:=by rfl) (mP:T_ [b] X.env=[(false,eval b X.env)]:=by rfl) :
  PI X (.Tuple elts kk tp) (.Call (.Name "zip" p) [a,b] [] pos) (Li ta):=by
 intro pins s σ H R I h;refine Call_ (gX I hg hm (show W8 "zip" = some (.type "zip") by decide +kernel) (WW (bf (ha pos pins s σ H _ I h) fun us s1 ⟨vs,H1,I1,r1,q1⟩=>?_) (by rw[hs,mP]) (by rw[mP];rfl)));obtain⟨l1,l2,xs,ys,e,h1,h2,q⟩:=q1;subst e
 cases r1 with
 | cons r rr =>
  cases rr with
  | cons r' rr =>
   cases rr
   cases r
   cases r'
   obtain⟨ai,rv,p,hz⟩:=I1.tuple (.inl h1);obtain⟨jZ,OC,p2,Qt⟩:=I1.tuple (.inl h2);refine yu p p2 fun h' hz hI hO g1 g2 kp=>wpAny_pyIter_zip hz ⟨s1.heap.objs.size+4,[s1.heap.objs.size+4,s1.heap.objs.size+2,s1.heap.objs.size+3,s1.heap.objs.size,s1.heap.objs.size+1],_,_,H1,rfl,I1.kept (t':=s1.toks) kp,yv l1 l2 (lg.of _),⟨hz,hI,⟨_,_,hO⟩,g1,g2⟩,fun c hc=>?_,q⟩
   ·have:s1.heap.objs.size<=c:=by
     simp only[t_,WM,Yu] at hc;rcases hc with rfl | rfl | rfl | rfl | rfl
     ·exact Zm _ _
     ·exact Zm _ _
     ·exact Zm _ _
     ·exact w_ _
     ·exact Zm _ _
    exact I1.ve this (I1.be.fresh this)
end
end L2
namespace HT
open PySem PySem.Spec PyProof.Rows
section
variable {prog:N_}{w:World}{A:WO}{E:Value->j_->Prop}{s:j_}
theorem j8 {t sl:Addr}{items:Array Value}{vl vu:Value}{lo hi:k_ Int}{Q:Value->j_->Prop} (ht:IsTup s.heap t items) (hs:s.heap.IsSliceOf sl vl vu .none) (pl:aay vl lo) (pu:aay vu hi)
  (hw:bS items.size 0 lo=0/\bS items.size items.size hi=items.size) (h:Q (.ref t) s):wpAny (model prog w) A (Z6 (.ref t) (.ref sl)) Q E s:=by
 obtain⟨os,FN,Oj,Cg⟩:=id hs;have Pu:s.TypeIs (.ref sl) "slice" := ⟨os,FN,Oj⟩;unfold Z6
 try with_reducible refine Zp ?_
 first | refine d_ (r_ ?_) | skip
 refine d_ (wpAny_sequenceKey ht.typeIs (by decide) ?_)
 refine d_ (Xc (name:=W_ "__getitem__") ht.typeIs WB
  (Xr WB ht.typeIs abi ?_ (args_tuple_getitem _ _)))
 show wpAny _ _ (ZV (.ref t) >>= _) _ _ s;refine d_ (tupleItemsOf_ ht ?_);refine d_ (ZM Pu ?_);rw[u_ (by decide)];refine d_ (fC hs pl pu ?_)
 have Qv:(((bS items.size 0 lo:Nat):Int)==0&&(1:Int)==1&&(bS items.size items.size hi-bS items.size 0 lo)==items.size)=true:=by
  rw[hw.1,hw.2];simp
 show wpAny _ _ (if (((bS items.size 0 lo:Nat):Int)==0&&(1:Int)==1&&(bS items.size items.size hi-bS items.size 0 lo)==items.size)=true then _ else _) _ _ s;rw[u_ Qv];refine d_ (m:=Builtin.Tuple.tupleIsExact (.ref t)) ?_;refine d_ (ZM ht.typeIs (r_ ?_));rw[u_ (by decide)];exact d_ (YQ (r_ ⟨_,rfl,r_ h⟩))
end
end HT
namespace L2
open PySem PySem.Spec PyProof.Rows
def Lj (K:e_):V->k_ Int->k_ Int->Hp->VK->Prop:=fun x lo hi H Q=>∃ a xs,x=.ref a/\eD K H a xs /\
 ((HT.bS xs.length 0 lo=0/\HT.bS xs.length xs.length hi=xs.length)->Q (.ref a) H)/\(¬ (HT.bS xs.length 0 lo=0/\HT.bS xs.length xs.length hi=xs.length)->∀ p,H p=none->Q (.ref p) (upd H p (.tup (mr xs lo hi))))
theorem CK {X:Cx}:KI X (Lj X.K):=by
 intro pins s σ H x v vl vu lo hi sl Q I rx hs pl pu h;obtain⟨a,xs,rfl,hx,q1,q2⟩:=h;by_cases hw:HT.bS xs.length 0 lo=0/\HT.bS xs.length xs.length hi=xs.length
 ·cases rx
  obtain⟨ai,r,ht,hz⟩:=I.tuple hx;have hlen:ai.toArray.size=xs.length:=by rw[B_];exact r.length.symm
  refine⟨"tuple",_,WB.lookup,ht.typeIs,?_⟩;exact HT.j8 ht hs pl pu (by rw[hlen];exact hw) ⟨.ref a,H,I,rfl,q1 hw⟩
 ·exact FO pins s σ H _ v vl vu lo hi sl Q I rx hs pl pu ⟨a,xs,rfl,hx,hw,q2 hw⟩
end L2
namespace L2
open PySem PySem.Spec PyProof.Rows
section
variable {X:Cx}
def Ll (K:e_):R2:=fun x y H Q=>∃ p xs d ds,y=.ref p/\cr K H p xs/\bQ K H x d/\dC K H xs ds/\J_ d=true/\(∀ e∈ds,J_ e=true)/\Q (.bl (ds.any fun e=>P_ e d)) H
inductive JS {α β:Type} (R:α->β->Prop):List α->List β->Prop
 | nil:JS R [] []
 | cons {a:α}{b:β}{as:List α}{bs:List β}:R a b->JS R as bs->JS R (a::as) (b::bs)
theorem dC.reads {pins:List (Addr×Obj)}{σ:St}{H:Hp}{s:j_} (I:Inv X pins σ H s):∀ {xs:List V}{ds:List H_},dC X.K H xs ds->(∀ e∈ds,J_ e=true)->∀ us,Vals xs us->JS (fun u d=>(∃ as,Reads s.heap u d as)/\J_ d=true) us ds
 | _,_,.nil,_,_,.nil=>.nil
 | _,_,.cons h1 h2,f,_,.cons r1 r2=>.cons ⟨h1.reads I _ r1,f _ S_⟩ (dC.reads I h2 (fun e he=>f e (E_ _ he)) _ r2)
theorem rJ {d:H_}{e:Value->Bool}{R:Value->H_->Prop}:∀ {us:List Value}{ds:List H_},JS R us ds->(∀ u d',R u d'->e u=P_ d' d)->us.any e=ds.any fun x=>P_ x d
 | _,_,.nil,_=>rfl
 | u::us,d'::ds,.cons r t,f=>by
  rw[Ym,Ym,f u d' r,rJ t f]
theorem rK {α β:Type}{R:α->β->Prop}:∀ {us:List α}{ds:List β},JS R us ds->∀ u∈us,∃ d,R u d
 | _,_,.nil,u,hu=>by cases hu
 | v::us,d::ds,.cons r t,u,hu=>by
  rcases t_.mp hu with rfl | hu
  ·exact⟨d,r⟩
  ·exact rK t u hu
theorem Gv (hu:X.A.units+66<cLine):eV X (Wx .In) (Ll X.K):=by
 intro pins s σ H x y v u Q I rx ry h;obtain⟨p,xs,d,ds,rfl,hq,hd,Cg,s1,s2,q⟩:=h
 cases ry
 obtain⟨as,ra⟩:=hd.reads I v rx;obtain⟨ai,r,pl,hz⟩:=I.list hq;have F2:=dC.reads I Cg s2 ai r
 classical
 let e:Value->Bool:=fun w=>if h:∃ d',(∃ bs,Reads s.heap w d' bs)/\J_ d'=true then P_ h.choose d else false
 have he:∀ w d',((∃ bs,Reads s.heap w d' bs)/\J_ d'=true)->e w=P_ d' d:=fun w d' hx=>by
  have tL:∃ d',(∃ bs,Reads s.heap w d' bs)/\J_ d'=true:=⟨d',hx⟩;show (if h:∃ d',(∃ bs,Reads s.heap w d' bs)/\J_ d'=true then P_ h.choose d else false)=_;rw[dif_pos tL];obtain⟨⟨cs,rc⟩,sc⟩:=tL.choose_spec;obtain⟨⟨bs,rb⟩,sb⟩:=hx;rw[abH _ _ _ _ _ (Xk sc) rc rb]
 refine aco e pl.isList (fun w hw=>?_) ⟨.bl _,H,I,rfl,?_⟩
 ·obtain⟨d',hx⟩:=rK F2 w (by simpa using hw);rw[he w d' hx];obtain⟨⟨bs,rb⟩,sb⟩:=hx;exact acg d' d X.A.in1 s w v bs as rb ra (Xk sb) (Xk s1) (aa7 sb (by rw[show X.A.in1.units=X.A.units+1 from rfl];lia))
 ·rw[show ai.toArray.any e=ai.any e by simp,rJ F2 he];exact q
end
end L2
namespace PySem
section
variable {prog:N_}{w:World}{A:WO}{E:Value->j_->Prop}{s:j_}
theorem Uu (n:Nat):YW 0 (n:Int) 1=(n:Int):=by rw[abo];split<;>lia
theorem tQ {i:Int} (h1 : -2000<=i) (h2:i<=2000):ZO i=true:=by
 unfold ZO;simp only[q_,Yq]
 lia
theorem iZ {r:Addr}{n:Nat}{t u v:Tok}{Q:Value->j_->Prop} (hr:acB s.heap r 0 n 1 t u v) (hn:n<=1000)
  (h:Q (.ref s.heap.objs.size) { s with heap:=s.heap.push { cls:=.type "range_iterator",data:=.fields #[Xt ((n:Int)-1),Xt n,Xt (-1)] } }) :
  wpAny (model prog w) A (call (.builtin "range.__reversed__") [.ref r]) Q E s:=by
 have hT:s.TypeIs (.ref r) "range" := ⟨_,hr,rfl⟩;refine Xr Zi hT F.entry_range_reversed ?_ (F.args_range_reversed_1 _);unfold Zr.«range.__reversed__»;refine d_ (X_ (a:=Wo r) rfl ?_);have e1:=Uu n;unfold Builtin.Range.rangeFields;refine d_ (d_ (WP hr rfl rfl ?_));refine d_ (X_ (a:=some 0) rfl ?_);refine d_ (WP hr rfl rfl ?_);refine d_ (X_ (a:=some (n:Int)) rfl ?_);refine d_ (WP (x:=Zk 1 v) (i:=2) hr rfl rfl ?_);have ea:asInt? (Zk 1 v)=pure (some 1):=rfl;rw[ea,pure_bind];refine r_ ?_;dsimp only;rw[e1,tQ (i:=0) (by decide) (by decide),tQ (i:=(n:Int)) (by lia) (by lia),tQ (i:=1) (by decide) (by decide),tQ (i := -1) (by decide) (by decide),tQ (i:=0-1) (by decide) (by decide)]
 rw[p_ (show ¬ ((!(true&&true&&true&&true&&true&&true))=true) by decide),u_ (show (true&&true&&true&&true&&true&&true)=true by decide)];refine d_ (Xf (r_ ⟨_,rfl,?_⟩));rw[show (0:Int)+((n:Int)-1)*1=(n:Int)-1 by lia];exact h
theorem jk {r:Addr}{n:Nat}{t u v:Tok}{Q₁:Value->j_->Prop} (hr:acB s.heap r 0 n 1 t u v) (hn:n<=1000)
  (h:Q₁ (.ref s.heap.objs.size) { s with heap:=s.heap.push { cls:=.type "range_iterator",data:=.fields #[Xt ((n:Int)-1),Xt n,Xt (-1)] } }) :
  Zo (model prog w) A (.call (.builtin "reversed.__new__") ⟨[.type "reversed",.ref r],[]⟩) (wants Q₁ E) s:=by
 have hT:s.TypeIs (.ref r) "range" := ⟨_,hr,rfl⟩;refine codeAny_of_tree ?_;refine d_ (X_ (F.newCall_reversed_1 _) (r_ ⟨plainId_quiet aa8 _,aaL F.entry_reversed_new ?_⟩));rw[Zx aa8 _];unfold Zr.«reversed.__new__»;refine d_ (X_ (newClass_reversed _) ?_)
 try dsimp only
 refine d_ (X_ (a:=()) (by first | rfl | kernel_rfl) ?_);refine d_ (X_ (a:=()) (by first | rfl | kernel_rfl) ?_)
 try dsimp only
 refine d_ (YM hT Zi.lookup ?_)
 try dsimp only
 refine d_ (X_ (Zi.bind _) ?_)
 try dsimp only
 rw[p_ (show ¬ ((acS "range.__reversed__" == Yb)=true) from s_)];refine d_ (YQ ?_);refine d_ (m:=runValue (.call (.builtin "range.__reversed__") ⟨[.ref r],[]⟩)) (show wpAny _ _ (call (.builtin "range.__reversed__") [.ref r]) _ _ _ from iZ hr hn ?_)
 first
 | exact r_ h
 | exact d_ (r_ (r_ h))
theorem mv:isSubtype (.type "range_iterator") (.type "reversed")=pure false:=by rw[isSubtype_type];kernel_rfl
theorem i5 {r:Addr}{n:Nat}{t u v:Tok}{Q:Value->j_->Prop} (hr:acB s.heap r 0 n 1 t u v) (hn:n<=1000)
  (h:Q (.ref s.heap.objs.size) { s with heap:=s.heap.push { cls:=.type "range_iterator",data:=.fields #[Xt ((n:Int)-1),Xt n,Xt (-1)] } }) :
  wpAny (model prog w) A (call (.type "reversed") [.ref r]) Q E s:=by
 refine callType_other (U := "range_iterator") (Q₁:=fun obj s₁=>obj=.ref s.heap.objs.size/\s₁={ s with heap:=s.heap.push { cls:=.type "range_iterator",data:=.fields #[Xt ((n:Int)-1),Xt n,Xt (-1)] } }) (by decide +kernel) F.create_reversed ⟨_,_,F.mro_reversed⟩ F.made_reversed mv (F.typeCall_reversed_1 _) (jk hr hn ⟨rfl,rfl⟩) ?_;rintro obj s₁ ⟨rfl,rfl⟩;exact⟨⟨_,v_ _ rfl,rfl⟩,h⟩
end
end PySem
namespace L2
open PySem PySem.Spec PyProof.Rows
section
variable {X:Cx}{tg:Expr}
def Qw (ta:TA):TI:=fun σ H R=>ta σ H fun vs H1=>∃ (r:Addr) (n:Nat),vs=[.ref r]/\H1 r=some (.xO 0 (n:Int))/\n<=1000/\R (Gf ((n:Int)-1) (-1) n) H1
theorem Gw {a:Expr}{ta:TA}{p pos:Pos} (hg:Gl X "reversed") (hm:X.mg "reversed" = none) (ha:PA X [a] ta) (hs:T_ [a] X.env=[(false,eval a X.env)]:=by rfl) :
  PI X tg (.Call (.Name "reversed" p) [a] [] pos) (Qw ta):=by
 intro pins s σ H R I h;refine Call_ (gX I hg hm boot_reversed (WW (bf (ha pos pins s σ H _ I h) fun us s1 ⟨vs,H1,I1,r1,q1⟩=>?_) (by rw[hs];rfl) (by rfl)));obtain⟨r,n,e,hr,hn,q⟩:=q1;subst e;obtain⟨u,rfl,rx⟩:=vals1 r1
 cases rx
 obtain⟨t,u,v,e⟩:=(show aS X.prog X.w H1 s1.heap r (.xO 0 (n:Int)) from I1.be r _ hr);have Uv:=I1.kept (t':=s1.toks) (fun b o e=>l_ { cls:=.type "range_iterator",data:=.fields #[Xt ((n:Int)-1),Xt n,Xt (-1)] } e);refine i5 (show acB s1.heap r 0 (n:Int) 1 t u v from e) hn ?_;refine Y3 (it:=s1.heap.objs.size) (v_ _ rfl) ?_;refine⟨_,[_],_,_,H1,rfl,Uv,tH _ ((n:Int)-1) (-1) n,?_,fun b hb=>?_,q⟩
 ·have e1:((n:Int)-1)+((0:Nat):Int)*(-1)=(n:Int)-1:=by lia
  have e2:((n:Nat):Int)-((0:Nat):Int)=(n:Int):=by lia
  show aaZ _ _ (((n:Int)-1)+((0:Nat):Int)*(-1)) (((n:Nat):Int)-((0:Nat):Int)) (-1);rw[e1,e2];exact v_ _ rfl
 ·have e:=D_.mp hb;subst e;exact I1.ve (w_ _) (I1.be.fresh (w_ _))
end
end L2
namespace L2
open PySem PySem.Spec PyProof.Rows SH
theorem mV:∀ {zs:List Str}{us:List Value},Vals (zs.map V.str) us->StrsAre us zs
 | [],_,.nil=>.nil
 | _::_,_,.cons ⟨_,rfl⟩ t=>.cons _ _ (mV t)
end L2
namespace PV
open PySem PySem.Spec PyProof.Rows L2
noncomputable def ja:Nat->H_->Bool
 | _,.int _=>true
 | _,.str _=>true
 | n+1,.tuple xs=>xs.all (ja n)
 | _,_=>false
noncomputable def hP (w:World):Nat->H_->Int
 | _,.int i=>hashInt i
 | _,.str x=>hashStr w x
 | n+1,.tuple xs=>reduceHash (XV (xs.map (hP w n)))
 | _,_=>0
noncomputable def dP:Nat->H_->Nat
 | n+1,.tuple xs=>(xs.map (dP n)).sum+1
 | _,_=>1
noncomputable instance Uw:DecidableEq H_:=fun _ _=>YY _
theorem aP {n:Nat}{d:H_} (h:ja n d=true):(∃ i,d=.int i)∨(∃ x,d=.str x)∨∃ m xs,n=m+1/\d=.tuple xs/\∀ x∈xs,ja m x=true:=by
 unfold ja at h;split at h
 ·exact .inl ⟨_,rfl⟩
 ·exact .inr (.inl ⟨_,rfl⟩)
 ·exact .inr (.inr ⟨_,_,rfl,rfl,Wm.mp h⟩)
 ·cases h
theorem Gy:∀ (n:Nat) (d e:H_),ja n d=true->ja n e=true->(P_ d e=true↔d=e):=fun n=>by
 induction n with
 | zero =>
  intro d e hd he;rcases aP hd with ⟨i,rfl⟩ | ⟨x,rfl⟩ | ⟨m,_,z,_⟩
  ·rcases aP he with ⟨j,rfl⟩ | ⟨y,rfl⟩ | ⟨m,_,z,_⟩
   ·simp [P_]
   ·simp [P_]
   ·cases z
  ·rcases aP he with ⟨j,rfl⟩ | ⟨y,rfl⟩ | ⟨m,_,z,_⟩
   ·simp [P_]
   ·simp [P_]
   ·cases z
  ·cases z
 | succ n ih =>
  intro d e hd he;rcases aP hd with ⟨i,rfl⟩ | ⟨x,rfl⟩ | ⟨m,xs,z,rfl,hx⟩
  ·rcases aP he with ⟨j,rfl⟩ | ⟨y,rfl⟩ | ⟨m,ys,z,rfl,hy⟩<;>simp [P_]
  ·rcases aP he with ⟨j,rfl⟩ | ⟨y,rfl⟩ | ⟨m,ys,z,rfl,hy⟩<;>simp [P_]
  ·cases z
   rcases aP he with ⟨j,rfl⟩ | ⟨y,rfl⟩ | ⟨m,ys,z,rfl,hy⟩
   ·simp [P_]
   ·simp [P_]
   ·cases z
    have all:∀ xs ys:List H_,(∀ x∈xs,ja n x=true)->(∀ y∈ys,ja n y=true)->(Yn xs ys=true↔xs=ys):=fun xs=>by
     induction xs with
     | nil=>intro ys _ _;cases ys<;>simp [Yn]
     | cons x xs Lm =>
      intro ys hx hy
      cases ys with
      | nil=>simp [Yn]
      | cons y ys =>
       rw[Wz,q_,ih x y (hx x (by simp)) (hy y (by simp)),Lm ys (fun z q=>hx z (by simp [q])) (fun z q=>hy z (by simp [q]))];simp
    rw[Yl,all xs ys hx hy];simp
theorem CL {n:Nat}{d e:H_} (hd:ja n d=true) (he:ja n e=true):P_ d e=decide (d=e):=by
 have h:=Gy n d e hd he
 cases q:P_ d e with
 | true=>rw[f_ (h.mp q)]
 | false=>rw[g_ fun z=>by rw[h.mpr z] at q;cases q]
theorem fS {h:Heap}{v:Value}{i:Int}{as:List Addr} (r:Reads h v (.int i) as):∃ t,v=.int i t:=by cases r;exact⟨_,rfl⟩
theorem fT {h:Heap}{v:Value}{x:Str}{as:List Addr} (r:Reads h v (.str x) as):∃ t,v=.str x t:=by cases r;exact⟨_,rfl⟩
theorem nJ {h:Heap}{v:Value}{xs:List H_}{as:List Addr} (r:Reads h v (.tuple xs) as):∃ (a:Addr) (o:Obj) (vs:Array Value) (n:Nat),v=.ref a/\h.get? a=some o/\o.cls=Yc "tuple" /\ o.data=acK vs n/\YG h vs.toList xs as:=by
 cases r with
 | tuple h1 h2 h3 h4=>exact⟨_,_,_,_,rfl,h1,h2,h3,h4⟩
theorem fU {h:Heap}{vs:List Value}{d:H_}{ds:List H_}{as:List Addr} (r:YG h vs (d::ds) as):∃ v us a b,vs=v::us/\Reads h v d a/\YG h us ds b:=by
 cases r with
 | cons h1 h2=>exact⟨_,_,_,_,rfl,h1,h2⟩
theorem nK {h:Heap}{vs:List Value}{as:List Addr} (r:YG h vs [] as):vs=[]:=by cases r;rfl
theorem z8 {h:Heap}:∀ (n:Nat) (v:Value) (d e:H_) (as bs:List Addr),ja n d=true->ja n e=true->Reads h v d as->Reads h v e bs->d=e:=fun n=>by
 induction n with
 | zero =>
  intro v d e as bs hd he r1 r2;rcases aP hd with ⟨i,rfl⟩ | ⟨x,rfl⟩ | ⟨m,_,z,_⟩
  ·obtain⟨t,rfl⟩:=fS r1
   cases r2;rfl
  ·obtain⟨t,rfl⟩:=fT r1
   cases r2;rfl
  ·cases z
 | succ n ih =>
  intro v d e as bs hd he r1 r2;rcases aP hd with ⟨i,rfl⟩ | ⟨x,rfl⟩ | ⟨m,xs,z,rfl,hx⟩
  ·obtain⟨t,rfl⟩:=fS r1
   cases r2;rfl
  ·obtain⟨t,rfl⟩:=fT r1
   cases r2;rfl
  ·cases z
   obtain⟨a,o,vs,k,rfl,g1,g2,g3,g4⟩:=nJ r1;rcases aP he with ⟨j,rfl⟩ | ⟨y,rfl⟩ | ⟨m,ys,z,rfl,hy⟩
   ·obtain⟨t,q⟩:=fS r2;cases q
   ·obtain⟨t,q⟩:=fT r2;cases q
   ·cases z
    obtain⟨a',o',Wa,k',q,Sw,Wb,Sx,Ux⟩:=nJ r2
    cases q
    rw[g1] at Sw
    cases K_ Sw
    rw[g3] at Sx;injection Sx with g5 g6
    subst g5
    have all:∀ (xs ys:List H_) (vs:List Value) (as bs:List Addr),(∀ x∈xs,ja n x=true)->(∀ y∈ys,ja n y=true)->YG h vs xs as->YG h vs ys bs->xs=ys:=fun xs=>by
     induction xs with
     | nil =>
      intro ys vs as bs _ _ q1 q2
      cases nK q1
      cases ys with
      | nil=>rfl
      | cons y ys=>obtain⟨_,_,_,_,z,_⟩:=fU q2;cases z
     | cons x xs Lm =>
      intro ys vs as bs hx hy q1 q2;obtain⟨v,us,a1,b1,rfl,r1,r2⟩:=fU q1
      cases ys with
      | nil=>cases nK q2
      | cons y ys =>
       obtain⟨v',CD,a2,b2,z,r3,r4⟩:=fU q2;injection z with z1 z2
       subst z1 z2;rw[ih v x y _ _ (hx x (by simp)) (hy y (by simp)) r1 r3,Lm ys us _ _ (fun z q=>hx z (by simp [q])) (fun z q=>hy z (by simp [q])) r2 r4]
    rw[all xs ys _ _ _ hx hy g4 Ux]
theorem CM {h h':Heap}{d:Addr}{o:Obj}{es:Array DictEntry}{ep:Nat} (ho:h.get? d=some o) (hd:o.data=Data.dict es ep) (hs:Ye d h h') :
  ∀ (n:Nat) (v:Value) (e:H_) (as:List Addr),ja n e=true->Reads h v e as->∃ bs,Reads h' v e bs:=fun n=>by
 induction n with
 | zero =>
  intro v e as he r;rcases aP he with ⟨i,rfl⟩ | ⟨x,rfl⟩ | ⟨m,_,z,_⟩
  ·obtain⟨t,rfl⟩:=fS r;exact⟨_,.int _ _⟩
  ·obtain⟨t,rfl⟩:=fT r;exact⟨_,.str _ _⟩
  ·cases z
 | succ n ih =>
  intro v e as he r;rcases aP he with ⟨i,rfl⟩ | ⟨x,rfl⟩ | ⟨m,xs,z,rfl,hx⟩
  ·obtain⟨t,rfl⟩:=fS r;exact⟨_,.int _ _⟩
  ·obtain⟨t,rfl⟩:=fT r;exact⟨_,.str _ _⟩
  ·cases z
   obtain⟨a,o',vs,k,rfl,g1,g2,g3,g4⟩:=nJ r
   have all:∀ (xs:List H_) (vs:List Value) (as:List Addr),(∀ x∈xs,ja n x=true)->YG h vs xs as->∃ bs,YG h' vs xs bs:=fun xs=>by
    induction xs with
    | nil=>intro vs as _ q;cases nK q;exact⟨_,.nil⟩
    | cons x xs Lm =>
     intro vs as hx q;obtain⟨v,us,a1,b1,rfl,r1,r2⟩:=fU q;obtain⟨_,p1⟩:=ih v x _ (hx x (by simp)) r1;obtain⟨_,p2⟩:=Lm us _ (fun z q=>hx z (by simp [q])) r2;exact⟨_,.cons p1 p2⟩
   obtain⟨bs,q⟩:=all xs _ _ hx g4
   have ne:a≠d:=fun z=>by
    subst z;rw[ho] at g1
    cases K_ g1
    rw[hd] at g3;cases g3
   exact⟨_,.tuple ((hs.2 a ne).trans g1) g2 g3 q⟩
theorem tR {s:j_}{a:Addr}{o:Obj} (h1:s.heap.get? a=some o) (h2:o.cls=Yc "tuple"):s.TypeIs (.ref a) "tuple" := ⟨o,h1,h2⟩
theorem CN {prog:N_}{w:World}{E:Value->j_->Prop}:∀ (n:Nat) (d:H_) (A:WO) (s:j_) (v:Value) (as:List Addr) (Q:Int->j_->Prop),ja n d=true->Reads s.heap v d as->A.units+n<cLine ->
  Q (hP w n d) { s with toks:=s.toks+dP n d }->wpAny (model prog w) A (pyHash v) Q E s:=fun n=>by
 induction n with
 | zero =>
  intro d A s v as Q hd r hu h;rcases aP hd with ⟨i,rfl⟩ | ⟨x,rfl⟩ | ⟨m,_,z,_⟩
  ·obtain⟨t,rfl⟩:=fS r;exact aaf h
  ·obtain⟨t,rfl⟩:=fT r;exact aag h
  ·cases z
 | succ n ih =>
  intro d A s v as Q hd r hu h;rcases aP hd with ⟨i,rfl⟩ | ⟨x,rfl⟩ | ⟨m,xs,z,rfl,hx⟩
  ·obtain⟨t,rfl⟩:=fS r;exact aaf h
  ·obtain⟨t,rfl⟩:=fT r;exact aag h
  ·cases z
   obtain⟨a,o,vs,k,rfl,g1,g2,g3,g4⟩:=nJ r;have ht:=tR g1 g2;show wpAny _ A (ZD (.ref a)) Q E s;unfold ZD;refine d_ (wpAny_cRoomFor_or (.inr (by lia)) ?_);refine d_ (YM ht Y_.lookup ?_);rw[beq_builtin_none];refine d_ (YM ht Y_.lookup ?_);refine d_ (wpAny_callSpecialIfBoundUnlessNone?_slot ht Y_ ?_);refine Xr Y_ ht F.entry_tuple_hash ?_ (F.args_tuple_hash_1 _);unfold Zr.«tuple.__hash__»;refine d_ ?_;refine r_ (a:=(Wo a,([]:List Value))) ?_;refine d_ (wpAny_tupleItemsOf g1 g3 ?_);rw[←abI];refine d_ ?_;refine wpAny_forIn_list _ (fun us b t=>∃ done left cs,xs=done++left/\YG s.heap us left cs/\b.toList=done.map (hP w n)/\t={ s with toks:=s.toks+(done.map (dP n)).sum }) _ ?_ ?_ _ _ ⟨[],xs,as,rfl,g4,rfl,by simp⟩
   ·rintro x rest b t ⟨done,left,cs,e1,e2,e3,e4⟩;subst e4
    cases left with
    | nil=>cases nK e2
    | cons d left =>
     obtain⟨v,us,a1,b1,z,r1,r2⟩:=fU e2
     cases z
     refine d_ (ih d _ _ _ a1 _ (hx d (by rw[e1];simp)) r1 (by show A.units+1+n<cLine;lia) ?_);refine r_ ⟨done++[d],left,b1,by rw[e1];simp,r2,by simp [e3],?_⟩;simp [Nat.add_assoc]
   ·rintro b t ⟨done,left,cs,e1,e2,e3,e4⟩;subst e4
    cases left with
    | cons d left=>obtain⟨_,_,_,_,z,_⟩:=fU e2;cases z
    | nil =>
     rw[WJ] at e1;subst e1;refine wpAny_ret_mkInt ?_;show wpAny _ A (ZD.reduced _) Q E _;have hr:Q (reduceHash (XV b.toList)) { s with toks:=s.toks+((xs.map (dP n)).sum+1) }:=by rw[e3];exact h
     unfold reduceHash at hr;unfold ZD.reduced;by_cases c:(decide (-2 ^ 63<=XV b.toList)&&decide (XV b.toList<2 ^ 63))=true
     ·rw[u_ c] at hr ⊢;exact r_ hr
     ·rw[p_ c] at hr ⊢;exact d_ (YQ (r_ hr))
theorem Aa {prog:N_}{w:World}{E:Value->j_->Prop}{A:WO}:∀ (n m:Nat) (d:H_) (s:j_) (v:Value) (as:List Addr) (Q:Bool->j_->Prop),ja n d=true->Reads s.heap v d as->n<=m ->
  Q true s->wpAny (model prog w) A (eqIsQuiet m v) Q E s:=fun n=>by
 induction n with
 | zero =>
  intro m d s v as Q hd r hm h;rcases aP hd with ⟨i,rfl⟩ | ⟨x,rfl⟩ | ⟨_,_,z,_⟩
  ·obtain⟨t,rfl⟩:=fS r;rw[Za m rfl];exact r_ h
  ·obtain⟨t,rfl⟩:=fT r;rw[Za m rfl];exact r_ h
  ·cases z
 | succ n ih =>
  intro m d s v as Q hd r hm h;rcases aP hd with ⟨i,rfl⟩ | ⟨x,rfl⟩ | ⟨k,xs,z,rfl,hx⟩
  ·obtain⟨t,rfl⟩:=fS r;rw[Za m rfl];exact r_ h
  ·obtain⟨t,rfl⟩:=fT r;rw[Za m rfl];exact r_ h
  ·cases z
   obtain⟨a,o,vs,k,rfl,g1,g2,g3,g4⟩:=nJ r;obtain⟨m,rfl⟩:∃ j,m=j+1:=⟨m-1,by lia⟩;have ht:=tR g1 g2;rw[eqIsQuiet.eq_def];refine d_ (YM ht F.slot_tuple_eq.lookup ?_);refine d_ (wpAny_isInstance ht isSubtype_tuple_tuple ?_);refine d_ (Xi g1 g3 ?_);refine d_ ?_;rw[←abI];refine wpAny_forIn_list _ (fun us b t=>t=s/\b.1=none/\∃ left cs,YG s.heap us left cs/\∀ d∈left,ja n d=true) _ ?_ ?_ _ _ ⟨rfl,rfl,xs,as,g4,hx⟩
   ·rintro x rest b t ⟨rfl,e1,left,cs,e2,e3⟩
    cases left with
    | nil=>cases nK e2
    | cons d left =>
     obtain⟨v,us,a1,b1,z,r1,r2⟩:=fU e2
     cases z
     refine d_ (ih m d _ _ a1 _ (e3 d (by simp)) r1 (by lia) ?_);exact r_ ⟨rfl,rfl,left,b1,r2,fun y hy=>e3 y (by simp [hy])⟩
   ·rintro b t ⟨rfl,e1,left,cs,e2,e3⟩;obtain⟨b1,b2⟩:=b
    cases e1
    exact r_ h
def pv (d:H_):Prop:=ja 7 d=true/\J_ d=true
noncomputable def fF (prog:N_) (w:World):HeapKind prog w H_ where
 is:=fun h d a=>pv d/\∃ as,Reads h (.ref a) d as
 hash:=hP w 7
 draws:=dP 7
 room:=fun A=>A.units+64<cLine
 inj:=fun⟨h1,_,r1⟩ ⟨h2,_,r2⟩=>z8 7 _ _ _ _ _ h1.1 h2.1 r1 r2
 keeps:=fun⟨h1,_,r1⟩ ho hd hs=>⟨h1,CM ho hd hs 7 _ _ _ h1.1 r1⟩
 pyHash:=fun hu ⟨h1,as,r1⟩ h=>CN 7 _ _ _ _ as _ h1.1 r1 (by lia) h
 eqBool:=fun {A E s x y a b Q} hu ⟨h1,as,r1⟩ ⟨h2,bs,r2⟩ h=>by
  unfold eqBool;refine Zp ?_;by_cases e:a=b
  ·subst e;have:=z8 7 _ _ _ _ _ h1.1 h2.1 r1 r2;subst this;rw[u_ (by simp)];refine d_ (YQ (r_ ?_));rw[f_ rfl] at h;exact h
  ·rw[p_ (by simpa using e)];refine d_ ?_;refine (show wpAny _ _ (Wx .Eq (.ref a) (.ref b)) _ _ _ from eq_dataH r1 r2 h1.2 h2.2 hu ?_);refine WF ?_;rw[CL h1.1 h2.1];exact h
 quiet:=fun⟨h1,as,r1⟩ h=>Aa 7 8 _ _ _ as _ h1.1 r1 (by lia) h
end PV
namespace PV
open PySem L2 SH
inductive Dt where
 | aJ | bl (b:Bool) | int (i:Int) | str (x:Str)
 | lst (xs:List Dt) | tup (xs:List Dt) | eQ (xs:List Dt) | mw (xs:List Dt) | qH (xs:List Dt) | nL (xs:List Dt)
 | obj (c:Nat) (fs:List Str) (xs:List Dt)
 | Ab (ks:List Int)
 | dD (a:Addr)
inductive MO where
 | ml (xs:List Dt)
 | mo (c:Nat) (fs:List Str) (xs:List Dt)
 | md (am:List (H_×Dt))
noncomputable abbrev Mem:=Addr->k_ MO
structure Cl where
 a:Nat->Addr
 w:World
noncomputable instance:CoeFun Cl (fun _=>Nat->Addr):=⟨Cl.a⟩
noncomputable def bL (M:Mem) (a:Addr) (o:MO):Mem:=fun b=>if b=a then some o else M b
section
variable (K:e_) (cl:Cl) (G:Hp)
mutual
def Is:Dt->V->Prop
 | .aJ,v=>v=.aJ
 | .bl b,v=>v=.bl b
 | .int i,v=>v=.int i
 | .str x,v=>v=.str x
 | .lst ds,v=>∃ a vs,v=.ref a/\G a=some (.lst vs)/\IsL ds vs
 | .tup ds,v=>∃ a vs,v=.ref a/\G a=some (.tup vs)/\IsL ds vs
 | .mw ds,v=>∃ a vs,v=.ref a/\cr K G a vs/\IsL ds vs
 | .qH ds,v=>∃ a vs,v=.ref a/\eD K G a vs/\IsL ds vs
 | .nL ds,v=>∃ a vs,v=.ref a/\Rd G a (.tup vs)/\IsL ds vs
 | .eQ ds,v=>∃ a vs,v=.ref a/\pq G a vs/\IsL ds vs
 | .obj c fs ds,v=>∃ a dx vs,v=.ref a/\G a=some (.ins (cl c) dx (fs.zip vs))/\fs.length=ds.length/\IsL ds vs
 | .Ab ks,v=>∃ a am,v=.ref a/\G a=some (.dK am)/\∀ j:Int,(dG am (Ya j)).isSome=ks.contains j
 | .dD a,v=>v=.ref a
def IsL:List Dt->List V->Prop
 | [],vs=>vs=[]
 | d::ds,vs=>∃ v r,vs=v::r/\Is d v/\IsL ds r
end
end
section
variable {K:e_}{cl:Cl}{G G':Hp}
mutual
theorem Is.mono (s:ah G G'):∀ {d:Dt}{v:V},Is K cl G d v->Is K cl G' d v
 | .aJ,_,h=>h
 | .bl _,_,h=>h
 | .int _,_,h=>h
 | .str _,_,h=>h
 | .lst ds,v,h=>by
  unfold Is at h ⊢;obtain⟨a,vs,e,q,r⟩:=h;exact⟨a,vs,e,s _ _ q,IsL.mono s r⟩
 | .tup ds,v,h=>by
  unfold Is at h ⊢;obtain⟨a,vs,e,q,r⟩:=h;exact⟨a,vs,e,s _ _ q,IsL.mono s r⟩
 | .mw ds,v,h=>by
  unfold Is at h ⊢;obtain⟨a,vs,e,q,r⟩:=h;exact⟨a,vs,e,q.same s,IsL.mono s r⟩
 | .qH ds,v,h=>by
  unfold Is at h ⊢;obtain⟨a,vs,e,q,r⟩:=h;exact⟨a,vs,e,q.same s,IsL.mono s r⟩
 | .nL ds,v,h=>by
  unfold Is at h ⊢;obtain⟨a,vs,e,q,r⟩:=h;exact⟨a,vs,e,q.elim (fun z=>.inl (s _ _ z)) (fun⟨o,z⟩=>.inr ⟨o,s _ _ z⟩),IsL.mono s r⟩
 | .eQ ds,v,h=>by
  unfold Is at h ⊢;obtain⟨a,vs,e,q,r⟩:=h;exact⟨a,vs,e,q.same s,IsL.mono s r⟩
 | .obj c fs ds,v,h=>by
  unfold Is at h ⊢;obtain⟨a,dx,vs,e,q,l,r⟩:=h;exact⟨a,dx,vs,e,s _ _ q,l,IsL.mono s r⟩
 | .Ab ks,v,h=>by
  unfold Is at h ⊢;obtain⟨a,am,e,q,r⟩:=h;exact⟨a,am,e,s _ _ q,r⟩
 | .dD _,_,h=>h
theorem IsL.mono (s:ah G G'):∀ {ds:List Dt}{vs:List V},IsL K cl G ds vs->IsL K cl G' ds vs
 | [],_,h=>h
 | d::ds,vs,h=>by
  unfold IsL at h ⊢;obtain⟨v,r,e,h1,h2⟩:=h;exact⟨v,r,e,Is.mono s h1,IsL.mono s h2⟩
end
theorem IsL.nil:IsL K cl G [] []:=by unfold IsL;rfl
theorem IsL.cons {d:Dt}{v:V}{ds:List Dt}{vs:List V} (h:Is K cl G d v) (t:IsL K cl G ds vs):IsL K cl G (d::ds) (v::vs):=by unfold IsL;exact⟨v,vs,rfl,h,t⟩
theorem IsL.length:∀ {ds:List Dt}{vs:List V},IsL K cl G ds vs->ds.length=vs.length
 | [],vs,h=>by unfold IsL at h;rw[h];rfl
 | d::ds,vs,h=>by
  unfold IsL at h;obtain⟨v,r,rfl,h1,h2⟩:=h;rw[G_,G_,IsL.length h2]
theorem IsL.get:∀ {ds:List Dt}{vs:List V}{i:Nat}{d:Dt},IsL K cl G ds vs->ds[i]? = some d->∃ v,vs[i]? = some v/\Is K cl G d v
 | [],vs,i,d,h,e=>by simp at e
 | d'::ds,vs,i,d,h,e=>by
  unfold IsL at h;obtain⟨v,r,rfl,h1,h2⟩:=h
  cases i with
  | zero=>simp at e;subst e;exact⟨v,rfl,h1⟩
  | succ i=>exact IsL.get (i:=i) h2 (by simpa using e)
theorem IsL.get':∀ {ds:List Dt}{vs:List V}{i:Nat}{v:V},IsL K cl G ds vs->vs[i]? = some v->∃ d,ds[i]? = some d/\Is K cl G d v
 | [],vs,i,v,h,e=>by unfold IsL at h;subst h;simp at e
 | d'::ds,vs,i,v,h,e=>by
  unfold IsL at h;obtain⟨v',r,rfl,h1,h2⟩:=h
  cases i with
  | zero=>simp at e;subst e;exact⟨d',rfl,h1⟩
  | succ i=>exact IsL.get' (i:=i) h2 (by simpa using e)
theorem IsL.append:∀ {ds es:List Dt}{vs us:List V},IsL K cl G ds vs->IsL K cl G es us->IsL K cl G (ds++es) (vs++us)
 | [],es,vs,us,h,t=>by unfold IsL at h;subst h;exact t
 | d::ds,es,vs,us,h,t=>by
  unfold IsL at h;obtain⟨v,r,rfl,h1,h2⟩:=h;exact IsL.cons h1 (IsL.append h2 t)
theorem IsL.take:∀ {ds:List Dt}{vs:List V} (n:Nat),IsL K cl G ds vs->IsL K cl G (ds.take n) (vs.take n)
 | ds,vs,0,h=>by rw[Xj,Xj];exact IsL.nil
 | [],vs,n+1,h=>by unfold IsL at h;subst h;exact IsL.nil
 | d::ds,vs,n+1,h=>by
  unfold IsL at h;obtain⟨v,r,rfl,h1,h2⟩:=h;exact IsL.cons h1 (IsL.take n h2)
theorem IsL.drop:∀ {ds:List Dt}{vs:List V} (n:Nat),IsL K cl G ds vs->IsL K cl G (ds.drop n) (vs.drop n)
 | ds,vs,0,h=>h
 | [],vs,n+1,h=>by unfold IsL at h;subst h;exact IsL.nil
 | d::ds,vs,n+1,h=>by
  unfold IsL at h;obtain⟨v,r,rfl,h1,h2⟩:=h;exact IsL.drop n h2
noncomputable def cutD (xs:List Dt) (lo hi:k_ Int):List Dt:=(xs.drop (HT.bS xs.length 0 lo)).take (HT.bS xs.length xs.length hi-HT.bS xs.length 0 lo)
theorem IsL.cut {ds:List Dt}{vs:List V} (lo hi:k_ Int) (h:IsL K cl G ds vs):IsL K cl G (cutD ds lo hi) (mr vs lo hi):=by
 unfold cutD mr;rw[h.length];exact (h.drop _).take _
theorem IsL.at {ds:List Dt}{vs:List V}{i:Int}{d:Dt} (h:IsL K cl G ds vs) (e:pd ds i=some d):∃ v,pd vs i=some v/\Is K cl G d v:=by
 unfold pd at e ⊢;rw[←h.length]
 cases q:Ck ds.length i with
 | none=>rw[q] at e;cases e
 | some j=>rw[q] at e;exact h.get e
theorem IsL.ints:∀ (ns:List Int),IsL K cl G (ns.map Dt.int) (ns.map V.int)
 | []=>IsL.nil
 | n::ns=>IsL.cons (by unfold Is;rfl) (IsL.ints ns)
theorem IsL.vP:∀ {ns:List Bool}{vs:List V},IsL K cl G (ns.map Dt.bl) vs->vs=ns.map V.bl
 | [],vs,h=>by simp only[Xg] at h;unfold IsL at h;exact h
 | n::ns,vs,h=>by
  simp only[o_] at h;unfold IsL at h;obtain⟨v,r,rfl,h1,h2⟩:=h;unfold Is at h1;rw[o_,h1,IsL.vP h2]
noncomputable def i6:Dt->k_ (List Dt)
 | .lst ds=>some ds
 | .mw ds=>some ds
 | _=>none
noncomputable def pw:Dt->k_ (List Dt)
 | .tup ds=>some ds
 | .eQ ds=>some ds
 | .qH ds=>some ds
 | .nL ds=>some ds
 | _=>none
theorem Is.BK {d:Dt}{v:V}{ds:List Dt} (h:Is K cl G d v) (e:i6 d=some ds):∃ a vs,v=.ref a/\cr K G a vs/\IsL K cl G ds vs:=by
 cases d<;>first | (cases e;done) | skip
 ·cases e;unfold Is at h;obtain⟨a,vs,e,q,r⟩:=h;exact⟨a,vs,e,cr.of q,r⟩
 ·cases e;unfold Is at h;exact h
theorem Is.JT {d:Dt}{v:V}{ds:List Dt} (h:Is K cl G d v) (e:pw d=some ds):∃ a vs,v=.ref a/\eD K G a vs/\IsL K cl G ds vs:=by
 cases d<;>first | (cases e;done) | skip
 ·cases e;unfold Is at h;obtain⟨a,vs,e,q,r⟩:=h;exact⟨a,vs,e,eD.of q,r⟩
 ·cases e;unfold Is at h;obtain⟨a,vs,e,q,r⟩:=h;exact⟨a,vs,e,q.sq,r⟩
 ·cases e;unfold Is at h;exact h
 ·cases e;unfold Is at h;obtain⟨a,vs,e,q,r⟩:=h;exact⟨a,vs,e,.inl q,r⟩
end
end PV
namespace PV
open PySem L2 SH
section
variable (K:e_) (cl:Cl)
noncomputable def pz (w:World) (a:Addr) (xs:List (H_×Addr×Value)):HO:=.ext fun h=>∃ o es ep,h.get? a=some o/\o.ExactDict/\o.data=.dict es ep/\es.toList=xs.map fun x=>({ hash:=hP w 7 x.1,key:=.ref x.2.1,val:=x.2.2 }:DictEntry)
def DP (G:Hp):List (H_×Dt)->List (H_×Addr×Value)->Prop:=aaq fun p q=>p.1=q.1/\pv q.1/\bQ K G (.ref q.2.1) q.1/\∃ v,RelV v q.2.2/\Is K cl G p.2 v
def lY (G H:Hp) (a:Addr) (am:List (H_×Dt)):Prop:=(a==Yd)=false/\am.length<=sizeLine/\∃ xs,H a=some (pz cl.w a xs)/\(xs.map (·.1)).Nodup/\DP K cl G am xs
def b7 (G H:Hp) (a:Addr):MO->Prop
 | .ml ds=>∃ vs,H a=some (.lst vs)/\IsL K cl G ds vs
 | .mo c fs ds=>∃ dx vs,H a=some (.ins (cl c) dx (fs.zip vs))/\fs.length=ds.length/\IsL K cl G ds vs
 | .md am=>lY K cl G H a am
def bh (G H:Hp) (M:Mem):Prop:=∀ a o,M a=some o->G a=none/\b7 K cl G H a o
noncomputable def w6:MO->Nat×Nat×List Str
 | .ml _=>(0,0,[])
 | .mo c fs _=>(1,c,fs)
 | .md _=>(2,0,[])
structure aY (sf:k_ Addr) (G H:Hp) (M:Mem) (G' H':Hp) (M':Mem):Prop where
 g:ah G G'
 gh:ah G' H'
 jK:∀ a o,H a=some o->∃ o',H' a=some o'
 gf:∀ a o,G' a=some o->G a=none->H a=none
 h:∀ a o,H a=some o->M a=none->sf≠some a->H' a=some o
 mem:bh K cl G' H' M'
 mf:∀ a o,M' a=some o->M a=none->H a=none
 ke:∀ a o,M a=some o->∃ o',M' a=some o'/\w6 o'=w6 o
end
section
variable {K:e_}{cl:Cl}
theorem DP.mono {G G':Hp} (s:ah G G'):∀ {am:List (H_×Dt)}{xs:List (H_×Addr×Value)},DP K cl G am xs->DP K cl G' am xs
 | _,_,.nil=>.nil
 | _,_,.cons ⟨h1,h2,h3,v,h4,h5⟩ t=>.cons ⟨h1,h2,h3.same s,v,h4,h5.mono s⟩ (DP.mono s t)
theorem b7.jK {G H:Hp}{a:Addr}{o:MO} (h:b7 K cl G H a o):∃ u,H a=some u:=by
 cases o with
 | ml ds=>obtain⟨vs,e,_⟩:=h;exact⟨_,e⟩
 | mo c fs ds=>obtain⟨dx,vs,e,_⟩:=h;exact⟨_,e⟩
 | md am=>obtain⟨_,_,xs,e,_⟩:=h;exact⟨_,e⟩
theorem b7.mono {G H G' H':Hp}{a:Addr}{o:MO} (h:b7 K cl G H a o) (s:ah G G') (e:∀ u,H a=some u->H' a=some u):b7 K cl G' H' a o:=by
 cases o with
 | ml ds=>obtain⟨vs,q,r⟩:=h;exact⟨vs,e _ q,r.mono s⟩
 | mo c fs ds=>obtain⟨dx,vs,q,l,r⟩:=h;exact⟨dx,vs,e _ q,l,r.mono s⟩
 | md am=>obtain⟨h1,h2,xs,q,n,r⟩:=h;exact⟨h1,h2,xs,e _ q,n,r.mono s⟩
theorem aY.refl {sf:k_ Addr}{G H:Hp}{M:Mem} (gh:ah G H) (m:bh K cl G H M):aY K cl sf G H M G H M :=
 ⟨ah.refl G,gh,fun a o h=>⟨o,h⟩,fun a o h n=>absurd h (by rw[n];exact fun z=>nomatch z),fun a o h _ _=>h,m,fun a o h n=>absurd h (by rw[n];exact fun z=>nomatch z),fun a o h=>⟨o,h,rfl⟩⟩
theorem bF {H H':Hp}{a:Addr} (d:∀ a o,H a=some o->∃ o',H' a=some o') (n:H' a=none):H a=none:=by
 cases e:H a with
 | none=>rfl
 | some o=>obtain⟨o',e'⟩:=d a o e;rw[n] at e';cases e'
theorem aY.trans {sf:k_ Addr}{G H G1 H1 G2 H2:Hp}{M M1 M2:Mem} (x:aY K cl sf G H M G1 H1 M1) (y:aY K cl none G1 H1 M1 G2 H2 M2):aY K cl sf G H M G2 H2 M2 where
 g:=x.g.trans y.g
 gh:=y.gh
 jK:=fun a o h=>let ⟨o',h'⟩:=x.jK a o h;y.jK a o' h'
 gf:=fun a o h n=>by
  cases e:G1 a with
  | none=>exact bF x.jK (y.gf a o h e)
  | some u=>exact x.gf a u e n
 h:=fun a o h m n=>by
  have h1:=x.h a o h m n
  cases e:M1 a with
  | none=>exact y.h a o h1 e (fun z=>nomatch z)
  | some u=>exact absurd (x.mf a u e m) (by rw[h];exact fun z=>nomatch z)
 mem:=y.mem
 mf:=fun a o h n=>by
  cases e:M1 a with
  | none=>exact bF x.jK (y.mf a o h e)
  | some u=>exact x.mf a u e n
 ke:=fun a o h=>let ⟨o',h',e⟩:=x.ke a o h;let ⟨o2,h2,e2⟩:=y.ke a o' h';⟨o2,h2,e2.trans e⟩
end
inductive Sl where
 | no | sh (d:Dt) | ow (d:Dt)
noncomputable abbrev En:=List Sl
noncomputable def Gz:Dt->k_ MO
 | .lst ds=>some (.ml ds)
 | .obj c fs ds=>some (.mo c fs ds)
 | _=>none
structure Bs where
 G:Hp
 H:Hp
 M:Mem
 sf:k_ Addr
section
variable (K:e_) (cl:Cl)
def Ac (B:Bs) (M:Mem) (G H:Hp) (i:Nat) (a:Addr) (d:Dt):Prop:=G a=none/\M a=none/\(B.H a=none∨(B.sf=some a/\i=0))/\∃ o,Gz d=some o/\b7 K cl G H a o
structure Rep (B:Bs) (ρ:En) (M:Mem) (σ:St) (H G:Hp):Prop where
 bT:aY K cl B.sf B.G B.H B.M G H M
 len:ρ.length=σ.length
 s0:∀ a,B.sf=some a->σ[(0:Nat)]? = some (some (.ref a))
 sh:∀ (i:Nat) d,ρ[i]? = some (Sl.sh d)->∃ v,σ[i]? = some (some v)/\Is K cl G d v
 ow:∃ oa:Nat->Addr,(∀ (i:Nat) d,ρ[i]? = some (Sl.ow d)->σ[i]? = some (some (.ref (oa i)))/\Ac K cl B M G H i (oa i) d)/\∀ (i j:Nat) d e,ρ[i]? = some (Sl.ow d)->ρ[j]? = some (Sl.ow e)->oa i=oa j->i=j
end
section
variable {K:e_}{cl:Cl}{B:Bs}{ρ:En}{M M':Mem}{σ:St}{H G H' G':Hp}
theorem Ac.bT {i:Nat}{a:Addr}{d:Dt} (h:Ac K cl B M G H i a d) (f:aY K cl none G H M G' H' M'):Ac K cl B M' G' H' i a d:=by
 obtain⟨h1,h2,h3,o,h4,h5⟩:=h;obtain⟨u,hu⟩:=h5.jK;refine⟨?_,?_,h3,o,h4,h5.mono f.g fun u e=>f.h a u e h2 (fun z=>nomatch z)⟩
 ·cases e:G' a with
  | none=>rfl
  | some w=>exact absurd (f.gf a w e h1) (by rw[hu];exact fun z=>nomatch z)
 ·cases e:M' a with
  | none=>rfl
  | some w=>exact absurd (f.mf a w e h2) (by rw[hu];exact fun z=>nomatch z)
theorem Rep.on (r:Rep K cl B ρ M σ H G) (f:aY K cl none G H M G' H' M'):Rep K cl B ρ M' σ H' G':=by
 obtain⟨oa,h1,h2⟩:=r.ow;exact⟨r.bT.trans f,r.len,r.s0,fun i d e=>let ⟨v,e1,e2⟩:=r.sh i d e;⟨v,e1,e2.mono f.g⟩,oa,fun i d e=>⟨(h1 i d e).1,(h1 i d e).2.bT f⟩,h2⟩
theorem Rep.self (r:Rep K cl B ρ M σ H G):aY K cl none G H M G H M:=aY.refl r.bT.gh r.bT.mem
theorem aY.lay {p:Addr}{o:HO} (gh:ah G H) (m:bh K cl G H M) (hp:H p=none):aY K cl none G H M (upd G p o) (upd H p o) M:=by
 have gp:G p=none:=bF (fun a o h=>⟨o,gh a o h⟩) hp;refine⟨ah.put gp,fun a u e=>?_,fun a u e=>⟨u,ah.put hp a u e⟩,fun a u e n=>?_,fun a u e _ _=>ah.put hp a u e,fun a u e=>?_,fun a u e n=>absurd e (by rw[n];exact fun z=>nomatch z),fun a o h=>⟨o,h,rfl⟩⟩
 ·unfold upd at e ⊢;by_cases z:a=p
  ·rw[u_ z] at e ⊢;exact e
  ·rw[p_ z] at e ⊢;exact gh a u e
 ·unfold upd at e;by_cases z:a=p
  ·rw[z];exact hp
  ·rw[p_ z,n] at e;cases e
 ·obtain⟨h1,h2⟩:=m a u e;obtain⟨w,hw⟩:=h2.jK;have ne:a≠p:=aD hw hp;exact⟨by rw[aw ne];exact h1,h2.mono (ah.put gp) fun x e=>by rw[aw ne];exact e⟩
end
set_option genInjectivity false
set_option genSizeOfSpec false
inductive qI where | add | sub | mul | fdiv | mod | pow | shr
inductive rL where | lt | le | gt | ge | JU | yw
inductive C where
 | i (n:Int) | s (x:Str) | b (x:Bool)
 | v (k:Nat) | o (k:Nat) | d (c:C) | g (k:Nat)
 | nil | cons (a r:C) | bo (k:Nat)
 | bin (op:qI) (a b:C) | neg (a:C)
 | cmp (op:rL) (a b:C) | Ad (o1 o2:rL) (a b c:C)
 | eq (ng:Bool) (a b:C) | BL (ng:Bool) (a b:C) | w9 (ng:Bool) (a b:C) | ins (a b:C) | ind (a b:C)
 | one (a:C) | and (a b:C) | or (a b:C) | not (a:C) | tr (a:C) | GA (t a b:C)
 | tup (a:C) | fr (f:C) | CO (f:C) | GF
 | jl (a:C) | xa (a:C) | Ae (a lo hi:C) | cat (a b:C) | GG (a b:C) | GH (a:C)
 | comp (it:C) (w:Nat) (ix:List Nat) (t e:C) | vQ (a:C) (w:Nat) (ix:List Nat) (t e:C)
 | fB (a:C) | jL (a:C) | Ea (a b:C) | rev (a:C) | CP (a:C) | zip (a b:C)
 | ix (a k:C) | yY (a k:C) | slt (a lo hi:C) | CQ (a lo hi:C)
 | fld (a:C) (f:Str)
 | call (f:Nat) (a:C) | xQ (f:Nat) (a:C) | GI (m:Nat) (r a:C) | bR (m:Nat) (r a:C) | mk (c:Nat) (a:C)
 | len (a:C) | rM (a:C) (t:Nat) | all (a:C) | any (a:C) | mz (a:C) | min2 (a b:C)
 | yZ (a:C) | Eb (a:C) | cnt (a b:C) | yh (a:C) | CS (a b:C) | GJ (a b:C)
inductive S where
 | skip | seq (a r:S)
 | set (k:Nat) (e:C) | d5 (k:Nat) (f:C) | yx (k c:Nat) (a:C) | dS (k:Nat)
 | app (k:Nat) (e:C) | ext (k:Nat) (e:C) | GK (a e:C) | Ln (a k e:C)
 | eF (k:Nat) (f:Str) (e:C) | aug (k:Nat) (op:qI) (e:C) | ex (e:C) | bj (c:Nat) (a:C)
 | ret (e:C) | never
 | ite (t:C) (a b:S) | bM (it:C) (tg:List Nat) (b:S) | vR (a:C) (tg:List Nat) (b:S) | JV (a:C) | JW (t:C) (b:S)
noncomputable abbrev cP:=List Dt->Mem->(Dt->Mem->Prop)->Prop
structure Gm where
 fn:Nat->cP
 fo:Nat->List Dt->Mem->(List Dt->Mem->Prop)->Prop
 me:Nat->cP
 bj:Nat->Dt->List Dt->Mem->(Dt->Mem->Prop)->Prop
 cs:Nat->Dt
 at_:Nat->Str->Bool
 hm:Nat->Nat->List Str->Bool
noncomputable abbrev Rt:=List Dt->Mem->Prop
def aq (ds:List Dt) (k:Dt->Prop):Prop:=match ds with | [d]=>k d | _=>False
noncomputable def bG:Dt->(Bool->Prop)->Prop | .bl b,R=>R b | _,_=>False
noncomputable def intD:Dt->(Int->Prop)->Prop | .int b,R=>R b | _,_=>False
noncomputable def nM:Dt->(Str->Prop)->Prop | .str b,R=>R b | _,_=>False
noncomputable def j9 (d:Dt):k_ (List Dt):=match i6 d with | some ds=>some ds | none=>pw d
noncomputable def lstK:Dt->(List Dt->Prop)->Prop | .lst ds,R=>R ds | _,_=>False
noncomputable def mB:Dt->k_ (List Dt)
 | .tup ds=>some ds
 | .eQ ds=>some ds
 | .nL ds=>some ds
 | _=>none
def eG (o:k_ (List Dt)) (R:List Dt->Prop):Prop:=match o with | some ds=>R ds | none=>False
def mC (ρ:En) (k:Nat) (R:Dt->Prop):Prop:=match ρ[k]? with | some (.sh d)=>R d | _=>False
def b8 (ρ:En) (k:Nat) (R:Dt->Prop):Prop:=match ρ[k]? with | some (.ow d)=>R d | _=>False
def binI:qI->Int->Int->(Dt->Prop)->Prop
 | .add,i,j,R=>R (.int (i+j))
 | .sub,i,j,R=>R (.int (i-j))
 | .mul,i,j,R=>xW i j/\R (.int (i*j))
 | .fdiv,i,j,R=>B9 i j/\R (.int (i / j))
 | .mod,i,j,R=>0<j/\R (.int (i % j))
 | .pow,i,j,R=>Ca i j/\R (.int (i ^ j.toNat))
 | .shr,i,j,R=>0<=j/\R (.int (i / 2 ^ j.toNat))
def vb (d:Dt) (R:Int->Prop):Prop:=match d with | .int j=>R j | _=>False
def Qx (d:Dt) (R:Str->Prop):Prop:=match d with | .str j=>R j | _=>False
def mD (op:qI) (x y:Dt) (R:Dt->Prop):Prop:=match x with
 | .int i=>vb y fun j=>binI op i j R
 | .str i=>Qx y fun j=>match op with | .add=>i.length+j.length<=sizeLine/\R (.str (i++j)) | _=>False
 | _=>False
noncomputable def Ec:Dt->Bool
 | .aJ=>true
 | _=>false
def gW (op:rL) (x y:Dt) (R:Bool->Prop):Prop:=match op with
 | .lt=>vb x fun i=>vb y fun j=>R (decide (i<j))
 | .le=>vb x fun i=>vb y fun j=>R (decide (i<=j))
 | .gt=>vb x fun i=>vb y fun j=>R (decide (j<i))
 | .ge=>vb x fun i=>vb y fun j=>R (decide (j<=i))
 | .JU=>y=.aJ/\R (Ec x)
 | .yw=>y=.aJ/\R (!Ec x)
mutual
noncomputable def toP:Dt->k_ H_
 | .aJ=>some .none
 | .bl b=>some (.bool b)
 | .int i=>some (.int i)
 | .str x=>some (.str x)
 | .lst ds=>(toPs ds).map .list
 | .mw ds=>(toPs ds).map .list
 | .tup ds=>(toPs ds).map .tuple
 | .eQ ds=>(toPs ds).map .tuple
 | .qH ds=>(toPs ds).map .tuple
 | .nL ds=>(toPs ds).map .tuple
 | _=>none
noncomputable def toPs:List Dt->k_ (List H_)
 | []=>some []
 | d::ds=>match toP d,toPs ds with
  | some p,some ps=>some (p::ps)
  | _,_=>none
end
noncomputable def toPH (M:Mem):Dt->k_ H_
 | .dD a=>(match M a with | some (.ml xs)=>(toPs xs).map .list | _=>none)
 | d=>toP d
noncomputable def toPHs (M:Mem):List Dt->k_ (List H_)
 | []=>some []
 | d::ds=>match toPH M d,toPHs M ds with
  | some p,some ps=>some (p::ps)
  | _,_=>none
noncomputable def toPT (M:Mem):Dt->k_ H_
 | .tup ds=>(toPHs M ds).map .tuple
 | d=>toP d
def Qy (M:Mem) (x y:Dt) (R:Bool->Prop):Prop:=∃ p q,toPT M x=some p/\toPT M y=some q/\J_ p=true/\J_ q=true/\R (P_ p q)
mutual
noncomputable def lh:Dt->Bool
 | .lst _=>false
 | .mw _=>false
 | .tup ds=>hV ds
 | .eQ ds=>hV ds
 | .qH ds=>hV ds
 | .nL ds=>hV ds
 | .obj _ _ ds=>hV ds
 | _=>true
noncomputable def hV:List Dt->Bool
 | []=>true
 | d::ds=>lh d&&hV ds
end
noncomputable def Sy:MO->Bool
 | .ml xs=>hV xs
 | .mo _ _ xs=>hV xs
 | .md am=>am.all fun p=>lh p.2
def tT (M:Mem):Prop:=∀ a o,M a=some o->Sy o=true
noncomputable def Qz:Dt->Dt->k_ Bool
 | .int i,.int j=>some (decide (i=j))
 | .str i,.str j=>some (decide (i=j))
 | .bl i,.bl j=>some (decide (i=j))
 | _,_=>none
def tU (x y:Dt) (R:Bool->Prop):Prop:=match Qz x y with
 | some b=>R b
 | none=>∃ p q,toP x=some p/\toP y=some q/\J_ p=true/\J_ q=true/\R (P_ p q)
noncomputable def ka:Dt->Bool
 | .aJ=>true | .bl _=>true | .int _=>true | .str _=>true | _=>false
noncomputable def Lo:Dt->V
 | .bl b=>.bl b | .int i=>.int i | .str x=>.str x | _=>.aJ
noncomputable def JX (d e:Dt):Bool:=zA (Lo d) (Lo e)
def vS (x y:Dt) (R:Bool->Prop):Prop :=
 (∃ ds,j9 y=some ds/\ka x=true/\ds.all ka=true/\R (ds.any fun z=>JX z x)) ∨
 (∃ ds p ps,i6 y=some ds/\toP x=some p/\toPs ds=some ps/\J_ p=true/\(∀ e∈ps,J_ e=true)/\R (ps.any fun e=>P_ e p))
def CT:Dt->(Bool->Prop)->Prop
 | .bl b,R=>R b
 | .int i,R=>R (i != 0)
 | .lst ds,R=>R (!ds.isEmpty)
 | .mw ds,R=>R (!ds.isEmpty)
 | .tup ds,R=>R (!ds.isEmpty)
 | _,_=>False
def pA:Dt->(Nat->Prop)->Prop
 | .str x,R=>x.length<=sizeLine/\R x.length
 | .lst ds,R=>R ds.length
 | .mw ds,R=>R ds.length
 | .tup ds,R=>R ds.length
 | .eQ ds,R=>R ds.length
 | .qH ds,R=>R ds.length
 | .nL ds,R=>R ds.length
 | _,_=>False
def atK (ds:List Dt) (i:Int) (R:Dt->Prop):Prop:=∃ e,pd ds i=some e/\R e
def jM:Dt->Int->(Dt->Prop)->Prop
 | .str z,i,R=>z.length<=sizeLine/\∃ c,pd z.cps.toList i=some c/\R (.str ⟨#[c]⟩)
 | .lst ds,i,R=>atK ds i R
 | .mw ds,i,R=>atK ds i R
 | .tup ds,i,R=>atK ds i R
 | .eQ ds,i,R=>atK ds i R
 | .qH ds,i,R=>atK ds i R
 | .nL ds,i,R=>atK ds i R
 | _,_,_=>False
def eH (Γ:Gm) (f:Str):Dt->(Dt->Prop)->Prop
 | .obj c fs ds,R=>Γ.at_ c f=true/\∃ d,(fs.zip ds).lookup f=some d/\R d
 | _,_=>False
noncomputable def isiN:Dt->k_ Nat
 | .int _=>some 0 | .bl _=>some 1 | .str _=>some 2 | .lst _=>some 3 | .tup _=>some 4 | .aJ=>some 5 | _=>none
def isiD (t:Nat) (d:Dt) (R:Bool->Prop):Prop:=match isiN d with | some n=>R (n==t||(n==1&&t==0)) | none=>False
def GL (M:Mem):Dt->(Dt->Prop)->Prop
 | .dD a,R=>match M a with
  | some (.ml xs)=>R (.lst xs)
  | some (.mo c fs xs)=>R (.obj c fs xs)
  | _=>False
 | _,_=>False
def hW:List Dt->(k_ Int->Prop)->Prop
 | [],R=>R none
 | [.int i],R=>R (some i)
 | _,_=>False
noncomputable def hX (ρ:En) (j:Nat):Sl:=match ρ[j]? with | some (.sh d)=>.sh d | _=>.no
def yy (ρ:En) (w:Nat) (ix:List Nat) (x:Dt) (k:En->Prop):Prop :=
 match w,x with
 | 1,d=>k (.sh d::ix.map (hX ρ))
 | 2,.tup [d,e]=>k (.sh d::.sh e::ix.map (hX ρ))
 | _,_=>False
def cR (f:Dt->Mem->(k_ Dt->Mem->Prop)->Prop):List Dt->Mem->Rt->Prop
 | [],M,R=>R [] M
 | x::xs,M,R=>f x M fun o M1=>cR f xs M1 fun ds M2=>R (o.toList++ds) M2
noncomputable def bI (lo:Int) (n:Nat):List Dt:=(Wv n).map fun (k:Nat)=>.int (lo+(k:Int))
noncomputable def rN (z:Str):List Dt:=z.cps.toList.map fun c=>.str ⟨#[c]⟩
def BM:Dt->(List Dt->Prop)->Prop
 | .str z,R=>R (rN z)
 | .lst ds,R=>R ds
 | .mw ds,R=>R ds
 | .tup ds,R=>R ds
 | .eQ ds,R=>R ds
 | .qH ds,R=>R ds
 | .nL ds,R=>R ds
 | _,_=>False
noncomputable def pB:Dt->(Nat->List Str->List Dt->Prop)->Prop | .obj c fs ds,R=>R c fs ds | _,_=>False
noncomputable def CU:Dt->(List Dt->Prop)->Prop | .eQ ds,R=>R ds | _,_=>False
def eI (M:Mem):Dt->(Nat->List Str->Prop)->Prop
 | .obj c fs _,R=>R c fs
 | .dD a,R=>(match M a with | some (.mo c fs _)=>R c fs | _=>False)
 | _,_=>False
def tV (M:Mem):Dt->(Addr->List Dt->Prop)->Prop
 | .dD p,R=>(match M p with | some (.ml ds)=>R p ds | _=>False)
 | _,_=>False
def GN (M:Mem):Dt->(Addr->List (H_×Dt)->Prop)->Prop
 | .dD p,R=>(match M p with | some (.md am)=>R p am | _=>False)
 | _,_=>False
def yz (d:Dt) (R:H_->Prop):Prop:=∃ ps,toP d=some (.tuple ps)/\pv (.tuple ps)/\R (.tuple ps)
noncomputable def fV (am:List (H_×Dt)) (p:H_):k_ Dt:=(am.find? fun kv=>decide (kv.1=p)).map (·.2)
def y4 (i:Int):Prop := -(2 ^ 62)<=i/\i<2 ^ 62
section
variable (Γ:Gm)
def ev:C->En->Mem->Rt->Prop
 | .i n,_,M,R=>R [.int n] M
 | .s x,_,M,R=>R [.str x] M
 | .b x,_,M,R=>R [.bl x] M
 | .v k,ρ,M,R=>mC ρ k fun d=>R [d] M
 | .o k,ρ,M,R=>b8 ρ k fun d=>R [d] M
 | .d c,ρ,M,R=>ev c ρ M fun ds M1=>aq ds fun d=>GL M1 d fun e=>R [e] M1
 | .g k,_,M,R=>R [Γ.cs k] M
 | .nil,_,M,R=>R [] M
 | .cons a r,ρ,M,R=>ev a ρ M fun ds M1=>aq ds fun d=>ev r ρ M1 fun es M2=>R (d::es) M2
 | .bo k,ρ,M,R=>b8 ρ k fun d=>lstK d fun _=>R [d] M
 | .bin op a b,ρ,M,R=>ev a ρ M fun x M1=>aq x fun x=>ev b ρ M1 fun y M2=>aq y fun y=>mD op x y fun d=>R [d] M2
 | .neg a,ρ,M,R=>ev a ρ M fun x M1=>aq x fun x=>intD x fun i=>R [.int (-i)] M1
 | .cmp op a b,ρ,M,R=>ev a ρ M fun x M1=>aq x fun x=>ev b ρ M1 fun y M2=>aq y fun y=>gW op x y fun c=>R [.bl c] M2
 | .Ad o1 o2 a b c,ρ,M,R=>ev a ρ M fun x M1=>aq x fun x=>ev b ρ M1 fun y M2=>aq y fun y=>gW o1 x y fun k =>
   if k=true then ev c ρ M2 fun z M3=>aq z fun z=>gW o2 y z fun k=>R [.bl k] M3 else R [.bl false] M2
 | .eq ng a b,ρ,M,R=>ev a ρ M fun x M1=>aq x fun x=>ev b ρ M1 fun y M2=>aq y fun y=>tU x y fun c=>R [.bl (ng ^^ c)] M2
 | .BL ng a b,ρ,M,R=>ev a ρ M fun x M1=>aq x fun x=>ev b ρ M1 fun y M2=>aq y fun y=>Qy M2 x y fun c=>R [.bl (ng ^^ c)] M2
 | .w9 ng a b,ρ,M,R=>ev a ρ M fun x M1=>aq x fun x=>ev b ρ M1 fun y M2=>aq y fun y=>vS x y fun c=>R [.bl (ng ^^ c)] M2
 | .ins a b,ρ,M,R=>ev a ρ M fun x M1=>aq x fun x=>ev b ρ M1 fun y M2=>aq y fun y=>nM x fun i=>nM y fun j=>R [.bl (!(Xb j i 0 j.length 1).isEmpty)] M2
 | .ind a b,ρ,M,R=>ev a ρ M fun x M1=>aq x fun x=>ev b ρ M1 fun y M2=>aq y fun y=>intD x fun i=>match y with | .Ab ks=>R [.bl (ks.contains i)] M2 | _=>False
 | .one a,ρ,M,R=>ev a ρ M R
 | .and a b,ρ,M,R=>ev a ρ M fun x M1=>aq x fun x=>bG x fun c=>if c=true then ev b ρ M1 R else R [.bl false] M1
 | .or a b,ρ,M,R=>ev a ρ M fun x M1=>aq x fun x=>bG x fun c=>if c=true then R [.bl true] M1 else ev b ρ M1 R
 | .not a,ρ,M,R=>ev a ρ M fun x M1=>aq x fun x=>bG x fun c=>R [.bl (!c)] M1
 | .tr a,ρ,M,R=>ev a ρ M fun x M1=>aq x fun x=>CT x fun c=>R [.bl c] M1
 | .GA t a b,ρ,M,R=>ev t ρ M fun x M1=>aq x fun x=>bG x fun c=>if c=true then ev a ρ M1 R else ev b ρ M1 R
 | .tup a,ρ,M,R=>ev a ρ M fun ds M1=>ds.length<=sizeLine/\R [.tup ds] M1
 | .fr f,ρ,M,R=>ev f ρ M fun ds M1=>R [.lst ds] M1
 | .CO f,ρ,M,R=>ev f ρ M fun ds M1=>∀ a,M1 a=none->R [.dD a] (bL M1 a (.ml ds))
 | .GF,_,M,R=>∀ a,M a=none->R [.dD a] (bL M a (.md []))
 | .jl a,ρ,M,R=>ev a ρ M fun ds M1=>ds.length<=sizeLine/\R ds M1
 | .xa a,ρ,M,R=>ev a ρ M fun x M1=>aq x fun x=>eG (j9 x) fun ds=>R ds M1
 | .Ae a lo hi,ρ,M,R=>ev a ρ M fun x M1=>aq x fun x=>ev lo ρ M1 fun l M2=>hW l fun l=>ev hi ρ M2 fun h M3=>hW h fun h=>eG (i6 x) fun ds=>R (cutD ds l h) M3
 | .cat a b,ρ,M,R=>ev a ρ M fun x M1=>aq x fun x=>ev b ρ M1 fun y M2=>aq y fun y=>lstK x fun ds=>lstK y fun es=>ds.length+es.length<=sizeLine/\R (ds++es) M2
 | .GG a b,ρ,M,R=>ev a ρ M fun x M1=>aq x fun x=>ev b ρ M1 fun y M2=>aq y fun y=>intD x fun i=>intD y fun j=>y4 i/\y4 j/\(j-i).toNat<=900/\R (bI i (j-i).toNat) M2
 | .GH a,ρ,M,R=>ev a ρ M fun x M1=>aq x fun x=>intD x fun j=>y4 j/\j.toNat<=900/\R (bI 0 j.toNat) M1
 | .comp it w ix t e,ρ,M,R=>ev it ρ M fun items M1=>items.length<=sizeLine /\
   cR (fun x M K=>yy ρ w ix x fun ρ'=>ev t ρ' M fun c M1=>aq c fun c=>bG c fun c=>if c=true then ev e ρ' M1 fun d M2=>aq d fun d=>K (some d) M2 else K none M1) items M1 R
 | .vQ a w ix t e,ρ,M,R=>ev a ρ M fun x M1=>aq x fun x=>tV M1 x fun p items=>items.length<=sizeLine /\
   cR (fun x M K=>M p=some (.ml items)/\yy ρ w ix x fun ρ'=>ev t ρ' M fun c M1=>aq c fun c=>bG c fun c=>if c=true then ev e ρ' M1 fun d M2=>aq d fun d=>K (some d) M2 else K none M1) items M1 fun ds M2=>M2 p=some (.ml items)/\R ds M2
 | .fB a,ρ,M,R=>ev a ρ M fun x M1=>aq x fun x=>BM x fun ds=>R ds M1
 | .jL a,ρ,M,R=>ev a ρ M fun x M1=>aq x fun x=>intD x fun j=>y4 j/\R (bI 0 j.toNat) M1
 | .Ea a b,ρ,M,R=>ev a ρ M fun x M1=>aq x fun x=>ev b ρ M1 fun y M2=>aq y fun y=>intD x fun i=>intD y fun j=>y4 i/\y4 j/\R (bI i (j-i).toNat) M2
 | .rev a,ρ,M,R=>ev a ρ M fun x M1=>aq x fun x=>intD x fun j=>0<=j/\j<=1000/\R (bI 0 j.toNat).reverse M1
 | .CP a,ρ,M,R=>ev a ρ M fun x M1=>aq x fun x=>eG (pw x) fun ds=>R (ds.zipIdx.map fun p=>.tup [.int p.2,p.1]) M1
 | .zip a b,ρ,M,R=>ev a ρ M fun x M1=>aq x fun x=>ev b ρ M1 fun y M2=>aq y fun y=>eG (mB x) fun ds=>eG (mB y) fun es=>R ((ds.zip es).map fun p=>.tup [p.1,p.2]) M2
 | .ix a k,ρ,M,R=>ev a ρ M fun x M1=>aq x fun x=>ev k ρ M1 fun y M2=>aq y fun y=>intD y fun i=>jM x i fun d=>R [d] M2
 | .yY a k,ρ,M,R=>ev a ρ M fun x M1=>aq x fun x=>ev k ρ M1 fun y M2=>aq y fun y=>intD y fun i=>tV M2 x fun _ ds=>atK ds i fun d=>R [d] M2
 | .slt a lo hi,ρ,M,R=>ev a ρ M fun x M1=>aq x fun x=>ev lo ρ M1 fun l M2=>hW l fun l=>ev hi ρ M2 fun h M3=>hW h fun h=>eG (mB x) fun ds=>R [.nL (cutD ds l h)] M3
 | .CQ a lo hi,ρ,M,R=>ev a ρ M fun x M1=>aq x fun x=>ev lo ρ M1 fun l M2=>hW l fun l=>ev hi ρ M2 fun h M3=>hW h fun h=>nM x fun z=>z.length<=sizeLine/\R [.str (XN z l h)] M3
 | .fld a f,ρ,M,R=>ev a ρ M fun x M1=>aq x fun x=>eH Γ f x fun d=>R [d] M1
 | .call f a,ρ,M,R=>ev a ρ M fun ds M1=>Γ.fn f ds M1 fun d M2=>R [d] M2
 | .xQ f a,ρ,M,R=>ev a ρ M fun ds M1=>Γ.fn f ds M1 fun d M2=>(lh d=true/\tT M2)/\R [d] M2
 | .GI m r a,ρ,M,R=>ev r ρ M fun x M1=>aq x fun x=>eI M1 x fun c fs=>Γ.hm m c fs=true/\ev a ρ M1 fun ds M2=>Γ.me m (x::ds) M2 fun d M3=>(lh d=true/\tT M3)/\R [d] M3
 | .bR m r a,ρ,M,R=>ev r ρ M fun x M1=>aq x fun x=>eI M1 x fun c fs=>Γ.hm m c fs=true/\ev a ρ M1 fun ds M2=>Γ.me m (x::ds) M2 fun d M3=>R [d] M3
 | .mk c a,ρ,M,R=>ev a ρ M fun ds M1=>Γ.bj c (.obj c [] []) ds M1 fun d M2=>R [d] M2
 | .len a,ρ,M,R=>ev a ρ M fun x M1=>aq x fun x=>pA x fun n=>R [.int n] M1
 | .rM a t,ρ,M,R=>ev a ρ M fun x M1=>aq x fun x=>isiD t x fun c=>R [.bl c] M1
 | .all a,ρ,M,R=>ev a ρ M fun x M1=>aq x fun x=>∃ bs:List Bool,x=.lst (bs.map .bl)/\R [.bl (bs.all id)] M1
 | .any a,ρ,M,R=>ev a ρ M fun x M1=>aq x fun x=>∃ bs:List Bool,x=.lst (bs.map .bl)/\R [.bl (bs.any id)] M1
 | .mz a,ρ,M,R=>ev a ρ M fun x M1=>aq x fun x=>bG x fun c=>R [.int (if c then 1 else 0)] M1
 | .min2 a b,ρ,M,R=>ev a ρ M fun x M1=>aq x fun x=>ev b ρ M1 fun y M2=>aq y fun y=>intD x fun i=>intD y fun j=>R [.int (if j<i then j else i)] M2
 | .yZ a,ρ,M,R=>ev a ρ M fun x M1=>aq x fun x=>eG (i6 x) fun ds=>R [.tup ds] M1
 | .Eb a,ρ,M,R=>ev a ρ M fun x M1=>aq x fun x=>eG (i6 x) fun ds=>R [.eQ ds] M1
 | .cnt a b,ρ,M,R=>ev a ρ M fun x M1=>aq x fun x=>CU x fun ds=>ev b ρ M1 fun y M2=>aq y fun y=>ka y=true/\ds.all ka=true/\R [.int (ds.countP fun z=>JX z y:Nat)] M2
 | .yh a,ρ,M,R=>ev a ρ M fun x M1=>aq x fun x=>∃ ks:List Int,x=.lst (ks.map fun k=>.tup [.int k,.bl true])/\ks.length<=900/\R [.Ab ks] M1
 | .CS k d,ρ,M,R=>ev k ρ M fun x M1=>aq x fun x=>ev d ρ M1 fun y M2=>aq y fun y=>yz x fun p=>GN M2 y fun _ am=>R [.bl (fV am p).isNone] M2
 | .GJ d k,ρ,M,R=>ev d ρ M fun x M1=>aq x fun x=>ev k ρ M1 fun y M2=>aq y fun y=>yz y fun p=>GN M2 x fun _ am=>∃ v,fV am p=some v/\R [v] M2
structure xb where
 nx:En->Mem->Prop
 rt:Dt->Mem->Prop
 bk:En->Mem->Prop:=fun _ _=>False
 ct:En->Mem->Prop:=fun _ _=>False
 ro:List Dt->Mem->Prop:=fun _ _=>False
def dE (f:Dt->En->Mem->xb->Prop) (E:xb):List Dt->En->Mem->Prop
 | [],ρ,M=>E.nx ρ M
 | x::xs,ρ,M=>f x ρ M { E with nx:=dE f E xs,ct:=dE f E xs,bk:=E.nx }
def fG (ρ:En) (tg:List Nat) (x:Dt) (k:En->Prop):Prop :=
 match tg,x with
 | [i],d=>k (ρ.set i (.sh d))
 | [i,j],.tup [d,e]=>k ((ρ.set i (.sh d)).set j (.sh e))
 | _,_=>False
noncomputable def putD (f:Str) (d:Dt):List Str->List Dt->List Str×List Dt
 | [],_=>([f],[d])
 | g::fs,[]=>([f],[d])
 | g::fs,e::ds=>if g=f then (g::fs,d::ds) else let r:=putD f d fs ds;(g::r.1,e::r.2)
def yA (op:qI) (x y:Dt) (R:Dt->Prop):Prop:=vb x fun i=>vb y fun j=>match op with | .add=>R (.int (i+j)) | .sub=>R (.int (i-j)) | _=>False
def ex:S->En->Mem->xb->Prop
 | .skip,ρ,M,E=>E.nx ρ M
 | .seq a r,ρ,M,E=>ex a ρ M { E with nx:=fun ρ' M'=>ex r ρ' M' E }
 | .set k e,ρ,M,E=>ev Γ e ρ M fun x M1=>aq x fun d=>E.nx (ρ.set k (.sh d)) M1
 | .d5 k f,ρ,M,E=>ev Γ f ρ M fun ds M1=>E.nx (ρ.set k (.ow (.lst ds))) M1
 | .yx k c a,ρ,M,E=>ev Γ a ρ M fun ds M1=>Γ.bj c (.obj c [] []) ds M1 fun d M2=>E.nx (ρ.set k (.ow d)) M2
 | .dS k,ρ,M,E=>b8 ρ k fun d=>E.nx (ρ.set k (.sh d)) M
 | .app k e,ρ,M,E=>b8 ρ k fun l=>lstK l fun ds=>ev Γ e ρ M fun x M1=>aq x fun d=>ds.length<sizeLine/\E.nx (ρ.set k (.ow (.lst (ds++[d])))) M1
 | .ext k e,ρ,M,E=>b8 ρ k fun l=>lstK l fun ds=>ev Γ e ρ M fun x M1=>aq x fun d=>lstK d fun es=>ds.length+es.length<=sizeLine/\E.nx (ρ.set k (.ow (.lst (ds++es)))) M1
 | .GK a e,ρ,M,E=>ev Γ a ρ M fun x M1=>aq x fun x=>tV M1 x fun _ _=>ev Γ e ρ M1 fun y M2=>aq y fun y=>tV M2 x fun p ds=>ds.length<sizeLine/\E.nx ρ (bL M2 p (.ml (ds++[y])))
 | .Ln d k e,ρ,M,E=>ev Γ e ρ M fun z M1=>aq z fun z=>ev Γ d ρ M1 fun x M2=>aq x fun x=>ev Γ k ρ M2 fun y M3=>aq y fun y=>yz y fun p=>GN M3 x fun a am=>fV am p=none/\am.length<sizeLine/\E.nx ρ (bL M3 a (.md (am++[(p,z)])))
 | .eF k f e,ρ,M,E=>ev Γ e ρ M fun x M1=>aq x fun d=>b8 ρ k fun o=>pB o fun c fs ds=>Γ.at_ c f=true/\fs.length<1000/\E.nx (ρ.set k (.ow (.obj c (putD f d fs ds).1 (putD f d fs ds).2))) M1
 | .aug k op e,ρ,M,E=>mC ρ k fun x=>ev Γ e ρ M fun y M1=>aq y fun y=>yA op x y fun d=>E.nx (ρ.set k (.sh d)) M1
 | .ex e,ρ,M,E=>ev Γ e ρ M fun x M1=>aq x fun _=>E.nx ρ M1
 | .bj c a,ρ,M,E=>b8 ρ 0 fun d=>pB d fun n fs xs=>ev Γ a ρ M fun ds M1=>Γ.bj c (.obj n fs xs) ds M1 fun d' M2=>E.nx (ρ.set 0 (.ow d')) M2
 | .ret e,ρ,M,E=>ev Γ e ρ M fun x M1=>aq x fun d=>E.rt d M1
 | .never,_,_,_=>False
 | .ite t a b,ρ,M,E=>ev Γ t ρ M fun x M1=>aq x fun x=>bG x fun c=>if c=true then ex a ρ M1 E else ex b ρ M1 E
 | .bM it tg b,ρ,M,E=>ev Γ it ρ M fun items M1=>dE (fun x ρ M E=>fG ρ tg x fun ρ'=>ex b ρ' M E) E items ρ M1
 | .vR a tg b,ρ,M,E=>ev Γ a ρ M fun x M1=>aq x fun x=>tV M1 x fun p items=>dE (fun x ρ M E=>M p=some (.ml items)/\fG ρ tg x fun ρ'=>ex b ρ' M E) { E with nx:=fun ρ M=>M p=some (.ml items)/\E.nx ρ M } items ρ M1
 | .JV a,ρ,M,E=>ev Γ a ρ M fun x M1=>aq x fun x=>tV M1 x fun p _=>E.nx ρ (bL M1 p (.ml []))
 | .JW t b,ρ,M,E=>∃ W:Nat->En->Mem->Prop,(∃ m,W m ρ M)/\∀ m ρ M,W m ρ M ->
   ev Γ t ρ M fun x M1=>aq x fun x=>bG x fun c =>
    if c=true then ex b ρ M1 { E with nx:=fun ρ' M'=>∃ m',m'<m/\W m' ρ' M',ct:=fun ρ' M'=>∃ m',m'<m/\W m' ρ' M',bk:=E.nx }
    else E.nx ρ M1
end
end PV
namespace PV
open PySem L2 SH
section
variable {Γ:Gm}
theorem v_i {n}{ρ M R}:ev Γ (.i n) ρ M R=(R [.int n] M):=rfl
theorem v_s {x}{ρ M R}:ev Γ (.s x) ρ M R=(R [.str x] M):=rfl
theorem v_b {x}{ρ M R}:ev Γ (.b x) ρ M R=(R [.bl x] M):=rfl
theorem v_v {k}{ρ M R}:ev Γ (.v k) ρ M R=(mC ρ k fun d=>R [d] M):=rfl
theorem v_o {k}{ρ M R}:ev Γ (.o k) ρ M R=(b8 ρ k fun d=>R [d] M):=rfl
theorem v_d {c}{ρ M R}:ev Γ (.d c) ρ M R=(ev Γ c ρ M fun ds M1=>aq ds fun d=>GL M1 d fun e=>R [e] M1):=rfl
theorem v_g {k}{ρ M R}:ev Γ (.g k) ρ M R=(R [Γ.cs k] M):=rfl
theorem v_nil {ρ M R}:ev Γ .nil ρ M R=(R [] M):=rfl
theorem v_cons {a}{r}{ρ M R}:ev Γ (.cons a r) ρ M R=(ev Γ a ρ M fun ds M1=>aq ds fun d=>ev Γ r ρ M1 fun es M2=>R (d::es) M2):=rfl
theorem v_bo {k}{ρ M R}:ev Γ (.bo k) ρ M R=(b8 ρ k fun d=>lstK d fun _=>R [d] M):=rfl
theorem v_bin {op}{a}{b}{ρ M R}:ev Γ (.bin op a b) ρ M R=(ev Γ a ρ M fun x M1=>aq x fun x=>ev Γ b ρ M1 fun y M2=>aq y fun y=>mD op x y fun d=>R [d] M2):=rfl
theorem v_neg {a}{ρ M R}:ev Γ (.neg a) ρ M R=(ev Γ a ρ M fun x M1=>aq x fun x=>intD x fun i=>R [.int (-i)] M1):=rfl
theorem v_cmp {op}{a}{b}{ρ M R}:ev Γ (.cmp op a b) ρ M R=(ev Γ a ρ M fun x M1=>aq x fun x=>ev Γ b ρ M1 fun y M2=>aq y fun y=>gW op x y fun c=>R [.bl c] M2):=rfl
theorem v_chn {o1}{o2}{a}{b}{c}{ρ M R}:ev Γ (.Ad o1 o2 a b c) ρ M R=(ev Γ a ρ M fun x M1=>aq x fun x=>ev Γ b ρ M1 fun y M2=>aq y fun y=>gW o1 x y fun k=>if k=true then ev Γ c ρ M2 fun z M3=>aq z fun z=>gW o2 y z fun k=>R [.bl k] M3 else R [.bl false] M2):=rfl
theorem v_eq {ng}{a}{b}{ρ M R}:ev Γ (.eq ng a b) ρ M R=(ev Γ a ρ M fun x M1=>aq x fun x=>ev Γ b ρ M1 fun y M2=>aq y fun y=>tU x y fun c=>R [.bl (ng ^^ c)] M2):=rfl
theorem v_eqh {ng}{a}{b}{ρ M R}:ev Γ (.BL ng a b) ρ M R=(ev Γ a ρ M fun x M1=>aq x fun x=>ev Γ b ρ M1 fun y M2=>aq y fun y=>Qy M2 x y fun c=>R [.bl (ng ^^ c)] M2):=rfl
theorem v_inn {ng}{a}{b}{ρ M R}:ev Γ (.w9 ng a b) ρ M R=(ev Γ a ρ M fun x M1=>aq x fun x=>ev Γ b ρ M1 fun y M2=>aq y fun y=>vS x y fun c=>R [.bl (ng ^^ c)] M2):=rfl
theorem v_ins {a}{b}{ρ M R}:ev Γ (.ins a b) ρ M R=(ev Γ a ρ M fun x M1=>aq x fun x=>ev Γ b ρ M1 fun y M2=>aq y fun y=>nM x fun i=>nM y fun j=>R [.bl (!(Xb j i 0 j.length 1).isEmpty)] M2):=rfl
theorem v_ind {a}{b}{ρ M R}:ev Γ (.ind a b) ρ M R=(ev Γ a ρ M fun x M1=>aq x fun x=>ev Γ b ρ M1 fun y M2=>aq y fun y=>intD x fun i=>match y with | .Ab ks=>R [.bl (ks.contains i)] M2 | _=>False):=rfl
theorem v_one {a}{ρ M R}:ev Γ (.one a) ρ M R=(ev Γ a ρ M R):=rfl
theorem v_and {a}{b}{ρ M R}:ev Γ (.and a b) ρ M R=(ev Γ a ρ M fun x M1=>aq x fun x=>bG x fun c=>if c=true then ev Γ b ρ M1 R else R [.bl false] M1):=rfl
theorem v_or {a}{b}{ρ M R}:ev Γ (.or a b) ρ M R=(ev Γ a ρ M fun x M1=>aq x fun x=>bG x fun c=>if c=true then R [.bl true] M1 else ev Γ b ρ M1 R):=rfl
theorem v_not {a}{ρ M R}:ev Γ (.not a) ρ M R=(ev Γ a ρ M fun x M1=>aq x fun x=>bG x fun c=>R [.bl (!c)] M1):=rfl
theorem v_tr {a}{ρ M R}:ev Γ (.tr a) ρ M R=(ev Γ a ρ M fun x M1=>aq x fun x=>CT x fun c=>R [.bl c] M1):=rfl
theorem v_ife {t}{a}{b}{ρ M R}:ev Γ (.GA t a b) ρ M R=(ev Γ t ρ M fun x M1=>aq x fun x=>bG x fun c=>if c=true then ev Γ a ρ M1 R else ev Γ b ρ M1 R):=rfl
theorem v_tup {a}{ρ M R}:ev Γ (.tup a) ρ M R=(ev Γ a ρ M fun ds M1=>ds.length<=sizeLine/\R [.tup ds] M1):=rfl
theorem v_fr {f}{ρ M R}:ev Γ (.fr f) ρ M R=(ev Γ f ρ M fun ds M1=>R [.lst ds] M1):=rfl
theorem v_nlh {f}{ρ M R}:ev Γ (.CO f) ρ M R=(ev Γ f ρ M fun ds M1=>∀ a,M1 a=none->R [.dD a] (bL M1 a (.ml ds))):=rfl
theorem v_ndh {ρ M R}:ev Γ .GF ρ M R=(∀ a,M a=none->R [.dD a] (bL M a (.md []))):=rfl
theorem v_dsp {a}{ρ M R}:ev Γ (.jl a) ρ M R=(ev Γ a ρ M fun ds M1=>ds.length<=sizeLine/\R ds M1):=rfl
theorem v_lof {a}{ρ M R}:ev Γ (.xa a) ρ M R=(ev Γ a ρ M fun x M1=>aq x fun x=>eG (j9 x) fun ds=>R ds M1):=rfl
theorem v_slc {a}{lo}{hi}{ρ M R}:ev Γ (.Ae a lo hi) ρ M R=(ev Γ a ρ M fun x M1=>aq x fun x=>ev Γ lo ρ M1 fun l M2=>hW l fun l=>ev Γ hi ρ M2 fun h M3=>hW h fun h=>eG (i6 x) fun ds=>R (cutD ds l h) M3):=rfl
theorem v_cat {a}{b}{ρ M R}:ev Γ (.cat a b) ρ M R=(ev Γ a ρ M fun x M1=>aq x fun x=>ev Γ b ρ M1 fun y M2=>aq y fun y=>lstK x fun ds=>lstK y fun es=>ds.length+es.length<=sizeLine/\R (ds++es) M2):=rfl
theorem v_lrg {a}{b}{ρ M R}:ev Γ (.GG a b) ρ M R=(ev Γ a ρ M fun x M1=>aq x fun x=>ev Γ b ρ M1 fun y M2=>aq y fun y=>intD x fun i=>intD y fun j=>y4 i/\y4 j/\(j-i).toNat<=900/\R (bI i (j-i).toNat) M2):=rfl
theorem v_lr1 {a}{ρ M R}:ev Γ (.GH a) ρ M R=(ev Γ a ρ M fun x M1=>aq x fun x=>intD x fun j=>y4 j/\j.toNat<=900/\R (bI 0 j.toNat) M1):=rfl
theorem v_comp {it:C}{w:Nat}{ix:List Nat}{t:C}{e:C}{ρ M R}:ev Γ (.comp it w ix t e) ρ M R=(ev Γ it ρ M fun items M1=>items.length<=sizeLine/\cR (fun x M K=>yy ρ w ix x fun ρ'=>ev Γ t ρ' M fun c M1=>aq c fun c=>bG c fun c=>if c=true then ev Γ e ρ' M1 fun d M2=>aq d fun d=>K (some d) M2 else K none M1) items M1 R):=rfl
theorem v_comh {a}{w}{ix}{t}{e}{ρ M R}:ev Γ (.vQ a w ix t e) ρ M R=(ev Γ a ρ M fun x M1=>aq x fun x=>tV M1 x fun p items=>items.length<=sizeLine/\cR (fun x M K=>M p=some (.ml items)/\yy ρ w ix x fun ρ'=>ev Γ t ρ' M fun c M1=>aq c fun c=>bG c fun c=>if c=true then ev Γ e ρ' M1 fun d M2=>aq d fun d=>K (some d) M2 else K none M1) items M1 fun ds M2=>M2 p=some (.ml items)/\R ds M2):=rfl
theorem v_itl {a}{ρ M R}:ev Γ (.fB a) ρ M R=(ev Γ a ρ M fun x M1=>aq x fun x=>BM x fun ds=>R ds M1):=rfl
theorem v_rg1 {a}{ρ M R}:ev Γ (.jL a) ρ M R=(ev Γ a ρ M fun x M1=>aq x fun x=>intD x fun j=>y4 j/\R (bI 0 j.toNat) M1):=rfl
theorem v_rg2 {a}{b}{ρ M R}:ev Γ (.Ea a b) ρ M R=(ev Γ a ρ M fun x M1=>aq x fun x=>ev Γ b ρ M1 fun y M2=>aq y fun y=>intD x fun i=>intD y fun j=>y4 i/\y4 j/\R (bI i (j-i).toNat) M2):=rfl
theorem v_rev {a}{ρ M R}:ev Γ (.rev a) ρ M R=(ev Γ a ρ M fun x M1=>aq x fun x=>intD x fun j=>0<=j/\j<=1000/\R (bI 0 j.toNat).reverse M1):=rfl
theorem v_enu {a}{ρ M R}:ev Γ (.CP a) ρ M R=(ev Γ a ρ M fun x M1=>aq x fun x=>eG (pw x) fun ds=>R (ds.zipIdx.map fun p=>.tup [.int p.2,p.1]) M1):=rfl
theorem v_zip {a}{b}{ρ M R}:ev Γ (.zip a b) ρ M R=(ev Γ a ρ M fun x M1=>aq x fun x=>ev Γ b ρ M1 fun y M2=>aq y fun y=>eG (mB x) fun ds=>eG (mB y) fun es=>R ((ds.zip es).map fun p=>.tup [p.1,p.2]) M2):=rfl
theorem v_ix {a}{k}{ρ M R}:ev Γ (.ix a k) ρ M R=(ev Γ a ρ M fun x M1=>aq x fun x=>ev Γ k ρ M1 fun y M2=>aq y fun y=>intD y fun i=>jM x i fun d=>R [d] M2):=rfl
theorem v_ixh {a}{k}{ρ M R}:ev Γ (.yY a k) ρ M R=(ev Γ a ρ M fun x M1=>aq x fun x=>ev Γ k ρ M1 fun y M2=>aq y fun y=>intD y fun i=>tV M2 x fun _ ds=>atK ds i fun d=>R [d] M2):=rfl
theorem v_slt {a}{lo}{hi}{ρ M R}:ev Γ (.slt a lo hi) ρ M R=(ev Γ a ρ M fun x M1=>aq x fun x=>ev Γ lo ρ M1 fun l M2=>hW l fun l=>ev Γ hi ρ M2 fun h M3=>hW h fun h=>eG (mB x) fun ds=>R [.nL (cutD ds l h)] M3):=rfl
theorem v_sls {a}{lo}{hi}{ρ M R}:ev Γ (.CQ a lo hi) ρ M R=(ev Γ a ρ M fun x M1=>aq x fun x=>ev Γ lo ρ M1 fun l M2=>hW l fun l=>ev Γ hi ρ M2 fun h M3=>hW h fun h=>nM x fun z=>z.length<=sizeLine/\R [.str (XN z l h)] M3):=rfl
theorem v_fld {a:C}{f:Str}{ρ M R}:ev Γ (.fld a f) ρ M R=(ev Γ a ρ M fun x M1=>aq x fun x=>eH Γ f x fun d=>R [d] M1):=rfl
theorem v_call {f:Nat}{a:C}{ρ M R}:ev Γ (.call f a) ρ M R=(ev Γ a ρ M fun ds M1=>Γ.fn f ds M1 fun d M2=>R [d] M2):=rfl
theorem v_cab {f}{a}{ρ M R}:ev Γ (.xQ f a) ρ M R=(ev Γ a ρ M fun ds M1=>Γ.fn f ds M1 fun d M2=>(lh d=true/\tT M2)/\R [d] M2):=rfl
theorem v_meb {m}{r}{a}{ρ M R}:ev Γ (.GI m r a) ρ M R=(ev Γ r ρ M fun x M1=>aq x fun x=>eI M1 x fun c fs=>Γ.hm m c fs=true/\ev Γ a ρ M1 fun ds M2=>Γ.me m (x::ds) M2 fun d M3=>(lh d=true/\tT M3)/\R [d] M3):=rfl
theorem v_meth {m:Nat}{r:C}{a:C}{ρ M R}:ev Γ (.bR m r a) ρ M R=(ev Γ r ρ M fun x M1=>aq x fun x=>eI M1 x fun c fs=>Γ.hm m c fs=true/\ev Γ a ρ M1 fun ds M2=>Γ.me m (x::ds) M2 fun d M3=>R [d] M3):=rfl
theorem v_mk {c:Nat}{a:C}{ρ M R}:ev Γ (.mk c a) ρ M R=(ev Γ a ρ M fun ds M1=>Γ.bj c (.obj c [] []) ds M1 fun d M2=>R [d] M2):=rfl
theorem v_len {a}{ρ M R}:ev Γ (.len a) ρ M R=(ev Γ a ρ M fun x M1=>aq x fun x=>pA x fun n=>R [.int n] M1):=rfl
theorem v_isi {a:C}{t:Nat}{ρ M R}:ev Γ (.rM a t) ρ M R=(ev Γ a ρ M fun x M1=>aq x fun x=>isiD t x fun c=>R [.bl c] M1):=rfl
theorem v_all {a}{ρ M R}:ev Γ (.all a) ρ M R=(ev Γ a ρ M fun x M1=>aq x fun x=>∃ bs:List Bool,x=.lst (bs.map .bl)/\R [.bl (bs.all id)] M1):=rfl
theorem v_any {a}{ρ M R}:ev Γ (.any a) ρ M R=(ev Γ a ρ M fun x M1=>aq x fun x=>∃ bs:List Bool,x=.lst (bs.map .bl)/\R [.bl (bs.any id)] M1):=rfl
theorem v_int1 {a}{ρ M R}:ev Γ (.mz a) ρ M R=(ev Γ a ρ M fun x M1=>aq x fun x=>bG x fun c=>R [.int (if c then 1 else 0)] M1):=rfl
theorem v_min2 {a}{b}{ρ M R}:ev Γ (.min2 a b) ρ M R=(ev Γ a ρ M fun x M1=>aq x fun x=>ev Γ b ρ M1 fun y M2=>aq y fun y=>intD x fun i=>intD y fun j=>R [.int (if j<i then j else i)] M2):=rfl
theorem v_tpl {a}{ρ M R}:ev Γ (.yZ a) ρ M R=(ev Γ a ρ M fun x M1=>aq x fun x=>eG (i6 x) fun ds=>R [.tup ds] M1):=rfl
theorem v_tpf {a}{ρ M R}:ev Γ (.Eb a) ρ M R=(ev Γ a ρ M fun x M1=>aq x fun x=>eG (i6 x) fun ds=>R [.eQ ds] M1):=rfl
theorem v_cnt {a}{b}{ρ M R}:ev Γ (.cnt a b) ρ M R=(ev Γ a ρ M fun x M1=>aq x fun x=>CU x fun ds=>ev Γ b ρ M1 fun y M2=>aq y fun y=>ka y=true/\ds.all ka=true/\R [.int (ds.countP fun z=>JX z y:Nat)] M2):=rfl
theorem v_dct {a}{ρ M R}:ev Γ (.yh a) ρ M R=(ev Γ a ρ M fun x M1=>aq x fun x=>∃ ks:List Int,x=.lst (ks.map fun k=>.tup [.int k,.bl true])/\ks.length<=900/\R [.Ab ks] M1):=rfl
theorem v_dnt {k}{d}{ρ M R}:ev Γ (.CS k d) ρ M R=(ev Γ k ρ M fun x M1=>aq x fun x=>ev Γ d ρ M1 fun y M2=>aq y fun y=>yz x fun p=>GN M2 y fun _ am=>R [.bl (fV am p).isNone] M2):=rfl
theorem v_dgt {d}{k}{ρ M R}:ev Γ (.GJ d k) ρ M R=(ev Γ d ρ M fun x M1=>aq x fun x=>ev Γ k ρ M1 fun y M2=>aq y fun y=>yz y fun p=>GN M2 x fun _ am=>∃ v,fV am p=some v/\R [v] M2):=rfl
end
section
variable {Γ:Gm}{ρ:En}{M:Mem}{E:xb}{d e:Dt}{ds es:List Dt}{i j:Int}{x y:Str}{b:Bool}{k:Nat}{s:Sl}{c:C}
theorem rd_r1 {K:Dt->Prop}:aq [d] K=K d:=rfl
theorem rd_r2 {K:Bool->Prop}:bG (.bl b) K=K b:=rfl
theorem rd_r3 {K:Int->Prop}:intD (.int i) K=K i:=rfl
theorem rd_r4 {K:Str->Prop}:nM (.str x) K=K x:=rfl
theorem rd_r5 {K:Dt->Prop}:mC (.sh d::ρ) 0 K=K d:=rfl
theorem rd_r6 {K:Dt->Prop}:mC (s::ρ) (k+1) K=mC ρ k K:=rfl
theorem rd_r7 {K:Dt->Prop}:b8 (.ow d::ρ) 0 K=K d:=rfl
theorem rd_r8 {K:Dt->Prop}:b8 (s::ρ) (k+1) K=b8 ρ k K:=rfl
theorem rd_r9 {K:List Dt->Prop}:eG (some ds) K=K ds:=rfl
theorem rd_r10:j9 (.lst ds)=some ds:=rfl
theorem rd_r11:j9 (.mw ds)=some ds:=rfl
theorem rd_r12:j9 (.tup ds)=some ds:=rfl
theorem rd_r13:j9 (.eQ ds)=some ds:=rfl
theorem rd_r14:j9 (.qH ds)=some ds:=rfl
theorem rd_r15:i6 (.lst ds)=some ds:=rfl
theorem rd_r16:i6 (.mw ds)=some ds:=rfl
theorem rd_r17:pw (.tup ds)=some ds:=rfl
theorem rd_r18:pw (.eQ ds)=some ds:=rfl
theorem rd_r19:pw (.qH ds)=some ds:=rfl
theorem rd_r20:pw (.nL ds)=some ds:=rfl
theorem rd_r21:j9 (.nL ds)=some ds:=rfl
theorem rd_r22:mB (.tup ds)=some ds:=rfl
theorem rd_r23:mB (.eQ ds)=some ds:=rfl
theorem rd_r24:mB (.nL ds)=some ds:=rfl
theorem rd_b1 {R:Dt->Prop}:mD .add (.int i) (.int j) R=R (.int (i+j)):=rfl
theorem rd_b2 {R:Dt->Prop}:mD .add (.str x) (.str y) R=(x.length+y.length<=sizeLine/\R (.str (x++y))):=rfl
theorem rd_b3 {R:Dt->Prop}:mD .sub (.int i) (.int j) R=R (.int (i-j)):=rfl
theorem rd_b4 {R:Dt->Prop}:mD .mul (.int i) (.int j) R=(xW i j/\R (.int (i*j))):=rfl
theorem rd_b5 {R:Dt->Prop}:mD .fdiv (.int i) (.int j) R=(B9 i j/\R (.int (i / j))):=rfl
theorem rd_b6 {R:Dt->Prop}:mD .mod (.int i) (.int j) R=(0<j/\R (.int (i % j))):=rfl
theorem rd_b7 {R:Dt->Prop}:mD .pow (.int i) (.int j) R=(Ca i j/\R (.int (i ^ j.toNat))):=rfl
theorem rd_b8 {R:Dt->Prop}:mD .shr (.int i) (.int j) R=(0<=j/\R (.int (i / 2 ^ j.toNat))):=rfl
theorem rd_c1 {R:Bool->Prop}:gW .lt (.int i) (.int j) R=R (decide (i<j)):=rfl
theorem rd_c2 {R:Bool->Prop}:gW .le (.int i) (.int j) R=R (decide (i<=j)):=rfl
theorem rd_c3 {R:Bool->Prop}:gW .gt (.int i) (.int j) R=R (decide (j<i)):=rfl
theorem rd_c4 {R:Bool->Prop}:gW .ge (.int i) (.int j) R=R (decide (j<=i)):=rfl
theorem rd_c5 {R:Bool->Prop}:gW .JU d .aJ R=(Dt.aJ=.aJ/\R (Ec d)):=rfl
theorem rd_c6 {R:Bool->Prop}:gW .yw d .aJ R=(Dt.aJ=.aJ/\R (!Ec d)):=rfl
theorem rd_e1 {R:Bool->Prop}:tU (.int i) (.int j) R=R (decide (i=j)):=rfl
theorem rd_e2 {R:Bool->Prop}:tU (.str x) (.str y) R=R (decide (x=y)):=rfl
theorem rd_e3 {b':Bool}{R:Bool->Prop}:tU (.bl b) (.bl b') R=R (decide (b=b')):=rfl
theorem rd_l1 {R:Nat->Prop}:pA (.str x) R=(x.length<=sizeLine/\R x.length):=rfl
theorem rd_l2 {R:Nat->Prop}:pA (.lst ds) R=R ds.length:=rfl
theorem rd_l3 {R:Nat->Prop}:pA (.mw ds) R=R ds.length:=rfl
theorem rd_l4 {R:Nat->Prop}:pA (.tup ds) R=R ds.length:=rfl
theorem rd_l5 {R:Nat->Prop}:pA (.eQ ds) R=R ds.length:=rfl
theorem rd_l6 {R:Nat->Prop}:pA (.qH ds) R=R ds.length:=rfl
theorem rd_l7 {R:Nat->Prop}:pA (.nL ds) R=R ds.length:=rfl
theorem rd_t1 {R:Bool->Prop}:CT (.bl b) R=R b:=rfl
theorem rd_t2 {R:Bool->Prop}:CT (.lst ds) R=R (!ds.isEmpty):=rfl
theorem rd_x1 {R:Dt->Prop}:jM (.str x) i R=(x.length<=sizeLine/\∃ c,pd x.cps.toList i=some c/\R (.str ⟨#[c]⟩)):=rfl
theorem rd_x2 {R:Dt->Prop}:jM (.lst ds) i R=atK ds i R:=rfl
theorem rd_x3 {R:Dt->Prop}:jM (.mw ds) i R=atK ds i R:=rfl
theorem rd_x4 {R:Dt->Prop}:jM (.tup ds) i R=atK ds i R:=rfl
theorem rd_x5 {R:Dt->Prop}:jM (.eQ ds) i R=atK ds i R:=rfl
theorem rd_x6 {R:Dt->Prop}:jM (.qH ds) i R=atK ds i R:=rfl
theorem rd_x8 {R:Dt->Prop}:jM (.nL ds) i R=atK ds i R:=rfl
theorem rd_x7 {c:Nat}{f:Str}{fs:List Str}{R:Dt->Prop}:eH Γ f (.obj c fs ds) R=(Γ.at_ c f=true/\∃ d,(fs.zip ds).lookup f=some d/\R d):=rfl
theorem rd_o1 {R:k_ Int->Prop}:hW [] R=R none:=rfl
theorem rd_o2 {R:k_ Int->Prop}:hW [.int i] R=R (some i):=rfl
theorem rd_k1 {ix:List Nat}{K:En->Prop}:yy ρ 1 ix d K=K (.sh d::ix.map (hX ρ)):=rfl
theorem rd_k2 {ix:List Nat}{K:En->Prop}:yy ρ 2 ix (.tup [d,e]) K=K (.sh d::.sh e::ix.map (hX ρ)):=rfl
theorem rd_k3:hX (.sh d::ρ) 0=.sh d:=rfl
theorem rd_k4:hX (s::ρ) (k+1)=hX ρ k:=rfl
theorem rd_m1 {R:List Dt->Prop}:BM (.str x) R=R (rN x):=rfl
theorem rd_m2 {R:List Dt->Prop}:BM (.lst ds) R=R ds:=rfl
theorem rd_m3 {R:List Dt->Prop}:BM (.mw ds) R=R ds:=rfl
theorem rd_m4 {R:List Dt->Prop}:BM (.tup ds) R=R ds:=rfl
theorem rd_m5 {R:List Dt->Prop}:BM (.eQ ds) R=R ds:=rfl
theorem rd_m6 {R:List Dt->Prop}:BM (.qH ds) R=R ds:=rfl
theorem rd_m7 {R:List Dt->Prop}:BM (.nL ds) R=R ds:=rfl
theorem rd_n1 {i:Nat}{K:En->Prop}:fG ρ [i] d K=K (ρ.set i (.sh d)):=rfl
theorem rd_n2 {i j:Nat}{d':Dt}{K:En->Prop}:fG ρ [i,j] (.tup [d,d']) K=K ((ρ.set i (.sh d)).set j (.sh d')):=rfl
theorem rd_n3 {R:List Dt->Prop}:lstK (.lst ds) R=R ds:=rfl
theorem rd_n4 {c:Nat}{fs:List Str}{R:Nat->List Str->List Dt->Prop}:pB (.obj c fs ds) R=R c fs ds:=rfl
theorem rd_n5 {R:Dt->Prop}:yA .add (.int i) (.int j) R=R (.int (i+j)):=rfl
theorem rd_n6 {R:Dt->Prop}:yA .sub (.int i) (.int j) R=R (.int (i-j)):=rfl
theorem rd_n7 {R:List Dt->Prop}:CU (.eQ ds) R=R ds:=rfl
theorem rd_n8 {c:Nat}{fs:List Str}{R:Nat->List Str->Prop}:eI M (.obj c fs ds) R=R c fs:=rfl
variable {a r:S}{f:C}
theorem rd_s1:ex Γ .skip ρ M E=E.nx ρ M:=rfl
theorem rd_s2:ex Γ (.set k c) ρ M E=ev Γ c ρ M fun x M1=>aq x fun d=>E.nx (ρ.set k (.sh d)) M1:=rfl
theorem rd_s3:ex Γ (.d5 k f) ρ M E=ev Γ f ρ M fun ds M1=>E.nx (ρ.set k (.ow (.lst ds))) M1:=rfl
theorem rd_s4 {q:Nat}:ex Γ (.yx k q c) ρ M E=ev Γ c ρ M fun ds M1=>Γ.bj q (.obj q [] []) ds M1 fun d M2=>E.nx (ρ.set k (.ow d)) M2:=rfl
theorem rd_s5:ex Γ (.dS k) ρ M E=b8 ρ k fun d=>E.nx (ρ.set k (.sh d)) M:=rfl
theorem rd_s6:ex Γ (.app k c) ρ M E=b8 ρ k fun l=>lstK l fun ds=>ev Γ c ρ M fun x M1=>aq x fun d=>ds.length<sizeLine/\E.nx (ρ.set k (.ow (.lst (ds++[d])))) M1:=rfl
theorem rd_s7:ex Γ (.ext k c) ρ M E=b8 ρ k fun l=>lstK l fun ds=>ev Γ c ρ M fun x M1=>aq x fun d=>lstK d fun es=>ds.length+es.length<=sizeLine/\E.nx (ρ.set k (.ow (.lst (ds++es)))) M1:=rfl
theorem rd_s8 {h:C}:ex Γ (.GK h c) ρ M E=ev Γ h ρ M fun x M1=>aq x fun x=>tV M1 x fun _ _=>ev Γ c ρ M1 fun y M2=>aq y fun y=>tV M2 x fun p ds=>ds.length<sizeLine/\E.nx ρ (bL M2 p (.ml (ds++[y]))):=rfl
theorem rd_s9 {f:Str}:ex Γ (.eF k f c) ρ M E=ev Γ c ρ M fun x M1=>aq x fun d=>b8 ρ k fun o=>pB o fun c fs ds=>Γ.at_ c f=true/\fs.length<1000/\E.nx (ρ.set k (.ow (.obj c (putD f d fs ds).1 (putD f d fs ds).2))) M1:=rfl
theorem rd_s10 {op:qI}:ex Γ (.aug k op c) ρ M E=mC ρ k fun x=>ev Γ c ρ M fun y M1=>aq y fun y=>yA op x y fun d=>E.nx (ρ.set k (.sh d)) M1:=rfl
theorem rd_s11:ex Γ (.ex c) ρ M E=ev Γ c ρ M fun x M1=>aq x fun _=>E.nx ρ M1:=rfl
theorem rd_s12 {q:Nat}:ex Γ (.bj q c) ρ M E=b8 ρ 0 fun d=>pB d fun n fs xs=>ev Γ c ρ M fun ds M1=>Γ.bj q (.obj n fs xs) ds M1 fun d' M2=>E.nx (ρ.set 0 (.ow d')) M2:=rfl
theorem rd_s13:ex Γ (.ret c) ρ M E=ev Γ c ρ M fun x M1=>aq x fun d=>E.rt d M1:=rfl
theorem rd_s16:ex Γ (.ite c a r) ρ M E=ev Γ c ρ M fun x M1=>aq x fun x=>bG x fun c=>if c=true then ex Γ a ρ M1 E else ex Γ r ρ M1 E:=rfl
theorem rd_s17 {tg:List Nat}:ex Γ (.bM c tg a) ρ M E=ev Γ c ρ M fun items M1=>dE (fun x ρ M E=>fG ρ tg x fun ρ'=>ex Γ a ρ' M E) E items ρ M1:=rfl
theorem rd_s20 {h:C}{tg:List Nat}:ex Γ (.vR h tg a) ρ M E=ev Γ h ρ M fun x M1=>aq x fun x=>tV M1 x fun p items=>dE (fun x ρ M E=>M p=some (.ml items)/\fG ρ tg x fun ρ'=>ex Γ a ρ' M E) { E with nx:=fun ρ M=>M p=some (.ml items)/\E.nx ρ M } items ρ M1:=rfl
theorem rd_s21:ex Γ (.JV c) ρ M E=ev Γ c ρ M fun x M1=>aq x fun x=>tV M1 x fun p _=>E.nx ρ (bL M1 p (.ml [])):=rfl
theorem sqo (h:∀ N,N=(fun ρ' M'=>ex Γ r ρ' M' E)->ex Γ a ρ M { E with nx:=N }):ex Γ (.seq a r) ρ M E:=h _ rfl
theorem ax {f:Dt->En->Mem->xb->Prop}{items:List Dt} (Iv:Nat->En->Mem->Prop) (h0:Iv 0 ρ M)
  (hs:∀ (i:Nat) x ρ M (N:En->Mem->Prop),items[i]? = some x->Iv i ρ M->(∀ ρ' M',Iv (i+1) ρ' M'->N ρ' M')->f x ρ M { E with nx:=N,ct:=N,bk:=E.nx }) (hd:∀ ρ M,Iv items.length ρ M->E.nx ρ M):dE f E items ρ M:=by
 suffices ∀ (n:Nat) (l:List Dt),l=items.drop n->n<=items.length->∀ ρ M,Iv n ρ M->dE f E l ρ M from this 0 items rfl (Xn _) ρ M h0
 intro n l
 induction l generalizing n with
 | nil =>
  intro e hn ρ M h;have:items.length<=n:=List.drop_eq_nil_iff.mp e.symm;have:n=items.length:=by lia
  subst this;exact hd ρ M h
 | cons x xs ih =>
  intro e hn ρ M h
  have hx:items[n]? = some x:=by
   have:=congrArg (fun l=>l[0]?) e;simpa using this.symm
  have i9:n<items.length:=(i_.mp hx).1
  have e':xs=items.drop (n+1):=by
   have:=congrArg List.tail e;simpa [List.tail_drop] using this
  exact hs n x ρ M _ hx h fun ρ' M' h'=>ih (n+1) e' i9 ρ' M' h'
theorem aA {lo:Int}{n i:Nat}{x:Dt} (h:(bI lo n)[i]? = some x):i<n/\x=.int (lo+i):=by
 unfold bI at h;rw[h_] at h;obtain⟨k,hk,rfl⟩:=m_.mp h;obtain⟨h1,h2⟩:=i_.mp hk;rw[Wu] at h1;rw[abG] at h2;subst h2;exact⟨h1,rfl⟩
theorem aj {lo:Int}{n:Nat}:(bI lo n).length=n:=by unfold bI;rw[a_,Wu]
theorem comp_map {f:Dt->Mem->(k_ Dt->Mem->Prop)->Prop}{R:Rt} (g:Dt->Dt):∀ {items:List Dt},(∀ x∈items,∀ K,K (some (g x)) M->f x M K)->R (items.map g) M->cR f items M R
 | [],_,h=>h
 | x::xs,hf,h=>hf x S_ _ (comp_map g (fun y hy=>hf y (E_ _ hy)) h)
theorem bD {f:Dt->Mem->(k_ Dt->Mem->Prop)->Prop}{R:Rt} (g:Dt->k_ Dt):∀ {items:List Dt},(∀ x∈items,∀ K,K (g x) M->f x M K)->R (items.filterMap g) M->cR f items M R
 | [],_,h=>h
 | x::xs,hf,h=>by
  refine hf x S_ _ (bD g (fun y hy=>hf y (E_ _ hy)) ?_);rw[Ww] at h
  cases e:g x with
  | none=>rw[e] at h;exact h
  | some d=>rw[e] at h;exact h
end
end PV
namespace PV
open PySem L2 SH
theorem _root_.L2.PE.imp {X:Cx}{e:Expr}{t t':TE} (h:PE X e t) (i:∀ σ H Q,t' σ H Q->t σ H Q):PE X e t':=fun pins s σ H Q I q=>h pins s σ H Q I (i σ H Q q)
theorem _root_.L2.PT.imp {X:Cx}{e:Expr}{t t':TT} (h:PT X e t) (i:∀ σ H Q,t' σ H Q->t σ H Q):PT X e t':=fun pins s σ H Q I q=>h pins s σ H Q I (i σ H Q q)
theorem _root_.L2.PW.imp {X:Cx}{e:Expr}{t t':TT} (h:PW X e t) (i:∀ σ H Q,t' σ H Q->t σ H Q):PW X e t':=fun wh pins s σ H Q I q=>h wh pins s σ H Q I (i σ H Q q)
theorem _root_.L2.PA.imp {X:Cx}{e:List Expr}{t t':TA} (h:PA X e t) (i:∀ σ H Q,t' σ H Q->t σ H Q):PA X e t':=fun pos pins s σ H Q I q=>h pos pins s σ H Q I (i σ H Q q)
theorem _root_.L2.PO.imp {X:Cx}{e:k_ Expr}{t t':TO} (h:PO X e t) (i:∀ σ H Q,t' σ H Q->t σ H Q):PO X e t':=fun pins s σ H Q I q=>h pins s σ H Q I (i σ H Q q)
theorem _root_.L2.PI.imp {X:Cx}{tg e:Expr}{t t':TI} (h:PI X tg e t) (i:∀ σ H Q,t' σ H Q->t σ H Q):PI X tg e t':=fun pins s σ H Q I q=>h pins s σ H Q I (i σ H Q q)
theorem _root_.L2.PS.imp {X:Cx}{e:Stmt}{t t':TS} (h:PS X e t) (i:∀ D σ H,t' D σ H->t D σ H):PS X e t':=fun pins s σ H D I q=>h pins s σ H D I (i D σ H q)
theorem _root_.L2.kY.imp {X:Cx}{e:List Stmt}{t t':TS} (h:kY X e t) (i:∀ D σ H,t' D σ H->t D σ H):kY X e t':=fun pins s σ H D I q=>h pins s σ H D I (i D σ H q)
def db (K:e_) (cl:Cl) (G H:Hp) (d:Dt) (v:V):Prop:=Is K cl G d v∨∃ a o,v=.ref a/\Gz d=some o/\b7 K cl G H a o
def kO (k:k_ Int->Mem->Prop):Rt:=fun ds M=>hW ds fun o=>k o M
def kB (k:Bool->Mem->Prop):Rt:=fun x M=>aq x fun x=>bG x fun b=>k b M
def JY (K:e_) (cl:Cl) (G H:Hp) (M:Mem) (d:Dt) (v:V):Prop:=Is K cl G d v∨∃ a o,v=.ref a/\Gz d=some o/\M a=none/\b7 K cl G H a o
section
variable (K:e_) (cl:Cl) (Γ:Gm) (c:C)
inductive tp (σ:St) (H:Hp) (Q:VK):Prop where
 | mk (B:Bs) (ρ:En) (M:Mem) (G:Hp) (R:Rt):Rep K cl B ρ M σ H G->ev Γ c ρ M R->(∀ d v M' G' H',aY K cl none G H M G' H' M'->Is K cl G' d v->R [d] M'->Q v H')->tp σ H Q
inductive tq (σ:St) (H:Hp) (Q:VK):Prop where
 | mk (B:Bs) (ρ:En) (M:Mem) (G:Hp) (R:Rt):Rep K cl B ρ M σ H G->ev Γ c ρ M R->(∀ d v M' G' H',aY K cl none G H M G' H' M'->db K cl G' H' d v->R [d] M'->Q v H')->tq σ H Q
inductive tr (σ:St) (H:Hp) (Q:VK):Prop where
 | mk (B:Bs) (ρ:En) (M:Mem) (G:Hp) (R:Rt):Rep K cl B ρ M σ H G->ev Γ c ρ M R->(∀ d v M' G' H',aY K cl none G H M G' H' M'->JY K cl G' H' M' d v->R [d] M'->Q v H')->tr σ H Q
inductive ta (σ:St) (H:Hp) (Q:List V->Hp->Prop):Prop where
 | mk (B:Bs) (ρ:En) (M:Mem) (G:Hp) (R:Rt):Rep K cl B ρ M σ H G->ev Γ c ρ M R->(∀ ds vs M' G' H',aY K cl none G H M G' H' M'->IsL K cl G' ds vs->R ds M'->Q vs H')->ta σ H Q
inductive tf (σ:St) (H:Hp) (Q:VK):Prop where
 | mk (B:Bs) (ρ:En) (M:Mem) (G:Hp) (R:Rt):Rep K cl B ρ M σ H G->ev Γ c ρ M R->(∀ ds vs M' G' H' p,aY K cl none G H M G' H' M'->H' p=none->IsL K cl G' ds vs->R ds M'->Q (.ref p) (upd H' p (.lst vs)))->tf σ H Q
inductive tt (σ:St) (H:Hp) (Q:Bool->Hp->Prop):Prop where
 | mk (B:Bs) (ρ:En) (M:Mem) (G:Hp) (k:Bool->Mem->Prop):Rep K cl B ρ M σ H G->ev Γ c ρ M (kB k)->(∀ b M' G' H',aY K cl none G H M G' H' M'->k b M'->Q b H')->tt σ H Q
inductive to (σ:St) (H:Hp) (Q:k_ Int->Hp->Prop):Prop where
 | mk (B:Bs) (ρ:En) (M:Mem) (G:Hp) (k:k_ Int->Mem->Prop):Rep K cl B ρ M σ H G->ev Γ c ρ M (kO k)->(∀ o M' G' H',aY K cl none G H M G' H' M'->k o M'->Q o H')->to σ H Q
def QA (J:It) (items:List Dt) (P:Mem->Prop) (G:Hp):Prop:=∀ (i:Nat) (G' H:Hp) (M:Mem),ah G G'->ah G' H->bh K cl G' H M->P M ->
 (i<items.length->J.go i H/\∀ x H',J.DV i H x H'->∃ d Lp,items[i]? = some d/\Is K cl Lp d x/\aY K cl none G' H M Lp H' M)/\(i=items.length->J.stop i H)
def tW (J:It) (items:List Dt) (G:Hp):Prop:=∀ (i:Nat) (G' H:Hp) (M:Mem),ah G G'->ah G' H->bh K cl G' H M ->
 (i<items.length->J.go i H/\∀ x H',J.DV i H x H'->∃ d Lp,items[i]? = some d/\Is K cl Lp d x/\aY K cl none G' H M Lp H' M)/\(i=items.length->J.stop i H)
inductive Af (σ:St) (H:Hp) (Q:It->Hp->Prop):Prop where
 | mk (B:Bs) (ρ:En) (M:Mem) (G:Hp) (R:Rt):Rep K cl B ρ M σ H G->ev Γ c ρ M R->(∀ items M' G' H' J,aY K cl none G H M G' H' M'->tW K cl J items G'->R items M'->Q J H')->Af σ H Q
end
section
variable {K:e_}{cl:Cl}{Γ:Gm}{c ca cb cc:C}{σ:St}{H:Hp}{Q:VK}{X:Cx}{e a b:Expr}
theorem db.BK {G H:Hp}{d:Dt}{v:V}{ds:List Dt} (s:ah G H) (h:db K cl G H d v) (e:i6 d=some ds):∃ a vs,v=.ref a/\cr K H a vs/\IsL K cl G ds vs:=by
 rcases h with h | ⟨a,o,rfl,ho,hc⟩
 ·obtain⟨a,vs,h1,h2,h3⟩:=h.BK e;exact⟨a,vs,h1,h2.same s,h3⟩
 ·cases d<;>first | (cases e;done) | skip
  ·cases e;cases ho
   obtain⟨vs,h1,h2⟩:=hc;exact⟨a,vs,rfl,cr.of h1,h2⟩
  ·cases ho
theorem db.JT {G H:Hp}{d:Dt}{v:V}{ds:List Dt} (s:ah G H) (h:db K cl G H d v) (e:pw d=some ds):∃ a vs,v=.ref a/\eD K H a vs/\IsL K cl G ds vs:=by
 rcases h with h | ⟨a,o,rfl,ho,hc⟩
 ·obtain⟨a,vs,h1,h2,h3⟩:=h.JT e;exact⟨a,vs,h1,h2.same s,h3⟩
 ·cases d<;>first | (cases e;done) | (cases ho;done)
theorem db.seq {G H:Hp}{d:Dt}{v:V}{ds:List Dt} (s:ah G H) (h:db K cl G H d v) (e:j9 d=some ds):∃ a vs,v=.ref a/\(cr K H a vs∨eD K H a vs)/\IsL K cl G ds vs:=by
 unfold j9 at e
 cases q:i6 d with
 | some es =>
  rw[q] at e;cases e;obtain⟨a,vs,h1,h2,h3⟩:=h.BK s q;exact⟨a,vs,h1,.inl h2,h3⟩
 | none =>
  rw[q] at e;obtain⟨a,vs,h1,h2,h3⟩:=h.JT s e;exact⟨a,vs,h1,.inr h2,h3⟩
theorem db.int {G H:Hp}{i:Int}{v:V} (h:db K cl G H (.int i) v):v=.int i:=by
 rcases h with h | ⟨a,o,_,ho,_⟩
 ·unfold Is at h;exact h
 ·cases ho
theorem db.str {G H:Hp}{i:Str}{v:V} (h:db K cl G H (.str i) v):v=.str i:=by
 rcases h with h | ⟨a,o,_,ho,_⟩
 ·unfold Is at h;exact h
 ·cases ho
theorem db.bl {G H:Hp}{i:Bool}{v:V} (h:db K cl G H (.bl i) v):v=.bl i:=by
 rcases h with h | ⟨a,o,_,ho,_⟩
 ·unfold Is at h;exact h
 ·cases ho
theorem db.aJ {G H:Hp}{v:V} (h:db K cl G H .aJ v):v=.aJ:=by
 rcases h with h | ⟨a,o,_,ho,_⟩
 ·unfold Is at h;exact h
 ·cases ho
theorem JY.q {G H:Hp}{M:Mem}{d:Dt}{v:V} (h:JY K cl G H M d v):db K cl G H d v:=h.elim .inl fun⟨a,o,h1,h2,_,h3⟩=>.inr ⟨a,o,h1,h2,h3⟩
theorem JY.bT {G H G' H':Hp}{M M':Mem}{d:Dt}{v:V} (h:JY K cl G H M d v) (f:aY K cl none G H M G' H' M'):JY K cl G' H' M' d v:=by
 rcases h with h | ⟨a,o,h1,h2,h3,h4⟩
 ·exact .inl (h.mono f.g)
 ·obtain⟨u,hu⟩:=h4.jK;refine .inr ⟨a,o,h1,h2,?_,h4.mono f.g fun u e=>f.h a u e h3 (fun z=>nomatch z)⟩
  cases e:M' a with
  | none=>rfl
  | some w=>exact absurd (f.mf a w e h3) (by rw[hu];exact fun z=>nomatch z)
theorem Lq (h:tr K cl Γ c σ H Q):tp K cl Γ c σ H Q:=by
 obtain⟨B,ρ,M,G,R,h1,h2,h3⟩:=h;exact⟨B,ρ,M,G,R,h1,h2,fun d v M' G' H' f i=>h3 d v M' G' H' f (.inl i)⟩
theorem Lr (h:tq K cl Γ c σ H Q):tr K cl Γ c σ H Q:=by
 obtain⟨B,ρ,M,G,R,h1,h2,h3⟩:=h;exact⟨B,ρ,M,G,R,h1,h2,fun d v M' G' H' f i=>h3 d v M' G' H' f i.q⟩
theorem _root_.L2.PE.r (h:PE X e (tp X.K cl Γ c)):PE X e (tr X.K cl Γ c):=h.imp fun _ _ _=>Lq
theorem _root_.L2.PE.rq (h:PE X e (tr X.K cl Γ c)):PE X e (tq X.K cl Γ c):=h.imp fun _ _ _=>Lr
theorem Ls (h:tq K cl Γ c σ H Q):tp K cl Γ c σ H Q:=by
 obtain⟨B,ρ,M,G,R,h1,h2,h3⟩:=h;exact⟨B,ρ,M,G,R,h1,h2,fun d v M' G' H' f i=>h3 d v M' G' H' f (.inl i)⟩
theorem _root_.L2.PE.q (h:PE X e (tp X.K cl Γ c)):PE X e (tq X.K cl Γ c):=h.imp fun _ _ _=>Ls
theorem Lu {D:Dt->Mem->(Dt->Mem->Prop)->Prop}{r:V->Hp->VK->Prop} (he:∀ ρ M R,ev Γ c ρ M R->ev Γ ca ρ M fun x M1=>aq x fun x=>D x M1 fun d M2=>R [d] M2)
  (hr:∀ x v G H M (k:Dt->Mem->Prop) (Q:VK),ah G H->bh K cl G H M->db K cl G H x v->D x M k->(∀ d u M' G' H',aY K cl none G H M G' H' M'->Is K cl G' d u->k d M'->Q u H')->r v H Q)
  (h:tp K cl Γ c σ H Q):tq K cl Γ ca σ H fun v H1=>r v H1 Q:=by
 obtain⟨B,ρ,M,G,R,h1,h2,h3⟩:=h;refine⟨B,ρ,M,G,_,h1,he _ _ _ h2,fun d v M' G' H' f i hd=>hr d v G' H' M' _ Q f.gh f.mem i hd fun d' u M2 G2 H2 f2 i2 h4=>h3 d' u M2 G2 H2 (f.trans f2) i2 h4⟩
theorem BN {D:Dt->Dt->Mem->(Dt->Mem->Prop)->Prop}{r:R2} (he:∀ ρ M R,ev Γ c ρ M R->ev Γ ca ρ M fun x M1=>aq x fun x=>ev Γ cb ρ M1 fun y M2=>aq y fun y=>D x y M2 fun d M3=>R [d] M3)
  (hr:∀ x y vx vy G H M (k:Dt->Mem->Prop) (Q:VK),ah G H->bh K cl G H M->db K cl G H x vx->db K cl G H y vy->D x y M k->(∀ d u M' G' H',aY K cl none G H M G' H' M'->Is K cl G' d u->k d M'->Q u H')->r vx vy H Q)
  (h:tp K cl Γ c σ H Q):yX r (tr K cl Γ ca) (tq K cl Γ cb) σ H Q:=by
 obtain⟨B,ρ,M,G,R,h1,h2,h3⟩:=h;refine⟨B,ρ,M,G,_,h1,he _ _ _ h2,fun x vx M1 G1 H1 f1 i1 hx=>⟨B,ρ,M1,G1,_,h1.on f1,hx,fun y vy M2 G2 H2 f2 i2 hy=>?_⟩⟩;exact hr x y vx vy G2 H2 M2 _ Q f2.gh f2.mem (i1.bT f2).q i2 hy fun d u M3 G3 H3 f3 i3 h4=>h3 d u M3 G3 H3 ((f1.trans f2).trans f3) i3 h4
theorem OD {d:Dt}{v:V} (he:∀ ρ M R,ev Γ c ρ M R->R [d] M) (hi:∀ G,Is K cl G d v) (h:tp K cl Γ c σ H Q):tC v σ H Q:=by
 obtain⟨B,ρ,M,G,R,h1,h2,h3⟩:=h;exact h3 d v M G H h1.self (hi G) (he _ _ _ h2)
theorem Uy {n:Int}{j pos}:PE X (.Constant (.int n) j pos) (tp X.K cl Γ (.i n)):=E7.imp fun _ _ _ h=>OD (c:=.i n) (d:=.int n) (fun _ _ _ z=>z) (fun _=>by unfold Is;rfl) h
theorem Uz {n:Str}{j pos}:PE X (.Constant (.str n) j pos) (tp X.K cl Γ (.s n)):=E8.imp fun _ _ _ h=>OD (c:=.s n) (d:=.str n) (fun _ _ _ z=>z) (fun _=>by unfold Is;rfl) h
theorem UA {n:Bool}{j pos}:PE X (.Constant (.bool n) j pos) (tp X.K cl Γ (.b n)):=Kb.imp fun _ _ _ h=>OD (c:=.b n) (d:=.bl n) (fun _ _ _ z=>z) (fun _=>by unfold Is;rfl) h
theorem UB {k:Nat}{x:Str}{pos:Pos} (hN:X.N[k]? = some x) (hv:yW X.env.scope x) (hd:(x==("__debug__" : Str))=false) (jS:(x==("__classdict__" : Str))=false):PE X (.Name x pos) (tp X.K cl Γ (.v k)) :=
 (kZ hN hv hd jS).imp fun σ H Q h=>by
  obtain⟨B,ρ,M,G,R,h1,h2,h3⟩:=h;change mC ρ k _ at h2;unfold mC at h2
  cases e:ρ[k]? with
  | none=>rw[e] at h2;exact h2.elim
  | some s =>
   cases s with
   | sh d =>
    rw[e] at h2;obtain⟨v,e1,e2⟩:=h1.sh k d e;exact⟨v,e1,h3 d v M G H h1.self e2 h2⟩
   | no=>rw[e] at h2;exact h2.elim
   | ow d=>rw[e] at h2;exact h2.elim
theorem Sz {k:Nat}{x:Str}{pos:Pos} (hN:X.N[k]? = some x) (hv:yW X.env.scope x) (hd:(x==("__debug__" : Str))=false) (jS:(x==("__classdict__" : Str))=false):PE X (.Name x pos) (tr X.K cl Γ (.o k)) :=
 (kZ hN hv hd jS).imp fun σ H Q h=>by
  obtain⟨B,ρ,M,G,R,h1,h2,h3⟩:=h;change b8 ρ k _ at h2;unfold b8 at h2
  cases e:ρ[k]? with
  | none=>rw[e] at h2;exact h2.elim
  | some s =>
   cases s with
   | ow d =>
    rw[e] at h2;obtain⟨oa,o1,_⟩:=h1.ow;obtain⟨e1,_,hm,_,o,ho,hc⟩:=o1 k d e;exact⟨_,e1,h3 d _ M G H h1.self (.inr ⟨_,o,rfl,ho,hm,hc⟩) h2⟩
   | no=>rw[e] at h2;exact h2.elim
   | sh d=>rw[e] at h2;exact h2.elim
theorem UC (ha:PE X e (tp X.K cl Γ ca)):PE X e (tq X.K cl Γ (.d ca)):=ha.imp fun σ H Q h=>by
 obtain⟨B,ρ,M,G,R,h1,h2,h3⟩:=h;refine⟨B,ρ,M,G,_,h1,h2,fun d v M' G' H' f i hd=>?_⟩
 cases d with
 | dD p =>
  change (match M' p with | some (.ml xs)=>R [.lst xs] M' | some (.mo c fs xs)=>R [.obj c fs xs] M' | _=>False) at hd
  cases e:M' p with
  | none=>rw[e] at hd;exact hd.elim
  | some o =>
   have hc:=(f.mem p o e).2;rw[e] at hd;unfold Is at i
   cases o with
   | ml xs=>exact h3 _ v M' G' H' f (.inr ⟨p,_,i,rfl,hc⟩) hd
   | mo c fs xs=>exact h3 _ v M' G' H' f (.inr ⟨p,_,i,rfl,hc⟩) hd
   | md am=>exact hd.elim
 | _=>exact (show False from hd).elim
noncomputable def GO:qI->Y1
 | .add=>.Add | .sub=>.Sub | .mul=>.Mult | .fdiv=>.FloorDiv | .mod=>.Mod | .pow=>.Pow | .shr=>.RShift
def Lv:qI->R2
 | .add=>fun x y H Q=>wL (fun i j=>.int (i+j)) x y H Q∨∃ i j,x=.str i/\y=.str j/\i.length+j.length<=sizeLine/\Q (.str (i++j)) H
 | .sub=>wL fun i j=>.int (i-j)
 | .mul=>rI xW fun i j=>.int (i*j)
 | .fdiv=>rI B9 fun i j=>.int (i / j)
 | .mod=>rI (fun _ j=>0<j) fun i j=>.int (i % j)
 | .pow=>rI Ca fun i j=>.int (i ^ j.toNat)
 | .shr=>rI (fun _ j=>0<=j) fun i j=>.int (i / 2 ^ j.toNat)
theorem GP:∀ op:qI,eV X (YE (GO op)) (Lv op)
 | .add=>Fs.or vk
 | .sub=>Ft
 | .mul=>Fu
 | .fdiv=>Cb
 | .mod=>Fv
 | .pow=>Fw
 | .shr=>Fy
theorem nN {d:Dt}{R:Int->Prop} (h:vb d R):∃ i,d=.int i/\R i:=by
 cases d<;>first | exact⟨_,rfl,h⟩ | exact h.elim
theorem GQ {d:Dt}{R:Str->Prop} (h:Qx d R):∃ i,d=.str i/\R i:=by
 cases d<;>first | exact⟨_,rfl,h⟩ | exact h.elim
theorem GR {op:qI}{x y:Dt}{vx vy:V}{G H:Hp}{k:Dt->Prop}{Q:VK} (hx:db K cl G H x vx) (hy:db K cl G H y vy) (h:mD op x y k) (q:∀ d v,Is K cl G d v->k d->Q v H):Lv op vx vy H Q:=by
 have Ag:∀ n,Is K cl G (.int n) (.int n):=fun n=>by unfold Is;rfl
 cases x with
 | int i =>
  obtain⟨j,rfl,h⟩:=nN (show vb y _ from h);have e1:=hx.int;have e2:=hy.int;subst e1 e2
  cases op with
  | add=>exact .inl ⟨i,j,rfl,rfl,q _ _ (Ag _) h⟩
  | sub=>exact⟨i,j,rfl,rfl,q _ _ (Ag _) h⟩
  | _=>exact⟨i,j,rfl,rfl,h.1,q _ _ (Ag _) h.2⟩
 | str i =>
  obtain⟨j,rfl,h⟩:=GQ (show Qx y _ from h);have e1:=hx.str;have e2:=hy.str;subst e1 e2
  cases op with
  | add=>exact .inr ⟨i,j,rfl,rfl,h.1,q _ _ (by unfold Is;rfl) h.2⟩
  | _=>exact h.elim
 | _=>exact h.elim
theorem Lw {op:qI}{pos:Pos} (ha:PE X a (tp X.K cl Γ ca)) (hb:PE X b (tp X.K cl Γ cb)):PE X (.BinOp a (GO op) b pos) (tp X.K cl Γ (.bin op ca cb)) :=
 (DX (GP op) ha.r hb.q).imp fun σ H Q h=>BN (c:=.bin op ca cb) (D:=fun x y M k=>mD op x y fun d=>k d M) (fun _ _ _ z=>z) (fun x y vx vy G H M k Q s m hx hy hd q=>GR hx hy hd fun d v i hk=>q d v M G H (aY.refl s m) i hk) h
theorem Lx {pos:Pos} (ha:PE X a (tp X.K cl Γ ca)):PE X (.UnaryOp .USub a pos) (tp X.K cl Γ (.neg ca)) :=
 (Kn Fz ha.q).imp fun σ H Q h=>Lu (c:=.neg ca) (D:=fun x M k=>intD x fun i=>k (.int (-i)) M) (fun _ _ _ z=>z) (fun x v G H M k Q s m hx hd q=>by
  cases x with
  | int i=>have e:=hx.int;subst e;exact⟨i,rfl,q _ _ M G H (aY.refl s m) (by unfold Is;rfl) hd⟩
  | _=>exact (show False from hd).elim) h
noncomputable def yB:rL->CmpOp
 | .lt=>.Lt | .le=>.LtE | .gt=>.Gt | .ge=>.GtE | .JU=>.Is | .yw=>.IsNot
def Ah:rL->R2
 | .lt=>wL fun i j=>.bl (decide (i<j))
 | .le=>wL fun i j=>.bl (decide (i<=j))
 | .gt=>wL fun i j=>.bl (decide (j<i))
 | .ge=>wL fun i j=>.bl (decide (j<=i))
 | .JU=>fun x y H Q=>y=.aJ/\Q (.bl (decide (x=.aJ))) H
 | .yw=>fun x y H Q=>y=.aJ/\Q (.bl (!decide (x=.aJ))) H
theorem lj:∀ op:rL,eV X (Wx (yB op)) (Ah op)
 | .lt=>Kr
 | .le=>Ks
 | .gt=>Kt
 | .ge=>Ku
 | .JU=>FC
 | .yw=>Cc
theorem vT (op:rL) (b:Expr):W7 (yB op) b=false:=by cases op<;>exact zj b
theorem db.Ec {G H:Hp}{d:Dt}{v:V} (h:db K cl G H d v):decide (v=.aJ)=Ec d:=by
 rcases h with h | ⟨a,o,rfl,e,_⟩
 ·unfold Is at h
  cases d<;>first | (cases h;rfl) | (obtain⟨a,_,rfl,_⟩:=h;rfl) | (obtain⟨a,_,_,rfl,_⟩:=h;rfl)
 ·cases d<;>first | rfl | cases e
theorem rO {op:rL}{x y:Dt}{vx vy:V}{G H:Hp}{k:Bool->Prop}{Q:VK} (hx:db K cl G H x vx) (hy:db K cl G H y vy) (h:gW op x y k) (q:∀ b,k b->Q (.bl b) H):Ah op vx vy H Q:=by
 have two:∀ {R:Int->Int->Prop},(vb x fun i=>vb y fun j=>R i j)->∃ i j,vx=.int i/\vy=.int j/\R i j:=fun {R} h=>by
  obtain⟨i,rfl,h2⟩:=nN h;obtain⟨j,rfl,h3⟩:=nN h2;exact⟨i,j,hx.int,hy.int,h3⟩
 cases op with
 | JU=>obtain⟨rfl,h⟩:=h;exact⟨hy.aJ,q _ (by rw[hx.Ec];exact h)⟩
 | yw=>obtain⟨rfl,h⟩:=h;exact⟨hy.aJ,q _ (by rw[hx.Ec];exact h)⟩
 | _=>obtain⟨i,j,e1,e2,h⟩:=two h;exact⟨i,j,e1,e2,q _ h⟩
theorem Is.vU {G:Hp}{b:Bool}:Is K cl G (.bl b) (.bl b):=by unfold Is;rfl
theorem Ly {op:rL}{pos:Pos} (ha:PE X a (tp X.K cl Γ ca)) (hb:PE X b (tp X.K cl Γ cb)):PE X (.Compare a [yB op] [b] pos) (tp X.K cl Γ (.cmp op ca cb)) :=
 (jV (lj op) ha.r hb.q (vT op b)).imp fun σ H Q h=>BN (c:=.cmp op ca cb) (D:=fun x y M k=>gW op x y fun c=>k (.bl c) M) (fun _ _ _ z=>z) (fun x y vx vy G H M k Q s m hx hy hd q=>rO hx hy hd fun b hk=>q _ _ M G H (aY.refl s m) Is.vU hk) h
theorem tX {σ:St}{H:Hp}{Q:Bool->Hp->Prop} (h:tt K cl Γ c σ H Q):tp K cl Γ c σ H fun v H1=>∃ b,v=.bl b/\Q b H1:=by
 obtain⟨B,ρ,M,G,k,h1,h2,h3⟩:=h;refine⟨B,ρ,M,G,_,h1,h2,fun d v M' G' H' f i hd=>?_⟩
 cases d with
 | bl b=>unfold Is at i;exact⟨b,i,h3 b M' G' H' f hd⟩
 | _=>exact (show False from hd).elim
theorem tY {op:CmpOp}{r:R2}{pos:Pos} (ho:eV X (Wx op) r) (ha:PE X a (tr X.K cl Γ ca)) (hb:PE X b (tq X.K cl Γ cb)) (hm:W7 op b=false)
  (hh:∀ σ H Q,tp X.K cl Γ c σ H Q->yX r (tr X.K cl Γ ca) (tq X.K cl Γ cb) σ H Q):PT X (.Compare a [op] [b] pos) (tt X.K cl Γ c):=(Cd ho ha hb hm).imp fun σ H Q h=>hh σ H _ (tX h)
theorem Lz (ha:PE X e (tp X.K cl Γ c)) (he:∀ whole,aaX e X.env whole=(do let v ←whole;abg e.pos;aas [v] (truthy v))):PT X e (tt X.K cl Γ c):=(E9 ha he).imp fun _ _ _ h=>tX h
end
end PV
namespace PV
open PySem L2 SH
noncomputable def noStar:Expr->Bool
 | .Starred _ _=>false
 | _=>true
theorem ag {e:Expr}{es:List Expr}{env:Env} (h:noStar e=true):T_ (e::es) env=(false,eval e env)::T_ es env:=by
 cases e<;>first | rfl | cases h
theorem de {pos:Pos}{env:Env}:∀ {es:List Expr},es.all noStar=true->(XO pos (T_ es env)).any (·.1)=false
 | [],_=>rfl
 | e::es,h=>by
  rw[WC,q_] at h;rw[ag h.1];show (false||(XO pos (T_ es env)).any (·.1))=false;rw[de h.2];rfl
theorem kf {pos:Pos}{env:Env}:∀ {es:List Expr},es.all noStar=true->(XO pos (T_ es env)).all (fun x => !x.1)=true
 | [],_=>rfl
 | e::es,h=>by
  rw[WC,q_] at h;rw[ag h.1];show (true&&(XO pos (T_ es env)).all (fun x => !x.1))=true;rw[kf h.2];rfl
section
variable {K:e_}{cl:Cl}{Γ:Gm}{c ca cb cc:C}{σ:St}{H:Hp}{Q:VK}{X:Cx}{e a b:Expr}{es:List Expr}
theorem LA:PA X [] (ta X.K cl Γ .nil):=bw.imp fun σ H Q h=>by
 obtain⟨B,ρ,M,G,R,h1,h2,h3⟩:=h;exact h3 [] [] M G H h1.self IsL.nil h2
theorem GS (ha:PE X a (tp X.K cl Γ ca)) (hr:PA X es (ta X.K cl Γ cb)) (hs:noStar a=true):PA X (a::es) (ta X.K cl Γ (.cons ca cb)):=(aC ha hr (ag hs)).imp fun σ H Q h=>by
 obtain⟨B,ρ,M,G,R,h1,h2,h3⟩:=h;exact⟨B,ρ,M,G,_,h1,h2,fun x vx M1 G1 H1 f1 i1 hx=>⟨B,ρ,M1,G1,_,h1.on f1,hx,fun ds vs M2 G2 H2 f2 i2 hd=>h3 _ _ M2 G2 H2 (f1.trans f2) (IsL.cons (i1.mono f2.g) i2) hd⟩⟩
theorem vV {G H:Hp}{p:Addr} (s:ah G H) (h:H p=none):G p=none:=s.free h
theorem aY.cell {G H:Hp}{M:Mem}{p:Addr}{o:HO}{m:MO} (gh:ah G H) (mm:bh K cl G H M) (hp:H p=none) (hc:∀ H',H' p=some o->b7 K cl G H' p m):aY K cl none G H M G (upd H p o) (bL M p m):=by
 have gp:G p=none:=vV gh hp
 have mp:M p=none:=by
  cases e:M p with
  | none=>rfl
  | some w=>obtain⟨u,hu⟩:=(mm p w e).2.jK;rw[hp] at hu;cases hu
 refine⟨ah.refl G,fun a u e=>ah.put hp a u (gh a u e),fun a u e=>⟨u,ah.put hp a u e⟩,fun a u e n=>absurd e (by rw[n];exact fun z=>nomatch z),fun a u e _ _=>ah.put hp a u e,fun a u e=>?_,fun a u e n=>?_,fun a u e=>?_⟩
 ·unfold bL at e;by_cases z:a=p
  ·subst z;rw[u_ rfl] at e;cases e;exact⟨gp,hc _ az⟩
  ·rw[p_ z] at e;obtain⟨h1,h2⟩:=mm a u e;exact⟨h1,h2.mono (ah.refl G) fun w hw=>by rw[aw z];exact hw⟩
 ·unfold bL at e;by_cases z:a=p
  ·rw[z];exact hp
  ·rw[p_ z,n] at e;cases e
 ·unfold bL;by_cases z:a=p
  ·subst z;rw[mp] at e;cases e
  ·rw[p_ z];exact⟨u,e,rfl⟩
theorem Ed (h:tp K cl Γ (.fr c) σ H Q):tf K cl Γ c σ H Q:=by
 obtain⟨B,ρ,M,G,R,h1,h2,h3⟩:=h;refine⟨B,ρ,M,G,_,h1,h2,fun ds vs M' G' H' p f hp i hR=>?_⟩;have f2:=aY.lay (o:=.lst vs) f.gh f.mem hp;exact h3 (.lst ds) (.ref p) M' _ _ (f.trans f2) (by unfold Is;exact⟨p,vs,rfl,az,i.mono f2.g⟩) hR
theorem QB (h:PE X e (tf X.K cl Γ c)):PE X e (tp X.K cl Γ (.fr c)):=h.imp fun _ _ _=>Ed
theorem LB (h:PE X e (tf X.K cl Γ c)):PE X e (tp X.K cl Γ (.CO c)):=h.imp fun σ H Q h=>by
 obtain⟨B,ρ,M,G,R,h1,h2,h3⟩:=h;refine⟨B,ρ,M,G,_,h1,h2,fun ds vs M' G' H' p f hp i hR=>?_⟩;have f2:=aY.cell (o:=.lst vs) (m:=.ml ds) f.gh f.mem hp fun H' e=>⟨vs,e,i⟩
 refine h3 (.dD p) (.ref p) _ _ _ (f.trans f2) (by unfold Is;rfl) (hR p ?_)
 cases e:M' p with
 | none=>rfl
 | some w=>obtain⟨u,hu⟩:=(f.mem p w e).2.jK;rw[hp] at hu;cases hu
theorem LC {k pos} (h:PA X es (ta X.K cl Γ c)):PE X (.Tuple es k pos) (tp X.K cl Γ (.tup c)):=(FJ h).imp fun σ H Q h=>by
 obtain⟨B,ρ,M,G,R,h1,h2,h3⟩:=h;refine⟨B,ρ,M,G,_,h1,h2,fun ds vs M' G' H' f i hR=>⟨by rw[←i.length];exact hR.1,fun p hp=>?_⟩⟩;have f2:=aY.lay (o:=.tup vs) f.gh f.mem hp;exact h3 (.tup ds) (.ref p) M' _ _ (f.trans f2) (by unfold Is;exact⟨p,vs,rfl,az,i.mono f2.g⟩) hR.2
theorem LD {pos} (h:PA X es (ta X.K cl Γ c)):PE X (.List es pos) (tf X.K cl Γ (.jl c)):=(FK h).imp fun σ H Q h=>by
 obtain⟨B,ρ,M,G,R,h1,h2,h3⟩:=h;exact⟨B,ρ,M,G,_,h1,h2,fun ds vs M' G' H' f i hR=>⟨by rw[←i.length];exact hR.1,fun p hp=>h3 ds vs M' G' H' p f hp i hR.2⟩⟩
theorem UD {D:Dt->Mem->(List Dt->Mem->Prop)->Prop}{r:V->Hp->VK->Prop} (he:∀ ρ M R,ev Γ c ρ M R->ev Γ ca ρ M fun x M1=>aq x fun x=>D x M1 R)
  (hr:∀ x v G H M (k:List Dt->Mem->Prop) (Q:VK),ah G H->bh K cl G H M->db K cl G H x v->D x M k->(∀ ds vs M' G' H' p,aY K cl none G H M G' H' M'->H' p=none->IsL K cl G' ds vs->k ds M'->Q (.ref p) (upd H' p (.lst vs)))->r v H Q)
  (h:tf K cl Γ c σ H Q):tq K cl Γ ca σ H fun v H1=>r v H1 Q:=by
 obtain⟨B,ρ,M,G,R,h1,h2,h3⟩:=h;exact⟨B,ρ,M,G,_,h1,he _ _ _ h2,fun d v M' G' H' f i hd=>hr d v G' H' M' _ Q f.gh f.mem i hd fun ds vs M2 G2 H2 p f2 hp i2 h4=>h3 ds vs M2 G2 H2 p (f.trans f2) hp i2 h4⟩
theorem UE {D:Dt->Dt->Mem->(List Dt->Mem->Prop)->Prop}{r:R2} (he:∀ ρ M R,ev Γ c ρ M R->ev Γ ca ρ M fun x M1=>aq x fun x=>ev Γ cb ρ M1 fun y M2=>aq y fun y=>D x y M2 R)
  (hr:∀ x y vx vy G H M (k:List Dt->Mem->Prop) (Q:VK),ah G H->bh K cl G H M->db K cl G H x vx->db K cl G H y vy->D x y M k->(∀ ds vs M' G' H' p,aY K cl none G H M G' H' M'->H' p=none->IsL K cl G' ds vs->k ds M'->Q (.ref p) (upd H' p (.lst vs)))->r vx vy H Q)
  (h:tf K cl Γ c σ H Q):yX r (tr K cl Γ ca) (tq K cl Γ cb) σ H Q:=by
 obtain⟨B,ρ,M,G,R,h1,h2,h3⟩:=h;refine⟨B,ρ,M,G,_,h1,he _ _ _ h2,fun x vx M1 G1 H1 f1 i1 hx=>⟨B,ρ,M1,G1,_,h1.on f1,hx,fun y vy M2 G2 H2 f2 i2 hy=>?_⟩⟩;exact hr x y vx vy G2 H2 M2 _ Q f2.gh f2.mem (i1.bT f2).q i2 hy fun ds vs M3 G3 H3 p f3 hp i3 h4=>h3 ds vs M3 G3 H3 p ((f1.trans f2).trans f3) hp i3 h4
theorem cj {o:k_ (List Dt)}{k:List Dt->Prop} (h:eG o k):∃ ds,o=some ds/\k ds:=by
 cases o with
 | none=>exact (show False from h).elim
 | some ds=>exact⟨ds,rfl,h⟩
theorem fH {d:Dt}{k:List Dt->Prop} (h:lstK d k):∃ ds,d=.lst ds/\k ds:=by
 cases d with
 | lst ds=>exact⟨ds,rfl,h⟩
 | _=>exact (show False from h).elim
theorem bp {d:Dt}{k:Int->Prop} (h:intD d k):∃ ds,d=.int ds/\k ds:=by
 cases d with
 | int ds=>exact⟨ds,rfl,h⟩
 | _=>exact (show False from h).elim
theorem ll {d:Dt}{k:Str->Prop} (h:nM d k):∃ ds,d=.str ds/\k ds:=by
 cases d with
 | str ds=>exact⟨ds,rfl,h⟩
 | _=>exact (show False from h).elim
theorem fW {d:Dt}{k:Bool->Prop} (h:bG d k):∃ ds,d=.bl ds/\k ds:=by
 cases d with
 | bl ds=>exact⟨ds,rfl,h⟩
 | _=>exact (show False from h).elim
theorem db.lst {G H:Hp}{ds:List Dt}{v:V} (s:ah G H) (h:db K cl G H (.lst ds) v):∃ a vs,v=.ref a/\H a=some (.lst vs)/\IsL K cl G ds vs:=by
 rcases h with h | ⟨a,o,rfl,ho,hc⟩
 ·unfold Is at h;obtain⟨a,vs,e,q,r⟩:=h;exact⟨a,vs,e,s _ _ q,r⟩
 ·cases ho;obtain⟨vs,h1,h2⟩:=hc;exact⟨a,vs,rfl,h1,h2⟩
section
variable {x:Str}{id T:YD}{rr:List V->Hp->VK->Prop}{p pos:Pos}
theorem vW {D:Dt->Mem->(Dt->Mem->Prop)->Prop} (hc:bz X (.builtin id) rr) (hg:Gl X x) (hm:X.mg x=none) (hv:W8 x=some (.builtin id)) (hn:x ≠ "__name__") (k9:(x==("__debug__" : Str))=false) (ha:PE X a (tq X.K cl Γ ca)) (hs:noStar a=true)
  (he:∀ ρ M R,ev Γ c ρ M R->ev Γ ca ρ M fun x M1=>aq x fun x=>D x M1 fun d M2=>R [d] M2)
  (hr:∀ x v G H M (k:Dt->Mem->Prop) (Q:VK),ah G H->bh X.K cl G H M->db X.K cl G H x v->D x M k->(∀ d u M' G' H',aY X.K cl none G H M G' H' M'->Is X.K cl G' d u->k d M'->Q u H')->rr [v] H Q):PE X (.Call (.Name x p) [a] [] pos) (tp X.K cl Γ c) :=
 (nw hc hg hm hv (aC ha bw (ag hs)) hn k9 (ag hs) rfl).imp fun σ H Q h=>Lu (r:=fun v H Q=>rr [v] H Q) he hr h
theorem rP {D:Dt->Mem->(Dt->Mem->Prop)->Prop} (hc:bz X (.type T) rr) (hg:Gl X x) (hm:X.mg x=none) (hv:W8 x=some (.type T)) (hn:x ≠ "__name__") (k9:(x==("__debug__" : Str))=false) (ha:PE X a (tq X.K cl Γ ca)) (hs:noStar a=true)
  (he:∀ ρ M R,ev Γ c ρ M R->ev Γ ca ρ M fun x M1=>aq x fun x=>D x M1 fun d M2=>R [d] M2)
  (hr:∀ x v G H M (k:Dt->Mem->Prop) (Q:VK),ah G H->bh X.K cl G H M->db X.K cl G H x v->D x M k->(∀ d u M' G' H',aY X.K cl none G H M G' H' M'->Is X.K cl G' d u->k d M'->Q u H')->rr [v] H Q):PE X (.Call (.Name x p) [a] [] pos) (tp X.K cl Γ c) :=
 (cS hc hg hm hv (aC ha bw (ag hs)) hn k9 (ag hs) rfl).imp fun σ H Q h=>Lu (r:=fun v H Q=>rr [v] H Q) he hr h
theorem CV {D:Dt->Mem->(List Dt->Mem->Prop)->Prop} (hc:bz X (.type T) rr) (hg:Gl X x) (hm:X.mg x=none) (hv:W8 x=some (.type T)) (hn:x ≠ "__name__") (k9:(x==("__debug__" : Str))=false) (ha:PE X a (tq X.K cl Γ ca)) (hs:noStar a=true)
  (he:∀ ρ M R,ev Γ c ρ M R->ev Γ ca ρ M fun x M1=>aq x fun x=>D x M1 R)
  (hr:∀ x v G H M (k:List Dt->Mem->Prop) (Q:VK),ah G H->bh X.K cl G H M->db X.K cl G H x v->D x M k->(∀ ds vs M' G' H' p,aY X.K cl none G H M G' H' M'->H' p=none->IsL X.K cl G' ds vs->k ds M'->Q (.ref p) (upd H' p (.lst vs)))->rr [v] H Q):PE X (.Call (.Name x p) [a] [] pos) (tf X.K cl Γ c) :=
 (cS hc hg hm hv (aC ha bw (ag hs)) hn k9 (ag hs) rfl).imp fun σ H Q h=>UD (r:=fun v H Q=>rr [v] H Q) he hr h
theorem GU {D:Dt->Dt->Mem->(Dt->Mem->Prop)->Prop} (hc:bz X (.builtin id) rr) (hg:Gl X x) (hm:X.mg x=none) (hv:W8 x=some (.builtin id)) (hn:x ≠ "__name__") (k9:(x==("__debug__" : Str))=false) (ha:PE X a (tr X.K cl Γ ca)) (hb:PE X b (tq X.K cl Γ cb)) (hs:noStar a=true) (mP:noStar b=true)
  (he:∀ ρ M R,ev Γ c ρ M R->ev Γ ca ρ M fun x M1=>aq x fun x=>ev Γ cb ρ M1 fun y M2=>aq y fun y=>D x y M2 fun d M3=>R [d] M3)
  (hr:∀ x y vx vy G H M (k:Dt->Mem->Prop) (Q:VK),ah G H->bh X.K cl G H M->db X.K cl G H x vx->db X.K cl G H y vy->D x y M k->(∀ d u M' G' H',aY X.K cl none G H M G' H' M'->Is X.K cl G' d u->k d M'->Q u H')->rr [vx,vy] H Q):PE X (.Call (.Name x p) [a,b] [] pos) (tp X.K cl Γ c) :=
 (nw hc hg hm hv (aC ha (aC hb bw (ag mP)) (ag hs)) hn k9 (ag hs) (de (by simp [mP]))).imp fun σ H Q h=>BN (r:=fun v u H Q=>rr [v,u] H Q) he hr h
end
theorem LF {p pos:Pos} (hg:Gl X "list") (hm:X.mg "list" = none) (ha:PE X a (tq X.K cl Γ ca)) (hs:noStar a=true):PE X (.Call (.Name "list" p) [a] [] pos) (tf X.K cl Γ (.xa ca)) :=
 CV (c:=.xa ca) (D:=fun x M k=>eG (j9 x) fun ds=>k ds M) (rE) hg hm Yi (by decide) (by decide) ha hs (fun _ _ _ z=>z)
  (fun x v G H M k Q s m hx hd q=>by
   obtain⟨ds,e,hk⟩:=cj hd;obtain⟨l,vs,rfl,h1,h2⟩:=hx.seq s e;exact⟨l,vs,rfl,h1,fun p hp=>q ds vs M G H p (aY.refl s m) hp h2 hk⟩)
theorem LG {p pos:Pos} (hg:Gl X "len") (hm:X.mg "len" = none) (ha:PE X a (tq X.K cl Γ ca)) (hs:noStar a=true):PE X (.Call (.Name "len" p) [a] [] pos) (tp X.K cl Γ (.len ca)) :=
 vW (c:=.len ca) (D:=fun x M k=>pA x fun n=>k (.int n) M) (rC.or rD) hg hm PySem.boot_len (by decide) (by decide) ha hs (fun _ _ _ z=>z)
  (fun x v G H M k Q s m hx hd q=>by
   have fin:∀ {ds:List Dt},j9 x=some ds->k (.int ds.length) M->∃ p ys,[v]=[V.ref p]/\(cr X.K H p ys∨eD X.K H p ys)/\Q (.int ys.length) H:=fun {ds} e hk=>by
    obtain⟨l,vs,rfl,h1,h2⟩:=hx.seq s e;exact⟨l,vs,rfl,h1,q _ _ M G H (aY.refl s m) (by unfold Is;rw[h2.length]) hk⟩
   cases x with
   | str z=>have e:=hx.str;subst e;exact .inr ⟨z,rfl,hd.1,q _ _ M G H (aY.refl s m) (by unfold Is;rfl) hd.2⟩
   | lst ds=>exact .inl (fin rfl hd)
   | mw ds=>exact .inl (fin rfl hd)
   | tup ds=>exact .inl (fin rfl hd)
   | eQ ds=>exact .inl (fin rfl hd)
   | qH ds=>exact .inl (fin rfl hd)
   | nL ds=>exact .inl (fin rfl hd)
   | _=>exact (show False from hd).elim)
theorem LH {p pos:Pos} (hg:Gl X "tuple") (hm:X.mg "tuple" = none) (ha:PE X a (tq X.K cl Γ ca)) (hs:noStar a=true):PE X (.Call (.Name "tuple" p) [a] [] pos) (tp X.K cl Γ (.yZ ca)) :=
 rP (c:=.yZ ca) (D:=fun x M k=>eG (i6 x) fun ds=>k (.tup ds) M) (yg) hg hm YZ (by decide) (by decide) ha hs (fun _ _ _ z=>z)
  (fun x v G H M k Q s m hx hd q=>by
   obtain⟨ds,e,hk⟩:=cj hd;obtain⟨l,vs,rfl,h1,h2⟩:=hx.BK s e;refine⟨l,vs,rfl,h1,fun p hp=>?_⟩;have f2:=aY.lay (o:=.tup vs) s m hp;exact q _ _ M _ _ f2 (by unfold Is;exact⟨p,vs,rfl,az,h2.mono f2.g⟩) hk)
theorem LI {p pos:Pos} (hg:Gl X "tuple") (hm:X.mg "tuple" = none) (ha:PE X a (tq X.K cl Γ ca)) (hs:noStar a=true):PE X (.Call (.Name "tuple" p) [a] [] pos) (tp X.K cl Γ (.Eb ca)) :=
 rP (c:=.Eb ca) (D:=fun x M k=>eG (i6 x) fun ds=>k (.eQ ds) M) (yp) hg hm YZ (by decide) (by decide) ha hs (fun _ _ _ z=>z)
  (fun x v G H M k Q s m hx hd q=>by
   obtain⟨ds,e,hk⟩:=cj hd;obtain⟨l,vs,rfl,h1,h2⟩:=hx.BK s e;refine⟨l,vs,rfl,h1,fun p o hp UF UG=>?_⟩;have f2:=aY.lay (o:=.dS o (.tup vs)) s m hp;exact q _ _ M _ _ f2 (by unfold Is;exact⟨p,vs,rfl,⟨o,az,UF,UG⟩,h2.mono f2.g⟩) hk)
theorem LJ {p pos:Pos} (hc:X.calm=true) (hg:Gl X "all") (hm:X.mg "all" = none) (ha:PE X a (tq X.K cl Γ ca)) (hs:noStar a=true):PE X (.Call (.Name "all" p) [a] [] pos) (tp X.K cl Γ (.all ca)) :=
 vW (c:=.all ca) (D:=fun x M k=>∃ bs:List Bool,x=.lst (bs.map .bl)/\k (.bl (bs.all id)) M) (zM hc) hg hm (by decide +kernel) (by decide) (by decide) ha hs (fun _ _ _ z=>z)
  (fun x v G H M k Q s m hx hd q=>by
   obtain⟨bs,rfl,hk⟩:=hd;obtain⟨l,vs,rfl,h1,h2⟩:=hx.lst s;have e:=h2.vP;subst e;exact⟨l,bs,rfl,cr.of h1,q _ _ M G H (aY.refl s m) Is.vU hk⟩)
theorem LK {p pos:Pos} (hc:X.calm=true) (hg:Gl X "any") (hm:X.mg "any" = none) (ha:PE X a (tq X.K cl Γ ca)) (hs:noStar a=true):PE X (.Call (.Name "any" p) [a] [] pos) (tp X.K cl Γ (.any ca)) :=
 vW (c:=.any ca) (D:=fun x M k=>∃ bs:List Bool,x=.lst (bs.map .bl)/\k (.bl (bs.any id)) M) (zN hc) hg hm (by decide +kernel) (by decide) (by decide) ha hs (fun _ _ _ z=>z)
  (fun x v G H M k Q s m hx hd q=>by
   obtain⟨bs,rfl,hk⟩:=hd;obtain⟨l,vs,rfl,h1,h2⟩:=hx.lst s;have e:=h2.vP;subst e;exact⟨l,bs,rfl,cr.of h1,q _ _ M G H (aY.refl s m) Is.vU hk⟩)
theorem GV {p pos:Pos} (hg:Gl X "int") (hm:X.mg "int" = none) (ha:PE X a (tq X.K cl Γ ca)) (hs:noStar a=true):PE X (.Call (.Name "int" p) [a] [] pos) (tp X.K cl Γ (.mz ca)) :=
 rP (c:=.mz ca) (D:=fun x M k=>bG x fun b=>k (.int (if b then 1 else 0)) M) (xY) hg hm aaT (by decide) (by decide) ha hs (fun _ _ _ z=>z)
  (fun x v G H M k Q s m hx hd q=>by
   obtain⟨b,rfl,hk⟩:=fW hd;have e:=hx.bl;subst e;exact .inr ⟨b,rfl,q _ _ M G H (aY.refl s m) (by unfold Is;rfl) hk⟩)
end
end PV
namespace PV
open PySem L2 SH
section
variable {K:e_}{cl:Cl}{Γ:Gm}{c ca cb cc:C}{σ:St}{G H:Hp}{Q:VK}{X:Cx}{e a b:Expr}{es:List Expr}{pos:Pos}
mutual
theorem Is.dat (s:ah G H):∀ {d:Dt}{v:V}{p:H_},Is K cl G d v->toP d=some p->bQ K H v p
 | .aJ,v,p,h,e=>by unfold Is at h;unfold toP at e;cases e;subst h;exact .aJ
 | .bl b,v,p,h,e=>by unfold Is at h;unfold toP at e;cases e;subst h;exact .bl b
 | .int b,v,p,h,e=>by unfold Is at h;unfold toP at e;cases e;subst h;exact .int b
 | .str b,v,p,h,e=>by unfold Is at h;unfold toP at e;cases e;subst h;exact .str b
 | .lst ds,v,p,h,e=>by
  unfold Is at h;unfold toP at e;obtain⟨a,vs,rfl,q,r⟩:=h;obtain⟨ps,e1,rfl⟩:=m_.mp e;exact .lst (cr.of (s _ _ q)) (IsL.nO s r e1)
 | .mw ds,v,p,h,e=>by
  unfold Is at h;unfold toP at e;obtain⟨a,vs,rfl,q,r⟩:=h;obtain⟨ps,e1,rfl⟩:=m_.mp e;exact .lst (q.same s) (IsL.nO s r e1)
 | .tup ds,v,p,h,e=>by
  unfold Is at h;unfold toP at e;obtain⟨a,vs,rfl,q,r⟩:=h;obtain⟨ps,e1,rfl⟩:=m_.mp e;exact .tup (eD.of (s _ _ q)) (IsL.nO s r e1)
 | .eQ ds,v,p,h,e=>by
  unfold Is at h;unfold toP at e;obtain⟨a,vs,rfl,q,r⟩:=h;obtain⟨ps,e1,rfl⟩:=m_.mp e;exact .tup (q.sq.same s) (IsL.nO s r e1)
 | .qH ds,v,p,h,e=>by
  unfold Is at h;unfold toP at e;obtain⟨a,vs,rfl,q,r⟩:=h;obtain⟨ps,e1,rfl⟩:=m_.mp e;exact .tup (q.same s) (IsL.nO s r e1)
 | .nL ds,v,p,h,e=>by
  unfold Is at h;unfold toP at e;obtain⟨a,vs,rfl,q,r⟩:=h;obtain⟨ps,e1,rfl⟩:=m_.mp e;exact .tup (eD.same s (.inl q)) (IsL.nO s r e1)
 | .obj c fs ds,v,p,h,e=>by unfold toP at e;cases e
 | .Ab ks,v,p,h,e=>by unfold toP at e;cases e
 | .dD a,v,p,h,e=>by unfold toP at e;cases e
theorem IsL.nO (s:ah G H):∀ {ds:List Dt}{vs:List V}{ps:List H_},IsL K cl G ds vs->toPs ds=some ps->dC K H vs ps
 | [],vs,ps,h,e=>by unfold IsL at h;unfold toPs at e;cases e;subst h;exact .nil
 | d::ds,vs,ps,h,e=>by
  unfold IsL at h;unfold toPs at e;obtain⟨v,r,rfl,h1,h2⟩:=h
  cases e1:toP d with
  | none=>rw[e1] at e;cases e
  | some p =>
   cases e2:toPs ds with
   | none=>rw[e1,e2] at e;cases e
   | some qs =>
    rw[e1,e2] at e
    cases e
    exact .cons (Is.dat s h1 e1) (IsL.nO s h2 e2)
end
theorem db.dat {d:Dt}{v:V}{p:H_} (s:ah G H) (h:db K cl G H d v) (e:toP d=some p):bQ K H v p:=by
 rcases h with h | ⟨a,o,rfl,ho,hc⟩
 ·exact h.dat s e
 ·cases d<;>first | (cases ho;done) | skip
  ·cases ho
   obtain⟨vs,h1,h2⟩:=hc;unfold toP at e;obtain⟨ps,e1,rfl⟩:=m_.mp e;exact .lst (cr.of h1) (h2.nO s e1)
  ·unfold toP at e;cases e
noncomputable def Ee:Bool->CmpOp
 | false=>.Eq
 | true=>.NotEq
def Ai (K:e_):Bool->R2
 | false=>fun x y H Q=>RT x y H Q∨Cv K false x y H Q
 | true=>fun x y H Q=>RU x y H Q∨Cv K true x y H Q
theorem rQ (hu:X.A.units+64<cLine):∀ ng,eV X (Wx (Ee ng)) (Ai X.K ng)
 | false=>Kp.or (Ga hu)
 | true=>Kq.or (Gb hu)
theorem rR (ng:Bool) (b:Expr):W7 (Ee ng) b=false:=by cases ng<;>exact zj b
theorem LL {ng:Bool}{x y:Dt}{vx vy:V}{k:Bool->Prop} (s:ah G H) (hx:db K cl G H x vx) (hy:db K cl G H y vy) (h:tU x y k) (q:∀ b,k b->Q (.bl (ng ^^ b)) H):Ai K ng vx vy H Q:=by
 unfold tU at h
 cases e:Qz x y with
 | some b =>
  rw[e] at h
  have fin:∀ {u w:V},FA u w=true->decide (u=w)=b->Ai K ng u w H Q:=fun {u w} h1 h2=>by
   cases ng with
   | false=>exact .inl ⟨h1,by rw[h2];have:=q b h;rwa [Zb] at this⟩
   | true=>exact .inl ⟨h1,by rw[h2];have:=q b h;rwa [Zt] at this⟩
  unfold Qz at e;split at e
  ·cases e;have e1:=hx.int;have e2:=hy.int;subst e1 e2;exact fin rfl (by simp)
  ·cases e;have e1:=hx.str;have e2:=hy.str;subst e1 e2;exact fin rfl (by simp)
  ·cases e;have e1:=hx.bl;have e2:=hy.bl;subst e1 e2;exact fin rfl (by simp)
  ·cases e
 | none =>
  rw[e] at h;obtain⟨p,p',h1,h2,h3,h4,h5⟩:=h;have:=q _ h5
  cases ng with
  | false=>exact .inr ⟨p,p',hx.dat s h1,hy.dat s h2,h3,h4,by rwa [Zb] at this⟩
  | true=>exact .inr ⟨p,p',hx.dat s h1,hy.dat s h2,h3,h4,by rwa [Zt] at this⟩
theorem Ef {ng:Bool} (h:tp K cl Γ (.eq ng ca cb) σ H Q):yX (Ai K ng) (tr K cl Γ ca) (tq K cl Γ cb) σ H Q :=
 BN (c:=.eq ng ca cb) (D:=fun x y M k=>tU x y fun c=>k (.bl (ng ^^ c)) M) (fun _ _ _ z=>z) (fun x y vx vy G H M k Q s m hx hy hd q=>LL s hx hy hd fun b hk=>q _ _ M G H (aY.refl s m) Is.vU hk) h
theorem s_eq {ng:Bool} (hu:X.A.units+64<cLine) (ha:PE X a (tr X.K cl Γ ca)) (hb:PE X b (tq X.K cl Γ cb)):PE X (.Compare a [Ee ng] [b] pos) (tp X.K cl Γ (.eq ng ca cb)):=(jV (rQ hu ng) ha hb (rR ng b)).imp fun _ _ _=>Ef
theorem QC {ng:Bool} (hu:X.A.units+64<cLine) (ha:PE X a (tr X.K cl Γ ca)) (hb:PE X b (tq X.K cl Γ cb)):PT X (.Compare a [Ee ng] [b] pos) (tt X.K cl Γ (.eq ng ca cb)):=tY (rQ hu ng) ha hb (rR ng b) fun _ _ _=>Ef
theorem Is.QD {M:Mem}{d:Dt}{v:V}{p:H_} (s:ah G H) (m:bh K cl G H M) (h:Is K cl G d v) (e:toPH M d=some p):bQ K H v p:=by
 cases d with
 | dD a =>
  unfold Is at h;subst h;change (match M a with | some (.ml xs)=>(toPs xs).map Yv | _=>none)=some p at e
  cases q:M a with
  | none=>rw[q] at e;cases e
  | some o =>
   rw[q] at e
   cases o with
   | ml xs =>
    obtain⟨vs,h1,h2⟩:=(m a _ q).2;obtain⟨ps,e1,rfl⟩:=m_.mp e;exact .lst (cr.of h1) (h2.nO s e1)
   | _=>cases e
 | _=>exact h.dat s e
theorem IsL.Eg {M:Mem} (s:ah G H) (m:bh K cl G H M):∀ {ds:List Dt}{vs:List V}{ps:List H_},IsL K cl G ds vs->toPHs M ds=some ps->dC K H vs ps
 | [],vs,ps,h,e=>by unfold IsL at h;cases e;subst h;exact .nil
 | d::ds,vs,ps,h,e=>by
  unfold IsL at h;unfold toPHs at e;obtain⟨v,r,rfl,h1,h2⟩:=h
  cases e1:toPH M d with
  | none=>rw[e1] at e;cases e
  | some p =>
   cases e2:toPHs M ds with
   | none=>rw[e1,e2] at e;cases e
   | some qs =>
    rw[e1,e2] at e
    cases e
    exact .cons (h1.QD s m e1) (IsL.Eg s m h2 e2)
theorem db.CW {M:Mem}{d:Dt}{v:V}{p:H_} (s:ah G H) (m:bh K cl G H M) (h:db K cl G H d v) (e:toPT M d=some p):bQ K H v p:=by
 cases d with
 | tup ds =>
  rcases h with h | ⟨_,_,_,ho,_⟩
  ·unfold Is at h;obtain⟨a,vs,rfl,q,r⟩:=h;obtain⟨ps,e1,rfl⟩:=m_.mp e;exact .tup (eD.of (s _ _ q)) (r.Eg s m e1)
  ·cases ho
 | _=>exact h.dat s e
theorem Aj {ng:Bool} (h:tp K cl Γ (.BL ng ca cb) σ H Q):yX (Ai K ng) (tr K cl Γ ca) (tq K cl Γ cb) σ H Q :=
 BN (c:=.BL ng ca cb) (D:=fun x y M k=>Qy M x y fun c=>k (.bl (ng ^^ c)) M) (fun _ _ _ z=>z) (fun x y vx vy G H M k Q s m hx hy hd q=>by
  obtain⟨p,p',h1,h2,h3,h4,h5⟩:=hd;have:=q _ _ M G H (aY.refl s m) Is.vU h5
  cases ng with
  | false=>exact .inr ⟨p,p',hx.CW s m h1,hy.CW s m h2,h3,h4,by rwa [Zb] at this⟩
  | true=>exact .inr ⟨p,p',hx.CW s m h1,hy.CW s m h2,h3,h4,by rwa [Zt] at this⟩) h
theorem LM {ng:Bool} (hu:X.A.units+64<cLine) (ha:PE X a (tr X.K cl Γ ca)) (hb:PE X b (tq X.K cl Γ cb)):PE X (.Compare a [Ee ng] [b] pos) (tp X.K cl Γ (.BL ng ca cb)):=(jV (rQ hu ng) ha hb (rR ng b)).imp fun _ _ _=>Aj
theorem LN {ng:Bool} (hu:X.A.units+64<cLine) (ha:PE X a (tr X.K cl Γ ca)) (hb:PE X b (tq X.K cl Γ cb)):PT X (.Compare a [Ee ng] [b] pos) (tt X.K cl Γ (.BL ng ca cb)):=tY (rQ hu ng) ha hb (rR ng b) fun _ _ _=>Aj
theorem GW {op:rL} (h:tp K cl Γ (.cmp op ca cb) σ H Q):yX (Ah op) (tr K cl Γ ca) (tq K cl Γ cb) σ H Q :=
 BN (c:=.cmp op ca cb) (D:=fun x y M k=>gW op x y fun c=>k (.bl c) M) (fun _ _ _ z=>z) (fun x y vx vy G H M k Q s m hx hy hd q=>rO hx hy hd fun b hk=>q _ _ M G H (aY.refl s m) Is.vU hk) h
theorem GX {op:rL} (ha:PE X a (tp X.K cl Γ ca)) (hb:PE X b (tp X.K cl Γ cb)):PT X (.Compare a [yB op] [b] pos) (tt X.K cl Γ (.cmp op ca cb)):=tY (lj op) ha.r hb.q (vT op b) fun _ _ _=>GW
noncomputable def BF:Bool->CmpOp
 | false=>.In
 | true=>.NotIn
def xc (K:e_):R2:=fun x y H Q=>∃ p xs d ds,y=.ref p/\cr K H p xs/\bQ K H x d/\dC K H xs ds/\J_ d=true/\(∀ e∈ds,J_ e=true)/\Q (.bl (!ds.any fun e=>P_ e d)) H
theorem yC (hu:X.A.units+66<cLine):eV X (Wx .NotIn) (xc X.K):=by
 intro pins s σ H x y v u Q I rx ry h;obtain⟨p,xs,d,ds,rfl,hq,hd,Cg,s1,s2,q⟩:=h
 cases ry
 obtain⟨as,ra⟩:=hd.reads I v rx;obtain⟨ai,r,pl,hz⟩:=I.list hq;have F2:=dC.reads I Cg s2 ai r
 classical
 let e:Value->Bool:=fun w=>if h:∃ d',(∃ bs,Reads s.heap w d' bs)/\J_ d'=true then P_ h.choose d else false
 have he:∀ w d',((∃ bs,Reads s.heap w d' bs)/\J_ d'=true)->e w=P_ d' d:=fun w d' hx=>by
  have tL:∃ d',(∃ bs,Reads s.heap w d' bs)/\J_ d'=true:=⟨d',hx⟩;show (if h:∃ d',(∃ bs,Reads s.heap w d' bs)/\J_ d'=true then P_ h.choose d else false)=_;rw[dif_pos tL];obtain⟨⟨cs,rc⟩,sc⟩:=tL.choose_spec;obtain⟨⟨bs,rb⟩,sb⟩:=hx;rw[abH _ _ _ _ _ (Xk sc) rc rb]
 refine abA e pl.isList (fun w hw=>?_) ⟨.bl _,H,I,rfl,?_⟩
 ·obtain⟨d',hx⟩:=rK F2 w (by simpa using hw);rw[he w d' hx];obtain⟨⟨bs,rb⟩,sb⟩:=hx;exact acg d' d X.A.in1 s w v bs as rb ra (Xk sb) (Xk s1) (aa7 sb (by rw[show X.A.in1.units=X.A.units+1 from rfl];lia))
 ·rw[show ai.toArray.any e=ai.any e by simp,rJ F2 he];exact q
def GY (K:e_):Bool->R2
 | false=>fun x y H Q=>Om K false x y H Q∨Ll K x y H Q
 | true=>fun x y H Q=>Om K true x y H Q∨xc K x y H Q
theorem Ak (hu:X.A.units+66<cLine):∀ ng,eV X (Wx (BF ng)) (GY X.K ng)
 | false=>x9.or (Gv hu)
 | true=>rB.or (yC hu)
theorem Is.flat {d:Dt}{v:V} (h:Is K cl G d v) (f:ka d=true):v=Lo d/\eK v=true:=by
 cases d<;>first | (cases f;done) | (unfold Is at h;subst h;exact⟨rfl,rfl⟩)
theorem IsL.flat:∀ {ds:List Dt}{vs:List V},IsL K cl G ds vs->ds.all ka=true->vs=ds.map Lo/\vs.all eK=true
 | [],vs,h,_=>by unfold IsL at h;subst h;exact⟨rfl,rfl⟩
 | d::ds,vs,h,f=>by
  unfold IsL at h;obtain⟨v,r,rfl,h1,h2⟩:=h;rw[WC,q_] at f;obtain⟨e1,e2⟩:=h1.flat f.1;obtain⟨e3,e4⟩:=IsL.flat h2 f.2;exact⟨by rw[o_,←e1,←e3],by rw[WC,e2,e4];rfl⟩
theorem db.flat {d:Dt}{v:V} (h:db K cl G H d v) (f:ka d=true):v=Lo d/\eK v=true:=by
 rcases h with h | ⟨a,o,rfl,ho,hc⟩
 ·exact h.flat f
 ·cases d<;>first | (cases f;done) | (cases ho;done)
theorem GZ {ng:Bool}{x y:Dt}{vx vy:V}{k:Bool->Prop} (s:ah G H) (hx:db K cl G H x vx) (hy:db K cl G H y vy) (h:vS x y k) (q:∀ b,k b->Q (.bl (ng ^^ b)) H):GY K ng vx vy H Q:=by
 rcases h with ⟨ds,e,f1,f2,hk⟩ | ⟨ds,p,ps,e,e1,e2,h1,h2,hk⟩
 ·obtain⟨l,vs,rfl,h1,h2⟩:=hy.seq s e;obtain⟨g1,g2⟩:=hx.flat f1;obtain⟨g3,g4⟩:=h2.flat f2
  have eq:Ol vx vs=ds.any fun z=>JX z x:=by
   unfold Ol;rw[g3,Zc,g1];rfl
  have:=q _ hk;rw[←eq] at this
  cases ng with
  | false=>exact .inl ⟨l,vs,rfl,h1,g2,g4,by rwa [Zb] at this⟩
  | true=>exact .inl ⟨l,vs,rfl,h1,g2,g4,by rwa [Zt] at this⟩
 ·obtain⟨l,vs,rfl,g1,g2⟩:=hy.BK s e;have:=q _ hk
  cases ng with
  | false=>exact .inr ⟨l,vs,p,ps,rfl,g1,hx.dat s e1,g2.nO s e2,h1,h2,by rwa [Zb] at this⟩
  | true=>exact .inr ⟨l,vs,p,ps,rfl,g1,hx.dat s e1,g2.nO s e2,h1,h2,by rwa [Zt] at this⟩
theorem Al {ng:Bool} (h:tp K cl Γ (.w9 ng ca cb) σ H Q):yX (GY K ng) (tr K cl Γ ca) (tq K cl Γ cb) σ H Q :=
 BN (c:=.w9 ng ca cb) (D:=fun x y M k=>vS x y fun c=>k (.bl (ng ^^ c)) M) (fun _ _ _ z=>z) (fun x y vx vy G H M k Q s m hx hy hd q=>GZ s hx hy hd fun b hk=>q _ _ M G H (aY.refl s m) Is.vU hk) h
noncomputable def fI:Expr->Bool
 | .Set _ _ _=>false
 | _=>true
theorem dh {op:CmpOp}{b:Expr} (h:fI b=true):W7 op b=false:=by
 cases b<;>first | rfl | cases h
theorem LO {ng:Bool} (hu:X.A.units+66<cLine) (ha:PE X a (tr X.K cl Γ ca)) (hb:PE X b (tq X.K cl Γ cb)) (hs:fI b=true):PE X (.Compare a [BF ng] [b] pos) (tp X.K cl Γ (.w9 ng ca cb)):=(jV (Ak hu ng) ha hb (dh hs)).imp fun _ _ _=>Al
theorem LP {ng:Bool} (hu:X.A.units+66<cLine) (ha:PE X a (tr X.K cl Γ ca)) (hb:PE X b (tq X.K cl Γ cb)) (hs:fI b=true):PT X (.Compare a [BF ng] [b] pos) (tt X.K cl Γ (.w9 ng ca cb)):=tY (Ak hu ng) ha hb (dh hs) fun _ _ _=>Al
theorem Am (h:tp K cl Γ (.ins ca cb) σ H Q):yX (fun x y H Q=>∃ i j,x=.str i/\y=.str j/\Q (.bl (!(Xb j i 0 j.length 1).isEmpty)) H) (tr K cl Γ ca) (tq K cl Γ cb) σ H Q :=
 BN (c:=.ins ca cb) (D:=fun x y M k=>nM x fun i=>nM y fun j=>k (.bl (!(Xb j i 0 j.length 1).isEmpty)) M) (fun _ _ _ z=>z) (fun x y vx vy G H M k Q s m hx hy hd q=>by
  obtain⟨i,rfl,hd2⟩:=ll hd;obtain⟨j,rfl,CY⟩:=ll hd2;exact⟨i,j,hx.str,hy.str,q _ _ M G H (aY.refl s m) Is.vU CY⟩) h
theorem LQ (ha:PE X a (tp X.K cl Γ ca)) (hb:PE X b (tp X.K cl Γ cb)) (hs:fI b=true):PE X (.Compare a [.In] [b] pos) (tp X.K cl Γ (.ins ca cb)):=(jV qo ha.r hb.q (dh hs)).imp fun _ _ _=>Am
theorem LR (ha:PE X a (tp X.K cl Γ ca)) (hb:PE X b (tp X.K cl Γ cb)) (hs:fI b=true):PT X (.Compare a [.In] [b] pos) (tt X.K cl Γ (.ins ca cb)):=tY qo ha.r hb.q (dh hs) fun _ _ _=>Am
theorem An (h:tp K cl Γ (.ind ca cb) σ H Q):K7 (tp K cl Γ ca) (tp K cl Γ cb) σ H Q:=by
 obtain⟨B,ρ,M,G,R,h1,h2,h3⟩:=h;refine⟨B,ρ,M,G,_,h1,h2,fun x vx M1 G1 H1 f1 i1 hx=>⟨B,ρ,M1,G1,_,h1.on f1,hx,fun y vy M2 G2 H2 f2 i2 hy=>?_⟩⟩;obtain⟨i,rfl,hz⟩:=bp hy
 cases y with
 | Ab ks =>
  unfold Is at i1 i2;obtain⟨p,am,rfl,e,hk⟩:=i2;subst i1;refine⟨p,_,rfl,zS.k (k:=Ya i) (f2.gh _ _ e),?_⟩;exact h3 _ _ M2 G2 H2 (f1.trans f2) (by unfold Is;rw[hk]) hz
 | _=>exact (show False from hz).elim
theorem LU (hu:X.A.units+64<cLine) (ha:PE X a (tp X.K cl Γ ca)) (hb:PE X b (tp X.K cl Γ cb)) (hs:fI b=true):PE X (.Compare a [.In] [b] pos) (tp X.K cl Γ (.ind ca cb)):=(y8 (zT (by lia) ha hb) (dh hs)).imp fun _ _ _=>An
theorem LV (hu:X.A.units+64<cLine) (ha:PE X a (tp X.K cl Γ ca)) (hb:PE X b (tp X.K cl Γ cb)) (hs:fI b=true):PT X (.Compare a [.In] [b] pos) (tt X.K cl Γ (.ind ca cb)):=(y9 (zT (by lia) ha hb) (dh hs)).imp fun _ _ _ h=>An (tX h)
theorem Ao {o1 o2:rL} (h:tp K cl Γ (.Ad o1 o2 ca cb cc) σ H Q):vi (Ah o1) (Ah o2) (tp K cl Γ ca) (tp K cl Γ cb) (tp K cl Γ cc) σ H Q:=by
 obtain⟨B,ρ,M,G,R,h1,h2,h3⟩:=h;refine⟨B,ρ,M,G,_,h1,h2,fun x vx M1 G1 H1 f1 i1 hx=>⟨B,ρ,M1,G1,_,h1.on f1,hx,fun y vy M2 G2 H2 f2 i2 hy=>?_⟩⟩;have LW:=f1.trans f2;refine rO (.inl (i1.mono f2.g)) (.inl i2) (show gW o1 x y (fun k=>if k=true then ev Γ cc ρ M2 fun z M3=>aq z fun z=>gW o2 y z fun k=>R [.bl k] M3 else R [.bl false] M2) from hy) fun b hb=>⟨b,rfl,?_⟩
 cases b with
 | false=>rw[p_ s_] at hb ⊢;exact h3 _ _ M2 G2 H2 LW Is.vU hb
 | true =>
  rw[u_ rfl] at hb ⊢;refine⟨B,ρ,M2,G2,_,h1.on LW,hb,fun z vz M3 G3 H3 f3 i3 hz=>rO (.inl (i2.mono f3.g)) (.inl i3) (show gW o2 y z (fun k=>R [.bl k] M3) from hz) fun b hb=>h3 _ _ M3 G3 H3 (LW.trans f3) Is.vU hb⟩
theorem Eh {o1 o2:rL}{b c:Expr}:lastMarks [yB o1,yB o2] [b,c]=false:=vT o2 c
theorem LX {o1 o2:rL}{c:Expr} (ha:PE X a (tp X.K cl Γ ca)) (hb:PE X b (tp X.K cl Γ cb)) (hc:PE X c (tp X.K cl Γ cc)):PE X (.Compare a [yB o1,yB o2] [b,c] pos) (tp X.K cl Γ (.Ad o1 o2 ca cb cc)):=(zk (lj o1) (lj o2) ha hb hc Eh).imp fun _ _ _=>Ao
theorem LY {o1 o2:rL}{c:Expr} (ha:PE X a (tp X.K cl Γ ca)) (hb:PE X b (tp X.K cl Γ cb)) (hc:PE X c (tp X.K cl Γ cc)):PT X (.Compare a [yB o1,yB o2] [b,c] pos) (tt X.K cl Γ (.Ad o1 o2 ca cb cc)):=(zl (lj o1) (lj o2) ha hb hc Eh).imp fun _ _ _ h=>Ao (tX h)
variable {rest:List Expr}
theorem Ap {op} (h:PE X a (tp X.K cl Γ ca)):PE X (.BoolOp op [a] pos) (tp X.K cl Γ (.one ca)):=(Fd h).imp fun _ _ _ h=>by obtain⟨B,ρ,M,G,R,h1,h2,h3⟩:=h;exact⟨B,ρ,M,G,R,h1,h2,h3⟩
theorem Aq (ha:PE X a (tp X.K cl Γ ca)) (hb:PE X (.BoolOp .And (b::rest) pos) (tp X.K cl Γ cb)):PE X (.BoolOp .And (a::b::rest) pos) (tp X.K cl Γ (.and ca cb)):=(Fe ha hb).imp fun σ H Q h=>by
 obtain⟨B,ρ,M,G,R,h1,h2,h3⟩:=h;refine⟨B,ρ,M,G,_,h1,h2,fun x vx M1 G1 H1 f1 i1 hx=>?_⟩;obtain⟨b,rfl,hy⟩:=fW hx;unfold Is at i1;refine⟨b,i1,?_⟩
 cases b with
 | false=>rw[p_ s_] at hy ⊢;exact h3 _ _ M1 G1 H1 f1 Is.vU hy
 | true=>rw[u_ rfl] at hy ⊢;exact⟨B,ρ,M1,G1,R,h1.on f1,hy,fun d v M2 G2 H2 f2=>h3 d v M2 G2 H2 (f1.trans f2)⟩
theorem G0 (ha:PE X a (tp X.K cl Γ ca)) (hb:PE X (.BoolOp .Or (b::rest) pos) (tp X.K cl Γ cb)):PE X (.BoolOp .Or (a::b::rest) pos) (tp X.K cl Γ (.or ca cb)):=(Kf ha hb).imp fun σ H Q h=>by
 obtain⟨B,ρ,M,G,R,h1,h2,h3⟩:=h;refine⟨B,ρ,M,G,_,h1,h2,fun x vx M1 G1 H1 f1 i1 hx=>?_⟩;obtain⟨b,rfl,hy⟩:=fW hx;unfold Is at i1;refine⟨b,i1,?_⟩
 cases b with
 | true=>rw[u_ rfl] at hy ⊢;exact h3 _ _ M1 G1 H1 f1 Is.vU hy
 | false=>rw[p_ s_] at hy ⊢;exact⟨B,ρ,M1,G1,R,h1.on f1,hy,fun d v M2 G2 H2 f2=>h3 d v M2 G2 H2 (f1.trans f2)⟩
theorem Ar (ha:PE X a (tp X.K cl Γ ca)):PE X (.UnaryOp .Not a pos) (tp X.K cl Γ (.not ca)):=(Ff ha).imp fun σ H Q h=>by
 obtain⟨B,ρ,M,G,R,h1,h2,h3⟩:=h;refine⟨B,ρ,M,G,_,h1,h2,fun x vx M1 G1 H1 f1 i1 hx=>?_⟩;obtain⟨b,rfl,hy⟩:=fW hx;unfold Is at i1;exact⟨b,i1,h3 _ _ M1 G1 H1 f1 Is.vU hy⟩
theorem w_and1 (ha:PT X a (tt X.K cl Γ ca)):PW X (.BoolOp .And [a] pos) (tt X.K cl Γ (.one ca)):=(B3 ha).imp fun _ _ _ h=>by obtain⟨B,ρ,M,G,R,h1,h2,h3⟩:=h;exact⟨B,ρ,M,G,R,h1,h2,h3⟩
theorem w_or1 (ha:PT X a (tt X.K cl Γ ca)):PW X (.BoolOp .Or [a] pos) (tt X.K cl Γ (.one ca)):=(Fa ha).imp fun _ _ _ h=>by obtain⟨B,ρ,M,G,R,h1,h2,h3⟩:=h;exact⟨B,ρ,M,G,R,h1,h2,h3⟩
theorem w_and (ha:PT X a (tt X.K cl Γ ca)) (hb:PW X (.BoolOp .And (b::rest) pos) (tt X.K cl Γ cb)):PW X (.BoolOp .And (a::b::rest) pos) (tt X.K cl Γ (.and ca cb)):=(Fb ha hb).imp fun σ H Q h=>by
 obtain⟨B,ρ,M,G,k,h1,h2,h3⟩:=h;refine⟨B,ρ,M,G,fun c M1=>if c=true then ev Γ cb ρ M1 (kB k) else k false M1,h1,h2,fun c M1 G1 H1 f1 hx=>?_⟩
 cases c with
 | false=>rw[p_ s_] at hx ⊢;exact h3 _ M1 G1 H1 f1 hx
 | true=>rw[u_ rfl] at hx ⊢;exact⟨B,ρ,M1,G1,k,h1.on f1,hx,fun d M2 G2 H2 f2=>h3 d M2 G2 H2 (f1.trans f2)⟩
theorem w_or (ha:PT X a (tt X.K cl Γ ca)) (hb:PW X (.BoolOp .Or (b::rest) pos) (tt X.K cl Γ cb)):PW X (.BoolOp .Or (a::b::rest) pos) (tt X.K cl Γ (.or ca cb)):=(Kc ha hb).imp fun σ H Q h=>by
 obtain⟨B,ρ,M,G,k,h1,h2,h3⟩:=h;refine⟨B,ρ,M,G,fun c M1=>if c=true then k true M1 else ev Γ cb ρ M1 (kB k),h1,h2,fun c M1 G1 H1 f1 hx=>?_⟩
 cases c with
 | true=>rw[u_ rfl] at hx ⊢;exact h3 _ M1 G1 H1 f1 hx
 | false=>rw[p_ s_] at hx ⊢;exact⟨B,ρ,M1,G1,k,h1.on f1,hx,fun d M2 G2 H2 f2=>h3 d M2 G2 H2 (f1.trans f2)⟩
theorem LZ (ha:PT X a (tt X.K cl Γ ca)):PT X (.UnaryOp .Not a pos) (tt X.K cl Γ (.not ca)):=(Fc ha).imp fun σ H Q h=>by
 obtain⟨B,ρ,M,G,k,h1,h2,h3⟩:=h;exact⟨B,ρ,M,G,fun c M1=>k (!c) M1,h1,h2,fun c M1 G1 H1 f1 hx=>h3 _ M1 G1 H1 f1 hx⟩
theorem QE (ha:PE X a (tq X.K cl Γ ca)) (he:∀ whole,aaX a X.env whole=(do let v ←whole;abg a.pos;aas [v] (truthy v))):PT X a (tt X.K cl Γ (.tr ca)):=(zm ha he).imp fun σ H Q h=>by
 obtain⟨B,ρ,M,G,k,h1,h2,h3⟩:=h;refine⟨B,ρ,M,G,_,h1,h2,fun x vx M1 G1 H1 f1 i1 hx=>?_⟩
 have nil:∀ {ds:List Dt}{vs:List V},IsL X.K cl G1 ds vs->(!ds.isEmpty) = !vs.isEmpty:=fun {ds vs} i=>by
  have:=i.length
  cases ds<;>cases vs<;>first | rfl | cases this
 cases x with
 | bl b=>have e:=i1.bl;subst e;exact⟨b,rfl,h3 b M1 G1 H1 f1 hx⟩
 | int i=>have e:=i1.int;subst e;exact⟨_,rfl,h3 _ M1 G1 H1 f1 hx⟩
 | lst ds=>obtain⟨l,vs,rfl,h4,h5⟩:=i1.BK f1.gh rfl;exact⟨_,.inl ⟨vs,h4,nil h5⟩,h3 _ M1 G1 H1 f1 hx⟩
 | mw ds=>obtain⟨l,vs,rfl,h4,h5⟩:=i1.BK f1.gh rfl;exact⟨_,.inl ⟨vs,h4,nil h5⟩,h3 _ M1 G1 H1 f1 hx⟩
 | tup ds=>obtain⟨l,vs,rfl,h4,h5⟩:=i1.JT f1.gh rfl;exact⟨_,.inr (.inl ⟨vs,h4,nil h5⟩),h3 _ M1 G1 H1 f1 hx⟩
 | _=>exact (show False from hx).elim
theorem L0 {t:Expr} (ht:PT X t (tt X.K cl Γ c)) (ha:PE X a (tp X.K cl Γ ca)) (hb:PE X b (tp X.K cl Γ cb)):PE X (.IfExp t a b pos) (tp X.K cl Γ (.GA c ca cb)):=(za ht ha hb).imp fun σ H Q h=>by
 obtain⟨B,ρ,M,G,R,h1,h2,h3⟩:=h;refine⟨B,ρ,M,G,fun c M1=>if c=true then ev Γ ca ρ M1 R else ev Γ cb ρ M1 R,h1,h2,fun c M1 G1 H1 f1 hx=>?_⟩
 cases c with
 | true=>rw[u_ rfl] at hx ⊢;exact⟨B,ρ,M1,G1,R,h1.on f1,hx,fun d v M2 G2 H2 f2=>h3 d v M2 G2 H2 (f1.trans f2)⟩
 | false=>rw[p_ s_] at hx ⊢;exact⟨B,ρ,M1,G1,R,h1.on f1,hx,fun d v M2 G2 H2 f2=>h3 d v M2 G2 H2 (f1.trans f2)⟩
end
end PV
namespace PV
open PySem L2 SH
noncomputable def eR:Expr->Bool
 | .Slice _ _ _ _=>false
 | _=>true
theorem tZ {b:Expr} (h:eR b=true):wS b:=fun o i=>by
 cases b<;>first | rfl | cases h
noncomputable def bW:Expr->Bool
 | .Call (.Name _ _) [] [] _=>false
 | _=>true
theorem eL {e:Expr}{f:Str}{env:Env}{w:Sem Value} (h:bW e=true):XH e f env w=w:=by
 unfold XH;split
 ·cases h
 ·rfl
section
variable {K:e_}{cl:Cl}{Γ:Gm}{c ca cb cc:C}{σ:St}{G H:Hp}{Q:VK}{X:Cx}{e a b:Expr}{es:List Expr}{pos p:Pos}
theorem L1 {x:Dt}{vx:V}{i:Int}{k:Dt->Prop} (s:ah G H) (hx:db K cl G H x vx) (h:jM x i k) (q:∀ d v,Is K cl G d v->k d->Q v H):Py K vx (.int i) H Q:=by
 have fin:∀ {ds:List Dt},j9 x=some ds->atK ds i k->Py K vx (.int i) H Q:=fun {ds} e ⟨d,h1,h2⟩=>by
  obtain⟨l,vs,rfl,h3,h4⟩:=hx.seq s e;obtain⟨v,h5,h6⟩:=h4.at h1;rcases h3 with h3 | h3
  ·exact .inl ⟨l,vs,i,v,rfl,rfl,h3,h5,q d v h6 h2⟩
  ·exact .inr (.inl ⟨l,vs,i,v,rfl,rfl,h3,h5,q d v h6 h2⟩)
 cases x with
 | str z =>
  have e:=hx.str;subst e;obtain⟨h1,c,h2,h3⟩:=h;exact .inr (.inr ⟨z,i,c,rfl,rfl,h1,h2,q _ _ (by unfold Is;rfl) h3⟩)
 | lst ds=>exact fin rfl h
 | mw ds=>exact fin rfl h
 | tup ds=>exact fin rfl h
 | eQ ds=>exact fin rfl h
 | qH ds=>exact fin rfl h
 | nL ds=>exact fin rfl h
 | _=>exact (show False from h).elim
theorem QF (ha:PE X a (tr X.K cl Γ ca)) (hb:PE X b (tp X.K cl Γ cb)) (hs:eR b=true):PE X (.Subscript a b pos) (tp X.K cl Γ (.ix ca cb)) :=
 (D3 FQ ha hb.q (tZ hs)).imp fun σ H Q h=>BN (c:=.ix ca cb) (D:=fun x y M k=>intD y fun i=>jM x i fun d=>k d M) (fun _ _ _ z=>z) (fun x y vx vy G H M k Q s m hx hy hd q=>by
  obtain⟨i,rfl,hd2⟩:=bp hd;have e:=hy.int;subst e;exact L1 s hx hd2 fun d v i hk=>q d v M G H (aY.refl s m) i hk) h
theorem L3 (ha:PE X a (tp X.K cl Γ ca)) (hb:PE X b (tp X.K cl Γ cb)) (hs:eR b=true):PE X (.Subscript a b pos) (tp X.K cl Γ (.yY ca cb)) :=
 (D3 wT ha.r hb.q (tZ hs)).imp fun σ H Q h=>BN (c:=.yY ca cb) (D:=fun x y M k=>intD y fun i=>tV M x fun _ ds=>atK ds i fun d=>k d M) (fun _ _ _ z=>z) (fun x y vx vy G H M k Q s m hx hy hd q=>by
  obtain⟨i,rfl,hd2⟩:=bp hd;have e:=hy.int;subst e
  cases x with
  | dD p =>
   change (match M p with | some (.ml ds)=>atK ds i fun d=>k d M | _=>False) at hd2
   cases e:M p with
   | none=>rw[e] at hd2;exact hd2.elim
   | some o =>
    rw[e] at hd2
    cases o with
    | ml ds =>
     obtain⟨vs,h1,h2⟩:=(m p _ e).2;obtain⟨d,h3,h4⟩:=hd2;obtain⟨v,h5,h6⟩:=h2.at h3;rcases hx with hx | ⟨_,_,_,ho,_⟩
     ·unfold Is at hx;exact⟨p,vs,i,v,hx,rfl,cr.of h1,h5,q d v M G H (aY.refl s m) h6 h4⟩
     ·cases ho
    | _=>exact hd2.elim
  | _=>exact (show False from hd2).elim) h
theorem G4:PO X none (to X.K cl Γ .nil):=Ci.imp fun σ H Q h=>by
 obtain⟨B,ρ,M,G,k,h1,h2,h3⟩:=h;exact h3 none M G H h1.self h2
variable {lo hi:k_ Expr}{BO ch:C}{p2:Pos}
theorem Ei {r:V->k_ Int->k_ Int->Hp->VK->Prop}{D:Dt->k_ Int->k_ Int->Mem->(Dt->Mem->Prop)->Prop} (he:∀ ρ M R,ev Γ c ρ M R->ev Γ ca ρ M fun x M1=>aq x fun x=>ev Γ BO ρ M1 fun l M2=>hW l fun l=>ev Γ ch ρ M2 fun h M3=>hW h fun h=>D x l h M3 fun d M4=>R [d] M4)
  (hr:∀ x v l u G H M (k:Dt->Mem->Prop) (Q:VK),ah G H->bh K cl G H M->db K cl G H x v->D x l u M k->(∀ d v M' G' H',aY K cl none G H M G' H' M'->Is K cl G' d v->k d M'->Q v H')->r v l u H Q)
  (h:tp K cl Γ c σ H Q):RZ r (tr K cl Γ ca) (to K cl Γ BO) (to K cl Γ ch) σ H Q:=by
 obtain⟨B,ρ,M,G,R,h1,h2,h3⟩:=h;refine⟨B,ρ,M,G,_,h1,he _ _ _ h2,fun x vx M1 G1 H1 f1 i1 hx=>⟨B,ρ,M1,G1,_,h1.on f1,hx,fun l M2 G2 H2 f2 hl=>⟨B,ρ,M2,G2,_,(h1.on f1).on f2,hl,fun u M3 G3 H3 f3 hu=>?_⟩⟩⟩;exact hr x vx l u G3 H3 M3 _ Q f3.gh f3.mem ((i1.bT f2).bT f3).q hu fun d v M' G' H' f4 i4 h4=>h3 d v M' G' H' (((f1.trans f2).trans f3).trans f4) i4 h4
theorem L4 (ha:PE X a (tr X.K cl Γ ca)) (hl:PO X lo (to X.K cl Γ BO)) (hh:PO X hi (to X.K cl Γ ch)):PE X (.Subscript a (.Slice lo hi none p2) pos) (tp X.K cl Γ (.CQ ca BO ch)) :=
 (nz F9 ha hl hh).imp fun σ H Q h=>Ei (c:=.CQ ca BO ch) (D:=fun x l u M k=>nM x fun z=>z.length<=sizeLine/\k (.str (XN z l u)) M) (fun _ _ _ z=>z) (fun x v l u G H M k Q s m hx hd q=>by
  obtain⟨z,rfl,h1,h2⟩:=ll hd;exact⟨z,hx.str,h1,q _ _ M G H (aY.refl s m) (by unfold Is;rfl) h2⟩) h
theorem db.QG {d:Dt}{v:V}{ds:List Dt} (s:ah G H) (h:db K cl G H d v) (e:mB d=some ds):∃ a vs,v=.ref a/\Rd G a (.tup vs)/\IsL K cl G ds vs:=by
 rcases h with h | ⟨a,o,rfl,ho,hc⟩
 ·cases d<;>first | (cases e;done) | skip
  ·cases e;unfold Is at h;obtain⟨a,vs,e,q,r⟩:=h;exact⟨a,vs,e,.inl q,r⟩
  ·cases e;unfold Is at h;obtain⟨a,vs,e,⟨o,q,_⟩,r⟩:=h;exact⟨a,vs,e,.inr ⟨o,q⟩,r⟩
  ·cases e;unfold Is at h;exact h
 ·cases d<;>first | (cases e;done) | (cases ho;done)
theorem kg {a:Addr}{u:HO} (s:ah G H) (h:Rd G a u):Rd H a u:=h.elim (fun z=>.inl (s _ _ z)) (fun⟨o,z⟩=>.inr ⟨o,s _ _ z⟩)
theorem As {xs:List V}{lo hi:k_ Int} (h:HT.bS xs.length 0 lo=0/\HT.bS xs.length xs.length hi=xs.length):mr xs lo hi=xs:=by
 unfold mr;rw[h.1,h.2,acN,ab2,X8]
theorem L5 (ha:PE X a (tr X.K cl Γ ca)) (hl:PO X lo (to X.K cl Γ BO)) (hh:PO X hi (to X.K cl Γ ch)):PE X (.Subscript a (.Slice lo hi none p2) pos) (tp X.K cl Γ (.slt ca BO ch)) :=
 (nz CK ha hl hh).imp fun σ H Q h=>Ei (c:=.slt ca BO ch) (D:=fun x l u M k=>eG (mB x) fun ds=>k (.nL (cutD ds l u)) M) (fun _ _ _ z=>z) (fun x v l u G H M k Q s m hx hd q=>by
  obtain⟨ds,e,hk⟩:=cj hd;obtain⟨t,vs,rfl,h1,h2⟩:=hx.QG s e;have h3:=h2.cut l u;refine⟨t,vs,rfl,.inl (kg s h1),fun w=>q _ _ M G H (aY.refl s m) ?_ hk,fun _ p hp=>?_⟩
  ·unfold Is;rw[As w] at h3;exact⟨t,vs,rfl,h1,h3⟩
  ·have f2:=aY.lay (o:=.tup (mr vs l u)) s m hp;exact q _ _ M _ _ f2 (by unfold Is;exact⟨p,_,rfl,.inl az,h3.mono f2.g⟩) hk) h
theorem L6 (ha:PE X a (tr X.K cl Γ ca)) (hl:PO X lo (to X.K cl Γ BO)) (hh:PO X hi (to X.K cl Γ ch)):PE X (.Subscript a (.Slice lo hi none p2) pos) (tf X.K cl Γ (.Ae ca BO ch)) :=
 (nz Co ha hl hh).imp fun σ H Q h=>by
  obtain⟨B,ρ,M,G,R,h1,h2,h3⟩:=h;refine⟨B,ρ,M,G,_,h1,h2,fun x vx M1 G1 H1 f1 i1 hx=>⟨B,ρ,M1,G1,_,h1.on f1,hx,fun l M2 G2 H2 f2 hl=>⟨B,ρ,M2,G2,_,(h1.on f1).on f2,hl,fun u M3 G3 H3 f3 hu=>?_⟩⟩⟩;obtain⟨ds,e,hk⟩:=cj hu;obtain⟨t,vs,rfl,h4,h5⟩:=((i1.bT f2).bT f3).q.BK f3.gh e;exact⟨t,vs,rfl,h4,fun p hp=>h3 _ _ M3 G3 H3 p ((f1.trans f2).trans f3) hp (h5.cut l u) hk⟩
theorem L7 (ha:PE X a (tr X.K cl Γ ca)) (hb:PE X b (tq X.K cl Γ cb)):PE X (.BinOp a .Add b pos) (tf X.K cl Γ (.cat ca cb)) :=
 (DX FY ha hb).imp fun σ H Q h=>UE (c:=.cat ca cb) (D:=fun x y M k=>lstK x fun ds=>lstK y fun es=>ds.length+es.length<=sizeLine/\k (ds++es) M) (fun _ _ _ z=>z) (fun x y vx vy G H M k Q s m hx hy hd q=>by
  obtain⟨ds,rfl,hd2⟩:=fH hd;obtain⟨es,rfl,h1,h2⟩:=fH hd2;obtain⟨l,vs,rfl,h3,h4⟩:=hx.lst s;obtain⟨l',us,rfl,h5,h6⟩:=hy.lst s;exact⟨l,l',vs,us,rfl,rfl,h3,h5,by rw[←h4.length,←h6.length];exact h1,fun p hp=>q _ _ M G H p (aY.refl s m) hp (h4.append h6) h2⟩) h
theorem db.obj {n:Nat}{fs:List Str}{ds:List Dt}{v:V} (s:ah G H) (h:db K cl G H (.obj n fs ds) v):∃ a dx vs,v=.ref a/\H a=some (.ins (cl n) dx (fs.zip vs))/\fs.length=ds.length/\IsL K cl G ds vs:=by
 rcases h with h | ⟨a,o,rfl,ho,hc⟩
 ·unfold Is at h;obtain⟨a,dx,vs,e,q,l,r⟩:=h;exact⟨a,dx,vs,e,s _ _ q,l,r⟩
 ·cases ho;obtain⟨dx,vs,h1,h2,h3⟩:=hc;exact⟨a,dx,vs,rfl,h1,h2,h3⟩
theorem nP {f:Str}{d:Dt}:∀ {fs:List Str}{ds:List Dt}{vs:List V},IsL K cl G ds vs->(fs.zip ds).lookup f=some d->∃ v,(fs.zip vs).lookup f=some v/\Is K cl G d v
 | [],_,_,_,h=>by simp at h
 | g::fs,[],_,_,h=>by simp at h
 | g::fs,e::ds,vs,i,h=>by
  unfold IsL at i;obtain⟨v,r,rfl,i1,i2⟩:=i;rw[XS,Wr] at h ⊢
  cases q:f==g with
  | true=>rw[q] at h;cases h;exact⟨v,rfl,i1⟩
  | false=>rw[q] at h;exact nP i2 h
theorem L8 {f:Str} (SA:∀ n f,Γ.at_ n f=true->sZ X.K (cl n)/\dW X.K (cl n) f) (ha:PE X a (tq X.K cl Γ ca)) (hb:bW a=true):PE X (.Attribute a f pos) (tp X.K cl Γ (.fld ca f)) :=
 (FH ha (eL hb)).imp fun σ H Q h=>Lu (c:=.fld ca f) (r:=fun x H1 Q=>∃ a C dx fs v,x=.ref a/\H1 a=some (.ins C dx fs)/\sZ X.K C/\dW X.K C f/\fs.lookup f=some v/\Q v H1) (D:=fun x M k=>eH Γ f x fun d=>k d M) (fun _ _ _ z=>z) (fun x v G H M k Q s m hx hd q=>by
  cases x with
  | obj n fs ds =>
   obtain⟨h1,d,h2,h3⟩:=hd;obtain⟨a,dx,vs,rfl,h4,h5,h6⟩:=hx.obj s;obtain⟨v,h7,h8⟩:=nP h6 h2;exact⟨a,_,dx,_,v,rfl,h4,(SA n f h1).1,(SA n f h1).2,h7,q d v M G H (aY.refl s m) h8 h3⟩
  | _=>exact (show False from hd).elim) h
noncomputable def BP:Nat->YD
 | 0 => "int" | 1 => "bool" | 2 => "str" | 3 => "list" | 4 => "tuple" | _ => "NoneType"
theorem G5 {n t:Nat} (hn:n<6) (ht:t<5):Y6 K (.type (BP n)) (.type (BP t))=some (n==t||(n==1&&t==0)):=by
 have h:∀ n<6,∀ t<5,Y6 K (.type (BP n)) (.type (BP t))=some (n==t||(n==1&&t==0)):=by
  intro n hn t ht
  match n,hn with
  | 0,_=>match t,ht with | 0,_=>kernel_rfl | 1,_=>kernel_rfl | 2,_=>kernel_rfl | 3,_=>kernel_rfl | 4,_=>kernel_rfl
  | 1,_=>match t,ht with | 0,_=>kernel_rfl | 1,_=>kernel_rfl | 2,_=>kernel_rfl | 3,_=>kernel_rfl | 4,_=>kernel_rfl
  | 2,_=>match t,ht with | 0,_=>kernel_rfl | 1,_=>kernel_rfl | 2,_=>kernel_rfl | 3,_=>kernel_rfl | 4,_=>kernel_rfl
  | 3,_=>match t,ht with | 0,_=>kernel_rfl | 1,_=>kernel_rfl | 2,_=>kernel_rfl | 3,_=>kernel_rfl | 4,_=>kernel_rfl
  | 4,_=>match t,ht with | 0,_=>kernel_rfl | 1,_=>kernel_rfl | 2,_=>kernel_rfl | 3,_=>kernel_rfl | 4,_=>kernel_rfl
  | 5,_=>match t,ht with | 0,_=>kernel_rfl | 1,_=>kernel_rfl | 2,_=>kernel_rfl | 3,_=>kernel_rfl | 4,_=>kernel_rfl
 exact h n hn t ht
theorem G6 {x:Dt}{v:V}{n:Nat} (s:ah G H) (hx:db K cl G H x v) (e:isiN x=some n):n<6/\jg K H v (.type (BP n)):=by
 cases x<;>first | (cases e;done) | skip
 ·cases e;have:=hx.aJ;subst this;exact⟨by decide,.aJ⟩
 ·cases e;have:=hx.bl;subst this;exact⟨by decide,.bl _⟩
 ·cases e;have:=hx.int;subst this;exact⟨by decide,.int _⟩
 ·cases e;have:=hx.str;subst this;exact⟨by decide,.str _⟩
 ·cases e;obtain⟨a,vs,rfl,h1,_⟩:=hx.lst s;exact⟨by decide,.lst h1⟩
 ·cases e
  rcases hx with h | ⟨a,o,rfl,ho,hc⟩
  ·unfold Is at h;obtain⟨a,vs,rfl,q,_⟩:=h;exact⟨by decide,.tup (s _ _ q)⟩
  ·cases ho
theorem CZ {t:Nat} (ht:t<5) {x:Str} (hx:x=W_ (BP t)):W8 x=some (.type (BP t))/\x ≠ "__name__" /\ (x==("__debug__" : Str))=false:=by
 subst hx
 match t,ht with
 | 0,_=>exact⟨aaT,by decide,by decide⟩
 | 1,_=>exact⟨PyProof.Rows.boot_bool,by decide,by decide⟩
 | 2,_=>exact⟨PyProof.Rows.boot_str,by decide,by decide⟩
 | 3,_=>exact⟨Yi,by decide,by decide⟩
 | 4,_=>exact⟨YZ,by decide,by decide⟩
theorem L9 {t:Nat}{x:Str}{px:Pos} (ht:t<5) (hx:x=W_ (BP t)) (hg:Gl X "isinstance") (hm:X.mg "isinstance" = none) (G7:Gl X x) (BQ:X.mg x=none) (ha:PE X a (tq X.K cl Γ ca)) (hs:noStar a=true) :
  PE X (.Call (.Name "isinstance" p) [a,.Name x px] [] pos) (tp X.K cl Γ (.rM ca t)):=by
 obtain⟨b1,b2,b3⟩:=CZ ht hx
 refine (nw yf hg hm PyProof.Rows.boot_isinstance (aC ha (aC (K2 G7 BQ b1 b2 b3) bw) (ag hs)) (by decide) (by decide) (ag hs) rfl).imp fun σ H Q h =>
  Lu (c:=.rM ca t) (r:=fun v H Q=>∃ x n ty b,[v,V.ty (BP t)]=[x,.ty n]/\jg X.K H x ty/\Y6 X.K ty (.type n)=some b/\Q (.bl b) H) (D:=fun x M k=>isiD t x fun c=>k (.bl c) M) (fun _ _ _ z=>z) (fun x v G H M k Q s m hx hd q=>by
   unfold isiD at hd
   cases e:isiN x with
   | none=>rw[e] at hd;exact hd.elim
   | some n =>
    rw[e] at hd;obtain⟨h1,h2⟩:=G6 s hx e;exact⟨v,_,_,_,rfl,h2,G5 h1 ht,q _ _ M G H (aY.refl s m) Is.vU hd⟩) h
theorem G8 (hc:X.calm=true) (hg:Gl X "min") (hm:X.mg "min" = none) (ha:PE X a (tp X.K cl Γ ca)) (hb:PE X b (tp X.K cl Γ cb)) (hs:noStar a=true) (mP:noStar b=true):PE X (.Call (.Name "min" p) [a,b] [] pos) (tp X.K cl Γ (.min2 ca cb)) :=
 GU (c:=.min2 ca cb) (D:=fun x y M k=>intD x fun i=>intD y fun j=>k (.int (if j<i then j else i)) M) (xX hc) hg hm (by decide +kernel) (by decide) (by decide) ha.r hb.q hs mP (fun _ _ _ z=>z) (fun x y vx vy G H M k Q s m hx hy hd q=>by
  obtain⟨i,rfl,hd2⟩:=bp hd;obtain⟨j,rfl,CY⟩:=bp hd2;have e1:=hx.int;have e2:=hy.int;subst e1 e2;exact⟨i,j,rfl,q _ _ M G H (aY.refl s m) (by unfold Is;rfl) CY⟩)
theorem Ma (hc:X.calm=true) (hg:Gl X "dict") (hm:X.mg "dict" = none) (ha:PE X a (tq X.K cl Γ ca)) (hs:noStar a=true):PE X (.Call (.Name "dict" p) [a] [] pos) (tp X.K cl Γ (.yh ca)) :=
 rP (c:=.yh ca) (D:=fun x M k=>∃ ks:List Int,x=.lst (ks.map fun k=>.tup [.int k,.bl true])/\ks.length<=900/\k (.Ab ks) M) (vH hc) hg hm PyProof.Rows.boot_dict (by decide) (by decide) ha hs (fun _ _ _ z=>z) (fun x v G H M k Q s m hx hd q=>by
  obtain⟨ks,rfl,h1,h2⟩:=hd;obtain⟨l,vs,rfl,h3,h4⟩:=hx.lst s;have hl:=h4.length;rw[a_] at hl;refine⟨l,vs,ks.map fun k=>(Ya k,.bl true),rfl,cr.of h3,by rw[a_,hl],by rw[a_];exact h1,fun j y pr hy Ox=>?_,fun d hd=>?_⟩
  ·obtain⟨dd,h5,h6⟩:=h4.get' hy;rw[h_] at h5 Ox;obtain⟨k1,e1,rfl⟩:=m_.mp h5;obtain⟨k2,e2,rfl⟩:=m_.mp Ox;rw[e1] at e2;cases e2;unfold Is at h6;obtain⟨t,us,rfl,h7,h8⟩:=h6;unfold IsL at h8;obtain⟨u1,r1,rfl,g1,h8⟩:=h8;unfold IsL at h8;obtain⟨u2,r2,rfl,g2,h8⟩:=h8;unfold IsL at h8;unfold Is at g1 g2;subst h8 g1 g2;exact⟨t,rfl,s _ _ h7⟩
  ·have f2:=aY.lay (o:=.dK ((ks.map fun k=>((Ya k:Key),V.bl true)).foldl (fun a p=>putK a p.1 p.2) [])) s m hd;exact q _ _ M _ _ f2 (by unfold Is;exact⟨d,_,rfl,az,fun j=>by rw[zY];simp [dG]⟩) h2)
end
end PV
namespace PV
open PySem L2 SH
section
variable {K:e_}{cl:Cl}{Γ:Gm}{c ca cb cc:C}{σ:St}{G H:Hp}{Q:VK}{X:Cx}{e a b tg:Expr}{es:List Expr}{pos p:Pos}
theorem yD {d:Dt}{k:List Dt->Prop} (h:CU d k):∃ ds,d=.eQ ds/\k ds:=by
 cases d with
 | eQ ds=>exact⟨ds,rfl,h⟩
 | _=>exact (show False from h).elim
theorem Mb {apos:Pos} (ha:PE X a (tp X.K cl Γ ca)) (hb:PE X b (tp X.K cl Γ cb)) (gZ:bW a=true) (hs:noStar b=true) (br:(apos.endLine==pos.line)=true):PE X (.Call (.Attribute a "count" apos) [b] [] pos) (tp X.K cl Γ (.cnt ca cb)) :=
 (yq ha (aC hb bw (ag hs)) (eL gZ) (by rw[kf (by simp [hs])];rfl) br (ag hs) rfl).imp fun σ H Q h=>by
  obtain⟨B,ρ,M,G,R,h1,h2,h3⟩:=h;refine⟨B,ρ,M,G,_,h1,h2,fun x vx M1 G1 H1 f1 i1 hx=>?_⟩;obtain⟨ds,rfl,hy⟩:=yD hx;unfold Is at i1;obtain⟨t,vs,rfl,h4,h5⟩:=i1;refine⟨t,vs,rfl,h4.same f1.gh,B,ρ,M1,G1,_,h1.on f1,hy,fun y vy M2 G2 H2 f2 i2 hz=>?_⟩;obtain⟨g1,g2,g3⟩:=hz;obtain⟨e1,e2⟩:=i2.flat g1;obtain⟨e3,e4⟩:=h5.flat g2;refine⟨t,vs,vy,rfl,rfl,(h4.same (f2.g.trans f2.gh)).sq,e2,e4,?_⟩;refine h3 _ _ M2 G2 H2 (f1.trans f2) ?_ g3;unfold Is;rw[e3,acu,e1];rfl
theorem rS {lo hi:Int}{M:Mem} (s:ah G H) (m:bh K cl G H M) {r:Addr} (hr:H r=none):aY K cl none G H M (upd G r (.xO lo hi)) (upd H r (.xO lo hi)) M:=aY.lay s m hr
theorem At {lo:Int}{n:Nat}:IsL K cl G (bI lo n) (((Wv n).map fun i:Nat=>lo+(i:Int)).map V.int):=by
 have e:bI lo n=((Wv n).map fun i:Nat=>lo+(i:Int)).map Dt.int:=by unfold bI;rw[L_];rfl
 rw[e];exact IsL.ints _
theorem Me {p2 Au:Pos} (hc:X.calm=true) (hg:Gl X "list") (hm:X.mg "list" = none) (G7:Gl X "range") (BQ:X.mg "range" = none) (ha:PE X a (tp X.K cl Γ ca)) (hb:PE X b (tp X.K cl Γ cb)) (hs:noStar a=true) (mP:noStar b=true) :
  PE X (.Call (.Name "list" p) [.Call (.Name "range" p2) [a,b] [] Au] [] pos) (tf X.K cl Γ (.GG ca cb)) :=
 (cS (nI hc) hg hm Yi (aC (cS rG G7 BQ Yj (aC ha (aC hb bw (ag mP)) (ag hs)) (by decide) (by decide) (ag hs) (de (by simp [mP]))) bw) (by decide) (by decide)).imp fun σ H Q h=>by
  obtain⟨B,ρ,M,G,R,h1,h2,h3⟩:=h;refine⟨B,ρ,M,G,_,h1,h2,fun x vx M1 G1 H1 f1 i1 hx=>⟨B,ρ,M1,G1,_,h1.on f1,hx,fun y vy M2 G2 H2 f2 i2 hy=>?_⟩⟩;obtain⟨i,rfl,QH⟩:=bp hy;obtain⟨j,rfl,g1,g2,g3,g4⟩:=bp QH;unfold Is at i1 i2;subst i1 i2;have LW:=f1.trans f2;refine⟨i,j,rfl,fun r hr=>⟨r,i,j,rfl,az,⟨g1.1,g1.2,g2.1,g2.2⟩,g3,fun l hl=>?_⟩⟩;have f3:=rS (lo:=i) (hi:=j) f2.gh f2.mem hr;exact h3 _ _ M2 _ _ l (LW.trans f3) hl At g4
theorem Mf {p2 Au:Pos} (hc:X.calm=true) (hg:Gl X "list") (hm:X.mg "list" = none) (G7:Gl X "range") (BQ:X.mg "range" = none) (ha:PE X a (tp X.K cl Γ ca)) (hs:noStar a=true) :
  PE X (.Call (.Name "list" p) [.Call (.Name "range" p2) [a] [] Au] [] pos) (tf X.K cl Γ (.GH ca)) :=
 (cS (nI hc) hg hm Yi (aC (cS j6 G7 BQ Yj (aC ha bw (ag hs)) (by decide) (by decide) (ag hs) rfl) bw) (by decide) (by decide)).imp fun σ H Q h=>by
  obtain⟨B,ρ,M,G,R,h1,h2,h3⟩:=h;refine⟨B,ρ,M,G,_,h1,h2,fun x vx M1 G1 H1 f1 i1 hx=>?_⟩;obtain⟨j,rfl,g2,g3,g4⟩:=bp hx;unfold Is at i1;subst i1;have e:(j-0:Int)=j:=by lia
  refine⟨j,rfl,fun r hr=>⟨r,0,j,rfl,az,⟨by lia,by lia,g2.1,g2.2⟩,by rw[e];exact g3,fun l hl=>?_⟩⟩;have f3:=rS (lo:=0) (hi:=j) f1.gh f1.mem hr;rw[e];exact h3 _ _ M1 _ _ l (f1.trans f3) hl At g4
theorem C0 {a:Addr}{ds:List Dt}{vs:List V} (h:cr K G a vs) (i:IsL K cl G ds vs):tW K cl (JL K a) ds G:=fun n G' H M s1 s2 m=>by
 have hq:cr K H a vs:=h.same (s1.trans s2);have hl:=i.length;refine⟨fun hn=>⟨⟨vs,vs[n]'(by lia),hq,by simp⟩,fun x H' y=>?_⟩,fun hn=>⟨vs,hq,by lia⟩⟩;obtain⟨rfl,y⟩:=y;obtain⟨d,e1,e2⟩:=i.get' (y vs hq);exact⟨d,G',e1,e2.mono s1,aY.refl s2 m⟩
theorem G9 {a:Addr}{ds:List Dt}{vs:List V} (h:eD K G a vs) (i:IsL K cl G ds vs):tW K cl (Oi K a) ds G:=fun n G' H M s1 s2 m=>by
 have hq:eD K H a vs:=h.same (s1.trans s2);have hl:=i.length;refine⟨fun hn=>⟨⟨vs,vs[n]'(by lia),hq,by simp⟩,fun x H' y=>?_⟩,fun hn=>⟨vs,hq,by lia⟩⟩;obtain⟨rfl,y⟩:=y;obtain⟨d,e1,e2⟩:=i.get' (y vs hq);exact⟨d,G',e1,e2.mono s1,aY.refl s2 m⟩
theorem Ha {z:Str}:tW K cl (PX z) (rN z) G:=fun n G' H M s1 s2 m=>by
 have hl:(rN z).length=z.cps.size:=by unfold rN;simp
 refine⟨fun hn=>⟨show n<z.cps.size by lia,fun x H' y=>?_⟩,fun hn=>show n=z.cps.size by lia⟩;obtain⟨rfl,ch,e,rfl⟩:=y;refine⟨.str ⟨#[ch]⟩,G',?_,by unfold Is;rfl,aY.refl s2 m⟩;unfold rN;rw[h_,Array.getElem?_toList,e];rfl
theorem Av {lo:Int}{n:Nat}:tW K cl (Kk lo n) (bI lo n) G:=fun i G' H M s1 s2 m=>by
 rw[aj];refine⟨fun hn=>⟨hn,fun x H' y=>?_⟩,fun hn=>show n<=i by lia⟩;obtain⟨rfl,rfl⟩:=y;refine⟨.int (lo+i),G',?_,by unfold Is;rfl,aY.refl s2 m⟩;unfold bI;rw[h_,Xm hn];rfl
def C1 (K:e_) (tl:TE):TI:=fun σ H R=>tl σ H fun x H1=>(∃ a xs,x=.ref a/\cr K H1 a xs/\R (JL K a) H1)∨(∃ a xs,x=.ref a/\eD K H1 a xs/\R (Oi K a) H1)∨∃ z,x=.str z/\R (PX z) H1
open PySem.Spec PyProof.Rows in
theorem Hb {tl:TE} (hl:PE X a tl):PI X tg a (C1 X.K tl):=by
 intro pins s σ H R I h;refine bf (hl pins s σ H _ I h) fun v s1 ⟨x,H1,I1,r1,q1⟩=>?_
 have leaf:∀ {tl':TE}{wi:TI},(∀ b,b=s1.heap.objs.size->mq X pins H1 b):=fun {_ _} b e=>by subst e;exact I1.ve (w_ _) (I1.be.fresh (w_ _))
 rcases q1 with ⟨l,xs,rfl,hq,q⟩ | ⟨l,xs,rfl,hq,q⟩ | ⟨z,rfl,q⟩
 ·cases r1
  obtain⟨ai,rv,p,hz⟩:=I1.list hq;refine Yo p.isList ?_;exact⟨s1.heap.objs.size,[s1.heap.objs.size],_,_,H1,rfl,I1.kept (t':=s1.toks) fun b o e=>l_ _ e,qm l _,⟨_,v_ _ rfl,rfl,rfl⟩,fun b hb=>leaf (tl':=tl) (wi:=C1 X.K tl) b (by simpa using hb),q⟩
 ·cases r1
  obtain⟨ai,rv,p,hz⟩:=I1.tuple hq;refine Yg (show s1.heap.IsTuple l ai.toArray from p) ?_;exact⟨s1.heap.objs.size,[s1.heap.objs.size],_,_,H1,rfl,I1.kept (t':=s1.toks) fun b o e=>l_ _ e,vf l _,⟨_,v_ _ rfl,rfl,rfl⟩,fun b hb=>leaf (tl':=tl) (wi:=C1 X.K tl) b (by simpa using hb),q⟩
 ·obtain⟨t,rfl⟩:=r1;refine wpAny_pyIter_strU ?_;exact⟨s1.heap.objs.size,[s1.heap.objs.size],_,_,H1,rfl,I1.kept (t':=s1.toks) fun b o e=>l_ _ e,zH _ z t,⟨_,v_ _ rfl,rfl,rfl⟩,fun b hb=>leaf (tl':=tl) (wi:=C1 X.K tl) b (by simpa using hb),q⟩
theorem Mg (ha:PE X a (tp X.K cl Γ ca)):PI X tg a (Af X.K cl Γ (.fB ca)):=(Hb ha).imp fun σ H R h=>by
 obtain⟨B,ρ,M,G,R',h1,h2,h3⟩:=h;refine⟨B,ρ,M,G,_,h1,h2,fun x vx M1 G1 H1 f1 i1 hx=>?_⟩
 have fl:∀ {ds:List Dt},i6 x=some ds->R' ds M1->∃ a xs,vx=.ref a/\cr X.K H1 a xs/\R (JL X.K a) H1:=fun {ds} e hr=>by
  obtain⟨l,vs,rfl,q1,q2⟩:=i1.BK e;exact⟨l,vs,rfl,q1.same f1.gh,h3 ds M1 G1 H1 _ f1 (C0 q1 q2) hr⟩
 have ft:∀ {ds:List Dt},pw x=some ds->R' ds M1->∃ a xs,vx=.ref a/\eD X.K H1 a xs/\R (Oi X.K a) H1:=fun {ds} e hr=>by
  obtain⟨l,vs,rfl,q1,q2⟩:=i1.JT e;exact⟨l,vs,rfl,q1.same f1.gh,h3 ds M1 G1 H1 _ f1 (G9 q1 q2) hr⟩
 cases x with
 | str z=>unfold Is at i1;exact .inr (.inr ⟨z,i1,h3 _ M1 G1 H1 _ f1 Ha hx⟩)
 | lst ds=>exact .inl (fl rfl hx)
 | mw ds=>exact .inl (fl rfl hx)
 | tup ds=>exact .inr (.inl (ft rfl hx))
 | eQ ds=>exact .inr (.inl (ft rfl hx))
 | qH ds=>exact .inr (.inl (ft rfl hx))
 | nL ds=>exact .inr (.inl (ft rfl hx))
 | _=>exact (show False from hx).elim
theorem qJ (hs:noStar a=true) {env:Env}:T_ [a] env=[(false,eval a env)]:=ag hs
theorem Mh (hg:Gl X "range") (hm:X.mg "range" = none) (ha:PE X a (tp X.K cl Γ ca)) (hs:noStar a=true):PI X tg (.Call (.Name "range" p) [a] [] pos) (Af X.K cl Γ (.jL ca)):=(xS hg hm (aC ha bw (ag hs)) (qJ hs)).imp fun σ H R h=>by
 obtain⟨B,ρ,M,G,R',h1,h2,h3⟩:=h;refine⟨B,ρ,M,G,_,h1,h2,fun x vx M1 G1 H1 f1 i1 hx=>?_⟩;obtain⟨j,rfl,g1,g2⟩:=bp hx;unfold Is at i1;subst i1;exact⟨j,rfl,g1.1,g1.2,h3 _ M1 G1 H1 _ f1 Av g2⟩
theorem Mi (hg:Gl X "range") (hm:X.mg "range" = none) (ha:PE X a (tp X.K cl Γ ca)) (hb:PE X b (tp X.K cl Γ cb)) (hs:noStar a=true) (mP:noStar b=true):PI X tg (.Call (.Name "range" p) [a,b] [] pos) (Af X.K cl Γ (.Ea ca cb)) :=
 (xT hg hm (aC ha (aC hb bw (ag mP)) (ag hs)) (by rw[ag hs,qJ mP]) (qJ mP)).imp fun σ H R h=>by
 obtain⟨B,ρ,M,G,R',h1,h2,h3⟩:=h;refine⟨B,ρ,M,G,_,h1,h2,fun x vx M1 G1 H1 f1 i1 hx=>⟨B,ρ,M1,G1,_,h1.on f1,hx,fun y vy M2 G2 H2 f2 i2 hy=>?_⟩⟩;obtain⟨i,rfl,QH⟩:=bp hy;obtain⟨j,rfl,g1,g2,g3⟩:=bp QH;unfold Is at i1 i2;subst i1 i2;exact⟨i,j,rfl,⟨g1.1,g1.2,g2.1,g2.2⟩,h3 _ M2 G2 H2 _ (f1.trans f2) Av g3⟩
theorem Hd {n:Nat}:tW K cl (Gf ((n:Int)-1) (-1) n) (bI 0 n).reverse G:=fun i G' H M s1 s2 m=>by
 rw[ZJ,aj];refine⟨fun hn=>⟨hn,fun x H' y=>?_⟩,fun hn=>show n<=i by lia⟩;obtain⟨rfl,rfl⟩:=y;refine⟨.int ((n:Int)-1+i * -1),G',?_,by unfold Is;rfl,aY.refl s2 m⟩;rw[aaU (by rw[aj];exact hn),aj];unfold bI;rw[h_,Xm (by lia)];show some (Dt.int _)=some (Dt.int _);congr 2
 lia
theorem Mj {p2 Au:Pos} (hg:Gl X "reversed") (hm:X.mg "reversed" = none) (G7:Gl X "range") (BQ:X.mg "range" = none) (ha:PE X a (tp X.K cl Γ ca)) (hs:noStar a=true):PI X tg (.Call (.Name "reversed" p) [.Call (.Name "range" p2) [a] [] Au] [] pos) (Af X.K cl Γ (.rev ca)) :=
 (Gw hg hm (aC (cS j6 G7 BQ Yj (aC ha bw (ag hs)) (by decide) (by decide) (ag hs) rfl) bw)).imp fun σ H R h=>by
 obtain⟨B,ρ,M,G,R',h1,h2,h3⟩:=h;refine⟨B,ρ,M,G,_,h1,h2,fun x vx M1 G1 H1 f1 i1 hx=>?_⟩;obtain⟨j,rfl,g1,g2,g3⟩:=bp hx;unfold Is at i1;subst i1;refine⟨j,rfl,fun r hr=>⟨r,j.toNat,rfl,?_,by lia,?_⟩⟩
 ·rw[az,show ((j.toNat:Nat):Int)=j by lia]
 ·have f2:=rS (lo:=0) (hi:=j) f1.gh f1.mem hr;exact h3 _ M1 _ _ _ (f1.trans f2) Hd g3
theorem He {a:Addr}{ds:List Dt}{vs:List V} (h:eD K G a vs) (i:IsL K cl G ds vs):tW K cl (Go K a) (ds.zipIdx.map fun p=>.tup [.int p.2,p.1]) G:=fun n G' H M s1 s2 m=>by
 have hq:eD K H a vs:=h.same (s1.trans s2);have hl:=i.length;have hL:(ds.zipIdx.map fun p:Dt×Nat=>Dt.tup [.int p.2,p.1]).length=ds.length:=by rw[a_,ZY]
 rw[hL];refine⟨fun hn=>⟨⟨vs,vs[n]'(by lia),hq,by simp⟩,fun x H' y=>?_⟩,fun hn=>⟨vs,hq,by lia⟩⟩;obtain⟨T,x,hT,rfl,y,rfl⟩:=y;obtain⟨d,e1,e2⟩:=i.get' (y vs hq);have f:=aY.lay (o:=.tup [.int n,x]) s2 m hT;refine⟨.tup [.int n,d],_,?_,?_,f⟩
 ·rw[h_,aa9,e1];simp
 ·unfold Is;exact⟨T,_,rfl,az,IsL.cons (by unfold Is;rfl) (IsL.cons (e2.mono (s1.trans f.g)) IsL.nil)⟩
theorem Ml {elts:List Expr}{kk:Nat}{QI:Pos} (hg:Gl X "enumerate") (hm:X.mg "enumerate" = none) (ha:PE X a (tp X.K cl Γ ca)) (hs:noStar a=true):PI X (.Tuple elts kk QI) (.Call (.Name "enumerate" p) [a] [] pos) (Af X.K cl Γ (.CP ca)) :=
 (zW hg hm (aC ha bw (ag hs)) (qJ hs)).imp fun σ H R h=>by
 obtain⟨B,ρ,M,G,R',h1,h2,h3⟩:=h;refine⟨B,ρ,M,G,_,h1,h2,fun x vx M1 G1 H1 f1 i1 hx=>?_⟩;obtain⟨ds,e,hk⟩:=cj hx;obtain⟨l,vs,rfl,q1,q2⟩:=i1.JT e;exact⟨l,rfl,⟨vs,q1.same f1.gh⟩,h3 _ M1 G1 H1 _ f1 (He q1 q2) hk⟩
theorem Hf {a b:Addr}{ds es:List Dt}{vs us:List V} (h:Rd G a (.tup vs)) (h':Rd G b (.tup us)) (i:IsL K cl G ds vs) (i':IsL K cl G es us):tW K cl (Gr a b) ((ds.zip es).map fun p=>.tup [p.1,p.2]) G:=fun n G' H M s1 s2 m=>by
 have hq:=kg (s1.trans s2) h;have x6:=kg (s1.trans s2) h';have hl:=i.length;have SD:=i'.length;rw[a_,aaO];refine⟨fun hn=>⟨⟨vs,us,vs[n]'(by lia),us[n]'(by lia),hq,x6,by simp,by simp⟩,fun x H' y=>?_⟩,fun hn=>⟨vs,us,hq,x6,by lia⟩⟩;obtain⟨T,x,y',hT,rfl,y1,y2,rfl⟩:=y;obtain⟨d,e1,e2⟩:=i.get' (y1 vs hq);obtain⟨d',Ou,UH⟩:=i'.get' (y2 us x6);have f:=aY.lay (o:=.tup [x,y']) s2 m hT;refine⟨.tup [d,d'],_,?_,?_,f⟩
 ·rw[h_,show (ds.zip es)[n]? = some (d,d') from Xp.mpr ⟨e1,Ou⟩];rfl
 ·unfold Is;exact⟨T,_,rfl,az,IsL.cons (e2.mono (s1.trans f.g)) (IsL.cons (UH.mono (s1.trans f.g)) IsL.nil)⟩
theorem Mm {elts:List Expr}{kk:Nat}{QI:Pos} (hg:Gl X "zip") (hm:X.mg "zip" = none) (ha:PE X a (tp X.K cl Γ ca)) (hb:PE X b (tp X.K cl Γ cb)) (hs:noStar a=true) (mP:noStar b=true):PI X (.Tuple elts kk QI) (.Call (.Name "zip" p) [a,b] [] pos) (Af X.K cl Γ (.zip ca cb)) :=
 (CJ hg hm (aC ha (aC hb bw (ag mP)) (ag hs)) (by rw[ag hs,qJ mP]) (qJ mP)).imp fun σ H R h=>by
 obtain⟨B,ρ,M,G,R',h1,h2,h3⟩:=h;refine⟨B,ρ,M,G,_,h1,h2,fun x vx M1 G1 H1 f1 i1 hx=>⟨B,ρ,M1,G1,_,h1.on f1,hx,fun y vy M2 G2 H2 f2 i2 hy=>?_⟩⟩;obtain⟨ds,e,hk⟩:=cj hy;obtain⟨es,e',JQ⟩:=cj hk;obtain⟨l,vs,rfl,q1,q2⟩:=db.QG f2.gh (.inl (i1.mono f2.g)) e;obtain⟨l',us,rfl,SE,UI⟩:=db.QG f2.gh (.inl i2) e';exact⟨l,l',vs,us,rfl,kg f2.gh q1,kg f2.gh SE,h3 _ M2 G2 H2 _ (f1.trans f2) (Hf q1 SE q2 UI) JQ⟩
theorem Aw {p:Addr}{items:List Dt}:QA K cl (JL K p) items (fun M=>M p=some (.ml items)) G:=fun i G' H M s s' m hp=>by
 obtain⟨vs,h1,h2⟩:=(m p _ hp).2;have l:=h2.length;refine⟨fun i9=>?_,fun e=>⟨vs,cr.of h1,by lia⟩⟩;have hv:i<vs.length:=by lia
 refine⟨⟨vs,vs[i],cr.of h1,by simp [hv]⟩,fun x H' y=>?_⟩;obtain⟨e,y⟩:=y;subst e;obtain⟨d,e1,e2⟩:=h2.get' (y vs (cr.of h1));exact⟨d,G',e1,e2,aY.refl s' m⟩
end
end PV
namespace PV
open PySem L2 SH
section
variable (K:e_) (cl:Cl)
inductive Mn (pf:cP) (vs:List V) (H:Hp) (Q:VK) (E:XK):Prop where
 | mk (G:Hp) (M:Mem) (ds:List Dt) (k:Dt->Mem->Prop):ah G H->bh K cl G H M->IsL K cl G ds vs->pf ds M k->(∀ d M' v G' H',k d M'->aY K cl none G H M G' H' M'->Is K cl G' d v->Q v H')->Mn pf vs H Q E
inductive Mp (pf:List Dt->Mem->(List Dt->Mem->Prop)->Prop) (vs:List V) (H:Hp) (Q:VK) (E:XK):Prop where
 | mk (G:Hp) (M:Mem) (ds:List Dt) (k:List Dt->Mem->Prop):ah G H->bh K cl G H M->IsL K cl G ds vs->pf ds M k->(∀ xs us a M' G' H',k xs M'->aY K cl none G H M G' H' M'->H a=none->G' a=none->M' a=none->H' a=some (.lst us)->IsL K cl G' xs us->Q (.ref a) H')->Mp pf vs H Q E
inductive Mq (n:Nat) (pf:cP) (vs:List V) (H:Hp) (Q:VK) (E:XK):Prop where
 | mk (G:Hp) (M:Mem) (d:Dt) (ds:List Dt) (k:Dt->Mem->Prop) (fs:List Str):ah G H->bh K cl G H M->IsL K cl G (d::ds) vs->eI M d (fun n' fA=>n'=n/\fA=fs)->pf (d::ds) M k->(∀ d M' v G' H',k d M'->aY K cl none G H M G' H' M'->Is K cl G' d v->Q v H')->Mq n pf vs H Q E
inductive C2 (pf:Dt->List Dt->Mem->(Dt->Mem->Prop)->Prop) (vs:List V) (H:Hp) (Q:VK) (E:XK):Prop where
 | mk (G:Hp) (M:Mem) (a:Addr) (n:Nat) (fs:List Str) (xs:List Dt) (dx:Addr) (us JZ:List V) (ds:List Dt) (k:Dt->Mem->Prop):vs=.ref a::JZ->H a=some (.ins (cl n) dx (fs.zip us))->fs.length=xs.length->IsL K cl G xs us->G a=none->M a=none->ah G H->bh K cl G H M->IsL K cl G ds JZ ->
  pf (.obj n fs xs) ds M k->(∀ fA sR CD Hg M' G' H',k (.obj n fA sR) M'->aY K cl (some a) G H M G' H' M'->G' a=none->M' a=none->H' a=some (.ins (cl n) Hg (fA.zip CD))->fA.length=sR.length->IsL K cl G' sR CD->Q .aJ H')->C2 pf vs H Q E
end
structure Fx (Γ:Gm) (cl:Cl) (P:N_) (w:World) (K:e_) (mg:Str->k_ Value) (base:Heap) (n:Nat) (fns jN cls mW:List Str) (mX:List Nat):Prop where
 fn:∀ (f:Nat) x,fns[f]? = some x->(x==("__debug__" : Str))=false->∃ a fd ps,mg x=some (.ref a)/\WH K (.ref a)=true/\Binds K fd ps []/\bO P w K mg base lS n a fd ps (Mn K cl (Γ.fn f))
 fo:∀ (f:Nat) x,fns[f]? = some x->(x==("__debug__" : Str))=false->∃ a fd ps,mg x=some (.ref a)/\WH K (.ref a)=true/\Binds K fd ps []/\bO P w K mg base lS n a fd ps (Mp K cl (Γ.fo f))
 me:∀ (m:Nat) x,jN[m]? = some x->∀ c fs,Γ.hm m c fs=true->fs.contains x=false/\sZ K (cl c)/\∃ a fd ps,Meth K (cl c) x a/\Binds K fd ps []/\bO P w K mg base lS n a fd ps (Mq K cl c (Γ.me m))
 kl:∀ (c:Nat) x,cls[c]? = some x->(x==("__debug__" : Str))=false->mg x=some (.ref (cl c))/\WH K (.ref (cl c))=true
 bj:∀ (c:Nat) d ds M k,Γ.bj c d ds M k->∃ a fd ps j,n=j+1/\bO P w K mg base lS j a fd ps (C2 K cl (Γ.bj c))/\Binds K fd ps []/\Mk K (cl c) a
 cm:∀ (c:Nat),mX.contains c=true->∃ a fd ps,Ge K (cl c) "__init__" a/\bO P w K mg base lS n a fd ps (C2 K cl (Γ.bj c))/\Binds K fd ps []
 cs:∀ (k:Nat) x,mW[k]? = some x->(x==("__debug__" : Str))=false->∃ u v,mg x=some u/\RelV v u/\∀ G,Is K cl G (Γ.cs k) v
 at_:∀ n f,Γ.at_ n f=true->sZ K (cl n)/\dW K (cl n) f
 wl:cl.w=w
section
variable {K:e_}{cl:Cl}{Γ:Gm}{c ca cb cc:C}{σ:St}{G H:Hp}{Q:VK}{X:Cx}{e a b tg o:Expr}{es:List Expr}{pos p apos:Pos}{n:Nat}{fns jN cls mW:List Str}{mX:List Nat}
theorem s_call {f:Nat}{x:Str} (F:Fx Γ cl X.prog X.w X.K X.mg X.base n fns jN cls mW mX) (hr:b0 n X.A) (hx:fns[f]? = some x) (hg:Gl X x) (k9:(x==("__debug__" : Str))=false) (ha:PA X (e::es) (ta X.K cl Γ ca)) (hs:(e::es).all noStar=true) :
  PE X (.Call (.Name x p) (e::es) [] pos) (tp X.K cl Γ (.call f ca)):=by
 obtain⟨a,fd,ps,h1,h2,h3,h4⟩:=F.fn f x hx k9;rw[WC,q_] at hs;refine (wP h4 hr hg h1 h2 h3 .nil qx ha k9 (ag hs.1) (de hs.2)).imp fun σ H Q h=>?_
 obtain⟨B,ρ,M,G,R,q1,q2,q3⟩:=h;refine⟨B,ρ,M,G,_,q1,q2,fun ds vs M' G' H' f i hk=>?_⟩;rw[WJ];exact⟨G',M',ds,_,f.gh,f.mem,i,hk,fun d M2 v G2 H2 hd f2 i2=>q3 d v M2 G2 H2 (f.trans f2) i2 hd⟩
theorem rT {m:Str}{env:Env} (hb:bW o=true) (hs:es.all noStar=true) (hl:es.length<30) (br:(apos.endLine==pos.line)=true):eval (.Call (.Attribute o m apos) es [] pos) env=(do
   let ov ←eval o env
   abg apos.atName
   let (f,first) ←aas [ov] (aca ov m (do return (←importBound o env).getD true))
   callWith pos f first (XO pos (T_ es env)) (ZW pos (Yt [] env))):=by
 have hf:methodCallForm (es.length+([]:List Zq).length) (XO pos (T_ es env)) (ZW pos (Yt [] env))=true:=by
  unfold methodCallForm;rw[kf hs];show (true&&true&&decide (es.length+0+0<30))=true;rw[f_ (by lia)];rfl
 rw[arm_eval_Call,eL hb];unfold methodCall;rw[hf];unfold calleeOf methodCallPos;rw[br];rfl
def vX (P:N_) (w:World) (K:e_) (mg:Str->k_ Value) (base:Heap) (n:Nat) (m:Str) (ta:TE) (t:TA):TE:=fun σ H Q=>ta σ H fun x H1=>∃ a C dx fs f fd ps sp,x=.ref a/\H1 a=some (.ins C dx fs)/\fs.lookup m=none/\sZ K C/\Meth K C m f/\Binds K fd ps []/\bO P w K mg base lS n f fd ps sp /\
 t σ H1 fun vs H2=>sp (x::vs) H2 Q E0
theorem t6 {m:Str}{to:TE}{t:TA} (he:PE X o to) (hr:b0 n X.A) (ha:PA X (e::es) t) (hb:bW o=true) (hs:(e::es).all noStar=true) (hl:(e::es).length<30) (br:(apos.endLine==pos.line)=true) :
  PE X (.Call (.Attribute o m apos) (e::es) [] pos) (vX X.prog X.w X.K X.mg X.base n m to t):=by
 intro pins s σ H Q I h;refine Zh (bf (he pins s σ H _ I h) fun u s1 zz=>?_) (rT hb hs hl br);obtain⟨x,H1,I1,rx,a,C,dx,fs,f,fd,ps,sp,rfl,ea,l,c,hm,QJ,F,q⟩:=zz;obtain rfl:u=Wo a:=rx;refine nv I1 ea c hm l ?_;rw[WC,q_] at hs;refine YO (first:=[.ref a]) (h₀:=X.base) I.ok.mod.JI hm.kp (bf (ha pos pins s1 σ H1 _ I1 q) fun us s2 ⟨vs,H2,I2,r,q2⟩=>⟨I2.kU,?_⟩) (ag hs.1) (de hs.2);exact rp (dvs:=[]) (ds:=[]) (us:=.ref a::us) (vs:=.ref a::vs) F hr QJ .nil qx I2 (.cons rfl r) (by rw[WJ];exact q2)
theorem yE {m:Str}{to:TE} (he:PE X o to) (hr:b0 n X.A) (hb:bW o=true) (br:(apos.endLine==pos.line)=true) :
  PE X (.Call (.Attribute o m apos) [] [] pos) (vX X.prog X.w X.K X.mg X.base n m to Ky):=by
 intro pins s σ H Q I h;refine Zh (bf (he pins s σ H _ I h) fun u s1 zz=>?_) (rT hb rfl (by decide) br);obtain⟨x,H1,I1,rx,a,C,dx,fs,f,fd,ps,sp,rfl,ea,l,c,hm,QJ,F,q⟩:=zz;obtain rfl:u=Wo a:=rx;refine nv I1 ea c hm l ?_;exact PySem.W.callWith_K0 (first:=[.ref a]) I1.kU hm.kp (rp (dvs:=[]) (ds:=[]) (us:=[.ref a]) (vs:=[.ref a]) F hr QJ .nil qx I1 (.cons rfl .nil) q)
theorem dr {f:Str}:∀ {fs:List Str}{vs:List V},fs.contains f=false->(fs.zip vs).lookup f=none
 | [],_,_=>by simp
 | g::fs,[],_=>by simp
 | g::fs,v::vs,h=>by
  rw[List.contains_cons,Bool.or_eq_false_iff] at h;rw[XS,Wr,h.1];exact dr h.2
theorem Ay {M:Mem}{d:Dt}{v:V}{k:Nat->List Str->Prop} (s:ah G H) (m:bh K cl G H M) (i:Is K cl G d v) (h:eI M d k):∃ a n fs dx vs,v=.ref a/\H a=some (.ins (cl n) dx (fs.zip vs))/\k n fs/\eI M d (fun n' fA=>n'=n/\fA=fs):=by
 cases d with
 | obj n fs ds =>
  unfold Is at i;obtain⟨a,dx,vs,e,q,_,_⟩:=i;exact⟨a,n,fs,dx,vs,e,s _ _ q,h,rfl,rfl⟩
 | dD a =>
  unfold Is at i;change (match M a with | some (.mo c fs _)=>k c fs | _=>False) at h
  cases e:M a with
  | none=>rw[e] at h;exact h.elim
  | some o =>
   rw[e] at h
   cases o with
   | mo n fs xs =>
    obtain⟨dx,vs,q,_⟩:=(m a _ e).2;refine⟨a,n,fs,dx,vs,i,q,h,?_⟩;show (match M a with | some (.mo c fA _)=>c=n/\fA=fs | _=>False);rw[e];exact⟨rfl,rfl⟩
   | ml _=>exact h.elim
   | md _=>exact h.elim
 | _=>exact (show False from h).elim
theorem t7 {M M':Mem}{d:Dt}{G' H':Hp}{n:Nat}{fs:List Str} (h:eI M d (fun n' fA=>n'=n/\fA=fs)) (f:aY K cl none G H M G' H' M'):eI M' d (fun n' fA=>n'=n/\fA=fs):=by
 cases d with
 | obj n fs ds=>exact h
 | dD a =>
  change (match M a with | some (.mo c fA _)=>c=n/\fA=fs | _=>False) at h
  cases e:M a with
  | none=>rw[e] at h;exact h.elim
  | some o =>
   rw[e] at h;obtain⟨o',e',q⟩:=f.ke a o e;show (match M' a with | some (.mo c fA _)=>c=n/\fA=fs | _=>False);rw[e']
   cases o with
   | mo n' fA xs =>
    cases o' with
    | mo n2 Wc Wd =>
     injection q with _ q
     injection q with q1 q2
     exact⟨q1.trans h.1,q2.trans h.2⟩
    | ml _=>exact absurd (congrArg Prod.fst q) (by intro z;cases z)
    | md _=>exact absurd (congrArg Prod.fst q) (by intro z;cases z)
   | ml _=>exact h.elim
   | md _=>exact h.elim
 | _=>exact (show False from h).elim
theorem xf {m:Nat}{x:Str}{P:N_}{w:World}{mg:Str->k_ Value}{base:Heap} (F:Fx Γ cl P w K mg base n fns jN cls mW mX) (hx:jN[m]? = some x) {t:TA} (ht:∀ σ H Q,ta K cl Γ cb σ H Q->t σ H Q)
  (h:tp K cl Γ (.bR m ca cb) σ H Q):vX P w K mg base n x (tp K cl Γ ca) t σ H Q:=by
 obtain⟨B,ρ,M,G,R,q1,q2,q3⟩:=h;refine⟨B,ρ,M,G,_,q1,q2,fun d v M1 G1 H1 f1 i1 hd=>?_⟩;obtain⟨a,k,fs,dx,vs,rfl,h1,⟨h2,h3⟩,h4⟩:=Ay f1.gh f1.mem i1 hd;obtain⟨g1,g2,f,fd,ps,g3,g4,g5⟩:=F.me m x hx k fs h2;refine⟨a,_,dx,_,f,fd,ps,_,rfl,h1,dr g1,g2,g3,g4,g5,ht _ _ _ ⟨B,ρ,M1,G1,_,q1.on f1,h3,fun ds us M2 G2 H2 f2 i2 hk=>?_⟩⟩;exact⟨G2,M2,d,ds,_,fs,f2.gh,f2.mem,IsL.cons (i1.mono f2.g) i2,t7 h4 f2,hk,fun d' M3 v G3 H3 CY f3 i3=>q3 d' v M3 G3 H3 ((f1.trans f2).trans f3) i3 CY⟩
theorem Hh {m:Nat}{x:Str} (F:Fx Γ cl X.prog X.w X.K X.mg X.base n fns jN cls mW mX) (hr:b0 n X.A) (hx:jN[m]? = some x) (ho:PE X o (tp X.K cl Γ ca)) (ha:PA X (e::es) (ta X.K cl Γ cb)) (hb:bW o=true) (hs:(e::es).all noStar=true) (hl:(e::es).length<30) (br:(apos.endLine==pos.line)=true) :
  PE X (.Call (.Attribute o x apos) (e::es) [] pos) (tp X.K cl Γ (.bR m ca cb)):=(t6 ho hr ha hb hs hl br).imp fun σ H Q h=>xf F hx (fun _ _ _ z=>z) h
theorem C3 {m:Nat}{x:Str} (F:Fx Γ cl X.prog X.w X.K X.mg X.base n fns jN cls mW mX) (hr:b0 n X.A) (hx:jN[m]? = some x) (ho:PE X o (tp X.K cl Γ ca)) (hb:bW o=true) (br:(apos.endLine==pos.line)=true) :
  PE X (.Call (.Attribute o x apos) [] [] pos) (tp X.K cl Γ (.bR m ca .nil)):=(yE ho hr hb br).imp fun σ H Q h=>xf F hx (fun σ H Q z=>by
   obtain⟨B,ρ,M,G,R,h1,h2,h3⟩:=z;exact h3 [] [] M G H h1.self IsL.nil h2) h
def Hi (G G':Hp):Prop:=∀ b o,(∀ zs,o≠HO.lst zs)->G b=some o->G' b=some o
theorem Hi.rd {G':Hp}{a:Addr}{vs:List V} (s:Hi G G') (h:Rd G a (.tup vs)):Rd G' a (.tup vs):=h.elim (fun z=>.inl (s _ _ (fun _ y=>nomatch y) z)) fun⟨o,z⟩=>.inr ⟨o,s _ _ (fun _ y=>nomatch y) z⟩
mutual
theorem Is.nl {G':Hp} (s:Hi G G'):∀ {d:Dt}{v:V},lh d=true->Is K cl G d v->Is K cl G' d v
 | .aJ,_,_,h=>h
 | .bl _,_,_,h=>h
 | .int _,_,_,h=>h
 | .str _,_,_,h=>h
 | .lst _,_,l,_=>by unfold lh at l;cases l
 | .mw _,_,l,_=>by unfold lh at l;cases l
 | .tup ds,v,l,h=>by
  unfold Is at h ⊢;unfold lh at l;obtain⟨a,vs,e,q,r⟩:=h;exact⟨a,vs,e,s _ _ (fun _ z=>nomatch z) q,IsL.nl s l r⟩
 | .qH ds,v,l,h=>by
  unfold Is at h ⊢;unfold lh at l;obtain⟨a,vs,e,q,r⟩:=h;exact⟨a,vs,e,q.elim (fun z=>.inl (s.rd z)) .inr,IsL.nl s l r⟩
 | .nL ds,v,l,h=>by
  unfold Is at h ⊢;unfold lh at l;obtain⟨a,vs,e,q,r⟩:=h;exact⟨a,vs,e,s.rd q,IsL.nl s l r⟩
 | .eQ ds,v,l,h=>by
  unfold Is at h ⊢;unfold lh at l;obtain⟨a,vs,e,q,r⟩:=h;exact⟨a,vs,e,q.keep s,IsL.nl s l r⟩
 | .obj c fs ds,v,l,h=>by
  unfold Is at h ⊢;unfold lh at l;obtain⟨a,dx,vs,e,q,n,r⟩:=h;exact⟨a,dx,vs,e,s _ _ (fun _ z=>nomatch z) q,n,IsL.nl s l r⟩
 | .Ab ks,v,_,h=>by
  unfold Is at h ⊢;obtain⟨a,am,e,q,r⟩:=h;exact⟨a,am,e,s _ _ (fun _ z=>nomatch z) q,r⟩
 | .dD _,_,_,h=>h
theorem IsL.nl {G':Hp} (s:Hi G G'):∀ {ds:List Dt}{vs:List V},hV ds=true->IsL K cl G ds vs->IsL K cl G' ds vs
 | [],_,_,h=>h
 | d::ds,vs,l,h=>by
  unfold IsL at h ⊢;unfold hV at l;rw[q_] at l;obtain⟨v,r,e,h1,h2⟩:=h;exact⟨v,r,e,Is.nl s l.1 h1,IsL.nl s l.2 h2⟩
end
theorem _root_.L2.bQ.nl {G':Hp} (s:Hi G G') {v:V}{p:H_} (h:bQ K G v p):∀ n,ja n p=true->bQ K G' v p :=
 bQ.rec (motive_1:=fun v p _=>∀ n,ja n p=true->bQ K G' v p) (motive_2:=fun vs ps _=>∀ n,ps.all (ja n)=true->dC K G' vs ps)
  (fun _ _=>.aJ) (fun b _ _=>.bl b) (fun i _ _=>.int i) (fun x _ _=>.str x)
  (fun _ _ _ n z=>by cases n<;>exact absurd z (by unfold ja;decide))
  (fun {a xs ds} q _ ih n z=>by
   cases n with
   | zero=>exact absurd z (by unfold ja;decide)
   | succ n=>exact .tup (q.elim (fun z=>.inl (s.rd z)) .inr) (ih n z))
  (fun _ _=>.nil)
  (fun _ _ i1 i2 n z=>by rw[WC,q_] at z;exact .cons (i1 n z.1) (i2 n z.2)) h
theorem DP.nl {G':Hp} (s:Hi G G'):∀ {am:List (H_×Dt)}{xs:List (H_×Addr×Value)},(am.all fun p=>lh p.2)=true->DP K cl G am xs->DP K cl G' am xs
 | _,_,_,.nil=>.nil
 | _,_,l,.cons h t=>by
  rw[WC,q_] at l;obtain⟨h1,h2,h3,v,h4,h5⟩:=h;exact .cons ⟨h1,h2,h3.nl s 7 h2.1,v,h4,h5.nl s l.1⟩ (DP.nl s l.2 t)
noncomputable def Hj (G:Hp) (A:List Addr):Hp:=fun b=>if b∈A then none else G b
noncomputable def jm (G H:Hp) (A:List Addr):Hp:=fun b=>if b∈A then H b else G b
def yF (G H:Hp) (M:Mem) (A:List Addr):Prop:=∀ a∈A,G a=none/\M a=none/\∃ vs,H a=some (.lst vs)
theorem dL {M:Mem}{A:List Addr} (h:yF G H M A):ah G (jm G H A):=fun b u e=>by
 unfold jm;by_cases z:b∈A
 ·rw[(h b z).1] at e;cases e
 ·rw[p_ z];exact e
theorem Az {A:List Addr} (s:ah G H):ah (jm G H A) H:=fun b u e=>by
 unfold jm at e;by_cases z:b∈A
 ·rw[u_ z] at e;exact e
 ·rw[p_ z] at e;exact s b u e
theorem t9 {M:Mem}{A:List Addr} (h:yF G H M A) (m:bh K cl G H M):bh K cl (jm G H A) H M:=fun a o e=>by
 have z:a∉A:=fun z=>by rw[(h a z).2.1] at e;cases e
 exact⟨by unfold jm;rw[p_ z];exact (m a o e).1,(m a o e).2.mono (dL h) fun _ y=>y⟩
theorem vY {M M2:Mem}{G2 H2:Hp}{A:List Addr} (h:yF G H M A) (f:aY K cl none (jm G H A) H M G2 H2 M2):Hi G2 (Hj G2 A):=fun b o n e=>by
 unfold Hj;by_cases z:b∈A
 ·obtain⟨_,_,vs,hv⟩:=h b z;have:=f.g b (.lst vs) (by unfold jm;rw[u_ z];exact hv);rw[this] at e;cases e;exact absurd rfl (n vs)
 ·rw[p_ z];exact e
theorem aY.back {M M2:Mem}{G2 H2:Hp}{A:List Addr} (h:yF G H M A) (l:tT M2) (f:aY K cl none (jm G H A) H M G2 H2 M2):aY K cl none G H M (Hj G2 A) H2 M2:=by
 have nl:=vY h f
 have le:∀ {b u},Hj G2 A b=some u->b∉A/\G2 b=some u:=fun {b u} e=>by
  unfold Hj at e;by_cases z:b∈A
  ·rw[u_ z] at e;cases e
  ·rw[p_ z] at e;exact⟨z,e⟩
 refine⟨fun b u e=>?_,fun b u e=>f.gh b u (le e).2,f.jK,fun b u e n=>f.gf b u (le e).2 ?_,f.h,fun b o e=>⟨?_,?_⟩,f.mf,f.ke⟩
 ·have z:b∉A:=fun z=>by rw[(h b z).1] at e;cases e
  unfold Hj;rw[p_ z];exact f.g b u (dL h b u e)
 ·unfold jm;rw[p_ (le e).1];exact n
 ·unfold Hj;by_cases z:b∈A
  ·rw[u_ z]
  ·rw[p_ z];exact (f.mem b o e).1
 ·have q:=(f.mem b o e).2;have lo:=l b o e
  cases o with
  | ml xs=>obtain⟨vs,q1,q2⟩:=q;exact⟨vs,q1,q2.nl nl lo⟩
  | mo c fs xs=>obtain⟨dx,vs,q1,q2,q3⟩:=q;exact⟨dx,vs,q1,q2,q3.nl nl lo⟩
  | md am=>obtain⟨h1,h2,xs,q1,n,r⟩:=q;exact⟨h1,h2,xs,q1,n,r.nl nl lo⟩
inductive tb (K:e_) (cl:Cl) (Γ:Gm) (c:C) (σ:St) (H:Hp) (Q:List V->Hp->Prop):Prop where
 | mk (B:Bs) (ρ:En) (M:Mem) (G:Hp) (R:Rt):Rep K cl B ρ M σ H G->ev Γ c ρ M R->(∀ ds vs A M' G' H',aY K cl none G H M G' H' M'->yF G' H' M' A->IsL K cl (jm G' H' A) ds vs->R ds M'->Q vs H')->tb K cl Γ c σ H Q
theorem Hk:PA X [] (tb X.K cl Γ .nil):=bw.imp fun σ H Q h=>by
 obtain⟨B,ρ,M,G,R,h1,h2,h3⟩:=h;exact h3 [] [] [] M G H h1.self (fun _ z=>nomatch z) IsL.nil h2
theorem C4 (ha:PE X a (tp X.K cl Γ ca)) (hr:PA X es (tb X.K cl Γ cb)) (hs:noStar a=true):PA X (a::es) (tb X.K cl Γ (.cons ca cb)):=(aC ha hr (ag hs)).imp fun σ H Q h=>by
 obtain⟨B,ρ,M,G,R,h1,h2,h3⟩:=h;exact⟨B,ρ,M,G,_,h1,h2,fun x vx M1 G1 H1 f1 i1 hx=>⟨B,ρ,M1,G1,_,h1.on f1,hx,fun ds vs A M2 G2 H2 f2 l2 i2 hd=>h3 _ _ A M2 G2 H2 (f1.trans f2) l2 (IsL.cons ((i1.mono f2.g).mono (dL l2)) i2) hd⟩⟩
theorem QK {k:Nat}{x:Str}{pos:Pos} (hN:X.N[k]? = some x) (hv:yW X.env.scope x) (hd:(x==("__debug__" : Str))=false) (jS:(x==("__classdict__" : Str))=false) (hr:PA X es (tb X.K cl Γ cb)) (hs:noStar (.Name x pos)=true):PA X (.Name x pos::es) (tb X.K cl Γ (.cons (.bo k) cb)) :=
 (aC (Sz (Γ:=Γ) (cl:=cl) hN hv hd jS) hr (ag hs)).imp fun σ H Q h=>by
  obtain⟨B,ρ,M,G,R,h1,h2,h3⟩:=h;refine⟨B,ρ,M,G,fun ds M1=>aq ds fun d=>lstK d fun _=>ev Γ cb ρ M1 fun es M2=>R (d::es) M2,h1,?_,fun d v M1 G1 H1 f1 i1 hx=>?_⟩
  ·change b8 ρ k _ at h2 ⊢;unfold b8 at h2 ⊢;split at h2
   ·rename_i d e
    cases d with
    | lst ds=>exact h2
    | _=>exact h2.elim
   ·exact h2
  ·cases d with
   | lst xs =>
    refine⟨B,ρ,M1,G1,_,h1.on f1,hx,fun ds vs A M2 G2 H2 f2 l2 i2 hk=>?_⟩;have sh:Is X.K cl G2 (.lst xs) v->Q (v::vs) H2:=fun i=>h3 _ _ A M2 G2 H2 (f1.trans f2) l2 (IsL.cons (i.mono (dL l2)) i2) hk
    rcases i1.bT f2 with i | ⟨a,o,rfl,ho,hm,hc⟩
    ·exact sh i
    ·cases ho
     obtain⟨us,hu,ih⟩:=hc
     cases hg:G2 a with
     | some u =>
      have:=f2.gh a u hg;rw[hu] at this;cases this;exact sh (by unfold Is;exact⟨a,us,rfl,hg,ih⟩)
     | none =>
      have l3:yF G2 H2 M2 (a::A):=fun b hb=>by
       rcases t_.mp hb with rfl | hb
       ·exact⟨hg,hm,us,hu⟩
       ·exact l2 b hb
      refine h3 _ _ (a::A) M2 G2 H2 (f1.trans f2) l3 (IsL.cons ?_ (i2.mono fun b u e=>?_)) hk
      ·unfold Is;exact⟨a,us,rfl,by unfold jm;rw[u_ S_];exact hu,ih.mono (dL l3)⟩
      ·unfold jm at e ⊢;by_cases z:b∈A
       ·rw[u_ z] at e;rw[u_ (E_ _ z)];exact e
       ·rw[p_ z] at e;by_cases y:b=a
        ·rw[y,hg] at e;cases e
        ·rw[p_ fun q=>(t_.mp q).elim y z];exact e
   | _=>exact (show False from hx).elim
theorem Mr {f:Nat}{x:Str} (F:Fx Γ cl X.prog X.w X.K X.mg X.base n fns jN cls mW mX) (hr:b0 n X.A) (hx:fns[f]? = some x) (hg:Gl X x) (k9:(x==("__debug__" : Str))=false) (ha:PA X (e::es) (tb X.K cl Γ ca)) (hs:(e::es).all noStar=true) :
  PE X (.Call (.Name x p) (e::es) [] pos) (tp X.K cl Γ (.xQ f ca)):=by
 obtain⟨a,fd,ps,h1,h2,h3,h4⟩:=F.fn f x hx k9;rw[WC,q_] at hs;refine (wP h4 hr hg h1 h2 h3 .nil qx ha k9 (ag hs.1) (de hs.2)).imp fun σ H Q h=>?_
 obtain⟨B,ρ,M,G,R,q1,q2,q3⟩:=h;refine⟨B,ρ,M,G,_,q1,q2,fun ds vs A M' G' H' f l i hk=>?_⟩;rw[WJ];exact⟨jm G' H' A,M',ds,_,Az f.gh,t9 l f.mem,i,hk,fun d M2 v G2 H2 hd f2 i2=>q3 d v M2 _ H2 (f.trans (f2.back l hd.1.2)) (i2.nl (vY l f2) hd.1.1) hd.2⟩
theorem Ms {m:Nat}{x:Str} (F:Fx Γ cl X.prog X.w X.K X.mg X.base n fns jN cls mW mX) (hr:b0 n X.A) (hx:jN[m]? = some x) (ho:PE X o (tp X.K cl Γ ca)) (ha:PA X (e::es) (tb X.K cl Γ cb)) (hb:bW o=true) (hs:(e::es).all noStar=true) (hl:(e::es).length<30) (br:(apos.endLine==pos.line)=true) :
  PE X (.Call (.Attribute o x apos) (e::es) [] pos) (tp X.K cl Γ (.GI m ca cb)):=(t6 ho hr ha hb hs hl br).imp fun σ H Q h=>by
 obtain⟨B,ρ,M,G,R,q1,q2,q3⟩:=h;refine⟨B,ρ,M,G,_,q1,q2,fun d v M1 G1 H1 f1 i1 hd=>?_⟩;obtain⟨a,k,fs,dx,vs,rfl,h1,⟨h2,h3⟩,h4⟩:=Ay f1.gh f1.mem i1 hd;obtain⟨g1,g2,f,fd,ps,g3,g4,g5⟩:=F.me m x hx k fs h2;refine⟨a,_,dx,_,f,fd,ps,_,rfl,h1,dr g1,g2,g3,g4,g5,B,ρ,M1,G1,_,q1.on f1,h3,fun ds us A M2 G2 H2 f2 l i2 hk=>?_⟩;exact⟨jm G2 H2 A,M2,d,ds,_,fs,Az f2.gh,t9 l f2.mem,IsL.cons ((i1.mono f2.g).mono (dL l)) i2,t7 h4 f2,hk,fun d' M3 v G3 H3 CY f3 i3=>q3 d' v M3 _ H3 ((f1.trans f2).trans (f3.back l CY.1.2)) (i3.nl (vY l f3) CY.1.1) CY.2⟩
theorem ua {p:Addr}{M:Mem} (m:bh K cl G H M) (hp:H p=none):M p=none:=by
 cases e:M p with
 | none=>rfl
 | some w=>obtain⟨u,hu⟩:=(m p w e).2.jK;rw[hp] at hu;cases hu
def OE (K:e_) (cl:Cl) (Γ:Gm) (q:Nat) (c:C):TE:=fun σ H Q=>∃ B ρ M G R,Rep K cl B ρ M σ H G/\ev Γ c ρ M (fun ds M1=>Γ.bj q (.obj q [] []) ds M1 R) /\
 ∀ fs xs us M2 G2 H2 x dx,R (.obj q fs xs) M2->aY K cl none G H M G2 H2 M2->H x=none->G2 x=none->M2 x=none->H2 x=some (.ins (cl q) dx (fs.zip us))->fs.length=xs.length->IsL K cl G2 xs us->Q (.ref x) H2
theorem C5 {q:Nat}{M1 M2:Mem}{G1 H1 G2 H2:Hp}{x dx:Addr} (hx:H1 x=none) (OF:H1 dx=none) (f:aY K cl (some x) G1 (upd (upd H1 dx (.own x)) x (.ins (cl q) dx [])) M1 G2 H2 M2):aY K cl none G1 H1 M1 G2 H2 M2:=by
 have up:∀ a u,H1 a=some u->(upd (upd H1 dx (.own x)) x (.ins (cl q) dx [])) a=some u:=fun a u h=>by rw[aw (aD h hx),aw (aD h OF)];exact h
 have dn:∀ a,(upd (upd H1 dx (.own x)) x (.ins (cl q) dx [])) a=none->H1 a=none:=fun a h=>bF (fun a u h=>⟨u,up a u h⟩) h
 refine⟨f.g,f.gh,fun a u h=>f.jK a u (up a u h),fun a u h n=>dn a (f.gf a u h n),fun a u h hm _=>f.h a u (up a u h) hm fun z=>?_,f.mem,fun a u h n=>dn a (f.mf a u h n),f.ke⟩
 cases z;rw[hx] at h;cases h
theorem aY.Mt {M M2:Mem}{G2 H2:Hp}{x:Addr}{o:HO}{sf:k_ Addr} (f:aY K cl sf G H M G2 H2 M2) (hx:H x=none) (gx:G2 x=none) (mx:M2 x=none) (e:H2 x=some o):aY K cl sf G H M (upd G2 x o) H2 M2:=by
 have sm:ah G2 (upd G2 x o):=ah.put gx;refine⟨f.g.trans sm,fun a u h=>?_,f.jK,fun a u h n=>?_,f.h,fun a u h=>?_,f.mf,f.ke⟩
 ·unfold upd at h;by_cases z:a=x
  ·rw[u_ z] at h;cases h;rw[z];exact e
  ·rw[p_ z] at h;exact f.gh a u h
 ·unfold upd at h;by_cases z:a=x
  ·rw[z];exact hx
  ·rw[p_ z] at h;exact f.gf a u h n
 ·obtain⟨h1,h2⟩:=f.mem a u h;have ne:a≠x:=fun z=>by rw[z,mx] at h;cases h
  exact⟨by rw[aw ne];exact h1,h2.mono sm fun _ z=>z⟩
theorem Mu {q:Nat}{x:Str} (F:Fx Γ cl X.prog X.w X.K X.mg X.base n fns jN cls mW mX) (hr:b0 n X.A) (hx:cls[q]? = some x) (hg:Gl X x) (k9:(x==("__debug__" : Str))=false) (ha:PA X (e::es) (ta X.K cl Γ ca)) (hs:(e::es).all noStar=true) :
  PE X (.Call (.Name x p) (e::es) [] pos) (OE X.K cl Γ q ca):=by
 intro pins s σ H Q I h;obtain⟨hm,kp⟩:=F.kl q x hx k9;rw[WC,q_] at hs;obtain⟨B,ρ,M,G,R,q1,q2,q3⟩:=h
 have h':ta X.K cl Γ ca σ H (fun vs H1=>(∃ d ds M k,Γ.bj q d ds M k)/\∀ x dx,H1 x=none->H1 dx=none->dx≠x->C2 X.K cl (Γ.bj q) (.ref x::(vs++[])) (upd (upd H1 dx (.own x)) x (.ins (cl q) dx [])) (fun v H2=>v=.aJ/\Q (.ref x) H2) E0):=by
  refine⟨B,ρ,M,G,_,q1,q2,fun ds vs M1 G1 H1 f i hk=>⟨⟨_,_,_,_,hk⟩,fun x dx hx OF ne=>?_⟩⟩;have up:ah H1 (upd (upd H1 dx (.own x)) x (.ins (cl q) dx [])):=fun a u h=>by rw[aw (aD h hx),aw (aD h OF)];exact h
  rw[WJ];refine⟨G1,M1,x,q,[],[],dx,[],vs,ds,R,rfl,az,rfl,IsL.nil,vV f.gh hx,ua f.mem hx,f.gh.trans up,fun a o e=>?_,i,hk,fun fs xs us Hg M2 G2 H2 hk f2 g1 g2 g3 g4 g5=>⟨rfl,q3 fs xs us M2 G2 H2 x Hg hk (f.trans (C5 hx OF f2)) (bF f.jK hx) g1 g2 g3 g4 g5⟩⟩;obtain⟨h1,h2⟩:=f.mem a o e;exact⟨h1,h2.mono (ah.refl G1) fun u hu=>up a u hu⟩
 refine YN (mN I hg hm ?_ k9);refine YO (h₀:=X.base) I.ok.mod.JI kp (bf (ha pos pins s σ H _ I h') fun us s1 ⟨vs,H1,I1,r,⟨d,ds,M1,k,hi⟩,hq⟩=>⟨I1.kU,?_⟩) (ag hs.1) (de hs.2);obtain⟨f,fd,ps,j,hj,F1,B1,UJ⟩:=F.bj q d ds M1 k hi;exact zq (dvs:=[]) (ds:=[]) UJ F1 (hj▸hr) B1 .nil qx I1 r hq
theorem QL {q:Nat} (h:PE X e (OE X.K cl Γ q ca)):PE X e (tp X.K cl Γ (.mk q ca)):=h.imp fun σ H Q h=>by
 obtain⟨B,ρ,M,G,R,q1,q2,q3⟩:=h;refine⟨B,ρ,M,G,_,q1,q2,fun fs xs us M2 G2 H2 x dx hR f hx gx mx e l i=>?_⟩;have f2:=f.Mt hx gx mx e;exact q3 (.obj q fs xs) (.ref x) M2 _ H2 f2 (by unfold Is;exact⟨x,dx,us,rfl,az,l,i.mono (ah.put gx)⟩) hR
end
end PV
namespace PV
open PySem L2 SH
section
variable {K:e_}{cl:Cl}{Γ:Gm}{c ci ct ce:C}{σ:St}{G H:Hp}{Q:VK}{X:Cx}{e a b tg o:Expr}{es:List Expr}{pos p apos:Pos}
theorem C6 {ρ:En}{j:Nat}{d:Dt} (h:hX ρ j=.sh d):ρ[j]? = some (.sh d):=by
 unfold hX at h;split at h
 ·cases h;assumption
 ·cases h
theorem C7 {ρ:En}{j:Nat}{d:Dt}:hX ρ j≠.ow d:=by
 unfold hX;split<;>exact fun z=>nomatch z
theorem C8 {B:Bs}{ρ:En}{M M':Mem}{ix:List Nat}{G' H':Hp}{ds:List Dt}{vs:List V} (r:Rep K cl B ρ M σ H G) (sg:ah G G') (s:ah G' H') (m:bh K cl G' H' M') (i:IsL K cl G' ds vs) :
  Rep K cl ⟨G',H',M',none⟩ (ds.map Sl.sh++ix.map (hX ρ)) M' (vs.map some++ix.map fun j=>(σ[j]?).join) H' G':=by
 have hl:=i.length;refine⟨aY.refl s m,by simp [hl],fun _ z=>(nomatch z),fun j d e=>?_,fun _=>0,fun j d e=>?_,fun j _ d _ e=>?_⟩
 ·by_cases hj:j<ds.length
  ·rw[WD (by simpa using hj),h_] at e;obtain⟨d',e1,e2⟩:=m_.mp e
   cases e2
   obtain⟨v,h1,h2⟩:=i.get e1;refine⟨v,?_,h2⟩;rw[WD (by simpa [hl] using hj),h_,h1];rfl
  ·rw[Wy (by simpa using hj),h_] at e;obtain⟨k,e1,e2⟩:=m_.mp e;obtain⟨v,h1,h2⟩:=r.sh k d (C6 e2);refine⟨v,?_,h2.mono sg⟩;rw[a_] at e1;rw[Wy (by simpa [hl] using hj),h_,a_,←hl,e1];show some ((σ[k]?).join)=_;rw[h1];rfl
 all_goals
  exfalso;by_cases hj:j<ds.length
  ·rw[WD (by simpa using hj),h_] at e;obtain⟨d',e1,e2⟩:=m_.mp e
   cases e2
  ·rw[Wy (by simpa using hj),h_] at e;obtain⟨k,e1,e2⟩:=m_.mp e;exact C7 e2
def Mv (own:List Str) (ix:List Nat) (J:It) (g:TG) (ti:TT) (te:TE) (σ:St) (H:Hp) (Q:VK):Prop:=∃ W:Nat->Nat->List V->St->Hp->Prop,(∃ m,W 0 m [] (pk σ own ix) H)/\∀ i m ys σ' H,W i m ys σ' H ->
  (J.stop i H/\ys.length<=sizeLine/\∀ D,H D=none->Q (.ref D) (upd H D (.lst ys))) ∨
  (J.go i H/\∀ x H',J.DV i H x H'->g x σ' H' fun σ2 H2=>ti σ2 H2 fun b H3=>if b=true then te σ2 H3 fun y H4=>ys.length<sizeLine/\∃ m',m'<m/\W (i+1) m' (ys++[y]) σ2 H4 else ∃ m',m'<m/\W (i+1) m' ys σ2 H3)
def ub (K:e_) (cl:Cl) (w:Nat) (ix:List Nat) (g:TG):Prop:=∀ {d:Dt}{ρ:En}{k:En->Prop}{x:V}{σ':St}{lm:St}{Gc Hc:Hp}{R:St->Hp->Prop},yy ρ w ix d k->Is K cl Gc d x->ah Gc Hc->(∃ pre:St,pre.length=w/\σ'=pre++lm) ->
   (∀ ds vs,IsL K cl Gc ds vs->ds.length=w->k (ds.map Sl.sh++ix.map (hX ρ))->R (vs.map some++lm) Hc)->g x σ' Hc R
theorem uc {own:List Str}{w:Nat}{ix:List Nat}{g:TG}{B:Bs}{ρ:En}{M M':Mem}{G' H':Hp}{J:It}{items:List Dt}{P:Mem->Prop}{R:Rt} (hw:own.length=w) (hg:ub K cl w ix g) (q1:Rep K cl B ρ M σ H G) (bT:aY K cl none G H M G' H' M') (ok:QA K cl J items P G') (hlen:items.length<=sizeLine)
  (hc:cR (fun x M K=>P M/\yy ρ w ix x fun ρ'=>ev Γ ct ρ' M fun c M1=>aq c fun c=>bG c fun c=>if c=true then ev Γ ce ρ' M1 fun d M2=>aq d fun d=>K (some d) M2 else K none M1) items M' fun es M2=>P M2/\R es M2)
  (q3:∀ ds vs M' G' H' p,aY K cl none G H M G' H' M'->H' p=none->IsL K cl G' ds vs->R ds M'->Q (.ref p) (upd H' p (.lst vs))):Mv own ix J g (tt K cl Γ ct) (tp K cl Γ ce) σ H' Q:=by
 let f:Dt->Mem->(k_ Dt->Mem->Prop)->Prop:=fun x M K=>P M/\yy ρ w ix x fun ρ'=>ev Γ ct ρ' M fun c M1=>aq c fun c=>bG c fun c=>if c=true then ev Γ ce ρ' M1 fun d M2=>aq d fun d=>K (some d) M2 else K none M1
 let lm:St:=ix.map fun j=>(σ[j]?).join
 refine⟨fun i m ys σ' Hc=>∃ Mc Gc ds,m=items.length-i/\i<=items.length/\aY K cl none G H M Gc Hc Mc/\ah G' Gc/\IsL K cl Gc ds ys/\ds.length<=i/\(∃ pre:St,pre.length=w/\σ'=pre++lm)/\cR f (items.drop i) Mc (fun es M2=>P M2/\R (ds++es) M2),
  ⟨items.length,M',G',[],by lia,Xn _,bT,ah.refl _,IsL.nil,w_ _,⟨own.map fun _=>none,by rw[a_,hw],rfl⟩,hc⟩,?_⟩
 rintro i m ys σ' Hc ⟨Mc,Gc,ds,rfl,hi,fc,sc,is,dl,pi,jS⟩;have il:=is.length;by_cases i9:i<items.length
 ·obtain⟨d,ed⟩:∃ d,items[i]? = some d:=⟨_,c_ i9⟩
  have QM:items.drop i=d::items.drop (i+1):=by
   rw[Xo i9];congr 1;have:=c_ i9;rw[this] at ed;exact K_ ed
  rw[QM] at jS;obtain⟨hP,QN⟩:P Mc/\yy ρ w ix d (fun ρ'=>ev Γ ct ρ' Mc fun c M1=>aq c fun c=>bG c fun c=>if c=true then ev Γ ce ρ' M1 fun d M2=>aq d fun d=>cR f (items.drop (i+1)) M2 (fun es M2=>P M2/\R (ds++((some d).toList++es)) M2) else cR f (items.drop (i+1)) M1 (fun es M2=>P M2/\R (ds++(none.toList++es)) M2)):=jS;obtain⟨Mw,_⟩:=ok i Gc Hc Mc sc fc.gh fc.mem hP;refine .inr ⟨(Mw i9).1,fun x Hx hy=>?_⟩;obtain⟨d',Gx,Mx,QO,fx⟩:=(Mw i9).2 x Hx hy;rw[ed] at Mx;cases Mx;refine hg QN QO fx.gh pi fun UK UL SF l1 hk=>?_
  have QP:=fc.trans fx;have r1:=C8 (ix:=ix) q1 QP.g fx.gh fx.mem SF;have l2:(UL.map some).length=w:=by rw[a_,←SF.length,l1]
  refine⟨_,_,Mc,Gx,fun c M1=>if c=true then ev Γ ce (UK.map Sl.sh++ix.map (hX ρ)) M1 fun d M2=>aq d fun d=>cR f (items.drop (i+1)) M2 (fun es M2=>P M2/\R (ds++((some d).toList++es)) M2) else cR f (items.drop (i+1)) M1 (fun es M2=>P M2/\R (ds++(none.toList++es)) M2),r1,hk,fun b M1 G1 H1 f1 hb=>?_⟩
  cases b with
  | true =>
   rw[u_ rfl] at hb ⊢;refine⟨_,_,M1,G1,_,r1.on f1,hb,fun dd v M2 G2 H2 f2 i2 AA=>⟨by lia,items.length-(i+1),by lia,M2,G2,ds++[dd],rfl,i9,(QP.trans f1).trans f2,sc.trans ((fx.g.trans f1.g).trans f2.g),(is.mono ((fx.g.trans f1.g).trans f2.g)).append (IsL.cons i2 IsL.nil),by rw[F_,Ws];lia,⟨_,l2,rfl⟩,?_⟩⟩
   have e:(fun es M2=>P M2/\R (ds++((some dd).toList++es)) M2)=fun es M2=>P M2/\R (ds++[dd]++es) M2:=by
    funext es M2
    rw[Yp];rfl
   rw[←e];exact AA
  | false =>
   rw[p_ s_] at hb ⊢;exact⟨items.length-(i+1),by lia,M1,G1,ds,rfl,i9,QP.trans f1,sc.trans (fx.g.trans f1.g),is.mono (fx.g.trans f1.g),by lia,⟨_,l2,rfl⟩,hb⟩
 ·have e:i=items.length:=by lia
  subst e;rw[ach] at jS;obtain⟨hP,hr⟩:P Mc/\R (ds++[]) Mc:=jS;rw[WJ] at hr;exact .inl ⟨(ok _ Gc Hc Mc sc fc.gh fc.mem hP).2 rfl,by lia,fun D hD=>q3 ds ys Mc Gc Hc D fc hD is hr⟩
theorem rV {own:List Str}{w:Nat}{ix:List Nat}{g:TG} (hw:own.length=w) (hg:ub K cl w ix g)
  (h:tf K cl Γ (.comp ci w ix ct ce) σ H Q):wU own ix (Af K cl Γ ci) g (tt K cl Γ ct) (tp K cl Γ ce) σ H Q:=by
 obtain⟨B,ρ,M,G,R,q1,q2,q3⟩:=h;refine⟨B,ρ,M,G,_,q1,q2,fun items M' G' H' J bT ok hh=>?_⟩;refine uc (P:=fun _=>True) (R:=R) hw hg q1 bT (fun i G' H M s1 s2 m _=>ok i G' H M s1 s2 m) hh.1 ?_ q3;simp only[true_and];exact hh.2
theorem C9 {own:List Str}{w:Nat}{ix:List Nat}{g:TG} (hw:own.length=w) (hg:ub K cl w ix g)
  (h:tf K cl Γ (.vQ ci w ix ct ce) σ H Q):wU own ix (DW K (tp K cl Γ ci)) g (tt K cl Γ ct) (tp K cl Γ ce) σ H Q:=by
 obtain⟨B,ρ,M,G,R,q1,q2,q3⟩:=h;refine⟨B,ρ,M,G,_,q1,q2,fun d v M' G' H' bT i hh=>?_⟩
 cases d with
 | dD p =>
  change (match M' p with | some (.ml ds)=>_ | _=>False) at hh
  cases e:M' p with
  | none=>rw[e] at hh;exact hh.elim
  | some o =>
   rw[e] at hh
   cases o with
   | ml items =>
    unfold Is at i;obtain⟨vs,hv,_⟩:=(bT.mem p _ e).2;exact⟨p,i,⟨vs,cr.of hv⟩,uc (R:=R) hw hg q1 bT Aw hh.1 hh.2 q3⟩
   | _=>exact hh.elim
 | _=>exact (show False from hh).elim
theorem My {d:Dt}{ix:List Nat}{ρ:En}{k:En->Prop}{x:V}{σ' lm:St}{Gc Hc:Hp}{R:St->Hp->Prop} (h:yy ρ 1 ix d k) (i:Is K cl Gc d x) (s:ah Gc Hc) (hp:∃ pre:St,pre.length=1/\σ'=pre++lm)
  (q:∀ ds vs,IsL K cl Gc ds vs->ds.length=1->k (ds.map Sl.sh++ix.map (hX ρ))->R (vs.map some++lm) Hc):dU 0 x σ' Hc R:=by
 obtain⟨pre,l,rfl⟩:=hp
 match pre,l with
 | [o],_=>exact q [d] [x] (IsL.cons i IsL.nil) rfl h
theorem Mz {d:Dt}{ix:List Nat}{ρ:En}{k:En->Prop}{x:V}{σ' lm:St}{Gc Hc:Hp}{R:St->Hp->Prop} (h:yy ρ 2 ix d k) (i:Is K cl Gc d x) (s:ah Gc Hc) (hp:∃ pre:St,pre.length=2/\σ'=pre++lm)
  (q:∀ ds vs,IsL K cl Gc ds vs->ds.length=2->k (ds.map Sl.sh++ix.map (hX ρ))->R (vs.map some++lm) Hc):zf K 2 (jT (dU 0) (jT (dU 1) ze)) x σ' Hc R:=by
 obtain⟨pre,l,rfl⟩:=hp
 match pre,l with
 | [o1,o2],_ =>
  cases d with
  | tup ds =>
   match ds,h with
   | [d1,d2],h =>
    unfold Is at i;obtain⟨t,vs,rfl,h1,h2⟩:=i;have l2:=h2.length
    match vs,l2 with
    | [v1,v2],_=>exact⟨t,[v1,v2],rfl,eD.of (s _ _ h1),rfl,v1,[v2],rfl,v2,[],rfl,rfl,q [d1,d2] [v1,v2] h2 rfl h⟩
  | _=>exact (show False from h).elim
theorem Hl {σ:St}{H:Hp}{Q:Bool->Hp->Prop} (h:tt K cl Γ (.b true) σ H Q):KU σ H Q:=by
 obtain⟨B,ρ,M,G,k,h1,h2,h3⟩:=h;exact h3 true M G H h1.self h2
end
end PV
namespace PV
open PySem L2 SH PySem.Spec PyProof.Rows
section
variable {K:e_}{cl:Cl}{G H:Hp}{X:Cx}{pins:List (Addr×Obj)}{σ:L2.St}{s:j_}{a:Addr}{am:List (H_×Dt)}{xs:List (H_×Addr×Value)}
theorem DP.mem:∀ {am:List (H_×Dt)}{xs:List (H_×Addr×Value)},DP K cl G am xs->∀ q∈xs,pv q.1/\bQ K G (.ref q.2.1) q.1
 | _,_,.nil,q,h=>nomatch h
 | _,_,.cons ⟨_,h2,h3,_⟩ t,q,h=>by
  rcases t_.mp h with e | h
  ·subst e;exact⟨h2,h3⟩
  ·exact DP.mem t q h
theorem ln {kv:H_×Dt}{p:H_}:fV (kv::am) p=if kv.1=p then some kv.2 else fV am p:=by
 unfold fV;rw[XB];by_cases e:kv.1=p
 ·rw[f_ e,u_ e];rfl
 ·rw[g_ e,p_ e]
theorem vZ {kv:H_×Addr×Value}{p:H_}:atKey (kv::xs) p=if kv.1=p then some kv.2 else atKey xs p:=by
 unfold atKey;rw[XB];by_cases e:kv.1=p
 ·rw[f_ e,u_ e];rfl
 ·rw[g_ e,p_ e]
theorem DP.at_ (p:H_):∀ {am:List (H_×Dt)}{xs:List (H_×Addr×Value)},DP K cl G am xs->(∀ d,fV am p=some d->∃ q,atKey xs p=some q/\∃ v,RelV v q.2/\Is K cl G d v)/\(fV am p=none->atKey xs p=none)
 | _,_,.nil=>by constructor;exact fun d h=>(nomatch (show (none:k_ Dt)=some d from h));exact fun _=>rfl
 | kv::_,q::_,.cons ⟨h1,h2,h3,v,h4,h5⟩ t=>by
  obtain⟨i1,i2⟩:=DP.at_ p t;rw[ln,vZ,←h1];by_cases e:kv.1=p
  ·rw[u_ e,u_ e];exact⟨fun d h=>by cases h;exact⟨q.2,rfl,v,h4,h5⟩,fun h=>by cases h⟩
  ·rw[p_ e,p_ e];exact⟨i1,i2⟩
theorem DP.snoc {p:H_}{d:Dt}{b:Addr}{u:Value} (h:pv p/\bQ K G (.ref b) p/\∃ v,RelV v u/\Is K cl G d v):∀ {am:List (H_×Dt)}{xs:List (H_×Addr×Value)},DP K cl G am xs->DP K cl G (am++[(p,d)]) (xs++[(p,b,u)])
 | _,_,.nil=>.cons ⟨rfl,h⟩ .nil
 | _,_,.cons q t=>.cons q (DP.snoc h t)
theorem DP.length:∀ {am:List (H_×Dt)}{xs:List (H_×Addr×Value)},DP K cl G am xs->am.length=xs.length:=fun h=>Z8 h
theorem v0 (I:Inv X pins σ H s) (hw:cl.w=X.w) (sm:ah G H) (d:lY X.K cl G H a am):(a==Yd)=false/\am.length<=sizeLine/\∃ xs,H a=some (pz X.w a xs)/\DP X.K cl G am xs/\Heap.DictOfH (fF X.prog X.w) s.heap a xs:=by
 obtain⟨h1,h2,xs,h3,h4,h5⟩:=d;rw[hw] at h3;have be:aS X.prog X.w H s.heap a (pz X.w a xs):=I.be a _ h3;unfold pz at be;obtain⟨⟨o,es,ep,g1,g2,g3,g4⟩,_,_⟩:=be;refine⟨h1,h2,xs,h3,h5,o,es,ep,g1,g2,g3,g4,fun x hx=>?_,h4⟩;obtain⟨q2,q3⟩:=h5.mem x hx;obtain⟨as,r⟩:=(q3.same sm).reads I (.ref x.2.1) rfl;exact⟨q2,as,r⟩
theorem rW {v:V}{ps:List H_} (h:bQ K H v (.tuple ps)):∃ b,v=.ref b:=by cases h;exact⟨_,rfl⟩
theorem v3 (I:Inv X pins σ H s) {b:Addr}{p:H_} (hk:pv p) (h:bQ X.K H (.ref b) p):(fF X.prog X.w).is s.heap p b:=by
 obtain⟨as,r⟩:=h.reads I (.ref b) rfl;exact⟨hk,as,r⟩
theorem Db {w:World}{P:N_}{H':Hp}{h:Heap} (dd:Heap.DictOfH (fF P w) h a xs):aS P w H' h a (pz w a xs):=by
 obtain⟨o,es,ep,g1,g2,g3,g4,_,_⟩:=dd;refine⟨⟨o,es,ep,g1,g2,g3,g4⟩,⟨o,g1⟩,fun h1 h2 ⟨o,es,ep,q1,q2,q3,q4⟩ k=>⟨o,es,ep,k o q1,q2,q3,q4⟩⟩
theorem Dc {w:World}{P:N_}{H':Hp} (h:Heap):aS P w H' (h.push { cls:=.type "dict",data:=.dict #[] }) h.objs.size (pz w h.objs.size []) :=
 ⟨⟨_,#[],0,v_ _ rfl,⟨rfl,rfl,rfl⟩,rfl,rfl⟩,⟨_,v_ _ rfl⟩,fun h1 h2 ⟨o,es,ep,q1,q2,q3,q4⟩ k=>⟨o,es,ep,k o q1,q2,q3,q4⟩⟩
end
def MA (K:e_) (cl:Cl) (td ty:TE):TE:=fun σ H Q=>td σ H fun x H1=>ty σ H1 fun y H2=>∃ G a am ps d,x=.ref a/\ah G H2/\lY K cl G H2 a am/\pv (.tuple ps)/\bQ K H2 y (.tuple ps)/\fV am (.tuple ps)=some d/\∀ v,Is K cl G d v->Q v H2
def Ej (K:e_) (cl:Cl) (ty td:TE):TE:=fun σ H Q=>ty σ H fun y H1=>td σ H1 fun x H2=>∃ G a am ps,x=.ref a/\ah G H2/\lY K cl G H2 a am/\pv (.tuple ps)/\bQ K H2 y (.tuple ps)/\Q (.bl (fV am (.tuple ps)).isNone) H2
def MB (w:World):TE:=fun _ H Q=>∀ p,(p==Yd)=false->H p=none->Q (.ref p) (upd H p (pz w p []))
def MC (K:e_) (cl:Cl) (td ty tv:TE):TS:=fun D σ H=>tv σ H fun v H1=>td σ H1 fun x H2=>ty σ H2 fun y H3=>∃ G a am ps d xs,x=.ref a/\ah G H3/\lY K cl G H3 a am/\H3 a=some (pz cl.w a xs)/\pv (.tuple ps)/\bQ K G y (.tuple ps)/\fV am (.tuple ps)=none/\am.length<sizeLine/\Is K cl G d v /\
 ∀ u,(∀ H',H' a=some u->lY K cl G H' a (am++[(.tuple ps,d)]))->D.nx σ (upd H3 a u)
section
variable {X:Cx}{cl:Cl}{o i e value:Expr}{pos pos' Kx:Pos}{td ty tv:TE}
theorem Dd (hw:cl.w=X.w):PE X (.Dict [] [] pos) (MB cl.w):=fun pins s σ H Q I h=>by
 rw[hw] at h;exact wpAny_Dict_empty ⟨.ref s.heap.objs.size,_,I.laid (a:=s.heap.objs.size) (o:=pz X.w s.heap.objs.size []) (t':=s.toks) (fun _ _ q=>l_ _ q) (w_ _) (Dc s.heap),rfl,h _ (Xl.mpr (WA (R_ I.big))) (I.be.fresh (w_ _))⟩
theorem De (hw:cl.w=X.w) (hu:X.A.units+66<cLine) (ho:PE X o td) (hi:PE X i ty) (hs:Gh i):PE X (.Subscript o i pos) (MA X.K cl td ty):=by
 intro pins s σ H Q I h;refine CB PySem.F.slot_dict_getitem.lookup hs (bf (ho pins s σ H _ I h) fun u s1 z1=>?_);obtain⟨x,H1,I1,rx,q1⟩:=z1;refine bf (hi pins s1 σ H1 _ I1 q1) fun iv s2 z2=>?_
 obtain⟨y,H2,I2,ry,G,a,am,ps,d,rfl,sm,da,hk,hy,hg,q2⟩:=z2;obtain rfl:u=Wo a:=rx;obtain⟨b,rfl⟩:=rW hy;obtain rfl:iv=Wo b:=ry;obtain⟨z1,z2,xs,z3,z4,dd⟩:=v0 I2 hw sm da;obtain⟨q,e1,v,e2,e3⟩:=(z4.at_ (.tuple ps)).1 d hg;refine⟨dd.typeIs,wpAny_getItem_heap (knd:=fF X.prog X.w) (show X.A.in1.units+64<cLine by show X.A.units+1+64<cLine;lia) (v3 I2 hk hy) dd e1 ?_⟩;exact⟨v,H2,I2.tok _,e2,q2 v e3⟩
theorem xg (hw:cl.w=X.w) (hu:X.A.units+66<cLine) (hi:PE X i ty) (ho:PE X o td):PC X .NotIn i o (Ej X.K cl ty td):=by
 intro pins s σ H Q I h;refine bf (hi pins s σ H _ I h) fun iv s1 z1=>?_
 obtain⟨y,H1,I1,ry,q1⟩:=z1;refine bf (ho pins s1 σ H1 _ I1 q1) fun u s2 z2=>?_
 obtain⟨x,H2,I2,rx,G,a,am,ps,rfl,sm,da,hk,hy,q2⟩:=z2;obtain rfl:u=Wo a:=rx;obtain⟨b,rfl⟩:=rW hy;obtain rfl:iv=Wo b:=ry;obtain⟨z1,z2,xs,z3,z4,dd⟩:=v0 I2 hw sm da;refine wpAny_notIn_heap (knd:=fF X.prog X.w) (show X.A.in1.units+64<cLine by show X.A.units+1+64<cLine;lia) (v3 I2 hk hy) z1 dd ?_
 have e:(!(atKey xs (.tuple ps)).isSome)=(fV am (.tuple ps)).isNone:=by
  obtain⟨i1,i2⟩:=z4.at_ (.tuple ps)
  cases g:fV am (.tuple ps) with
  | none=>rw[i2 g];rfl
  | some d=>obtain⟨q,e1,_⟩:=i1 d g;rw[e1];rfl
 rw[e];exact⟨.bl _,H2,I2.tok _,rfl,q2⟩
theorem Dg (hw:cl.w=X.w) (hu:X.A.units+66<cLine) (ho:PE X o td) (hi:PE X i ty) (hv:PE X value tv) (hs:Xx value (some (.Subscript o i pos')) pos.line X.env=pure false) :
  PS X (.Assign [.Subscript o i pos'] value pos) (MC X.K cl td ty tv):=by
 intro pins s σ H D I h;refine wpAny_Assign_Subscript (bf (hv pins s σ H _ I h) fun r s1 z1=>?_) hs;obtain⟨v,H1,I1,rv,q1⟩:=z1;refine bf (ho pins s1 σ H1 _ I1 q1) fun u s2 z2=>?_
 obtain⟨x,H2,I2,rx,q2⟩:=z2;refine bf (hi pins s2 σ H2 _ I2 q2) fun iv s3 z3=>?_
 obtain⟨y,H3,I3,ry,G,a,am,ps,d,sR,rfl,sm,da,he,hk,hy,hg,hl,hd,q3⟩:=z3;obtain rfl:u=Wo a:=rx;obtain⟨b,rfl⟩:=rW hy;obtain rfl:iv=Wo b:=ry;obtain⟨z1,z2,xs,z3,z4,dd⟩:=v0 I3 hw sm da;have nk:=(z4.at_ (.tuple ps)).2 hg;refine wpAny_setItem_heap (knd:=fF X.prog X.w) (hsz:=by rw[←z4.length];exact z2) (show X.A.in1.units+64<cLine by show X.A.units+1+64<cLine;lia) (v3 I3 hk (hy.same sm)) dd fun h' OG BH=>?_
 have e:storedH xs (.tuple ps) b r=xs++[(.tuple ps,b,r)]:=by unfold storedH;rw[nk];rfl
 rw[e] at OG;refine⟨σ,_,CA I3 (by rw[z3];exact WV) BH (let ⟨q,_,_,hq,_⟩:=OG;⟨q,hq⟩) (Db OG),q3 _ fun H' e'=>?_⟩;obtain⟨_,_,_,_,_,_,_,_,nd⟩:=OG;refine⟨z1,by rw[F_];exact hl,_,by rw[hw];exact e',nd,z4.snoc ⟨hk,hy,v,rv,hd⟩⟩
end
end PV
namespace PV
open PySem L2 SH
section
variable {K:e_}{cl:Cl}{Γ:Gm}{c ca cb cc:C}{σ:St}{G H:Hp}{Q:VK}{X:Cx}{e a b:Expr}{pos p:Pos}
theorem nQ {M:Mem}{d:Dt}{k:Addr->List (H_×Dt)->Prop} (h:GN M d k):∃ q ds,d=.dD q/\M q=some (.md ds)/\k q ds:=by
 cases d with
 | dD q =>
  change (match M q with | some (.md ds)=>k q ds | _=>False) at h
  cases e:M q with
  | none=>rw[e] at h;exact h.elim
  | some m =>
   rw[e] at h
   cases m with
   | ml _=>exact h.elim
   | mo _ _ _=>exact h.elim
   | md ds=>exact⟨q,ds,rfl,e,h⟩
 | _=>exact (show False from h).elim
theorem MD {b:Expr} (h:eR b=true):Gh b:=fun o i=>by
 cases b<;>first | rfl | cases h
theorem ME (hw:cl.w=X.w):PE X (.Dict [] [] pos) (tp X.K cl Γ .GF):=(Dd hw).imp fun σ H Q h=>by
 obtain⟨B,ρ,M,G,R,h1,h2,h3⟩:=h;intro p hs hp;have f2:=aY.cell (o:=pz cl.w p []) (m:=.md []) h1.bT.gh h1.bT.mem hp fun H' e=>⟨hs,Xn _,[],e,List.nodup_nil,.nil⟩
 refine h3 (.dD p) (.ref p) _ _ _ f2 (by unfold Is;rfl) (h2 p ?_)
 cases e:M p with
 | none=>rfl
 | some w=>obtain⟨u,hu⟩:=(h1.bT.mem p w e).2.jK;rw[hp] at hu;cases hu
theorem MF (hw:cl.w=X.w) (hu:X.A.units+66<cLine) (ha:PE X a (tp X.K cl Γ ca)) (hb:PE X b (tp X.K cl Γ cb)) (hs:eR b=true):PE X (.Subscript a b pos) (tp X.K cl Γ (.GJ ca cb)):=(De hw hu ha hb (MD hs)).imp fun σ H Q h=>by
 obtain⟨B,ρ,M,G,R,h1,h2,h3⟩:=h;refine⟨B,ρ,M,G,_,h1,h2,fun x vx M1 G1 H1 f1 i1 hx=>⟨B,ρ,M1,G1,_,h1.on f1,hx,fun y vy M2 G2 H2 f2 i2 hz=>?_⟩⟩;obtain⟨ps,e1,e2,hz⟩:=hz;obtain⟨q,am,rfl,hm,v,hg,hR⟩:=nQ hz;unfold Is at i1;subst i1;exact⟨G2,q,am,ps,v,rfl,f2.gh,(f2.mem q _ hm).2,e2,i2.dat f2.gh e1,hg,fun v' iv=>h3 _ _ M2 G2 H2 (f1.trans f2) iv hR⟩
theorem AB (h:tp K cl Γ (.CS ca cb) σ H Q):Ej K cl (tp K cl Γ ca) (tp K cl Γ cb) σ H Q:=by
 obtain⟨B,ρ,M,G,R,h1,h2,h3⟩:=h;refine⟨B,ρ,M,G,_,h1,h2,fun x vx M1 G1 H1 f1 i1 hx=>⟨B,ρ,M1,G1,_,h1.on f1,hx,fun y vy M2 G2 H2 f2 i2 hz=>?_⟩⟩;obtain⟨ps,e1,e2,hz⟩:=hz;obtain⟨q,am,rfl,hm,hR⟩:=nQ hz;unfold Is at i2;subst i2;exact⟨G2,q,am,ps,rfl,f2.gh,(f2.mem q _ hm).2,e2,(i1.mono f2.g).dat f2.gh e1,h3 _ _ M2 G2 H2 (f1.trans f2) Is.vU hR⟩
theorem MG (hw:cl.w=X.w) (hu:X.A.units+66<cLine) (ha:PE X a (tp X.K cl Γ ca)) (hb:PE X b (tp X.K cl Γ cb)) (hs:fI b=true):PE X (.Compare a [.NotIn] [b] pos) (tp X.K cl Γ (.CS ca cb)):=(y8 (xg hw hu ha hb) (dh hs)).imp fun _ _ _=>AB
theorem MH (hw:cl.w=X.w) (hu:X.A.units+66<cLine) (ha:PE X a (tp X.K cl Γ ca)) (hb:PE X b (tp X.K cl Γ cb)) (hs:fI b=true):PT X (.Compare a [.NotIn] [b] pos) (tt X.K cl Γ (.CS ca cb)):=(y9 (xg hw hu ha hb) (dh hs)).imp fun _ _ _ h=>AB (tX h)
end
end PV
namespace PV
open PySem L2 SH
section
variable (K:e_) (cl:Cl)
structure Lk (ii:Bool) (B:Bs) (G:Hp) (E:xb) (D:Ends):Prop where
 ii:ii=false->B.sf=none
 nx:∀ ρ M σ H G',ah G G'->Rep K cl B ρ M σ H G'->E.nx ρ M->D.nx σ H
 rt:∀ d v ρ M σ H G',Rep K cl B ρ M σ H G'->Is K cl G' d v->E.rt d M->D.rt v H
 bk:∀ ρ M σ H G',ah G G'->Rep K cl B ρ M σ H G'->E.bk ρ M->D.bk σ H
 ct:∀ ρ M σ H G',ah G G'->Rep K cl B ρ M σ H G'->E.ct ρ M->D.ct σ H
 ro:∀ ds us a ρ M σ H G',Rep K cl B ρ M σ H G'->B.H a=none->G' a=none->M a=none->H a=some (.lst us)->IsL K cl G' ds us->E.ro ds M->D.rt (.ref a) H
inductive tS (Γ:Gm) (ii:Bool) (s:S) (D:Ends) (σ:St) (H:Hp):Prop where
 | mk (B:Bs) (ρ:En) (M:Mem) (G:Hp) (E:xb):Rep K cl B ρ M σ H G->ex Γ s ρ M E->Lk K cl ii B G E D->tS Γ ii s D σ H
end
section
variable {K:e_}{cl:Cl}{Γ:Gm}{c ca cb cc:C}{σ:St}{G H:Hp}{D:Ends}{B:Bs}{ρ:En}{M:Mem}{E:xb}{ii:Bool}
theorem Lk.later {G':Hp} (l:Lk K cl ii B G E D) (s:ah G G'):Lk K cl ii B G' E D:=⟨l.ii,fun ρ M σ H G2 s2=>l.nx ρ M σ H G2 (s.trans s2),l.rt,fun ρ M σ H G2 s2=>l.bk ρ M σ H G2 (s.trans s2),fun ρ M σ H G2 s2=>l.ct ρ M σ H G2 (s.trans s2),l.ro⟩
theorem aZ {α:Type}{l:List α}{k i:Nat}{x y:α} (h:(l.set k x)[i]? = some y):(i=k/\y=x/\k<l.length)∨(i≠k/\l[i]? = some y):=by
 by_cases e:i=k
 ·subst e;have hl:i<(l.set i x).length:=(i_.mp h).1;rw[XC] at hl;rw[XF hl] at h;exact .inl ⟨rfl,(K_ h).symm,hl⟩
 ·rw[Yr (WA e)] at h;exact .inr ⟨e,h⟩
theorem nR {α:Type}{l:List α}{k i:Nat}{x:α} (h:i≠k):(l.set k x)[i]? = l[i]? := Yr (WA h)
theorem MI {k:Nat}{x:k_ V} (r:Rep K cl B ρ M σ H G) (hk:k≠0∨B.sf=none):∀ a,B.sf=some a->(σ.set k x)[(0:Nat)]? = some (some (.ref a)):=fun a e=>by
 rcases hk with hk | hk
 ·rw[nR (WA hk)];exact r.s0 a e
 ·rw[hk] at e;cases e
theorem Lk.k {k:Nat} (l:Lk K cl ii B G E D) (h:ii=true->k≠0):k≠0∨B.sf=none:=by
 cases ii with
 | true=>exact .inl (h rfl)
 | false=>exact .inr (l.ii rfl)
theorem Rep.yG {k:Nat}{d:Dt}{v:V} (r:Rep K cl B ρ M σ H G) (qK:k≠0∨B.sf=none) (i:Is K cl G d v):Rep K cl B (ρ.set k (.sh d)) M (σ.set k (some v)) H G:=by
 obtain⟨oa,h1,h2⟩:=r.ow;refine⟨r.bT,by rw[XC,XC];exact r.len,MI r qK,fun j e hj=>?_,oa,fun j e hj=>?_,fun j l e e' hj hl=>?_⟩
 ·rcases aZ hj with ⟨rfl,he,hk⟩ | ⟨hn,hj⟩
  ·cases he;exact⟨v,XF (by rw[←r.len];exact hk),i⟩
  ·rw[nR hn];exact r.sh j e hj
 ·rcases aZ hj with ⟨rfl,he,hk⟩ | ⟨hn,hj⟩
  ·cases he
  ·rw[nR hn];exact h1 j e hj
 ·rcases aZ hj with ⟨rfl,he,hk⟩ | ⟨hn,hj⟩
  ·cases he
  ·rcases aZ hl with ⟨rfl,he,hk⟩ | ⟨BD,hl⟩
   ·cases he
   ·exact h2 j l e e' hj hl
theorem Rep.MJ {k:Nat}{d:Dt}{a:Addr}{H' G':Hp}{M':Mem}{H0:Hp} (r:Rep K cl B ρ M σ H0 G) (qK:k≠0∨B.sf=none) (f:aY K cl none G H0 M G' H' M') (ha:H0 a=none) (ga:G' a=none) (ma:M' a=none) {o:MO} (ho:Gz d=some o) (hc:b7 K cl G' H' a o) :
  Rep K cl B (ρ.set k (.ow d)) M' (σ.set k (some (.ref a))) H' G':=by
 have r':=r.on f;obtain⟨oa,h1,h2⟩:=r.ow
 have fr:∀ j e,ρ[j]? = some (Sl.ow e)->oa j≠a:=fun j e hj z=>by
  obtain⟨_,_,_,_,o,_,hc⟩:=h1 j e hj;obtain⟨u,hu⟩:=hc.jK;rw[z,ha] at hu;cases hu
 have ba:B.H a=none:=bF r.bT.jK ha;refine⟨r'.bT,by rw[XC,XC];exact r.len,MI r qK,fun j e hj=>?_,fun j=>if j=k then a else oa j,fun j e hj=>?_,fun j l e e' hj hl q=>?_⟩
 ·rcases aZ hj with ⟨rfl,he,hk⟩ | ⟨hn,hj⟩
  ·cases he
  ·rw[nR hn];exact r'.sh j e hj
 ·rcases aZ hj with ⟨rfl,he,hk⟩ | ⟨hn,hj⟩
  ·cases he
   dsimp only;rw[u_ rfl];exact⟨XF (by rw[←r.len];exact hk),ga,ma,.inl ba,o,ho,hc⟩
  ·dsimp only;rw[p_ hn,nR hn];exact⟨(h1 j e hj).1,(h1 j e hj).2.bT f⟩
 ·rcases aZ hj with ⟨rfl,he,hk⟩ | ⟨hn,Ld⟩
  ·rcases aZ hl with ⟨rfl,UM,JQ⟩ | ⟨BD,FV⟩
   ·rfl
   ·dsimp only at q;rw[u_ rfl,p_ BD] at q;exact absurd q.symm (fr l e' FV)
  ·rcases aZ hl with ⟨rfl,UM,JQ⟩ | ⟨BD,FV⟩
   ·dsimp only at q;rw[p_ hn,u_ rfl] at q;exact absurd q (fr j e Ld)
   ·dsimp only at q;rw[p_ hn,p_ BD] at q;exact h2 j l e e' Ld FV q
theorem Rep.chg {k:Nat}{d d':Dt}{o':MO}{u:HO} (r:Rep K cl B ρ M σ H G) (hk:ρ[k]? = some (.ow d)):∃ a o,σ[k]? = some (some (.ref a))/\Gz d=some o/\b7 K cl G H a o/\M a=none/\G a=none /\
  (Gz d'=some o'->(∀ H',H' a=some u->b7 K cl G H' a o')->Rep K cl B (ρ.set k (.ow d')) M σ (upd H a u) G):=by
 obtain⟨oa,h1,h2⟩:=r.ow;obtain⟨e1,ga,ma,ba,o,ho,hc⟩:=h1 k d hk;refine⟨oa k,o,e1,ho,hc,ma,ga,fun kX E6=>?_⟩;obtain⟨w,hw⟩:=hc.jK;have ne:∀ b v,H b=some v->b≠oa k->(upd H (oa k) u) b=some v:=fun b v hb hn=>by rw[aw hn];exact hb
 have gn:∀ b v,G b=some v->b≠oa k:=fun b v hb z=>by rw[z,ga] at hb;cases hb
 have mn:∀ b v,M b=some v->b≠oa k:=fun b v hb z=>by rw[z,ma] at hb;cases hb
 refine⟨⟨r.bT.g,fun b v hb=>ne b v (r.bT.gh b v hb) (gn b v hb),fun b v hb=>?_,r.bT.gf,fun b v hb hm hs=>ne b v (r.bT.h b v hb hm hs) fun z=>?_,fun b v hb=>⟨(r.bT.mem b v hb).1,(r.bT.mem b v hb).2.mono (ah.refl G) fun x hx=>ne b x hx (mn b v hb)⟩,r.bT.mf,r.bT.ke⟩,
  by rw[XC];exact r.len,r.s0,fun j e hj=>?_,oa,fun j e hj=>?_,fun j l e e' hj hl=>?_⟩
 ·obtain⟨v',hv⟩:=r.bT.jK b v hb;by_cases z:b=oa k
  ·rw[z];exact⟨u,az⟩
  ·exact⟨v',ne b v' hv z⟩
 ·subst z;rcases ba with ba | ⟨ba,_⟩
  ·rw[ba] at hb;cases hb
  ·exact hs ba
 ·rcases aZ hj with ⟨rfl,he,_⟩ | ⟨hn,hj⟩
  ·cases he
  ·exact r.sh j e hj
 ·rcases aZ hj with ⟨rfl,he,_⟩ | ⟨hn,hj⟩
  ·cases he
   exact⟨e1,ga,ma,ba,o',kX,E6 _ az⟩
  ·obtain⟨q1,q2,q3,q4,o2,q5,q6⟩:=h1 j e hj;exact⟨q1,q2,q3,q4,o2,q5,q6.mono (ah.refl G) fun x hx=>ne _ x hx fun z=>hn (h2 j k e d hj hk z)⟩
 ·have back:∀ {j:Nat}{e:Dt},(ρ.set k (.ow d'))[j]? = some (Sl.ow e)->∃ e0,ρ[j]? = some (Sl.ow e0):=fun {j e} hj=>by
   rcases aZ hj with ⟨rfl,_,_⟩ | ⟨_,hj⟩
   ·exact⟨d,hk⟩
   ·exact⟨e,hj⟩
  obtain⟨e0,QQ⟩:=back hj;obtain⟨l0,QR⟩:=back hl;exact h2 j l e0 l0 QQ QR
theorem Rep.dS {k:Nat}{d:Dt} (r:Rep K cl B ρ M σ H G) (hk:ρ[k]? = some (.ow d)) (h0:k≠0):∃ G',ah G G'/\Rep K cl B (ρ.set k (.sh d)) M σ H G':=by
 obtain⟨oa,h1,h2⟩:=r.ow;obtain⟨e1,ga,ma,ba,o,ho,hc⟩:=h1 k d hk;obtain⟨w,hw⟩:=hc.jK;have bn:B.H (oa k)=none:=ba.elim id fun z=>absurd z.2 h0
 have sm:ah G (upd G (oa k) w):=ah.put ga
 have is:Is K cl (upd G (oa k) w) d (.ref (oa k)):=by
  cases d<;>first | (cases ho;done) | skip
  ·cases ho
   obtain⟨vs,q1,q2⟩:=hc;rw[hw] at q1;cases q1;unfold Is;exact⟨_,vs,rfl,az,q2.mono sm⟩
  ·cases ho
   obtain⟨dx,vs,q1,q2,q3⟩:=hc;rw[hw] at q1;cases q1;unfold Is;exact⟨_,dx,vs,rfl,az,q2,q3.mono sm⟩
 refine⟨upd G (oa k) w,sm,r.bT.Mt bn ga ma hw,by rw[XC];exact r.len,r.s0,fun j e hj=>?_,oa,fun j e hj=>?_,fun j l e e' hj hl=>?_⟩
 ·rcases aZ hj with ⟨rfl,he,_⟩ | ⟨hn,hj⟩
  ·cases he;exact⟨_,e1,is⟩
  ·obtain⟨v,q1,q2⟩:=r.sh j e hj;exact⟨v,q1,q2.mono sm⟩
 ·rcases aZ hj with ⟨rfl,he,_⟩ | ⟨hn,hj⟩
  ·cases he
  ·obtain⟨q1,q2,q3,q4,o2,q5,q6⟩:=h1 j e hj;exact⟨q1,by rw[aw fun z=>hn (h2 j k e d hj hk z)];exact q2,q3,q4,o2,q5,q6.mono sm fun x hx=>hx⟩
 ·rcases aZ hj with ⟨rfl,he,_⟩ | ⟨_,hj⟩
  ·cases he
  ·rcases aZ hl with ⟨rfl,he,_⟩ | ⟨_,hl⟩
   ·cases he
   ·exact h2 j l e e' hj hl
theorem dM {k:Nat}{q:Dt->Prop} (h:b8 ρ k q):∃ d,ρ[k]? = some (.ow d)/\q d:=by
 unfold b8 at h;split at h
 ·exact⟨_,by assumption,h⟩
 ·exact h.elim
theorem yH {k:Nat}{q:Dt->Prop} (h:mC ρ k q):∃ d,ρ[k]? = some (.sh d)/\q d:=by
 unfold mC at h;split at h
 ·exact⟨_,by assumption,h⟩
 ·exact h.elim
end
end PV
namespace PV
open PySem L2 SH
section
variable {K:e_}{cl:Cl}{Γ:Gm}{c ca cb cc:C}{σ:St}{G H:Hp}{D:Ends}{X:Cx}{st:Stmt}{bC:List Stmt}{sa sb:S}{e a b o tg:Expr}{es:List Expr}{pos p p' apos:Pos}{n:Nat}{fns jN cls mW:List Str}{mX:List Nat}{ii:Bool}
theorem Hm:kY X [] (tS X.K cl Γ ii .skip):=B4.imp fun D σ H h=>by
 obtain⟨B,ρ,M,G,E,h1,h2,h3⟩:=h;exact h3.nx ρ M σ H G (ah.refl G) h1 h2
theorem MK (ha:PS X st (tS X.K cl Γ ii sa)) (hb:kY X bC (tS X.K cl Γ ii sb)):kY X (st::bC) (tS X.K cl Γ ii (.seq sa sb)):=(zc ha hb).imp fun D σ H h=>by
 obtain⟨B,ρ,M,G,E,h1,h2,h3⟩:=h;exact⟨B,ρ,M,G,_,h1,h2,⟨h3.ii,fun ρ' M' σ' H' G' s r q=>⟨B,ρ',M',G',E,r,q,h3.later s⟩,h3.rt,h3.bk,h3.ct,h3.ro⟩⟩
theorem ML {k:Nat} (hk:k≠0) (hb:kY X bC (tS X.K cl Γ ii sb)):kY X bC (tS X.K cl Γ ii (.seq (.dS k) sb)):=hb.imp fun D σ H h=>by
 obtain⟨B,ρ,M,G,E,h1,h2,h3⟩:=h;obtain⟨d,e,q⟩:=dM (show b8 ρ k _ from h2);obtain⟨G',s,r⟩:=h1.dS e hk;exact⟨B,_,M,G',E,r,q,h3.later s⟩
theorem Ek {k:Nat}{x:Str} (hN:X.N.Nodup) (hi:X.N[k]? = some x) (hx:Loc X.env.scope x) (hf:X.fn x=true) (qK:ii=true->k≠0) (hs:Xx e (some (.Name x p')) pos.line X.env=pure false) (he:PE X e (tp X.K cl Γ c)):PS X (.Assign [.Name x p'] e pos) (tS X.K cl Γ ii (.set k c)) :=
 (vd hN hi hx he hs (.inl hf)).imp fun D σ H h=>by
  obtain⟨B,ρ,M,G,E,h1,h2,h3⟩:=h;exact⟨B,ρ,M,G,_,h1,h2,fun d v M' G' H' f i q=>h3.nx _ M' _ H' G' f.g ((h1.on f).yG (h3.k qK) i) q⟩
theorem xh {k:Nat} (qK:ii=true->k≠0) (h:tS K cl Γ ii (.d5 k c) D σ H):tf K cl Γ c σ H fun v H1=>D.nx (σ.set k (some v)) H1:=by
 obtain⟨B,ρ,M,G,E,h1,h2,h3⟩:=h;refine⟨B,ρ,M,G,_,h1,h2,fun ds vs M' G' H' p f hp i q=>h3.nx _ M' _ _ G' f.g ?_ q⟩;have up:ah H' (upd H' p (.lst vs)):=ah.put hp;have f2:aY K cl none G' H' M' G' (upd H' p (.lst vs)) M':=⟨ah.refl _,f.gh.trans up,fun a u h=>⟨u,up a u h⟩,fun a u h n=>absurd h (by rw[n];exact fun z=>nomatch z),fun a u h _ _=>up a u h,fun a u h=>⟨(f.mem a u h).1,(f.mem a u h).2.mono (ah.refl _) fun x hx=>up a x hx⟩,fun a u h n=>absurd h (by rw[n];exact fun z=>nomatch z),fun a u h=>⟨u,h,rfl⟩⟩;exact (h1.on f).MJ (h3.k qK) f2 hp (vV f.gh hp) (ua f.mem hp) (o:=.ml ds) rfl ⟨vs,az,i⟩
theorem AC {k:Nat}{x:Str} (hN:X.N.Nodup) (hi:X.N[k]? = some x) (hx:Loc X.env.scope x) (hf:X.fn x=true) (qK:ii=true->k≠0) (hs:Xx e (some (.Name x p')) pos.line X.env=pure false) (he:PE X e (tf X.K cl Γ c)):PS X (.Assign [.Name x p'] e pos) (tS X.K cl Γ ii (.d5 k c)) :=
 (vd hN hi hx he hs (.inl hf)).imp fun D σ H h=>xh qK h
theorem Hn {k q:Nat}{x:Str} (hN:X.N.Nodup) (hi:X.N[k]? = some x) (hx:Loc X.env.scope x) (hf:X.fn x=true) (qK:ii=true->k≠0) (hs:Xx e (some (.Name x p')) pos.line X.env=pure false) (he:PE X e (OE X.K cl Γ q c)):PS X (.Assign [.Name x p'] e pos) (tS X.K cl Γ ii (.yx k q c)) :=
 (vd hN hi hx he hs (.inl hf)).imp fun D σ H h=>by
  obtain⟨B,ρ,M,G,E,h1,h2,h3⟩:=h;exact⟨B,ρ,M,G,_,h1,h2,fun fs xs us M2 G2 H2 y dx hR f hy gy my ey l i=>h3.nx _ M2 _ _ G2 f.g (h1.MJ (h3.k qK) f hy gy my (d:=.obj q fs xs) (o:=.mo q fs xs) rfl ⟨dx,us,ey,l,i⟩) hR⟩
theorem QS (hs:Xx e none pos.line X.env=pure false) (he:PE X e (tp X.K cl Γ c)):PS X (.Expr e pos) (tS X.K cl Γ ii (.ex c)):=(iP he hs).imp fun D σ H h=>by
 obtain⟨B,ρ,M,G,E,h1,h2,h3⟩:=h;exact⟨B,ρ,M,G,_,h1,h2,fun d v M' G' H' f i q=>h3.nx _ M' _ H' G' f.g (h1.on f) q⟩
theorem MM (he:PE X e (tp X.K cl Γ c)):PS X (.Return (some e) pos) (tS X.K cl Γ ii (.ret c)):=(Fg he).imp fun D σ H h=>by
 obtain⟨B,ρ,M,G,E,h1,h2,h3⟩:=h;exact⟨B,ρ,M,G,_,h1,h2,fun d v M' G' H' f i q=>h3.rt d v ρ M' σ H' G' (h1.on f) i q⟩
theorem Ho:PS X (.Pass pos) (tS X.K cl Γ ii .skip):=B5.imp fun D σ H h=>by
 obtain⟨B,ρ,M,G,E,h1,h2,h3⟩:=h;exact h3.nx ρ M σ H G (ah.refl G) h1 h2
theorem Dh:PS X st (tS X.K cl Γ ii .never):=zd.imp fun D σ H h=>by
 obtain⟨B,ρ,M,G,E,h1,h2,h3⟩:=h;exact h2
theorem MN {t:Expr}{ba bb:List Stmt} (ht:PT X t (tt X.K cl Γ c)) (ha:kY X ba (tS X.K cl Γ ii sa)) (hb:kY X bb (tS X.K cl Γ ii sb)):PS X (.If t ba bb pos) (tS X.K cl Γ ii (.ite c sa sb)):=(Ki ht ha hb).imp fun D σ H h=>by
 obtain⟨B,ρ,M,G,E,h1,h2,h3⟩:=h;refine⟨B,ρ,M,G,fun c M1=>if c=true then ex Γ sa ρ M1 E else ex Γ sb ρ M1 E,h1,h2,fun c M1 G1 H1 f hk=>?_⟩
 cases c with
 | true=>rw[u_ rfl] at hk ⊢;exact⟨B,ρ,M1,G1,E,h1.on f,hk,h3.later f.g⟩
 | false=>rw[p_ s_] at hk ⊢;exact⟨B,ρ,M1,G1,E,h1.on f,hk,h3.later f.g⟩
theorem MP {t:Expr}{bd:List Stmt} (hp:aah (model X.prog X.w) X.A X.env X.xe) (ht:PT X t (tt X.K cl Γ c)) (hb:kY X bd (tS X.K cl Γ ii sb)):PS X (.While t bd [] pos) (tS X.K cl Γ ii (.JW c sb)):=(zg hp ht hb).imp fun D σ H h=>by
 obtain⟨B,ρ,M,G,E,h1,h2,h3⟩:=h;obtain⟨W,⟨m0,w0⟩,turn⟩:=h2;refine⟨fun m σ' H'=>∃ ρ' M' G',ah G G'/\Rep X.K cl B ρ' M' σ' H' G'/\W m ρ' M',⟨m0,ρ,M,G,ah.refl G,h1,w0⟩,?_⟩;rintro m σ' H' ⟨ρ',M',G',s,r,w⟩;refine⟨B,ρ',M',G',_,r,turn m ρ' M' w,fun c M1 G1 H1 f hk=>?_⟩
 cases c with
 | false=>rw[p_ s_] at hk ⊢;exact h3.nx _ _ _ _ G1 (s.trans f.g) (r.on f) hk
 | true =>
  rw[u_ rfl] at hk ⊢;refine⟨fun σ2 H2=>∃ m',m'<m/\∃ ρ2 M2 G2,ah G G2/\Rep X.K cl B ρ2 M2 σ2 H2 G2/\W m' ρ2 M2,fun σ2 H2 z=>z,B,ρ',M1,G1,_,r.on f,hk,⟨h3.ii,?_,h3.rt,?_,?_,h3.ro⟩⟩
  ·rintro ρ2 M2 σ2 H2 G2 s2 r2 ⟨m',hm,w2⟩;exact⟨m',hm,ρ2,M2,G2,(s.trans f.g).trans s2,r2,w2⟩
  ·intro ρ2 M2 σ2 H2 G2 s2 r2 q;exact h3.nx _ _ _ _ G2 ((s.trans f.g).trans s2) r2 q
  ·rintro ρ2 M2 σ2 H2 G2 s2 r2 ⟨m',hm,w2⟩;exact⟨m',hm,ρ2,M2,G2,(s.trans f.g).trans s2,r2,w2⟩
def yI (K:e_) (cl:Cl) (ii:Bool) (tg:List Nat) (g:TG):Prop:=∀ {B:Bs}{ρ:En}{M:Mem}{σ:St}{H G:Hp}{d:Dt}{x:V}{k:En->Prop}{R:St->Hp->Prop},(ii=false->B.sf=none)->Rep K cl B ρ M σ H G->Is K cl G d x->fG ρ tg d k->(∀ ρ' σ',Rep K cl B ρ' M σ' H G->k ρ'->R σ' H)->g x σ H R
theorem k_of {B:Bs}{i:Nat} (hi:ii=true->i≠0) (h:ii=false->B.sf=none):i≠0∨B.sf=none:=by
 cases ii with
 | true=>exact .inl (hi rfl)
 | false=>exact .inr (h rfl)
theorem Hq {i:Nat} (hi:ii=true->i≠0):yI K cl ii [i] (dU i):=fun {B ρ M σ H G d x k R} hb r is h q=>q _ _ (r.yG (k_of hi hb) is) h
theorem Hr {i j:Nat} (hi:ii=true->i≠0) (hj:ii=true->j≠0):yI K cl ii [i,j] (zf K 2 (jT (dU i) (jT (dU j) ze))):=fun {B ρ M σ H G d x k R} hb r is h q=>by
 cases d with
 | tup ds =>
  match ds,h with
  | [d1,d2],h =>
   unfold Is at is;obtain⟨t,vs,rfl,h1,h2⟩:=is;have l2:=h2.length
   match vs,l2 with
   | [v1,v2],_ =>
    unfold IsL at h2;obtain⟨u1,r1,e1,g1,h2⟩:=h2;cases e1;unfold IsL at h2;obtain⟨u2,r2,e2,g2,h2⟩:=h2;cases e2;exact⟨t,[v1,v2],rfl,eD.of (r.bT.gh _ _ h1),rfl,v1,[v2],rfl,v2,[],rfl,rfl,q _ _ ((r.yG (k_of hi hb) g1).yG (k_of hj hb) g2) h⟩
 | _=>exact (show False from h).elim
def QT (J:It) (g:TG) (tb:TS) (D:Ends) (σ:St) (H:Hp):Prop:=∃ W:Nat->Nat->St->Hp->Prop,(∃ m,W 0 m σ H)/\∀ i m σ H,W i m σ H ->
 (J.stop i H/\D.nx σ H)∨(J.go i H/\∃ N:St->Hp->Prop,(∀ σ' H',N σ' H'->∃ m',m'<m/\W (i+1) m' σ' H')/\∀ x H',J.DV i H x H'->g x σ H' fun σ2 H2=>tb { D with nx:=N,ct:=N,bk:=D.nx } σ2 H2)
theorem xi {yJ:List Nat}{g:TG}{B:Bs}{ρ:En}{M M':Mem}{E E0:xb}{G' H':Hp}{J:It}{items:List Dt}{P:Mem->Prop} (MQ:yI K cl ii yJ g) (h1:Rep K cl B ρ M σ H G) (h3:Lk K cl ii B G E0 D) (f:aY K cl none G H M G' H' M') (ok:QA K cl J items P G')
  (hE:E={ E0 with nx:=fun ρ M=>P M/\E0.nx ρ M }) (hl:dE (fun x ρ M E=>P M/\fG ρ yJ x fun ρ'=>ex Γ sb ρ' M E) E items ρ M'):QT J g (tS K cl Γ ii sb) D σ H':=by
 refine⟨fun i m σ' Hc=>∃ ρc Mc Gc,m=items.length-i/\i<=items.length/\ah G' Gc/\Rep K cl B ρc Mc σ' Hc Gc/\dE (fun x ρ M E=>P M/\fG ρ yJ x fun ρ'=>ex Γ sb ρ' M E) E (items.drop i) ρc Mc,⟨items.length,ρ,M',G',by lia,Xn _,ah.refl _,h1.on f,hl⟩,?_⟩;rintro i m σ' Hc ⟨ρc,Mc,Gc,rfl,hi,s,r,hl⟩;by_cases i9:i<items.length
 ·obtain⟨d,ed⟩:∃ d,items[i]? = some d:=⟨_,c_ i9⟩
  have QM:items.drop i=d::items.drop (i+1):=by
   rw[Xo i9];congr 1;have:=c_ i9;rw[this] at ed;exact K_ ed
  rw[QM] at hl;obtain⟨hP,SD⟩:P Mc/\fG ρc yJ d (fun ρ'=>ex Γ sb ρ' Mc { E with nx:=dE (fun x ρ M E=>P M/\fG ρ yJ x fun ρ'=>ex Γ sb ρ' M E) E (items.drop (i+1)),ct:=dE (fun x ρ M E=>P M/\fG ρ yJ x fun ρ'=>ex Γ sb ρ' M E) E (items.drop (i+1)),bk:=E.nx }):=hl;obtain⟨Mw,_⟩:=ok i Gc Hc Mc s r.bT.gh r.bT.mem hP;refine .inr ⟨(Mw i9).1,fun σ2 H2=>∃ ρ2 M2 G2,ah G' G2/\Rep K cl B ρ2 M2 σ2 H2 G2/\dE (fun x ρ M E=>P M/\fG ρ yJ x fun ρ'=>ex Γ sb ρ' M E) E (items.drop (i+1)) ρ2 M2,fun σ2 H2 z=>?_,fun x Hx hy=>?_⟩
  ·obtain⟨ρ2,M2,G2,s2,r2,l2⟩:=z;exact⟨items.length-(i+1),by lia,ρ2,M2,G2,rfl,i9,s2,r2,l2⟩
  obtain⟨d',Gx,Mx,QO,fx⟩:=(Mw i9).2 x Hx hy;rw[ed] at Mx;cases Mx;subst hE;refine MQ h3.ii (r.on fx) QO SD fun ρ' σ2 r2 hk=>⟨B,ρ',Mc,Gx,_,r2,hk,⟨h3.ii,?_,h3.rt,?_,?_,h3.ro⟩⟩
  ·intro ρ3 M3 σ3 H3 G3 s3 r3 q;exact⟨ρ3,M3,G3,(s.trans fx.g).trans s3,r3,q⟩
  ·intro ρ3 M3 σ3 H3 G3 s3 r3 q;exact h3.nx _ _ _ _ G3 (f.g.trans ((s.trans fx.g).trans s3)) r3 q.2
  ·intro ρ3 M3 σ3 H3 G3 s3 r3 q;exact⟨ρ3,M3,G3,(s.trans fx.g).trans s3,r3,q⟩
 ·have e:i=items.length:=by lia
  subst e;rw[ach] at hl;subst hE;obtain⟨hP,hl⟩:P Mc/\E0.nx ρc Mc:=hl;exact .inl ⟨(ok _ Gc Hc Mc s r.bT.gh r.bT.mem hP).2 rfl,h3.nx _ _ _ _ Gc (f.g.trans s) r hl⟩
theorem Hs {iter:Expr}{bd:List Stmt}{yJ:List Nat}{g:TG} (hp:aah (model X.prog X.w) X.A X.env X.xe) (hc:X.calm=true) (hi:PI X tg iter (Af X.K cl Γ c)) (hg:PG X tg g) (MQ:yI X.K cl ii yJ g) (hb:kY X bd (tS X.K cl Γ ii sb))
  (hs:∀ x,Xe iter X.env x=pure x):PS X (.For tg iter bd [] pos) (tS X.K cl Γ ii (.bM c yJ sb)):=(zh hp hc hi hg hb hs).imp fun D σ H h=>by
 obtain⟨B,ρ,M,G,E,h1,h2,h3⟩:=h;refine⟨B,ρ,M,G,_,h1,h2,fun items M' G' H' J f ok hl=>xi (P:=fun _=>True) (E0:=E) MQ h1 h3 f (fun i G' H M s1 s2 m _=>ok i G' H M s1 s2 m) rfl ?_⟩;simp only[true_and];exact hl
theorem Ht {iter:Expr}{bd:List Stmt}{yJ:List Nat}{g:TG} (hp:aah (model X.prog X.w) X.A X.env X.xe) (hc:X.calm=true) (hi:PE X iter (tp X.K cl Γ c)) (hg:PG X tg g) (MQ:yI X.K cl ii yJ g) (hb:kY X bd (tS X.K cl Γ ii sb))
  (hs:∀ x,Xe iter X.env x=pure x):PS X (.For tg iter bd [] pos) (tS X.K cl Γ ii (.vR c yJ sb)):=(zh hp hc (wK hi) hg hb hs).imp fun D σ H h=>by
 obtain⟨B,ρ,M,G,E,h1,h2,h3⟩:=h;refine⟨B,ρ,M,G,_,h1,h2,fun d v M' G' H' bT i hh=>?_⟩
 cases d with
 | dD p =>
  change (match M' p with | some (.ml ds)=>_ | _=>False) at hh
  cases e:M' p with
  | none=>rw[e] at hh;exact hh.elim
  | some o =>
   rw[e] at hh
   cases o with
   | ml items =>
    unfold Is at i;obtain⟨vs,hv,_⟩:=(bT.mem p _ e).2;exact⟨p,i,⟨vs,cr.of hv⟩,xi (E0:=E) MQ h1 h3 bT Aw rfl hh⟩
   | _=>exact hh.elim
 | _=>exact (show False from hh).elim
theorem MR {k:Nat}{x:Str}{op:qI} (UN:op=.add∨op=.sub) (hN:X.N.Nodup) (hi:X.N[k]? = some x) (hx:Loc X.env.scope x) (hf:X.fn x=true) (qK:ii=true->k≠0) (he:PE X e (tp X.K cl Γ c)):PS X (.AugAssign (.Name x p') (GO op) e pos) (tS X.K cl Γ ii (.aug k op c)):=by
 have main:∀ {g:Int->Int->Int},Og X (GO op) (Pj g)->(∀ i j (R:Dt->Prop),yA op (.int i) (.int j) R=R (.int (g i j)))->PS X (.AugAssign (.Name x p') (GO op) e pos) (tS X.K cl Γ ii (.aug k op c)):=fun {g} hp hg =>
  (Fk hN hi hx he hp (.inl hf)).imp fun D σ H h=>by
   obtain⟨B,ρ,M,G,E,h1,h2,h3⟩:=h;obtain⟨d,e1,q⟩:=yH (show mC ρ k _ from h2);obtain⟨v,e2,i1⟩:=h1.sh k d e1;refine⟨v,e2,B,ρ,M,G,_,h1,q,fun y vy M' G' H' f i hk=>?_⟩;obtain⟨i0,rfl,UO⟩:=nN (show vb d _ from hk);obtain⟨j0,rfl,_⟩:=nN UO;change yA op (.int i0) (.int j0) (fun d=>E.nx (ρ.set k (.sh d)) M') at hk;rw[hg] at hk;unfold Is at i i1;subst i i1;exact⟨i0,j0,rfl,rfl,h3.nx _ M' _ H' G' f.g ((h1.on f).yG (h3.k qK) (by unfold Is;rfl)) hk⟩
 rcases UN with rfl | rfl
 ·exact main Fl fun _ _ _=>rfl
 ·exact main Fm fun _ _ _=>rfl
noncomputable def Di (f:Str) (v:V):List Str->List V->List V
 | [],_=>[v]
 | _::_,[]=>[v]
 | g::fs,u::us=>if g=f then v::us else u::Di f v fs us
theorem xj {f:Str}{d:Dt}{v:V}:∀ {fs:List Str}{xs:List Dt}{us:List V},fs.length=xs.length->IsL K cl G xs us->Is K cl G d v->fO f v (fs.zip us)=(putD f d fs xs).1.zip (Di f v fs us)/\(putD f d fs xs).1.length=(putD f d fs xs).2.length/\IsL K cl G (putD f d fs xs).2 (Di f v fs us)
 | [],[],us,_,h,i=>by unfold IsL at h;subst h;exact⟨rfl,rfl,IsL.cons i IsL.nil⟩
 | [],_::_,_,h,_,_=>by cases h
 | _::_,[],_,h,_,_=>by cases h
 | g::fs,x::xs,us,l,h,i=>by
  unfold IsL at h;obtain⟨u,r,rfl,h1,h2⟩:=h;unfold putD Di;rw[XS];unfold fO;by_cases e:g=f
  ·rw[u_ e,u_ e,u_ e];exact⟨rfl,l,IsL.cons i h2⟩
  ·rw[p_ e,p_ e,p_ e];obtain⟨q1,q2,q3⟩:=xj (f:=f) (by simpa using l) h2 i;exact⟨by rw[q1];rfl,by simpa using q2,IsL.cons h1 q3⟩
theorem lq {d:Dt}{k:Nat->List Str->List Dt->Prop} (h:pB d k):∃ n fs xs,d=.obj n fs xs/\k n fs xs:=by
 cases d with
 | obj n fs xs=>exact⟨n,fs,xs,rfl,h⟩
 | _=>exact (show False from h).elim
theorem Hu {k:Nat}{x f:Str}{px:Pos} (F:∀ n f,Γ.at_ n f=true->sZ X.K (cl n)/\dW X.K (cl n) f) (hN:X.N[k]? = some x) (hv:yW X.env.scope x) (hd:(x==("__debug__" : Str))=false) (jS:(x==("__classdict__" : Str))=false) (hs:Xx e (some (.Attribute (.Name x px) f p')) pos.line X.env=pure false) (he:PE X e (tp X.K cl Γ c)) :
  PS X (.Assign [.Attribute (.Name x px) f p'] e pos) (tS X.K cl Γ ii (.eF k f c)):=(FI (kZ hN hv hd jS) he hs).imp fun D σ H h=>by
 obtain⟨B,ρ,M,G,E,h1,h2,h3⟩:=h;refine⟨B,ρ,M,G,_,h1,h2,fun d v M' G' H' f i hk=>?_⟩;obtain⟨dd,e1,AA⟩:=dM hk;obtain⟨n,fs,xs,rfl,g1,g2,g3⟩:=lq AA;have r:=h1.on f;obtain⟨oa,o1,_⟩:=r.ow;obtain⟨s1,_,_,_,o,ho,hc⟩:=o1 k _ e1
 cases ho
 obtain⟨dx,us,s2,s3,s4⟩:=hc;obtain⟨z1,z2,z3⟩:=xj s3 s4 i;refine⟨_,s1,oa k,_,dx,_,rfl,s2,(F n _ g1).1,(F n _ g1).2,?_,?_⟩
 ·rw[aaO];lia
 ·obtain⟨a,o,t1,t2,t3,_,_,t4⟩:=r.chg (d':=.obj n (putD _ d fs xs).1 (putD _ d fs xs).2) (o':=.mo n (putD _ d fs xs).1 (putD _ d fs xs).2) (u:=.ins (cl n) dx (fO _ v (fs.zip us))) e1;have ea:oa k=a:=by rw[s1] at t1;cases t1;rfl
  rw[ea];exact h3.nx _ M' σ _ G' f.g (t4 rfl fun H2 e2=>⟨dx,_,by rw[e2,z1],z2,z3⟩) g3
theorem Hv (hs:noStar b=true):((XO pos (T_ [b] X.env)).all (fun x => !x.1)&&(ZW pos (Yt [] X.env)).all (fun x=>x.1.isSome)&&decide (([b]:List Expr).length+([]:List Zq).length+(if ([]:List Zq).isEmpty then 0 else 1)<30))=true:=by
 rw[kf (by simp [hs])];rfl
theorem AE {k:Nat}{ds:List Dt}{B:Bs}{ρ:En}{M:Mem}{E:xb} (h1:Rep K cl B ρ M σ H G) (e1:ρ[k]? = some (.ow (.lst ds))):∃ a,σ[k]? = some (some (.ref a))/\Oo K "list" (.ref a) H/\∀ {M':Mem}{G' H':Hp} (f:aY K cl none G H M G' H' M') {es:List Dt}{us:List V},IsL K cl G' es us ->
  ∃ vs,H' a=some (.lst vs)/\vs.length=ds.length/\Rep K cl B (ρ.set k (.ow (.lst (ds++es)))) M' σ (upd H' a (.lst (vs++us))) G':=by
 obtain⟨oa,o1,_⟩:=h1.ow;obtain⟨s1,q1,q2,q3,o,ho,hc⟩:=o1 k _ e1
 cases ho
 obtain⟨OH,s2,s3⟩:=hc;refine⟨oa k,s1,.inl ⟨rfl,OH,cr.of s2⟩,fun {M' G' H'} f {es us} is=>?_⟩;have r:=h1.on f;obtain⟨Wf,Wg,_⟩:=r.ow;obtain⟨a,o,t1,t2,t3,_,_,t4⟩:=r.chg (d':=.lst (ds++es)) (o':=.ml (ds++es)) (u:=.lst (OH++us)) e1;have ea:oa k=a:=by rw[s1] at t1;cases t1;rfl
 rw[ea];have h0:H' a=some (.lst OH):=by rw[←ea];exact f.h _ _ s2 q2 (fun z=>nomatch z)
 exact⟨OH,h0,s3.length.symm,t4 rfl fun H2 e2=>⟨_,e2,(s3.mono f.g).append is⟩⟩
theorem MS {k:Nat}{x:Str}{px bB:Pos} (hN:X.N[k]? = some x) (hv:yW X.env.scope x) (hd:(x==("__debug__" : Str))=false) (jS:(x==("__classdict__" : Str))=false) (hb:PE X b (tp X.K cl Γ c)) (hs:noStar b=true) (br:(apos.endLine==bB.line)=true) :
  PS X (.Expr (.Call (.Attribute (.Name x px) "append" apos) [b] [] bB) pos) (tS X.K cl Γ ii (.app k c)) :=
 (iP (zC X9 Zf aad qv (kZ hN hv hd jS) (aC hb bw (ag hs)) rfl (Hv hs) br (ag hs) rfl)).imp fun D σ H h=>by
  obtain⟨B,ρ,M,G,E,h1,h2,h3⟩:=h;obtain⟨l,e1,q⟩:=dM (show b8 ρ k _ from h2);obtain⟨ds,rfl,q2⟩:=fH q;obtain⟨a,s1,ty,go⟩:=AE (E:=E) h1 e1;refine⟨_,s1,ty,B,ρ,M,G,_,h1,q2,fun d v M' G' H' f i hk=>?_⟩;obtain⟨vs,g1,g2,g3⟩:=go f (IsL.cons i IsL.nil);exact⟨a,vs,v,rfl,rfl,g1,by rw[g2];exact hk.1,h3.nx _ M' σ _ G' f.g g3 hk.2⟩
theorem MT {k:Nat}{x:Str}{px bB:Pos} (hN:X.N[k]? = some x) (hv:yW X.env.scope x) (hd:(x==("__debug__" : Str))=false) (jS:(x==("__classdict__" : Str))=false) (hb:PE X b (tp X.K cl Γ c)) (hs:noStar b=true) (br:(apos.endLine==bB.line)=true) :
  PS X (.Expr (.Call (.Attribute (.Name x px) "extend" apos) [b] [] bB) pos) (tS X.K cl Γ ii (.ext k c)) :=
 (iP (zC X9 aaW PySem.F.type_list_extend yb (kZ hN hv hd jS) (aC hb bw (ag hs)) rfl (Hv hs) br (ag hs) rfl)).imp fun D σ H h=>by
  obtain⟨B,ρ,M,G,E,h1,h2,h3⟩:=h;obtain⟨l,e1,q⟩:=dM (show b8 ρ k _ from h2);obtain⟨ds,rfl,q2⟩:=fH q;obtain⟨a,s1,ty,go⟩:=AE (E:=E) h1 e1;refine⟨_,s1,ty,B,ρ,M,G,_,h1,q2,fun d v M' G' H' f i hk=>?_⟩;obtain⟨es,rfl,AA⟩:=fH hk;unfold Is at i;obtain⟨a2,us,rfl,i1,i2⟩:=i;obtain⟨vs,g1,g2,g3⟩:=go f i2;exact⟨a,a2,vs,us,rfl,rfl,g1,f.gh _ _ i1,by rw[g2,←i2.length];exact AA.1,h3.nx _ M' σ _ G' f.g g3 AA.2⟩
end
end PV
namespace PV
open PySem L2 SH
section
variable {K:e_}{cl:Cl}{Γ:Gm}{c ca cb cc:C}{σ:St}{G H:Hp}{D:Ends}{X:Cx}{st:Stmt}{bC:List Stmt}{sa sb:S}{e a b o tg:Expr}{es:List Expr}{pos p p' apos:Pos}{n:Nat}{fns jN cls mW:List Str}{mX:List Nat}{ii:Bool}
theorem Rep.Hw {B:Bs}{ρ:En}{M:Mem}{q:Addr}{u:HO}{m m':MO} (r:Rep K cl B ρ M σ H G) (hm:M q=some m) (hk:w6 m'=w6 m) (hc:∀ H',H' q=some u->b7 K cl G H' q m'):Rep K cl B ρ (bL M q m') σ (upd H q u) G:=by
 obtain⟨gq,cq⟩:=r.bT.mem q m hm;obtain⟨w,hw⟩:=cq.jK;have ne:∀ b v,H b=some v->b≠q->(upd H q u) b=some v:=fun b v hb hn=>by rw[aw hn];exact hb
 have gn:∀ b v,G b=some v->b≠q:=fun b v hb z=>by rw[z,gq] at hb;cases hb
 have MU:∀ b v,(bL M q m') b=some v->(b=q/\v=m')∨(b≠q/\M b=some v):=fun b v hb=>by
  unfold bL at hb;by_cases z:b=q
  ·rw[u_ z] at hb;exact .inl ⟨z,(K_ hb).symm⟩
  ·rw[p_ z] at hb;exact .inr ⟨z,hb⟩
 obtain⟨oa,h1,h2⟩:=r.ow;refine⟨⟨r.bT.g,fun b v hb=>ne b v (r.bT.gh b v hb) (gn b v hb),fun b v hb=>?_,r.bT.gf,fun b v hb SG hs=>ne b v (r.bT.h b v hb SG hs) fun z=>?_,fun b v hb=>?_,fun b v hb hn=>?_,fun b v hb=>?_⟩,r.len,r.s0,r.sh,oa,fun i d hi=>?_,h2⟩
 ·obtain⟨v',hv⟩:=r.bT.jK b v hb;by_cases z:b=q
  ·rw[z];exact⟨u,az⟩
  ·exact⟨v',ne b v' hv z⟩
 ·subst z;exact absurd (r.bT.mf b m hm SG) (by rw[hb];exact fun z=>nomatch z)
 ·rcases MU b v hb with ⟨rfl,rfl⟩ | ⟨hn,hb⟩
  ·exact⟨gq,hc _ az⟩
  ·exact⟨(r.bT.mem b v hb).1,(r.bT.mem b v hb).2.mono (ah.refl G) fun x hx=>ne b x hx hn⟩
 ·rcases MU b v hb with ⟨rfl,rfl⟩ | ⟨_,hb⟩
  ·exact r.bT.mf b m hm hn
  ·exact r.bT.mf b v hb hn
 ·obtain⟨o',e1,e2⟩:=r.bT.ke b v hb;by_cases z:b=q
  ·subst z;rw[hm] at e1;cases e1;exact⟨m',by unfold bL;rw[u_ rfl],hk.trans e2⟩
  ·exact⟨o',by unfold bL;rw[p_ z];exact e1,e2⟩
 ·obtain⟨q1,q2,q3,q4,o2,q5,q6⟩:=h1 i d hi;have hn:oa i≠q:=fun z=>by rw[z,hm] at q3;cases q3
  refine⟨q1,q2,?_,q4,o2,q5,q6.mono (ah.refl G) fun x hx=>ne _ x hx hn⟩;unfold bL;rw[p_ hn];exact q3
theorem nS {M:Mem}{d:Dt}{k:Addr->List Dt->Prop} (h:tV M d k):∃ q ds,d=.dD q/\M q=some (.ml ds)/\k q ds:=by
 cases d with
 | dD q =>
  change (match M q with | some (.ml ds)=>k q ds | _=>False) at h
  cases e:M q with
  | none=>rw[e] at h;exact h.elim
  | some m =>
   rw[e] at h
   cases m with
   | ml ds=>exact⟨q,ds,rfl,e,h⟩
   | mo _ _ _=>exact h.elim
   | md _=>exact h.elim
 | _=>exact (show False from h).elim
theorem MV {bB:Pos} (ha:PE X a (tp X.K cl Γ ca)) (hb:PE X b (tp X.K cl Γ cb)) (gZ:bW a=true) (hs:noStar b=true) (br:(apos.endLine==bB.line)=true) :
  PS X (.Expr (.Call (.Attribute a "append" apos) [b] [] bB) pos) (tS X.K cl Γ ii (.GK ca cb)) :=
 (iP (zC X9 Zf aad qv ha (aC hb bw (ag hs)) (eL gZ) (Hv hs) br (ag hs) rfl)).imp fun D σ H h=>by
  obtain⟨B,ρ,M,G,E,h1,h2,h3⟩:=h;refine⟨B,ρ,M,G,_,h1,h2,fun x vx M1 G1 H1 f1 i1 hx=>?_⟩;obtain⟨q,ds,rfl,hm,hy⟩:=nS hx;unfold Is at i1;subst i1;obtain⟨vs,hv,_⟩:=(f1.mem q _ hm).2;refine⟨.inl ⟨rfl,vs,cr.of hv⟩,B,ρ,M1,G1,_,h1.on f1,hy,fun y vy M2 G2 H2 f2 i2 hk=>?_⟩;obtain⟨q',UP,e,BQ,AA⟩:=nS (show tV M2 (.dD q) (fun p ds=>ds.length<sizeLine/\E.nx ρ (bL M2 p (.ml (ds++[y])))) from hk)
  cases e
  obtain⟨SI,UQ,SJ⟩:=(f2.mem q _ BQ).2;have r:=(h1.on f1).on f2;exact⟨q,SI,vy,rfl,rfl,UQ,by rw[←SJ.length];exact AA.1,h3.nx _ _ σ _ G2 (f1.g.trans f2.g) (r.Hw (m':=.ml (UP++[y])) (u:=.lst (SI++[vy])) BQ rfl fun H' e=>⟨_,e,SJ.append (IsL.cons i2 IsL.nil)⟩) AA.2⟩
theorem MW {bB:Pos} (ha:PE X a (tp X.K cl Γ ca)) (gZ:bW a=true) (br:(apos.endLine==bB.line)=true) :
  PS X (.Expr (.Call (.Attribute a "clear" apos) [] [] bB) pos) (tS X.K cl Γ ii (.JV ca)) :=
 (iP (FS X9 abe PySem.F.type_list_clear zE ha (eL gZ) br)).imp fun D σ H h=>by
  obtain⟨B,ρ,M,G,E,h1,h2,h3⟩:=h;refine⟨B,ρ,M,G,_,h1,h2,fun x vx M1 G1 H1 f1 i1 hx=>?_⟩;obtain⟨q,ds,rfl,hm,hy⟩:=nS hx;unfold Is at i1;subst i1;obtain⟨vs,hv,_⟩:=(f1.mem q _ hm).2;exact⟨.inl ⟨rfl,vs,cr.of hv⟩,q,vs,rfl,rfl,hv,h3.nx _ _ σ _ G1 f1.g ((h1.on f1).Hw (m':=.ml []) (u:=.lst []) hm rfl fun H' e=>⟨_,e,IsL.nil⟩) hy⟩
theorem MX {k:Expr}{ck:C}{pos':Pos} (hw:cl.w=X.w) (hu:X.A.units+66<cLine) (ha:PE X a (tp X.K cl Γ ca)) (hk:PE X k (tp X.K cl Γ ck)) (hb:PE X b (tp X.K cl Γ cb)) (hs:Xx b (some (.Subscript a k pos')) pos.line X.env=pure false) :
  PS X (.Assign [.Subscript a k pos'] b pos) (tS X.K cl Γ ii (.Ln ca ck cb)):=(Dg hw hu ha hk hb hs).imp fun D σ H h=>by
  obtain⟨B,ρ,M,G,E,h1,h2,h3⟩:=h;refine⟨B,ρ,M,G,_,h1,h2,fun z vz M1 G1 H1 f1 i1 hz=>⟨B,ρ,M1,G1,_,h1.on f1,hz,fun x vx M2 G2 H2 f2 i2 hx=>⟨B,ρ,M2,G2,_,(h1.on f1).on f2,hx,fun y vy M3 G3 H3 f3 i3 hy=>?_⟩⟩⟩;obtain⟨ps,e1,e2,hy⟩:=hy;obtain⟨q,am,rfl,hm,hg,hl,hR⟩:=nQ hy;unfold Is at i2;subst i2;have da:=(f3.mem q _ hm).2;obtain⟨_,_,xs,ex,_⟩:=(show lY X.K cl G3 H3 q am from da);have r:=((h1.on f1).on f2).on f3;exact⟨G3,q,am,ps,z,xs,rfl,f3.gh,da,ex,e2,i3.dat (ah.refl G3) e1,hg,hl,(i1.mono f2.g).mono f3.g,fun u hc=>h3.nx _ _ σ _ G3 ((f1.g.trans f2.g).trans f3.g) (r.Hw (m':=.md (am++[(W3 ps,z)])) (u:=u) hm rfl fun H' e=>(show lY X.K cl G3 H' q (am++[(W3 ps,z)]) from hc H' e)) hR⟩
theorem Rep.MY {B:Bs}{ρ:En}{M M2:Mem}{d d':Dt}{a:Addr}{G2 H2:Hp}{m':MO} (r:Rep K cl B ρ M σ H G) (h0:ρ[(0:Nat)]? = some (.ow d)) (ha:σ[(0:Nat)]? = some (some (.ref a))) (f:aY K cl (some a) G H M G2 H2 M2) (ga:G2 a=none) (ma:M2 a=none) (hd:Gz d'=some m') (hc:b7 K cl G2 H2 a m') :
  Rep K cl B (ρ.set 0 (.ow d')) M2 σ H2 G2:=by
 obtain⟨oa,h1,h2⟩:=r.ow;obtain⟨e1,_,m1,ba,o,_,c1⟩:=h1 0 d h0;have ea:oa 0=a:=by rw[ha] at e1;cases e1;rfl
 rw[ea] at ba m1 c1;obtain⟨w,hw⟩:=c1.jK
 have bne:∀ b v,B.H b=some v->B.sf≠some b->b≠a:=fun b v hb hs z=>by
  subst z;rcases ba with ba | ⟨ba,_⟩
  ·rw[ba] at hb;cases hb
  ·exact hs ba
 refine⟨⟨r.bT.g.trans f.g,f.gh,fun b v hb=>let ⟨v',hv⟩:=r.bT.jK b v hb;f.jK b v' hv,fun b v hb hn=>?_,fun b v hb hm hs=>?_,f.mem,fun b v hb hn=>?_,fun b v hb=>?_⟩,by rw[XC];exact r.len,r.s0,fun j e hj=>?_,oa,fun j e hj=>?_,fun j l e e' hj hl=>?_⟩
 ·cases q:G b with
  | none=>exact bF r.bT.jK (f.gf b v hb q)
  | some u=>exact r.bT.gf b u q hn
 ·have JP:=r.bT.h b v hb hm hs
  cases q:M b with
  | none=>exact f.h b v JP q fun z=>bne b v hb hs (K_ z).symm
  | some u=>exact absurd (r.bT.mf b u q hm) (by rw[hb];exact fun z=>nomatch z)
 ·cases q:M b with
  | none=>exact bF r.bT.jK (f.mf b v hb q)
  | some u=>exact r.bT.mf b u q hn
 ·obtain⟨o',e1,e2⟩:=r.bT.ke b v hb;obtain⟨o2,e3,e4⟩:=f.ke b o' e1;exact⟨o2,e3,e4.trans e2⟩
 ·rcases aZ hj with ⟨rfl,he,_⟩ | ⟨hn,hj⟩
  ·cases he
  ·obtain⟨v,q1,q2⟩:=r.sh j e hj;exact⟨v,q1,q2.mono f.g⟩
 ·rcases aZ hj with ⟨rfl,he,_⟩ | ⟨hn,hj⟩
  ·cases he
   exact⟨by rw[ea];exact ha,by rw[ea];exact ga,by rw[ea];exact ma,by rw[ea];exact ba,m',hd,by rw[ea];exact hc⟩
  ·obtain⟨q1,q2,q3,q4,o2,q5,q6⟩:=h1 j e hj;have UR:oa j≠a:=fun z=>hn (h2 j 0 e d hj h0 (z.trans ea.symm))
   obtain⟨u,hu⟩:=q6.jK;refine⟨q1,?_,?_,q4,o2,q5,q6.mono f.g fun x hx=>f.h _ x hx q3 fun z=>UR (K_ z).symm⟩
   ·cases q:G2 (oa j) with
    | none=>rfl
    | some w=>exact absurd (f.gf _ w q q2) (by rw[hu];exact fun z=>nomatch z)
   ·cases q:M2 (oa j) with
    | none=>rfl
    | some w=>exact absurd (f.mf _ w q q3) (by rw[hu];exact fun z=>nomatch z)
 ·have back:∀ {j:Nat}{e:Dt},(ρ.set 0 (.ow d'))[j]? = some (Sl.ow e)->∃ e0,ρ[j]? = some (Sl.ow e0):=fun {j e} hj=>by
   rcases aZ hj with ⟨rfl,_,_⟩ | ⟨_,hj⟩
   ·exact⟨d,h0⟩
   ·exact⟨e,hj⟩
  obtain⟨e0,QQ⟩:=back hj;obtain⟨l0,QR⟩:=back hl;exact h2 j l e0 l0 QQ QR
theorem MZ {q:Nat}{x sx:Str}{px Hy bB:Pos} (F:Fx Γ cl X.prog X.w X.K X.mg X.base n fns jN cls mW mX) (hr:b0 n X.A) (hx:cls[q]? = some x) (hq:mX.contains q=true) (hg:Gl X x) (k9:(x==("__debug__" : Str))=false)
  (hN:X.N[(0:Nat)]? = some sx) (hv:yW X.env.scope sx) (hd:(sx==("__debug__" : Str))=false) (jS:(sx==("__classdict__" : Str))=false) (ha:PA X es (ta X.K cl Γ ca)) (hs:es.all noStar=true) (hl:es.length<20) (br:(apos.endLine==bB.line)=true) :
  PS X (.Expr (.Call (.Attribute (.Name x px) "__init__" apos) (.Name sx Hy::es) [] bB) pos) (tS X.K cl Γ ii (.bj q ca)):=by
 obtain⟨f,fd,ps,c1,c2,c3⟩:=F.cm q hq;have BH:(Expr.Name sx Hy::es).all noStar=true:=by rw[WC,hs];rfl
 refine (iP (Cw hg (F.kl q x hx k9).1 c1 c2 hr c3 .nil qx (aC (kZ hN hv hd jS) ha (ag rfl)) k9 (ag rfl) (de hs) (rT rfl BH (by rw[G_];lia) br))).imp fun D σ H h=>?_
 obtain⟨B,ρ,M,G,E,h1,h2,h3⟩:=h;obtain⟨d,e0,q0⟩:=dM (show b8 ρ 0 _ from h2);obtain⟨k,fs,xs,rfl,q1⟩:=lq q0;obtain⟨oa,o1,_⟩:=h1.ow;obtain⟨s1,g1,m1,_,o,ho,hc⟩:=o1 0 _ e0
 cases ho
 refine⟨_,s1,B,ρ,M,G,_,h1,q1,fun ds vs M' G' H' f i hk=>?_⟩;have r:=h1.on f;obtain⟨dx,us,t1,t2,t3⟩:=hc;have SK:H' (oa 0)=some (.ins (cl k) dx (fs.zip us)):=f.h _ _ t1 m1 (fun z=>nomatch z)
 have ga:G' (oa 0)=none:=by
  cases z:G' (oa 0) with
  | none=>rfl
  | some w=>exact absurd (f.gf _ w z g1) (by rw[t1];exact fun z=>nomatch z)
 have ma:M' (oa 0)=none:=by
  cases z:M' (oa 0) with
  | none=>rfl
  | some w=>exact absurd (f.mf _ w z m1) (by rw[t1];exact fun z=>nomatch z)
 dsimp only;rw[WJ];refine⟨G',M',oa 0,k,fs,xs,dx,us,vs,ds,_,rfl,SK,t2,t3.mono f.g,ga,ma,f.gh,f.mem,i,hk,fun fA sR CD Hg M2 G2 H2 AA f2 z1 z2 z3 z4 z5=>?_⟩;exact h3.nx _ M2 σ H2 G2 (f.g.trans f2.g) (r.MY e0 s1 f2 z1 z2 (d':=.obj k fA sR) (m':=.mo k fA sR) rfl ⟨Hg,CD,z3,z4,z5⟩) AA
theorem xk {ci ct ce:C}{k w:Nat}{ix:List Nat}{own cu:List Str}{scope:Scope}{y:Str}{py ye:Pos}{iter elt:Expr}{ifs:List Expr}{g:TG} (hw:own.length=w)
  (SM:∀ {d:Dt}{ρ:En}{q:En->Prop}{x:V}{σ':St}{lm:St}{Gc Hc:Hp}{R:St->Hp->Prop},yy ρ w ix d q->Is X.K cl Gc d x->ah Gc Hc->(∃ pre:St,pre.length=w/\σ'=pre++lm) ->
   (∀ ds vs,IsL X.K cl Gc ds vs->ds.length=w->q (ds.map Sl.sh++ix.map (hX ρ))->R (vs.map some++lm) Hc)->g x σ' Hc R)
  (hc:X.calm=true) (hN:X.N.Nodup) (hy:X.N[k]? = some y) (hx:Loc X.env.scope y) (hf:X.fn y=true) (qK:ii=true->k≠0) (S:bm X.N X.env.scope scope own cu ix) (hi:PI X tg iter (Af X.K cl Γ ci))
  (hb:∀ (C:Addr) (s₀:j_) (H₀:Hp) (ex:List Addr) (pn:List (Addr×Obj)),PG (X.comp scope own cu C s₀ H₀ ex pn) tg g/\vF (X.comp scope own cu C s₀ H₀ ex pn) ifs (tt X.K cl Γ ct)/\PE (X.comp scope own cu C s₀ H₀ ex pn) elt (tp X.K cl Γ ce))
  (P9:Xx (.ListComp elt [⟨tg,iter,ifs,0⟩] scope pos) (some (.Name y py)) ye.line X.env=pure true) (hs:∀ x,Xe iter X.env x=pure x) :
  PS X (.Assign [.Name y py] (.ListComp elt [⟨tg,iter,ifs,0⟩] scope pos) ye) (tS X.K cl Γ ii (.d5 k (.comp ci w ix ct ce)))/\PS X (.Assign [.Name y py] (.ListComp elt [⟨tg,iter,ifs,0⟩] scope pos) ye) (tS X.K cl Γ ii (.set k (.fr (.comp ci w ix ct ce)))):=by
 have base:=Ct hc hN hy hx S hi hb P9 hs (.inl hf);refine⟨base.imp fun D σ H h=>rV hw SM (xh qK h),base.imp fun D σ H h=>rV hw SM ?_⟩;obtain⟨B,ρ,M,G,E,h1,h2,h3⟩:=h;exact Ed ⟨B,ρ,M,G,_,h1,h2,fun d v M' G' H' f i q=>h3.nx _ M' _ H' G' f.g ((h1.on f).yG (h3.k qK) i) q⟩
end
end PV
namespace PV
open PySem L2 SH
structure Tb where
 fns:List Str
 jN:List Str
 cls:List Str
 mW:List Str
 mX:List Nat
inductive Md where | E | P | Q | F | T | W | A | O | I | B
inductive Ax where | e (x:Expr) | es (x:List Expr) | oe (x:k_ Expr) | it (tg x:Expr)
noncomputable def Dj:List Str:=["len","list","tuple","all","any","int","min","max","dict","isinstance","range","enumerate","zip","reversed","bool","str","set"]
structure Bk where
 N:List Str
 sc:Scope
noncomputable def Bk.lk (b:Bk) (x:Str):k_ XE:=b.sc.names.lookup x
noncomputable def Bk.gl (b:Bk) (x:Str):Bool:=decide (b.lk x=some .globalImplicit)
noncomputable def Bk.JK (b:Bk) (x:Str):Bool:=decide (b.lk x=some .local∨b.lk x=some .cell∨b.lk x=some .free)
noncomputable def Bk.bt (b:Bk) (x:Str):Bool:=b.gl x&&Dj.contains x
noncomputable def okN (x:Str):Bool := !(x==("__debug__" : Str)) && !(x==("__classdict__" : Str))
noncomputable def Bk.at_ (b:Bk) (k:Nat) (x:Str):Bool:=decide (b.N[k]? = some x)&&b.JK x&&okN x
noncomputable def plainT:Expr->Bool
 | .UnaryOp .Not _ _=>false
 | .BoolOp _ _ _=>false
 | .IfExp _ _ _ _=>false
 | .Compare _ _ _ _=>false
 | _=>true
noncomputable def val (m:Md) (e:Expr):Bool:=match m with | .E=>true | .P=>true | .Q=>true | .T=>plainT e | _=>false
noncomputable def qL (b:Bk) (scope:Scope) (own:List Str) (ix:List Nat):Bool :=
 let cu:=ix.map fun i=>b.N.getD i W1
 decide (scope.kind=.function)&&scope.names.all (fun y=>decide (y.2=.cell->scope.names.lookup y.1=some .cell))&&scope.names.all (fun y=>decide (y.2=.local->scope.names.lookup y.1=some .local))&&scope.names.all (fun y=>decide (y.2=.free->y.1∈cu)) &&
  own.all (fun x=>decide (scope.names.lookup x=some .local∨scope.names.lookup x=some .cell))&&cu.all (fun x=>decide (scope.names.lookup x=some .free))&&cu.all (fun x=>decide (b.lk x=some .cell∨b.lk x=some .free))&&ix.all (fun i=>decide (i<b.N.length))&&decide (own++cu).Nodup
noncomputable def jn:Expr->Bool
 | .Set _ _ _=>false
 | _=>true
noncomputable def lZ (a p:Pos):Bool:=a.endLine==p.line
noncomputable def vE (x:Ax) (k:Expr->Bool):Bool:=match x with | .e e=>k e | _=>false
noncomputable def QU (x:Ax) (k:List Expr->Bool):Bool:=match x with | .es e=>k e | _=>false
noncomputable def vO (x:Ax) (k:k_ Expr->Bool):Bool:=match x with | .oe e=>k e | _=>false
noncomputable def vI (x:Ax) (k:Expr->Expr->Bool):Bool:=match x with | .it t e=>k t e | _=>false
noncomputable def Dk (e:Expr) (k:Const->Bool):Bool:=match e with | .Constant c _ _=>k c | _=>false
noncomputable def v4 (e:Expr) (k:Str->Bool):Bool:=match e with | .Name x _=>k x | _=>false
noncomputable def Hz (e:Expr) (k:Expr->Y1->Expr->Bool):Bool:=match e with | .BinOp a o b _=>k a o b | _=>false
noncomputable def QV (e:Expr) (k:acy->Expr->Bool):Bool:=match e with | .UnaryOp o a _=>k o a | _=>false
noncomputable def HA (e:Expr) (k:Expr->List CmpOp->List Expr->Bool):Bool:=match e with | .Compare a os es _=>k a os es | _=>false
noncomputable def El (e:Expr) (k:Expr->CmpOp->Expr->Bool):Bool:=HA e fun a os es=>match os,es with | [o],[b]=>k a o b | _,_=>false
noncomputable def SN (e:Expr) (k:Expr->CmpOp->CmpOp->Expr->Expr->Bool):Bool:=HA e fun a os es=>match os,es with | [o,o'],[b,c]=>k a o o' b c | _,_=>false
noncomputable def OI (e:Expr) (k:BoolOp->List Expr->Pos->Bool):Bool:=match e with | .BoolOp o es p=>k o es p | _=>false
noncomputable def SO (e:Expr) (k:Expr->Expr->Expr->Bool):Bool:=match e with | .IfExp a b c _=>k a b c | _=>false
noncomputable def SQ (e:Expr) (k:List Expr->Bool):Bool:=match e with | .Tuple es _ _=>k es | _=>false
noncomputable def SR (e:Expr) (k:List Expr->Bool):Bool:=match e with | .List es _=>k es | _=>false
noncomputable def Em (e:Expr) (k:Expr->Expr->Bool):Bool:=match e with | .Subscript a b _=>k a b | _=>false
noncomputable def OJ (e:Expr) (k:k_ Expr->k_ Expr->Bool):Bool:=match e with | .Slice l h s _=>(match s with | none=>k l h | some _=>false) | _=>false
noncomputable def SS (e:Expr):Bool:=match e with | .Dict ks vs _=>ks.isEmpty&&vs.isEmpty | _=>false
noncomputable def OL (e:Expr) (k:Expr->Str->Pos->Bool):Bool:=match e with | .Attribute a f p=>k a f p | _=>false
noncomputable def QW (e:Expr) (k:Expr->List Expr->Pos->Bool):Bool:=match e with | .Call f es ks p=>(match ks with | []=>k f es p | _::_=>false) | _=>false
noncomputable def mE (e:Expr) (k:Str->List Expr->Bool):Bool:=QW e fun f es _=>v4 f fun x=>k x es
noncomputable def Dl (e:Expr) (k:Expr->Str->List Expr->Pos->Pos->Bool):Bool:=QW e fun f es p=>OL f fun o m q=>k o m es q p
noncomputable def pC (es:List Expr) (k:Expr->Bool):Bool:=match es with | [a]=>k a | _=>false
noncomputable def Eo (es:List Expr) (k:Expr->Expr->Bool):Bool:=match es with | [a,b]=>k a b | _=>false
noncomputable def Ep (es:List Expr) (k:Expr->List Expr->Bool):Bool:=match es with | a::r=>k a r | _=>false
noncomputable def US (gs:List Comprehension) (k:Expr->Expr->List Expr->Bool):Bool:=match gs with | [g]=>(decide (g.is_async=0)&&k g.target g.iter g.ifs) | _=>false
noncomputable def QX (e:Expr) (k:Expr->Expr->Expr->List Expr->Scope->Bool):Bool:=match e with | .ListComp elt gs sc _=>US gs fun tg iter ifs=>k elt tg iter ifs sc | _=>false
noncomputable def AF (tg:Expr) (k:List Str->Bool):Bool:=match tg with | .Name x _=>k [x] | .Tuple es _ _=>Eo es fun a b=>v4 a fun x=>v4 b fun y=>k [x,y] | _=>false
noncomputable def Dm (ifs:List Expr) (y:Bool) (k:Expr->Bool):Bool:=match ifs with | []=>y | [q]=>k q | _=>false
noncomputable def isTup:Expr->Bool
 | .Tuple _ _ _=>true
 | _=>false
noncomputable def pD (m:Md):Bool:=match m with | .E=>true | .P=>true | .Q=>true | .T=>true | _=>false
noncomputable def HB (m:Md):k_ Bool:=match m with | .E=>some false | .P=>some false | .Q=>some false | .T=>some true | .W=>some true | _=>none
noncomputable def SU (a:C) (k:Nat->Bool) (y:Bool):Bool:=match a with | .bo n=>k n | _=>y
noncomputable def HC (a:C) (x y:Bool):Bool:=match a with | .nil=>x | _=>y
section
variable (T:Tb)
noncomputable def aI:C->Md->Bk->Ax->Bool
 | .i n,m,_,x=>vE x fun e=>val m e&&Dk e fun c=>decide (c=.int n)
 | .s n,m,_,x=>vE x fun e=>val m e&&Dk e fun c=>decide (c=.str n)
 | .b n,m,_,x=>vE x fun e=>val m e&&Dk e fun c=>decide (c=.bool n)
 | .v k,m,b,x=>vE x fun e=>val m e&&v4 e fun y=>b.at_ k y
 | .o k,m,b,x=>vE x fun e=>(match m with | .P=>true | .Q=>true | _=>false)&&v4 e fun y=>b.at_ k y
 | .d c,m,b,x=>(match m with | .Q=>true | _=>false)&&vE x fun e=>aI c .E b (.e e)
 | .g k,m,b,x=>vE x fun e=>val m e&&v4 e fun y=>decide (T.mW[k]? = some y)&&b.gl y&&okN y
 | .nil,m,_,x=>(match m,x with | .A,.es []=>true | .B,.es []=>true | .O,.oe none=>true | _,_=>false)
 | .cons a r,m,b,x=>(match m with
   | .A=>QU x fun es=>Ep es fun e es=>noStar e&&aI a .E b (.e e)&&aI r .A b (.es es)
   | .B=>QU x fun es=>Ep es fun e es=>noStar e&&SU a (fun k=>v4 e fun y=>b.at_ k y) (aI a .E b (.e e))&&aI r .B b (.es es)
   | .O=>vO x fun o=>(match o with | some e=>HC r (aI a .E b (.e e)) false | none=>false)
   | _=>false)
 | .bo _,_,_,_=>false
 | .bin o a c,m,b,x=>vE x fun e=>val m e&&Hz e fun l op r=>decide (op=GO o)&&aI a .E b (.e l)&&aI c .E b (.e r)
 | .neg a,m,b,x=>vE x fun e=>val m e&&QV e fun op y=>decide (op=.USub)&&aI a .E b (.e y)
 | .cmp o a c,m,b,x=>vE x fun e=>pD m&&El e fun l op r=>decide (op=yB o)&&aI a .E b (.e l)&&aI c .E b (.e r)
 | .Ad o1 o2 a c d,m,b,x=>vE x fun e=>pD m&&SN e fun l p1 p2 r s=>decide (p1=yB o1)&&decide (p2=yB o2)&&aI a .E b (.e l)&&aI c .E b (.e r)&&aI d .E b (.e s)
 | .eq ng a c,m,b,x=>vE x fun e=>pD m&&El e fun l op r=>decide (op=Ee ng)&&aI a .P b (.e l)&&aI c .Q b (.e r)
 | .BL ng a c,m,b,x=>vE x fun e=>pD m&&El e fun l op r=>decide (op=Ee ng)&&aI a .E b (.e l)&&aI c .E b (.e r)
 | .w9 ng a c,m,b,x=>vE x fun e=>pD m&&El e fun l op r=>decide (op=BF ng)&&fI r&&aI a .P b (.e l)&&aI c .Q b (.e r)
 | .ins a c,m,b,x=>vE x fun e=>pD m&&El e fun l op r=>decide (op=.In)&&fI r&&aI a .E b (.e l)&&aI c .E b (.e r)
 | .ind a c,m,b,x=>vE x fun e=>pD m&&El e fun l op r=>decide (op=.In)&&fI r&&aI a .E b (.e l)&&aI c .E b (.e r)
 | .one a,m,b,x=>vE x fun e=>OI e fun _ es _=>pC es fun y=>(match HB m with | some false=>aI a .E b (.e y) | some true=>aI a .T b (.e y) | none=>false)
 | .and a c,m,b,x=>vE x fun e=>OI e fun op es p=>decide (op=.And)&&Ep es fun y r=>Ep r fun z r=>(match HB m with
   | some false=>aI a .E b (.e y)&&aI c .E b (.e (.BoolOp .And (z::r) p))
   | some true=>aI a .T b (.e y)&&aI c .W b (.e (.BoolOp .And (z::r) p))
   | none=>false)
 | .or a c,m,b,x=>vE x fun e=>OI e fun op es p=>decide (op=.Or)&&Ep es fun y r=>Ep r fun z r=>(match HB m with
   | some false=>aI a .E b (.e y)&&aI c .E b (.e (.BoolOp .Or (z::r) p))
   | some true=>aI a .T b (.e y)&&aI c .W b (.e (.BoolOp .Or (z::r) p))
   | none=>false)
 | .not a,m,b,x=>vE x fun e=>pD m&&QV e fun op y=>decide (op=.Not)&&(match m with | .T=>aI a .T b (.e y) | _=>aI a .E b (.e y))
 | .tr a,m,b,x=>(match m with | .T=>true | _=>false)&&vE x fun e=>plainT e&&aI a .Q b (.e e)
 | .GA t a c,m,b,x=>vE x fun e=>val m e&&SO e fun y z u=>aI t .T b (.e y)&&aI a .E b (.e z)&&aI c .E b (.e u)
 | .tup a,m,b,x=>vE x fun e=>val m e&&SQ e fun es=>aI a .A b (.es es)
 | .fr f,m,b,x=>vE x fun e=>val m e&&aI f .F b (.e e)
 | .CO f,m,b,x=>vE x fun e=>val m e&&aI f .F b (.e e)
 | .GF,m,b,x=>vE x fun e=>val m e&&SS e
 | .jl a,m,b,x=>Dn m&&vE x fun e=>SR e fun es=>aI a .A b (.es es)
 | .xa a,m,b,x=>Dn m&&vE x fun e=>mE e fun y es=>decide (y = "list")&&b.bt y&&pC es fun u=>noStar u&&aI a .Q b (.e u)
 | .Ae a lo hi,m,b,x=>Dn m&&vE x fun e=>Em e fun y s=>OJ s fun l h=>aI a .P b (.e y)&&aI lo .O b (.oe l)&&aI hi .O b (.oe h)
 | .cat a c,m,b,x=>Dn m&&vE x fun e=>Hz e fun l op r=>decide (op=.Add)&&aI a .P b (.e l)&&aI c .Q b (.e r)
 | .GG a c,m,b,x=>Dn m&&vE x fun e=>mE e fun y es=>decide (y = "list")&&b.bt y&&pC es fun u=>mE u fun z us=>decide (z = "range")&&b.bt z&&Eo us fun s w=>noStar s&&noStar w&&aI a .E b (.e s)&&aI c .E b (.e w)
 | .GH a,m,b,x=>Dn m&&vE x fun e=>mE e fun y es=>decide (y = "list")&&b.bt y&&pC es fun u=>mE u fun z us=>decide (z = "range")&&b.bt z&&pC us fun s=>noStar s&&aI a .E b (.e s)
 | .comp it w ix t d,m,b,x=>Dn m&&vE x fun e=>QX e fun elt tg iter ifs scope=>AF tg fun own=>decide (own.length=w)&&qL b scope own ix&&jn iter&&aI it .I b (.it tg iter)&&Dm ifs (M0 t) (fun q=>aI t .T ⟨own++ix.map fun i=>b.N.getD i W1,scope⟩ (.e q))&&aI d .E ⟨own++ix.map fun i=>b.N.getD i W1,scope⟩ (.e elt)
 | .vQ it w ix t d,m,b,x=>Dn m&&vE x fun e=>QX e fun elt tg iter ifs scope=>AF tg fun own=>decide (own.length=w)&&qL b scope own ix&&jn iter&&aI it .E b (.e iter)&&Dm ifs (M0 t) (fun q=>aI t .T ⟨own++ix.map fun i=>b.N.getD i W1,scope⟩ (.e q))&&aI d .E ⟨own++ix.map fun i=>b.N.getD i W1,scope⟩ (.e elt)
 | .fB a,m,b,x=>Ag m&&vI x fun _ e=>aI a .E b (.e e)
 | .jL a,m,b,x=>Ag m&&vI x fun _ e=>mE e fun y es=>decide (y = "range")&&b.bt y&&pC es fun u=>noStar u&&aI a .E b (.e u)
 | .Ea a c,m,b,x=>Ag m&&vI x fun _ e=>mE e fun y es=>decide (y = "range")&&b.bt y&&Eo es fun u w=>noStar u&&noStar w&&aI a .E b (.e u)&&aI c .E b (.e w)
 | .rev a,m,b,x=>Ag m&&vI x fun _ e=>mE e fun y es=>decide (y = "reversed")&&b.bt y&&pC es fun u=>mE u fun z us=>decide (z = "range")&&b.bt z&&pC us fun s=>noStar s&&aI a .E b (.e s)
 | .CP a,m,b,x=>Ag m&&vI x fun tg e=>isTup tg&&mE e fun y es=>decide (y = "enumerate")&&b.bt y&&pC es fun u=>noStar u&&aI a .E b (.e u)
 | .zip a c,m,b,x=>Ag m&&vI x fun tg e=>isTup tg&&mE e fun y es=>decide (y = "zip")&&b.bt y&&Eo es fun u w=>noStar u&&noStar w&&aI a .E b (.e u)&&aI c .E b (.e w)
 | .ix a c,m,b,x=>vE x fun e=>val m e&&Em e fun y z=>eR z&&aI a .P b (.e y)&&aI c .E b (.e z)
 | .yY a c,m,b,x=>vE x fun e=>val m e&&Em e fun y z=>eR z&&aI a .E b (.e y)&&aI c .E b (.e z)
 | .slt a lo hi,m,b,x=>vE x fun e=>val m e&&Em e fun y s=>OJ s fun l h=>aI a .P b (.e y)&&aI lo .O b (.oe l)&&aI hi .O b (.oe h)
 | .CQ a lo hi,m,b,x=>vE x fun e=>val m e&&Em e fun y s=>OJ s fun l h=>aI a .P b (.e y)&&aI lo .O b (.oe l)&&aI hi .O b (.oe h)
 | .fld a f,m,b,x=>vE x fun e=>val m e&&OL e fun y g _=>decide (g=f)&&bW y&&aI a .Q b (.e y)
 | .call f a,m,b,x=>vE x fun e=>val m e&&mE e fun y es=>decide (T.fns[f]? = some y)&&b.gl y&&okN y&&es.all noStar && !es.isEmpty&&aI a .A b (.es es)
 | .xQ f a,m,b,x=>vE x fun e=>val m e&&mE e fun y es=>decide (T.fns[f]? = some y)&&b.gl y&&okN y&&es.all noStar && !es.isEmpty&&aI a .B b (.es es)
 | .GI k r a,m,b,x=>vE x fun e=>val m e&&Dl e fun o y es q p=>decide (T.jN[k]? = some y)&&bW o&&es.all noStar&&decide (es.length<30)&&lZ q p&&aI r .E b (.e o) && !es.isEmpty&&aI a .B b (.es es)
 | .bR k r a,m,b,x=>vE x fun e=>val m e&&Dl e fun o y es q p=>decide (T.jN[k]? = some y)&&bW o&&es.all noStar&&decide (es.length<30)&&lZ q p&&aI r .E b (.e o)&&HC a es.isEmpty (!es.isEmpty&&aI a .A b (.es es))
 | .mk c a,m,b,x=>vE x fun e=>val m e&&mE e fun y es=>decide (T.cls[c]? = some y)&&b.gl y&&okN y&&es.all noStar && !es.isEmpty&&aI a .A b (.es es)
 | .len a,m,b,x=>vE x fun e=>val m e&&mE e fun y es=>decide (y = "len")&&b.bt y&&pC es fun u=>noStar u&&aI a .Q b (.e u)
 | .rM a t,m,b,x=>vE x fun e=>val m e&&mE e fun y es=>decide (y = "isinstance")&&b.bt y&&Eo es fun u w=>v4 w fun z=>decide (t<5)&&decide (z=W_ (BP t))&&b.bt z&&noStar u&&aI a .Q b (.e u)
 | .all a,m,b,x=>vE x fun e=>val m e&&mE e fun y es=>decide (y = "all")&&b.bt y&&pC es fun u=>noStar u&&aI a .Q b (.e u)
 | .any a,m,b,x=>vE x fun e=>val m e&&mE e fun y es=>decide (y = "any")&&b.bt y&&pC es fun u=>noStar u&&aI a .Q b (.e u)
 | .mz a,m,b,x=>vE x fun e=>val m e&&mE e fun y es=>decide (y = "int")&&b.bt y&&pC es fun u=>noStar u&&aI a .Q b (.e u)
 | .min2 a c,m,b,x=>vE x fun e=>val m e&&mE e fun y es=>decide (y = "min")&&b.bt y&&Eo es fun u w=>noStar u&&noStar w&&aI a .E b (.e u)&&aI c .E b (.e w)
 | .yZ a,m,b,x=>vE x fun e=>val m e&&mE e fun y es=>decide (y = "tuple")&&b.bt y&&pC es fun u=>noStar u&&aI a .Q b (.e u)
 | .Eb a,m,b,x=>vE x fun e=>val m e&&mE e fun y es=>decide (y = "tuple")&&b.bt y&&pC es fun u=>noStar u&&aI a .Q b (.e u)
 | .cnt a c,m,b,x=>vE x fun e=>val m e&&Dl e fun o y es q p=>decide (y = "count")&&bW o&&lZ q p&&pC es fun u=>noStar u&&aI a .E b (.e o)&&aI c .E b (.e u)
 | .yh a,m,b,x=>vE x fun e=>val m e&&mE e fun y es=>decide (y = "dict")&&b.bt y&&pC es fun u=>noStar u&&aI a .Q b (.e u)
 | .CS a c,m,b,x=>vE x fun e=>pD m&&El e fun l op r=>decide (op=.NotIn)&&fI r&&aI a .E b (.e l)&&aI c .E b (.e r)
 | .GJ a c,m,b,x=>vE x fun e=>val m e&&Em e fun y z=>eR z&&aI a .E b (.e y)&&aI c .E b (.e z)
where
 Dn (m:Md):Bool:=match m with | .F=>true | _=>false
 Ag (m:Md):Bool:=match m with | .I=>true | _=>false
 M0 (t:C):Bool:=match t with | .b true=>true | _=>false
end
end PV
namespace PV
open PySem L2 SH
theorem ff {P:Prop} (h:false=true):P:=nomatch h
theorem ae {a b:Bool} (h:(a&&b)=true):a=true/\b=true:=by rwa [q_] at h
def QY (a:C) (x y:Bool):Prop:=(a=.nil/\x=true)∨y=true
def UT (a:C) (k:Nat->Bool) (y:Bool):Prop:=(∃ n,a=.bo n/\k n=true)∨y=true
theorem HD {a:C}{k:Nat->Bool}{y:Bool} (h:SU a k y=true):UT a k y:=by cases a<;>first | exact .inr h | exact .inl ⟨_,rfl,h⟩
theorem xl {a:C}{x y:Bool} (h:HC a x y=true):QY a x y:=by cases a<;>first | exact .inr h | exact .inl ⟨rfl,h⟩
section
variable {x:Ax}{e tg:Expr}{es:List Expr}
theorem av {k:Expr->Bool} (h:vE x k=true):∃ e,x=.e e/\k e=true:=by cases x<;>first | exact⟨_,rfl,h⟩ | cases h
theorem AG {k:List Expr->Bool} (h:QU x k=true):∃ e,x=.es e/\k e=true:=by cases x<;>first | exact⟨_,rfl,h⟩ | cases h
theorem M6 {k:k_ Expr->Bool} (h:vO x k=true):∃ e,x=.oe e/\k e=true:=by cases x<;>first | exact⟨_,rfl,h⟩ | cases h
theorem qM {k:Expr->Expr->Bool} (h:vI x k=true):∃ t e,x=.it t e/\k t e=true:=by cases x<;>first | exact⟨_,_,rfl,h⟩ | cases h
def QZ (e:Expr) (k:Const->Bool):Prop:=∃ c j p,e=.Constant c j p/\k c=true
theorem rX {k:Const->Bool} (h:Dk e k=true):QZ e k:=by cases e<;>first | exact⟨_,_,_,rfl,h⟩ | exact ff h
def UU (e:Expr) (k:Str->Bool):Prop:=∃ y p,e=.Name y p/\k y=true
theorem cy {k:Str->Bool} (h:v4 e k=true):UU e k:=by cases e<;>first | exact⟨_,_,rfl,h⟩ | exact ff h
def Q0 (e:Expr) (k:Expr->Y1->Expr->Bool):Prop:=∃ a o b p,e=.BinOp a o b p/\k a o b=true
theorem xm {k:Expr->Y1->Expr->Bool} (h:Hz e k=true):Q0 e k:=by cases e<;>first | exact⟨_,_,_,_,rfl,h⟩ | exact ff h
def UV (e:Expr) (k:acy->Expr->Bool):Prop:=∃ o a p,e=.UnaryOp o a p/\k o a=true
theorem AH {k:acy->Expr->Bool} (h:QV e k=true):UV e k:=by cases e<;>first | exact⟨_,_,_,rfl,h⟩ | exact ff h
def Q5 (e:Expr) (k:Expr->List CmpOp->List Expr->Bool):Prop:=∃ a os es p,e=.Compare a os es p/\k a os es=true
theorem xn {k:Expr->List CmpOp->List Expr->Bool} (h:HA e k=true):Q5 e k:=by cases e<;>first | exact⟨_,_,_,_,rfl,h⟩ | exact ff h
theorem jo {k:Expr->CmpOp->Expr->Bool} (h:El e k=true):∃ a o b p,e=.Compare a [o] [b] p/\k a o b=true:=by
 obtain⟨a,os,es,p,rfl,h⟩:=xn h;rcases os with _ | ⟨o,_ | ⟨_,_⟩⟩<;>first | (cases h;done) | skip
 rcases es with _ | ⟨b,_ | ⟨_,_⟩⟩<;>first | (cases h;done) | exact⟨_,_,_,_,rfl,h⟩
theorem HE {k:Expr->CmpOp->CmpOp->Expr->Expr->Bool} (h:SN e k=true):∃ a o o' b c p,e=.Compare a [o,o'] [b,c] p/\k a o o' b c=true:=by
 obtain⟨a,os,es,p,rfl,h⟩:=xn h;rcases os with _ | ⟨o,_ | ⟨o',_ | ⟨_,_⟩⟩⟩<;>first | (cases h;done) | skip
 rcases es with _ | ⟨b,_ | ⟨c,_ | ⟨_,_⟩⟩⟩<;>first | (cases h;done) | exact⟨_,_,_,_,_,_,rfl,h⟩
def UW (e:Expr) (k:BoolOp->List Expr->Pos->Bool):Prop:=∃ o es p,e=.BoolOp o es p/\k o es p=true
theorem v5 {k:BoolOp->List Expr->Pos->Bool} (h:OI e k=true):UW e k:=by cases e<;>first | exact⟨_,_,_,rfl,h⟩ | exact ff h
def UX (e:Expr) (k:Expr->Expr->Expr->Bool):Prop:=∃ a b c p,e=.IfExp a b c p/\k a b c=true
theorem HF {k:Expr->Expr->Expr->Bool} (h:SO e k=true):UX e k:=by cases e<;>first | exact⟨_,_,_,_,rfl,h⟩ | exact ff h
def UY (e:Expr) (k:List Expr->Bool):Prop:=∃ es j p,e=.Tuple es j p/\k es=true
theorem HG {k:List Expr->Bool} (h:SQ e k=true):UY e k:=by cases e<;>first | exact⟨_,_,_,rfl,h⟩ | exact ff h
def UZ (e:Expr) (k:List Expr->Bool):Prop:=∃ es p,e=.List es p/\k es=true
theorem HI {k:List Expr->Bool} (h:SR e k=true):UZ e k:=by cases e<;>first | exact⟨_,_,rfl,h⟩ | exact ff h
def U0 (e:Expr) (k:Expr->Expr->Bool):Prop:=∃ a b p,e=.Subscript a b p/\k a b=true
theorem jp {k:Expr->Expr->Bool} (h:Em e k=true):U0 e k:=by cases e<;>first | exact⟨_,_,_,rfl,h⟩ | exact ff h
theorem HJ (h:SS e=true):∃ p,e=.Dict [] [] p:=by
 cases e<;>first | exact ff h | skip
 rename_i ks vs p
 cases ks<;>cases vs<;>first | exact⟨_,rfl⟩ | cases h
theorem v6 {k:k_ Expr->k_ Expr->Bool} (h:OJ e k=true):∃ a b p,e=.Slice a b none p/\k a b=true:=by
 cases e<;>first | exact ff h | skip
 rename_i l u s p
 cases s<;>first | exact⟨_,_,_,rfl,h⟩ | cases h
def U1 (e:Expr) (k:Expr->Str->Pos->Bool):Prop:=∃ a f p,e=.Attribute a f p/\k a f p=true
theorem v7 {k:Expr->Str->Pos->Bool} (h:OL e k=true):U1 e k:=by cases e<;>first | exact⟨_,_,_,rfl,h⟩ | exact ff h
theorem AI {k:Expr->List Expr->Pos->Bool} (h:QW e k=true):∃ f es p,e=.Call f es [] p/\k f es p=true:=by
 cases e<;>first | exact ff h | skip
 rename_i f es ks p
 cases ks<;>first | exact⟨_,_,_,rfl,h⟩ | cases h
theorem a9 {k:Str->List Expr->Bool} (h:mE e k=true):∃ y es q p,e=.Call (.Name y q) es [] p/\k y es=true:=by
 obtain⟨f,es,p,rfl,h⟩:=AI h;obtain⟨y,q,rfl,h⟩:=cy h;exact⟨y,es,q,p,rfl,h⟩
theorem hZ {k:Expr->Str->List Expr->Pos->Pos->Bool} (h:Dl e k=true):∃ o y es q p,e=.Call (.Attribute o y q) es [] p/\k o y es q p=true:=by
 obtain⟨f,es,p,rfl,h⟩:=AI h;obtain⟨o,y,q,rfl,h⟩:=v7 h;exact⟨o,y,es,q,p,rfl,h⟩
theorem bE {k:Expr->Bool} (h:pC es k=true):∃ a,es=[a]/\k a=true:=by rcases es with _ | ⟨_,_ | ⟨_,_⟩⟩<;>first | exact⟨_,rfl,h⟩ | cases h
theorem lr {k:Expr->Expr->Bool} (h:Eo es k=true):∃ a b,es=[a,b]/\k a b=true:=by rcases es with _ | ⟨_,_ | ⟨_,_ | ⟨_,_⟩⟩⟩<;>first | exact⟨_,_,rfl,h⟩ | cases h
theorem jq {k:Expr->List Expr->Bool} (h:Ep es k=true):∃ a b,es=a::b/\k a b=true:=by cases es<;>first | exact⟨_,_,rfl,h⟩ | cases h
theorem rY {k:Expr->Expr->Expr->List Expr->Scope->Bool} (h:QX e k=true):∃ elt tg iter ifs sc p,e=.ListComp elt [⟨tg,iter,ifs,0⟩] sc p/\k elt tg iter ifs sc=true:=by
 cases e<;>first | exact ff h | skip
 rename_i elt gs sc p;rcases gs with _ | ⟨g,_ | ⟨_,_⟩⟩<;>first | (cases h;done) | skip
 obtain⟨tg,iter,ifs,a⟩:=g;obtain⟨h1,h⟩:=ae h
 cases b_ h1
 exact⟨_,_,_,_,_,_,rfl,h⟩
theorem xo {k:List Str->Bool} (h:AF tg k=true):(∃ y p,tg=.Name y p/\k [y]=true)∨∃ y z p1 p2 j p,tg=.Tuple [.Name y p1,.Name z p2] j p/\k [y,z]=true:=by
 cases tg<;>first | exact ff h | exact .inl ⟨_,_,rfl,h⟩ | skip
 rename_i es j p;obtain⟨a,b,rfl,h⟩:=lr (show Eo es _=true from h);obtain⟨y,p1,rfl,h⟩:=cy h;obtain⟨z,p2,rfl,h⟩:=cy h;exact .inr ⟨_,_,_,_,_,_,rfl,h⟩
end
structure GC (T:Tb) (Γ:Gm) (cl:Cl) (n:Nat) (X:Cx) (b:Bk):Prop where
 hN:X.N=b.N
 calm:X.calm=true
 loc:∀ x,b.lk x=some .local->X.env.scope.names.lookup x=some .local
 M7:∀ x,b.lk x=some .cell->X.env.scope.names.lookup x=some .cell
 OM:∀ x,b.lk x=some .free->X.env.scope.names.lookup x=some .free∨X.env.scope.names.lookup x=some .cell
 Q6:∀ x,b.lk x=some .globalImplicit->Gl X x
 room:b0 n X.A
 F:Fx Γ cl X.prog X.w X.K X.mg X.base n T.fns T.jN T.cls T.mW T.mX
 bt:∀ x∈Dj,X.mg x=none
def Gs (X:Cx) (cl:Cl) (Γ:Gm) (c:C):Md->Ax->Prop
 | .E,.e e=>PE X e (tp X.K cl Γ c)
 | .B,.es es=>PA X es (tb X.K cl Γ c)
 | .P,.e e=>PE X e (tr X.K cl Γ c)
 | .Q,.e e=>PE X e (tq X.K cl Γ c)
 | .F,.e e=>PE X e (tf X.K cl Γ c)
 | .T,.e e=>PT X e (tt X.K cl Γ c)
 | .W,.e e=>PW X e (tt X.K cl Γ c)
 | .A,.es es=>PA X es (ta X.K cl Γ c)
 | .O,.oe o=>PO X o (to X.K cl Γ c)
 | .I,.it tg e=>PI X tg e (Af X.K cl Γ c)
 | _,_=>True
section
variable {T:Tb}{Γ:Gm}{cl:Cl}{n:Nat}{X:Cx}{b:Bk}{c:C}{m:Md}{e:Expr}
theorem nU {env:Env} (h:plainT e=true):∀ whole,aaX e env whole=(do let v ←whole;abg e.pos;aas [v] (truthy v)):=fun whole=>by
 cases e with
 | UnaryOp op x p=>cases op<;>first | rfl | cases h
 | BoolOp _ _ _=>cases h
 | IfExp _ _ _ _=>cases h
 | Compare _ _ _ _=>cases h
 | _=>rfl
theorem aG (h:val m e=true) (p:PE X e (tp X.K cl Γ c)):Gs X cl Γ c m (.e e):=by
 cases m with
 | E=>exact p
 | P=>exact p.r
 | Q=>exact p.q
 | T=>exact Lz p (nU h)
 | _=>cases h
theorem eS (h:pD m=true) (p:PE X e (tp X.K cl Γ c)) (t:PT X e (tt X.K cl Γ c)):Gs X cl Γ c m (.e e):=by
 cases m with
 | E=>exact p
 | P=>exact p.r
 | Q=>exact p.q
 | T=>exact t
 | _=>cases h
theorem GC.gl (g:GC T Γ cl n X b) {x:Str} (h:b.gl x=true):Gl X x:=g.Q6 x (b_ h)
theorem GC.bl (g:GC T Γ cl n X b) {x:Str} (h:b.bt x=true):Gl X x/\X.mg x=none:=⟨g.gl (ae h).1,g.bt x (Zj.mp (ae h).2)⟩
theorem GC.JK (g:GC T Γ cl n X b) {x:Str} (h:b.JK x=true):yW X.env.scope x:=by
 rcases b_ h with h | h | h
 ·exact .inl (g.loc x h)
 ·exact .inr (.inl (g.M7 x h))
 ·rcases g.OM x h with q | q
  ·exact .inr (.inr q)
  ·exact .inr (.inl q)
theorem jr {x:Str} (h:okN x=true):(x==("__debug__" : Str))=false/\(x==("__classdict__" : Str))=false:=by
 obtain⟨h1,h2⟩:=ae h;exact⟨by simpa using h1,by simpa using h2⟩
theorem GC.nm (g:GC T Γ cl n X b) {k:Nat}{x:Str} (h:b.at_ k x=true):X.N[k]? = some x/\yW X.env.scope x/\(x==("__debug__" : Str))=false/\(x==("__classdict__" : Str))=false:=by
 obtain⟨h1,h3⟩:=ae h;obtain⟨h1,h2⟩:=ae h1;exact⟨by rw[g.hN];exact b_ h1,g.JK h2,jr h3⟩
theorem GC.hu (g:GC T Γ cl n X b):X.A.units+64<cLine:=g.room.units
theorem GC.J0 (g:GC T Γ cl n X b):X.A.units+66<cLine:=by have:=g.room.un;lia
theorem M8 {scope:Scope}{own:List Str}{ix:List Nat} (g:GC T Γ cl n X b) (h:qL b scope own ix=true):bm X.N X.env.scope scope own (ix.map fun i=>b.N.getD i W1) ix:=by
 unfold qL at h;obtain⟨h,h9⟩:=ae h;obtain⟨h,h8⟩:=ae h;obtain⟨h,h7⟩:=ae h;obtain⟨h,h6⟩:=ae h;obtain⟨h,h5⟩:=ae h;obtain⟨h,h4⟩:=ae h;obtain⟨h,h3⟩:=ae h;obtain⟨h1,h2⟩:=ae h;rw[Wm] at h2 h3 h4 h5 h6 h7 h8;refine⟨b_ h1,fun y hy=>b_ (h2 y hy),fun y hy=>b_ (h3 y hy),fun y hy=>b_ (h4 y hy),fun x hx=>(b_ (h5 x hx):_∨_),fun x hx=>b_ (h6 x hx),fun x hx=>?_,?_,b_ h9⟩
 ·rcases b_ (h7 x hx) with q | q
  ·exact .inl (g.M7 x q)
  ·exact (g.OM x q).symm
 ·rw[g.hN,L_];refine W5 fun i hi=>?_
  have:=b_ (h8 i hi);show b.N[i]? = some (b.N.getD i W1);rw[A_,c_ this];rfl
theorem GC.comp {scope:Scope}{own cu:List Str}{C:Addr}{s₀:j_}{H₀:Hp}{ex:List Addr}{pn:List (Addr×Obj)} (g:GC T Γ cl n X b):GC T Γ cl n (X.comp scope own cu C s₀ H₀ ex pn) ⟨own++cu,scope⟩ where
 hN:=rfl
 calm:=g.calm
 loc:=fun x h=>by rcases bu (env:=X.env) h with q | ⟨q,_⟩;exact q;cases q
 M7:=fun x h=>by rcases bu (env:=X.env) h with q | ⟨q,_⟩;exact q;cases q
 OM:=fun x h=>by rcases bu (env:=X.env) h with q | ⟨_,q⟩;exact .inl q;exact .inr q
 Q6:=fun x h=>by rcases bu (env:=X.env) h with q | ⟨q,_⟩;exact q;cases q
 room:=g.room
 F:=g.F
 bt:=g.bt
end
end PV
namespace PV
open PySem L2 SH
section
variable {T:Tb}{Γ:Gm}{cl:Cl}{n:Nat}
def Ok (T:Tb) (Γ:Gm) (cl:Cl) (n:Nat) (c:C):Prop:=∀ (m:Md) (b:Bk) (x:Ax),aI T c m b x=true->∀ X,GC T Γ cl n X b->Gs X cl Γ c m x
theorem Q7 (k:Int):Ok T Γ cl n (.i k):=fun m b x h X g=>by
 obtain⟨e,rfl,h⟩:=av h;obtain⟨hv,h⟩:=ae h;obtain⟨q,j,p,rfl,h⟩:=rX h
 cases b_ h
 exact aG hv Uy
theorem Q8 (k:Str):Ok T Γ cl n (.s k):=fun m b x h X g=>by
 obtain⟨e,rfl,h⟩:=av h;obtain⟨hv,h⟩:=ae h;obtain⟨q,j,p,rfl,h⟩:=rX h
 cases b_ h
 exact aG hv Uz
theorem Q9 (k:Bool):Ok T Γ cl n (.b k):=fun m b x h X g=>by
 obtain⟨e,rfl,h⟩:=av h;obtain⟨hv,h⟩:=ae h;obtain⟨q,j,p,rfl,h⟩:=rX h
 cases b_ h
 exact aG hv UA
theorem Ra (k:Nat):Ok T Γ cl n (.v k):=fun m b x h X g=>by
 obtain⟨e,rfl,h⟩:=av h;obtain⟨hv,h⟩:=ae h;obtain⟨y,p,rfl,h⟩:=cy h;obtain⟨h1,h2,h3,h4⟩:=g.nm h;exact aG hv (UB h1 h2 h3 h4)
theorem Rb (k:Nat):Ok T Γ cl n (.o k):=fun m b x h X g=>by
 obtain⟨e,rfl,h⟩:=av h;obtain⟨hv,h⟩:=ae h;obtain⟨y,p,rfl,h⟩:=cy h;obtain⟨h1,h2,h3,h4⟩:=g.nm h;have q:PE X (.Name y p) (tr X.K cl Γ (.o k)):=Sz h1 h2 h3 h4
 cases m with
 | P=>exact q
 | Q=>exact q.rq
 | _=>cases hv
theorem Rc {c:C} (ih:Ok T Γ cl n c):Ok T Γ cl n (.d c):=fun m b x h X g=>by
 obtain⟨hv,h⟩:=ae h;obtain⟨e,rfl,h⟩:=av h
 cases m with
 | Q=>exact UC (ih .E b _ h X g)
 | _=>cases hv
theorem Re (k:Nat):Ok T Γ cl n (.g k):=fun m b x h X g=>by
 obtain⟨e,rfl,h⟩:=av h;obtain⟨hv,h⟩:=ae h;obtain⟨y,p,rfl,h⟩:=cy h;obtain⟨h,h3⟩:=ae h;obtain⟨h1,h2⟩:=ae h;obtain⟨u,v,e1,e2,e3⟩:=g.F.cs k y (b_ h1) (jr h3).1;exact aG hv ((B0 (g.gl h2) e1 e2 (jr h3).1).imp fun σ H Q q=>OD (c:=.g k) (d:=Γ.cs k) (fun _ _ _ z=>z) e3 q)
theorem HK:Ok T Γ cl n .nil:=fun m b x h X g=>by
 cases m<;>cases x<;>first | (cases h;done) | skip
 ·rename_i es
  cases es with
  | nil=>exact LA
  | cons _ _=>cases h
 ·rename_i o
  cases o with
  | none=>exact G4
  | some _=>cases h
 ·rename_i es
  cases es with
  | nil=>exact Hk
  | cons _ _=>cases h
theorem HL {X:Cx}{e:Expr}{ca:C} (ha:PE X e (tp X.K cl Γ ca)):PO X (some e) (to X.K cl Γ (.cons ca .nil)):=(Cj ha).imp fun σ H Q h=>by
 obtain⟨B,ρ,M,G,k,h1,h2,h3⟩:=h;refine⟨B,ρ,M,G,_,h1,h2,fun d v M' G' H' f i hd=>?_⟩
 cases d with
 | int n=>unfold Is at i;exact⟨n,i,h3 (some n) M' G' H' f hd⟩
 | _=>exact (show False from hd).elim
theorem Do {a r:C} (aE:Ok T Γ cl n a) (AJ:Ok T Γ cl n r):Ok T Γ cl n (.cons a r):=fun m b x h X g=>by
 cases m with
 | A =>
  obtain⟨es,rfl,h⟩:=AG h;obtain⟨e,es,rfl,h⟩:=jq h;obtain⟨h,h3⟩:=ae h;obtain⟨h1,h2⟩:=ae h;exact GS (aE .E b _ h2 X g) (AJ .A b _ h3 X g) h1
 | B =>
  obtain⟨es,rfl,h⟩:=AG h;obtain⟨e,es,rfl,h⟩:=jq h;obtain⟨h,h3⟩:=ae h;obtain⟨h1,h2⟩:=ae h;rcases HD h2 with ⟨k,rfl,h2⟩ | h2
  ·obtain⟨y,p,rfl,h2⟩:=cy h2;obtain⟨q1,q2,q3,q4⟩:=g.nm h2;exact QK q1 q2 q3 q4 (AJ .B b _ h3 X g) h1
  ·exact C4 (aE .E b _ h2 X g) (AJ .B b _ h3 X g) h1
 | O =>
  obtain⟨o,rfl,h⟩:=M6 h
  cases o with
  | none=>cases h
  | some e =>
   rcases xl h with ⟨rfl,h⟩ | h
   ·exact HL (aE .E b _ h X g)
   ·exact ff h
 | _=>cases h
theorem HM {o:qI}{a c:C} (aE:Ok T Γ cl n a) (cz:Ok T Γ cl n c):Ok T Γ cl n (.bin o a c):=fun m b x h X g=>by
 obtain⟨e,rfl,h⟩:=av h;obtain⟨hv,h⟩:=ae h;obtain⟨l,op,r,p,rfl,h⟩:=xm h;obtain⟨h,h3⟩:=ae h;obtain⟨h1,h2⟩:=ae h
 cases b_ h1
 exact aG hv (Lw (aE .E b _ h2 X g) (cz .E b _ h3 X g))
theorem HN {a:C} (aE:Ok T Γ cl n a):Ok T Γ cl n (.neg a):=fun m b x h X g=>by
 obtain⟨e,rfl,h⟩:=av h;obtain⟨hv,h⟩:=ae h;obtain⟨op,y,p,rfl,h⟩:=AH h;obtain⟨h1,h2⟩:=ae h
 cases b_ h1
 exact aG hv (Lx (aE .E b _ h2 X g))
theorem HP {o:rL}{a c:C} (aE:Ok T Γ cl n a) (cz:Ok T Γ cl n c):Ok T Γ cl n (.cmp o a c):=fun m b x h X g=>by
 obtain⟨e,rfl,h⟩:=av h;obtain⟨hv,h⟩:=ae h;obtain⟨l,op,r,p,rfl,h⟩:=jo h;obtain⟨h,h3⟩:=ae h;obtain⟨h1,h2⟩:=ae h
 cases b_ h1
 exact eS hv (Ly (aE .E b _ h2 X g) (cz .E b _ h3 X g)) (GX (aE .E b _ h2 X g) (cz .E b _ h3 X g))
theorem HQ {o1 o2:rL}{a c d:C} (aE:Ok T Γ cl n a) (cz:Ok T Γ cl n c) (SV:Ok T Γ cl n d):Ok T Γ cl n (.Ad o1 o2 a c d):=fun m b x h X g=>by
 obtain⟨e,rfl,h⟩:=av h;obtain⟨hv,h⟩:=ae h;obtain⟨l,p1,p2,r,s,p,rfl,h⟩:=HE h;obtain⟨h,h5⟩:=ae h;obtain⟨h,h4⟩:=ae h;obtain⟨h,h3⟩:=ae h;obtain⟨h1,h2⟩:=ae h
 cases b_ h1
 cases b_ h2
 exact eS hv (LX (aE .E b _ h3 X g) (cz .E b _ h4 X g) (SV .E b _ h5 X g)) (LY (aE .E b _ h3 X g) (cz .E b _ h4 X g) (SV .E b _ h5 X g))
theorem M9 {ng:Bool}{a c:C} (aE:Ok T Γ cl n a) (cz:Ok T Γ cl n c):Ok T Γ cl n (.eq ng a c):=fun m b x h X g=>by
 obtain⟨e,rfl,h⟩:=av h;obtain⟨hv,h⟩:=ae h;obtain⟨l,op,r,p,rfl,h⟩:=jo h;obtain⟨h,h3⟩:=ae h;obtain⟨h1,h2⟩:=ae h
 cases b_ h1
 exact eS hv (s_eq g.hu (aE .P b _ h2 X g) (cz .Q b _ h3 X g)) (QC g.hu (aE .P b _ h2 X g) (cz .Q b _ h3 X g))
theorem HR {ng:Bool}{a c:C} (aE:Ok T Γ cl n a) (cz:Ok T Γ cl n c):Ok T Γ cl n (.BL ng a c):=fun m b x h X g=>by
 obtain⟨e,rfl,h⟩:=av h;obtain⟨hv,h⟩:=ae h;obtain⟨l,op,r,p,rfl,h⟩:=jo h;obtain⟨h,h3⟩:=ae h;obtain⟨h1,h2⟩:=ae h
 cases b_ h1
 exact eS hv (LM g.hu (aE .E b _ h2 X g).r (cz .E b _ h3 X g).q) (LN g.hu (aE .E b _ h2 X g).r (cz .E b _ h3 X g).q)
theorem Na (k:Nat):Ok T Γ cl n (.bo k):=fun m b x h X g=>ff h
theorem HS {ng:Bool}{a c:C} (aE:Ok T Γ cl n a) (cz:Ok T Γ cl n c):Ok T Γ cl n (.w9 ng a c):=fun m b x h X g=>by
 obtain⟨e,rfl,h⟩:=av h;obtain⟨hv,h⟩:=ae h;obtain⟨l,op,r,p,rfl,h⟩:=jo h;obtain⟨h,h4⟩:=ae h;obtain⟨h,h3⟩:=ae h;obtain⟨h1,h2⟩:=ae h
 cases b_ h1
 exact eS hv (LO g.J0 (aE .P b _ h3 X g) (cz .Q b _ h4 X g) h2) (LP g.J0 (aE .P b _ h3 X g) (cz .Q b _ h4 X g) h2)
theorem HU {a c:C} (aE:Ok T Γ cl n a) (cz:Ok T Γ cl n c):Ok T Γ cl n (.ins a c):=fun m b x h X g=>by
 obtain⟨e,rfl,h⟩:=av h;obtain⟨hv,h⟩:=ae h;obtain⟨l,op,r,p,rfl,h⟩:=jo h;obtain⟨h,h4⟩:=ae h;obtain⟨h,h3⟩:=ae h;obtain⟨h1,h2⟩:=ae h
 cases b_ h1
 exact eS hv (LQ (aE .E b _ h3 X g) (cz .E b _ h4 X g) h2) (LR (aE .E b _ h3 X g) (cz .E b _ h4 X g) h2)
theorem HV {a c:C} (aE:Ok T Γ cl n a) (cz:Ok T Γ cl n c):Ok T Γ cl n (.ind a c):=fun m b x h X g=>by
 obtain⟨e,rfl,h⟩:=av h;obtain⟨hv,h⟩:=ae h;obtain⟨l,op,r,p,rfl,h⟩:=jo h;obtain⟨h,h4⟩:=ae h;obtain⟨h,h3⟩:=ae h;obtain⟨h1,h2⟩:=ae h
 cases b_ h1
 exact eS hv (LU g.hu (aE .E b _ h3 X g) (cz .E b _ h4 X g) h2) (LV g.hu (aE .E b _ h3 X g) (cz .E b _ h4 X g) h2)
theorem HW {a:C} (aE:Ok T Γ cl n a):Ok T Γ cl n (.one a):=fun m b x h X g=>by
 obtain⟨e,rfl,h⟩:=av h;obtain⟨op,es,p,rfl,h⟩:=v5 h;obtain⟨y,rfl,h⟩:=bE h;have w:PT X y (tt X.K cl Γ a)->PW X (.BoolOp op [y] p) (tt X.K cl Γ (.one a)):=fun q=>by cases op;exact w_and1 q;exact w_or1 q
 cases m with
 | E=>exact Ap (aE .E b _ h X g)
 | P=>exact (Ap (aE .E b _ h X g)).r
 | Q=>exact (Ap (aE .E b _ h X g)).q
 | T=>exact (w (aE .T b _ h X g)).pt
 | W=>exact w (aE .T b _ h X g)
 | _=>cases h
theorem HX {a c:C} (aE:Ok T Γ cl n a) (cz:Ok T Γ cl n c):Ok T Γ cl n (.and a c):=fun m b x h X g=>by
 obtain⟨e,rfl,h⟩:=av h;obtain⟨op,es,p,rfl,h⟩:=v5 h;obtain⟨h1,h⟩:=ae h
 cases b_ h1
 obtain⟨y,r,rfl,h⟩:=jq h;obtain⟨z,r,rfl,h⟩:=jq h
 cases m with
 | E=>exact Aq (aE .E b _ (ae h).1 X g) (cz .E b _ (ae h).2 X g)
 | P=>exact (Aq (aE .E b _ (ae h).1 X g) (cz .E b _ (ae h).2 X g)).r
 | Q=>exact (Aq (aE .E b _ (ae h).1 X g) (cz .E b _ (ae h).2 X g)).q
 | T=>exact (w_and (aE .T b _ (ae h).1 X g) (cz .W b _ (ae h).2 X g)).pt
 | W=>exact w_and (aE .T b _ (ae h).1 X g) (cz .W b _ (ae h).2 X g)
 | _=>cases h
theorem Nb {a c:C} (aE:Ok T Γ cl n a) (cz:Ok T Γ cl n c):Ok T Γ cl n (.or a c):=fun m b x h X g=>by
 obtain⟨e,rfl,h⟩:=av h;obtain⟨op,es,p,rfl,h⟩:=v5 h;obtain⟨h1,h⟩:=ae h
 cases b_ h1
 obtain⟨y,r,rfl,h⟩:=jq h;obtain⟨z,r,rfl,h⟩:=jq h
 cases m with
 | E=>exact G0 (aE .E b _ (ae h).1 X g) (cz .E b _ (ae h).2 X g)
 | P=>exact (G0 (aE .E b _ (ae h).1 X g) (cz .E b _ (ae h).2 X g)).r
 | Q=>exact (G0 (aE .E b _ (ae h).1 X g) (cz .E b _ (ae h).2 X g)).q
 | T=>exact (w_or (aE .T b _ (ae h).1 X g) (cz .W b _ (ae h).2 X g)).pt
 | W=>exact w_or (aE .T b _ (ae h).1 X g) (cz .W b _ (ae h).2 X g)
 | _=>cases h
theorem HY {a:C} (aE:Ok T Γ cl n a):Ok T Γ cl n (.not a):=fun m b x h X g=>by
 obtain⟨e,rfl,h⟩:=av h;obtain⟨hv,h⟩:=ae h;obtain⟨op,y,p,rfl,h⟩:=AH h;obtain⟨h1,h2⟩:=ae h
 cases b_ h1
 cases m with
 | E=>exact Ar (aE .E b _ h2 X g)
 | P=>exact (Ar (aE .E b _ h2 X g)).r
 | Q=>exact (Ar (aE .E b _ h2 X g)).q
 | T=>exact LZ (aE .T b _ h2 X g)
 | _=>cases hv
theorem Nc {a:C} (aE:Ok T Γ cl n a):Ok T Γ cl n (.tr a):=fun m b x h X g=>by
 obtain⟨hv,h1⟩:=ae h;obtain⟨e,rfl,h2⟩:=av h1
 cases m with
 | T=>exact QE (aE .Q b _ (ae h2).2 X g) (nU (ae h2).1)
 | _=>cases hv
theorem HZ {t a c:C} (H9:Ok T Γ cl n t) (aE:Ok T Γ cl n a) (cz:Ok T Γ cl n c):Ok T Γ cl n (.GA t a c):=fun m b x h X g=>by
 obtain⟨e,rfl,h⟩:=av h;obtain⟨hv,h⟩:=ae h;obtain⟨y,z,u,p,rfl,h⟩:=HF h;obtain⟨h,h3⟩:=ae h;obtain⟨h1,h2⟩:=ae h;exact aG hv (L0 (H9 .T b _ h1 X g) (aE .E b _ h2 X g) (cz .E b _ h3 X g))
theorem Ia {a:C} (aE:Ok T Γ cl n a):Ok T Γ cl n (.tup a):=fun m b x h X g=>by
 obtain⟨e,rfl,h⟩:=av h;obtain⟨hv,h⟩:=ae h;obtain⟨es,j,p,rfl,h⟩:=HG h;exact aG hv (LC (aE .A b _ h X g))
theorem Nf {a:C} (aE:Ok T Γ cl n a):Ok T Γ cl n (.fr a):=fun m b x h X g=>by
 obtain⟨e,rfl,h⟩:=av h;obtain⟨hv,h⟩:=ae h;exact aG hv (QB (aE .F b _ h X g))
theorem Ib {a:C} (aE:Ok T Γ cl n a):Ok T Γ cl n (.CO a):=fun m b x h X g=>by
 obtain⟨e,rfl,h⟩:=av h;obtain⟨hv,h⟩:=ae h;exact aG hv (LB (aE .F b _ h X g))
theorem ia {m:Md} (h:aI.Dn m=true):m=.F:=by cases m<;>first | rfl | cases h
theorem lv {m:Md} (h:aI.Ag m=true):m=.I:=by cases m<;>first | rfl | cases h
theorem Ic {a:C} (aE:Ok T Γ cl n a):Ok T Γ cl n (.jl a):=fun m b x h X g=>by
 obtain⟨hv,h⟩:=ae h;obtain⟨e,rfl,h⟩:=av h;obtain⟨es,p,rfl,h⟩:=HI h
 cases ia hv
 exact LD (aE .A b _ h X g)
theorem Ie {a:C} (aE:Ok T Γ cl n a):Ok T Γ cl n (.xa a):=fun m b x h X g=>by
 obtain⟨hv,h⟩:=ae h;obtain⟨e,rfl,h⟩:=av h;obtain⟨y,es,q,p,rfl,h⟩:=a9 h;obtain⟨h,h3⟩:=ae h;obtain⟨h1,h2⟩:=ae h;obtain⟨u,rfl,h3⟩:=bE h3
 cases ia hv
 have hb:=g.bl h2
 cases b_ h1
 exact LF hb.1 hb.2 (aE .Q b _ (ae h3).2 X g) (ae h3).1
theorem Ig {a lo hi:C} (aE:Ok T Γ cl n a) (Ng:Ok T Γ cl n lo) (Nh:Ok T Γ cl n hi):Ok T Γ cl n (.Ae a lo hi):=fun m b x h X g=>by
 obtain⟨hv,h⟩:=ae h;obtain⟨e,rfl,h⟩:=av h;obtain⟨y,s,p,rfl,h⟩:=jp h;obtain⟨l,r,q,rfl,h⟩:=v6 h;obtain⟨h,h3⟩:=ae h;obtain⟨h1,h2⟩:=ae h
 cases ia hv
 exact L6 (aE .P b _ h1 X g) (Ng .O b _ h2 X g) (Nh .O b _ h3 X g)
theorem Ih {a lo hi:C} (aE:Ok T Γ cl n a) (Ng:Ok T Γ cl n lo) (Nh:Ok T Γ cl n hi):Ok T Γ cl n (.slt a lo hi):=fun m b x h X g=>by
 obtain⟨e,rfl,h⟩:=av h;obtain⟨hv,h⟩:=ae h;obtain⟨y,s,p,rfl,h⟩:=jp h;obtain⟨l,r,q,rfl,h⟩:=v6 h;obtain⟨h,h3⟩:=ae h;obtain⟨h1,h2⟩:=ae h;exact aG hv (L5 (aE .P b _ h1 X g) (Ng .O b _ h2 X g) (Nh .O b _ h3 X g))
theorem Ii {a lo hi:C} (aE:Ok T Γ cl n a) (Ng:Ok T Γ cl n lo) (Nh:Ok T Γ cl n hi):Ok T Γ cl n (.CQ a lo hi):=fun m b x h X g=>by
 obtain⟨e,rfl,h⟩:=av h;obtain⟨hv,h⟩:=ae h;obtain⟨y,s,p,rfl,h⟩:=jp h;obtain⟨l,r,q,rfl,h⟩:=v6 h;obtain⟨h,h3⟩:=ae h;obtain⟨h1,h2⟩:=ae h;exact aG hv (L4 (aE .P b _ h1 X g) (Ng .O b _ h2 X g) (Nh .O b _ h3 X g))
theorem Ij {a c:C} (aE:Ok T Γ cl n a) (cz:Ok T Γ cl n c):Ok T Γ cl n (.cat a c):=fun m b x h X g=>by
 obtain⟨hv,h⟩:=ae h;obtain⟨e,rfl,h⟩:=av h;obtain⟨l,op,r,p,rfl,h⟩:=xm h;obtain⟨h,h3⟩:=ae h;obtain⟨h1,h2⟩:=ae h
 cases ia hv
 cases b_ h1
 exact L7 (aE .P b _ h2 X g) (cz .Q b _ h3 X g)
theorem Ik {a c:C} (aE:Ok T Γ cl n a) (cz:Ok T Γ cl n c):Ok T Γ cl n (.GG a c):=fun m b x h X g=>by
 obtain⟨hv,h⟩:=ae h;obtain⟨e,rfl,h⟩:=av h;obtain⟨y,es,q,p,rfl,h⟩:=a9 h;obtain⟨h,h3⟩:=ae h;obtain⟨h1,h2⟩:=ae h;obtain⟨u,rfl,h3⟩:=bE h3;obtain⟨z,us,q',p',rfl,h3⟩:=a9 h3;obtain⟨h3,h6⟩:=ae h3;obtain⟨h4,h5⟩:=ae h3;obtain⟨s,w,rfl,h6⟩:=lr h6;obtain⟨h6,h9⟩:=ae h6;obtain⟨h6,h8⟩:=ae h6;obtain⟨h6,h7⟩:=ae h6
 cases ia hv
 have hb:=g.bl h2;have u9:=g.bl h5
 cases b_ h1
 cases b_ h4
 exact Me g.calm hb.1 hb.2 u9.1 u9.2 (aE .E b _ h8 X g) (cz .E b _ h9 X g) h6 h7
theorem Il {a:C} (aE:Ok T Γ cl n a):Ok T Γ cl n (.GH a):=fun m b x h X g=>by
 obtain⟨hv,h⟩:=ae h;obtain⟨e,rfl,h⟩:=av h;obtain⟨y,es,q,p,rfl,h⟩:=a9 h;obtain⟨h,h3⟩:=ae h;obtain⟨h1,h2⟩:=ae h;obtain⟨u,rfl,h3⟩:=bE h3;obtain⟨z,us,q',p',rfl,h3⟩:=a9 h3;obtain⟨h3,h6⟩:=ae h3;obtain⟨h4,h5⟩:=ae h3;obtain⟨s,rfl,h6⟩:=bE h6
 cases ia hv
 have hb:=g.bl h2;have u9:=g.bl h5
 cases b_ h1
 cases b_ h4
 exact Mf g.calm hb.1 hb.2 u9.1 u9.2 (aE .E b _ (ae h6).2 X g) (ae h6).1
end
end PV
namespace PV
open PySem L2 SH
section
variable {T:Tb}{Γ:Gm}{cl:Cl}{n:Nat}
theorem Im {a:C} (aE:Ok T Γ cl n a):Ok T Γ cl n (.len a):=fun m b x h X g=>by
 obtain⟨e,rfl,h⟩:=av h;obtain⟨hv,h⟩:=ae h;obtain⟨y,es,q,p,rfl,h⟩:=a9 h;obtain⟨h,h3⟩:=ae h;obtain⟨h1,h2⟩:=ae h;obtain⟨u,rfl,h3⟩:=bE h3;have hb:=g.bl h2
 cases b_ h1
 exact aG hv (LG hb.1 hb.2 (aE .Q b _ (ae h3).2 X g) (ae h3).1)
theorem Io {a:C} (aE:Ok T Γ cl n a):Ok T Γ cl n (.all a):=fun m b x h X g=>by
 obtain⟨e,rfl,h⟩:=av h;obtain⟨hv,h⟩:=ae h;obtain⟨y,es,q,p,rfl,h⟩:=a9 h;obtain⟨h,h3⟩:=ae h;obtain⟨h1,h2⟩:=ae h;obtain⟨u,rfl,h3⟩:=bE h3;have hb:=g.bl h2
 cases b_ h1
 exact aG hv (LJ g.calm hb.1 hb.2 (aE .Q b _ (ae h3).2 X g) (ae h3).1)
theorem Iq {a:C} (aE:Ok T Γ cl n a):Ok T Γ cl n (.any a):=fun m b x h X g=>by
 obtain⟨e,rfl,h⟩:=av h;obtain⟨hv,h⟩:=ae h;obtain⟨y,es,q,p,rfl,h⟩:=a9 h;obtain⟨h,h3⟩:=ae h;obtain⟨h1,h2⟩:=ae h;obtain⟨u,rfl,h3⟩:=bE h3;have hb:=g.bl h2
 cases b_ h1
 exact aG hv (LK g.calm hb.1 hb.2 (aE .Q b _ (ae h3).2 X g) (ae h3).1)
theorem Dp {a:C} (aE:Ok T Γ cl n a):Ok T Γ cl n (.mz a):=fun m b x h X g=>by
 obtain⟨e,rfl,h⟩:=av h;obtain⟨hv,h⟩:=ae h;obtain⟨y,es,q,p,rfl,h⟩:=a9 h;obtain⟨h,h3⟩:=ae h;obtain⟨h1,h2⟩:=ae h;obtain⟨u,rfl,h3⟩:=bE h3;have hb:=g.bl h2
 cases b_ h1
 exact aG hv (GV hb.1 hb.2 (aE .Q b _ (ae h3).2 X g) (ae h3).1)
theorem Ir {a:C} (aE:Ok T Γ cl n a):Ok T Γ cl n (.yZ a):=fun m b x h X g=>by
 obtain⟨e,rfl,h⟩:=av h;obtain⟨hv,h⟩:=ae h;obtain⟨y,es,q,p,rfl,h⟩:=a9 h;obtain⟨h,h3⟩:=ae h;obtain⟨h1,h2⟩:=ae h;obtain⟨u,rfl,h3⟩:=bE h3;have hb:=g.bl h2
 cases b_ h1
 exact aG hv (LH hb.1 hb.2 (aE .Q b _ (ae h3).2 X g) (ae h3).1)
theorem Iu {a:C} (aE:Ok T Γ cl n a):Ok T Γ cl n (.Eb a):=fun m b x h X g=>by
 obtain⟨e,rfl,h⟩:=av h;obtain⟨hv,h⟩:=ae h;obtain⟨y,es,q,p,rfl,h⟩:=a9 h;obtain⟨h,h3⟩:=ae h;obtain⟨h1,h2⟩:=ae h;obtain⟨u,rfl,h3⟩:=bE h3;have hb:=g.bl h2
 cases b_ h1
 exact aG hv (LI hb.1 hb.2 (aE .Q b _ (ae h3).2 X g) (ae h3).1)
theorem Iw {a:C} (aE:Ok T Γ cl n a):Ok T Γ cl n (.yh a):=fun m b x h X g=>by
 obtain⟨e,rfl,h⟩:=av h;obtain⟨hv,h⟩:=ae h;obtain⟨y,es,q,p,rfl,h⟩:=a9 h;obtain⟨h,h3⟩:=ae h;obtain⟨h1,h2⟩:=ae h;obtain⟨u,rfl,h3⟩:=bE h3;have hb:=g.bl h2
 cases b_ h1
 exact aG hv (Ma g.calm hb.1 hb.2 (aE .Q b _ (ae h3).2 X g) (ae h3).1)
theorem Dq {a c:C} (aE:Ok T Γ cl n a) (cz:Ok T Γ cl n c):Ok T Γ cl n (.min2 a c):=fun m b x h X g=>by
 obtain⟨e,rfl,h⟩:=av h;obtain⟨hv,h⟩:=ae h;obtain⟨y,es,q,p,rfl,h⟩:=a9 h;obtain⟨h,h3⟩:=ae h;obtain⟨h1,h2⟩:=ae h;obtain⟨u,w,rfl,h3⟩:=lr h3;obtain⟨h3,h6⟩:=ae h3;obtain⟨h3,h5⟩:=ae h3;obtain⟨h3,h4⟩:=ae h3;have hb:=g.bl h2
 cases b_ h1
 exact aG hv (G8 g.calm hb.1 hb.2 (aE .E b _ h5 X g) (cz .E b _ h6 X g) h3 h4)
theorem Ix {a:C}{t:Nat} (aE:Ok T Γ cl n a):Ok T Γ cl n (.rM a t):=fun m b x h X g=>by
 obtain⟨e,rfl,h⟩:=av h;obtain⟨hv,h⟩:=ae h;obtain⟨y,es,q,p,rfl,h⟩:=a9 h;obtain⟨h,h3⟩:=ae h;obtain⟨h1,h2⟩:=ae h;obtain⟨u,w,rfl,h3⟩:=lr h3;obtain⟨z,q2,rfl,h3⟩:=cy h3;obtain⟨h3,h7⟩:=ae h3;obtain⟨h3,h6⟩:=ae h3;obtain⟨h3,h5⟩:=ae h3;obtain⟨h3,h4⟩:=ae h3;have hb:=g.bl h2;have u9:=g.bl h5
 cases b_ h1
 exact aG hv (L9 (b_ h3) (b_ h4) hb.1 hb.2 u9.1 u9.2 (aE .Q b _ h7 X g) h6)
theorem Iy {a c:C} (aE:Ok T Γ cl n a) (cz:Ok T Γ cl n c):Ok T Γ cl n (.cnt a c):=fun m b x h X g=>by
 obtain⟨e,rfl,h⟩:=av h;obtain⟨hv,h⟩:=ae h;obtain⟨o,y,es,q,p,rfl,h⟩:=hZ h;obtain⟨h,h4⟩:=ae h;obtain⟨h,h3⟩:=ae h;obtain⟨h1,h2⟩:=ae h;obtain⟨u,rfl,h4⟩:=bE h4;obtain⟨h4,h6⟩:=ae h4;obtain⟨h4,h5⟩:=ae h4
 cases b_ h1
 exact aG hv (Mb (aE .E b _ h5 X g) (cz .E b _ h6 X g) h2 h4 h3)
theorem Ni {a c:C} (aE:Ok T Γ cl n a) (cz:Ok T Γ cl n c):Ok T Γ cl n (.ix a c):=fun m b x h X g=>by
 obtain⟨e,rfl,h⟩:=av h;obtain⟨hv,h⟩:=ae h;obtain⟨y,z,p,rfl,h⟩:=jp h;obtain⟨h,h3⟩:=ae h;obtain⟨h1,h2⟩:=ae h;exact aG hv (QF (aE .P b _ h2 X g) (cz .E b _ h3 X g) h1)
theorem Iz {a c:C} (aE:Ok T Γ cl n a) (cz:Ok T Γ cl n c):Ok T Γ cl n (.yY a c):=fun m b x h X g=>by
 obtain⟨e,rfl,h⟩:=av h;obtain⟨hv,h⟩:=ae h;obtain⟨y,z,p,rfl,h⟩:=jp h;obtain⟨h,h3⟩:=ae h;obtain⟨h1,h2⟩:=ae h;exact aG hv (L3 (aE .E b _ h2 X g) (cz .E b _ h3 X g) h1)
theorem IA:Ok T Γ cl n .GF:=fun m b x h X g=>by
 obtain⟨e,rfl,h⟩:=av h;obtain⟨hv,h⟩:=ae h;obtain⟨p,rfl⟩:=HJ h;exact aG hv (ME g.F.wl)
theorem IB {a c:C} (aE:Ok T Γ cl n a) (cz:Ok T Γ cl n c):Ok T Γ cl n (.GJ a c):=fun m b x h X g=>by
 obtain⟨e,rfl,h⟩:=av h;obtain⟨hv,h⟩:=ae h;obtain⟨y,z,p,rfl,h⟩:=jp h;obtain⟨h,h3⟩:=ae h;obtain⟨h1,h2⟩:=ae h;exact aG hv (MF g.F.wl g.J0 (aE .E b _ h2 X g) (cz .E b _ h3 X g) h1)
theorem IC {a c:C} (aE:Ok T Γ cl n a) (cz:Ok T Γ cl n c):Ok T Γ cl n (.CS a c):=fun m b x h X g=>by
 obtain⟨e,rfl,h⟩:=av h;obtain⟨hv,h⟩:=ae h;obtain⟨l,op,r,p,rfl,h⟩:=jo h;obtain⟨h,h4⟩:=ae h;obtain⟨h,h3⟩:=ae h;obtain⟨h1,h2⟩:=ae h
 cases b_ h1
 exact eS hv (MG g.F.wl g.J0 (aE .E b _ h3 X g) (cz .E b _ h4 X g) h2) (MH g.F.wl g.J0 (aE .E b _ h3 X g) (cz .E b _ h4 X g) h2)
theorem IE {a:C}{f:Str} (aE:Ok T Γ cl n a):Ok T Γ cl n (.fld a f):=fun m b x h X g=>by
 obtain⟨e,rfl,h⟩:=av h;obtain⟨hv,h⟩:=ae h;obtain⟨y,f',p,rfl,h⟩:=v7 h;obtain⟨h,h3⟩:=ae h;obtain⟨h1,h2⟩:=ae h
 cases b_ h1
 exact aG hv (L8 g.F.at_ (aE .Q b _ h3 X g) h2)
theorem Dr {f:Nat}{a:C} (aE:Ok T Γ cl n a):Ok T Γ cl n (.call f a):=fun m b x h X g=>by
 obtain⟨e,rfl,h⟩:=av h;obtain⟨hv,h⟩:=ae h;obtain⟨y,es,q,p,rfl,h⟩:=a9 h;obtain⟨h,h6⟩:=ae h;obtain⟨h,h5⟩:=ae h;obtain⟨h,h4⟩:=ae h;obtain⟨h,h3⟩:=ae h;obtain⟨h1,h2⟩:=ae h
 cases es with
 | nil=>cases h5
 | cons e es=>exact aG hv (s_call g.F g.room (b_ h1) (g.gl h2) (jr h3).1 (aE .A b _ h6 X g) h4)
theorem IF {f:Nat}{a:C} (aE:Ok T Γ cl n a):Ok T Γ cl n (.xQ f a):=fun m b x h X g=>by
 obtain⟨e,rfl,h⟩:=av h;obtain⟨hv,h⟩:=ae h;obtain⟨y,es,q,p,rfl,h⟩:=a9 h;obtain⟨h,h6⟩:=ae h;obtain⟨h,h5⟩:=ae h;obtain⟨h,h4⟩:=ae h;obtain⟨h,h3⟩:=ae h;obtain⟨h1,h2⟩:=ae h
 cases es with
 | nil=>cases h5
 | cons e es=>exact aG hv (Mr g.F g.room (b_ h1) (g.gl h2) (jr h3).1 (aE .B b _ h6 X g) h4)
theorem AK {X:Cx}{b:Bk}{q:Nat}{a:C}{y:Str}{es:List Expr}{p p':Pos} (aE:Ok T Γ cl n a) (g:GC T Γ cl n X b) (h:(decide (T.cls[q]? = some y)&&b.gl y&&okN y&&es.all noStar && !es.isEmpty&&aI T a .A b (.es es))=true):PE X (.Call (.Name y p) es [] p') (OE X.K cl Γ q a):=by
 obtain⟨h,h6⟩:=ae h;obtain⟨h,h5⟩:=ae h;obtain⟨h,h4⟩:=ae h;obtain⟨h,h3⟩:=ae h;obtain⟨h1,h2⟩:=ae h
 cases es with
 | nil=>cases h5
 | cons e es=>exact Mu g.F g.room (b_ h1) (g.gl h2) (jr h3).1 (aE .A b _ h6 X g) h4
theorem Nj {q:Nat}{a:C} (aE:Ok T Γ cl n a):Ok T Γ cl n (.mk q a):=fun m b x h X g=>by
 obtain⟨e,rfl,h⟩:=av h;obtain⟨hv,h⟩:=ae h;obtain⟨y,es,q,p,rfl,h⟩:=a9 h;exact aG hv (QL (AK aE g h))
theorem Ds {k:Nat}{r a:C} (AJ:Ok T Γ cl n r) (aE:Ok T Γ cl n a):Ok T Γ cl n (.bR k r a):=fun m b x h X g=>by
 obtain⟨e,rfl,h⟩:=av h;obtain⟨hv,h⟩:=ae h;obtain⟨o,y,es,q,p,rfl,h⟩:=hZ h;obtain⟨h,h7⟩:=ae h;obtain⟨h,h6⟩:=ae h;obtain⟨h,h5⟩:=ae h;obtain⟨h,h4⟩:=ae h;obtain⟨h,h3⟩:=ae h;obtain⟨h1,h2⟩:=ae h
 have main:(!es.isEmpty&&aI T a .A b (.es es))=true->Gs X cl Γ (.bR k r a) m (.e (.Call (.Attribute o y q) es [] p)):=fun h8=>by
  cases es with
  | nil=>cases (ae h8).1
  | cons e es=>exact aG hv (Hh g.F g.room (b_ h1) (AJ .E b _ h6 X g) (aE .A b _ (ae h8).2 X g) h2 h3 (b_ h4) h5)
 rcases xl h7 with ⟨rfl,h7⟩ | h7
 ·cases es with
  | nil=>exact aG hv (C3 g.F g.room (b_ h1) (AJ .E b _ h6 X g) h2 h5)
  | cons _ _=>cases h7
 ·exact main h7
theorem IG {k:Nat}{r a:C} (AJ:Ok T Γ cl n r) (aE:Ok T Γ cl n a):Ok T Γ cl n (.GI k r a):=fun m b x h X g=>by
 obtain⟨e,rfl,h⟩:=av h;obtain⟨hv,h⟩:=ae h;obtain⟨o,y,es,q,p,rfl,h⟩:=hZ h;obtain⟨h,h8⟩:=ae h;obtain⟨h,h7⟩:=ae h;obtain⟨h,h6⟩:=ae h;obtain⟨h,h5⟩:=ae h;obtain⟨h,h4⟩:=ae h;obtain⟨h,h3⟩:=ae h;obtain⟨h1,h2⟩:=ae h
 cases es with
 | nil=>cases h7
 | cons e es=>exact aG hv (Ms g.F g.room (b_ h1) (AJ .E b _ h6 X g) (aE .B b _ h8 X g) h2 h3 (b_ h4) h5)
theorem IH {a:C} (aE:Ok T Γ cl n a):Ok T Γ cl n (.fB a):=fun m b x h X g=>by
 obtain⟨hv,h⟩:=ae h;obtain⟨tg,e,rfl,h⟩:=qM h
 cases lv hv
 exact Mg (aE .E b _ h X g)
theorem II {a:C} (aE:Ok T Γ cl n a):Ok T Γ cl n (.jL a):=fun m b x h X g=>by
 obtain⟨hv,h⟩:=ae h;obtain⟨tg,e,rfl,h⟩:=qM h;obtain⟨y,es,q,p,rfl,h⟩:=a9 h;obtain⟨h,h3⟩:=ae h;obtain⟨h1,h2⟩:=ae h;obtain⟨u,rfl,h3⟩:=bE h3
 cases lv hv
 have hb:=g.bl h2
 cases b_ h1
 exact Mh hb.1 hb.2 (aE .E b _ (ae h3).2 X g) (ae h3).1
theorem IJ {a c:C} (aE:Ok T Γ cl n a) (cz:Ok T Γ cl n c):Ok T Γ cl n (.Ea a c):=fun m b x h X g=>by
 obtain⟨hv,h⟩:=ae h;obtain⟨tg,e,rfl,h⟩:=qM h;obtain⟨y,es,q,p,rfl,h⟩:=a9 h;obtain⟨h,h3⟩:=ae h;obtain⟨h1,h2⟩:=ae h;obtain⟨u,w,rfl,h3⟩:=lr h3;obtain⟨h3,h6⟩:=ae h3;obtain⟨h3,h5⟩:=ae h3;obtain⟨h3,h4⟩:=ae h3
 cases lv hv
 have hb:=g.bl h2
 cases b_ h1
 exact Mi hb.1 hb.2 (aE .E b _ h5 X g) (cz .E b _ h6 X g) h3 h4
theorem IK {a:C} (aE:Ok T Γ cl n a):Ok T Γ cl n (.rev a):=fun m b x h X g=>by
 obtain⟨hv,h⟩:=ae h;obtain⟨tg,e,rfl,h⟩:=qM h;obtain⟨y,es,q,p,rfl,h⟩:=a9 h;obtain⟨h,h3⟩:=ae h;obtain⟨h1,h2⟩:=ae h;obtain⟨u,rfl,h3⟩:=bE h3;obtain⟨z,us,q',p',rfl,h3⟩:=a9 h3;obtain⟨h3,h6⟩:=ae h3;obtain⟨h4,h5⟩:=ae h3;obtain⟨s,rfl,h6⟩:=bE h6
 cases lv hv
 have hb:=g.bl h2;have u9:=g.bl h5
 cases b_ h1
 cases b_ h4
 exact Mj hb.1 hb.2 u9.1 u9.2 (aE .E b _ (ae h6).2 X g) (ae h6).1
theorem AL {tg:Expr} (h:isTup tg=true):∃ es k p,tg=.Tuple es k p:=by
 cases tg<;>first | (cases h;done) | exact⟨_,_,_,rfl⟩
theorem IL {a:C} (aE:Ok T Γ cl n a):Ok T Γ cl n (.CP a):=fun m b x h X g=>by
 obtain⟨hv,h⟩:=ae h;obtain⟨tg,e,rfl,h⟩:=qM h;obtain⟨h0,h⟩:=ae h;obtain⟨ts,k,p0,rfl⟩:=AL h0;obtain⟨y,es,q,p,rfl,h⟩:=a9 h;obtain⟨h,h3⟩:=ae h;obtain⟨h1,h2⟩:=ae h;obtain⟨u,rfl,h3⟩:=bE h3
 cases lv hv
 have hb:=g.bl h2
 cases b_ h1
 exact Ml hb.1 hb.2 (aE .E b _ (ae h3).2 X g) (ae h3).1
theorem IM {a c:C} (aE:Ok T Γ cl n a) (cz:Ok T Γ cl n c):Ok T Γ cl n (.zip a c):=fun m b x h X g=>by
 obtain⟨hv,h⟩:=ae h;obtain⟨tg,e,rfl,h⟩:=qM h;obtain⟨h0,h⟩:=ae h;obtain⟨ts,k,p0,rfl⟩:=AL h0;obtain⟨y,es,q,p,rfl,h⟩:=a9 h;obtain⟨h,h3⟩:=ae h;obtain⟨h1,h2⟩:=ae h;obtain⟨u,w,rfl,h3⟩:=lr h3;obtain⟨h3,h6⟩:=ae h3;obtain⟨h3,h5⟩:=ae h3;obtain⟨h3,h4⟩:=ae h3
 cases lv hv
 have hb:=g.bl h2
 cases b_ h1
 exact Mm hb.1 hb.2 (aE .E b _ h5 X g) (cz .E b _ h6 X g) h3 h4
theorem nV {iter:Expr}{env:Env} (h:jn iter=true):∀ x,Xe iter env x=pure x:=fun x=>by
 cases iter<;>first | rfl | cases h
structure Er (Γ:Gm) (cl:Cl) (X:Cx) (b:Bk) (ct ce:C) (w:Nat) (ix:List Nat) (elt tg iter:Expr) (ifs:List Expr) (scope:Scope) (Pz:Prop):Prop where
 go:∃ own g,own.length=w/\bm X.N X.env.scope scope own (ix.map fun i=>b.N.getD i W1) ix/\Pz/\(∀ x,Xe iter X.env x=pure x)/\ub X.K cl w ix g /\
  ∀ (C:Addr) (s₀:j_) (H₀:Hp) (ex:List Addr) (pn:List (Addr×Obj)),PG (X.comp scope own (ix.map fun i=>b.N.getD i W1) C s₀ H₀ ex pn) tg g/\vF (X.comp scope own (ix.map fun i=>b.N.getD i W1) C s₀ H₀ ex pn) ifs (tt X.K cl Γ ct)/\PE (X.comp scope own (ix.map fun i=>b.N.getD i W1) C s₀ H₀ ex pn) elt (tp X.K cl Γ ce)
theorem IN {t:C} (h:aI.M0 t=true):t=.b true:=by
 cases t<;>first | exact ff h | skip
 rename_i v;cases v<;>first | rfl | exact ff h
theorem kh {ct ce:C}{w:Nat}{ix:List Nat}{X:Cx}{b:Bk}{elt tg iter:Expr}{ifs:List Expr}{scope:Scope}{β:Bool}{Pz:Prop} (Nk:β=true->Pz) (H9:Ok T Γ cl n ct) (Nl:Ok T Γ cl n ce) (g:GC T Γ cl n X b)
  (h:(AF tg fun own=>decide (own.length=w)&&qL b scope own ix&&jn iter&&β&&Dm ifs (aI.M0 ct) (fun q=>aI T ct .T ⟨own++ix.map fun i=>b.N.getD i W1,scope⟩ (.e q))&&aI T ce .E ⟨own++ix.map fun i=>b.N.getD i W1,scope⟩ (.e elt))=true):Er Γ cl X b ct ce w ix elt tg iter ifs scope Pz:=by
 have tail:∀ {own:List Str}{gg:TG},(decide (own.length=w)&&qL b scope own ix&&jn iter&&β&&Dm ifs (aI.M0 ct) (fun q=>aI T ct .T ⟨own++ix.map fun i=>b.N.getD i W1,scope⟩ (.e q))&&aI T ce .E ⟨own++ix.map fun i=>b.N.getD i W1,scope⟩ (.e elt))=true ->
   (own.length=w->ub X.K cl w ix gg) ->
   (∀ (C:Addr) (s₀:j_) (H₀:Hp) (ex:List Addr) (pn:List (Addr×Obj)),bm X.N X.env.scope scope own (ix.map fun i=>b.N.getD i W1) ix->PG (X.comp scope own (ix.map fun i=>b.N.getD i W1) C s₀ H₀ ex pn) tg gg)->Er Γ cl X b ct ce w ix elt tg iter ifs scope Pz:=fun {own gg} h hg U2=>by
  obtain⟨h,h6⟩:=ae h;obtain⟨h,h5⟩:=ae h;obtain⟨h,h4⟩:=ae h;obtain⟨h,h3⟩:=ae h;obtain⟨h1,h2⟩:=ae h;have hw:=b_ h1;have S:=M8 g h2;refine⟨own,gg,hw,S,Nk h4,nV h3,hg hw,fun C s₀ H₀ ex pn=>⟨U2 C s₀ H₀ ex pn S,?_,Nl .E _ _ h6 _ g.comp⟩⟩
  match ifs,h5 with
  | [],h5 =>
   cases IN h5
   exact fun pins s σ H Q I q=>zI pins s σ H Q I (Hl q)
  | [q],h5=>exact zJ (H9 .T _ _ h5 _ g.comp)
 have lk:∀ {own cu:List Str}{C:Addr}{s₀:j_}{H₀:Hp}{ex:List Addr}{pn:List (Addr×Obj)}{y:Str},Loc scope y->Loc (X.comp scope own cu C s₀ H₀ ex pn).env.scope y:=fun {own cu C s₀ H₀ ex pn y} q=>by
  rcases q with q | q<;>rcases bu (env:=X.env) q with z | ⟨z,_⟩
  ·exact .inl z
  ·cases z
  ·exact .inr z
  ·cases z
 rcases xo h with ⟨y,p,rfl,h⟩ | ⟨y,z,p1,p2,j,p,rfl,h⟩
 ·refine tail (gg:=dU 0) h (fun hw=>?_) fun C s₀ H₀ ex pn S=>?_
  ·subst hw;exact My
  ·exact mO S.nd rfl (lk (S.F5 y (by simp))) (.inl (by show abt [y] y=true;simp))
 ·refine tail (gg:=zf X.K 2 (jT (dU 0) (jT (dU 1) ze))) h (fun hw=>?_) fun C s₀ H₀ ex pn S=>?_
  ·subst hw;exact Mz
  ·exact z6 (X:=X.comp scope [y,z] _ C s₀ H₀ ex pn) g.calm S.nd rfl rfl (lk (S.F5 y (by simp))) (lk (S.F5 z (by simp))) (.inl (by show abt [y,z] y=true;simp)) (.inl (by show abt [y,z] z=true;simp))
theorem Du {ci ct ce:C}{w:Nat}{ix:List Nat} (Nk:Ok T Γ cl n ci) (H9:Ok T Γ cl n ct) (Nl:Ok T Γ cl n ce):Ok T Γ cl n (.comp ci w ix ct ce):=fun m b x h X g=>by
 obtain⟨hv,h⟩:=ae h;obtain⟨e,rfl,h⟩:=av h;obtain⟨elt,tg,iter,ifs,scope,p,rfl,h⟩:=rY h
 cases ia hv
 obtain⟨own,gg,hw,S,hi,hs,hg,hb⟩:=(kh (fun q=>Nk .I b _ q X g) H9 Nl g h).go;exact (wV g.calm S hi hb hs).imp fun σ H Q q=>rV hw hg q
theorem Dv {ci ct ce:C}{w:Nat}{ix:List Nat} (Nk:Ok T Γ cl n ci) (H9:Ok T Γ cl n ct) (Nl:Ok T Γ cl n ce):Ok T Γ cl n (.vQ ci w ix ct ce):=fun m b x h X g=>by
 obtain⟨hv,h⟩:=ae h;obtain⟨e,rfl,h⟩:=av h;obtain⟨elt,tg,iter,ifs,scope,p,rfl,h⟩:=rY h
 cases ia hv
 obtain⟨own,gg,hw,S,hi,hs,hg,hb⟩:=(kh (fun q=>Nk .E b _ q X g) H9 Nl g h).go;exact (wV g.calm S (wK hi) hb hs).imp fun σ H Q q=>C9 hw hg q
theorem sound:∀ c:C,Ok T Γ cl n c:=fun c=>by
 induction c with
 | i k=>exact Q7 k
 | s k=>exact Q8 k
 | b k=>exact Q9 k
 | v k=>exact Ra k
 | o k=>exact Rb k
 | d c h=>exact Rc h
 | g k=>exact Re k
 | nil=>exact HK
 | cons a r h1 h2=>exact Do h1 h2
 | bin o a b h1 h2=>exact HM h1 h2
 | neg a h=>exact HN h
 | cmp o a b h1 h2=>exact HP h1 h2
 | Ad o1 o2 a b c h1 h2 h3=>exact HQ h1 h2 h3
 | eq ng a b h1 h2=>exact M9 h1 h2
 | w9 ng a b h1 h2=>exact HS h1 h2
 | ins a b h1 h2=>exact HU h1 h2
 | ind a b h1 h2=>exact HV h1 h2
 | one a h=>exact HW h
 | and a b h1 h2=>exact HX h1 h2
 | or a b h1 h2=>exact Nb h1 h2
 | not a h=>exact HY h
 | tr a h=>exact Nc h
 | GA t a b h1 h2 h3=>exact HZ h1 h2 h3
 | tup a h=>exact Ia h
 | fr a h=>exact Nf h
 | CO a h=>exact Ib h
 | GF=>exact IA
 | jl a h=>exact Ic h
 | xa a h=>exact Ie h
 | Ae a l r h1 h2 h3=>exact Ig h1 h2 h3
 | cat a b h1 h2=>exact Ij h1 h2
 | GG a b h1 h2=>exact Ik h1 h2
 | GH a h=>exact Il h
 | comp it w ix t e h1 h2 h3=>exact Du h1 h2 h3
 | vQ it w ix t e h1 h2 h3=>exact Dv h1 h2 h3
 | bo k=>exact Na k
 | yY a k h1 h2=>exact Iz h1 h2
 | BL ng a b h1 h2=>exact HR h1 h2
 | xQ f a h=>exact IF h
 | GI m r a h1 h2=>exact IG h1 h2
 | fB a h=>exact IH h
 | jL a h=>exact II h
 | Ea a b h1 h2=>exact IJ h1 h2
 | rev a h=>exact IK h
 | CP a h=>exact IL h
 | zip a b h1 h2=>exact IM h1 h2
 | ix a b h1 h2=>exact Ni h1 h2
 | slt a l r h1 h2 h3=>exact Ih h1 h2 h3
 | CQ a l r h1 h2 h3=>exact Ii h1 h2 h3
 | fld a f h=>exact IE h
 | call f a h=>exact Dr h
 | bR k r a h1 h2=>exact Ds h1 h2
 | mk q a h=>exact Nj h
 | len a h=>exact Im h
 | rM a t h=>exact Ix h
 | all a h=>exact Io h
 | any a h=>exact Iq h
 | mz a h=>exact Dp h
 | min2 a b h1 h2=>exact Dq h1 h2
 | yZ a h=>exact Ir h
 | Eb a h=>exact Iu h
 | cnt a b h1 h2=>exact Iy h1 h2
 | yh a h=>exact Iw h
 | CS a c h1 h2=>exact IC h1 h2
 | GJ a c h1 h2=>exact IB h1 h2
end
end PV
namespace PV
open PySem L2 SH
noncomputable def Bk.loc (b:Bk) (k:Nat) (x:Str):Bool:=decide (b.N[k]? = some x)&&decide (b.lk x=some .local∨b.lk x=some .cell)
noncomputable def lx:Expr->Bool
 | .ListComp _ _ _ _=>false
 | .SetComp _ _ _ _=>false
 | .DictComp _ _ _ _ _=>false
 | _=>true
noncomputable def Nm (b:Bk) (x:Str) (p:Pos) (v:Expr):Bool:=match v with
 | .ListComp _ _ s q=>b.lk x==some .local&&p.line==q.line && !(s.names.any fun (n,k)=>n==x&&(k==.local||k==.cell))
 | _=>false
noncomputable def Nn:Expr->Bool
 | .ListComp _ _ _ _=>true
 | _=>false
noncomputable def rZ (bC:List Stmt) (k:Stmt->Bool):Bool:=match bC with | [s]=>k s | _=>false
noncomputable def Rf (bC:List Stmt) (k:Stmt->List Stmt->Bool):Bool:=match bC with | s::r=>k s r | _=>false
noncomputable def ON (s:Stmt) (k:Expr->Expr->Bool):Bool:=match s with | .Assign ts v _=>(match ts with | [t]=>k t v | _=>false) | _=>false
noncomputable def U3 (e:Expr) (k:Str->Pos->Bool):Bool:=match e with | .Name x p=>k x p | _=>false
noncomputable def OO (s:Stmt) (k:Str->Pos->Expr->Bool):Bool:=ON s fun t v=>U3 t fun x p=>k x p v
noncomputable def IP (s:Stmt) (k:Expr->Bool):Bool:=match s with | .Expr e _=>k e | _=>false
noncomputable def SW (s:Stmt) (k:Str->Y1->Expr->Bool):Bool:=match s with | .AugAssign t o v _=>v4 t fun x=>k x o v | _=>false
noncomputable def SX (s:Stmt) (k:k_ Expr->Bool):Bool:=match s with | .Return e _=>k e | _=>false
noncomputable def SY (s:Stmt) (k:Expr->List Stmt->List Stmt->Bool):Bool:=match s with | .If t a b _=>k t a b | _=>false
noncomputable def Rg (s:Stmt) (k:Expr->Expr->List Stmt->Bool):Bool:=match s with | .For t i b el _=>(match el with | []=>k t i b | _::_=>false) | _=>false
noncomputable def S0 (s:Stmt) (k:Expr->List Stmt->Bool):Bool:=match s with | .While t b el _=>(match el with | []=>k t b | _::_=>false) | _=>false
noncomputable def Rh (b:Bk) (ii:Bool) (tg:Expr) (ts:List Nat):Bool:=AF tg fun xs=>match xs,ts with
 | [x],[i]=>b.loc i x&&(!ii||decide (i≠0))
 | [x,y],[i,j]=>b.loc i x&&b.loc j y&&(!ii||(decide (i≠0)&&decide (j≠0)))
 | _,_=>false
noncomputable def No (a:S) (k1:Nat->Bool) (k2:Bool):Bool:=match a with | .dS k=>k1 k | _=>k2
noncomputable def Np (c:C):Bool:=match c with | .comp _ _ _ _ _=>true | _=>false
noncomputable def Ri (c:C):Bool:=match c with | .fr f=>Np f | _=>false
section
variable (T:Tb) (ii:Bool)
noncomputable def k0 (k:Nat):Bool := !ii||decide (k≠0)
noncomputable def setB (b:Bk) (x:Str) (p:Pos) (v:Expr) (cs:Bool):Bool:=lx v||(Nn v&&(if Nm b x p v then cs else true))
noncomputable def fX:S->Bool->Bk->List Stmt->Bool
 | .skip,one,_,bC=>if one then rZ bC fun s=>(match s with | .Pass _=>true | _=>false) else bC.isEmpty
 | .seq a r,one,b,bC => !one&&No a (fun k=>decide (k≠0)&&fX r false b bC) (Rf bC fun s rest=>fX a true b [s]&&fX r false b rest)
 | .set k c,one,b,bC=>one&&rZ bC fun s=>OO s fun x p v=>k0 ii k&&b.loc k x&&setB b x p v (Ri c)&&aI T c .E b (.e v)
 | .d5 k c,one,b,bC=>one&&rZ bC fun s=>OO s fun x p v=>k0 ii k&&b.loc k x&&setB b x p v (Np c)&&aI T c .F b (.e v)
 | .yx k q c,one,b,bC=>one&&rZ bC fun s=>OO s fun x _ v=>k0 ii k&&b.loc k x&&lx v&&mE v fun y es=>decide (T.cls[q]? = some y)&&b.gl y&&okN y&&es.all noStar && !es.isEmpty&&aI T c .A b (.es es)
 | .dS _,_,_,_=>false
 | .app k c,one,b,bC=>one&&rZ bC fun s=>IP s fun e=>Dl e fun o y es q p=>decide (y = "append")&&lZ q p&&(v4 o fun x=>b.at_ k x)&&pC es fun u=>noStar u&&aI T c .E b (.e u)
 | .ext k c,one,b,bC=>one&&rZ bC fun s=>IP s fun e=>Dl e fun o y es q p=>decide (y = "extend")&&lZ q p&&(v4 o fun x=>b.at_ k x)&&pC es fun u=>noStar u&&aI T c .E b (.e u)
 | .GK a c,one,b,bC=>one&&rZ bC fun s=>IP s fun e=>Dl e fun o y es q p=>decide (y = "append")&&lZ q p&&bW o&&pC es fun u=>noStar u&&aI T a .E b (.e o)&&aI T c .E b (.e u)
 | .Ln a k c,one,b,bC=>one&&rZ bC fun s=>ON s fun t v=>lx v&&Em t fun o i=>aI T a .E b (.e o)&&aI T k .E b (.e i)&&aI T c .E b (.e v)
 | .eF k f c,one,b,bC=>one&&rZ bC fun s=>ON s fun t v=>lx v&&OL t fun o g _=>decide (g=f)&&(v4 o fun x=>b.at_ k x)&&aI T c .E b (.e v)
 | .aug k op c,one,b,bC=>one&&rZ bC fun s=>SW s fun x o v=>k0 ii k&&b.loc k x&&decide (o=GO op)&&(match op with | .add=>true | .sub=>true | _=>false)&&aI T c .E b (.e v)
 | .ex c,one,b,bC=>one&&rZ bC fun s=>IP s fun e=>lx e&&aI T c .E b (.e e)
 | .bj q c,one,b,bC=>one&&rZ bC fun s=>IP s fun e=>Dl e fun o y es u p=>decide (y = "__init__")&&lZ u p&&(v4 o fun x=>decide (T.cls[q]? = some x)&&b.gl x&&okN x)&&T.mX.contains q&&Ep es fun sf es=>(v4 sf fun x=>b.at_ 0 x)&&es.all noStar&&decide (es.length<20)&&aI T c .A b (.es es)
 | .ret c,one,b,bC=>one&&rZ bC fun s=>SX s fun e=>(match e with | some e=>aI T c .E b (.e e) | none=>false)
 | .never,one,_,_=>one
 | .ite t a c,one,b,bC=>one&&rZ bC fun s=>SY s fun e x y=>aI T t .T b (.e e)&&fX a false b x&&fX c false b y
 | .bM it ts a,one,b,bC=>one&&rZ bC fun s=>Rg s fun tg e x=>Rh b ii tg ts&&jn e&&aI T it .I b (.it tg e)&&fX a false b x
 | .vR it ts a,one,b,bC=>one&&rZ bC fun s=>Rg s fun tg e x=>Rh b ii tg ts&&jn e&&aI T it .E b (.e e)&&fX a false b x
 | .JV a,one,b,bC=>one&&rZ bC fun s=>IP s fun e=>Dl e fun o y es q p=>decide (y = "clear")&&lZ q p&&bW o&&es.isEmpty&&aI T a .E b (.e o)
 | .JW t a,one,b,bC=>one&&rZ bC fun s=>S0 s fun e x=>aI T t .T b (.e e)&&fX a false b x
end
section
variable {bC:List Stmt}{s:Stmt}
theorem IQ {k:Stmt->List Stmt->Bool} (h:Rf bC k=true):∃ s r,bC=s::r/\k s r=true:=by cases bC<;>first | exact⟨_,_,rfl,h⟩ | cases h
def U4 (s:Stmt) (k:Expr->Expr->Bool):Prop:=∃ t v p,s=.Assign [t] v p/\k t v=true
theorem v8 {k:Expr->Expr->Bool} (h:ON s k=true):U4 s k:=by
 cases s<;>first | exact ff h | skip
 rename_i ts v p;rcases ts with _ | ⟨_,_ | ⟨_,_⟩⟩<;>first | exact⟨_,_,_,rfl,h⟩ | cases h
theorem v9 {k:Str->Pos->Expr->Bool} (h:OO s k=true):∃ x q v p,s=.Assign [.Name x q] v p/\k x q v=true:=by
 obtain⟨t,v,p,rfl,h2⟩:=v8 h
 cases t<;>first | exact⟨_,_,_,_,rfl,h2⟩ | cases h2
def U5 (s:Stmt) (k:Expr->Bool):Prop:=∃ e p,s=.Expr e p/\k e=true
theorem ly {k:Expr->Bool} (h:IP s k=true):U5 s k:=by cases s<;>first | exact⟨_,_,rfl,h⟩ | exact ff h
def U6 (s:Stmt) (k:Str->Y1->Expr->Bool):Prop:=∃ x q o v p,s=.AugAssign (.Name x q) o v p/\k x o v=true
theorem IR {k:Str->Y1->Expr->Bool} (h:SW s k=true):U6 s k:=by
 cases s<;>first | exact ff h | skip
 obtain⟨x,q,rfl,h⟩:=cy h;exact⟨_,_,_,_,_,rfl,h⟩
def U7 (s:Stmt) (k:k_ Expr->Bool):Prop:=∃ e p,s=.Return e p/\k e=true
theorem IS {k:k_ Expr->Bool} (h:SX s k=true):U7 s k:=by cases s<;>first | exact⟨_,_,rfl,h⟩ | exact ff h
def U8 (s:Stmt) (k:Expr->List Stmt->List Stmt->Bool):Prop:=∃ t a b p,s=.If t a b p/\k t a b=true
theorem IT {k:Expr->List Stmt->List Stmt->Bool} (h:SY s k=true):U8 s k:=by cases s<;>first | exact⟨_,_,_,_,rfl,h⟩ | exact ff h
def U9 (s:Stmt) (k:Expr->Expr->List Stmt->Bool):Prop:=∃ t i b p,s=.For t i b [] p/\k t i b=true
theorem AN {k:Expr->Expr->List Stmt->Bool} (h:Rg s k=true):U9 s k:=by
 cases s<;>first | exact ff h | skip
 rename_i t i b el p
 cases el<;>first | exact⟨_,_,_,_,rfl,h⟩ | cases h
def Va (s:Stmt) (k:Expr->List Stmt->Bool):Prop:=∃ t b p,s=.While t b [] p/\k t b=true
theorem IU {k:Expr->List Stmt->Bool} (h:S0 s k=true):Va s k:=by
 cases s<;>first | exact ff h | skip
 rename_i t b el p
 cases el<;>first | exact⟨_,_,_,rfl,h⟩ | cases h
end
structure GD (T:Tb) (Γ:Gm) (cl:Cl) (n:Nat) (X:Cx) (b:Bk):Prop extends GC T Γ cl n X b where
 sc:X.env.scope=b.sc
 kind:b.sc.kind=.function
 fn:∀ x,X.fn x=true
 nd:X.N.Nodup
 po:aah (model X.prog X.w) X.A X.env X.xe
section
variable {T:Tb}{Γ:Gm}{cl:Cl}{n:Nat}{ii:Bool}{X:Cx}{b:Bk}{e v:Expr}
theorem iS {tg:k_ Expr}{l:Nat}{env:Env} (h:lx e=true):Xx e tg l env=pure false:=by
 cases e<;>first | rfl | cases h
theorem ki {k:Nat} (h:k0 ii k=true):ii=true->k≠0:=fun hi=>by
 subst hi;unfold k0 at h;simpa using h
theorem GD.lc (g:GD T Γ cl n X b) {k:Nat}{x:Str} (h:b.loc k x=true):X.N[k]? = some x/\Loc X.env.scope x:=by
 obtain⟨h1,h2⟩:=ae h;refine⟨by rw[g.hN];exact b_ h1,?_⟩;rcases b_ h2 with q | q
 ·exact .inl (g.loc x q)
 ·exact .inr (g.M7 x q)
theorem GD.sw (g:GD T Γ cl n X b) {x:Str}{p:Pos}{l:Nat} (h:Nn v=true):Xx v (some (.Name x p)) l X.env=pure (Nm b x p v):=by
 cases v<;>first | (cases h;done) | skip
 rename_i elt gens s q
 have hb:X.env.blockKind=.function:=by
  unfold Env.blockKind;rw[g.sc,g.kind];rfl
 unfold Xx Nm;show pure (X.env.blockKind==.function&&X.env.kindOf x==some .local&&p.line==q.line && !(s.names.any fun (n,k)=>n==x&&(k==.local||k==.cell)))=_;rw[hb];unfold Env.kindOf Bk.lk;rw[g.sc];rfl
def S3 (T:Tb) (Γ:Gm) (cl:Cl) (n:Nat) (ii:Bool) (s:S):Prop:=∀ (b:Bk) (X:Cx),GD T Γ cl n X b->(∀ bC,fX T ii s false b bC=true->kY X bC (tS X.K cl Γ ii s))/\∀ st,fX T ii s true b [st]=true->PS X st (tS X.K cl Γ ii s)
theorem k_one {o:Bool}{st:Stmt}{k:Stmt->Bool} (h:(o&&rZ [st] k)=true):k st=true:=(ae h).2
theorem fY {s:S} (h0:∀ b bC,fX T ii s false b bC=true->False) (h:∀ b X st,GD T Γ cl n X b->fX T ii s true b [st]=true->PS X st (tS X.K cl Γ ii s)):S3 T Γ cl n ii s:=fun b X g=>⟨fun bC q=>(h0 b bC q).elim,fun st q=>h b X st g q⟩
def oC (c:C):Prop:=∃ it w ix t e,c=.comp it w ix t e
theorem AO {c:C} (h:Np c=true):oC c:=by cases c<;>first | exact⟨_,_,_,_,_,rfl⟩ | exact ff h
def Vb (c:C):Prop:=∃ f,c=.fr f/\Np f=true
theorem IV {c:C} (h:Ri c=true):Vb c:=by cases c<;>first | exact⟨_,rfl,h⟩ | exact ff h
theorem Dw {k:Nat}{c:C}{x:Str}{q p:Pos} (g:GD T Γ cl n X b) (h1:k0 ii k=true) (h2:b.loc k x=true) (h3:setB b x q v (Ri c)=true) (h4:aI T c .E b (.e v)=true):PS X (.Assign [.Name x q] v p) (tS X.K cl Γ ii (.set k c)):=by
 obtain⟨l1,l2⟩:=g.lc h2;have he:=sound (Γ:=Γ) (cl:=cl) (n:=n) c .E b _ h4 X g.toGC;unfold setB at h3;rw[acv] at h3;rcases h3 with h3 | h3
 ·exact Ek g.nd l1 l2 (g.fn x) (ki h1) (iS h3) he
 ·obtain⟨h5,h6⟩:=ae h3;have sw:=g.sw (x:=x) (p:=q) (l:=p.line) h5
  cases e:Nm b x q v with
  | false=>rw[e] at sw;exact Ek g.nd l1 l2 (g.fn x) (ki h1) sw he
  | true =>
   rw[e] at sw h6;rw[u_ rfl] at h6;obtain⟨f,rfl,h7⟩:=IV h6;obtain⟨_,_,_,_,_,rfl⟩:=AO h7;obtain⟨e',e1,h4⟩:=av h4
   cases e1
   obtain⟨_,h4⟩:=ae h4;obtain⟨_,h4⟩:=ae h4;obtain⟨e',e1,h4⟩:=av h4
   cases e1
   obtain⟨elt,tg,iter,ifs,scope,p',rfl,h4⟩:=rY h4;obtain⟨own,gg,hw,S,hi,hs,hg,hb⟩:=(kh (fun q=>sound _ .I b _ q X g.toGC) (sound _) (sound _) g.toGC h4).go;exact (xk hw hg g.calm g.nd l1 l2 (g.fn x) (ki h1) S hi hb sw hs).2
theorem AQ {k:Nat}{c:C}{x:Str}{q p:Pos} (g:GD T Γ cl n X b) (h1:k0 ii k=true) (h2:b.loc k x=true) (h3:setB b x q v (Np c)=true) (h4:aI T c .F b (.e v)=true):PS X (.Assign [.Name x q] v p) (tS X.K cl Γ ii (.d5 k c)):=by
 obtain⟨l1,l2⟩:=g.lc h2;have he:=sound (Γ:=Γ) (cl:=cl) (n:=n) c .F b _ h4 X g.toGC;unfold setB at h3;rw[acv] at h3;rcases h3 with h3 | h3
 ·exact AC g.nd l1 l2 (g.fn x) (ki h1) (iS h3) he
 ·obtain⟨h5,h6⟩:=ae h3;have sw:=g.sw (x:=x) (p:=q) (l:=p.line) h5
  cases e:Nm b x q v with
  | false=>rw[e] at sw;exact AC g.nd l1 l2 (g.fn x) (ki h1) sw he
  | true =>
   rw[e] at sw h6;rw[u_ rfl] at h6;obtain⟨_,_,_,_,_,rfl⟩:=AO h6;obtain⟨_,h4⟩:=ae h4;obtain⟨e',e1,h4⟩:=av h4
   cases e1
   obtain⟨elt,tg,iter,ifs,scope,p',rfl,h4⟩:=rY h4;obtain⟨own,gg,hw,S,hi,hs,hg,hb⟩:=(kh (fun q=>sound _ .I b _ q X g.toGC) (sound _) (sound _) g.toGC h4).go;exact (xk hw hg g.calm g.nd l1 l2 (g.fn x) (ki h1) S hi hb sw hs).1
theorem AR {tg:Expr}{ts:List Nat} (g:GD T Γ cl n X b) (h:Rh b ii tg ts=true):∃ gg,PG X tg gg/\yI X.K cl ii ts gg:=by
 rcases xo h with ⟨y,p,rfl,h⟩ | ⟨y,z,p1,p2,j,p,rfl,h⟩
 ·rcases ts with _ | ⟨_,_ | ⟨_,_⟩⟩<;>first | (cases h;done) | skip
  obtain⟨h1,h2⟩:=ae h;obtain⟨l1,l2⟩:=g.lc h1;exact⟨_,mO g.nd l1 l2 (.inl (g.fn _)),Hq (ki h2)⟩
 ·rcases ts with _ | ⟨_,_ | ⟨_,_ | ⟨_,_⟩⟩⟩<;>first | (cases h;done) | skip
  obtain⟨h1,h3⟩:=ae h;obtain⟨h1,h2⟩:=ae h1;obtain⟨l1,l2⟩:=g.lc h1;obtain⟨l3,l4⟩:=g.lc h2;refine⟨_,z6 g.calm g.nd l1 l3 l2 l4 (.inl (g.fn _)) (.inl (g.fn _)),Hr (fun hi=>?_) (fun hi=>?_)⟩
  ·subst hi;simp at h3;exact h3.1
  ·subst hi;simp at h3;exact h3.2
def Vc (a:S) (k1:Nat->Bool) (k2:Bool):Prop:=(∃ k,a=.dS k/\k1 k=true)∨k2=true
theorem Dx {a:S}{k1:Nat->Bool}{k2:Bool} (h:No a k1 k2=true):Vc a k1 k2:=by cases a<;>first | exact .inr h | exact .inl ⟨_,rfl,h⟩
def IW (s:Stmt):Prop:=∃ p,s=.Pass p
theorem Dy {s:Stmt} (h:(match s with | .Pass _=>true | _=>false)=true):IW s:=by cases s<;>first | exact⟨_,rfl⟩ | exact ff h
theorem IY:∀ s:S,S3 T Γ cl n ii s:=fun s=>by
 induction s with
 | skip =>
  intro b X g;refine⟨fun bC h=>?_,fun st h=>?_⟩
  ·cases bC with
   | nil=>exact Hm
   | cons _ _=>cases h
  ·obtain⟨p,rfl⟩:=Dy h;exact Ho
 | seq a r aE AJ =>
  intro b X g;refine⟨fun bC h=>?_,fun st h=>by cases (ae h).1⟩;obtain⟨_,h⟩:=ae h
  have main:(Rf bC fun s rest=>fX T ii a true b [s]&&fX T ii r false b rest)=true->kY X bC (tS X.K cl Γ ii (.seq a r)):=fun h=>by
   obtain⟨s,rest,rfl,h⟩:=IQ h;exact MK ((aE b X g).2 s (ae h).1) ((AJ b X g).1 rest (ae h).2)
  rcases Dx h with ⟨k,rfl,h⟩ | h
  ·exact ML (b_ (ae h).1) ((AJ b X g).1 bC (ae h).2)
  ·exact main h
 | set k c =>
  refine fY (fun b bC h=>by cases (ae h).1) fun b X st g h=>?_
  have h':=k_one h;clear h;obtain⟨x,q,v,p,rfl,h⟩:=v9 h';clear h';obtain⟨h,h4⟩:=ae h;obtain⟨h,h3⟩:=ae h;obtain⟨h1,h2⟩:=ae h;exact Dw g h1 h2 h3 h4
 | d5 k c =>
  refine fY (fun b bC h=>by cases (ae h).1) fun b X st g h=>?_
  have h':=k_one h;clear h;obtain⟨x,q,v,p,rfl,h⟩:=v9 h';clear h';obtain⟨h,h4⟩:=ae h;obtain⟨h,h3⟩:=ae h;obtain⟨h1,h2⟩:=ae h;exact AQ g h1 h2 h3 h4
 | yx k q c =>
  refine fY (fun b bC h=>by cases (ae h).1) fun b X st g h=>?_
  have h':=k_one h;clear h;obtain⟨x,q',v,p,rfl,h⟩:=v9 h';clear h';obtain⟨h,h4⟩:=ae h;obtain⟨h,h3⟩:=ae h;obtain⟨h1,h2⟩:=ae h;obtain⟨y,es,q2,p2,rfl,h4⟩:=a9 h4;obtain⟨l1,l2⟩:=g.lc h2;exact Hn g.nd l1 l2 (g.fn x) (ki h1) (iS h3) (AK (sound c) g.toGC h4)
 | dS k=>exact fY (fun b bC h=>by cases h) fun b X st g h=>by cases h
 | app k c =>
  refine fY (fun b bC h=>by cases (ae h).1) fun b X st g h=>?_
  have h':=k_one h;clear h;obtain⟨e,p,rfl,h⟩:=ly h';clear h';obtain⟨o,y,es,q,p',rfl,h⟩:=hZ h;obtain⟨h,h4⟩:=ae h;obtain⟨h,h3⟩:=ae h;obtain⟨h1,h2⟩:=ae h;obtain⟨x,p2,rfl,h3⟩:=cy h3;obtain⟨u,rfl,h4⟩:=bE h4;obtain⟨n1,n2,n3,n4⟩:=g.nm h3
  cases b_ h1
  exact MS n1 n2 n3 n4 (sound c .E b _ (ae h4).2 X g.toGC) (ae h4).1 h2
 | ext k c =>
  refine fY (fun b bC h=>by cases (ae h).1) fun b X st g h=>?_
  have h':=k_one h;clear h;obtain⟨e,p,rfl,h⟩:=ly h';clear h';obtain⟨o,y,es,q,p',rfl,h⟩:=hZ h;obtain⟨h,h4⟩:=ae h;obtain⟨h,h3⟩:=ae h;obtain⟨h1,h2⟩:=ae h;obtain⟨x,p2,rfl,h3⟩:=cy h3;obtain⟨u,rfl,h4⟩:=bE h4;obtain⟨n1,n2,n3,n4⟩:=g.nm h3
  cases b_ h1
  exact MT n1 n2 n3 n4 (sound c .E b _ (ae h4).2 X g.toGC) (ae h4).1 h2
 | GK a c =>
  refine fY (fun b bC h=>by cases (ae h).1) fun b X st g h=>?_
  have h':=k_one h;clear h;obtain⟨e,p,rfl,h⟩:=ly h';clear h';obtain⟨o,y,es,q,p',rfl,h⟩:=hZ h;obtain⟨h,h4⟩:=ae h;obtain⟨h,h3⟩:=ae h;obtain⟨h1,h2⟩:=ae h;obtain⟨u,rfl,h4⟩:=bE h4;obtain⟨h4,h6⟩:=ae h4;obtain⟨h4,h5⟩:=ae h4
  cases b_ h1
  exact MV (sound a .E b _ h5 X g.toGC) (sound c .E b _ h6 X g.toGC) h3 h4 h2
 | Ln a k c =>
  refine fY (fun b bC h=>by cases (ae h).1) fun b X st g h=>?_
  have h':=k_one h;clear h;obtain⟨t,v,p,rfl,h⟩:=v8 h';clear h';obtain⟨h1,h⟩:=ae h;obtain⟨o,i,q,rfl,h⟩:=jp h;obtain⟨h,h4⟩:=ae h;obtain⟨h2,h3⟩:=ae h;exact MX g.F.wl g.J0 (sound a .E b _ h2 X g.toGC) (sound k .E b _ h3 X g.toGC) (sound c .E b _ h4 X g.toGC) (iS h1)
 | eF k f c =>
  refine fY (fun b bC h=>by cases (ae h).1) fun b X st g h=>?_
  have h':=k_one h;clear h;obtain⟨t,v,p,rfl,h⟩:=v8 h';clear h';obtain⟨h0,h⟩:=ae h;obtain⟨o,f',p2,rfl,h⟩:=v7 h;obtain⟨h,h3⟩:=ae h;obtain⟨h1,h2⟩:=ae h;obtain⟨x,p3,rfl,h2⟩:=cy h2;obtain⟨n1,n2,n3,n4⟩:=g.nm h2
  cases b_ h1
  exact Hu g.F.at_ n1 n2 n3 n4 (iS h0) (sound c .E b _ h3 X g.toGC)
 | aug k op c =>
  refine fY (fun b bC h=>by cases (ae h).1) fun b X st g h=>?_
  have h':=k_one h;clear h;obtain⟨x,q,o,v,p,rfl,h⟩:=IR h';clear h';obtain⟨h,h5⟩:=ae h;obtain⟨h,h4⟩:=ae h;obtain⟨h,h3⟩:=ae h;obtain⟨h1,h2⟩:=ae h;obtain⟨l1,l2⟩:=g.lc h2
  cases b_ h3
  refine MR ?_ g.nd l1 l2 (g.fn x) (ki h1) (sound c .E b _ h5 X g.toGC)
  cases op<;>first | exact .inl rfl | exact .inr rfl | cases h4
 | ex c =>
  refine fY (fun b bC h=>by cases (ae h).1) fun b X st g h=>?_
  have h':=k_one h;clear h;obtain⟨e,p,rfl,h⟩:=ly h';clear h';exact QS (iS (ae h).1) (sound c .E b _ (ae h).2 X g.toGC)
 | bj q c =>
  refine fY (fun b bC h=>by cases (ae h).1) fun b X st g h=>?_
  have h':=k_one h;clear h;obtain⟨e,p,rfl,h⟩:=ly h';clear h';obtain⟨o,y,es,u,p',rfl,h⟩:=hZ h;obtain⟨h,h5⟩:=ae h;obtain⟨h,h4⟩:=ae h;obtain⟨h,h3⟩:=ae h;obtain⟨h1,h2⟩:=ae h;obtain⟨x,p2,rfl,h3⟩:=cy h3;obtain⟨h3,h8⟩:=ae h3;obtain⟨h6,h7⟩:=ae h3;obtain⟨sf,es,rfl,h5⟩:=jq h5;obtain⟨h5,Vd⟩:=ae h5;obtain⟨h5,Ve⟩:=ae h5;obtain⟨h9,OP⟩:=ae h5;obtain⟨sx,p3,rfl,h9⟩:=cy h9;obtain⟨n1,n2,n3,n4⟩:=g.nm h9
  cases b_ h1
  exact MZ g.F g.room (b_ h6) h4 (g.gl h7) (jr h8).1 n1 n2 n3 n4 (sound c .A b _ Vd X g.toGC) OP (b_ Ve) h2
 | ret c =>
  refine fY (fun b bC h=>by cases (ae h).1) fun b X st g h=>?_
  have h':=k_one h;clear h;obtain⟨e,p,rfl,h⟩:=IS h';clear h'
  cases e with
  | none=>cases h
  | some e=>exact MM (sound c .E b _ h X g.toGC)
 | never=>exact fY (fun b bC h=>by cases h) fun b X st g h=>Dh
 | ite t a c aE cz =>
  refine fY (fun b bC h=>by cases (ae h).1) fun b X st g h=>?_
  have h':=k_one h;clear h;obtain⟨e,x,y,p,rfl,h⟩:=IT h';clear h';obtain⟨h,h3⟩:=ae h;obtain⟨h1,h2⟩:=ae h;exact MN (sound t .T b _ h1 X g.toGC) ((aE b X g).1 x h2) ((cz b X g).1 y h3)
 | bM it ts a aE =>
  refine fY (fun b bC h=>by cases (ae h).1) fun b X st g h=>?_
  have h':=k_one h;clear h;obtain⟨tg,e,x,p,rfl,h⟩:=AN h';clear h';obtain⟨h,h4⟩:=ae h;obtain⟨h,h3⟩:=ae h;obtain⟨h1,h2⟩:=ae h;obtain⟨gg,hg,ht⟩:=AR g h1;exact Hs g.po g.calm (sound it .I b _ h3 X g.toGC) hg ht ((aE b X g).1 x h4) (nV h2)
 | vR it ts a aE =>
  refine fY (fun b bC h=>by cases (ae h).1) fun b X st g h=>?_
  have h':=k_one h;clear h;obtain⟨tg,e,x,p,rfl,h⟩:=AN h';clear h';obtain⟨h,h4⟩:=ae h;obtain⟨h,h3⟩:=ae h;obtain⟨h1,h2⟩:=ae h;obtain⟨gg,hg,ht⟩:=AR g h1;exact Ht g.po g.calm (sound it .E b _ h3 X g.toGC) hg ht ((aE b X g).1 x h4) (nV h2)
 | JV a =>
  refine fY (fun b bC h=>by cases (ae h).1) fun b X st g h=>?_
  have h':=k_one h;clear h;obtain⟨e,p,rfl,h⟩:=ly h';clear h';obtain⟨o,y,es,q,p',rfl,h⟩:=hZ h;obtain⟨h,h5⟩:=ae h;obtain⟨h,h4⟩:=ae h;obtain⟨h,h3⟩:=ae h;obtain⟨h1,h2⟩:=ae h
  cases es with
  | nil =>
   cases b_ h1
   exact MW (sound a .E b _ h5 X g.toGC) h3 h2
  | cons _ _=>cases h4
 | JW t a aE =>
  refine fY (fun b bC h=>by cases (ae h).1) fun b X st g h=>?_
  have h':=k_one h;clear h;obtain⟨e,x,p,rfl,h⟩:=IU h';clear h';exact MP g.po (sound t .T b _ (ae h).1 X g.toGC) ((aE b X g).1 x (ae h).2)
end
end PV
namespace PV
open PySem L2 SH
noncomputable def nW (N ps:List Str) (sc:Scope):Bool:=decide (sc.kind=.function)&&decide (sc.isCoroutine=false)&&decide (sc.isGenerator=false)&&decide N.Nodup&&decide (N.take ps.length=ps)&&ps.all (fun x=>decide (sc.names.lookup x=some .local∨sc.names.lookup x=some .cell))&&sc.names.all (fun y=>decide (y.2≠.free))
noncomputable def yK (T:Tb) (ii:Bool) (st:Stmt) (N ps:List Str) (c:S):Bool:=nW N ps (bK st)&&fX T ii c false ⟨N,bK st⟩ (iQ st)
theorem Nq {N ps:List Str}{sc:Scope} (h:nW N ps sc=true):mR N ps sc:=by
 unfold nW at h;obtain⟨h,h7⟩:=ae h;obtain⟨h,h6⟩:=ae h;obtain⟨h,h5⟩:=ae h;obtain⟨h,h4⟩:=ae h;obtain⟨h,h3⟩:=ae h;obtain⟨h1,h2⟩:=ae h;rw[Wm] at h6 h7;exact⟨b_ h1,b_ h2,b_ h3,b_ h4,b_ h5,fun x hx=>b_ (h6 x hx),fun y hy=>b_ (h7 y hy)⟩
section
variable {P:N_}{w:World}{K:e_}{mg:Str->k_ Value}{base:Heap}{Γ:Gm}{cl:Cl}{T:Tb}{n:Nat}{x qual:Str}{st:Stmt}{f:Addr}{fd:W4}{N ps:List Str}{c:S}{ii:Bool}
noncomputable def bj (N ps:List Str) (sl:List Sl):En:=sl++acF (N.length-ps.length) .no
theorem mY (F:Fx Γ cl P w K mg base n T.fns T.jN T.cls T.mW T.mX) (bt:∀ x∈Dj,mg x=none) (D:zG K x qual st f fd) (hc:yK T ii st N ps c=true) {sp:Sp} (len:∀ vs H Q E,sp vs H Q E->vs.length=ps.length)
  (body:∀ vs H Q E,sp vs H Q E->tS K cl Γ ii c { nx:=fun _ H'=>Q .aJ H',rt:=Q } (start N vs) H):bO P w K mg base lS (n+1) f fd ps sp:=by
 obtain⟨h1,h2⟩:=ae hc;have S:=Nq h1;refine D.ok S len fun jh A outer s H vs Q E hr BG=>?_
 have g:GD T Γ cl n (vw lS P w K mg base N qual (bK st) f jh A outer s H E).Kg ⟨N,bK st⟩ :=
  { hN:=rfl,calm:=rfl,loc:=fun x h=>h,M7:=fun x h=>h,OM:=fun x h=>.inl h,Q6:=fun x h=>h,room:=hr,F:=F,bt:=bt,sc:=rfl,kind:=S.kind,fn:=fun _=>rfl,nd:=S.nd,po:=PassesOwn.never }
 exact⟨_,(IY c ⟨N,bK st⟩ _ g).1 _ h2,body vs H Q E BG⟩
theorem xp {B:Bs}{G H:Hp}{M:Mem}{sl:List Sl}{vs:List V} (hB:B.G=G/\B.H=H/\B.M=M) (s:ah G H) (m:bh K cl G H M) (l:sl.length=vs.length) (lp:vs.length=ps.length) (h0:∀ a,B.sf=some a->vs[(0:Nat)]? = some (.ref a))
  (hs:∀ (i:Nat) d,sl[i]? = some (.sh d)->∃ v,vs[i]? = some v/\Is K cl G d v) (ho:∀ (i:Nat) d,sl[i]? = some (.ow d)->i=0/\∃ a,B.sf=some a/\Ac K cl B M G H 0 a d):Rep K cl B (bj N ps sl) M (start N vs) H G:=by
 obtain⟨rfl,rfl,rfl⟩:=hB
 have get:∀ {i:Nat}{z:Sl},(bj N ps sl)[i]? = some z->z≠.no->sl[i]? = some z:=fun {i z} e ne=>by
  unfold bj at e;by_cases hi:i<sl.length
  ·rwa [WD hi] at e
  ·rw[Wy (by lia),aaj] at e;split at e
   ·cases e;exact absurd rfl ne
   ·cases e
 have put:∀ {i:Nat}{v:V},vs[i]? = some v->(start N vs)[i]? = some (some v):=fun {i v} e=>by
  unfold L2.start;have hi:i<vs.length:=(i_.mp e).1;rw[WD (by simpa using hi),h_,e];rfl
 refine⟨aY.refl s m,?_,fun a e=>put (h0 a e),fun i d e=>?_,fun _=>(B.sf).getD 0,fun i d e=>?_,fun i j d e hi hj _=>?_⟩
 ·unfold bj L2.start;rw[F_,F_,Zg,a_,Zg,l,lp]
 ·obtain⟨v,h1,h2⟩:=hs i d (get e (fun z=>nomatch z));exact⟨v,put h1,h2⟩
 ·obtain⟨rfl,a,h1,h2⟩:=ho i d (get e (fun z=>nomatch z));refine⟨?_,?_⟩
  ·rw[h1];exact put (h0 a h1)
  ·rw[h1];exact h2
 ·rw[(ho i d (get hi (fun z=>nomatch z))).1,(ho j e (get hj (fun z=>nomatch z))).1]
theorem wa {G H:Hp}{M:Mem}{ds:List Dt}{vs:List V} (s:ah G H) (m:bh K cl G H M) (i:IsL K cl G ds vs) (lp:ds.length=ps.length):Rep K cl ⟨G,H,M,none⟩ (bj N ps (ds.map Sl.sh)) M (start N vs) H G:=by
 have l:=i.length;refine xp ⟨rfl,rfl,rfl⟩ s m (by rw[a_,l]) (by lia) (fun a e=>nomatch e) (fun j d e=>?_) fun j d e=>?_
 ·rw[h_] at e;obtain⟨d',e1,e2⟩:=m_.mp e
  cases e2
  exact i.get e1
 ·rw[h_] at e;obtain⟨d',e1,e2⟩:=m_.mp e
  cases e2
theorem Es (F:Fx Γ cl P w K mg base n T.fns T.jN T.cls T.mW T.mX) (bt:∀ x∈Dj,mg x=none) (D:zG K x qual st f fd) (hc:yK T false st N ps c=true) {pf:cP}
  (body:∀ ds M k,pf ds M k->ds.length=ps.length/\ex Γ c (bj N ps (ds.map Sl.sh)) M { nx:=fun _ M'=>k .aJ M',rt:=k }):bO P w K mg base lS (n+1) f fd ps (Mn K cl pf):=by
 refine mY F bt D hc (fun vs H Q E h=>?_) fun vs H Q E h=>?_
 ·obtain⟨G,M,ds,k,h1,h2,h3,h4,h5⟩:=h;rw[←h3.length];exact (body ds M k h4).1
 ·obtain⟨G,M,ds,k,h1,h2,h3,h4,h5⟩:=h;obtain⟨b1,b2⟩:=body ds M k h4;refine⟨_,_,M,G,_,wa h1 h2 h3 b1,b2,⟨fun _=>rfl,fun ρ M' σ H' G' s r q=>?_,fun d v ρ M' σ H' G' r i q=>?_,fun ρ M' σ H' G' s r q=>q,fun ρ M' σ H' G' s r q=>q,(fun _ _ _ _ _ _ _ _ _ _ _ _ _ _ z=>z.elim)⟩⟩
  ·exact h5 .aJ M' .aJ G' H' q r.bT (by unfold Is;rfl)
  ·exact h5 d M' v G' H' q r.bT i
theorem Nr (F:Fx Γ cl P w K mg base n T.fns T.jN T.cls T.mW T.mX) (bt:∀ x∈Dj,mg x=none) (D:zG K x qual st f fd) (hc:yK T false st N ps c=true) {pf:List Dt->Mem->(List Dt->Mem->Prop)->Prop}
  (body:∀ ds M k,pf ds M k->ds.length=ps.length/\ex Γ c (bj N ps (ds.map Sl.sh)) M { nx:=fun _ _=>False,rt:=fun _ _=>False,ro:=k }):bO P w K mg base lS (n+1) f fd ps (Mp K cl pf):=by
 refine mY F bt D hc (fun vs H Q E h=>?_) fun vs H Q E h=>?_
 ·obtain⟨G,M,ds,k,h1,h2,h3,h4,h5⟩:=h;rw[←h3.length];exact (body ds M k h4).1
 ·obtain⟨G,M,ds,k,h1,h2,h3,h4,h5⟩:=h;obtain⟨b1,b2⟩:=body ds M k h4;exact⟨_,_,M,G,_,wa h1 h2 h3 b1,b2,⟨fun _=>rfl,fun ρ M' σ H' G' s r q=>q.elim,fun d v ρ M' σ H' G' r i q=>q.elim,fun ρ M' σ H' G' s r q=>q,fun ρ M' σ H' G' s r q=>q,fun xs us a ρ M' σ H' G' r ha ga ma e i q=>h5 xs us a M' G' H' q r.bT ha ga ma e i⟩⟩
theorem Nt (F:Fx Γ cl P w K mg base n T.fns T.jN T.cls T.mW T.mX) (bt:∀ x∈Dj,mg x=none) (D:zG K x qual st f fd) (hc:yK T false st N ps c=true) {pf:cP}{q:Nat}
  (body:∀ d ds M k fs,eI M d (fun n' fA=>n'=q/\fA=fs)->pf (d::ds) M k->(d::ds).length=ps.length/\ex Γ c (bj N ps ((d::ds).map Sl.sh)) M { nx:=fun _ M'=>k .aJ M',rt:=k }):bO P w K mg base lS (n+1) f fd ps (Mq K cl q pf):=by
 refine mY F bt D hc (fun vs H Q E h=>?_) fun vs H Q E h=>?_
 ·obtain⟨G,M,d,ds,k,fs,h1,h2,h3,h0,h4,h5⟩:=h;rw[←h3.length];exact (body d ds M k fs h0 h4).1
 ·obtain⟨G,M,d,ds,k,fs,h1,h2,h3,h0,h4,h5⟩:=h;obtain⟨b1,b2⟩:=body d ds M k fs h0 h4;refine⟨_,_,M,G,_,wa h1 h2 h3 b1,b2,⟨fun _=>rfl,fun ρ M' σ H' G' s r q=>?_,fun d v ρ M' σ H' G' r i q=>?_,fun ρ M' σ H' G' s r q=>q,fun ρ M' σ H' G' s r q=>q,(fun _ _ _ _ _ _ _ _ _ _ _ _ _ _ z=>z.elim)⟩⟩
  ·exact h5 .aJ M' .aJ G' H' q r.bT (by unfold Is;rfl)
  ·exact h5 d M' v G' H' q r.bT i
theorem Nu (F:Fx Γ cl P w K mg base n T.fns T.jN T.cls T.mW T.mX) (bt:∀ x∈Dj,mg x=none) (D:zG K x qual st f fd) (hc:yK T true st N ps c=true) {pf:Dt->List Dt->Mem->(Dt->Mem->Prop)->Prop}
  (body:∀ q fs xs ds M k,pf (.obj q fs xs) ds M k->ds.length+1=ps.length/\ex Γ c (bj N ps (.ow (.obj q fs xs)::ds.map Sl.sh)) M { nx:=fun ρ M'=>b8 ρ 0 fun d=>pB d fun q' fA sR=>q'=q/\k (.obj q fA sR) M',rt:=fun _ _=>False }):bO P w K mg base lS (n+1) f fd ps (C2 K cl pf):=by
 refine mY F bt D hc (fun vs H Q E h=>?_) fun vs H Q E h=>?_
 ·obtain⟨G,M,a,q,fs,xs,dx,us,JZ,ds,k,rfl,h1,h2,h3,h4,h5,h6,h7,h8,h9,OP⟩:=h;rw[G_,←h8.length];exact (body q fs xs ds M k h9).1
 ·obtain⟨G,M,a,q,fs,xs,dx,us,JZ,ds,k,rfl,h1,h2,h3,h4,h5,h6,h7,h8,h9,OP⟩:=h;obtain⟨b1,b2⟩:=body q fs xs ds M k h9;have l:=h8.length
  have r0:Rep K cl ⟨G,H,M,some a⟩ (bj N ps (.ow (.obj q fs xs)::ds.map Sl.sh)) M (start N (.ref a::JZ)) H G:=by
   refine xp ⟨rfl,rfl,rfl⟩ h6 h7 (by rw[G_,G_,a_,l]) (by rw[G_];lia) (fun a' e=>by cases e;rfl) (fun j d e=>?_) fun j d e=>?_
   ·cases j with
    | zero=>cases e
    | succ j =>
     rw[Y0,h_] at e;obtain⟨d',e1,e2⟩:=m_.mp e
     cases e2
     exact h8.get e1
   ·cases j with
    | zero=>cases e;exact⟨rfl,a,rfl,h4,h5,.inr ⟨rfl,rfl⟩,.mo q fs xs,rfl,dx,us,h1,h2,h3⟩
    | succ j =>
     rw[Y0,h_] at e;obtain⟨d',e1,e2⟩:=m_.mp e
     cases e2
  refine⟨_,_,M,G,_,r0,b2,⟨(fun z=>nomatch z),fun ρ M' σ H' G' s r z=>?_,fun d v ρ M' σ H' G' r i z=>z.elim,fun ρ M' σ H' G' s r z=>z,fun ρ M' σ H' G' s r z=>z,(fun _ _ _ _ _ _ _ _ _ _ _ _ _ _ z=>z.elim)⟩⟩;obtain⟨d,e1,z1⟩:=dM z;obtain⟨q',fA,sR,rfl,rfl,z2⟩:=lq z1;obtain⟨oa,o1,_⟩:=r.ow;obtain⟨s1,ga,ma,_,o,ho,hc⟩:=o1 0 _ e1;have ea:oa 0=a:=by have:=r.s0 a rfl;rw[this] at s1;cases s1;rfl
  rw[ea] at ga ma hc
  cases ho
  obtain⟨Hg,CD,c1,c2,c3⟩:=hc;exact OP fA sR CD Hg M' G' H' z2 r.bT ga ma c1 c2 c3
end
end PV
namespace PV
open PySem L2 SH
structure Df where
 x:Str
 qual:Str
 N:List Str
 ps:List Str
 c:S
noncomputable def df (x q:Str) (N:List YD) (k:Nat) (c:S):Df:=⟨x,q,N.map W_,(N.take k).map W_,c⟩
noncomputable def dg (x:Str) (N:List YD) (k:Nat) (c:S):Df:=df x x N k c
noncomputable def LS (l:List YD):List Str:=l.map W_
structure Pg where
 T:Tb
 fd:List (k_ Df)
 md:List (List (Nat×Df))
 id:List (Nat×Df)
 Rj:List (Nat×List Str)
 IZ:List Dt
noncomputable def Pg.at_ (p:Pg) (c:Nat) (f:Str):Bool:=match p.Rj.lookup c with
 | some fs=>fs.contains f
 | none=>false
noncomputable def Pg.hm (p:Pg) (m c:Nat) (fs:List Str):Bool:=match (p.md.getD m []).lookup c,p.T.jN[m]? with
 | some _,some x => !fs.contains x
 | _,_=>false
noncomputable def Pg.cs (p:Pg) (k:Nat):Dt:=p.IZ.getD k .aJ
noncomputable def Nv (p:Pg) (Γ:Gm) (Γ':k_ Gm):Gm where
 fn f ds M k:=∃ d,p.fd[f]? = some (some d)/\ds.length=d.ps.length/\ex Γ d.c (bj d.N d.ps (ds.map Sl.sh)) M { nx:=fun _ M'=>k .aJ M',rt:=k }
 fo f ds M k:=∃ d,p.fd[f]? = some (some d)/\ds.length=d.ps.length/\ex Γ d.c (bj d.N d.ps (ds.map Sl.sh)) M { nx:=fun _ _=>False,rt:=fun _ _=>False,ro:=k }
 me m ds M k:=∃ x r c fs d,ds=x::r/\eI M x (fun c' fA=>c'=c/\fA=fs)/\(p.md.getD m []).lookup c=some d/\ds.length=d.ps.length/\ex Γ d.c (bj d.N d.ps (ds.map Sl.sh)) M { nx:=fun _ M'=>k .aJ M',rt:=k }
 bj c o ds M k:=∃ Γ0 q fs xs d,Γ'=some Γ0/\o=.obj q fs xs/\p.id.lookup c=some d/\ds.length+1=d.ps.length/\ex Γ0 d.c (bj d.N d.ps (.ow o::ds.map Sl.sh)) M { nx:=fun ρ M'=>b8 ρ 0 fun d=>pB d fun q' fA sR=>q'=q/\k (.obj q fA sR) M',rt:=fun _ _=>False }
 cs:=p.cs
 at_:=p.at_
 hm:=p.hm
noncomputable def xq (p:Pg):Nat->Gm×k_ Gm
 | 0=>({ fn:=fun _ _ _ _=>False,fo:=fun _ _ _ _=>False,me:=fun _ _ _ _=>False,bj:=fun _ _ _ _ _=>False,cs:=p.cs,at_:=p.at_,hm:=p.hm },none)
 | n+1=>(Nv p (xq p n).1 (xq p n).2,some (xq p n).1)
noncomputable def Pg.Γ (p:Pg) (n:Nat):Gm:=(xq p n).1
theorem Pg.Ja {p:Pg}:∀ n,(p.Γ n).cs=p.cs
 | 0=>rfl
 | _+1=>rfl
theorem Pg.Nw {p:Pg}:∀ n,(p.Γ n).at_=p.at_
 | 0=>rfl
 | _+1=>rfl
theorem Pg.lz {p:Pg}:∀ n,(p.Γ n).hm=p.hm
 | 0=>rfl
 | _+1=>rfl
noncomputable def Et:Value->Bool
 | .none=>true
 | _=>false
noncomputable def ud (a:acb) (ps:List Str):Bool:=a.posonlyargs.isEmpty&&decide (a.args.map (·.arg)=ps)&&a.vararg.isNone&&a.kwonlyargs.isEmpty&&a.kwarg.isNone&&decide ps.Nodup
noncomputable def Eu (T:Tb) (ii:Bool) (d:Df) (sc:Scope):FuncBody->Bool
 | .stmts b=>nW d.N d.ps sc&&fX T ii d.c false ⟨d.N,sc⟩ b
 | _=>false
noncomputable def Rk (K:e_) (T:Tb) (ii:Bool) (d:Df) (fd:W4):Bool:=decide (fd.name=d.x)&&decide (fd.qualname=d.qual)&&decide (fd.globals=mainGlobals)&&fd.closure.isEmpty&&Et fd.defaults&&decide (fd.builtins=aar)&&Ys K fd.code d.qual&&ud fd.params d.ps&&Eu T ii d fd.scope fd.body
noncomputable def AS (K:e_) (T:Tb) (ii:Bool) (d:Df) (a:Addr):Bool:=Y5 K (.ref a)&&match K.lookup a with
 | some ⟨_,_,.func fd,_⟩=>Rk K T ii d fd
 | _=>false
noncomputable def yL (o:k_ (k_ Value)) (k:Addr->Bool):Bool:=match o with | some (some (.ref a))=>k a | _=>false
noncomputable def Dz (o:k_ (k_ Value)):Bool:=match o with | some none=>true | _=>false
noncomputable def jb (K:e_) (T:Tb) (c:Nat):Addr:=match Yz K mainGlobals (T.cls.getD c W1) with
 | some (some (.ref a))=>a
 | _=>0
noncomputable def DA (K:e_) (C:Addr):Bool:=Yw K C W1&&Y4 K C&&Z3 K C&&WG K (.ref C) "__setattr__" == some (some (.builtin "object.__setattr__"))
noncomputable def AT:List Value->List Dt->Bool
 | [],[]=>true
 | .str x _::vs,.str y::ds=>decide (x=y)&&AT vs ds
 | _,_=>false
noncomputable def Jb (K:e_) (a:Addr) (ds:List Dt):Bool:=match K.lookup a with
 | some ⟨c,_,.seq ai _,_⟩=>decide (c=.type "tuple")&&decide (ai.size<=100)&&AT ai.toList ds
 | _=>false
noncomputable def Ev (K:e_):k_ (k_ Value)->Dt->Bool
 | some (some (.int i _)),.int j=>decide (i=j)
 | some (some (.str x _)),.str y=>decide (x=y)
 | some (some (.ref a)),.qH ds=>Jb K a ds
 | _,_=>false
noncomputable def Jc:Str := "__debug__"
noncomputable def Rl (o:k_ acO) (k:Addr->Bool):Bool:=match o with | some (.val (.ref a))=>k a | _=>false
noncomputable def AU (K:e_) (p:Pg):Bool :=
 decide (p.T.fns=p.fd.map fun o=>match o with | some d=>d.x | none=>Jc) &&
 p.fd.all (fun o=>match o with | none=>true | some d=>yL (Yz K mainGlobals d.x) fun a=>AS K p.T false d a) &&
 p.T.cls.all (fun x=>x==Jc||yL (Yz K mainGlobals x) fun a=>WH K (.ref a)) &&
 (p.T.jN.zip p.md).all (fun e=>e.2.all fun cd=>DA K (jb K p.T cd.1)&&yL (WG K (.ref (jb K p.T cd.1)) e.1) fun f=>AS K p.T false cd.2 f) &&
 p.id.all (fun cd=>aaH K (jb K p.T cd.1)&&WH K (.ref (jb K p.T cd.1))&&yL (WG K (.ref (jb K p.T cd.1)) "__init__") fun f=>AS K p.T true cd.2 f) &&
 p.T.mX.all (fun c=>Z4 K (.ref (jb K p.T c)) "__getattribute__" == some (some (.builtin "type.__getattribute__"))&&acq K (jb K p.T c) (.type "type")&&Rl (acr K (.ref (jb K p.T c)) (.type "type") "__init__") fun f=>match p.id.lookup c with | some d=>AS K p.T true d f | none=>false) &&
 (decide (p.T.mW.length=p.IZ.length)&&(p.T.mW.zip p.IZ).all fun e=>e.1==Jc||Ev K (Yz K mainGlobals e.1) e.2) &&
 p.Rj.all (fun e=>DA K (jb K p.T e.1)&&e.2.all fun f=>Dz (WG K (.ref (jb K p.T e.1)) f)) &&
 Dj.all (fun x=>Dz (Yz K mainGlobals x))
theorem ib:∀ {ps:List Str}{us:List Value}{x:Str}{u:Value}{i:Nat},ps.Nodup->ps[i]? = some x->us[i]? = some u->(ps.zip us).lookup x=some u
 | [],_,_,_,_,_,h,_=>by simp at h
 | _::_,[],_,_,_,_,_,h=>by simp at h
 | p::ps,v::us,x,u,0,n,h1,h2=>by
  simp at h1 h2;subst h1;subst h2;rw[XS,Wr,X6]
 | p::ps,v::us,x,u,i+1,n,h1,h2=>by
  simp only[Y0] at h1 h2;obtain⟨n1,n2⟩:=YJ.mp n
  have ne:(x==p)=false:=by
   rw[Xl];intro e;subst e;exact n1 (y_ h1)
  rw[XS,Wr,ne];exact ib n2 h1 h2
theorem AV:∀ {ps:List Str}{us:List Value}{f:Str->k_ Value},ps.length=us.length->(∀ (i:Nat) x u,ps[i]? = some x->us[i]? = some u->f x=some u)->(ps.filterMap fun n=>(f n).map (n,·))=ps.zip us
 | [],us,f,l,h=>by simp
 | p::ps,[],f,l,h=>by simp at l
 | p::ps,u::us,f,l,h=>by
  rw[Ww,h 0 p u rfl rfl,XS];simp only[YL];rw[AV (by simpa using l) fun i x v h1 h2=>h (i+1) x v (by simpa using h1) (by simpa using h2)]
theorem uf {x qual:Str}{a:acb}{b:List Stmt}{sc:Scope}{ps:List Str} (h:ud a ps=true) (kV doc pm:Value) (an:k_ Addr) (jh ct:Value) (us:List Value) (l:us.length=ps.length) :
  abS (XG x qual a b sc .none kV doc pm an jh ct) ⟨us,[]⟩=pure (ps.zip us):=by
 unfold ud at h;obtain⟨h,h6⟩:=ae h;obtain⟨h,h5⟩:=ae h;obtain⟨h,h4⟩:=ae h;obtain⟨h,h3⟩:=ae h;obtain⟨h1,h2⟩:=ae h;obtain⟨po,ar,va,ko,kd,kw,df⟩:=a;dsimp only at h1 h2 h3 h4 h5 h6;rw[aci] at h1 h4;rw[Option.isNone_iff_eq_none] at h3 h5;have hp:ar.map (·.arg)=ps:=b_ h2;have nd:ps.Nodup:=b_ h6;subst h1 h3 h4 h5;have lk:∀ (i:Nat) x u,ps[i]? = some x->us[i]? = some u->(ps.zip us).lookup x=some u:=fun i x u e1 e2=>ib nd e1 e2
 have z:=AV (f:=fun n=>(ps.zip us).lookup n) l.symm lk
 have Vf:(ps.filter fun n=>((ps.zip us).lookup n).isNone)=[]:=by
  rw[Yh];intro n hn;obtain⟨i,hi,e⟩:=Xv.mp hn;rw[lk i n (us[i]'(by lia)) (by rw[←e];exact c_ hi) (c_ (by lia))];simp
 have e0:∀ (β:Type) (k:k_ (Array Value)->Sem β),(seqItems? Yb >>= k)=k none:=fun _ _=>rfl
 have e1:∀ (β γ:Type) (b:β) (k:β->Sem γ),((pure b:Sem β) >>= k)=k b:=fun _ _ _ _=>rfl
 subst hp
 have np:¬ ((decide (us.length>(ar.map (·.arg)).length)&&(none:k_ Arg).isNone)=true):=by
  rw[g_ (by lia)];decide
 unfold abS;simp only[Xg,List.nil_append,WJ,ZX,e0,e1,aak,List.drop_nil,aaK,ab2,X8,p_ np,Vf,List.isEmpty_nil,Bool.not_true,p_ s_,List.zip_nil_right,z]
section
variable {P:N_}{w:World}{K:e_}{mg:Str->k_ Value}{base:Heap}{p:Pg}{T:Tb}{ii:Bool}{d:Df}{a:Addr}
structure kj (K:e_) (T:Tb) (ii:Bool) (d:Df) (a:Addr) (fd:W4) (st:Stmt):Prop where
 fn:zG K d.x d.qual st a fd
 bi:Binds K fd d.ps []
 ba:∀ us:List Value,us.length=d.ps.length->abS fd ⟨us,[]⟩=pure (d.ps.zip us)
 ch:yK T ii st d.N d.ps d.c=true
 kp:WH K (.ref a)=true
 S4:Y5 K (.ref a)=true
theorem Nx {fd:W4}{x q:Str}{b:List Stmt} (h1:fd.name=x) (h2:fd.qualname=q) (h3:fd.body=.stmts b) (h4:fd.globals=mainGlobals) (h5:fd.closure=[]) (h6:fd.defaults=.none) (h7:fd.builtins=aar) :
  fd=XG x q fd.params b fd.scope .none fd.kwdefaults fd.doc fd.pyModule fd.annotations fd.code fd.closureTuple:=by
 cases fd
 cases h1;cases h2;cases h3;cases h4;cases h5;cases h6;cases h7
 rfl
theorem at_of {fd:W4}{b:List Stmt}{oc:Value}{od:k_ Addr}{sl:Array (k_ Value)} (e:K.lookup a=some ⟨oc,od,.func fd,sl⟩) (hf:Y5 K (.ref a)=true) (hd:fd=XG d.x d.qual fd.params b fd.scope .none fd.kwdefaults fd.doc fd.pyModule fd.annotations fd.code fd.closureTuple)
  (h7:Ys K fd.code d.qual=true) (h8:ud fd.params d.ps=true) (h9:(nW d.N d.ps fd.scope&&fX T ii d.c false ⟨d.N,fd.scope⟩ b)=true):∃ fd st,kj K T ii d a fd st:=by
 have kp:WH K (.ref a)=true:=by unfold WH;dsimp only;rw[e]
 rw[hd] at e;have F:=F4 (st:=.FunctionDef d.x fd.params b [] none [] fd.scope none d.x ⟨0,0,0,0⟩) e h7 kp;exact⟨_,_,F,F.binds fun kV doc pm an jh ct us l=>uf h8 kV doc pm an jh ct us l,fun us l=>uf h8 _ _ _ _ _ _ us l,h9,kp,hf⟩
theorem AW {v:Value} (h:Et v=true):v=.none:=by cases v<;>first | rfl | cases h
theorem AX {sc:Scope}{bd:FuncBody} (h:Eu T ii d sc bd=true):∃ b,bd=.stmts b/\(nW d.N d.ps sc&&fX T ii d.c false ⟨d.N,sc⟩ b)=true:=by cases bd<;>first | exact⟨_,rfl,h⟩ | cases h
theorem Jd {fd:W4} (h:Rk K T ii d fd=true):Ys K fd.code d.qual=true/\ud fd.params d.ps=true/\∃ b,fd=XG d.x d.qual fd.params b fd.scope .none fd.kwdefaults fd.doc fd.pyModule fd.annotations fd.code fd.closureTuple/\(nW d.N d.ps fd.scope&&fX T ii d.c false ⟨d.N,fd.scope⟩ b)=true:=by
 unfold Rk at h;simp only[q_,Yq] at h;obtain⟨⟨⟨⟨⟨⟨⟨⟨h1,h2⟩,h3⟩,h4⟩,h5⟩,h6⟩,h7⟩,h8⟩,h9⟩:=h;obtain⟨b,e,h9⟩:=AX h9;exact⟨h7,h8,b,Nx h1 h2 e h3 (aci.mp h4) (AW h5) h6,h9⟩
theorem mZ (h:AS K T ii d a=true):∃ fd st,kj K T ii d a fd st:=by
 obtain⟨hf,h⟩:=ae h
 cases e:K.lookup a with
 | none=>rw[e] at h;cases h
 | some o =>
  rw[e] at h;obtain⟨oc,od,dat,sl⟩:=o
  cases dat with
  | func fd =>
   obtain⟨h7,h8,b,hd,h9⟩:=Jd h;exact at_of e hf hd h7 h8 h9
  | _=>cases h
theorem m4 {o:k_ (k_ Value)}{k:Addr->Bool} (h:yL o k=true):∃ a,o=some (some (.ref a))/\k a=true:=by
 unfold yL at h;split at h
 ·exact⟨_,rfl,h⟩
 ·cases h
theorem Je {o:k_ acO}{k:Addr->Bool} (h:Rl o k=true):∃ a,o=some (.val (.ref a))/\k a=true:=by
 unfold Rl at h;split at h
 ·exact⟨_,rfl,h⟩
 ·cases h
theorem xr {o:k_ (k_ Value)} (h:Dz o=true):o=some none:=by
 unfold Dz at h;split at h
 ·rfl
 ·cases h
theorem ug {cl:Cl}{G:Hp}:∀ {us:List Value}{ds:List Dt},AT us ds=true->∃ vs,Vals vs us/\IsL K cl G ds vs
 | [],[],_=>⟨[],.nil,IsL.nil⟩
 | .str x t::us,.str y::ds,h=>by
  obtain⟨h1,h2⟩:=ae h
  cases b_ h1
  obtain⟨vs,r,i⟩:=ug h2;exact⟨.str x::vs,.cons ⟨t,rfl⟩ r,IsL.cons (by unfold Is;rfl) i⟩
theorem DB {cl:Cl}{G:Hp}{ds:List Dt} (h:Jb K a ds=true):Is K cl G (.qH ds) (.ref a):=by
 unfold Jb at h;split at h
 ·rename_i c od ai n sl e;obtain⟨h,h3⟩:=ae h;obtain⟨h1,h2⟩:=ae h;obtain⟨vs,r,i⟩:=ug h3;unfold Is;exact⟨a,vs,rfl,.inr ⟨_,ai,n,e,b_ h1,rfl,Q_ (b_ h2) (by decide),r⟩,i⟩
 ·cases h
theorem xt {C:Addr} (h:DA K C=true):sZ K C:=by
 unfold DA at h;obtain⟨h,h4⟩:=ae h;obtain⟨h,h3⟩:=ae h;obtain⟨h1,h2⟩:=ae h;exact⟨h1,h2,h3,Xq.mp h4⟩
theorem Jf {c:Nat}{x:Str}{C:Addr} (h:T.cls[c]? = some x) (e:Yz K mainGlobals x=some (some (.ref C))):jb K T c=C:=by
 unfold jb;rw[A_,h];show (match Yz K mainGlobals x with | some (some (.ref a))=>a | _=>0)=C;rw[e]
theorem lookup_mem {α:Type}{c:Nat}{x:α}:∀ {l:List (Nat×α)},l.lookup c=some x->(c,x)∈l
 | [],h=>nomatch h
 | (k,y)::r,h=>by
  rw[Wr] at h
  cases q:c==k with
  | true=>rw[q] at h;cases h;rw[Xq.mp q];exact S_
  | false=>rw[q] at h;exact E_ _ (lookup_mem h)
theorem qN {CX:vt}{n:Nat}{f:Addr}{fd:W4}{ps:List Str}{sp:Sp} (h:∀ vs H Q E,¬ sp vs H Q E):bO P w K mg base CX n f fd ps sp:=⟨fun vs H Q E z=>(h vs H Q E z).elim,fun A outer s H args us vs Q E _ _ _ _ z=>(h vs H Q E z).elim⟩
structure Facts (K:e_) (p:Pg) (mg:Str->k_ Value) (w:World):Prop where
 fn:∀ (f:Nat) x,p.T.fns[f]? = some x->(x==("__debug__" : Str))=false->∃ d a fd st,p.fd[f]? = some (some d)/\mg x=some (.ref a)/\kj K p.T false d a fd st
 kl:∀ (c:Nat) x,p.T.cls[c]? = some x->(x==("__debug__" : Str))=false->mg x=some (.ref (jb K p.T c))/\WH K (.ref (jb K p.T c))=true
 me:∀ (m:Nat) x,p.T.jN[m]? = some x->∀ c d,(p.md.getD m []).lookup c=some d->sZ K (jb K p.T c)/\∃ a fd st,WG K (.ref (jb K p.T c)) x=some (some (.ref a))/\kj K p.T false d a fd st
 bj:∀ (c:Nat) d,p.id.lookup c=some d->∃ a fd st,Mk K (jb K p.T c) a/\kj K p.T true d a fd st
 cm:∀ (c:Nat),p.T.mX.contains c=true->∃ a fd st d,p.id.lookup c=some d/\Ge K (jb K p.T c) "__init__" a/\kj K p.T true d a fd st
 cs:∀ (k:Nat) x,p.T.mW[k]? = some x->(x==("__debug__" : Str))=false->∃ u v,mg x=some u/\RelV v u/\∀ G,Is K ⟨jb K p.T,w⟩ G (p.cs k) v
 at_:∀ n f,p.at_ n f=true->sZ K (jb K p.T n)/\dW K (jb K p.T n) f
 bt:∀ x∈Dj,mg x=none
theorem AY {h:Heap} (hc:AU K p=true) (X:K.In h) (G:h.Ns mainGlobals mg):Facts K p mg w:=by
 unfold AU at hc;obtain⟨hc,c9⟩:=ae hc;obtain⟨hc,c8⟩:=ae hc;obtain⟨hc,c7⟩:=ae hc;obtain⟨hc,c6⟩:=ae hc;obtain⟨hc,c5⟩:=ae hc;obtain⟨hc,c4⟩:=ae hc;obtain⟨hc,c3⟩:=ae hc;obtain⟨c1,c2⟩:=ae hc;have c1:=b_ c1;obtain⟨Rm,c7⟩:=ae c7;have Rm:=b_ Rm;rw[Wm] at c2 c3 c4 c5 c6 c7 c8 c9;refine⟨fun f x hx hd=>?_,fun c x hx hd=>?_,fun m x hx c d hl=>?_,fun c d hl=>?_,fun c Vg=>?_,fun k x hx hd=>?_,fun n f hn=>?_,fun x hx=>?_⟩
 ·rw[c1,h_] at hx;obtain⟨o,ho,e⟩:=m_.mp hx
  cases o with
  | none=>rw[←e] at hd;exact absurd hd (by unfold Jc;rw[X6];decide)
  | some d =>
   obtain⟨a,e1,e2⟩:=m4 (c2 _ (y_ ho));obtain⟨fd,st,A⟩:=mZ e2;exact⟨d,a,fd,st,ho,by rw[←e];exact Zu X G e1,A⟩
 ·have:=c3 x (y_ hx);have o0:(x==Jc)=false:=hd;rw[o0,abr] at this;obtain⟨a,e1,e2⟩:=m4 this;rw[Jf hx e1];exact⟨Zu X G e1,e2⟩
 ·have hm:p.md[m]? = some (p.md.getD m []):=by
   rw[A_] at hl ⊢
   cases q:p.md[m]? with
   | none=>rw[q] at hl;exact nomatch hl
   | some l=>rfl
  have:=c4 (x,p.md.getD m []) (y_ (i:=m) (by rw[Xp];exact⟨hx,hm⟩));have:=(Wm.mp this) (c,d) (lookup_mem hl);obtain⟨k1,k2⟩:=ae this;obtain⟨a,e1,e2⟩:=m4 k2;obtain⟨fd,st,A⟩:=mZ e2;exact⟨xt k1,a,fd,st,e1,A⟩
 ·have:=c5 (c,d) (lookup_mem hl);obtain⟨k,k3⟩:=ae this;obtain⟨k1,k2⟩:=ae k;obtain⟨a,e1,e2⟩:=m4 k3;obtain⟨fd,st,A⟩:=mZ e2;exact⟨a,fd,st,⟨k1,e1,A.S4,k2⟩,A⟩
 ·have:=c6 c (Zj.mp Vg);obtain⟨k,k3⟩:=ae this;obtain⟨k1,k2⟩:=ae k;obtain⟨a,e1,e2⟩:=Je k3
  cases q:p.id.lookup c with
  | none=>rw[q] at e2;cases e2
  | some d =>
   rw[q] at e2;obtain⟨fd,st,A⟩:=mZ e2;exact⟨a,fd,st,d,rfl,⟨Xq.mp k1,k2,e1,A.kp⟩,A⟩
 ·have hl:k<p.IZ.length:=by rw[←Rm];exact (i_.mp hx).1
  have:=c7 (x,p.IZ[k]) (y_ (i:=k) (by rw[Xp];exact⟨hx,c_ hl⟩));have o0:(x==Jc)=false:=hd;dsimp only at this;rw[o0,abr] at this;have e:p.cs k=p.IZ[k]:=by unfold Pg.cs;rw[A_,c_ hl];rfl
  rw[e];generalize p.IZ[k]=d at this;unfold Ev at this;split at this
  ·rename_i i t j q;have:=b_ this;subst this;exact⟨_,.int _,Zu X G q,⟨_,rfl⟩,fun G=>by unfold Is;rfl⟩
  ·rename_i i t j q;have:=b_ this;subst this;exact⟨_,.str _,Zu X G q,⟨_,rfl⟩,fun G=>by unfold Is;rfl⟩
  ·rename_i a ds q;exact⟨_,.ref a,Zu X G q,rfl,fun G=>DB this⟩
  ·cases this
 ·unfold Pg.at_ at hn
  cases q:p.Rj.lookup n with
  | none=>rw[q] at hn;cases hn
  | some fs =>
   rw[q] at hn;obtain⟨k1,k2⟩:=ae (c8 (n,fs) (lookup_mem q));exact⟨xt k1,xr ((Wm.mp k2) f (Zj.mp hn))⟩
 ·exact PySem.W.mg_none_of X G (xr (c9 x hx))
theorem AZ {M:Mem}{x:Dt}{c c':Nat}{fs fA:List Str} (h:eI M x (fun n f=>n=c/\f=fs)) (h':eI M x (fun n f=>n=c'/\f=fA)):c=c':=by
 unfold eI at h h'
 cases x with
 | obj n f _=>exact h.1.symm.trans h'.1
 | dD a =>
  dsimp only at h h'
  cases q:M a with
  | none=>rw[q] at h;exact h.elim
  | some o =>
   rw[q] at h h'
   cases o with
   | mo n f _=>exact h.1.symm.trans h'.1
   | _=>exact h.elim
 | _=>exact h.elim
def FX (P:N_) (w:World) (K:e_) (mg:Str->k_ Value) (base:Heap) (p:Pg) (n:Nat):Prop:=Fx (p.Γ n) ⟨jb K p.T,w⟩ P w K mg base n p.T.fns p.T.jN p.T.cls p.T.mW p.T.mX
theorem Rn {n f:Nat}{ds:List Dt}{M:Mem}{k:Dt->Mem->Prop} (h:(p.Γ (n+1)).fn f ds M k):∃ d,p.fd[f]? = some (some d)/\ds.length=d.ps.length/\ex (p.Γ n) d.c (bj d.N d.ps (ds.map Sl.sh)) M { nx:=fun _ M'=>k .aJ M',rt:=k }:=h
theorem Ro {n m:Nat}{x:Dt}{r:List Dt}{M:Mem}{k:Dt->Mem->Prop}{c:Nat}{fs:List Str}{d:Df} (hx:eI M x (fun c' fA=>c'=c/\fA=fs)) (hd:(p.md.getD m []).lookup c=some d) (h:(p.Γ (n+1)).me m (x::r) M k):(x::r).length=d.ps.length/\ex (p.Γ n) d.c (bj d.N d.ps ((x::r).map Sl.sh)) M { nx:=fun _ M'=>k .aJ M',rt:=k }:=by
 obtain⟨x',r',c',fA,d',e1,e2,e3,e4⟩:=h
 cases e1
 obtain rfl:=AZ hx e2;rw[hd] at e3
 cases e3
 exact e4
theorem Ny {n c:Nat}{o:Dt}{ds:List Dt}{M:Mem}{k:Dt->Mem->Prop} (h:(p.Γ (n+2)).bj c o ds M k):∃ d,p.id.lookup c=some d:=by
 obtain⟨_,_,_,_,d,_,_,e,_⟩:=h;exact⟨d,e⟩
theorem Nz {n c q:Nat}{fs:List Str}{xs ds:List Dt}{M:Mem}{k:Dt->Mem->Prop}{d:Df} (hd:p.id.lookup c=some d) (h:(p.Γ (n+2)).bj c (.obj q fs xs) ds M k):ds.length+1=d.ps.length/\ex (p.Γ n) d.c (bj d.N d.ps (.ow (.obj q fs xs)::ds.map Sl.sh)) M { nx:=fun ρ M'=>b8 ρ 0 fun d=>pB d fun q' fA sR=>q'=q/\k (.obj q fA sR) M',rt:=fun _ _=>False }:=by
 obtain⟨_,_,_,_,d',e1,e2,e3,e4⟩:=h
 cases e1;cases e2
 rw[hd] at e3
 cases e3
 exact e4
theorem Ew {c:Nat}{o:Dt}{ds:List Dt}{M:Mem}{k:Dt->Mem->Prop} (h:(p.Γ 1).bj c o ds M k):False:=by
 obtain⟨_,_,_,_,_,e,_⟩:=h;exact nomatch e
theorem NA {n m c:Nat}{fs:List Str}{x:Str} (h:(p.Γ n).hm m c fs=true) (hx:p.T.jN[m]? = some x):fs.contains x=false/\∃ d,(p.md.getD m []).lookup c=some d:=by
 rw[Pg.lz] at h;unfold Pg.hm at h;rw[hx] at h
 cases q:(p.md.getD m []).lookup c with
 | none=>rw[q] at h;cases h
 | some d=>rw[q] at h;exact⟨by simpa using h,d,rfl⟩
theorem A0 {n:Nat} (F:Facts K p mg w)
  (hf:∀ (f:Nat) d a fd st,p.fd[f]? = some (some d)->kj K p.T false d a fd st->bO P w K mg base lS n a fd d.ps (Mn K ⟨jb K p.T,w⟩ ((p.Γ n).fn f)))
  (ho:∀ (f:Nat) d a fd st,p.fd[f]? = some (some d)->kj K p.T false d a fd st->bO P w K mg base lS n a fd d.ps (Mp K ⟨jb K p.T,w⟩ ((p.Γ n).fo f)))
  (hm:∀ (m c:Nat) d a fd st,(p.md.getD m []).lookup c=some d->kj K p.T false d a fd st->bO P w K mg base lS n a fd d.ps (Mq K ⟨jb K p.T,w⟩ c ((p.Γ n).me m)))
  (hi:∀ c d ds M k,(p.Γ n).bj c d ds M k->∃ a fd ps j,n=j+1/\bO P w K mg base lS j a fd ps (C2 K ⟨jb K p.T,w⟩ ((p.Γ n).bj c))/\Binds K fd ps []/\Mk K (jb K p.T c) a)
  (hc:∀ c d a fd st,p.id.lookup c=some d->kj K p.T true d a fd st->bO P w K mg base lS n a fd d.ps (C2 K ⟨jb K p.T,w⟩ ((p.Γ n).bj c))):FX P w K mg base p n:=by
 refine⟨fun f x hx hd=>?_,fun f x hx hd=>?_,fun m x hx c fs h=>?_,F.kl,hi,fun c h=>?_,fun k x h1 h2=>?_,fun m f h=>?_,rfl⟩
 ·obtain⟨d,a,fd,st,e1,e2,A⟩:=F.fn f x hx hd;exact⟨a,fd,d.ps,e2,A.kp,A.bi,hf f d a fd st e1 A⟩
 ·obtain⟨d,a,fd,st,e1,e2,A⟩:=F.fn f x hx hd;exact⟨a,fd,d.ps,e2,A.kp,A.bi,ho f d a fd st e1 A⟩
 ·obtain⟨h1,d,h2⟩:=NA h hx;obtain⟨h3,a,fd,st,h4,A⟩:=F.me m x hx c d h2;exact⟨h1,h3,a,fd,d.ps,⟨h4,A.S4,A.kp⟩,A.bi,hm m c d a fd st h2 A⟩
 ·obtain⟨a,fd,st,d,h1,h2,A⟩:=F.cm c h;exact⟨a,fd,d.ps,h2,hc c d a fd st h1 A,A.bi⟩
 ·rw[Pg.Ja];exact F.cs k x h1 h2
 ·rw[Pg.Nw] at h;exact F.at_ m f h
theorem A1 {c:Nat}{pf:Dt->List Dt->Mem->(Dt->Mem->Prop)->Prop}{cl:Cl} (h:∀ o ds M k,¬ pf o ds M k) (vs:List V) (H:Hp) (Q:VK) (E:XK):¬ C2 K cl pf vs H Q E:=fun z=>by
 obtain⟨G,M,a,n,fs,xs,dx,us,JZ,ds,k,_,_,_,_,_,_,_,_,_,h4,_⟩:=z;exact h _ _ _ _ h4
theorem m5 (F:Facts K p mg w):FX P w K mg base p 0:=by
 refine A0 F (fun f d a fd st _ _=>qN fun vs H Q E h=>?_) (fun f d a fd st _ _=>qN fun vs H Q E h=>?_) (fun m c d a fd st _ _=>qN fun vs H Q E h=>?_) (fun c d ds M k h=>h.elim) fun c d a fd st _ _=>qN (A1 (c:=0) fun _ _ _ _ z=>z)
 ·obtain⟨G,M,ds,k,_,_,_,h4,_⟩:=h;exact h4
 ·obtain⟨G,M,ds,k,_,_,_,h4,_⟩:=h;exact h4
 ·obtain⟨G,M,d,ds,k,fs,_,_,_,_,h4,_⟩:=h;exact h4
theorem Ex {n f:Nat}{d:Df}{fd:W4}{st:Stmt} (F:Facts K p mg w) (f0:FX P w K mg base p n) (e:p.fd[f]? = some (some d)) (A:kj K p.T false d a fd st):bO P w K mg base lS (n+1) a fd d.ps (Mn K ⟨jb K p.T,w⟩ ((p.Γ (n+1)).fn f)) :=
 Es (T:=p.T) f0 F.bt A.fn A.ch fun ds M k h=>by
  obtain⟨d',h1,h2⟩:=Rn h;rw[e] at h1
  cases h1
  exact h2
theorem Ey {n f:Nat}{d:Df}{fd:W4}{st:Stmt} (F:Facts K p mg w) (f0:FX P w K mg base p n) (e:p.fd[f]? = some (some d)) (A:kj K p.T false d a fd st):bO P w K mg base lS (n+1) a fd d.ps (Mp K ⟨jb K p.T,w⟩ ((p.Γ (n+1)).fo f)) :=
 Nr (T:=p.T) f0 F.bt A.fn A.ch fun ds M k h=>by
  obtain⟨d',h1,h2⟩:=h;rw[e] at h1
  cases h1
  exact h2
theorem Ez {n c:Nat}{d:Df}{fd:W4}{st:Stmt} (F:Facts K p mg w) (f0:FX P w K mg base p n) (e:p.id.lookup c=some d) (A:kj K p.T true d a fd st):bO P w K mg base lS (n+1) a fd d.ps (C2 K ⟨jb K p.T,w⟩ ((p.Γ (n+2)).bj c)) :=
 Nu (T:=p.T) f0 F.bt A.fn A.ch fun _ _ _ _ _ _ h=>Nz e h
theorem A2 (F:Facts K p mg w) (n:Nat):FX P w K mg base p n:=by
 have two:∀ n,FX P w K mg base p n/\FX P w K mg base p (n+1):=by
  have me:∀ n,FX P w K mg base p n->∀ (m c:Nat) d a fd st,(p.md.getD m []).lookup c=some d->kj K p.T false d a fd st->bO P w K mg base lS (n+1) a fd d.ps (Mq K ⟨jb K p.T,w⟩ c ((p.Γ (n+1)).me m)):=fun n f0 m c d a fd st e A=>Nt (T:=p.T) f0 F.bt A.fn A.ch fun _ _ _ _ _ hx h=>Ro hx e h
  intro n
  induction n with
  | zero=>exact⟨m5 F,A0 F (fun f d a fd st e A=>Ex F (m5 F) e A) (fun f d a fd st e A=>Ey F (m5 F) e A) (me 0 (m5 F)) (fun _ _ _ _ _ h=>(Ew h).elim) fun _ _ _ _ _ _ _=>qN (A1 (c:=0) fun _ _ _ _ z=>Ew z)⟩
  | succ n ih =>
   refine⟨ih.2,A0 F (fun f d a fd st e A=>Ex F ih.2 e A) (fun f d a fd st e A=>Ey F ih.2 e A) (me _ ih.2) (fun c o ds M k h=>?_) fun c d a fd st e A=>(Ez F ih.1 e A).mono (by lia)⟩;obtain⟨d',e3⟩:=Ny h;obtain⟨a,fd,st,mk,A⟩:=F.bj c d' e3;exact⟨a,fd,d'.ps,n+1,rfl,Ez F ih.1 e3 A,A.bi,mk⟩
 exact (two n).1
def EA (K:e_):Sp:=fun vs H Q _=>∃ (a:Addr) (ns:List Int),vs=[.ref a]/\cr K H a (ns.map V.int)/\ns.length<=63/\∀ H',Q (.bl true) H'
theorem Jg {h:Heap}{lw n:Nat}{df:Df}{fa:Addr} (hc:AU K p=true) (X:K.In h) (G:h.Ns mainGlobals mg) (S5:mg "law" = some (.ref fa)) (h1:p.fd[lw]? = some (some df)) (h2:df.x = "law") (h3:df.ps=[("_law_script" : Str)])
  (hl:∀ (ns:List Int) k,ns.length<=63->(∀ M',k (.bl true) M')->(p.Γ n).fn lw [.mw (ns.map .int)] (fun _=>none) k):∃ fd:W4,(∀ (s:j_) (v:Value),acz s fd ⟨[v],[]⟩ [("_law_script",v)])/\∀ base:Heap,K.In base->base.Ns mainGlobals mg->bO P w K mg base lS n fa fd ["_law_script"] (EA K):=by
 have F:Facts K p mg w:=AY hc X G
 have c1:p.T.fns=p.fd.map fun o=>match o with | some d=>d.x | none=>Jc:=by
  unfold AU at hc;simp only[q_] at hc;exact b_ hc.1.1.1.1.1.1.1.1
 have hx:p.T.fns[lw]? = some "law" := by rw[c1,h_,h1];exact congrArg some h2
 obtain⟨d,a,fd,st,e1,e2,A⟩:=F.fn lw "law" hx (by decide);rw[h1] at e1
 cases e1
 rw[S5] at e2
 cases e2
 refine⟨fd,fun s v=>.of_eq (by have:=A.ba [v] (by rw[h3];rfl);rw[h3] at this;exact this),fun base _ _=>?_⟩;obtain⟨a',OQ,Hy,k1,k2,k3,k4⟩:=(A2 (P:=P) (base:=base) F n).fn lw "law" hx (by decide);rw[S5] at k1
 cases k1
 obtain⟨oc,od,kV,doc,pm,an,jh,ct,zu,rfl,lk,jS⟩:=A.fn.ex
 cases n with
 | zero=>exact qN fun vs H Q E z=>by obtain⟨b,ns,_,_,hn,_⟩:=z;exact hl ns (fun _ _=>True) hn fun _=>trivial
 | succ n =>
  have k:=Es (T:=p.T) (pf:=(p.Γ (n+1)).fn lw) (A2 (P:=P) (base:=base) F n) F.bt A.fn A.ch fun ds M k h=>by
   obtain⟨d',q1,q2,q3⟩:=h;rw[h1] at q1
   cases q1
   exact⟨q2,q3⟩
  rw[h3] at k;refine k.imp fun vs H Q E z=>?_
  obtain⟨b,ns,rfl,hs,hn,hQ⟩:=z;refine⟨H,fun _=>none,[.mw (ns.map .int)],fun d _=>d=.bl true,ah.refl H,(fun _ _ z=>nomatch z),IsL.cons (by unfold Is;exact⟨b,_,rfl,hs,IsL.ints ns⟩) IsL.nil,hl ns _ hn fun _=>rfl,fun d M' v G' H' e f i=>?_⟩;subst e;unfold Is at i;subst i;exact hQ H'
theorem DC {l:acp}{q:N_}{loose:List Str}{XP:(Str->k_ Value)->Heap->Prop}{YP:World->Heap->Prop}{d:DefRec}{K:Params->e_}{lw n:Nat}{df:Df} (hn:l.most=some 63) (KP:d.params.defaults=[]) (Vh:d.name = "law") (hr:b0 n aaC)
  (hY:∀ (w:World) (h:Heap),YP w h->(K w.params).In h) (hc:∀ w:World,AU (K w.params) p=true) (h1:p.fd[lw]? = some (some df)) (h2:df.x = "law") (h3:df.ps=[("_law_script" : Str)])
  (hl:∀ (ns:List Int) k,ns.length<=63->(∀ M',k (.bl true) M')->(p.Γ n).fn lw [.mw (ns.map .int)] (fun _=>none) k):acR q loose XP YP l.row.toRowW d [] (fun f vs=>acJ f vs) :=
 L2.Cr (n:=63) (k:=n) (x := "_law_script") (CX:=fun _=>lS) (sp:=fun w=>EA (K w.params)) hn (by decide) KP hr hY (fun w mg fa h KX G FZ=>Jg (hc w) KX G (by rw[←Vh];exact FZ) h1 h2 h3 hl) (fun _ _ a ns hl _ hS=>⟨a,ns,rfl,hS,hl,fun _=>rfl⟩) fun _ _ _ _ _ z=>z
end
end PV
namespace K18
open PySem L2 SH PV
noncomputable def fZ:S:=(.seq (.eF 0 "whole" (.v 1)) (.seq (.eF 0 "fault" (.v 2)) (.seq (.eF 0 "most" (.v 3)) (.seq (.eF 0 "answers" .GF) (.seq (.eF 0 "questions" (.CO (.jl .nil))) .skip)))))
noncomputable def eW:S:=(.seq (.set 2 (.bR 10 (.fld (.v 0) "whole") (.cons (.v 1) .nil))) (.seq (.set 3 (.bR 11 (.v 2) .nil)) (.seq (.ite (.CS (.v 3) (.fld (.v 0) "answers")) (.seq (.ex (.bR 1 (.v 0) (.cons (.v 1) (.cons (.v 2) .nil)))) .skip) .skip) (.seq (.ret (.GJ (.fld (.v 0) "answers") (.v 3))) .skip))))
noncomputable def ic:S:=(.seq (.ite (.cmp .ge (.bR 2 (.v 0) .nil) (.fld (.v 0) "most")) (.seq .never .skip) .skip) (.seq (.set 3 (.bR 5 (.fld (.v 0) "fault") (.cons (.v 2) .nil))) (.seq (.Ln (.fld (.v 0) "answers") (.bR 11 (.v 2) .nil) (.v 3)) (.seq (.GK (.fld (.v 0) "questions") (.tup (.cons (.yZ (.v 1)) (.cons (.v 3) .nil)))) .skip))))
noncomputable def eX:S:=(.seq (.ret (.len (.d (.fld (.v 0) "questions")))) .skip)
noncomputable def ie:S:=(.seq (.ret (.CO (.vQ (.fld (.v 0) "questions") 2 [] (.b true) (.tup (.cons (.CO (.xa (.v 0))) (.cons (.v 1) .nil)))))) .skip)
noncomputable def pE:S:=(.seq (.ret (.fld (.v 0) "whole")) .skip)
noncomputable def jt:S:=(.seq (.eF 0 "mark" (.v 1)) .skip)
noncomputable def ig:S:=(.seq (.ret (.cmp .gt (.bR 7 (.v 1) (.cons (.fld (.v 0) "mark") .nil)) (.i 0))) .skip)
noncomputable def ij:S:=(.seq (.eF 0 "number" (.v 1)) (.seq (.eF 0 "mark" (.v 2)) .skip))
noncomputable def f6:S:=(.seq (.ret (.cmp .ge (.bR 7 (.v 1) (.cons (.fld (.v 0) "mark") .nil)) (.fld (.v 0) "number"))) .skip)
noncomputable def ik:S:=(.seq (.eF 0 "one" (.v 1)) (.seq (.eF 0 "other" (.v 2)) .skip))
noncomputable def d7:S:=(.seq (.ret (.bR 8 (.v 1) (.cons (.fld (.v 0) "one") (.cons (.fld (.v 0) "other") .nil)))) .skip)
noncomputable def eY:S:=(.seq (.ret (.bR 13 (.v 1) (.cons (.fld (.v 0) "one") (.cons (.fld (.v 0) "other") .nil)))) .skip)
noncomputable def d8:S:=(.seq (.ret (.bR 14 (.v 1) (.cons (.fld (.v 0) "one") (.cons (.fld (.v 0) "other") .nil)))) .skip)
noncomputable def f7:S:=(.seq (.eF 0 "parts" (.yZ (.v 1))) .skip)
noncomputable def im:S:=(.seq (.bM (.fB (.fld (.v 0) "parts")) [2] (.seq (.ite (.not (.bR 5 (.v 2) (.cons (.v 1) .nil))) (.seq (.ret (.b false)) .skip) .skip) .skip)) (.seq (.ret (.b true)) .skip))
noncomputable def io:S:=(.seq (.bM (.fB (.fld (.v 0) "parts")) [2] (.seq (.ite (.bR 5 (.v 2) (.cons (.v 1) .nil)) (.seq (.ret (.b true)) .skip) .skip) .skip)) (.seq (.ret (.b false)) .skip))
noncomputable def ju:S:=(.seq (.eF 0 "part" (.v 1)) .skip)
noncomputable def ip:S:=(.seq (.ret (.not (.bR 5 (.fld (.v 0) "part") (.cons (.v 1) .nil)))) .skip)
noncomputable def jv:S:=(.seq (.ret (.and (.rM (.v 0) 0) (.one (.not (.rM (.v 0) 1))))) .skip)
noncomputable def lB:S:=(.seq (.ite (.not (.rM (.v 0) 2)) (.seq (.ret (.b false)) .skip) .skip) (.seq (.ite (.not (.Ad .le .le (.i 1) (.len (.v 0)) (.g 1))) (.seq (.ret (.b false)) .skip) .skip) (.seq (.ret (.all (.fr (.comp (.fB (.v 0)) 1 [] (.b true) (.ins (.v 0) (.g 0)))))) .skip)))
noncomputable def f8:S:=(.seq (.ite (.not (.rM (.v 0) 3)) (.seq .never .skip) .skip) (.seq (.ite (.cmp .gt (.len (.v 0)) (.v 1)) (.seq .never .skip) .skip) .skip))
noncomputable def eZ:S:=(.seq (.ex (.call 2 (.cons (.v 0) (.cons (.v 1) .nil)))) (.seq (.bM (.fB (.v 0)) [2] (.seq (.ite (.not (.call 1 (.cons (.v 2) .nil))) (.seq .never .skip) .skip) .skip)) .skip))
noncomputable def f9:S:=(.seq (.ite (.or (.not (.rM (.v 0) 4)) (.one (.eq true (.len (.v 0)) (.i 2)))) (.seq .never .skip) .skip) (.seq (.ite (.not (.call 1 (.cons (.ix (.v 0) (.i 0)) .nil))) (.seq .never .skip) .skip) (.seq (.ite (.or (.not (.call 0 (.cons (.ix (.v 0) (.i 1)) .nil))) (.one (.not (.Ad .le .le (.i 0) (.ix (.v 0) (.i 1)) (.v 1))))) (.seq .never .skip) .skip) .skip)))
noncomputable def fb:S:=(.seq (.ex (.call 2 (.cons (.v 0) (.cons (.g 3) .nil)))) (.seq (.set 1 (.i 0)) (.seq (.bM (.fB (.v 0)) [2] (.seq (.ex (.call 4 (.cons (.v 2) (.cons (.v 1) .nil)))) (.seq (.set 1 (.min2 (.bin .add (.ix (.v 2) (.i 1)) (.i 1)) (.g 4))) .skip))) .skip)))
noncomputable def fe:S:=(.seq (.ex (.call 2 (.cons (.v 0) (.cons (.g 5) .nil)))) (.seq (.bM (.fB (.v 0)) [1] (.seq (.ex (.call 3 (.cons (.v 1) (.cons (.g 6) .nil)))) (.seq (.ite (.eq true (.len (.v 1)) (.len (.ix (.v 0) (.i 0)))) (.seq .never .skip) .skip) .skip))) .skip))
noncomputable def d9:S:=(.seq (.ite (.not (.rM (.v 0) 3)) (.seq .never .skip) .skip) (.seq (.set 2 (.i 0)) (.seq (.bM (.fB (.v 0)) [3] (.seq (.ite (.or (.not (.call 0 (.cons (.v 3) .nil))) (.one (.not (.Ad .le .lt (.v 2) (.v 3) (.v 1))))) (.seq .never .skip) .skip) (.seq (.set 2 (.bin .add (.v 3) (.i 1))) .skip))) .skip)))
noncomputable def jw:S:=(.seq (.ret (.fr (.comp (.fB (.v 1)) 1 [0] (.b true) (.ix (.v 1) (.v 0))))) .skip)
noncomputable def iq:S:=(.seq (.ret (.fr (.comp (.CP (.v 0)) 2 [1] (.eq false (.v 1) (.v 2)) (.v 0)))) .skip)
noncomputable def ec:S:=(.seq (.set 3 (.b false)) (.seq (.bM (.fB (.v 0)) [4] (.seq (.ite (.and (.v 3) (.one (.eq false (.v 4) (.v 2)))) (.seq (.ret (.b true)) .skip) .skip) (.seq (.ite (.eq false (.v 4) (.v 1)) (.seq (.set 3 (.b true)) .skip) .skip) .skip))) (.seq (.ret (.b false)) .skip)))
noncomputable def bX:S:=(.seq (.ret (.any (.fr (.comp (.zip (.v 0) (.slt (.v 0) (.cons (.i 1) .nil) .nil)) 2 [1,2] (.b true) (.and (.eq false (.v 0) (.v 2)) (.one (.eq false (.v 1) (.v 3)))))))) .skip)
noncomputable def gc:S:=(.seq (.eF 0 "spot_marks" (.Eb (.v 1))) .skip)
noncomputable def pG:S:=(.seq (.ret (.fr (.xa (.fld (.v 0) "spot_marks")))) .skip)
noncomputable def du:S:=(.seq (.ret (.cnt (.fld (.v 0) "spot_marks") (.v 1))) .skip)
noncomputable def cA:S:=(.seq (.ret (.call 10 (.cons (.fld (.v 0) "spot_marks") (.cons (.v 1) (.cons (.v 2) .nil))))) .skip)
noncomputable def jx:S:=(.seq (.ex (.call 3 (.cons (.v 1) (.cons (.g 2) .nil)))) (.seq (.bj 16 (.cons (.v 1) .nil)) .skip))
noncomputable def jy:S:=(.seq (.ret (.len (.fld (.v 0) "spot_marks"))) .skip)
noncomputable def jz:S:=(.seq (.ex (.call 7 (.cons (.v 1) (.cons (.bR 9 (.v 0) .nil) .nil)))) (.seq (.ret (.mk 17 (.cons (.call 8 (.cons (.fld (.v 0) "spot_marks") (.cons (.v 1) .nil))) .nil))) .skip))
noncomputable def jA:S:=(.seq (.ret (.tup (.cons (.s "row") (.cons (.fld (.v 0) "spot_marks") .nil)))) .skip)
noncomputable def ef:S:=(.seq (.ret (.call 9 (.cons (.fld (.v 0) "spot_marks") (.cons (.v 1) .nil)))) .skip)
noncomputable def eg:S:=(.seq (.ret (.b false)) .skip)
noncomputable def dv:S:=(.seq (.ret (.call 11 (.cons (.fld (.v 0) "spot_marks") (.cons (.v 1) (.cons (.v 2) .nil))))) .skip)
noncomputable def pH:S:=(.seq (.ret (.fr (.jl (.cons (.v 1) .nil)))) .skip)
noncomputable def fg:S:=(.seq (.ex (.call 5 (.cons (.v 1) .nil))) (.seq (.bj 16 (.cons (.fr (.comp (.fB (.v 1)) 1 [] (.b true) (.ix (.v 0) (.i 0)))) .nil)) (.seq (.eF 0 "nodes" (.yZ (.v 1))) .skip)))
noncomputable def fh:S:=(.seq (.ret (.len (.fld (.v 0) "nodes"))) .skip)
noncomputable def fi:S:=(.seq (.ex (.call 7 (.cons (.v 1) (.cons (.bR 9 (.v 0) .nil) .nil)))) (.seq (.set 2 (.yh (.fr (.comp (.fB (.v 1)) 1 [] (.b true) (.tup (.cons (.v 0) (.cons (.b true) .nil))))))) (.seq (.d5 3 (.jl .nil)) (.seq (.d5 4 (.jl (.cons (.i 0) .nil))) (.seq (.bM (.CP (.fld (.v 0) "nodes")) [5,6] (.seq (.d5 4 (.Ae (.o 4) .nil (.cons (.bin .add (.ix (.v 6) (.i 1)) (.i 1)) .nil))) (.seq (.set 7 (.ix (.o 4) (.neg (.i 1)))) (.seq (.ite (.ind (.v 5) (.v 2)) (.seq (.app 3 (.tup (.cons (.ix (.v 6) (.i 0)) (.cons (.v 7) .nil)))) (.seq (.app 4 (.bin .add (.v 7) (.i 1))) .skip)) (.seq (.app 4 (.v 7)) .skip)) .skip)))) (.seq (.dS 3) (.seq (.ret (.mk 18 (.cons (.v 3) .nil))) .skip)))))))
noncomputable def fj:S:=(.seq (.ret (.tup (.cons (.s "forest") (.cons (.fld (.v 0) "nodes") .nil)))) .skip)
noncomputable def cB:S:=(.seq (.ret (.call 9 (.cons (.fld (.v 0) "spot_marks") (.cons (.v 1) .nil)))) .skip)
noncomputable def cC:S:=(.seq (.bM (.fB (.bR 12 (.v 0) (.cons (.v 1) .nil))) [3] (.seq (.ite (.w9 false (.v 2) (.call 8 (.cons (.fld (.v 0) "spot_marks") (.cons (.fr (.Ae (.bR 15 (.v 0) (.cons (.v 3) .nil)) (.cons (.i 1) .nil) .nil)) .nil)))) (.seq (.ret (.b true)) .skip) .skip) .skip)) (.seq (.ret (.b false)) .skip))
noncomputable def b9:S:=(.seq (.bM (.fB (.bR 12 (.v 0) (.cons (.v 1) .nil))) [3] (.seq (.set 4 (.bin .add (.ix (.bR 15 (.v 0) (.cons (.v 3) .nil)) (.neg (.i 1))) (.i 1))) (.seq (.ite (.and (.cmp .lt (.v 4) (.bR 9 (.v 0) .nil)) (.one (.eq false (.ix (.fld (.v 0) "nodes") (.v 4)) (.tup (.cons (.v 2) (.cons (.ix (.ix (.fld (.v 0) "nodes") (.v 3)) (.i 1)) .nil)))))) (.seq (.ret (.b true)) .skip) .skip) .skip))) (.seq (.ret (.b false)) .skip))
noncomputable def cT:S:=(.seq (.set 2 (.bin .add (.v 1) (.i 1))) (.seq (.JW (.and (.cmp .lt (.v 2) (.bR 9 (.v 0) .nil)) (.one (.cmp .gt (.ix (.ix (.fld (.v 0) "nodes") (.v 2)) (.i 1)) (.ix (.ix (.fld (.v 0) "nodes") (.v 1)) (.i 1))))) (.seq (.aug 2 .add (.i 1)) .skip)) (.seq (.ret (.fr (.GG (.v 1) (.v 2)))) .skip)))
noncomputable def gd:S:=(.seq (.ex (.call 6 (.cons (.v 1) .nil))) (.seq (.d5 2 (.jl .nil)) (.seq (.bM (.fB (.v 1)) [3] (.seq (.ext 2 (.v 3)) .skip)) (.seq (.dS 2) (.seq (.bj 16 (.cons (.v 2) .nil)) (.seq (.eF 0 "lines" (.yZ (.fr (.comp (.fB (.v 1)) 1 [] (.b true) (.yZ (.v 0)))))) (.seq (.eF 0 "columns" (.GA (.tr (.v 1)) (.len (.ix (.v 1) (.i 0))) (.i 0))) .skip)))))))
noncomputable def gi:S:=(.seq (.ret (.bin .add (.len (.fld (.v 0) "lines")) (.fld (.v 0) "columns"))) .skip)
noncomputable def gj:S:=(.seq (.ex (.call 7 (.cons (.v 1) (.cons (.bR 9 (.v 0) .nil) .nil)))) (.seq (.set 2 (.len (.fld (.v 0) "lines"))) (.seq (.set 3 (.fr (.comp (.fB (.v 1)) 1 [0,2] (.cmp .lt (.v 0) (.v 2)) (.ix (.fld (.v 1) "lines") (.v 0))))) (.seq (.set 4 (.fr (.comp (.fB (.v 1)) 1 [2] (.cmp .ge (.v 0) (.v 1)) (.bin .sub (.v 0) (.v 1))))) (.seq (.yx 5 19 (.cons (.fr (.comp (.fB (.v 3)) 1 [4] (.b true) (.call 8 (.cons (.v 0) (.cons (.v 1) .nil))))) .nil)) (.seq (.eF 5 "columns" (.len (.v 4))) (.seq (.dS 5) (.seq (.ret (.v 5)) .skip))))))))
noncomputable def gm:S:=(.seq (.ret (.tup (.cons (.s "table") (.cons (.fld (.v 0) "columns") (.cons (.fld (.v 0) "lines") .nil))))) .skip)
noncomputable def lC:S:=(.seq (.ret (.fr (.comp (.CP (.fld (.v 0) "lines")) 2 [1] (.w9 false (.v 2) (.v 1)) (.v 0)))) .skip)
noncomputable def cU:S:=(.seq (.bM (.jL (.fld (.v 0) "columns")) [3] (.seq (.ite (.call 10 (.cons (.fr (.comp (.fB (.fld (.v 0) "lines")) 1 [3] (.b true) (.ix (.v 0) (.v 1)))) (.cons (.v 1) (.cons (.v 2) .nil)))) (.seq (.ret (.b true)) .skip) .skip) .skip)) (.seq (.ret (.b false)) .skip))
noncomputable def cD:S:=(.seq (.ret (.any (.fr (.comp (.fB (.fld (.v 0) "lines")) 1 [1,2] (.b true) (.call 11 (.cons (.v 0) (.cons (.v 1) (.cons (.v 2) .nil)))))))) .skip)
noncomputable def mF:S:=(.seq (.ret (.fr (.jl (.cons (.v 1) .nil)))) .skip)
noncomputable def eh:S:=(.seq (.ite (.cmp .lt (.v 1) (.len (.v 0))) (.seq (.ret (.ix (.v 0) (.v 1))) .skip) .skip) (.seq (.ret (.bin .add (.bin .mul (.i 7) (.v 1)) (.i 3))) .skip))
noncomputable def dw:S:=(.seq (.set 1 (.s "abcdefghijklmnopqrstuvwxyz")) (.seq (.set 2 (.s "")) (.seq (.set 3 (.bin .mod (.v 0) (.bin .pow (.i 10) (.i 12)))) (.seq (.bM (.jL (.bin .mod (.v 3) (.i 8))) [4] (.seq (.set 3 (.bin .fdiv (.v 3) (.i 8))) (.seq (.set 2 (.bin .add (.v 2) (.ix (.v 1) (.bin .mod (.v 3) (.i 26))))) .skip))) (.seq (.set 5 (.bin .mod (.bin .fdiv (.v 0) (.i 8)) (.bin .add (.len (.v 2)) (.i 1)))) (.seq (.set 6 (.bin .mod (.bin .fdiv (.v 0) (.i 64)) (.i 26))) (.seq (.set 7 (.ix (.fr (.jl (.cons (.i 4) (.cons (.i 4) (.cons (.i 4) (.cons (.i 10) .nil)))))) (.bin .mod (.bin .fdiv (.v 0) (.i 1664)) (.i 4)))) (.seq (.ret (.fr (.comp (.jL (.v 7)) 1 [2,1,5,6] (.b true) (.bin .add (.bin .add (.CQ (.v 1) .nil (.cons (.v 3) .nil)) (.ix (.v 2) (.bin .mod (.bin .add (.v 4) (.bin .mul (.i 3) (.v 0))) (.i 26)))) (.CQ (.v 1) (.cons (.v 3) .nil) .nil))))) .skip))))))))
noncomputable def em:S:=(.seq (.ite (.eq false (.bin .mod (.v 0) (.i 16)) (.i 5)) (.seq (.ret (.bin .mod (.bin .fdiv (.v 0) (.i 16)) (.i 41))) .skip) .skip) (.seq (.ret (.bin .mod (.bin .fdiv (.v 0) (.i 16)) (.i 9))) .skip))
noncomputable def fk:S:=(.seq (.d5 4 (.jl .nil)) (.seq (.bM (.jL (.v 2)) [5] (.seq (.set 6 (.bin .add (.call 12 (.cons (.v 0) (.cons (.bin .add (.v 1) (.bin .mod (.v 5) (.i 12))) .nil))) (.bin .mul (.i 11) (.bin .fdiv (.v 5) (.i 12))))) (.seq (.app 4 (.ix (.v 3) (.ix (.fr (.jl (.cons (.ix (.fr (.jl (.cons (.i 0) (.cons (.i 0) (.cons (.i 1) (.cons (.i 1) (.cons (.i 2) (.cons (.i 2) (.cons (.i 3) .nil))))))))) (.bin .mod (.v 6) (.i 7))) (.cons (.bin .mod (.v 6) (.len (.v 3))) .nil)))) (.mz (.cmp .gt (.len (.v 3)) (.i 4)))))) .skip))) (.seq (.dS 4) (.seq (.ret (.v 4)) .skip))))
noncomputable def cV:S:=(.seq (.d5 3 (.jl .nil)) (.seq (.set 4 (.i 0)) (.seq (.bM (.jL (.len (.v 2))) [5] (.seq (.set 6 (.bin .add (.bin .fdiv (.call 12 (.cons (.v 0) (.cons (.bin .add (.v 1) (.bin .mod (.v 5) (.i 12))) .nil))) (.i 7)) (.bin .mul (.i 3) (.bin .fdiv (.v 5) (.i 12))))) (.seq (.set 4 (.bin .mul (.bin .mod (.bin .mod (.v 6) (.i 7)) (.bin .add (.v 4) (.i 2))) (.mz (.cmp .gt (.v 5) (.i 0))))) (.seq (.app 3 (.tup (.cons (.ix (.v 2) (.v 5)) (.cons (.v 4) .nil)))) .skip)))) (.seq (.dS 3) (.seq (.ret (.tup (.cons (.s "forest") (.cons (.v 3) .nil)))) .skip)))))
noncomputable def jB:S:=(.seq (.set 1 (.i 1)) (.seq (.JW (.cmp .le (.v 1) (.v 0)) (.seq (.set 1 (.bin .mul (.i 4) (.v 1))) .skip)) (.seq (.set 2 (.bin .mod (.bin .mul (.bin .add (.bin .mod (.v 0) (.bin .pow (.i 10) (.i 15))) (.i 11)) (.i 6364136223846793013)) (.bin .sub (.bin .pow (.i 2) (.i 61)) (.i 1)))) (.seq (.ret (.bin .add (.v 0) (.bin .mul (.v 1) (.bin .mod (.bin .mul (.v 2) (.i 69621)) (.bin .sub (.bin .pow (.i 2) (.i 61)) (.i 1)))))) .skip))))
noncomputable def cE:S:=(.seq (.set 2 (.bin .mod (.bin .fdiv (.v 0) (.i 3)) (.i 10))) (.seq (.set 3 (.bin .mod (.bin .fdiv (.v 0) (.i 30)) (.i 5))) (.seq (.set 4 (.bin .mod (.bin .fdiv (.v 0) (.i 150)) (.i 5))) (.seq (.set 5 (.bin .fdiv (.v 0) (.i 750))) (.seq (.ite (.eq false (.bin .mod (.v 0) (.i 3)) (.i 2)) (.seq (.set 2 (.bin .mul (.v 3) (.v 4))) .skip) .skip) (.seq (.d5 6 (.jl .nil)) (.seq (.bM (.jL (.v 2)) [7] (.seq (.app 6 (.ix (.v 1) (.bin .mod (.v 5) (.len (.v 1))))) (.seq (.set 5 (.bin .fdiv (.v 5) (.len (.v 1)))) .skip))) (.seq (.ite (.eq false (.bin .mod (.v 0) (.i 3)) (.i 0)) (.seq (.dS 6) (.seq (.ret (.tup (.cons (.s "row") (.cons (.v 6) .nil)))) .skip)) .skip) (.seq (.ite (.eq false (.bin .mod (.v 0) (.i 3)) (.i 2)) (.seq (.dS 6) (.seq (.ret (.tup (.cons (.s "table") (.cons (.bin .mul (.v 3) (.mz (.cmp .gt (.v 4) (.i 0)))) (.cons (.fr (.comp (.jL (.v 4)) 1 [6,3] (.b true) (.fr (.Ae (.v 1) (.cons (.bin .mul (.v 2) (.v 0)) .nil) (.cons (.bin .add (.bin .mul (.v 2) (.v 0)) (.v 2)) .nil))))) .nil))))) .skip)) .skip) (.seq (.d5 8 (.jl .nil)) (.seq (.set 9 (.i 1)) (.seq (.bM (.jL (.v 2)) [7] (.seq (.app 8 (.tup (.cons (.ix (.o 6) (.v 7)) (.cons (.bin .mod (.v 5) (.v 9)) .nil)))) (.seq (.set 5 (.bin .fdiv (.v 5) (.v 9))) (.seq (.set 9 (.bin .add (.ix (.ix (.o 8) (.neg (.i 1))) (.i 1)) (.i 2))) .skip)))) (.seq (.dS 8) (.seq (.ret (.tup (.cons (.s "forest") (.cons (.v 8) .nil)))) .skip))))))))))))))
noncomputable def fm:S:=(.seq (.set 3 (.call 12 (.cons (.v 0) (.cons (.v 1) .nil)))) (.seq (.ite (.eq false (.bin .mod (.v 3) (.i 2)) (.i 1)) (.seq (.ret (.call 18 (.cons (.call 17 (.cons (.bin .fdiv (.v 3) (.i 2)) .nil)) (.cons (.v 2) .nil)))) .skip) .skip) (.seq (.set 3 (.bin .fdiv (.v 3) (.i 2))) (.seq (.set 4 (.call 14 (.cons (.bin .fdiv (.v 3) (.i 3)) .nil))) (.seq (.ite (.eq false (.bin .mod (.v 3) (.i 3)) (.i 0)) (.seq (.ret (.tup (.cons (.s "row") (.cons (.call 15 (.cons (.v 0) (.cons (.bin .add (.v 1) (.i 1)) (.cons (.v 4) (.cons (.v 2) .nil))))) .nil)))) .skip) .skip) (.seq (.ite (.eq false (.bin .mod (.v 3) (.i 3)) (.i 1)) (.seq (.ret (.call 16 (.cons (.v 0) (.cons (.bin .add (.v 1) (.i 1)) (.cons (.call 15 (.cons (.v 0) (.cons (.bin .add (.v 1) (.i 1)) (.cons (.v 4) (.cons (.v 2) .nil))))) .nil))))) .skip) .skip) (.seq (.set 5 (.bin .mod (.bin .fdiv (.v 3) (.i 48)) (.i 5))) (.seq (.set 6 (.bin .mod (.v 4) (.i 6))) (.seq (.ite (.cmp .gt (.v 4) (.i 9)) (.seq (.set 5 (.bin .add (.i 1) (.bin .mod (.bin .fdiv (.v 3) (.i 48)) (.i 8)))) (.seq (.set 6 (.bin .mod (.bin .fdiv (.v 3) (.i 384)) (.i 9))) .skip)) .skip) (.seq (.set 7 (.call 15 (.cons (.v 0) (.cons (.bin .add (.v 1) (.i 1)) (.cons (.bin .mul (.v 5) (.v 6)) (.cons (.v 2) .nil)))))) (.seq (.ret (.tup (.cons (.s "table") (.cons (.bin .mul (.v 5) (.mz (.cmp .gt (.v 6) (.i 0)))) (.cons (.fr (.comp (.jL (.v 6)) 1 [7,5] (.b true) (.fr (.Ae (.v 1) (.cons (.bin .mul (.v 2) (.v 0)) .nil) (.cons (.bin .add (.bin .mul (.v 2) (.v 0)) (.v 2)) .nil))))) .nil))))) .skip)))))))))))
noncomputable def cW:S:=(.seq (.ite (.eq false (.ix (.v 0) (.i 0)) (.s "table")) (.seq (.ret (.bin .add (.len (.ix (.v 0) (.i 2))) (.ix (.v 0) (.i 1)))) .skip) .skip) (.seq (.ret (.len (.ix (.v 0) (.i 1)))) .skip))
noncomputable def cn:S:=(.seq (.ite (.eq false (.ix (.v 0) (.i 0)) (.s "row")) (.seq (.ret (.tup (.cons (.s "row") (.cons (.fr (.comp (.fB (.v 1)) 1 [0] (.b true) (.ix (.ix (.v 1) (.i 1)) (.v 0)))) .nil)))) .skip) .skip) (.seq (.ite (.eq false (.ix (.v 0) (.i 0)) (.s "table")) (.seq (.set 2 (.fr (.comp (.fB (.v 1)) 1 [0] (.cmp .ge (.v 0) (.len (.ix (.v 1) (.i 2)))) (.bin .sub (.v 0) (.len (.ix (.v 1) (.i 2))))))) (.seq (.set 3 (.fr (.comp (.fB (.v 1)) 1 [0] (.cmp .lt (.v 0) (.len (.ix (.v 1) (.i 2)))) (.ix (.ix (.v 1) (.i 2)) (.v 0))))) (.seq (.ret (.tup (.cons (.s "table") (.cons (.len (.v 2)) (.cons (.fr (.comp (.fB (.v 3)) 1 [2] (.b true) (.fr (.comp (.fB (.v 1)) 1 [0] (.b true) (.ix (.v 1) (.v 0)))))) .nil))))) .skip))) .skip) (.seq (.d5 4 (.jl .nil)) (.seq (.bM (.fB (.v 1)) [5] (.seq (.set 6 (.ix (.ix (.ix (.v 0) (.i 1)) (.v 5)) (.i 1))) (.seq (.set 7 (.i 0)) (.seq (.bM (.rev (.v 5)) [8] (.seq (.ite (.cmp .lt (.ix (.ix (.ix (.v 0) (.i 1)) (.v 8)) (.i 1)) (.v 6)) (.seq (.set 6 (.ix (.ix (.ix (.v 0) (.i 1)) (.v 8)) (.i 1))) (.seq (.set 7 (.bin .add (.v 7) (.mz (.w9 false (.v 8) (.v 1))))) .skip)) .skip) .skip)) (.seq (.app 4 (.tup (.cons (.ix (.ix (.ix (.v 0) (.i 1)) (.v 5)) (.i 0)) (.cons (.v 7) .nil)))) .skip))))) (.seq (.dS 4) (.seq (.ret (.tup (.cons (.s "forest") (.cons (.v 4) .nil)))) .skip))))))
noncomputable def iu:S:=(.seq (.ite (.eq false (.ix (.v 0) (.i 0)) (.s "row")) (.seq (.ret (.mk 17 (.cons (.fr (.xa (.ix (.v 0) (.i 1)))) .nil))) .skip) .skip) (.seq (.ite (.eq false (.ix (.v 0) (.i 0)) (.s "forest")) (.seq (.ret (.mk 18 (.cons (.fr (.xa (.ix (.v 0) (.i 1)))) .nil))) .skip) .skip) (.seq (.ret (.mk 19 (.cons (.fr (.comp (.fB (.ix (.v 0) (.i 2))) 1 [] (.b true) (.fr (.xa (.v 0))))) .nil))) .skip)))
noncomputable def gu:S:=(.seq (.d5 1 (.jl .nil)) (.seq (.ite (.eq false (.ix (.v 0) (.i 0)) (.s "row")) (.seq (.bM (.jL (.len (.ix (.v 0) (.i 1)))) [2] (.seq (.app 1 (.tup (.cons (.ix (.ix (.v 0) (.i 1)) (.v 2)) (.cons (.i 0) (.cons (.v 2) .nil))))) .skip)) .skip) .skip) (.seq (.ite (.eq false (.ix (.v 0) (.i 0)) (.s "forest")) (.seq (.bM (.jL (.len (.ix (.v 0) (.i 1)))) [2] (.seq (.app 1 (.tup (.cons (.ix (.ix (.ix (.v 0) (.i 1)) (.v 2)) (.i 0)) (.cons (.ix (.ix (.ix (.v 0) (.i 1)) (.v 2)) (.i 1)) (.cons (.v 2) .nil))))) .skip)) .skip) .skip) (.seq (.ite (.eq false (.ix (.v 0) (.i 0)) (.s "table")) (.seq (.bM (.jL (.len (.ix (.v 0) (.i 2)))) [3] (.seq (.bM (.jL (.ix (.v 0) (.i 1))) [4] (.seq (.app 1 (.tup (.cons (.ix (.ix (.ix (.v 0) (.i 2)) (.v 3)) (.v 4)) (.cons (.v 3) (.cons (.v 4) .nil))))) .skip)) .skip)) .skip) .skip) (.seq (.dS 1) (.seq (.ret (.v 1)) .skip))))))
noncomputable def cF:S:=(.seq (.ite (.eq false (.ix (.v 0) (.i 0)) (.s "table")) (.seq (.ret (.and (.eq false (.ix (.ix (.v 1) (.v 2)) (.i 2)) (.ix (.ix (.v 1) (.v 3)) (.i 2))) (.one (.cmp .lt (.ix (.ix (.v 1) (.v 2)) (.i 1)) (.ix (.ix (.v 1) (.v 3)) (.i 1)))))) .skip) .skip) (.seq (.ite (.or (.eq false (.ix (.v 0) (.i 0)) (.s "row")) (.one (.cmp .le (.v 3) (.v 2)))) (.seq (.ret (.b false)) .skip) .skip) (.seq (.bM (.Ea (.bin .add (.v 2) (.i 1)) (.bin .add (.v 3) (.i 1))) [4] (.seq (.ite (.cmp .le (.ix (.ix (.v 1) (.v 4)) (.i 1)) (.ix (.ix (.v 1) (.v 2)) (.i 1))) (.seq (.ret (.b false)) .skip) .skip) .skip)) (.seq (.ret (.b true)) .skip))))
noncomputable def bY:S:=(.seq (.ite (.eq false (.ix (.v 0) (.i 0)) (.s "table")) (.seq (.ret (.and (.eq false (.ix (.ix (.v 1) (.v 2)) (.i 1)) (.ix (.ix (.v 1) (.v 3)) (.i 1))) (.one (.eq false (.bin .add (.ix (.ix (.v 1) (.v 2)) (.i 2)) (.i 1)) (.ix (.ix (.v 1) (.v 3)) (.i 2)))))) .skip) .skip) (.seq (.ite (.eq false (.ix (.v 0) (.i 0)) (.s "row")) (.seq (.ret (.eq false (.bin .add (.v 2) (.i 1)) (.v 3))) .skip) .skip) (.seq (.ite (.or (.cmp .le (.v 3) (.v 2)) (.one (.eq true (.ix (.ix (.v 1) (.v 2)) (.i 1)) (.ix (.ix (.v 1) (.v 3)) (.i 1))))) (.seq (.ret (.b false)) .skip) .skip) (.seq (.bM (.Ea (.bin .add (.v 2) (.i 1)) (.v 3)) [4] (.seq (.ite (.cmp .le (.ix (.ix (.v 1) (.v 4)) (.i 1)) (.ix (.ix (.v 1) (.v 2)) (.i 1))) (.seq (.ret (.b false)) .skip) .skip) .skip)) (.seq (.ret (.b true)) .skip)))))
noncomputable def dy:S:=(.seq (.set 2 (.call 23 (.cons (.v 1) .nil))) (.seq (.set 3 (.fr (.comp (.jL (.len (.v 2))) 1 [0,2] (.eq false (.ix (.ix (.v 2) (.v 0)) (.i 0)) (.ix (.v 1) (.i 1))) (.v 0)))) (.seq (.set 4 (.fr (.comp (.jL (.len (.v 2))) 1 [0,2] (.eq false (.ix (.ix (.v 2) (.v 0)) (.i 0)) (.ix (.v 1) (.i 2))) (.v 0)))) (.seq (.ite (.eq false (.ix (.v 0) (.i 0)) (.s "before")) (.seq (.ret (.and (.cmp .gt (.len (.v 3)) (.i 0)) (.and (.cmp .gt (.len (.v 4)) (.i 0)) (.one (.cmp .lt (.ix (.v 3) (.i 0)) (.ix (.v 4) (.neg (.i 1)))))))) .skip) .skip) (.seq (.bM (.fB (.v 3)) [5] (.seq (.bM (.fB (.v 4)) [6] (.seq (.ite (.and (.eq false (.ix (.v 0) (.i 0)) (.s "under")) (.and (.eq true (.v 5) (.v 6)) (.one (.call 24 (.cons (.v 1) (.cons (.v 2) (.cons (.v 5) (.cons (.v 6) .nil)))))))) (.seq (.ret (.b true)) .skip) .skip) (.seq (.ite (.and (.eq false (.ix (.v 0) (.i 0)) (.s "beside")) (.and (.eq true (.v 5) (.v 6)) (.one (.call 25 (.cons (.v 1) (.cons (.v 2) (.cons (.v 5) (.cons (.v 6) .nil)))))))) (.seq (.ret (.b true)) .skip) .skip) .skip))) .skip)) (.seq (.ret (.b false)) .skip))))))
noncomputable def cG:S:=(.seq (.ite (.eq false (.ix (.v 0) (.i 0)) (.s "has")) (.seq (.ret (.w9 false (.ix (.v 0) (.i 1)) (.fr (.comp (.fB (.call 23 (.cons (.v 1) .nil))) 1 [] (.b true) (.ix (.v 0) (.i 0)))))) .skip) .skip) (.seq (.ite (.eq false (.ix (.v 0) (.i 0)) (.s "many")) (.seq (.ret (.cmp .ge (.len (.fr (.comp (.fB (.call 23 (.cons (.v 1) .nil))) 1 [0] (.eq false (.ix (.v 0) (.i 0)) (.ix (.v 1) (.i 2))) (.v 0)))) (.ix (.v 0) (.i 1)))) .skip) .skip) (.seq (.ite (.eq false (.ix (.v 0) (.i 0)) (.s "not")) (.seq (.ret (.not (.call 27 (.cons (.ix (.v 0) (.i 1)) (.cons (.v 1) .nil))))) .skip) .skip) (.seq (.ite (.eq false (.ix (.v 0) (.i 0)) (.s "all")) (.seq (.ret (.eq false (.len (.fr (.comp (.fB (.ix (.v 0) (.i 1))) 1 [1] (.not (.call 27 (.cons (.v 0) (.cons (.v 1) .nil)))) (.v 0)))) (.i 0))) .skip) .skip) (.seq (.ite (.eq false (.ix (.v 0) (.i 0)) (.s "any")) (.seq (.ret (.cmp .gt (.len (.fr (.comp (.fB (.ix (.v 0) (.i 1))) 1 [1] (.call 27 (.cons (.v 0) (.cons (.v 1) .nil))) (.v 0)))) (.i 0))) .skip) .skip) (.seq (.ret (.call 26 (.cons (.v 0) (.cons (.v 1) .nil)))) .skip))))))
noncomputable def cH:S:=(.seq (.ite (.eq false (.ix (.v 0) (.i 0)) (.s "has")) (.seq (.ret (.mk 6 (.cons (.ix (.v 0) (.i 1)) .nil))) .skip) .skip) (.seq (.ite (.eq false (.ix (.v 0) (.i 0)) (.s "many")) (.seq (.ret (.mk 7 (.cons (.ix (.v 0) (.i 1)) (.cons (.ix (.v 0) (.i 2)) .nil)))) .skip) .skip) (.seq (.ite (.eq false (.ix (.v 0) (.i 0)) (.s "before")) (.seq (.ret (.mk 9 (.cons (.ix (.v 0) (.i 1)) (.cons (.ix (.v 0) (.i 2)) .nil)))) .skip) .skip) (.seq (.ite (.eq false (.ix (.v 0) (.i 0)) (.s "under")) (.seq (.ret (.mk 10 (.cons (.ix (.v 0) (.i 1)) (.cons (.ix (.v 0) (.i 2)) .nil)))) .skip) .skip) (.seq (.ite (.eq false (.ix (.v 0) (.i 0)) (.s "beside")) (.seq (.ret (.mk 11 (.cons (.ix (.v 0) (.i 1)) (.cons (.ix (.v 0) (.i 2)) .nil)))) .skip) .skip) (.seq (.ite (.eq false (.ix (.v 0) (.i 0)) (.s "not")) (.seq (.ret (.mk 15 (.cons (.call 28 (.cons (.ix (.v 0) (.i 1)) .nil)) .nil))) .skip) .skip) (.seq (.set 1 (.fr (.comp (.fB (.ix (.v 0) (.i 1))) 1 [] (.b true) (.call 28 (.cons (.v 0) .nil))))) (.seq (.ite (.eq false (.ix (.v 0) (.i 0)) (.s "all")) (.seq (.ret (.mk 13 (.cons (.v 1) .nil))) .skip) .skip) (.seq (.ret (.mk 14 (.cons (.v 1) .nil))) .skip)))))))))
noncomputable def fq:S:=(.seq (.set 3 (.ix (.v 1) (.bin .mod (.bin .fdiv (.v 0) (.i 16)) (.len (.v 1))))) (.seq (.set 4 (.ix (.v 1) (.bin .mod (.bin .fdiv (.v 0) (.i 64)) (.len (.v 1))))) (.seq (.set 5 (.bin .mod (.v 0) (.i 8))) (.seq (.ite (.and (.eq false (.v 5) (.i 6)) (.one (.not (.v 2)))) (.seq (.ret (.tup (.cons (.s "beside") (.cons (.v 3) (.cons (.v 4) .nil))))) .skip) .skip) (.seq (.ite (.and (.eq false (.v 5) (.i 7)) (.one (.not (.v 2)))) (.seq (.ret (.tup (.cons (.s "not") (.cons (.tup (.cons (.s "many") (.cons (.bin .add (.i 1) (.bin .mod (.bin .fdiv (.v 0) (.i 8)) (.i 3))) (.cons (.v 3) .nil)))) .nil)))) .skip) .skip) (.seq (.ite (.eq false (.bin .mod (.v 5) (.i 4)) (.i 0)) (.seq (.ret (.tup (.cons (.s "has") (.cons (.v 3) .nil)))) .skip) .skip) (.seq (.ite (.eq false (.bin .mod (.v 5) (.i 4)) (.i 1)) (.seq (.ret (.tup (.cons (.s "many") (.cons (.bin .add (.i 1) (.bin .mod (.bin .fdiv (.v 0) (.i 8)) (.i 6))) (.cons (.v 3) .nil))))) .skip) .skip) (.seq (.ite (.eq false (.bin .mod (.v 5) (.i 4)) (.i 2)) (.seq (.ret (.tup (.cons (.s "before") (.cons (.v 3) (.cons (.v 4) .nil))))) .skip) .skip) (.seq (.ret (.tup (.cons (.s "under") (.cons (.v 3) (.cons (.v 4) .nil))))) .skip)))))))))
noncomputable def cf:S:=(.seq (.set 4 (.call 12 (.cons (.v 0) (.cons (.v 1) .nil)))) (.seq (.d5 5 (.jl .nil)) (.seq (.set 6 (.call 17 (.cons (.call 12 (.cons (.v 0) (.cons (.bin .add (.v 1) (.i 1)) .nil))) .nil))) (.seq (.bM (.jL (.bin .add (.i 1) (.bin .mod (.v 4) (.i 3)))) [7] (.seq (.set 8 (.call 12 (.cons (.v 0) (.cons (.bin .add (.bin .add (.v 1) (.i 1)) (.bin .mul (.i 2) (.v 7))) .nil)))) (.seq (.set 9 (.call 12 (.cons (.v 0) (.cons (.bin .add (.bin .add (.v 1) (.i 2)) (.bin .mul (.i 2) (.v 7))) .nil)))) (.seq (.ite (.eq false (.bin .mod (.bin .fdiv (.v 4) (.i 216)) (.i 2)) (.i 1)) (.seq (.set 8 (.bin .mod (.v 6) (.i 768))) (.seq (.set 9 (.bin .mod (.bin .fdiv (.v 6) (.i 768)) (.i 256))) (.seq (.set 6 (.bin .fdiv (.bin .fdiv (.v 6) (.i 768)) (.i 256))) .skip))) .skip) (.seq (.set 10 (.call 29 (.cons (.v 8) (.cons (.v 2) (.cons (.v 3) .nil))))) (.seq (.ite (.eq false (.bin .mod (.bin .fdiv (.v 8) (.i 256)) (.i 3)) (.i 1)) (.seq (.set 10 (.tup (.cons (.s "any") (.cons (.fr (.jl (.cons (.v 10) (.cons (.call 29 (.cons (.v 9) (.cons (.v 2) (.cons (.v 3) .nil)))) .nil)))) .nil)))) .skip) .skip) (.seq (.app 5 (.v 10)) .skip))))))) (.seq (.ite (.eq false (.len (.o 5)) (.i 1)) (.seq (.ret (.ix (.o 5) (.i 0))) .skip) .skip) (.seq (.dS 5) (.seq (.ret (.tup (.cons (.ix (.fr (.jl (.cons (.s "all") (.cons (.s "all") (.cons (.s "any") .nil))))) (.bin .mod (.bin .fdiv (.v 4) (.i 3)) (.i 3))) (.cons (.v 5) .nil)))) .skip)))))))
noncomputable def gv:S:=(.seq (.set 3 (.bin .mod (.v 2) (.len (.v 1)))) (.seq (.set 4 (.ix (.ix (.v 1) (.v 3)) (.i 0))) (.seq (.set 5 (.bin .mod (.bin .fdiv (.v 2) (.i 40)) (.i 4))) (.seq (.set 6 (.fr (.comp (.jL (.len (.v 1))) 1 [0,1,3] (.call 24 (.cons (.v 1) (.cons (.v 2) (.cons (.v 3) (.cons (.v 0) .nil))))) (.v 0)))) (.seq (.ite (.eq false (.v 5) (.i 1)) (.seq (.ret (.tup (.cons (.s "many") (.cons (.bin .add (.i 1) (.bin .mod (.bin .fdiv (.v 2) (.i 160)) (.len (.fr (.comp (.fB (.v 1)) 1 [4] (.eq false (.ix (.v 0) (.i 0)) (.v 1)) (.v 0)))))) (.cons (.v 4) .nil))))) .skip) .skip) (.seq (.ite (.and (.eq false (.v 5) (.i 2)) (.one (.cmp .gt (.len (.v 6)) (.i 0)))) (.seq (.ret (.tup (.cons (.s "under") (.cons (.v 4) (.cons (.ix (.ix (.v 1) (.ix (.v 6) (.bin .mod (.bin .fdiv (.v 2) (.i 160)) (.len (.v 6))))) (.i 0)) .nil))))) .skip) .skip) (.seq (.ite (.and (.cmp .gt (.v 5) (.i 0)) (.one (.cmp .lt (.bin .add (.v 3) (.i 1)) (.len (.v 1))))) (.seq (.ret (.tup (.cons (.s "before") (.cons (.v 4) (.cons (.ix (.ix (.v 1) (.bin .add (.bin .add (.v 3) (.i 1)) (.bin .mod (.bin .fdiv (.v 2) (.i 160)) (.bin .sub (.bin .sub (.len (.v 1)) (.v 3)) (.i 1))))) (.i 0)) .nil))))) .skip) .skip) (.seq (.ret (.tup (.cons (.s "has") (.cons (.v 4) .nil)))) .skip))))))))
noncomputable def dz:S:=(.seq (.set 5 (.call 12 (.cons (.v 0) (.cons (.v 1) .nil)))) (.seq (.set 6 (.call 30 (.cons (.v 0) (.cons (.v 1) (.cons (.v 2) (.cons (.v 4) .nil)))))) (.seq (.set 7 (.call 23 (.cons (.v 3) .nil))) (.seq (.set 8 (.bin .mod (.bin .fdiv (.v 5) (.i 9)) (.i 8))) (.seq (.ite (.or (.eq false (.len (.v 7)) (.i 0)) (.one (.eq false (.v 8) (.i 7)))) (.seq (.ret (.v 6)) .skip) .skip) (.seq (.d5 9 (.jl .nil)) (.seq (.bM (.jL (.bin .add (.i 2) (.bin .mod (.bin .fdiv (.v 5) (.i 72)) (.i 5)))) [10] (.seq (.app 9 (.call 31 (.cons (.v 3) (.cons (.v 7) (.cons (.bin .add (.call 12 (.cons (.v 0) (.cons (.bin .add (.bin .add (.v 1) (.i 1)) (.v 10)) .nil))) (.bin .mul (.i 29) (.v 10))) .nil))))) .skip)) (.seq (.ite (.and (.not (.v 4)) (.and (.eq false (.v 8) (.i 1)) (.one (.not (.call 27 (.cons (.v 6) (.cons (.v 3) .nil))))))) (.seq (.ret (.tup (.cons (.s "all") (.cons (.fr (.cat (.fr (.Ae (.o 9) .nil (.cons (.i 5) .nil))) (.fr (.jl (.cons (.tup (.cons (.s "not") (.cons (.v 6) .nil))) .nil))))) .nil)))) .skip) .skip) (.seq (.ite (.cmp .lt (.v 8) (.i 4)) (.seq (.dS 9) (.seq (.ret (.tup (.cons (.s "all") (.cons (.v 9) .nil)))) .skip)) .skip) (.seq (.ite (.eq false (.v 8) (.i 4)) (.seq (.dS 9) (.seq (.ret (.tup (.cons (.s "any") (.cons (.fr (.jl (.cons (.v 6) (.cons (.tup (.cons (.s "all") (.cons (.v 9) .nil))) .nil)))) .nil)))) .skip)) .skip) (.seq (.ite (.eq false (.v 8) (.i 5)) (.seq (.dS 9) (.seq (.ret (.tup (.cons (.s "all") (.cons (.fr (.jl (.cons (.tup (.cons (.s "all") (.cons (.v 9) .nil))) (.cons (.v 6) .nil)))) .nil)))) .skip)) .skip) (.seq (.set 11 (.fr (.comp (.jL (.i 2)) 1 [3,7,0,1] (.b true) (.call 31 (.cons (.v 1) (.cons (.v 2) (.cons (.bin .add (.call 12 (.cons (.v 3) (.cons (.bin .add (.bin .add (.v 4) (.i 4)) (.v 0)) .nil))) (.bin .mul (.i 31) (.v 0))) .nil))))))) (.seq (.dS 9) (.seq (.ret (.tup (.cons (.s "any") (.cons (.fr (.jl (.cons (.tup (.cons (.s "all") (.cons (.v 9) .nil))) (.cons (.tup (.cons (.s "all") (.cons (.v 11) .nil))) .nil)))) .nil)))) .skip))))))))))))))
noncomputable def eo:S:=(.seq (.ite (.eq false (.bin .mod (.v 0) (.i 2)) (.i 1)) (.seq (.ret (.fr (.comp (.jL (.v 1)) 1 [0] (.eq false (.bin .mod (.bin .shr (.bin .fdiv (.v 1) (.i 2)) (.v 0)) (.i 2)) (.i 1)) (.v 0)))) .skip) .skip) (.seq (.set 0 (.bin .fdiv (.v 0) (.i 2))) (.seq (.set 2 (.bin .mod (.bin .mul (.bin .add (.bin .mod (.v 0) (.bin .pow (.i 10) (.i 12))) (.i 3)) (.i 69621)) (.i 2147483647))) (.seq (.ite (.eq false (.bin .mod (.v 0) (.i 3)) (.i 0)) (.seq (.ret (.fr (.GH (.v 1)))) .skip) .skip) (.seq (.ret (.fr (.comp (.jL (.v 1)) 1 [2] (.cmp .gt (.bin .mod (.bin .shr (.v 1) (.bin .mod (.v 0) (.i 23))) (.i 4)) (.i 0)) (.v 0)))) .skip)))))
noncomputable def fu:S:=(.seq (.ite (.not (.rM (.d (.v 0)) 3)) (.seq (.ret (.b false)) .skip) .skip) (.seq (.vR (.v 0) [1] (.seq (.ite (.or (.not (.rM (.v 1) 0)) (.one (.rM (.v 1) 1))) (.seq (.ret (.b false)) .skip) .skip) .skip)) (.seq (.ret (.b true)) .skip)))
noncomputable def fv:S:=(.seq (.ite (.or (.not (.rM (.d (.v 0)) 3)) (.one (.eq true (.len (.d (.v 0))) (.len (.v 1))))) (.seq (.ret (.b false)) .skip) .skip) (.seq (.bM (.jL (.len (.v 1))) [2] (.seq (.ite (.or (.not (.rM (.yY (.v 0) (.v 2)) 4)) (.or (.eq true (.len (.yY (.v 0) (.v 2))) (.i 2)) (.one (.not (.call 38 (.cons (.ix (.yY (.v 0) (.v 2)) (.i 0)) .nil)))))) (.seq (.ret (.b false)) .skip) .skip) (.seq (.ite (.or (.not (.rM (.ix (.yY (.v 0) (.v 2)) (.i 1)) 1)) (.one (.BL true (.yY (.v 0) (.v 2)) (.ix (.v 1) (.v 2))))) (.seq (.ret (.b false)) .skip) .skip) .skip))) (.seq (.ret (.b true)) .skip)))
noncomputable def A3:S:=(.seq (.set 1 (.call 13 (.cons (.call 12 (.cons (.v 0) (.cons (.i 0) .nil))) .nil))) (.seq (.set 2 (.call 19 (.cons (.v 0) (.cons (.i 15) (.cons (.v 1) .nil))))) (.seq (.set 3 (.call 32 (.cons (.v 0) (.cons (.i 8) (.cons (.v 1) (.cons (.v 2) (.cons (.b false) .nil))))))) (.seq (.set 4 (.call 20 (.cons (.v 2) .nil))) (.seq (.set 5 (.mk 4 (.cons (.call 22 (.cons (.v 2) .nil)) (.cons (.call 28 (.cons (.v 3) .nil)) (.cons (.i 100) .nil))))) (.seq (.d5 6 (.jl .nil)) (.seq (.d5 7 (.jl .nil)) (.seq (.bM (.jL (.bin .add (.i 2) (.bin .mod (.call 12 (.cons (.v 0) (.cons (.i 2) .nil))) (.i 13)))) [8] (.seq (.set 9 (.call 33 (.cons (.bin .add (.call 12 (.cons (.v 0) (.cons (.bin .add (.i 3) (.bin .mod (.v 8) (.i 5))) .nil))) (.bin .mul (.i 17) (.bin .fdiv (.v 8) (.i 5)))) (.cons (.v 4) .nil)))) (.seq (.ite (.and (.eq false (.bin .mod (.v 8) (.i 4)) (.i 3)) (.one (.cmp .gt (.v 4) (.i 0)))) (.seq (.set 9 (.fr (.comp (.jL (.v 4)) 1 [4,8] (.eq true (.v 0) (.bin .mod (.bin .fdiv (.v 2) (.i 4)) (.v 1))) (.v 0)))) .skip) .skip) (.seq (.set 10 (.call 21 (.cons (.v 2) (.cons (.v 9) .nil)))) (.seq (.d5 11 (.xa (.v 9))) (.seq (.ex (.GI 0 (.v 5) (.cons (.bo 11) .nil))) (.seq (.ite (.eq false (.bin .mod (.call 12 (.cons (.v 0) (.cons (.i 1) .nil))) (.i 2)) (.i 1)) (.seq (.app 11 (.v 4)) .skip) .skip) (.seq (.ite (.w9 true (.v 10) (.o 7)) (.seq (.app 7 (.v 10)) (.seq (.app 6 (.tup (.cons (.v 9) (.cons (.call 27 (.cons (.v 3) (.cons (.v 10) .nil))) .nil)))) .skip)) .skip) (.seq (.ite (.eq false (.v 8) (.i 2)) (.seq (.set 12 (.bR 16 (.v 5) .nil)) (.seq (.ite (.not (.xQ 39 (.cons (.v 12) (.cons (.bo 6) .nil)))) (.seq (.ret (.b false)) .skip) .skip) (.seq (.vR (.v 12) [13] (.seq (.GK (.ix (.v 13) (.i 0)) (.i 0)) .skip)) (.seq (.JV (.v 12)) .skip)))) .skip) (.seq (.dS 11) .skip)))))))))) (.seq (.dS 6) (.seq (.bM (.fB (.v 6)) [9,14] (.seq (.ite (.eq true (.bR 0 (.v 5) (.cons (.fr (.xa (.v 9))) .nil)) (.v 14)) (.seq (.ret (.b false)) .skip) .skip) .skip)) (.seq (.ret (.and (.call 39 (.cons (.bR 16 (.v 5) .nil) (.cons (.v 6) .nil))) (.one (.eq false (.bR 2 (.v 5) .nil) (.len (.v 6)))))) .skip)))))))))))
noncomputable def iw:Df:=df "__init__" "Pair.__init__" ["self","one","other"] 3 ik
noncomputable def km:Df:=df "__init__" "Joint.__init__" ["self","parts"] 2 f7
noncomputable def fw:Df:=df "spots" "Thing.spots" ["self"] 1 pG
noncomputable def dA:Df:=df "many_of" "Thing.many_of" ["self","mark"] 2 du
noncomputable def cI:Df:=df "is_before" "Thing.is_before" ["self","one","other"] 3 cA
noncomputable def T:Tb:=⟨(LS ["is_whole","is_mark","check_list","check_marks","check_node","check_nodes","check_lines","check_places","marks_at","places_of","stands_ahead","stands_right_ahead","_law_cell_at","_law_marks_by","_law_many_by","_law_picked","_law_forest_by","_law_far","_law_raw_digits","_law_raw_by","_law_places_of","_law_left","_law_made","_law_spots","_law_lies_under","_law_stands_beside","_law_two_hold","_law_holds","_law_fault_made","_law_one_by","_law_drawn_fault","_law_there","_law_fault_by","_law_kept_by","__debug__","__debug__","law","__debug__","_law_wholes","_law_is_log"]),(LS ["fails","ask","asked","thing","grows","holds","spots","many_of","is_before","many","left","form","standing","is_under","is_beside","hanging","log"]),(LS ["ShrinkError","NoThing","NoPlace","Spent","Asker","Fault","Has","Many","Pair","Before","Under","Beside","Joint","All","Any","Not","Thing","Row","Forest","Table"]),(LS ["LETTERS","LONGEST_MARK","MOST_IN_ROW","MOST_NODES","DEEPEST","MOST_LINES","MOST_COLUMNS"]),[16]⟩
noncomputable def Pr:Pg:=⟨T,[some (dg "is_whole" ["thing"] 1 jv),some (dg "is_mark" ["thing"] 1 lB),some (dg "check_list" ["thing","most"] 2 f8),some (dg "check_marks" ["marks","most","mark"] 2 eZ),some (dg "check_node" ["node","deepest"] 2 f9),some (dg "check_nodes" ["nodes","deepest","node"] 1 fb),some (dg "check_lines" ["lines","line"] 1 fe),some (dg "check_places" ["places","many","lowest","place"] 2 d9),some (dg "marks_at" ["marks","places"] 2 jw),some (dg "places_of" ["marks","mark"] 2 iq),some (dg "stands_ahead" ["marks","one","other","seen","mark"] 3 ec),some (dg "stands_right_ahead" ["marks","one","other"] 3 bX),some (dg "_law_cell_at" ["_law_script","_law_k"] 2 eh),some (dg "_law_marks_by" ["_law_cell","_law_letters","_law_word","_law_rest","_law_k","_law_at","_law_first","_law_many"] 1 dw),some (dg "_law_many_by" ["_law_cell"] 1 em),some (dg "_law_picked" ["_law_script","_law_first","_law_many","_law_marks","_law_picked_here","_law_k","_law_cell"] 4 fk),some (dg "_law_forest_by" ["_law_script","_law_first","_law_picked_here","_law_nodes","_law_deep","_law_k","_law_cell"] 3 cV),some (dg "_law_far" ["_law_rest","_law_top","_law_far_here"] 1 jB),some (dg "_law_raw_digits" ["_law_cell","_law_marks","_law_many","_law_columns","_law_deep","_law_rest","_law_picked_here","_law_k","_law_nodes","_law_room"] 2 cE),some (dg "_law_raw_by" ["_law_script","_law_first","_law_marks","_law_head","_law_many","_law_columns","_law_deep","_law_picked_here"] 3 fm),some (dg "_law_places_of" ["_law_raw"] 1 cW),some (dg "_law_left" ["_law_raw","_law_places","_law_columns","_law_lines","_law_nodes","_law_place","_law_deep","_law_over","_law_ahead"] 2 cn),some (dg "_law_made" ["_law_raw"] 1 iu),some (dg "_law_spots" ["_law_raw","_law_spots_here","_law_k","_law_i","_law_j"] 1 gu),some (dg "_law_lies_under" ["_law_raw","_law_spots_here","_law_i","_law_j","_law_k"] 4 cF),some (dg "_law_stands_beside" ["_law_raw","_law_spots_here","_law_i","_law_j","_law_k"] 4 bY),some (dg "_law_two_hold" ["_law_fault","_law_raw","_law_spots_here","_law_ones","_law_others","_law_i","_law_j"] 2 dy),some (dg "_law_holds" ["_law_fault","_law_raw"] 2 cG),some (dg "_law_fault_made" ["_law_fault","_law_parts"] 1 cH),some (dg "_law_one_by" ["_law_cell","_law_marks","_law_grows","_law_one","_law_other","_law_way"] 3 fq),some (dg "_law_drawn_fault" ["_law_script","_law_first","_law_marks","_law_grows","_law_head","_law_parts","_law_rest","_law_k","_law_cell","_law_other","_law_one"] 4 cf),some (dg "_law_there" ["_law_raw","_law_spots_here","_law_cell","_law_i","_law_one","_law_way","_law_lows"] 3 gv),some (dg "_law_fault_by" ["_law_script","_law_first","_law_marks","_law_raw","_law_grows","_law_head","_law_fault","_law_spots_here","_law_way","_law_facts","_law_k","_law_more"] 5 dz),some (dg "_law_kept_by" ["_law_cell","_law_many","_law_mask"] 2 eo),none,none,some (dg "law" ["_law_script","_law_marks","_law_raw","_law_fault","_law_many","_law_asker","_law_due","_law_seen","_law_k","_law_places","_law_left_here","_law_handed","_law_told","_law_row","_law_answer"] 1 A3),none,some (dg "_law_wholes" ["_law_found","_law_number"] 1 fu),some (dg "_law_is_log" ["_law_found","_law_due","_law_k"] 2 fv)],[[(4,df "fails" "Asker.fails" ["self","places","rest","form"] 2 eW)],[(4,df "ask" "Asker.ask" ["self","places","rest","answer"] 3 ic)],[(4,df "asked" "Asker.asked" ["self"] 1 eX)],[(4,df "thing" "Asker.thing" ["self"] 1 pE)],[],[(6,df "holds" "Has.holds" ["self","thing"] 2 ig),(7,df "holds" "Many.holds" ["self","thing"] 2 f6),(9,df "holds" "Before.holds" ["self","thing"] 2 d7),(10,df "holds" "Under.holds" ["self","thing"] 2 eY),(11,df "holds" "Beside.holds" ["self","thing"] 2 d8),(13,df "holds" "All.holds" ["self","thing","part"] 2 im),(14,df "holds" "Any.holds" ["self","thing","part"] 2 io),(15,df "holds" "Not.holds" ["self","thing"] 2 ip)],[(17,fw),(18,fw),(19,fw)],[(17,dA),(18,dA),(19,dA)],[(17,cI),(18,cI),(19,cI)],[(17,df "many" "Row.many" ["self"] 1 jy),(18,df "many" "Forest.many" ["self"] 1 fh),(19,df "many" "Table.many" ["self"] 1 gi)],[(17,df "left" "Row.left" ["self","places"] 2 jz),(18,df "left" "Forest.left" ["self","places","kept","rest","above","place","node","depth"] 2 fi),(19,df "left" "Table.left" ["self","places","first_column","lines","columns","rest"] 2 gj)],[(17,df "form" "Row.form" ["self"] 1 jA),(18,df "form" "Forest.form" ["self"] 1 fj),(19,df "form" "Table.form" ["self"] 1 gm)],[(17,df "standing" "Row.standing" ["self","mark"] 2 ef),(18,df "standing" "Forest.standing" ["self","mark"] 2 cB),(19,df "standing" "Table.standing" ["self","mark"] 2 lC)],[(17,df "is_under" "Row.is_under" ["self","one","other"] 3 eg),(18,df "is_under" "Forest.is_under" ["self","one","other","place"] 3 cC),(19,df "is_under" "Table.is_under" ["self","one","other","column"] 3 cU)],[(17,df "is_beside" "Row.is_beside" ["self","one","other"] 3 dv),(18,df "is_beside" "Forest.is_beside" ["self","one","other","place","behind"] 3 b9),(19,df "is_beside" "Table.is_beside" ["self","one","other"] 3 cD)],[(17,df "hanging" "Row.hanging" ["self","place"] 2 pH),(18,df "hanging" "Forest.hanging" ["self","place","end"] 2 cT),(19,df "hanging" "Table.hanging" ["self","place"] 2 mF)],[(4,df "log" "Asker.log" ["self"] 1 ie)]],[(4,df "__init__" "Asker.__init__" ["self","thing","fault","most"] 4 fZ),(6,df "__init__" "Has.__init__" ["self","mark"] 2 jt),(7,df "__init__" "Many.__init__" ["self","number","mark"] 3 ij),(9,iw),(10,iw),(11,iw),(13,km),(14,km),(15,df "__init__" "Not.__init__" ["self","part"] 2 ju),(17,df "__init__" "Row.__init__" ["self","marks"] 2 jx),(18,df "__init__" "Forest.__init__" ["self","nodes"] 2 fg),(19,df "__init__" "Table.__init__" ["self","lines","spot_marks","line"] 2 gd),(16,df "__init__" "Thing.__init__" ["self","spot_marks"] 2 gc)],[(4,(LS ["whole","fault","most","answers","questions"])),(6,(LS ["mark"])),(7,(LS ["number","mark"])),(9,(LS ["one","other"])),(10,(LS ["one","other"])),(11,(LS ["one","other"])),(13,(LS ["parts"])),(14,(LS ["parts"])),(15,(LS ["part"])),(17,(LS ["spot_marks"])),(18,(LS ["nodes","spot_marks"])),(19,(LS ["lines","columns","spot_marks"]))],[.str zO,.int 8,.int 40,.int 40,.int 12,.int 12,.int 12]⟩
set_option hygiene false
local macro_rules | `(tactic| and_intros) => `(tactic| simp only [rd_r1, rd_r2, rd_r3, rd_r4, rd_r5, rd_r6, rd_r7, rd_r8, rd_r9, rd_r10, rd_r11, rd_r12, rd_r13, rd_r14, rd_r15, rd_r16, rd_r17, rd_r18, rd_r19, rd_r20, rd_r21, rd_r22, rd_r23, rd_r24, rd_b1, rd_b2, rd_b3, rd_b4, rd_b5, rd_b6, rd_b7, rd_b8, rd_c1, rd_c2, rd_c3, rd_c4, rd_c5, rd_c6, rd_e1, rd_e2, rd_e3, rd_l1, rd_l2, rd_l3, rd_l4, rd_l5, rd_l6, rd_l7, rd_t1, rd_t2, rd_x1, rd_x2, rd_x3, rd_x4, rd_x5, rd_x6, rd_x7, rd_x8, rd_o1, rd_o2, rd_k1, rd_k2, rd_k3, rd_k4, rd_m1, rd_m2, rd_m3, rd_m4, rd_m5, rd_m6, rd_m7, rd_n1, rd_n2, rd_n3, rd_n4, rd_n5, rd_n6, rd_n7, rd_n8, rd_s1, rd_s2, rd_s3, rd_s4, rd_s5, rd_s6, rd_s7, rd_s8, rd_s9, rd_s10, rd_s11, rd_s12, rd_s13, rd_s16, rd_s17, rd_s20, rd_s21, v_i, v_s, v_b, v_v, v_o, v_d, v_g, v_nil, v_cons, v_bo, v_bin, v_neg, v_cmp, v_chn, v_eq, v_eqh, v_inn, v_ins, v_ind, v_one, v_and, v_or, v_not, v_tr, v_ife, v_tup, v_fr, v_nlh, v_ndh, v_dsp, v_lof, v_slc, v_cat, v_lrg, v_lr1, v_comp, v_comh, v_itl, v_rg1, v_rg2, v_rev, v_enu, v_zip, v_ix, v_ixh, v_slt, v_sls, v_fld, v_call, v_cab, v_meb, v_meth, v_mk, v_len, v_isi, v_all, v_any, v_int1, v_min2, v_tpl, v_tpf, v_cnt, v_dct, v_dnt, v_dgt, List.map_cons, List.map_nil, List.set_cons_zero, List.set_cons_succ, isiD, isiN, Nat.reduceEqDiff, Nat.reduceBEq, Bool.or_false, Bool.false_or, Bool.true_or, Bool.or_true, Bool.and_false, Bool.false_and, Bool.true_and, Bool.and_true, Bool.not_true, Bool.not_false, Bool.false_eq_true, Bool.xor_false, Bool.xor_true, Bool.false_xor, Bool.true_xor, ↓reduceIte])
local macro_rules | `(tactic| symm) => `(tactic| (refine sqo fun N hN => ?_; and_intros))
local macro_rules | `(tactic| left) => `(tactic| (subst hN; symm))
local macro_rules | `(tactic| right) => `(tactic| (refine sqo fun N2 hN2 => ?_; and_intros))
set_option hygiene true
section
variable {Γ:Gm}{M:Mem}{R:Dt->Mem->Prop}
abbrev Fn (Γ:Gm) (c:S) (ρ:En) (M:Mem) (R:Dt->Mem->Prop):Prop:=ex Γ c ρ M { nx:=fun _ M'=>R .aJ M',rt:=R }
theorem bA {p:Prop} [Decidable p] {a b:Prop} (h:¬ p) (k:b):(if p then a else b):=by rw[p_ h];exact k
theorem bH {p:Prop} [Decidable p] {a b:Prop} (h:p) (k:a):(if p then a else b):=by rw[u_ h];exact k
def jC (p:cP):Prop:=∀ (i:Int) M R,R (.bl true) M->p [.int i] M R
def lD (p:cP):Prop:=∀ z M R,ay z=true->R (.bl true) M->p [.str z] M R
def dI (p:cP):Prop:=∀ ds (m:Int) M R,(ds.length:Int)<=m->R .aJ M->p [.lst ds,.int m] M R
def fz (p:cP):Prop:=∀ (zs:List Str) (m:Int) M R,(∀ z∈zs,ay z=true)->(zs.length:Int)<=m->R .aJ M->p [.lst (zs.map .str),.int m] M R
noncomputable def aF (n:Nd):Dt:=.tup [.str n.1,.int n.2]
def kn (p:cP):Prop:=∀ (n:Nd) (d:Int) M R,ay n.1=true->0<=n.2->n.2<=d->R .aJ M->p [aF n,.int d] M R
def jc (p:cP):Prop:=∀ (ns:List Nd) M R,aQ 0 ns->ns.length<=40->R .aJ M->p [.lst (ns.map aF)] M R
noncomputable def aT (l:List Str):Dt:=.lst (l.map .str)
structure aU (w:Nat) (ls:List (List Str)):Prop where
 len:ls.length<=12
 BR:w<=12
 jO:∀ l∈ls,l.length=w
 NB:∀ l∈ls,∀ z∈l,ay z=true
def jd (p:cP):Prop:=∀ w ls M R,aU w ls->R .aJ M->p [.lst (ls.map aT)] M R
def cJ (p:cP):Prop:=∀ (ps:List Int) (m:Int) M R,placesOk 0 m ps->R .aJ M->p [.lst (ps.map .int),.int m] M R
theorem wb {i:Int} (hR:R (.bl true) M):Fn Γ jv [.sh (.int i)] M R:=by
 unfold jv;symm;exact hR
theorem yM {z:Str} (h0:Γ.cs 0=.str zO) (h1:Γ.cs 1=.int 8) (h:ay z=true) (hR:R (.bl true) M):Fn Γ lB [.sh (.str z)] M R:=by
 unfold lB;obtain⟨m1,m2,m3⟩:=tG h;symm;left;have hz:z.length<=sizeLine:=Q_ m2 (by decide);refine⟨hz,bH (f_ (by lia)) ?_⟩;rw[h1];and_intros;refine bA (by rw[f_ (by lia)];decide) ?_;left;refine⟨by unfold rN;rw[a_];exact hz,?_⟩;refine comp_map (fun _=>.bl true) (fun x hx K hK=>?_) ?_
 ·obtain⟨c,hc,rfl⟩:=x_.mp hx;and_intros;rw[h0];and_intros;have:=m3 c hc;unfold vG at this;rw[this];exact hK
 ·refine⟨(rN z).map fun _=>true,by rw[L_];rfl,?_⟩;rw[show ((rN z).map fun _=>true).all id=true from by rw[X2];exact Wm.mpr fun _ _=>rfl];exact hR
theorem r6 {ds:List Dt}{m:Int} (h:(ds.length:Int)<=m) (hR:R .aJ M):Fn Γ f8 [.sh (.lst ds),.sh (.int m)] M R:=by
 unfold f8;symm;left;refine bA (by rw[g_ (by lia)];decide) ?_;subst hN;exact hR
theorem pI (p1:lD (Γ.fn 1)) (p2:dI (Γ.fn 2)) {zs:List Str}{m:Int} (hz:∀ z∈zs,ay z=true) (h:(zs.length:Int)<=m) (hR:R .aJ M):Fn Γ eZ [.sh (.lst (zs.map .str)),.sh (.int m),.no] M R:=by
 unfold eZ;symm;refine p2 _ _ _ _ (by rw[a_];exact h) ?_;left;refine ax (fun i ρ M'=>M'=M/\∃ o,ρ=[.sh (.lst (zs.map .str)),.sh (.int m),o]) ⟨rfl,_,rfl⟩ ?_ ?_
 ·rintro i x ρ M' N' hx ⟨rfl,o,rfl⟩ eJ;obtain⟨z,Jh,rfl⟩:=x_.mp (y_ hx);and_intros;symm;refine p1 z _ _ (hz z Jh) ?_;and_intros;subst hN;exact eJ _ _ ⟨rfl,_,rfl⟩
 ·rintro ρ M' ⟨rfl,o,rfl⟩;subst hN;exact hR
theorem r9 (p0:jC (Γ.fn 0)) (p1:lD (Γ.fn 1)) {n:Nd}{d:Int} (h1:ay n.1=true) (h2:0<=n.2) (h3:n.2<=d) (hR:R .aJ M):Fn Γ f9 [.sh (aF n),.sh (.int d)] M R:=by
 unfold f9 aF;symm;left;refine⟨_,rfl,p1 _ _ _ h1 ?_⟩;and_intros;left;refine⟨_,rfl,p0 _ _ _ ?_⟩;and_intros;refine⟨_,rfl,?_⟩;and_intros;refine bH (f_ h2) ?_;refine bA (by rw[f_ h3];decide) ?_;subst hN;exact hR
theorem er {α:Type}{xs:List α}{i:Nat}{x:α} (h:xs[i]? = some x):xs.take (i+1)=xs.take i++[x]:=by
 rw[X1,h];rfl
theorem sd {ns:List Nd}{i:Nat}{n:Nd} (h:aQ 0 ns) (hn:ns[i]? = some n):ay n.1=true/\0<=n.2/\n.2<=aM 0 (ns.take i)/\aM 0 (ns.take (i+1))=min (n.2+1) 12:=by
 have e:ns=ns.take i++n::ns.drop (i+1):=by
  obtain⟨hl,rfl⟩:=i_.mp hn;rw[←Xo hl,XT]
 rw[e,aV] at h;obtain⟨_,h1,h2,h3,_⟩:=h;refine⟨h1,h2,h3,?_⟩;rw[er hn,bg];rfl
theorem pJ (p2:dI (Γ.fn 2)) (p4:kn (Γ.fn 4)) (g3:Γ.cs 3=.int 40) (g4:Γ.cs 4=.int 12) {ns:List Nd} (h:aQ 0 ns) (hl:ns.length<=40) (hR:R .aJ M):Fn Γ fb [.sh (.lst (ns.map aF)),.no,.no] M R:=by
 unfold fb;symm;rw[g3];refine p2 _ _ _ _ (by rw[a_];lia) ?_;left;left;refine ax (fun i ρ M'=>M'=M/\∃ o,ρ=[.sh (.lst (ns.map aF)),.sh (.int (aM 0 (ns.take i))),o]) ⟨rfl,_,rfl⟩ ?_ ?_
 ·rintro i x ρ M' N' hx ⟨rfl,o,rfl⟩ eJ;rw[h_] at hx;obtain⟨n,hn,rfl⟩:=m_.mp hx;obtain⟨d1,d2,d3,d4⟩:=sd h hn;and_intros;symm;refine p4 n _ _ _ d1 d2 d3 ?_;left;unfold aF;and_intros;refine⟨_,rfl,?_⟩;and_intros;rw[g4];and_intros;subst hN;have e:(if (12:Int)<n.2+1 then 12 else n.2+1)=aM 0 (ns.take (i+1)):=by rw[d4];split<;>lia
  rw[e];exact eJ _ _ ⟨rfl,_,rfl⟩
 ·rintro ρ M' ⟨rfl,o,rfl⟩;subst hN;exact hR
theorem pK (p2:dI (Γ.fn 2)) (p3:fz (Γ.fn 3)) (g5:Γ.cs 5=.int 12) (g6:Γ.cs 6=.int 12) {w:Nat}{ls:List (List Str)} (h:aU w ls) (hR:R .aJ M):Fn Γ fe [.sh (.lst (ls.map aT)),.no] M R:=by
 unfold fe;symm;rw[g5];refine p2 _ _ _ _ (by rw[a_];have:=h.len;lia) ?_;left;refine ax (fun i ρ M'=>M'=M/\∃ o,ρ=[.sh (.lst (ls.map aT)),o]) ⟨rfl,_,rfl⟩ ?_ ?_
 ·rintro i x ρ M' N' hx ⟨rfl,o,rfl⟩ eJ;rw[h_] at hx;obtain⟨l,hn,rfl⟩:=m_.mp hx;have hl:=y_ hn;and_intros;symm;rw[g6];refine p3 l _ _ _ (h.NB l hl) (by have:=h.jO l hl;have:=h.BR;lia) ?_;left;obtain⟨l0,h0⟩:∃ l0,ls[0]? = some l0:=⟨_,c_ (by have:=Zd hl;lia)⟩;unfold aT;and_intros;refine⟨aT l0,aN (j:=0) (by rw[h_,h0];rfl),?_⟩;unfold aT;and_intros;refine bA (by rw[a_,a_,h.jO l hl,h.jO l0 (y_ h0)];simp) ?_;subst hN;exact eJ _ _ ⟨rfl,_,rfl⟩
 ·rintro ρ M' ⟨rfl,o,rfl⟩;subst hN;exact hR
theorem A4 {ps:List Int}{m:Int}{i:Nat}{p:Int} (h:placesOk 0 m ps) (hp:ps[i]? = some p):b5 0 (ps.take i)<=p/\p<m/\b5 0 (ps.take (i+1))=p+1:=by
 have e:ps=ps.take i++p::ps.drop (i+1):=by
  obtain⟨hl,rfl⟩:=i_.mp hp;rw[←Xo hl,XT]
 rw[e,gR] at h;obtain⟨_,h1,h2,_⟩:=h;refine⟨h1,h2,?_⟩;rw[er hp,gS];rfl
theorem nX (p0:jC (Γ.fn 0)) {ps:List Int}{m:Int} (h:placesOk 0 m ps) (hR:R .aJ M):Fn Γ d9 [.sh (.lst (ps.map .int)),.sh (.int m),.no,.no] M R:=by
 unfold d9;symm;left;left;refine ax (fun i ρ M'=>M'=M/\∃ o,ρ=[.sh (.lst (ps.map .int)),.sh (.int m),.sh (.int (b5 0 (ps.take i))),o]) ⟨rfl,_,rfl⟩ ?_ ?_
 ·rintro i x ρ M' N' hx ⟨rfl,o,rfl⟩ eJ;rw[h_] at hx;obtain⟨p,hp,rfl⟩:=m_.mp hx;obtain⟨q1,q2,q3⟩:=A4 h hp;and_intros;symm;refine p0 p _ _ ?_;and_intros;refine bH (f_ q1) (bA (by rw[f_ q2];decide) ?_);left;subst hN;exact eJ _ _ ⟨rfl,_,by rw[q3]⟩
 ·rintro ρ M' ⟨rfl,o,rfl⟩;subst hN;exact hR
noncomputable def atS (zs:List Str) (p:Int):Str:=zs.getD p.toNat ""
def gw (p:cP):Prop:=∀ (t:Dt) (zs:List Str) (ps:List Int) M R,(t=.eQ (zs.map .str)∨t=.tup (zs.map .str)∨t=.lst (zs.map .str))->(∀ q∈ps,0<=q/\q<zs.length)->ps.length<=1000->R (.lst ((ps.map (atS zs)).map .str)) M->p [t,.lst (ps.map .int)] M R
theorem dq {zs:List Str}{q:Int} (h0:0<=q) (h1:q<zs.length):pd (zs.map Dt.str) q=some (.str (atS zs q)):=by
 obtain⟨n,rfl⟩:=WL h0;refine aN ?_;unfold atS;have hn:n<zs.length:=by lia
 rw[h_,n_,A_,c_ hn];rfl
theorem wc {t:Dt}{zs:List Str}{ps:List Int} (ht:t=.eQ (zs.map .str)∨t=.tup (zs.map .str)∨t=.lst (zs.map .str)) (hp:∀ q∈ps,0<=q/\q<zs.length) (hl:ps.length<=1000) (hR:R (.lst ((ps.map (atS zs)).map .str)) M):Fn Γ jw [.sh t,.sh (.lst (ps.map .int))] M R:=by
 unfold jw;symm;refine⟨by rw[a_];exact Q_ hl (by decide),comp_map (fun d=>match d with | .int q=>.str (atS zs q) | _=>.aJ) (fun x hx K hK=>?_) ?_⟩
 ·obtain⟨q,hq,rfl⟩:=x_.mp hx;obtain⟨h0,h1⟩:=hp q hq;rcases ht with rfl | rfl | rfl
  ·and_intros;exact⟨_,dq h0 h1,hK⟩
  ·and_intros;exact⟨_,dq h0 h1,hK⟩
  ·and_intros;exact⟨_,dq h0 h1,hK⟩
 ·rw[L_] at hR ⊢;exact hR
noncomputable def nY (zs:List Str) (m:Str):List Int:=(zs.zipIdx.filter fun p=>decide (p.1=m)).map fun p=>(p.2:Int)
def iy (p:cP):Prop:=∀ (zs:List Str) (m:Str) M R,zs.length<=1000->R (.lst ((nY zs m).map .int)) M->p [.eQ (zs.map .str),.str m] M R
noncomputable def A5 (m:Str):Dt->k_ Dt
 | .tup [.int i,.str z]=>if z=m then some (.int i) else none
 | _=>none
theorem m6 {m z:Str}{i:Int}:A5 m (.tup [.int i,.str z])=if z=m then some (.int i) else none:=rfl
theorem nZ {m:Str}:∀ (zs:List Str) (k:Nat),(((zs.map Dt.str).zipIdx k).map fun p=>Dt.tup [.int (p.2:Int),p.1]).filterMap (A5 m)=(((zs.zipIdx k).filter fun p=>decide (p.1=m)).map fun p=>(p.2:Int)).map Dt.int
 | [],k=>rfl
 | z::zs,k=>by
  rw[o_,Zl,o_,Ww,nZ zs (k+1),Zl,Xd];by_cases e:z=m
  ·rw[m6,u_ e,u_ (by simpa using e)];rfl
  ·rw[m6,p_ e,p_ (by simpa using e)]
theorem uh {zs:List Str}{m:Str} (hl:zs.length<=1000) (hR:R (.lst ((nY zs m).map .int)) M):Fn Γ iq [.sh (.eQ (zs.map .str)),.sh (.str m)] M R:=by
 unfold iq;symm;refine⟨by rw[a_,ZY,a_];exact Q_ hl (by decide),bD (A5 m) (fun x hx K hK=>?_) ?_⟩
 ·obtain⟨⟨d,k⟩,hp,rfl⟩:=x_.mp hx;have hd:=(List.mem_zipIdx hp).2.2
  obtain⟨z,hz,rfl⟩:∃ z,z∈zs/\d=.str z:=by
   have:=x_.mp (show d∈zs.map Dt.str by rw[hd];exact Yy _);obtain⟨z,h1,h2⟩:=this;exact⟨z,h1,h2.symm⟩
  and_intros;by_cases e:z=m
  ·refine bH (f_ e) ?_;rw[m6,u_ e] at hK;exact hK
  ·refine bA (by rw[g_ e];decide) ?_;rw[m6,p_ e] at hK;exact hK
 ·rw[nZ];exact hR
def ez (p:cP):Prop:=∀ (t:Dt) (zs:List Str) (a b:Str) M R,(t=.eQ (zs.map .str)∨t=.lst (zs.map .str))->(∀ c:Bool,(c=true↔∃ i j:Nat,i<j/\zs[i]? = some a/\zs[j]? = some b)->R (.bl c) M)->p [t,.str a,.str b] M R
theorem n0 {t:Dt}{zs:List Str}{a b:Str} (ht:t=.eQ (zs.map .str)∨t=.lst (zs.map .str)) (hR:∀ c:Bool,(c=true↔∃ i j:Nat,i<j/\zs[i]? = some a/\zs[j]? = some b)->R (.bl c) M):Fn Γ ec [.sh t,.sh (.str a),.sh (.str b),.no,.no] M R:=by
 have hit:∀ Q:List Dt->Prop,BM t Q=Q (zs.map .str):=fun Q=>by rcases ht with rfl | rfl<;>rfl
 unfold ec;symm;left;rw[hit];refine ax (fun i ρ M'=>M'=M/\(¬ ∃ k j:Nat,k<j/\j<i/\zs[k]? = some a/\zs[j]? = some b)/\∃ o s,ρ=[.sh t,.sh (.str a),.sh (.str b),.sh (.bl s),o]/\(s=true↔∃ k:Nat,k<i/\zs[k]? = some a)) ⟨rfl,by rintro⟨_,_,_,h,_⟩;lia,_,_,rfl,by simp⟩ ?_ ?_
 ·rintro i x ρ M' N' hx ⟨rfl,gP,o,s,rfl,hs⟩ eJ;rw[h_] at hx;obtain⟨z,hz,rfl⟩:=m_.mp hx
  have go:(s=true->¬ z=b)->ex Γ ((S.ite (C.eq false (C.v 4) (C.v 1)) ((S.set 3 (C.b true)).seq S.skip) S.skip).seq S.skip) [Sl.sh t,Sl.sh (Dt.str a),Sl.sh (Dt.str b),Sl.sh (Dt.bl s),Sl.sh (Dt.str z)] M' { nx:=N',rt:=R,bk:=N,ct:=N' }:=fun Vi=>by
   have NC:¬ ∃ k j:Nat,k<j/\j<i+1/\zs[k]? = some a/\zs[j]? = some b:=by
    rintro⟨k,j,h1,h2,h3,h4⟩;rcases Xa j i with h | h
    ·exact gP ⟨k,j,h1,h,h3,h4⟩
    ·have:j=i:=by lia
     subst this;rw[hz] at h4;exact Vi (hs.mpr ⟨k,h1,h3⟩) (K_ h4)
   symm;by_cases e:z=a
   ·refine bH (f_ e) ?_;right;subst hN2;subst hN;exact eJ _ _ ⟨rfl,NC,_,_,rfl,⟨fun _=>⟨i,by lia,by rw[hz,e]⟩,fun _=>rfl⟩⟩
   ·refine bA (by rw[g_ e];decide) ?_;subst hN;refine eJ _ _ ⟨rfl,NC,_,_,rfl,hs.trans ⟨fun⟨k,h1,h2⟩=>⟨k,by lia,h2⟩,fun⟨k,h1,h2⟩=>⟨k,?_,h2⟩⟩⟩;rcases Xa k i with h | h
    ·exact h
    ·have:k=i:=by lia
     subst this;rw[hz] at h2;exact absurd (K_ h2) e
  and_intros;symm
  cases s with
  | false=>refine bA (by decide) ?_;subst hN;exact go fun z=>nomatch z
  | true =>
   refine bH rfl ?_;by_cases e:z=b
   ·refine bH (f_ e) ?_;symm;refine hR true ⟨fun _=>?_,fun _=>rfl⟩;obtain⟨k,h1,h2⟩:=hs.mp rfl;exact⟨k,i,h1,h2,by rw[hz,e]⟩
   ·refine bA (by rw[g_ e];decide) ?_;subst hN;exact go fun _=>e
 ·rintro ρ M' ⟨rfl,gP,o,s,rfl,hs⟩;left;refine hR false (Iff.intro (fun z=>nomatch z) fun⟨i,j,h1,h2,h3⟩=>absurd ⟨i,j,h1,?_,h2,h3⟩ gP);rw[a_];exact (i_.mp h3).1
theorem uk {xs:List Dt}{n:Nat}{i:Int} (h:i=(n:Int)):cutD xs (some i) none=xs.drop n:=by
 subst h;unfold cutD;rw[HT.tm,HT.mS];apply Z7;intro j;rw[abJ,Xs,Xs];split
 ·rcases Nat.le_total n xs.length with h | h
  ·rw[XY h]
  ·rw[acj h,WI (by lia),WI (by lia)]
 ·rw[WI (by lia)]
def bZ (p:cP):Prop:=∀ (t:Dt) (zs:List Str) (a b:Str) M R,(t=.eQ (zs.map .str)∨t=.tup (zs.map .str))->zs.length<=1000->(∀ c:Bool,(c=true↔∃ i:Nat,zs[i]? = some a/\zs[i+1]? = some b)->R (.bl c) M)->p [t,.str a,.str b] M R
theorem iz {t:Dt}{zs:List Str}{a b:Str} (ht:t=.eQ (zs.map .str)∨t=.tup (zs.map .str)) (hl:zs.length<=1000) (hR:∀ c:Bool,(c=true↔∃ i:Nat,zs[i]? = some a/\zs[i+1]? = some b)->R (.bl c) M):Fn Γ bX [.sh t,.sh (.str a),.sh (.str b)] M R:=by
 unfold bX;have hq:mB t=some (zs.map .str):=by rcases ht with rfl | rfl<;>rfl
 symm;rw[hq];show Zw _<=sizeLine/\_;have hc:cutD (zs.map Dt.str) (some 1) none=(zs.drop 1).map Dt.str:=by rw[abu];exact uk (n:=1) rfl
 rw[hc,List.zip_map,L_];refine⟨by rw[a_,aaO];exact Q_ (Nat.min_le_left _ _) (Q_ hl (by decide)),?_⟩;refine comp_map (fun d=>match d with | .tup [.str x,.str y]=>.bl (decide (x=a)&&decide (y=b)) | _=>.aJ) (fun x hx K hK=>?_) ?_
 ·obtain⟨⟨x,y⟩,hp,rfl⟩:=x_.mp hx;show if decide (x=a)=true then K (some (.bl (decide (y=b)))) M else K (some (.bl false)) M
  by_cases e:x=a
  ·refine bH (f_ e) ?_;have hK:K (some (.bl (decide (x=a)&&decide (y=b)))) M:=hK;rw[f_ e,Bool.true_and] at hK;exact hK
  ·refine bA (by rw[g_ e];decide) ?_;have hK:K (some (.bl (decide (x=a)&&decide (y=b)))) M:=hK;rw[g_ e,acE] at hK;exact hK
 ·refine⟨(zs.zip (zs.drop 1)).map fun p=>decide (p.1=a)&&decide (p.2=b),by rw[L_,L_];rfl,hR _ ?_⟩;rw[Zc,XM];constructor
  ·rintro⟨⟨x,y⟩,hp,h⟩;obtain⟨i,hi⟩:=V_.mp hp;obtain⟨h1,h2⟩:=Xp.mp hi;rw[Xs] at h2;have h:(decide (x=a)&&decide (y=b))=true:=h;rw[q_] at h
   cases b_ h.1
   cases b_ h.2
   exact⟨i,h1,by rw[ab3];exact h2⟩
  ·rintro⟨i,h1,h2⟩;refine⟨(a,b),V_.mpr ⟨i,Xp.mpr ⟨h1,?_⟩⟩,by show (decide (a=a)&&decide (b=b))=true;simp⟩;rw[Xs,ab3];exact h2
end
noncomputable def bc (ns:List Nd) (k:Nat):Nat:=((ns.drop (k+1)).takeWhile fun n=>decide ((ns.getD k ("",0)).2<n.2)).length
theorem EB {α:Type}{P:α->Bool}:∀ {l:List α}{j:Nat},j<(l.takeWhile P).length->∃ x,l[j]? = some x/\P x=true
 | [],j,h=>by simp at h
 | x::l,j,h=>by
  rw[abl] at h
  cases hx:P x with
  | false=>rw[hx] at h;simp at h
  | true =>
   rw[hx] at h
   cases j with
   | zero=>exact⟨x,rfl,hx⟩
   | succ j=>exact EB (l:=l) (by simpa using h)
theorem xu {α:Type}{P:α->Bool}:∀ {l:List α}{x:α},l[(l.takeWhile P).length]? = some x->P x=false
 | [],x,h=>by simp at h
 | y::l,x,h=>by
  rw[abl] at h
  cases hy:P y with
  | false=>rw[hy] at h;simp at h;rw[←h];exact hy
  | true=>rw[hy] at h;exact xu (l:=l) (by simpa using h)
theorem xw {ns:List Nd}{k j:Nat} (h:j<bc ns k):∃ n,ns[k+1+j]? = some n/\(ns.getD k ("",0)).2<n.2:=by
 obtain⟨n,h1,h2⟩:=EB h;rw[Xs] at h1;exact⟨n,h1,b_ h2⟩
theorem qO {ns:List Nd}{k:Nat}{n:Nd} (h:ns[k+1+bc ns k]? = some n):¬ (ns.getD k ("",0)).2<n.2:=by
 have h1:=xu (l:=ns.drop (k+1)) (P:=fun n=>decide ((ns.getD k ("",0)).2<n.2)) (x:=n) (by rw[Xs];exact h);exact of_decide_eq_false h1
theorem kq (ns:List Nd) (k:Nat):bc ns k<=ns.length-(k+1):=by
 unfold bc;refine Q_ (List.takeWhile_sublist _).length_le ?_;rw[XJ];exact w_ _
theorem iA {ns:List Nd}{e l:Nat} (hl:l<ns.length):l<=e+bc ns e↔∀ j,e<j->j<=l->(ns.getD e ("",0)).2<(ns.getD j ("",0)).2:=by
 constructor
 ·intro h j h1 h2;obtain⟨n,hn,hd⟩:=xw (ns:=ns) (k:=e) (j:=j-(e+1)) (by lia);rw[show e+1+(j-(e+1))=j by lia] at hn;rw[A_ (i:=j),hn];exact hd
 ·intro h;rcases Xa (e+bc ns e) l with i9 | Vj
  ·have hj:e+1+bc ns e<ns.length:=by lia
   have:=qO (c_ hj);have h2:=h (e+1+bc ns e) (by lia) (by lia);rw[A_ (i:=e+1+bc ns e),c_ hj] at h2;exact absurd h2 this
  ·exact Vj
theorem getD_mem {α:Type}{xs:List α}{i:Nat}{a:α} (h:i<xs.length):xs.getD i a∈xs:=by
 rw[A_,c_ h];exact Yy h
inductive Rw where
 | row (zs:List Str) | af (ns:List Nd) | table (w:Nat) (ls:List (List Str))
def Rw.Ok:Rw->Prop
 | .row zs=>(∀ z∈zs,ay z=true)/\zs.length<=40
 | .af ns=>aQ 0 ns/\ns.length<=40
 | .table w ls=>aU w ls
noncomputable def eA (l:List Str):Dt:=.tup (l.map .str)
noncomputable def bJ:Rw->Dt
 | .row zs=>.obj 17 ["spot_marks"] [.eQ (zs.map .str)]
 | .af ns=>.obj 18 ["spot_marks","nodes"] [.eQ ((ns.map (·.1)).map .str),.tup (ns.map aF)]
 | .table w ls=>.obj 19 ["spot_marks","lines","columns"] [.eQ (ls.flatten.map .str),.tup (ls.map eA),.int w]
noncomputable def Rw.names:Rw->List Str
 | .row zs=>zs
 | .af ns=>ns.map (·.1)
 | .table _ ls=>ls.flatten
noncomputable def Rw.many:Rw->Nat
 | .row zs=>zs.length
 | .af ns=>ns.length
 | .table w ls=>ls.length+w
noncomputable def ul (ls:List (List Str)) (ps:List Int):List (List Str):=(linesOf ls.length ps).map fun i=>(cw ls.length ps).map fun j=>atS (ls.getD i.toNat []) j
noncomputable def Rw.left:Rw->List Int->Rw
 | .row zs,ps=>.row (ps.map (atS zs))
 | .af ns,ps=>.af (D7 ns ps)
 | .table _ ls,ps=>.table (cw ls.length ps).length (ul ls ps)
noncomputable def n5:Rw->Dt
 | .row zs=>.tup [.str "row",.eQ (zs.map .str)]
 | .af ns=>.tup [.str "forest",.tup (ns.map aF)]
 | .table w ls=>.tup [.str "table",.int w,.tup (ls.map eA)]
noncomputable abbrev S6:=Pr.at_
noncomputable abbrev Vk:=Pr.cs
structure GB (Γ:Gm):Prop where
 at_:Γ.at_=S6
 cs:Γ.cs=Vk
section
variable {Γ:Gm}{M:Mem}{R:Dt->Mem->Prop}
theorem sz {n:Nat} (h:n<=1000):n<=sizeLine:=Q_ h (by decide)
theorem ND (g:GB Γ):Γ.at_ 17 "spot_marks" = true:=by rw[g.at_];decide +kernel
theorem EC (g:GB Γ):Γ.at_ 18 "spot_marks" = true:=by rw[g.at_];decide +kernel
theorem ED (g:GB Γ):Γ.at_ 18 "nodes" = true:=by rw[g.at_];decide +kernel
theorem EE (g:GB Γ):Γ.at_ 19 "spot_marks" = true:=by rw[g.at_];decide +kernel
theorem EF (g:GB Γ):Γ.at_ 19 "lines" = true:=by rw[g.at_];decide +kernel
theorem xx (g:GB Γ):Γ.at_ 19 "columns" = true:=by rw[g.at_];decide +kernel
theorem xy {α:Type}{a:Str}{x:α}{r:List (Str×α)}:X0 a ((a,x)::r)=some x:=by rw[Wr,X6]
theorem wd {α:Type}{a b:Str}{x:α}{r:List (Str×α)} (h:(b==a)=false):X0 b ((a,x)::r)=X0 b r:=by rw[Wr,h]
theorem Rp (g:GB Γ) {d:Dt}{k:Dt->Prop} (h:k d):eH Γ "spot_marks" (.obj 17 ["spot_marks"] [d]) k:=⟨ND g,d,xy,h⟩
theorem Rq (g:GB Γ) {d e:Dt}{k:Dt->Prop} (h:k d):eH Γ "spot_marks" (.obj 18 ["spot_marks","nodes"] [d,e]) k:=⟨EC g,d,xy,h⟩
theorem Ji (g:GB Γ) {d e:Dt}{k:Dt->Prop} (h:k e):eH Γ "nodes" (.obj 18 ["spot_marks","nodes"] [d,e]) k:=⟨ED g,e,(wd (by decide +kernel)).trans xy,h⟩
theorem Rr (g:GB Γ) {d e c:Dt}{k:Dt->Prop} (h:k d):eH Γ "spot_marks" (.obj 19 ["spot_marks","lines","columns"] [d,e,c]) k:=⟨EE g,d,xy,h⟩
theorem Jj (g:GB Γ) {d e c:Dt}{k:Dt->Prop} (h:k e):eH Γ "lines" (.obj 19 ["spot_marks","lines","columns"] [d,e,c]) k:=⟨EF g,e,(wd (by decide +kernel)).trans xy,h⟩
theorem Jk (g:GB Γ) {d e c:Dt}{k:Dt->Prop} (h:k c):eH Γ "columns" (.obj 19 ["spot_marks","lines","columns"] [d,e,c]) k:=⟨xx g,c,(wd (by decide +kernel)).trans ((wd (by decide +kernel)).trans xy),h⟩
def lE (p:cP):Prop:=∀ (r:Rw) M R,R (.int r.many) M->p [bJ r] M R
theorem we (g:GB Γ) {zs:List Str} (hR:R (.int (zs.length:Nat)) M):Fn Γ jy [.sh (bJ (.row zs))] M R:=by
 unfold jy bJ;symm;refine Rp g ?_;and_intros;rw[a_];exact hR
theorem pL (g:GB Γ) {ns:List Nd} (hR:R (.int (ns.length:Nat)) M):Fn Γ fh [.sh (bJ (.af ns))] M R:=by
 unfold fh bJ;symm;refine Ji g ?_;and_intros;rw[a_];exact hR
theorem se (g:GB Γ) {w:Nat}{ls:List (List Str)} (hR:R (.int ((ls.length+w:Nat):Int)) M):Fn Γ gi [.sh (bJ (.table w ls))] M R:=by
 unfold gi bJ;symm;refine Jj g ?_;and_intros;refine Jk g ?_;and_intros;rw[a_,←XZ];exact hR
def wf (p:cP):Prop:=∀ (r:Rw) M R,R (n5 r) M->p [bJ r] M R
theorem wg (g:GB Γ) {zs:List Str} (hR:R (n5 (.row zs)) M):Fn Γ jA [.sh (bJ (.row zs))] M R:=by
 unfold jA bJ;symm;refine Rp g ?_;exact⟨sz (by simp),hR⟩
theorem pM (g:GB Γ) {ns:List Nd} (hR:R (n5 (.af ns)) M):Fn Γ fj [.sh (bJ (.af ns))] M R:=by
 unfold fj bJ;symm;refine Ji g ?_;exact⟨sz (by simp),hR⟩
theorem si (g:GB Γ) {w:Nat}{ls:List (List Str)} (hR:R (n5 (.table w ls)) M):Fn Γ gm [.sh (bJ (.table w ls))] M R:=by
 unfold gm bJ;symm;refine Jk g (Jj g ?_);exact⟨sz (by simp),hR⟩
theorem gA (g:GB Γ) (r:Rw) {k:Dt->Prop} (h:k (.eQ (r.names.map .str))):eH Γ "spot_marks" (bJ r) k:=by
 cases r with
 | row zs=>exact Rp g h
 | af ns=>exact Rq g h
 | table w ls=>exact Rr g h
def iB (p:cP):Prop:=∀ (r:Rw) (a b:Str) M R,(∀ c:Bool,(c=true↔∃ i j:Nat,i<j/\r.names[i]? = some a/\r.names[j]? = some b)->R (.bl c) M)->p [bJ r,.str a,.str b] M R
theorem kr (g:GB Γ) (NE:ez (Γ.fn 10)) {r:Rw}{a b:Str} (hR:∀ c:Bool,(c=true↔∃ i j:Nat,i<j/\r.names[i]? = some a/\r.names[j]? = some b)->R (.bl c) M):Fn Γ cA [.sh (bJ r),.sh (.str a),.sh (.str b)] M R:=by
 unfold cA;symm;refine gA g r ?_;and_intros;exact NE _ _ _ _ _ _ (.inl rfl) hR
def fJ (p:cP):Prop:=∀ (r:Rw) (m:Str) M R,R (.int (r.names.count m:Nat)) M->p [bJ r,.str m] M R
theorem mG (g:GB Γ) {r:Rw}{m:Str} (hR:R (.int (r.names.count m:Nat)) M):Fn Γ du [.sh (bJ r),.sh (.str m)] M R:=by
 unfold du;symm;refine gA g r ?_;and_intros;refine⟨rfl,by rw[X2];exact Wm.mpr fun _ _=>rfl,?_⟩;rw[acu];exact hR
def jD (p:cP):Prop:=∀ (r:Rw) (m:Str) M R,r.names.length<=1000->(∀ w ls,r≠.table w ls)->R (.lst ((nY r.names m).map .int)) M->p [bJ r,.str m] M R
theorem n6 (g:GB Γ) (p9:iy (Γ.fn 9)) {zs:List Str}{m:Str} (hl:zs.length<=1000) (hR:R (.lst ((nY zs m).map .int)) M):Fn Γ ef [.sh (bJ (.row zs)),.sh (.str m)] M R:=by
 unfold ef;symm;refine gA g (.row zs) ?_;and_intros;exact p9 _ _ _ _ hl hR
theorem ky (g:GB Γ) (p9:iy (Γ.fn 9)) {ns:List Nd}{m:Str} (hl:(ns.map (·.1)).length<=1000) (hR:R (.lst ((nY (ns.map (·.1)) m).map .int)) M):Fn Γ cB [.sh (bJ (.af ns)),.sh (.str m)] M R:=by
 unfold cB;symm;refine gA g (.af ns) ?_;and_intros;exact p9 _ _ _ _ hl hR
def Rw.under:Rw->Nat->Nat->Prop
 | .row _,_,_=>False
 | .af ns,i,j=>∀ k,i<k->k<=j->(ns.getD i ("",0)).2<(ns.getD k ("",0)).2
 | .table w _,i,j=>i % w=j % w
def Rw.aK:Rw->Nat->Nat->Prop
 | .row _,i,j=>j=i+1
 | .af ns,i,j=>(ns.getD i ("",0)).2=(ns.getD j ("",0)).2/\∀ k,i<k->k<j->(ns.getD i ("",0)).2<(ns.getD k ("",0)).2
 | .table w _,i,j=>j=i+1/\i / w=j / w
def Rw.rel (r:Rw) (f:Nat->Nat->Prop) (a b:Str):Prop:=∃ i j,i<j/\r.names[i]? = some a/\r.names[j]? = some b/\f i j
def jE (p:cP):Prop:=∀ (r:Rw) (a b:Str) M R,r.Ok->(∀ c:Bool,(c=true↔r.rel r.under a b)->R (.bl c) M)->p [bJ r,.str a,.str b] M R
def iC (p:cP):Prop:=∀ (r:Rw) (a b:Str) M R,r.Ok->ay b=true->(∀ c:Bool,(c=true↔r.rel r.aK a b)->R (.bl c) M)->p [bJ r,.str a,.str b] M R
theorem n8 {zs:List Str}{a b:Str} (hR:∀ c:Bool,(c=true↔(Rw.row zs).rel (Rw.row zs).under a b)->R (.bl c) M):Fn Γ eg [.sh (bJ (.row zs)),.sh (.str a),.sh (.str b)] M R:=by
 unfold eg;symm;exact hR false ⟨fun z=>(nomatch z),fun⟨_,_,_,_,_,h⟩=>h.elim⟩
theorem mH (g:GB Γ) (Jl:bZ (Γ.fn 11)) {zs:List Str}{a b:Str} (o:(Rw.row zs).Ok) (hR:∀ c:Bool,(c=true↔(Rw.row zs).rel (Rw.row zs).aK a b)->R (.bl c) M):Fn Γ dv [.sh (bJ (.row zs)),.sh (.str a),.sh (.str b)] M R:=by
 unfold dv;symm;refine gA g (.row zs) ?_;and_intros;refine Jl _ _ _ _ _ _ (.inl rfl) (Q_ o.2 (by decide)) fun c hc=>hR c (hc.trans ⟨fun⟨i,h1,h2⟩=>⟨i,i+1,by lia,h1,h2,rfl⟩,fun⟨i,j,h1,h2,h3,h4⟩=>⟨i,h2,?_⟩⟩)
 cases (show j=i+1 from h4)
 exact h3
noncomputable def pN (lo n:Nat):List Int:=(Wv n).map fun i:Nat=>((lo+i:Nat):Int)
def lF (p:cP):Prop:=∀ (ns:List Nd) (i:Nat) M R,(Rw.af ns).Ok->i<ns.length->R (.lst (bI i (bc ns i+1))) M->p [bJ (.af ns),.int i] M R
theorem n9 {ns:List Nd}{k:Nat->List Str->Prop}:eI M (bJ (.af ns)) k=k 18 ["spot_marks","nodes"]:=rfl
theorem NF {zs:List Str}{k:Nat->List Str->Prop}:eI M (bJ (.row zs)) k=k 17 ["spot_marks"]:=rfl
theorem NG {w:Nat}{ls:List (List Str)}{k:Nat->List Str->Prop}:eI M (bJ (.table w ls)) k=k 19 ["spot_marks","lines","columns"]:=rfl
theorem kA (g:GB Γ) {ns:List Nd}{k:Dt->Prop} (h:k (.tup (ns.map aF))):eH Γ "nodes" (bJ (.af ns)) k:=Ji g h
theorem m7 {ns:List Nd}{i:Nat}{n:Nd}{k:Dt->Prop} (hn:ns[i]? = some n) (h:k (aF n)):jM (.tup (ns.map aF)) i k:=⟨aF n,aN (by rw[h_,hn];rfl),h⟩
theorem DD {n:Nd}{k:Dt->Prop} (h:k (.str n.1)):jM (aF n) 0 k:=⟨_,rfl,h⟩
theorem um {n:Nd}{k:Dt->Prop} (h:k (.int n.2)):jM (aF n) 1 k:=⟨_,rfl,h⟩
theorem getD_some {α:Type}{xs:List α}{i:Nat}{x d:α} (h:xs[i]? = some x):xs.getD i d=x:=by rw[A_,h];rfl
theorem lG (g:GB Γ) (p9:lE (Γ.me 9)) (hm:Γ.hm 9 18 ["spot_marks","nodes"]=true) {ns:List Nd}{i:Nat} (o:(Rw.af ns).Ok) (hi:i<ns.length) (hR:R (.lst (bI i (bc ns i+1))) M):Fn Γ cT [.sh (bJ (.af ns)),.sh (.int i),.no] M R:=by
 unfold cT;have tl:=kq ns i;have EG:=o.2;obtain⟨ni,Jm⟩:∃ n,ns[i]? = some n:=⟨_,c_ hi⟩;symm;left;refine⟨fun m ρ M'=>M'=M/\∃ e:Nat,m=ns.length-e/\i<e/\e<=i+bc ns i+1/\ρ=[.sh (bJ (.af ns)),.sh (.int i),.sh (.int e)],⟨_,rfl,i+1,rfl,by lia,by lia,by simp⟩,?_⟩;rintro m ρ M' ⟨rfl,e,rfl,h1,h2,rfl⟩
 have fin:e=i+bc ns i+1->N [.sh (bJ (.af ns)),.sh (.int i),.sh (.int e)] M':=fun he=>by
  left;refine⟨⟨by lia,by lia⟩,⟨by lia,by lia⟩,by lia,?_⟩;rw[show ((e:Int)-(i:Int)).toNat=bc ns i+1 by lia];exact hR
 and_intros;rw[n9];refine⟨hm,p9 _ _ _ ?_⟩;show if decide ((e:Int)<(ns.length:Nat))=true then _ else _
 by_cases he:e<ns.length
 ·refine bH (f_ (by lia)) ?_;obtain⟨ne,BJ⟩:∃ n,ns[e]? = some n:=⟨_,c_ he⟩;refine kA g (m7 BJ (um (kA g (m7 Jm (um ?_)))));show if decide (ni.2<ne.2)=true then _ else _
  by_cases i9:ni.2<ne.2
  ·refine bH (f_ i9) ?_;right;subst hN2
   have:e≠i+bc ns i+1:=fun z=>by
    have:=qO (ns:=ns) (k:=i) (n:=ne) (by rw[←BJ,z];congr 1;lia);rw[getD_some Jm] at this;exact this i9
   exact⟨ns.length-(e+1),by lia,rfl,e+1,rfl,by lia,by lia,by simp⟩
  ·refine bA (by rw[g_ i9];decide) (fin ?_);rcases Xa e (i+bc ns i+1) with h | h
   ·obtain⟨n,hn,hd⟩:=xw (ns:=ns) (k:=i) (j:=e-(i+1)) (by lia);rw[show i+1+(e-(i+1))=e by lia,BJ] at hn
    cases hn
    rw[getD_some Jm] at hd;exact absurd hd i9
   ·lia
 ·refine bA (by rw[g_ (by lia)];decide) (fin (by lia))
theorem dO {zs:List Str}{m:Str}{q:Int}:q∈nY zs m↔∃ i:Nat,q=(i:Int)/\zs[i]? = some m:=by
 unfold nY;rw[x_];constructor
 ·rintro⟨⟨z,i⟩,h,rfl⟩;obtain⟨h1,h2⟩:=XW.mp h;have:=ZE.mp h1
  cases b_ h2
  exact⟨i,rfl,this⟩
 ·rintro⟨i,rfl,h⟩;exact⟨(m,i),XW.mpr ⟨ZE.mpr h,by simp⟩,rfl⟩
theorem A6 {ns:List Nd}{i:Nat}{a:Str} (h:(ns.map (·.1))[i]? = some a):∃ n:Nd,ns[i]? = some n/\n.1=a:=by
 rw[h_] at h;obtain⟨n,h1,h2⟩:=m_.mp h;exact⟨n,h1,h2⟩
theorem uo {x:Str}{zs:List Str}{Q:Bool->Prop} (h:Q (decide (x∈zs))):vS (.str x) (.lst (zs.map .str)) Q:=by
 refine .inl ⟨zs.map .str,rfl,rfl,by rw[X2];exact Wm.mpr fun _ _=>rfl,?_⟩;rw[Zc]
 have e:(zs.any ((fun z=>JX z (.str x)) ∘ Dt.str))=decide (x∈zs):=by
  rw[W9,XM,Wq];constructor
  ·rintro⟨z,h1,h2⟩;have h2:(z==x)=true:=h2;rw[←Xq.mp h2];exact h1
  ·intro h1;exact⟨x,h1,show (x==x)=true from X6 x⟩
 rw[e];exact h
theorem cg {f:Dt->En->Mem->xb->Prop}{E:xb}{items:List Dt}{ρ:En}{T:Prop} (Iv:En->Prop) (P:Dt->Prop) (h0:Iv ρ)
  (hs:∀ x∈items,∀ (ρ:En) (N:En->Mem->Prop),Iv ρ->(P x->T)->(¬ P x->∀ ρ',Iv ρ'->N ρ' M)->f x ρ M { E with nx:=N,ct:=N,bk:=E.nx })
  (ht:(∃ x∈items,P x)->T) (hd:(¬ ∃ x∈items,P x)->∀ ρ,Iv ρ->E.nx ρ M):dE f E items ρ M:=by
 refine ax (fun i ρ M'=>M'=M/\Iv ρ/\¬ ∃ x∈items.take i,P x) ⟨rfl,h0,by simp⟩ ?_ ?_
 ·rintro i x ρ M' N hx ⟨rfl,iv,gP⟩ hN;have hm:=y_ hx;refine hs x hm ρ N iv (fun p=>ht ⟨x,hm,p⟩) fun np ρ' Rs=>hN ρ' _ ⟨rfl,Rs,?_⟩
  rintro⟨y,hy,py⟩;rw[er hx] at hy;rcases U_.mp hy with h | h
  ·exact gP ⟨y,h,py⟩
  ·rw[D_] at h;subst h;exact np py
 ·rintro ρ M' ⟨rfl,iv,gP⟩;rw[X8] at gP;exact hd gP ρ iv
theorem Jn {lo n:Nat}:bI lo n=(pN lo n).map .int:=by
 unfold bI pN;rw[L_];rfl
theorem yN {lo n:Nat}:(pN lo (n+1)).drop 1=pN (lo+1) n:=by
 apply Z7;intro j;unfold pN;rw[Xs,h_,h_];rcases Xa j n with h | h
 ·rw[Xm (by lia),Xm h];show some ((lo+(1+j):Nat):Int)=some ((lo+1+j:Nat):Int);rw[Nat.add_assoc]
 ·rw[WI (by rw[Wu];lia),WI (by rw[Wu];lia)];rfl
theorem og {lo n:Nat}{q:Int}:q∈pN lo n↔∃ i:Nat,q=(i:Int)/\lo<=i/\i<lo+n:=by
 unfold pN;rw[x_];constructor
 ·rintro⟨k,hk,rfl⟩;have:=WK.mp hk;exact⟨lo+k,rfl,by lia,by lia⟩
 ·rintro⟨i,rfl,h1,h2⟩;exact⟨i-lo,WK.mpr (by lia),by congr 1;lia⟩
theorem sj {zs:List Str}{i:Nat}{z:Str} (h:zs[i]? = some z):atS zs i=z:=by unfold atS;rw[n_];exact getD_some h
theorem kC (g:GB Γ) (p8:gw (Γ.fn 8)) (oh:jD (Γ.me 12)) (Jo:lF (Γ.me 15)) (Jp:Γ.hm 12 18 ["spot_marks","nodes"]=true) (Jq:Γ.hm 15 18 ["spot_marks","nodes"]=true) {ns:List Nd}{a b:Str} (o:(Rw.af ns).Ok) (hR:∀ c:Bool,(c=true↔(Rw.af ns).rel (Rw.af ns).under a b)->R (.bl c) M):Fn Γ cC [.sh (bJ (.af ns)),.sh (.str a),.sh (.str b),.no] M R:=by
 unfold cC;have EG:ns.length<=40:=o.2;have nl:(Rw.af ns).names.length=ns.length:=a_ _;symm;rw[n9];refine⟨Jp,oh _ _ _ _ (by rw[nl];lia) (fun _ _ z=>nomatch z) ?_⟩;and_intros
 have NH:∀ i:Nat,i<ns.length->((∃ j,i<j/\(Rw.af ns).names[j]? = some b/\(Rw.af ns).under i j)↔b∈((pN (i+1) (bc ns i)).map (atS (Rw.af ns).names))):=fun i hi=>by
  have tl:=kq ns i;rw[x_];constructor
  ·rintro⟨j,h1,h2,h3⟩;have hj:j<ns.length:=by rw[←nl];exact (i_.mp h2).1
   have:=(iA hj).mpr h3;exact⟨j,og.mpr ⟨j,rfl,by lia,by lia⟩,sj h2⟩
  ·rintro⟨q,hq,hb⟩;obtain⟨j,rfl,h1,h2⟩:=og.mp hq;have hj:j<ns.length:=by lia
   have hg:(Rw.af ns).names[j]? = some ((Rw.af ns).names[j]'(by lia)):=c_ _;rw[sj hg] at hb;exact⟨j,by lia,by rw[hg,hb],(iA hj).mp (by lia)⟩
 refine cg (T:=R (.bl true) M) (fun ρ=>∃ o3,ρ=[.sh (bJ (.af ns)),.sh (.str a),.sh (.str b),o3]) (fun x=>∃ i j:Nat,x=.int i/\i<j/\(Rw.af ns).names[j]? = some b/\(Rw.af ns).under i j) ⟨_,rfl⟩ ?_ ?_ ?_
 ·rintro x hx ρ N' ⟨o3,rfl⟩ hy hn;obtain⟨q,hq,rfl⟩:=x_.mp hx;obtain⟨i,rfl,Jr⟩:=dO.mp hq;have hi:i<ns.length:=by rw[←nl];exact (i_.mp Jr).1
  have tl:=kq ns i;and_intros;right;refine gA g _ ?_;rw[n9];refine⟨Jq,Jo _ _ _ _ o hi ?_⟩;show Γ.fn 8 [_,.lst (cutD (bI i (bc ns i+1)) (some 1) none)] M _;rw[uk (n:=1) (i:=1) rfl,Jn,←abu,yN];refine p8 _ _ _ _ _ (.inl rfl) (fun q hq=>?_) (by unfold pN;rw[a_,Wu];lia) ?_
  ·obtain⟨j,rfl,h1,h2⟩:=og.mp hq;rw[nl];lia
  ·refine uo ?_;by_cases hb:b∈((pN (i+1) (bc ns i)).map (atS (Rw.af ns).names))
   ·refine bH (f_ hb) ?_;refine sqo fun N3 cQ=>?_
    obtain⟨j,h1,h2,h3⟩:=(NH i hi).mpr hb;exact hy ⟨i,j,rfl,h1,h2,h3⟩
   ·refine bA (by rw[g_ hb];decide) ?_;subst hN2;refine hn ?_ _ ⟨_,rfl⟩;rintro⟨i',j,e,h1,h2,h3⟩;have:i=i':=by injection e with e;lia
    subst this;exact hb ((NH i hi).mp ⟨j,h1,h2,h3⟩)
 ·rintro⟨x,hx,i,j,rfl,h1,h2,h3⟩;obtain⟨q,hq,e⟩:=x_.mp hx;obtain⟨i',rfl,Jr⟩:=dO.mp hq;have:i'=i:=by injection e with e;lia
  subst this;exact hR true ⟨fun _=>⟨i',j,h1,Jr,h2,h3⟩,fun _=>rfl⟩
 ·rintro gP ρ ⟨o3,rfl⟩;left;refine hR false ⟨fun z=>(nomatch z),fun⟨i,j,h1,h2,h3,h4⟩=>absurd ⟨.int i,x_.mpr ⟨i,dO.mpr ⟨i,rfl,h2⟩,rfl⟩,i,j,rfl,h1,h3,h4⟩ gP⟩
theorem uq {n:Nd}{b:Str}{d:Int}:P_ (.tuple [.str n.1,.int n.2]) (.tuple [.str b,.int d])=decide (n=(b,d)):=by
 rw[Yl,Wz,Wz,YS,acw,acx,WN,W9,q_,Xq,Xq,Wq];exact⟨fun⟨h1,h2⟩=>Prod.ext h1 h2,fun h=>by rw[h];exact⟨rfl,rfl⟩⟩
theorem l5 {n:Nd} (h:ay n.1=true):J_ (.tuple [.str n.1,.int n.2])=true:=by
 have c:=dF (ns:=[n]) (by intro m hm;rw[D_] at hm;subst hm;exact fP h);have d:=eM [n];unfold J_;unfold iY at c d;simp only[o_,Xg,M_,Wn,WN] at c d;rw[q_];exact⟨c,f_ (by lia)⟩
theorem A7 {n:Nd}{b:Str}{d:Int}{Q:Bool->Prop} (h1:ay n.1=true) (h2:ay b=true) (h:Q (decide (n=(b,d)))):tU (aF n) (.tup [.str b,.int d]) Q:=by
 refine (show ∃ p q,toP (aF n)=some p/\toP (.tup [.str b,.int d])=some q/\J_ p=true/\J_ q=true/\Q (P_ p q) from ⟨_,_,rfl,rfl,l5 h1,l5 (n:=(b,d)) h2,?_⟩);rw[uq];exact h
theorem jF (g:GB Γ) (p9:lE (Γ.me 9)) (oh:jD (Γ.me 12)) (Jo:lF (Γ.me 15)) (Js:Γ.hm 9 18 ["spot_marks","nodes"]=true) (Jp:Γ.hm 12 18 ["spot_marks","nodes"]=true) (Jq:Γ.hm 15 18 ["spot_marks","nodes"]=true) {ns:List Nd}{a b:Str} (hb:ay b=true) (o:(Rw.af ns).Ok) (hR:∀ c:Bool,(c=true↔(Rw.af ns).rel (Rw.af ns).aK a b)->R (.bl c) M):Fn Γ b9 [.sh (bJ (.af ns)),.sh (.str a),.sh (.str b),.no,.no] M R:=by
 unfold b9;have EG:ns.length<=40:=o.2;have nl:(Rw.af ns).names.length=ns.length:=a_ _;symm;rw[n9];refine⟨Jp,oh _ _ _ _ (by rw[nl];lia) (fun _ _ z=>nomatch z) ?_⟩;and_intros
 have NH:∀ i:Nat,i<ns.length->((∃ j,i<j/\(Rw.af ns).names[j]? = some b/\(Rw.af ns).aK i j)↔ns[i+bc ns i+1]? = some (b,(ns.getD i ("",0)).2)):=fun i hi=>by
  have tl:=kq ns i;constructor
  ·rintro⟨j,h1,h2,h3,h4⟩;have hj:j<ns.length:=by rw[←nl];exact (i_.mp h2).1
   have up:j-1<=i+bc ns i:=(iA (by lia)).mpr fun k k1 k2=>h4 k k1 (by lia)
   have no:¬ j<=i+bc ns i:=fun h=>by
    have:=(iA hj).mp h j h1 (w_ _)
    lia
   have ej:j=i+bc ns i+1:=by lia
   subst ej;obtain⟨n,hn,rfl⟩:=A6 h2;rw[getD_some hn] at h3;rw[hn,h3]
  ·intro h;have hj:=(i_.mp h).1;refine⟨i+bc ns i+1,by lia,by show (ns.map _)[_]? = _;rw[h_,h];rfl,by rw[getD_some h],fun k k1 k2=>?_⟩;exact (iA (l:=k) (by lia)).mp (by lia) k k1 (w_ _)
 refine cg (T:=R (.bl true) M) (fun ρ=>∃ o3 o4,ρ=[.sh (bJ (.af ns)),.sh (.str a),.sh (.str b),o3,o4]) (fun x=>∃ i j:Nat,x=.int i/\i<j/\(Rw.af ns).names[j]? = some b/\(Rw.af ns).aK i j) ⟨_,_,rfl⟩ ?_ ?_ ?_
 ·rintro x hx ρ N' ⟨o3,o4,rfl⟩ hy hn;obtain⟨q,hq,rfl⟩:=x_.mp hx;obtain⟨i,rfl,Jr⟩:=dO.mp hq;have hi:i<ns.length:=by rw[←nl];exact (i_.mp Jr).1
  obtain⟨ni,Jm⟩:∃ n,ns[i]? = some n:=⟨_,c_ hi⟩;have tl:=kq ns i
  have EH:¬ ns[i+bc ns i+1]? = some (b,ni.2)->¬ ∃ i' j:Nat,Dt.int i=.int i'/\i'<j/\(Rw.af ns).names[j]? = some b/\(Rw.af ns).aK i' j:=fun h=>by
   rintro⟨i',j,e,h1,h2,h3⟩;have:i=i':=by injection e with e;lia
   subst this;refine h ?_;rw[(NH i hi).mp ⟨j,h1,h2,h3⟩,getD_some Jm]
  and_intros;right;rw[n9];refine⟨Jq,Jo _ _ _ _ o hi ?_⟩;refine⟨.int ((i+bc ns i:Nat):Int),?_,?_⟩
  ·have e:bI i (bc ns i+1)=bI i (bc ns i)++[.int ((i+bc ns i:Nat):Int)]:=by
    unfold bI;rw[aaN,I_];rfl
   rw[e];exact jX _ _
  and_intros;subst hN2;right;rw[n9];refine⟨Js,p9 _ _ _ ?_⟩;show if decide (((i+bc ns i:Nat):Int)+1<((ns.length:Nat):Int))=true then _ else _
  by_cases i9:i+bc ns i+1<ns.length
  ·refine bH (f_ (by lia)) ?_;obtain⟨ne,BJ⟩:∃ n,ns[i+bc ns i+1]? = some n:=⟨_,c_ i9⟩;refine kA g ?_;rw[←Int.natCast_one,←XZ];refine m7 BJ (kA g (m7 Jm (um ⟨sz (by simp),A7 (sd o.1 BJ).1 hb ?_⟩)));by_cases he:ne=(b,ni.2)
   ·refine bH (f_ he) ?_;refine sqo fun N3 cQ=>?_
    obtain⟨j,h1,h2,h3⟩:=(NH i hi).mpr (by rw[BJ,he,getD_some Jm]);exact hy ⟨i,j,rfl,h1,h2,h3⟩
   ·refine bA (by rw[g_ he];decide) ?_;subst hN2;exact hn (EH (by rw[BJ];exact fun z=>he (K_ z))) _ ⟨_,_,rfl⟩
  ·refine bA (by rw[g_ (by lia)];decide) ?_;subst hN2;exact hn (EH (by rw[WI (by lia)];exact fun z=>nomatch z)) _ ⟨_,_,rfl⟩
 ·rintro⟨x,hx,i,j,rfl,h1,h2,h3⟩;obtain⟨q,hq,e⟩:=x_.mp hx;obtain⟨i',rfl,Jr⟩:=dO.mp hq;have:i'=i:=by injection e with e;lia
  subst this;exact hR true ⟨fun _=>⟨i',j,h1,Jr,h2,h3⟩,fun _=>rfl⟩
 ·rintro gP ρ ⟨o3,o4,rfl⟩;left;refine hR false ⟨fun z=>(nomatch z),fun⟨i,j,h1,h2,h3,h4⟩=>absurd ⟨.int i,x_.mpr ⟨i,dO.mpr ⟨i,rfl,h2⟩,rfl⟩,i,j,rfl,h1,h3,h4⟩ gP⟩
end
section
variable {Γ:Gm}{M:Mem}{R:Dt->Mem->Prop}
abbrev In (Γ:Gm) (c:S) (ρ:En) (M:Mem) (q:Nat) (k:Dt->Mem->Prop):Prop:=ex Γ c ρ M { nx:=fun ρ M'=>b8 ρ 0 fun d=>pB d fun q' fA sR=>q'=q/\k (.obj q fA sR) M',rt:=fun _ _=>False }
noncomputable abbrev BS:=Dt->List Dt->Mem->(Dt->Mem->Prop)->Prop
def m8 (p:BS):Prop:=∀ (c:Nat) (zs:List Str) M k,(c=17∨c=18∨c=19)->k (.obj c ["spot_marks"] [.eQ (zs.map .str)]) M->p (.obj c [] []) [.lst (zs.map .str)] M k
theorem sk (g:GB Γ) {c:Nat}{zs:List Str}{k:Dt->Mem->Prop} (hc:c=17∨c=18∨c=19) (h:k (.obj c ["spot_marks"] [.eQ (zs.map .str)]) M):In Γ gc [.ow (.obj c [] []),.sh (.lst (zs.map .str))] M c k:=by
 unfold gc;symm
 have ha:Γ.at_ c "spot_marks" = true:=by
  rcases hc with rfl | rfl | rfl
  ·exact ND g
  ·exact EC g
  ·exact EE g
 refine⟨ha,by simp,?_⟩;subst hN;exact⟨rfl,h⟩
def A8 (p:BS):Prop:=∀ (zs:List Str) M k,(Rw.row zs).Ok->k (bJ (.row zs)) M->p (.obj 17 [] []) [.lst (zs.map .str)] M k
theorem wj (g:GB Γ) (p3:fz (Γ.fn 3)) (pT:m8 (Γ.bj 16)) {zs:List Str}{k:Dt->Mem->Prop} (o:(Rw.row zs).Ok) (h:k (bJ (.row zs)) M):In Γ jx [.ow (.obj 17 [] []),.sh (.lst (zs.map .str))] M 17 k:=by
 unfold jx;symm;rw[g.cs];refine p3 zs 40 _ _ o.1 (by have:=o.2;lia) ?_;left;refine pT 17 zs _ _ (.inl rfl) ?_;subst hN;exact⟨rfl,h⟩
theorem put2 {d e:Dt}:putD "nodes" e ["spot_marks"] [d]=((["spot_marks","nodes"]:List Str),[d,e]):=by
 unfold putD;rw[p_ (by decide +kernel)];rfl
theorem NI {d e:Dt}:putD "lines" e ["spot_marks"] [d]=((["spot_marks","lines"]:List Str),[d,e]):=by
 unfold putD;rw[p_ (by decide +kernel)];rfl
theorem EI {d e c:Dt}:putD "columns" c ["spot_marks","lines"] [d,e]=((["spot_marks","lines","columns"]:List Str),[d,e,c]):=by
 unfold putD;rw[p_ (by decide +kernel)];unfold putD;rw[p_ (by decide +kernel)];rfl
theorem NJ {d e c c':Dt}:putD "columns" c' ["spot_marks","lines","columns"] [d,e,c]=((["spot_marks","lines","columns"]:List Str),[d,e,c']):=by
 unfold putD;rw[p_ (by decide +kernel)];unfold putD;rw[p_ (by decide +kernel)];unfold putD;rw[u_ rfl]
noncomputable def NK:Dt->Dt | .tup (.str z::_)=>.str z | _=>.aJ
noncomputable def NL:Dt->Dt | .lst ds=>.tup ds | d=>d
def oj (p:BS):Prop:=∀ (ns:List Nd) M k,(Rw.af ns).Ok->k (bJ (.af ns)) M->p (.obj 18 [] []) [.lst (ns.map aF)] M k
theorem pO (g:GB Γ) (p5:jc (Γ.fn 5)) (pT:m8 (Γ.bj 16)) {ns:List Nd}{k:Dt->Mem->Prop} (o:(Rw.af ns).Ok) (h:k (bJ (.af ns)) M):In Γ fg [.ow (.obj 18 [] []),.sh (.lst (ns.map aF))] M 18 k:=by
 unfold fg;symm;refine p5 ns _ _ o.1 o.2 ?_;left;refine⟨by rw[a_];exact sz (by have:=o.2;lia),comp_map NK (fun x hx K hK=>?_) ?_⟩
 ·obtain⟨n,hn,rfl⟩:=x_.mp hx;and_intros;exact DD hK
 ·rw[show (ns.map aF).map NK=(ns.map (·.1)).map .str by rw[L_,L_];rfl];refine pT 18 (ns.map (·.1)) _ _ (.inr (.inl rfl)) ?_;left;refine⟨ED g,by simp,?_⟩;subst hN;rw[put2];exact⟨rfl,h⟩
def sn (p:BS):Prop:=∀ (w:Nat) (ls:List (List Str)) M k,aU w ls->k (bJ (.table (if ls=[] then 0 else w) ls)) M->p (.obj 19 [] []) [.lst (ls.map aT)] M k
theorem so (g:GB Γ) (p6:jd (Γ.fn 6)) (pT:m8 (Γ.bj 16)) {w:Nat}{ls:List (List Str)}{k:Dt->Mem->Prop} (o:aU w ls) (h:k (bJ (.table (if ls=[] then 0 else w) ls)) M):In Γ gd [.ow (.obj 19 [] []),.sh (.lst (ls.map aT)),.no,.no] M 19 k:=by
 unfold gd;symm;refine p6 w ls _ _ o ?_;left;refine⟨sz (by simp),?_⟩;left
 have fl:∀ n,((ls.take n).flatten).length<=n*12:=fun n=>by
  induction n with
  | zero=>simp
  | succ n ih =>
   cases hl:ls[n]? with
   | none =>
    have:=List.getElem?_eq_none_iff.mp hl;rw[W2 (by lia)];rw[W2 this] at ih
    lia
   | some l =>
    rw[er hl];have:=o.jO l (y_ hl);have:=o.BR;simp only[List.flatten_append,F_,Y9,List.flatten_nil,WJ]
    lia
 refine ax (fun i ρ M'=>M'=M/\∃ o3,ρ=[.ow (.obj 19 [] []),.sh (.lst (ls.map aT)),.ow (.lst (((ls.take i).flatten).map .str)),o3]) ⟨rfl,_,rfl⟩ ?_ ?_
 ·rintro i x ρ M' N' hx ⟨rfl,o3,rfl⟩ eJ;rw[h_] at hx;obtain⟨l,hl,rfl⟩:=m_.mp hx;and_intros;refine sqo fun N2 hN2=>?_
  unfold aT;and_intros;subst hN2;have e:(ls.take i).flatten++l=(ls.take (i+1)).flatten:=by rw[er hl];simp
  refine⟨?_,?_⟩
  ·rw[a_,a_,←F_,e];have:=fl (i+1);have:=(i_.mp hl).1;have:=o.len;exact sz (by lia)
  ·rw[←I_,e];exact eJ _ _ ⟨rfl,_,rfl⟩
 ·rintro ρ M' ⟨rfl,o3,rfl⟩;rw[a_,X8];left;left;refine pT 19 ls.flatten _ _ (.inr (.inr rfl)) ?_;left;refine⟨by rw[a_];exact sz (by have:=o.len;lia),comp_map NL (fun x hx K hK=>?_) ⟨EF g,by simp,?_⟩⟩
  ·obtain⟨l,hl,rfl⟩:=x_.mp hx;exact hK
  ·rw[NI,show (ls.map aT).map NL=ls.map eA by rw[L_];rfl];left
   cases ls with
   | nil =>
    refine bA (by decide) ⟨xx g,by simp,?_⟩;rw[EI];subst hN;exact⟨rfl,h⟩
   | cons l r =>
    refine bH (by simp) ⟨aT l,aN (j:=0) rfl,?_⟩;unfold aT;and_intros;refine⟨xx g,by simp,?_⟩;rw[EI,a_,o.jO l (by simp)];rw[p_ (by simp)] at h;subst hN;exact⟨rfl,h⟩
theorem eP {r:Rw}{ps:List Int} (o:r.Ok) (hp:placesOk 0 r.many ps):(r.left ps).Ok:=by
 have pa:=aO hp;have pl:=places_len hp (by lia)
 cases r with
 | row zs =>
  refine⟨fun z hz=>?_,by show (ps.map _).length<=40;rw[a_];have:((ps.length:Nat):Int)<=(zs.length:Nat)-0:=pl;have:=o.2;lia⟩;obtain⟨q,hq,rfl⟩:=x_.mp hz;obtain⟨h0,h1⟩:=pa q hq;have h1:q<(zs.length:Nat):=h1;exact o.1 _ (getD_mem (by lia))
 | af ns =>
  refine⟨SH.eP o.1 hp,?_⟩;show (ps.map _).length<=40;rw[a_];have:((ps.length:Nat):Int)<=(ns.length:Nat)-0:=pl;have:=o.2
  lia
 | table w ls =>
  have kW:placesOk 0 ((ls.length:Int)+(w:Int)) ps:=by have:=hp;rwa [show ((Rw.table w ls).many:Int)=(ls.length:Int)+(w:Int) from XZ _ _] at this
  have l1:=eO (n:=ls.length) kW;have l2:=fR (n:=ls.length) kW;have la:=hG (n:=ls.length) kW;have ca:=ji kW;have o:aU w ls:=o;have o1:=o.len;have o2:=o.BR;refine⟨by show (List.map _ _).length<=12;rw[a_];lia,by lia,fun l hl=>?_,fun l hl z hz=>?_⟩
  ·obtain⟨i,hi,rfl⟩:=x_.mp hl;rw[a_]
  ·obtain⟨i,hi,rfl⟩:=x_.mp hl;obtain⟨j,hj,rfl⟩:=x_.mp hz;have:=la i hi;have:=ca j hj;have hm:=getD_mem (xs:=ls) (i:=i.toNat) (a:=[]) (by lia);exact o.NB _ hm _ (getD_mem (by rw[o.jO _ hm];lia))
def A9 (p:cP):Prop:=∀ (r:Rw) (ps:List Int) M R,r.Ok->placesOk 0 r.many ps->R (bJ (r.left ps)) M->p [bJ r,.lst (ps.map .int)] M R
theorem wk (g:GB Γ) (p7:cJ (Γ.fn 7)) (p8:gw (Γ.fn 8)) (p9:lE (Γ.me 9)) (Js:Γ.hm 9 17 ["spot_marks"]=true) (pR:A8 (Γ.bj 17)) {zs:List Str}{ps:List Int} (o:(Rw.row zs).Ok) (hp:placesOk 0 (Rw.row zs).many ps) (hR:R (bJ ((Rw.row zs).left ps)) M):Fn Γ jz [.sh (bJ (.row zs)),.sh (.lst (ps.map .int))] M R:=by
 unfold jz;have pl:=places_len hp (by lia);have ol:=eP o hp;symm;rw[NF];refine⟨Js,p9 _ _ _ (p7 _ _ _ _ hp ?_)⟩;left;refine gA g _ ?_;and_intros;refine p8 _ zs ps _ _ (.inl rfl) (fun q hq=>aO hp q hq) ?_ ?_
 ·have:((ps.length:Nat):Int)<=(zs.length:Nat)-0:=pl;have:=o.2
  lia
 ·exact pR _ _ _ ol hR
theorem ur {xs:List Dt}{n:Nat}{i:Int} (h:i=(n:Int)):cutD xs none (some i)=xs.take n:=by
 subst h;unfold cutD;rw[HT.tm,HT.mS];show (xs.drop 0).take (min n xs.length-0)=_;rw[acN,ab2];rcases Nat.le_total n xs.length with h | h
 ·rw[XY h]
 ·rw[acj h,W2 (w_ _),W2 h]
theorem Ba (ps W:List Int):pd ((gV ps W).map Dt.int) (-1)=some (.int ((kept ps W).length:Int)):=by
 have e:gV ps W=(gV ps W).take W.length++[((kept ps W).length:Int)]:=by
  rw[←er (ym ps W),W2 (by rw[nG];lia)]
 rw[e,I_];exact jX _ _
theorem pP (g:GB Γ) (p7:cJ (Γ.fn 7)) (p9:lE (Γ.me 9)) (Js:Γ.hm 9 18 ["spot_marks","nodes"]=true) (pF:oj (Γ.bj 18)) {ns:List Nd}{ps:List Int} (o:(Rw.af ns).Ok) (hp:placesOk 0 (Rw.af ns).many ps) (hR:R (bJ ((Rw.af ns).left ps)) M):Fn Γ fi [.sh (bJ (.af ns)),.sh (.lst (ps.map .int)),.no,.no,.no,.no,.no,.no] M R:=by
 unfold fi;have pl:((ps.length:Nat):Int)<=(ns.length:Nat)-0:=places_len hp (by lia);have hp:placesOk 0 ns.length ps:=hp;have ol:=eP (r:=.af ns) o hp;have EG:ns.length<=40:=o.2;symm;rw[n9];refine⟨Js,p9 _ _ _ (p7 _ _ _ _ hp ?_)⟩;left;refine⟨by rw[a_];exact sz (by lia),comp_map (fun d=>.tup [d,.bl true]) (fun x hx K hK=>?_) ⟨ps,?_,by lia,?_⟩⟩
 ·exact⟨sz (by simp),hK⟩
 ·rw[L_];rfl
 left;refine⟨sz (by simp),?_⟩;left;refine⟨sz (by simp),?_⟩;left;refine kA g ?_;and_intros;refine ax (fun i ρ M'=>M'=M/\∃ o5 o6 o7,ρ=[.sh (bJ (.af ns)),.sh (.lst (ps.map .int)),.sh (.Ab ps),.ow (.lst (((below ps i).map (dZ ns ps)).map aF)),.ow (.lst ((gV ps (way (ns.take i))).map .int)),o5,o6,o7]) ⟨rfl,_,_,_,by rw[Xj,dY hp (by simp)];rfl⟩ ?_ ?_
 ·rintro i x ρ M' N' hx ⟨rfl,o5,o6,o7,rfl⟩ eJ;rw[h_,aa9,h_] at hx;obtain⟨⟨d,j⟩,Vl,rfl⟩:=m_.mp hx;obtain⟨d',OR,Vm⟩:=m_.mp Vl
  cases Vm
  obtain⟨n,hn,rfl⟩:=m_.mp OR;have hi:i<ns.length:=(i_.mp hn).1;obtain⟨_,d2,_,_⟩:=sd o.1 hn;have wl:=wZ (ns:=ns) i (by lia);have bl:(below ps i).length<=ps.length:=aaS _ _;rw[Nat.zero_add];and_intros;right;refine um ?_;and_intros;rw[ur (n:=n.2.toNat+1) (by lia),←Zs,yl,←hJ hn];subst hN2;right;refine⟨_,Ba ps _,?_⟩;subst hN2;right;have al:=CF (ns:=ns) (k:=i) (by lia);have wt:=dc hn;rw[←hJ hn] at wt;have bs:=jj (i:=i) hp;by_cases hk:(i:Int)∈ps
  ·rw[u_ hk] at bs;refine bH (by simpa using hk) ?_;refine sqo fun N3 cQ=>?_
   and_intros;refine DD ⟨sz (by simp),by rw[a_,a_];exact YT (Q_ bl (show ps.length<=100 by lia)) (by decide),?_⟩;subst cQ;refine sqo fun N3 cQ=>?_
   and_intros;refine⟨by rw[a_,nG];exact YT (show _<=100 by lia) (by decide),?_⟩;subst cQ;subst hN2
   have e1:((below ps i).map (dZ ns ps)).map aF++[.tup [.str n.1,.int ((kept ps (pp ns i)).length:Int)]]=((below ps (i+1)).map (dZ ns ps)).map aF:=by
    rw[bs,I_,I_];congr 1;show _=[aF ((ns.getD ((i:Int)).toNat ("",0)).1,((kept ps (pp ns ((i:Int)).toNat)).length:Int))];rw[n_,getD_some hn];rfl
   have e2:(gV ps (pp ns i)).map Dt.int++[.int (((kept ps (pp ns i)).length:Int)+1)]=(gV ps (way (ns.take (i+1)))).map .int:=by
    rw[wt,qE,u_ hk,I_];rfl
   rw[e1,e2];exact eJ _ _ ⟨rfl,_,_,_,rfl⟩
  ·rw[p_ hk,WJ] at bs;refine bA (by simpa using hk) ?_;refine sqo fun N3 cQ=>?_
   and_intros;refine⟨by rw[a_,nG];exact YT (show _<=100 by lia) (by decide),?_⟩;subst cQ;subst hN2
   have e2:(gV ps (pp ns i)).map Dt.int++[.int ((kept ps (pp ns i)).length:Int)]=(gV ps (way (ns.take (i+1)))).map .int:=by
    rw[wt,qE,p_ hk,I_,Int.add_zero];rfl
   rw[e2,←bs];exact eJ _ _ ⟨rfl,_,_,_,rfl⟩
 ·rintro ρ M' ⟨rfl,o5,o6,o7,rfl⟩;rw[a_,ZY,a_,qF hp];left;left;exact pF _ _ _ ol hR
end
section
variable {Γ:Gm}{M:Mem}{R:Dt->Mem->Prop}
theorem nh (g:GB Γ) {w:Nat}{ls:List (List Str)}{k:Dt->Prop} (h:k (.tup (ls.map eA))):eH Γ "lines" (bJ (.table w ls)) k:=Jj g h
theorem Jt (g:GB Γ) {w:Nat}{ls:List (List Str)}{k:Dt->Prop} (h:k (.int w)):eH Γ "columns" (bJ (.table w ls)) k:=Jk g h
noncomputable def qP (ls:List (List Str)):Dt->k_ Dt
 | .int q=>if q<(ls.length:Int) then some (eA (ls.getD q.toNat [])) else none
 | _=>none
noncomputable def sr (n:Nat):Dt->k_ Dt
 | .int q=>if (n:Int)<=q then some (.int (q-n)) else none
 | _=>none
theorem qQ {ls:List (List Str)}:∀ {ps:List Int},(ps.map Dt.int).filterMap (qP ls)=(linesOf ls.length ps).map fun q=>eA (ls.getD q.toNat [])
 | []=>rfl
 | q::ps=>by
  have ih:=qQ (ls:=ls) (ps:=ps);unfold SH.linesOf at ih ⊢;rw[o_,Ww,Xd,ih];by_cases h:q<(ls.length:Int)
  ·rw[show qP ls (.int q)=some (eA (ls.getD q.toNat [])) from u_ h,u_ (by simpa using h)];rfl
  ·rw[show qP ls (.int q)=none from p_ h,p_ (by simpa using h)]
theorem om {n:Nat}:∀ {ps:List Int},(ps.map Dt.int).filterMap (sr n)=(cw n ps).map .int
 | []=>rfl
 | q::ps=>by
  have ih:=om (n:=n) (ps:=ps);unfold cw at ih ⊢;rw[o_,Ww,Xd,ih];by_cases h:(n:Int)<=q
  ·rw[show sr n (.int q)=some (.int (q-n)) from u_ h,u_ (by simpa using h)];rfl
  ·rw[show sr n (.int q)=none from p_ h,p_ (by simpa using h)]
noncomputable def Bb (qs:List Int):Dt->Dt
 | .tup ds=>.lst (qs.map fun q=>ds.getD q.toNat .aJ)
 | _=>.aJ
theorem lH {qs:List Int}{l:List Str} (h:∀ j∈qs,0<=j/\j<(l.length:Int)):Bb qs (eA l)=aT (qs.map (atS l)):=by
 show Dt.lst (qs.map fun q=>(l.map Dt.str).getD q.toNat .aJ)=.lst ((qs.map (atS l)).map .str);rw[L_];congr 1;refine W5 fun j hj=>?_
 have:=h j hj;show (l.map Dt.str).getD j.toNat .aJ=.str (l.getD j.toNat "");have S7:j.toNat<l.length:=by lia
 rw[getD_some (c_ S7),getD_some (by rw[h_,c_ S7];rfl)]
theorem ss (g:GB Γ) (p7:cJ (Γ.fn 7)) (p8:gw (Γ.fn 8)) (p9:lE (Γ.me 9)) (Js:Γ.hm 9 19 ["spot_marks","lines","columns"]=true) (pT:sn (Γ.bj 19)) {w:Nat}{ls:List (List Str)}{ps:List Int} (o:(Rw.table w ls).Ok) (hp:placesOk 0 (Rw.table w ls).many ps) (hR:R (bJ ((Rw.table w ls).left ps)) M):Fn Γ gj [.sh (bJ (.table w ls)),.sh (.lst (ps.map .int)),.no,.no,.no,.no] M R:=by
 unfold gj;have ol:aU _ _:=eP (r:=.table w ls) o hp;have kW:placesOk 0 ((ls.length:Int)+(w:Int)) ps:=by have:=hp;rwa [show ((Rw.table w ls).many:Int)=(ls.length:Int)+(w:Int) from XZ _ _] at this
 have pl:=places_len kW (by lia);have la:=hG (n:=ls.length) kW;have ca:=ji kW;have o:aU w ls:=o;have o1:=o.len;have o2:=o.BR;have l1:=eO (n:=ls.length) kW;have l2:=fR (n:=ls.length) kW;symm;rw[NG];refine⟨Js,p9 _ _ _ (p7 _ _ _ _ hp ?_)⟩;left;refine nh g ?_;and_intros;rw[a_];left;refine⟨by rw[a_];exact sz (by lia),bD (qP ls) (fun x hx K hK=>?_) ?_⟩
 ·obtain⟨q,hq,rfl⟩:=x_.mp hx;have:=aO kW q hq;and_intros;by_cases h:q<(ls.length:Int)
  ·refine bH (f_ h) (nh g ⟨eA (ls.getD q.toNat []),?_,?_⟩)
   ·obtain⟨n,rfl⟩:=WL this.1;rw[n_];refine aN ?_;rw[h_,c_ (show n<ls.length by lia),getD_some (c_ (show n<ls.length by lia))];rfl
   ·rw[show qP ls (.int q)=some (eA (ls.getD q.toNat [])) from u_ h] at hK;exact hK
  ·refine bA (by rw[g_ h];decide) ?_;rw[show qP ls (.int q)=none from p_ h] at hK;exact hK
 rw[qQ];left;refine⟨by rw[a_];exact sz (by lia),bD (sr ls.length) (fun x hx K hK=>?_) ?_⟩
 ·obtain⟨q,hq,rfl⟩:=x_.mp hx;and_intros;by_cases h:(ls.length:Int)<=q
  ·refine bH (f_ h) ?_;rw[show sr ls.length (.int q)=some (.int (q-ls.length)) from u_ h] at hK;exact hK
  ·refine bA (by rw[g_ h];decide) ?_;rw[show sr ls.length (.int q)=none from p_ h] at hK;exact hK
 rw[om];left;refine⟨by rw[a_];exact sz (by lia),comp_map (Bb (cw ls.length ps)) (fun x hx K hK=>?_) ?_⟩
 ·obtain⟨q,hq,rfl⟩:=x_.mp hx;have:=la q hq;have hm:=getD_mem (xs:=ls) (i:=q.toNat) (a:=[]) (by lia);have hw:=o.jO _ hm;and_intros;refine p8 _ (ls.getD q.toNat []) _ _ _ (.inr (.inl rfl)) (fun j hj=>by have:=ca j hj;lia) (by lia) ?_;rw[lH fun j hj=>by have:=ca j hj;lia] at hK;exact hK
 have e:((linesOf ls.length ps).map fun q=>eA (ls.getD q.toNat [])).map (Bb (cw ls.length ps))=(ul ls ps).map aT:=by
  unfold ul;rw[L_,L_];refine W5 fun q hq=>lH fun j hj=>?_
  have:=la q hq;have:=ca j hj;have hw:=o.jO _ (getD_mem (xs:=ls) (i:=q.toNat) (a:=[]) (by lia))
  lia
 rw[e];refine pT _ _ _ _ ol ?_;left;refine⟨xx g,by simp,?_⟩;rw[NJ,a_];left;left;exact hR
noncomputable def bP (P:Prop):Bool:=@decide P (YY P)
theorem oo {P:Prop}:bP P=true↔P:=by unfold bP;exact @Wq P (YY P)
theorem ut {P:Prop}{c:Bool} (h:c=true↔P):c=bP P:=by rw[W9,oo];exact h
theorem b6 {w:Nat}{z:Str} (hw:0<w):∀ {ls:List (List Str)}{i:Nat},(∀ l∈ls,l.length=w)->(ls.flatten[i]? = some z↔∃ l,ls[i / w]? = some l/\l[i % w]? = some z)
 | [],i,_=>by simp
 | l::ls,i,h=>by
  have hl:=h l (by simp);rw[Y9];rcases Xa i w with hi | hi
  ·rw[WD (by lia),YA hi,YB hi];simp
  ·obtain⟨k,rfl⟩:∃ k,i=k+w:=⟨i-w,by lia⟩;rw[Wy (by lia),hl,Nat.add_sub_cancel,b6 hw (fun m hm=>h m (by simp [hm])),Nat.add_div_right _ hw,Nat.add_mod_right];rfl
theorem Bc {ls:List (List Str)} (h:∀ l∈ls,l.length=0):ls.flatten=[]:=by
 rw[List.flatten_eq_nil_iff];exact fun l hl=>List.eq_nil_of_length_eq_zero (h l hl)
theorem w_pos {w:Nat}{ls:List (List Str)}{i:Nat}{z:Str} (h:∀ l∈ls,l.length=w) (hz:ls.flatten[i]? = some z):0<w:=by
 rcases YU w with e | e
 ·rw[Bc (by rw[←e];exact h)] at hz;cases hz
 ·exact e
theorem Bd {w:Nat}{ls:List (List Str)}{a b:Str} (o:aU w ls):(Rw.table w ls).rel (Rw.table w ls).aK a b↔∃ l∈ls,∃ c:Nat,l[c]? = some a/\l[c+1]? = some b:=by
 constructor
 ·rintro⟨i,j,_,h2,h3,rfl,h5⟩;have hw:=w_pos o.jO h2;obtain⟨l,q1,q2⟩:=(b6 hw o.jO).mp h2;obtain⟨l',q3,q4⟩:=(b6 hw o.jO).mp h3;rw[←h5,q1] at q3
  cases q3
  refine⟨l,y_ q1,i % w,q2,?_⟩;have e1:=XD i w;have e2:=XD (i+1) w;rw[←h5] at e2;rw[show i % w+1=(i+1) % w by lia];exact q4
 ·rintro⟨l,hl,c,h1,h2⟩;have hw:=o.jO l hl;have hc:=(i_.mp h2).1;obtain⟨r,hr⟩:=V_.mp hl;have hp:0<w:=by lia
  have q1:(r*w+c) / w=r:=by rw[aaE,ZF hp,YA (by lia),Ze]
  have q2:(r*w+(c+1)) / w=r:=by rw[aaE,ZF hp,YA (by lia),Ze]
  have q3:(r*w+c) % w=c:=by rw[Zn,YB (by lia)]
  have q4:(r*w+(c+1)) % w=c+1:=by rw[Zn,YB (by lia)]
  refine⟨r*w+c,r*w+(c+1),by lia,(b6 hp o.jO).mpr ⟨l,by rw[q1];exact hr,by rw[q3];exact h1⟩,(b6 hp o.jO).mpr ⟨l,by rw[q2];exact hr,by rw[q4];exact h2⟩,rfl,by rw[q1];exact q2.symm⟩
theorem xA {w:Nat}{ls:List (List Str)}{a b:Str} (o:aU w ls):(Rw.table w ls).rel (Rw.table w ls).under a b↔∃ c,c<w/\∃ r s:Nat,r<s/\(ls.map fun l=>l.getD c "")[r]? = some a/\(ls.map fun l=>l.getD c "")[s]? = some b:=by
 have get:∀ {c r:Nat}{z:Str},c<w->((ls.map fun l=>l.getD c "")[r]? = some z↔∃ l,ls[r]? = some l/\l[c]? = some z):=fun {c r z} hc=>by
  rw[h_];constructor
  ·intro h;obtain⟨l,h1,h2⟩:=m_.mp h;have:=o.jO l (y_ h1);refine⟨l,h1,?_⟩;have hg:=c_ (show c<l.length by lia);rw[getD_some hg] at h2;rw[hg,h2]
  ·rintro⟨l,h1,h2⟩;rw[h1];show some (l.getD c "")=some z;rw[getD_some h2]
 constructor
 ·rintro⟨i,j,h1,h2,h3,h4⟩;have h4:i % w=j % w:=h4;have hw:=w_pos o.jO h2;obtain⟨l,q1,q2⟩:=(b6 hw o.jO).mp h2;obtain⟨l',q3,q4⟩:=(b6 hw o.jO).mp h3;refine⟨i % w,acP _ hw,i / w,j / w,?_,(get (acP _ hw)).mpr ⟨l,q1,q2⟩,(get (acP _ hw)).mpr ⟨l',q3,by rw[h4];exact q4⟩⟩;have e1:=XD i w;have e2:=XD j w;rcases Xa (i / w) (j / w) with h | h
  ·exact h
  ·have:=ZK w h
   lia
 ·rintro⟨c,hc,r,s,h1,h2,h3⟩;have hp:0<w:=by lia
  obtain⟨l,q1,q2⟩:=(get hc).mp h2;obtain⟨l',q3,q4⟩:=(get hc).mp h3;have d:∀ r:Nat,(r*w+c) / w=r/\(r*w+c) % w=c:=fun r=>⟨by rw[aaE,ZF hp,YA hc,Ze],by rw[Zn,YB hc]⟩
  refine⟨r*w+c,s*w+c,?_,(b6 hp o.jO).mpr ⟨l,by rw[(d r).1];exact q1,by rw[(d r).2];exact q2⟩,(b6 hp o.jO).mpr ⟨l',by rw[(d s).1];exact q3,by rw[(d s).2];exact q4⟩,by show (r*w+c) % w=(s*w+c) % w;rw[(d r).2,(d s).2]⟩;have:=Nat.mul_lt_mul_of_pos_right h1 hp
  lia
noncomputable def Ju (a b:Str) (d:Dt):Dt:=.bl (bP (∃ l:List Str,d=eA l/\∃ i:Nat,l[i]? = some a/\l[i+1]? = some b))
theorem str_inj:∀ {a b:List Str},a.map Dt.str=b.map Dt.str->a=b
 | [],[],_=>rfl
 | [],_::_,h=>by cases h
 | _::_,[],h=>by cases h
 | x::a,y::b,h=>by
  injection h with h1 h2
  injection h1 with h1
  rw[h1,str_inj h2]
theorem uu {a b:List Str} (h:eA a=eA b):a=b:=by injection h with h;exact str_inj h
theorem kD (g:GB Γ) (Jl:bZ (Γ.fn 11)) {w:Nat}{ls:List (List Str)}{a b:Str} (o:aU w ls) (hR:∀ c:Bool,(c=true↔(Rw.table w ls).rel (Rw.table w ls).aK a b)->R (.bl c) M):Fn Γ cD [.sh (bJ (.table w ls)),.sh (.str a),.sh (.str b)] M R:=by
 unfold cD;symm;refine nh g ?_;and_intros;refine⟨by rw[a_];exact sz (by have:=o.len;lia),comp_map (Ju a b) (fun x hx K hK=>?_) ?_⟩
 ·obtain⟨l,hl,rfl⟩:=x_.mp hx;have:=o.jO l hl;have:=o.BR;refine Jl _ l a b _ _ (.inr rfl) (by lia) fun c hc=>?_
  have e:Ju a b (eA l)=.bl c:=by
   unfold Ju;rw[←ut (c:=c) (hc.trans ⟨fun h=>⟨l,rfl,h⟩,fun⟨l',h1,h2⟩=>by rw[uu h1];exact h2⟩)]
  rw[e] at hK;exact hK
 ·refine⟨ls.map fun l=>bP (∃ l':List Str,eA l=eA l'/\∃ i:Nat,l'[i]? = some a/\l'[i+1]? = some b),by rw[L_,L_];rfl,hR _ ?_⟩;rw[Bd o,Zc,XM];constructor
  ·rintro⟨l,hl,h⟩;obtain⟨l',h1,h2⟩:=oo.mp h;rw[←uu h1] at h2;exact⟨l,hl,h2⟩
  ·rintro⟨l,hl,h⟩;exact⟨l,hl,oo.mpr ⟨l,rfl,h⟩⟩
noncomputable def NM (c:Nat):Dt->Dt
 | .tup ds=>ds.getD c .aJ
 | _=>.aJ
theorem lI (g:GB Γ) (NE:ez (Γ.fn 10)) {w:Nat}{ls:List (List Str)}{a b:Str} (o:aU w ls) (hR:∀ c:Bool,(c=true↔(Rw.table w ls).rel (Rw.table w ls).under a b)->R (.bl c) M):Fn Γ cU [.sh (bJ (.table w ls)),.sh (.str a),.sh (.str b),.no] M R:=by
 unfold cU;have o1:=o.len;have o2:=o.BR;symm;refine Jt g ?_;and_intros;refine⟨⟨by lia,by lia⟩,?_⟩;refine cg (T:=R (.bl true) M) (fun ρ=>∃ o3,ρ=[.sh (bJ (.table w ls)),.sh (.str a),.sh (.str b),o3]) (fun x=>∃ c:Nat,x=.int c/\∃ r s:Nat,r<s/\(ls.map fun l=>l.getD c "")[r]? = some a/\(ls.map fun l=>l.getD c "")[s]? = some b) ⟨_,rfl⟩ ?_ ?_ ?_
 ·rintro x hx ρ N' ⟨o3,rfl⟩ hy hn;obtain⟨c,hc⟩:=V_.mp hx;obtain⟨hc,rfl⟩:=aA hc;rw[n_] at hc;rw[Wt] at hy hn ⊢;and_intros;right;refine nh g ?_;and_intros;refine⟨by rw[a_];exact sz (by lia),comp_map (NM c) (fun x hx K hK=>?_) ?_⟩
  ·obtain⟨l,hl,rfl⟩:=x_.mp hx;have hw:=o.jO l hl;refine⟨_,?_,hK⟩;refine aN ?_;show (l.map Dt.str)[c]? = some ((l.map Dt.str).getD c .aJ);have hg:=c_ (show c<(l.map Dt.str).length by rw[a_];lia);rw[getD_some hg];exact hg
  ·have e:(ls.map eA).map (NM c)=(ls.map fun l=>l.getD c "").map .str:=by
    rw[L_,L_];refine W5 fun l hl=>?_
    have hw:=o.jO l hl;have hg:=c_ (show c<l.length by lia);show (l.map Dt.str).getD c .aJ=.str (l.getD c "");rw[getD_some hg,getD_some (by rw[h_,hg];rfl)]
   rw[e];refine NE _ _ _ _ _ _ (.inr rfl) fun q hq=>?_
   show if q=true then _ else _
   cases q with
   | true =>
    refine bH rfl ?_;refine sqo fun N3 cQ=>?_
    exact hy ⟨c,rfl,hq.mp rfl⟩
   | false =>
    refine bA (by decide) ?_;subst hN2;refine hn ?_ _ ⟨_,rfl⟩;rintro⟨c',e',h⟩;have:c=c':=by injection e' with e';lia
    subst this;exact nomatch (hq.mpr h)
 ·rintro⟨x,hx,c,rfl,h⟩;obtain⟨k,hk⟩:=V_.mp hx;obtain⟨hk,e⟩:=aA hk;have:c=k:=by injection e with e;lia
  subst this;rw[n_] at hk;exact hR true ⟨fun _=>(xA o).mpr ⟨c,hk,h⟩,fun _=>rfl⟩
 ·rintro gP ρ ⟨o3,rfl⟩;left;refine hR false ⟨fun z=>(nomatch z),fun h=>?_⟩;obtain⟨c,hc,h⟩:=(xA o).mp h;refine absurd ⟨.int c,?_,c,rfl,h⟩ gP;rw[n_];unfold bI;exact x_.mpr ⟨c,WK.mpr hc,by rw[Wt]⟩
end
inductive Flt where
 | has (m:Str) | many (n:Int) (m:Str) | before (a b:Str) | under (a b:Str) | aK (a b:Str)
 | not (f:Flt) | all (fs:List Flt) | any (fs:List Flt)
mutual
def Flt.holds:Flt->Rw->Prop
 | .has m,r=>0<r.names.count m
 | .many n m,r=>n<=(r.names.count m:Int)
 | .before a b,r=>r.rel (fun _ _=>True) a b
 | .under a b,r=>r.rel r.under a b
 | .aK a b,r=>r.rel r.aK a b
 | .not f,r=>¬ f.holds r
 | .all fs,r=>oq fs r
 | .any fs,r=>ou fs r
def oq:List Flt->Rw->Prop
 | [],_=>True
 | f::fs,r=>f.holds r/\oq fs r
def ou:List Flt->Rw->Prop
 | [],_=>False
 | f::fs,r=>f.holds r∨ou fs r
end
mutual
def Flt.Ok:Flt->Prop
 | .has m=>ay m=true
 | .many _ m=>ay m=true
 | .before a b=>ay a=true/\ay b=true
 | .under a b=>ay a=true/\ay b=true
 | .aK a b=>ay a=true/\ay b=true
 | .not f=>f.Ok
 | .all fs=>fs.length<=100/\EJ fs
 | .any fs=>fs.length<=100/\EJ fs
def EJ:List Flt->Prop
 | []=>True
 | f::fs=>f.Ok/\EJ fs
end
mutual
noncomputable def Flt.dep:Flt->Nat
 | .not f=>f.dep+1
 | .all fs=>su fs+1
 | .any fs=>su fs+1
 | _=>1
noncomputable def su:List Flt->Nat
 | []=>0
 | f::fs=>max f.dep (su fs)
end
mutual
noncomputable def ao:Flt->Dt
 | .has m=>.tup [.str "has",.str m]
 | .many n m=>.tup [.str "many",.int n,.str m]
 | .before a b=>.tup [.str "before",.str a,.str b]
 | .under a b=>.tup [.str "under",.str a,.str b]
 | .aK a b=>.tup [.str "beside",.str a,.str b]
 | .not f=>.tup [.str "not",ao f]
 | .all fs=>.tup [.str "all",.lst (uv fs)]
 | .any fs=>.tup [.str "any",.lst (uv fs)]
noncomputable def uv:List Flt->List Dt
 | []=>[]
 | f::fs=>ao f::uv fs
end
mutual
noncomputable def bx:Flt->Dt
 | .has m=>.obj 6 ["mark"] [.str m]
 | .many n m=>.obj 7 ["number","mark"] [.int n,.str m]
 | .before a b=>.obj 9 ["one","other"] [.str a,.str b]
 | .under a b=>.obj 10 ["one","other"] [.str a,.str b]
 | .aK a b=>.obj 11 ["one","other"] [.str a,.str b]
 | .not f=>.obj 15 ["part"] [bx f]
 | .all fs=>.obj 13 ["parts"] [.tup (uw fs)]
 | .any fs=>.obj 14 ["parts"] [.tup (uw fs)]
noncomputable def uw:List Flt->List Dt
 | []=>[]
 | f::fs=>bx f::uw fs
end
theorem cX:∀ fs:List Flt,uv fs=fs.map ao
 | []=>rfl
 | f::fs=>by unfold uv;rw[cX fs,o_]
theorem fK:∀ fs:List Flt,uw fs=fs.map bx
 | []=>rfl
 | f::fs=>by unfold uw;rw[fK fs,o_]
theorem gB {r:Rw}:∀ {fs:List Flt},oq fs r↔∀ f∈fs,f.holds r
 | []=>by simp [oq]
 | f::fs=>by unfold oq;rw[gB (fs:=fs)];simp
theorem gC {r:Rw}:∀ {fs:List Flt},ou fs r↔∃ f∈fs,f.holds r
 | []=>by simp [ou]
 | f::fs=>by unfold ou;rw[gC (fs:=fs)];simp
theorem dJ:∀ {fs:List Flt},EJ fs↔∀ f∈fs,f.Ok
 | []=>by simp [EJ]
 | f::fs=>by unfold EJ;rw[dJ (fs:=fs)];simp
theorem gD:∀ {fs:List Flt},∀ f∈fs,f.dep<=su fs
 | [],f,h=>nomatch h
 | g::fs,f,h=>by
  unfold su;rcases t_.mp h with rfl | h
  ·lia
  ·have:=gD f h;lia
noncomputable def NN:Flt->Nat
 | .has _=>6 | .many _ _=>7 | .before _ _=>9 | .under _ _=>10 | .aK _ _=>11 | .not _=>15 | .all _=>13 | .any _=>14
noncomputable def NO:Flt->List Str
 | .has _=>["mark"] | .many _ _=>["number","mark"] | .before _ _=>["one","other"] | .under _ _=>["one","other"] | .aK _ _=>["one","other"] | .not _=>["part"] | .all _=>["parts"] | .any _=>["parts"]
section
variable {Γ:Gm}{M:Mem}{R:Dt->Mem->Prop}
theorem nj {f:Flt}{k:Nat->List Str->Prop}:eI M (bx f) k=k (NN f) (NO f):=by cases f<;>(unfold bx;rfl)
noncomputable def S8:Rw->Nat | .row _=>17 | .af _=>18 | .table _ _=>19
noncomputable def S9:Rw->List Str | .row _=>["spot_marks"] | .af _=>["spot_marks","nodes"] | .table _ _=>["spot_marks","lines","columns"]
theorem iD {r:Rw}{k:Nat->List Str->Prop}:eI M (bJ r) k=k (S8 r) (S9 r):=by cases r<;>rfl
noncomputable abbrev yO:=Pr.hm
theorem l6 (h:Γ.hm=yO) {m:Nat} (hm:6<=m/\m<16) (r:Rw):Γ.hm m (S8 r) (S9 r)=true:=by
 rw[h];have e:m=6∨m=7∨m=8∨m=9∨m=10∨m=11∨m=12∨m=13∨m=14∨m=15:=by lia
 rcases e with rfl | rfl | rfl | rfl | rfl | rfl | rfl | rfl | rfl | rfl<;>cases r<;>kernel_rfl
theorem DE (h:Γ.hm=yO) (f:Flt):Γ.hm 5 (NN f) (NO f)=true:=by rw[h];cases f<;>kernel_rfl
theorem g1 {c:Nat}{f:Str}{d:Dt}{k:Dt->Prop} (ha:Γ.at_ c f=true) (h:k d):eH Γ f (.obj c [f] [d]) k:=⟨ha,d,xy,h⟩
theorem OS {c:Nat}{f f':Str}{d e:Dt}{k:Dt->Prop} (ha:Γ.at_ c f=true) (h:k d):eH Γ f (.obj c [f,f'] [d,e]) k:=⟨ha,d,xy,h⟩
theorem OT {c:Nat}{f f':Str}{d e:Dt}{k:Dt->Prop} (ha:Γ.at_ c f'=true) (hn:(f'==f)=false) (h:k e):eH Γ f' (.obj c [f,f'] [d,e]) k:=⟨ha,e,(wd hn).trans xy,h⟩
def kE (n:Nat) (p:cP):Prop:=∀ (f:Flt) (r:Rw) M R,f.Ok->r.Ok->f.dep<=n->(∀ c:Bool,(c=true↔f.holds r)->R (.bl c) M)->p [bx f,bJ r] M R
theorem ux (g:GB Γ) (h:Γ.hm=yO) (p7:fJ (Γ.me 7)) {m:Str}{r:Rw} (hR:∀ c:Bool,(c=true↔(Flt.has m).holds r)->R (.bl c) M):Fn Γ ig [.sh (bx (.has m)),.sh (bJ r)] M R:=by
 unfold ig bx;symm;rw[iD];refine⟨l6 h (by lia) _,g1 (by rw[g.at_];decide +kernel) (p7 r m _ _ ?_)⟩;exact hR _ (by rw[Wq];unfold Flt.holds;lia)
theorem sv (g:GB Γ) (h:Γ.hm=yO) (p7:fJ (Γ.me 7)) {n:Int}{m:Str}{r:Rw} (hR:∀ c:Bool,(c=true↔(Flt.many n m).holds r)->R (.bl c) M):Fn Γ f6 [.sh (bx (.many n m)),.sh (bJ r)] M R:=by
 unfold f6 bx;symm;rw[iD];refine⟨l6 h (by lia) _,OT (by rw[g.at_];decide +kernel) (by decide +kernel) (p7 r m _ _ (OS (by rw[g.at_];decide +kernel) ?_))⟩;exact hR _ (by rw[Wq];unfold Flt.holds;exact acX)
theorem ox (g:GB Γ) (h:Γ.hm=yO) (p8:iB (Γ.me 8)) {a b:Str}{r:Rw} (hR:∀ c:Bool,(c=true↔(Flt.before a b).holds r)->R (.bl c) M):Fn Γ d7 [.sh (bx (.before a b)),.sh (bJ r)] M R:=by
 unfold d7 bx;symm;rw[iD];refine⟨l6 h (by lia) _,OS (by rw[g.at_];decide +kernel) (OT (by rw[g.at_];decide +kernel) (by decide +kernel) (p8 r a b _ _ fun c hc=>hR c (hc.trans ?_)))⟩;unfold Flt.holds Rw.rel;simp
theorem pQ (g:GB Γ) (h:Γ.hm=yO) (Ru:jE (Γ.me 13)) {a b:Str}{r:Rw} (o:r.Ok) (hR:∀ c:Bool,(c=true↔(Flt.under a b).holds r)->R (.bl c) M):Fn Γ eY [.sh (bx (.under a b)),.sh (bJ r)] M R:=by
 unfold eY bx;symm;rw[iD];exact⟨l6 h (by lia) _,OS (by rw[g.at_];decide +kernel) (OT (by rw[g.at_];decide +kernel) (by decide +kernel) (Ru r a b _ _ o fun c hc=>hR c (hc.trans (by unfold Flt.holds;exact acX))))⟩
theorem oy (g:GB Γ) (h:Γ.hm=yO) (Rv:iC (Γ.me 14)) {a b:Str}{r:Rw} (o:r.Ok) (hb:ay b=true) (hR:∀ c:Bool,(c=true↔(Flt.aK a b).holds r)->R (.bl c) M):Fn Γ d8 [.sh (bx (.aK a b)),.sh (bJ r)] M R:=by
 unfold d8 bx;symm;rw[iD];exact⟨l6 h (by lia) _,OS (by rw[g.at_];decide +kernel) (OT (by rw[g.at_];decide +kernel) (by decide +kernel) (Rv r a b _ _ o hb fun c hc=>hR c (hc.trans (by unfold Flt.holds;exact acX))))⟩
theorem uy (g:GB Γ) (h:Γ.hm=yO) {n:Nat} (p5:kE n (Γ.me 5)) {f:Flt}{r:Rw} (of:f.Ok) (o:r.Ok) (hd:f.dep<=n) (hR:∀ c:Bool,(c=true↔(Flt.not f).holds r)->R (.bl c) M):Fn Γ ip [.sh (bx (.not f)),.sh (bJ r)] M R:=by
 unfold ip bx;symm;refine g1 (by rw[g.at_];decide +kernel) ?_;rw[nj];refine⟨DE h _,p5 f r _ _ of o hd fun c hc=>hR (!c) ?_⟩;unfold Flt.holds;rw[←hc]
 cases c<;>simp
theorem eT {f:Dt->En->Mem->xb->Prop}{E:xb}{items:List Dt}{ρ:En}{T:Prop} (Iv:En->Prop) (P:Nat->Prop) (h0:Iv ρ)
  (hs:∀ i x,items[i]? = some x->∀ (ρ:En) (N:En->Mem->Prop),Iv ρ->(P i->T)->(¬ P i->∀ ρ',Iv ρ'->N ρ' M)->f x ρ M { E with nx:=N,ct:=N,bk:=E.nx })
  (ht:(∃ i,P i)->T) (hd:(¬ ∃ i,i<items.length/\P i)->∀ ρ,Iv ρ->E.nx ρ M):dE f E items ρ M:=by
 refine ax (fun i ρ M'=>M'=M/\Iv ρ/\¬ ∃ j,j<i/\P j) ⟨rfl,h0,by rintro⟨_,h,_⟩;lia⟩ ?_ ?_
 ·rintro i x ρ M' N hx ⟨rfl,iv,gP⟩ hN;refine hs i x hx ρ N iv (fun p=>ht ⟨i,p⟩) fun np ρ' Rs=>hN ρ' _ ⟨rfl,Rs,?_⟩
  rintro⟨j,hj,pj⟩;rcases Xa j i with h | h
  ·exact gP ⟨j,h,pj⟩
  ·have:j=i:=by lia
   subst this;exact np pj
 ·rintro ρ M' ⟨rfl,iv,gP⟩;exact hd gP ρ iv
theorem uz (g:GB Γ) (h:Γ.hm=yO) {n:Nat} (p5:kE n (Γ.me 5)) {fs:List Flt}{r:Rw} (of:EJ fs) (o:r.Ok) (hd:su fs<=n) (hR:∀ c:Bool,(c=true↔(Flt.all fs).holds r)->R (.bl c) M):Fn Γ im [.sh (bx (.all fs)),.sh (bJ r),.no] M R:=by
 unfold im bx;rw[fK];symm;refine g1 (by rw[g.at_];decide +kernel) ?_;and_intros;refine eT (T:=R (.bl false) M) (fun ρ=>∃ o3,ρ=[.sh (.obj 13 ["parts"] [.tup (fs.map bx)]),.sh (bJ r),o3]) (fun i=>∃ f,fs[i]? = some f/\¬ f.holds r) ⟨_,rfl⟩ ?_ ?_ ?_
 ·rintro i x hx ρ N' ⟨o3,rfl⟩ hy hn;rw[h_] at hx;obtain⟨f,hf,rfl⟩:=m_.mp hx;have hm:=y_ hf;and_intros;right;rw[nj];refine⟨DE h _,p5 f r _ _ (dJ.mp of f hm) o (Q_ (gD f hm) hd) fun c hc=>?_⟩
  cases c with
  | false =>
   and_intros;refine sqo fun N3 cQ=>?_
   exact hy ⟨f,hf,fun z=>nomatch (hc.mpr z)⟩
  | true =>
   and_intros;subst hN2;refine hn ?_ _ ⟨_,rfl⟩;rintro⟨f',e,q⟩;rw[hf] at e
   cases e
   exact q (hc.mp rfl)
 ·rintro⟨i,f,hf,q⟩;refine hR false ?_;unfold Flt.holds;rw[gB];exact⟨fun z=>(nomatch z),fun z=>absurd (z f (y_ hf)) q⟩
 ·rintro gP ρ ⟨o3,rfl⟩;left;refine hR true ?_;unfold Flt.holds;rw[gB];exact⟨fun _ f hf=>Z0 fun q=>gP (let ⟨i,hi⟩:=V_.mp hf;⟨i,by rw[a_];exact (i_.mp hi).1,f,hi,q⟩),fun _=>rfl⟩
theorem uA (g:GB Γ) (h:Γ.hm=yO) {n:Nat} (p5:kE n (Γ.me 5)) {fs:List Flt}{r:Rw} (of:EJ fs) (o:r.Ok) (hd:su fs<=n) (hR:∀ c:Bool,(c=true↔(Flt.any fs).holds r)->R (.bl c) M):Fn Γ io [.sh (bx (.any fs)),.sh (bJ r),.no] M R:=by
 unfold io bx;rw[fK];symm;refine g1 (by rw[g.at_];decide +kernel) ?_;and_intros;refine eT (T:=R (.bl true) M) (fun ρ=>∃ o3,ρ=[.sh (.obj 14 ["parts"] [.tup (fs.map bx)]),.sh (bJ r),o3]) (fun i=>∃ f,fs[i]? = some f /\  f.holds r) ⟨_,rfl⟩ ?_ ?_ ?_
 ·rintro i x hx ρ N' ⟨o3,rfl⟩ hy hn;rw[h_] at hx;obtain⟨f,hf,rfl⟩:=m_.mp hx;have hm:=y_ hf;and_intros;right;rw[nj];refine⟨DE h _,p5 f r _ _ (dJ.mp of f hm) o (Q_ (gD f hm) hd) fun c hc=>?_⟩
  cases c with
  | true =>
   and_intros;refine sqo fun N3 cQ=>?_
   exact hy ⟨f,hf,hc.mp rfl⟩
  | false =>
   and_intros;subst hN2;refine hn ?_ _ ⟨_,rfl⟩;rintro⟨f',e,q⟩;rw[hf] at e
   cases e
   exact nomatch (hc.mpr q)
 ·rintro⟨i,f,hf,q⟩;refine hR true ?_;unfold Flt.holds;rw[gC];exact⟨fun _=>⟨f,y_ hf,q⟩,fun _=>rfl⟩
 ·rintro gP ρ ⟨o3,rfl⟩;left;refine hR false ?_;unfold Flt.holds;rw[gC];exact⟨fun z=>(nomatch z),fun⟨f,hf,q⟩=>absurd (let ⟨i,hi⟩:=V_.mp hf;⟨i,by rw[a_];exact (i_.mp hi).1,f,hi,q⟩) gP⟩
end
section
variable {Γ:Gm}{M:Mem}{R:Dt->Mem->Prop}
theorem NP {f f':Str}{d e:Dt} (h:¬ f=f'):putD f' e [f] [d]=(([f,f']:List Str),[d,e]):=by unfold putD;rw[p_ h];rfl
theorem putN {f:Str}{d:Dt}:putD f d [] []=(([f]:List Str),[d]):=rfl
def Be (p:BS):Prop:=∀ (m:Str) M k,k (bx (.has m)) M->p (.obj 6 [] []) [.str m] M k
theorem wm (g:GB Γ) {m:Str}{k:Dt->Mem->Prop} (h:k (bx (.has m)) M):In Γ jt [.ow (.obj 6 [] []),.sh (.str m)] M 6 k:=by
 unfold jt;symm;refine⟨by rw[g.at_];decide +kernel,by simp,?_⟩;subst hN;unfold bx at h;exact⟨rfl,h⟩
def wn (p:BS):Prop:=∀ (n:Int) (m:Str) M k,k (bx (.many n m)) M->p (.obj 7 [] []) [.int n,.str m] M k
theorem uB (g:GB Γ) {n:Int}{m:Str}{k:Dt->Mem->Prop} (h:k (bx (.many n m)) M):In Γ ij [.ow (.obj 7 [] []),.sh (.int n),.sh (.str m)] M 7 k:=by
 unfold ij;unfold bx at h;symm;refine⟨by rw[g.at_];decide +kernel,by simp,?_⟩;left;refine⟨by rw[g.at_];decide +kernel,by simp [putD],?_⟩;subst hN;rw[putN,NP (by decide +kernel)];exact⟨rfl,h⟩
def gF (c:Nat) (p:BS):Prop:=∀ (a b:Str) M k,k (.obj c ["one","other"] [.str a,.str b]) M->p (.obj c [] []) [.str a,.str b] M k
theorem iE (g:GB Γ) {c:Nat} (hc:c=9∨c=10∨c=11) {a b:Str}{k:Dt->Mem->Prop} (h:k (.obj c ["one","other"] [.str a,.str b]) M):In Γ ik [.ow (.obj c [] []),.sh (.str a),.sh (.str b)] M c k:=by
 unfold ik;symm;refine⟨by rw[g.at_];rcases hc with rfl | rfl | rfl<;>decide +kernel,by simp,?_⟩;left;refine⟨by rw[g.at_];rcases hc with rfl | rfl | rfl<;>decide +kernel,by simp [putD],?_⟩;subst hN;rw[putN,NP (by decide +kernel)];exact⟨rfl,h⟩
def iT (c:Nat) (p:BS):Prop:=∀ (ds:List Dt) M k,k (.obj c ["parts"] [.tup ds]) M->p (.obj c [] []) [.lst ds] M k
theorem kF (g:GB Γ) {c:Nat} (hc:c=13∨c=14) {ds:List Dt}{k:Dt->Mem->Prop} (h:k (.obj c ["parts"] [.tup ds]) M):In Γ f7 [.ow (.obj c [] []),.sh (.lst ds)] M c k:=by
 unfold f7;symm;refine⟨by rw[g.at_];rcases hc with rfl | rfl<;>decide +kernel,by simp,?_⟩;subst hN;exact⟨rfl,h⟩
def Bf (p:BS):Prop:=∀ (d:Dt) M k,k (.obj 15 ["part"] [d]) M->p (.obj 15 [] []) [d] M k
theorem wo (g:GB Γ) {d:Dt}{k:Dt->Mem->Prop} (h:k (.obj 15 ["part"] [d]) M):In Γ ju [.ow (.obj 15 [] []),.sh d] M 15 k:=by
 unfold ju;symm;refine⟨by rw[g.at_];decide +kernel,by simp,?_⟩;subst hN;exact⟨rfl,h⟩
def gH (n:Nat) (p:cP):Prop:=∀ (f:Flt) M R,f.Ok->f.dep<=n->R (bx f) M->p [ao f] M R
noncomputable def tag:Flt->Nat
 | .has _=>0 | .many _ _=>1 | .before _ _=>2 | .under _ _=>3 | .aK _ _=>4 | .not _=>5 | .all _=>6 | .any _=>7
noncomputable def Rx (t:Nat):Str:=match t with | 0 => "has" | 1 => "many" | 2 => "before" | 3 => "under" | 4 => "beside" | 5 => "not" | 6 => "all" | _ => "any"
noncomputable def OU (f:Flt):Str:=Rx (tag f)
theorem EK {f:Flt}{k:Dt->Prop} (h:k (.str (OU f))):jM (ao f) 0 k:=by
 cases f<;>(unfold ao;exact⟨_,rfl,h⟩)
theorem zy {ds:List Dt}{i:Nat}{d:Dt}{k:Dt->Prop} (e:ds[i]? = some d) (h:k d):jM (.tup ds) i k:=⟨d,aN e,h⟩
theorem cK {f:Flt}{w:Str}{a b:Prop} (e:OU f=w) (y:a):jM (ao f) 0 fun x=>tU x (.str w) fun c=>if c=true then a else b:=EK (bH (f_ e) y)
theorem aL (t:Nat) {f:Flt}{w:Str}{a b:Prop} (e:¬ Rx t=w) (h:tag f=t) (n:b):jM (ao f) 0 fun x=>tU x (.str w) fun c=>if c=true then a else b:=EK (by
 have e:¬ OU f=w:=by unfold OU;rw[h];exact e
 exact bA (by rw[g_ e];decide) n)
theorem kG {n:Nat} (OV:gH n (Γ.fn 28)) (q6:Be (Γ.bj 6)) (q7:wn (Γ.bj 7)) (q9:gF 9 (Γ.bj 9)) (Vn:gF 10 (Γ.bj 10)) (Vo:gF 11 (Γ.bj 11)) (Vp:iT 13 (Γ.bj 13)) (Vq:iT 14 (Γ.bj 14)) (Vr:Bf (Γ.bj 15)) {f:Flt} (o:f.Ok) (hd:f.dep<=n+1) (hR:R (bx f) M):Fn Γ cH [.sh (ao f),.no] M R:=by
 unfold cH
 have go:∀ (fs:List Flt) (K:List Dt->Mem->Prop),(∀ f∈fs,f.Ok)->(∀ f∈fs,f.dep<=n)->K (fs.map bx) M->cR (fun x M K=>Γ.fn 28 [x] M fun d M2=>K (some d) M2) (fs.map ao) M K:=fun fs=>by
  induction fs with
  | nil=>intro K _ _ hK;exact hK
  | cons f fs ih =>
   intro K h1 h2 hK;exact OV f _ _ (h1 f (by simp)) (h2 f (by simp)) (ih _ (fun f' Jv=>h1 f' (by simp [Jv])) (fun f' Jv=>h2 f' (by simp [Jv])) hK)
 cases f with
 | has m =>
  symm;refine cK rfl ?_;refine sqo fun N2 hN2=>?_
  unfold ao;and_intros;exact⟨_,rfl,q6 m _ _ hR⟩
 | many k m =>
  symm;refine aL 1 (by decide +kernel) rfl ?_;left;refine cK rfl ?_;refine sqo fun N2 hN2=>?_
  unfold ao;and_intros;exact⟨_,rfl,_,rfl,q7 k m _ _ hR⟩
 | before a b =>
  symm;refine aL 2 (by decide +kernel) rfl ?_;left;refine aL 2 (by decide +kernel) rfl ?_;left;refine cK rfl ?_;refine sqo fun N2 hN2=>?_
  unfold ao;unfold bx at hR;and_intros;exact⟨_,rfl,_,rfl,q9 a b _ _ hR⟩
 | under a b =>
  symm;refine aL 3 (by decide +kernel) rfl ?_;left;refine aL 3 (by decide +kernel) rfl ?_;left;refine aL 3 (by decide +kernel) rfl ?_;left;refine cK rfl ?_;refine sqo fun N2 hN2=>?_
  unfold ao;unfold bx at hR;and_intros;exact⟨_,rfl,_,rfl,Vn a b _ _ hR⟩
 | aK a b =>
  symm;refine aL 4 (by decide +kernel) rfl ?_;left;refine aL 4 (by decide +kernel) rfl ?_;left;refine aL 4 (by decide +kernel) rfl ?_;left;refine aL 4 (by decide +kernel) rfl ?_;left;refine cK rfl ?_;refine sqo fun N2 hN2=>?_
  unfold ao;unfold bx at hR;and_intros;exact⟨_,rfl,_,rfl,Vo a b _ _ hR⟩
 | not g =>
  symm;refine aL 5 (by decide +kernel) rfl ?_;left;refine aL 5 (by decide +kernel) rfl ?_;left;refine aL 5 (by decide +kernel) rfl ?_;left;refine aL 5 (by decide +kernel) rfl ?_;left;refine aL 5 (by decide +kernel) rfl ?_;left;refine cK rfl ?_;refine sqo fun N2 hN2=>?_
  unfold ao;and_intros;refine⟨_,rfl,OV g _ _ o (by unfold Flt.dep at hd;lia) (Vr _ _ _ ?_)⟩;unfold bx at hR;exact hR
 | all fs =>
  symm;refine aL 6 (by decide +kernel) rfl ?_;left;refine aL 6 (by decide +kernel) rfl ?_;left;refine aL 6 (by decide +kernel) rfl ?_;left;refine aL 6 (by decide +kernel) rfl ?_;left;refine aL 6 (by decide +kernel) rfl ?_;left;refine aL 6 (by decide +kernel) rfl ?_;left;unfold ao;rw[cX];and_intros;refine⟨_,rfl,?_⟩;and_intros;refine⟨by rw[a_];exact sz (by have:=o.1;lia),go fs _ (dJ.mp o.2) (fun f hf=>by have:=gD f hf;unfold Flt.dep at hd;lia) ?_⟩;unfold bx at hR;rw[fK] at hR;left;refine⟨_,rfl,?_⟩;and_intros;refine bH (by decide +kernel) ?_;refine sqo fun N2 hN2=>?_
  exact Vp _ _ _ hR
 | any fs =>
  symm;refine aL 7 (by decide +kernel) rfl ?_;left;refine aL 7 (by decide +kernel) rfl ?_;left;refine aL 7 (by decide +kernel) rfl ?_;left;refine aL 7 (by decide +kernel) rfl ?_;left;refine aL 7 (by decide +kernel) rfl ?_;left;refine aL 7 (by decide +kernel) rfl ?_;left;unfold ao;rw[cX];and_intros;refine⟨_,rfl,?_⟩;and_intros;refine⟨by rw[a_];exact sz (by have:=o.1;lia),go fs _ (dJ.mp o.2) (fun f hf=>by have:=gD f hf;unfold Flt.dep at hd;lia) ?_⟩;unfold bx at hR;rw[fK] at hR;left;refine⟨_,rfl,?_⟩;and_intros;refine bA (by decide +kernel) ?_;subst hN;refine sqo fun N2 hN2=>?_
  exact Vq _ _ _ hR
end
theorem uC {w:Str}{a:Nat} (h:a<=w.length):(XN w none (some (a:Int))).cps.toList=w.cps.toList.take a:=by
 have e:=eq_of_beq (PyProof.Rows.slice_closes_toL (x:=w) (j:=(a:Int)) (by lia) (by lia));rw[e];simp
theorem oz {w:Str}{a:Nat} (h:a<=w.length):(XN w (some (a:Int)) none).cps.toList=w.cps.toList.drop a:=by
 have e:=eq_of_beq (PyProof.Rows.slice_closes_fromL (x:=w) (i:=(a:Int)) (b:=(w.length:Int)) (by lia) (by lia) rfl);rw[e];have hl:w.cps.toList.length=w.length:=by simp [abz]
 rw[show ((w.length:Int)-(a:Int)).toNat=w.length-a by lia];simp only[n_];rw[W2 (by rw[XJ];lia)]
theorem len_list (w:Str):w.cps.toList.length=w.length:=by simp [abz]
theorem Bg {w:Str}{a x:Nat} (h:a<=w.length) (hw:w.length<=7) (hl:∀ y∈w.cps.toList,y∈zO.cps.toList) (hx:x∈zO.cps.toList) :
  ay (XN w none (some (a:Int))++⟨#[x]⟩++XN w (some (a:Int)) none)=true:=by
 have h1:=uC h;have h2:=oz h;have l1:(XN w none (some (a:Int))).length=a:=by rw[←len_list,h1,Wp,len_list];lia
 have l2:(XN w (some (a:Int)) none).length=w.length-a:=by rw[←len_list,h2,XJ,len_list]
 refine Cz ?_ ?_ fun y hy=>tF.mpr ?_
 ·rw[X3,X3,iR];lia
 ·rw[X3,X3,iR];lia
 ·rw[app_list,app_list,U_,U_,h1,h2] at hy;rcases hy with (h | h) | h
  ·exact hl y (WQ h)
  ·rw[show y=x by simpa using h];exact hx
  ·exact hl y (aa_ h)
theorem uD {w:Str}{a:Nat} (h:a<=w.length) (hw:w.length<=7):(XN w none (some (a:Int))).length<=7/\(XN w (some (a:Int)) none).length<=7:=by
 have h1:=uC h;have h2:=oz h;rw[←len_list,←len_list,h1,h2,Wp,XJ,len_list]
 lia
section
variable {Γ:Gm}{M:Mem}{R:Dt->Mem->Prop}
theorem uE {n:Nat} (h:n<=1000):n<sizeLine:=YT h (by decide)
noncomputable def iU (ns:List Int):Dt:=.mw (ns.map .int)
def cY (p:cP):Prop:=∀ (ns:List Int) (k:Int) M R,0<=k->(∀ n:Int,R (.int n) M)->p [iU ns,.int k] M R
theorem oA {ns:List Int}{k:Int} (h:0<=k) (hR:∀ n:Int,R (.int n) M):Fn Γ eh [.sh (iU ns),.sh (.int k)] M R:=by
 unfold eh iU;symm;rw[a_];by_cases e:k<(ns.length:Int)
 ·refine bH (f_ e) ?_;right;obtain⟨n,rfl⟩:=WL h;exact⟨.int (ns[n]'(by lia)),aN (by rw[h_,c_ (by lia)];rfl),hR _⟩
 ·refine bA (by rw[g_ e];decide) ?_;left;exact⟨.inl ⟨by decide,by decide⟩,hR _⟩
theorem iF {f:Dt->Mem->(k_ Dt->Mem->Prop)->Prop}{R:Rt}{P:Dt->Prop}:∀ {items:List Dt},(∀ x∈items,∀ K:k_ Dt->Mem->Prop,(∀ d,P d->K (some d) M)->f x M K)->(∀ ds,ds.length=items.length->(∀ d∈ds,P d)->R ds M)->cR f items M R
 | [],_,h=>h [] rfl (fun _ z=>nomatch z)
 | x::xs,hf,h=>hf x S_ _ fun d hd=>iF (fun y hy=>hf y (E_ _ hy)) fun ds hl hP=>h (d::ds) (by simp [hl]) fun e he=>by
  rcases t_.mp he with rfl | he
  ·exact hd
  ·exact hP e he
theorem mV {T:Str->Prop}:∀ {ds:List Dt},(∀ d∈ds,∃ z,d=.str z/\T z)->∃ zs:List Str,ds=zs.map .str/\∀ z∈zs,T z
 | [],_=>⟨[],rfl,fun _ z=>nomatch z⟩
 | d::ds,h=>by
  obtain⟨z,rfl,hz⟩:=h d (by simp);obtain⟨zs,rfl,hs⟩:=mV (ds:=ds) fun e he=>h e (by simp [he])
  exact⟨z::zs,rfl,fun y hy=>by rcases t_.mp hy with rfl | hy;exact hz;exact hs y hy⟩
def oB (p:cP):Prop:=∀ (c:Int) M R,(∀ zs:List Str,4<=zs.length->zs.length<=10->(∀ z∈zs,ay z=true)->R (.lst (zs.map .str)) M)->p [.int c] M R
theorem mI {c:Int} (hR:∀ zs:List Str,4<=zs.length->zs.length<=10->(∀ z∈zs,ay z=true)->R (.lst (zs.map .str)) M):Fn Γ dw [.sh (.int c),.no,.no,.no,.no,.no,.no,.no] M R:=by
 unfold dw;have go:=fun j:Int=>SH.dq (z:=zO) (i:=j) (m:=26) (by decide) (by decide +kernel)
 symm;left;left;refine⟨⟨by decide,by decide,by decide⟩,by decide,?_⟩;generalize c % 10 ^ ZP 12=rr;left;have r0:=XA rr (show (8:Int)≠0 by decide);have r8:=Yf rr (show (0:Int)<8 by decide);refine⟨by decide,⟨by lia,by lia⟩,?_⟩;refine ax (fun i ρ M'=>M'=M/\∃ w:Str,w.length=i/\(∀ y∈w.cps.toList,y∈zO.cps.toList)/\∃ (rest:Int) (o:Sl),ρ=[.sh (.int c),.sh (.str zO),.sh (.str w),.sh (.int rest),o,.no,.no,.no]) ⟨rfl,W_ "",rfl,fun y hy=>(nomatch hy),_,_,rfl⟩ ?_ ?_
 ·rintro i x ρ M' N' hx ⟨rfl,w,hw,hl,rest,o,rfl⟩ eJ;obtain⟨hi,rfl⟩:=aA hx;and_intros;right;refine⟨⟨by decide,by decide⟩,?_⟩;subst hN2;right;obtain⟨x,hx,ex⟩:=go (rest / 8);refine⟨by decide,sz (by decide +kernel),x,ex,by rw[iR];exact sz (by lia),?_⟩;subst hN2;refine eJ _ _ ⟨rfl,w++⟨#[x]⟩,by rw[X3,iR,hw],fun y hy=>?_,_,_,rfl⟩;rw[app_list,U_] at hy;rcases hy with h | h
  ·exact hl y h
  ·rw[show y=x by simpa using h];exact hx
 ·rintro ρ M' ⟨rfl,w,hw,hl,rest,o,rfl⟩;rw[aj] at hw;have w7:w.length<=7:=by lia
  left;refine⟨⟨by decide,by decide⟩,sz (by lia),by lia,?_⟩;obtain⟨a,ha⟩:=WL (XA (c / 8) (show (w.length:Int)+1≠0 by lia));have Ta:a<=w.length:=by have:=Yf (c / 8) (show (0:Int)<(w.length:Int)+1 by lia);lia
  rw[ha];left;refine⟨⟨by decide,by decide⟩,by decide,?_⟩;left;refine⟨sz (by simp),⟨by decide,by decide⟩,by decide,?_⟩;obtain⟨v,hv,_,e⟩:=mU (xs:=([.int 4,.int 4,.int 4,.int 10]:List Dt)) (i:=c / 1664) (m:=4) (by decide) (by decide);refine⟨v,e,?_⟩
  have zn:∃ n:Nat,v=.int n/\4<=n/\n<=10:=by
   simp only[t_,WM,Yu] at hv;rcases hv with rfl | rfl | rfl | rfl
   ·exact⟨4,rfl,by decide,by decide⟩
   ·exact⟨4,rfl,by decide,by decide⟩
   ·exact⟨4,rfl,by decide,by decide⟩
   ·exact⟨10,rfl,by decide,by decide⟩
  obtain⟨n,rfl,n4,Wh⟩:=zn;obtain⟨q1,q2⟩:=uD Ta w7;left;refine⟨⟨by lia,by lia⟩,by rw[aj];exact sz (by lia),?_⟩;refine iF (P:=fun d=>∃ z,d=.str z/\ay z=true) (fun x hx K hK=>?_) fun ds yP hP=>?_
  ·obtain⟨i,hi⟩:=V_.mp hx;obtain⟨_,rfl⟩:=aA hi;obtain⟨y,hy,ey⟩:=go (c / 64 % 26+3*(0+(i:Int)));and_intros;exact⟨sz (by lia),.inl ⟨by decide,by decide⟩,by decide,sz (by decide +kernel),y,ey,by rw[iR];exact sz (by lia),sz (by lia),by rw[X3,iR];exact sz (by lia),hK _ ⟨_,rfl,Bg Ta w7 hl hy⟩⟩
  ·obtain⟨zs,rfl,hz⟩:=mV hP;rw[a_,aj,n_] at yP;exact hR zs (by lia) (by lia) hz
def qR (p:cP):Prop:=∀ (c:Int) M R,(∀ m:Nat,m<=40->R (.int m) M)->p [.int c] M R
theorem aX (c:Int) {m:Int} (h:0<m):∃ n:Nat,c % m=(n:Int)/\(n:Int)<m:=by
 obtain⟨n,hn⟩:=WL (XA c (show m≠0 by lia));exact⟨n,hn,by have:=Yf c h;lia⟩
theorem oE {c:Int} (hR:∀ m:Nat,m<=40->R (.int m) M):Fn Γ em [.sh (.int c)] M R:=by
 unfold em;symm;refine⟨by decide,?_⟩
 have two:∀ m:Int,0<m->m<=41->R (.int (c / 16 % m)) M:=fun m h1 h2=>by
  obtain⟨n,e,hn⟩:=aX (c / 16) h1;rw[e];exact hR n (by lia)
 by_cases e:c % 16=5
 ·refine bH (f_ e) ?_;right;exact⟨⟨by decide,by decide⟩,by decide,two 41 (by decide) (by decide)⟩
 ·refine bA (by rw[g_ e];decide) ?_;left;exact⟨⟨by decide,by decide⟩,by decide,two 9 (by decide) (by decide)⟩
def fL (zs:List Str):Prop:=4<=zs.length/\zs.length<=10/\∀ z∈zs,ay z=true
def uF (p:cP):Prop:=∀ (ns:List Int) (f m:Nat) (zs:List Str) M R,m<=900->fL zs->(∀ ws:List Str,ws.length=m->(∀ z∈ws,ay z=true)->R (.lst (ws.map .str)) M)->p [iU ns,.int f,.int m,.lst (zs.map .str)] M R
theorem pS (oh:cY (Γ.fn 12)) {ns:List Int}{f m:Nat}{zs:List Str} (hm:m<=900) (hz:fL zs) (hR:∀ ws:List Str,ws.length=m->(∀ z∈ws,ay z=true)->R (.lst (ws.map .str)) M):Fn Γ fk [.sh (iU ns),.sh (.int f),.sh (.int m),.sh (.lst (zs.map .str)),.no,.no,.no] M R:=by
 unfold fk;obtain⟨z4,OW,hz⟩:=hz;symm;refine⟨sz (by simp),?_⟩;left;refine⟨⟨by lia,by lia⟩,?_⟩;refine ax (fun i ρ M'=>M'=M/\∃ ws:List Str,ws.length=i/\(∀ z∈ws,ay z=true)/\∃ o5 o6,ρ=[.sh (iU ns),.sh (.int f),.sh (.int m),.sh (.lst (zs.map .str)),.ow (.lst (ws.map .str)),o5,o6]) ⟨rfl,[],rfl,fun _ z=>(nomatch z),_,_,rfl⟩ ?_ ?_
 ·rintro i x ρ M' N' hx ⟨rfl,ws,hw,wq,o5,o6,rfl⟩ eJ;obtain⟨hi,rfl⟩:=aA hx;rw[n_] at hi;rw[Wt];and_intros;right;refine⟨by decide,oh _ _ _ _ (by have:=XA (i:Int) (show (12:Int)≠0 by decide);lia) fun c=>?_⟩;and_intros;refine⟨⟨by decide,by decide⟩,.inl ⟨by decide,by decide⟩,?_⟩;generalize c+11*((i:Int) / 12)=cc;subst hN2;right;obtain⟨v,hv,_,e⟩:=mU (xs:=([.int 0,.int 0,.int 1,.int 1,.int 2,.int 2,.int 3]:List Dt)) (i:=cc) (m:=7) (by decide) (by decide)
  have zn:∃ n:Nat,v=.int n/\n<=3:=by
   simp only[t_,WM,Yu] at hv;rcases hv with rfl | rfl | rfl | rfl | rfl | rfl | rfl
   ·exact⟨0,rfl,by decide⟩
   ·exact⟨0,rfl,by decide⟩
   ·exact⟨1,rfl,by decide⟩
   ·exact⟨1,rfl,by decide⟩
   ·exact⟨2,rfl,by decide⟩
   ·exact⟨2,rfl,by decide⟩
   ·exact⟨3,rfl,by decide⟩
  obtain⟨n,rfl,n3⟩:=zn
  have fin:∀ q:Int,0<=q->q<zs.length->atK (zs.map Dt.str) q fun d=>(ws.map Dt.str).length<sizeLine/\N2 [Sl.sh (iU ns),Sl.sh (Dt.int f),Sl.sh (Dt.int m),Sl.sh (.lst (zs.map .str)),Sl.ow (.lst (ws.map .str++[d])),Sl.sh (.int i),Sl.sh (.int cc)] M':=fun q h0 h1=>by
   refine⟨_,K18.dq h0 h1,by rw[a_];exact uE (by lia),?_⟩;subst hN2;have:=eJ [Sl.sh (iU ns),Sl.sh (Dt.int f),Sl.sh (Dt.int m),Sl.sh (.lst (zs.map .str)),Sl.ow (.lst ((ws++[atS zs q]).map .str)),Sl.sh (.int i),Sl.sh (.int cc)] M' ⟨rfl,ws++[atS zs q],by simp [hw],fun z Gu=>?_,_,_,rfl⟩
   ·rw[I_] at this;exact this
   ·rcases U_.mp Gu with h | h
    ·exact wq z h
    ·rw[D_.mp h];exact hz _ (getD_mem (by lia))
  rw[a_];refine⟨sz (by simp),by decide,_,e,by lia,sz (by simp),?_⟩;by_cases h4:(4:Int)<(zs.length:Nat)
  ·rw[u_ (f_ h4)];obtain⟨q,eq,hq⟩:=aX cc (show (0:Int)<(zs.length:Nat) by lia);refine⟨_,rfl,fin _ (by lia) (by lia)⟩
  ·rw[p_ (by rw[g_ h4];decide)];exact⟨_,rfl,fin _ (by lia) (by lia)⟩
 ·rintro ρ M' ⟨rfl,ws,hw,wq,o5,o6,rfl⟩;rw[aj,n_] at hw;left;left;exact hR ws hw wq
noncomputable def aB:Rw->Dt
 | .row zs=>.tup [.str "row",.lst (zs.map .str)]
 | .af ns=>.tup [.str "forest",.lst (ns.map aF)]
 | .table w ls=>.tup [.str "table",.int w,.lst (ls.map aT)]
def l7 (p:cP):Prop:=∀ (ns:List Int) (f:Nat) (zs:List Str) M R,zs.length<=40->(∀ z∈zs,ay z=true)->(∀ ps:List Nd,(Rw.af ps).Ok->R (aB (.af ps)) M)->p [iU ns,.int f,.lst (zs.map .str)] M R
theorem lJ (oh:cY (Γ.fn 12)) {ns:List Int}{f:Nat}{zs:List Str} (hl:zs.length<=40) (hz:∀ z∈zs,ay z=true) (hR:∀ ps:List Nd,(Rw.af ps).Ok->R (aB (.af ps)) M):Fn Γ cV [.sh (iU ns),.sh (.int f),.sh (.lst (zs.map .str)),.no,.no,.no,.no] M R:=by
 unfold cV;symm;refine⟨sz (by simp),?_⟩;left;left;rw[a_];refine⟨⟨by lia,by lia⟩,?_⟩;refine ax (fun i ρ M'=>M'=M/\∃ (ps:List Nd) (d:Nat),ps.length=i/\aQ 0 ps/\d<=6/\(i=0->d=0)/\(0<i->(d:Int)+1=aM 0 ps)/\∃ o5 o6,ρ=[.sh (iU ns),.sh (.int f),.sh (.lst (zs.map .str)),.ow (.lst (ps.map aF)),.sh (.int d),o5,o6]) ⟨rfl,[],0,rfl,WV,by lia,fun _=>rfl,fun h=>by lia,_,_,rfl⟩ ?_ ?_
 ·rintro i x ρ M' N' hx ⟨rfl,ps,d,hp,ho,d6,d0,d1,o5,o6,rfl⟩ eJ;obtain⟨hi,rfl⟩:=aA hx;rw[n_] at hi;rw[Wt];obtain⟨z,Jh⟩:∃ z,zs[i]? = some z:=⟨_,c_ hi⟩;and_intros;right;refine⟨by decide,oh _ _ _ _ (by have:=XA (i:Int) (show (12:Int)≠0 by decide);lia) fun c=>?_⟩;and_intros;refine⟨⟨by decide,by decide⟩,⟨by decide,by decide⟩,.inl ⟨by decide,by decide⟩,?_⟩;generalize c / 7+3*((i:Int) / 12)=cc;subst hN2;right;obtain⟨a,ea,ha⟩:=aX cc (show (0:Int)<7 by decide);obtain⟨b,eb,hb⟩:=aX (a:Int) (show (0:Int)<(d:Int)+2 by lia)
  have Wi:b<=a:=by
   have h:((a % (d+2):Nat):Int)=(b:Int):=by rw[←eb,Int.natCast_emod];rfl
   have:=Nat.mod_le a (d+2)
   lia
  rw[ea];refine⟨by decide,by lia,?_⟩;rw[eb]
  obtain⟨e,he,e1,e2,e3⟩:∃ e:Nat,((b:Int)*if decide (0<(i:Int))=true then 1 else 0)=(e:Int)/\e<=6/\(i=0->e=0)/\e<=d+1:=by
   rcases YU i with h | h
   ·exact⟨0,by rw[p_ (by rw[h];decide),ab4];rfl,by lia,fun _=>rfl,by lia⟩
   ·exact⟨b,by rw[u_ (f_ (by lia)),Z2],by lia,fun h'=>by lia,by lia⟩
  rw[he];refine⟨.inl ⟨by lia,by lia⟩,?_⟩;subst hN2;right;refine⟨.str z,aN (by rw[h_,Jh];rfl),sz (by simp),by rw[a_];exact uE (by lia),?_⟩;subst hN2;have hm:=hz z (y_ Jh)
  have da:(e:Int)<=aM 0 ps:=by
   rcases YU i with h | h
   ·have:=e2 h
    cases ps with
    | nil=>show (e:Int)<=0;lia
    | cons _ _=>rw[G_] at hp;lia
   ·have:=d1 h;lia
  have:=eJ [Sl.sh (iU ns),Sl.sh (Dt.int f),Sl.sh (.lst (zs.map .str)),Sl.ow (.lst ((ps++[((z,(e:Int)):Nd)]).map aF)),Sl.sh (.int e),Sl.sh (.int i),Sl.sh (.int cc)] M' ⟨rfl,ps++[(z,(e:Int))],e,by simp [hp],aV.mpr ⟨ho,hm,by show (0:Int)<=e;lia,da,WV⟩,e1,fun h=>by lia,fun _=>?_,_,_,rfl⟩
  ·rw[I_] at this;exact this
  ·rw[bg];show (e:Int)+1=min ((e:Int)+1) 12
   lia
 ·rintro ρ M' ⟨rfl,ps,d,hp,ho,d6,d0,d1,o5,o6,rfl⟩;rw[aj,n_] at hp;left;left;exact⟨sz (by simp),hR ps ⟨ho,by lia⟩⟩
def Bh (p:cP):Prop:=∀ (r:Int) M R,(∀ n:Int,R (.int n) M)->p [.int r] M R
theorem wr {r:Int} (hR:∀ n:Int,R (.int n) M):Fn Γ jB [.sh (.int r),.no,.no] M R:=by
 unfold jB;symm;left;refine⟨fun m ρ M'=>M'=M/\∃ t:Int,0<t/\m=(r+1-t).toNat/\ρ=[.sh (.int r),.sh (.int t),.no],⟨_,rfl,1,by decide,rfl,rfl⟩,?_⟩;rintro m ρ M' ⟨rfl,t,ht,rfl,rfl⟩;and_intros;by_cases e:t<=r
 ·refine bH (f_ e) ?_;right;refine⟨.inl ⟨by decide,by decide⟩,?_⟩;subst hN2;exact⟨_,by lia,rfl,4*t,by lia,rfl,rfl⟩
 ·refine bA (by rw[g_ e];decide) ?_;left;refine⟨⟨by decide,by decide,by decide⟩,by decide,.inr ⟨by decide,by decide⟩,⟨by decide,by decide,by decide⟩,by decide,?_⟩;generalize (r % 10 ^ ZP 15+11)*6364136223846793013 % (2 ^ ZP 61-1)=v;left;refine⟨.inr ⟨by decide,by decide⟩,⟨by decide,by decide,by decide⟩,by decide,.inr ?_,hR _⟩;have h0:=XA (v*69621) (show (2 ^ ZP 61-1:Int)≠0 by decide);have h1:=Yf (v*69621) (show (0:Int)<2 ^ ZP 61-1 by decide);have h2:(2 ^ ZP 61-1:Int)<2 ^ 64:=by decide
  exact⟨Int.lt_of_lt_of_le (by decide) h0,Int.lt_trans h1 h2⟩
end
section
variable {Γ:Gm}{M:Mem}{R:Dt->Mem->Prop}
def Rw.Full:Rw->Prop
 | .table w ls=>ls=[]->w=0
 | _=>True
noncomputable def Bi:Rw->Nat | .row _=>0 | .af _=>1 | .table _ _=>2
noncomputable def rws (t:Nat):Str:=match t with | 0 => "row" | 1 => "forest" | _ => "table"
theorem Bj {r:Rw}{k:Dt->Prop} (h:k (.str (rws (Bi r)))):jM (aB r) 0 k:=by
 cases r<;>exact⟨_,rfl,h⟩
theorem dB {r:Rw}{w:Str}{a b:Prop} (e:rws (Bi r)=w) (y:a):jM (aB r) 0 fun x=>tU x (.str w) fun c=>if c=true then a else b:=Bj (bH (f_ e) y)
theorem cL (t:Nat) {r:Rw}{w:Str}{a b:Prop} (e:¬ rws t=w) (h:Bi r=t) (n:b):jM (aB r) 0 fun x=>tU x (.str w) fun c=>if c=true then a else b:=Bj (by
 have e:¬ rws (Bi r)=w:=by rw[h];exact e
 exact bA (by rw[g_ e];decide) n)
def kH (p:cP):Prop:=∀ (r:Rw) M R,R (.int r.many) M->p [aB r] M R
theorem lK {r:Rw} (hR:R (.int r.many) M):Fn Γ cW [.sh (aB r)] M R:=by
 unfold cW
 cases r with
 | row zs =>
  symm;refine cL 0 (by decide +kernel) rfl ?_;left;refine⟨_,rfl,?_⟩;and_intros;rw[a_];exact hR
 | af ns =>
  symm;refine cL 1 (by decide +kernel) rfl ?_;left;refine⟨_,rfl,?_⟩;and_intros;rw[a_];exact hR
 | table w ls =>
  symm;refine dB rfl ?_;right;refine⟨_,rfl,?_⟩;and_intros;refine⟨_,rfl,?_⟩;and_intros;rw[a_,←XZ];exact hR
def Bl (p:cP):Prop:=∀ (r:Rw) M R,r.Ok->r.Full->R (bJ r) M->p [aB r] M R
theorem uG (Vs:A8 (Γ.bj 17)) (Vt:oj (Γ.bj 18)) (Vu:sn (Γ.bj 19)) {r:Rw} (o:r.Ok) (hf:r.Full) (hR:R (bJ r) M):Fn Γ iu [.sh (aB r)] M R:=by
 unfold iu
 cases r with
 | row zs =>
  symm;refine dB rfl ?_;refine sqo fun N2 hN2=>?_
  exact⟨_,rfl,Vs _ _ _ o hR⟩
 | af ns =>
  symm;refine cL 1 (by decide +kernel) rfl ?_;left;refine dB rfl ?_;refine sqo fun N2 hN2=>?_
  exact⟨_,rfl,Vt _ _ _ o hR⟩
 | table w ls =>
  symm;refine cL 2 (by decide +kernel) rfl ?_;left;refine cL 2 (by decide +kernel) rfl ?_;left;refine⟨_,rfl,?_⟩;and_intros;have o:aU w ls:=o;refine⟨by rw[a_];exact sz (by have:=o.len;lia),comp_map id (fun x hx K hK=>?_) ?_⟩
  ·obtain⟨l,hl,rfl⟩:=x_.mp hx;exact hK
  ·rw[List.map_id];refine Vu w ls _ _ o ?_;by_cases e:ls=[]
   ·rw[u_ e];have:=hf e;subst this;exact hR
   ·rw[p_ e];exact hR
def qS (p:cP):Prop:=∀ (c:Int) (m:Nat) M R,m<=900->(∀ ps:List Int,placesOk 0 m ps->R (.lst (ps.map .int)) M)->p [.int c,.int m] M R
theorem oF:∀ {lo m:Int}{ps qs:List Int},placesOk lo m ps->List.Sublist qs ps->placesOk lo m qs:=by
 intro lo m ps qs h s;rw[dH] at h ⊢;exact⟨fun p hp=>h.1 p (s.subset hp),h.2.sublist s⟩
theorem oG {n:Nat}:bI 0 n=(SH.upTo n).map .int:=by unfold bI SH.upTo;rw[L_];rfl
theorem oH {g:Dt->k_ Dt} (hg:∀ i:Int,g (.int i)=some (.int i)∨g (.int i)=none):∀ ps:List Int,∃ qs:List Int,List.Sublist qs ps/\(ps.map Dt.int).filterMap g=qs.map .int
 | []=>⟨[],.slnil,rfl⟩
 | p::ps=>by
  obtain⟨qs,h1,h2⟩:=oH hg ps;rw[o_,Ww,h2];rcases hg p with e | e
  ·exact⟨p::qs,h1.cons₂ p,by rw[e];rfl⟩
  ·exact⟨qs,h1.cons p,by rw[e]⟩
noncomputable def l8 (P:Int->Bool):Dt->k_ Dt
 | .int i=>if P i=true then some (.int i) else none
 | _=>none
theorem uH (P:Int->Bool) (i:Int):l8 P (.int i)=some (.int i)∨l8 P (.int i)=none:=by
 show (if P i=true then _ else _)=_∨(if P i=true then _ else _)=_;by_cases e:P i=true
 ·exact .inl (u_ e)
 ·exact .inr (p_ e)
theorem oI {c:Int}{m:Nat} (hm:m<=900) (hR:∀ ps:List Int,placesOk 0 m ps->R (.lst (ps.map .int)) M):Fn Γ eo [.sh (.int c),.sh (.int m),.no] M R:=by
 unfold eo
 have fin:∀ P:Int->Bool,R (.lst ((bI 0 m).filterMap (l8 P))) M:=fun P=>by
  obtain⟨qs,h1,h2⟩:=oH (uH P) (SH.upTo m);rw[oG,h2];exact hR qs (oF (rH m) h1)
 symm;refine⟨by decide,?_⟩;by_cases e:c % 2=1
 ·refine bH (f_ e) ?_;right;refine⟨⟨by lia,by lia⟩,by rw[aj];exact sz (by lia),bD (l8 fun i=>decide (c / 2 / 2 ^ i.toNat % 2=1)) (fun x hx K hK=>?_) (fin _)⟩;obtain⟨i,hi⟩:=V_.mp hx;obtain⟨_,rfl⟩:=aA hi;rw[Wt] at hK ⊢;and_intros;refine⟨⟨by decide,by decide⟩,by lia,by decide,?_⟩;have hK:K (if decide (c / 2 / 2 ^ ((i:Int)).toNat % 2=1)=true then some (.int i) else none) M:=hK;by_cases e1:c / 2 / 2 ^ ((i:Int)).toNat % 2=1
  ·rw[u_ (f_ e1)] at hK;exact bH (f_ e1) hK
  ·rw[p_ (by rw[g_ e1];decide)] at hK;exact bA (by rw[g_ e1];decide) hK
 ·refine bA (by rw[g_ e];decide) ?_;left;refine⟨⟨by decide,by decide⟩,?_⟩;generalize c / 2=c2;left;refine⟨⟨by decide,by decide,by decide⟩,by decide,.inr ⟨by decide,by decide⟩,by decide,?_⟩;generalize (c2 % 10 ^ ZP 12+3)*69621 % 2147483647=mk;left;refine⟨by decide,?_⟩;by_cases e3:c2 % 3=0
  ·refine bH (f_ e3) ?_;right;refine⟨⟨by lia,by lia⟩,by lia,?_⟩;rw[n_,oG];exact hR _ (rH m)
  ·refine bA (by rw[g_ e3];decide) ?_;left;refine⟨⟨by lia,by lia⟩,by rw[aj];exact sz (by lia),bD (l8 fun i=>decide (0<mk / 2 ^ (i % 23).toNat % 4)) (fun x hx K hK=>?_) (fin _)⟩;obtain⟨i,hi⟩:=V_.mp hx;obtain⟨_,rfl⟩:=aA hi;rw[Wt] at hK ⊢;and_intros;refine⟨by decide,XA _ (by decide),by decide,?_⟩;have hK:K (if decide (0<mk / 2 ^ ((i:Int) % 23).toNat % 4)=true then some (.int i) else none) M:=hK;by_cases e1:0<mk / 2 ^ ((i:Int) % 23).toNat % 4
   ·rw[u_ (f_ e1)] at hK;exact bH (f_ e1) hK
   ·rw[p_ (by rw[g_ e1];decide)] at hK;exact bA (by rw[g_ e1];decide) hK
theorem DF {xs:List Dt}{a b:Nat}{i j:Int} (hi:i=(a:Int)) (hj:j=(b:Int)) (hb:b<=xs.length) (BI:a<=b):cutD xs (some i) (some j)=(xs.drop a).take (b-a):=by
 subst hi hj;unfold cutD;rw[HT.mS,HT.mS,XY hb,XY (by lia)]
theorem oJ {w:Nat}:∀ {ds:List Dt},(∀ d∈ds,∃ l:List Str,d=aT l/\l.length=w/\∀ z∈l,ay z=true)->∃ ls:List (List Str),ds=ls.map aT/\(∀ l∈ls,l.length=w)/\∀ l∈ls,∀ z∈l,ay z=true
 | [],_=>⟨[],rfl,fun _ z=>(nomatch z),fun _ z=>nomatch z⟩
 | d::ds,h=>by
  obtain⟨l,rfl,h1,h2⟩:=h d (by simp);obtain⟨ls,rfl,h3,h4⟩:=oJ (ds:=ds) fun e he=>h e (by simp [he])
  refine⟨l::ls,rfl,fun m hm=>?_,fun m hm=>?_⟩
  ·rcases t_.mp hm with rfl | hm;exact h1;exact h3 m hm
  ·rcases t_.mp hm with rfl | hm;exact h2;exact h4 m hm
theorem uI {ws:List Str}{w d k:Nat} (hl:ws.length=w*d) (hk:k<d) (hz:∀ z∈ws,ay z=true):∃ l:List Str,Dt.lst (cutD (ws.map .str) (some ((w:Int)*(k:Int))) (some ((w:Int)*(k:Int)+(w:Int))))=aT l/\l.length=w/\∀ z∈l,ay z=true:=by
 have hle:w*k+w<=ws.length:=by
  rw[hl,←Nat.mul_succ];exact ZK w hk
 refine⟨(ws.drop (w*k)).take w,?_,by rw[Wp,XJ];lia,fun z Gu=>hz z (aa_ (WQ Gu))⟩;rw[DF (a:=w*k) (b:=w*k+w) (by rw[ZG]) (by rw[XZ,ZG]) (by rw[a_];exact hle) (by lia),Nat.add_sub_cancel_left,←abu,←Zs];rfl
def EL (p:cP) (ds:List Dt):Prop:=∀ M R,(∀ r:Rw,r.Ok->r.Full->R (aB r) M)->p ds M R
def kI (p:cP):Prop:=∀ (c:Int) (zs:List Str),fL zs->EL p [.int c,.lst (zs.map .str)]
def uJ (p:cP):Prop:=∀ (ns:List Int) (f:Nat) (zs:List Str),fL zs->EL p [iU ns,.int f,.lst (zs.map .str)]
theorem pU (oh:cY (Γ.fn 12)) (Rv:qR (Γ.fn 14)) (Jo:uF (Γ.fn 15)) (Vv:l7 (Γ.fn 16)) (Ry:Bh (Γ.fn 17)) (Vw:kI (Γ.fn 18)) {ns:List Int}{f:Nat}{zs:List Str} (hz:fL zs) (hR:∀ r:Rw,r.Ok->r.Full->R (aB r) M):Fn Γ fm [.sh (iU ns),.sh (.int f),.sh (.lst (zs.map .str)),.no,.no,.no,.no,.no] M R:=by
 unfold fm;symm;refine oh _ _ _ _ (by lia) fun h=>?_
 left;refine⟨by decide,?_⟩;by_cases e:h % 2=1
 ·refine bH (f_ e) ?_;right;exact⟨⟨by decide,by decide⟩,Ry _ _ _ fun c=>Vw c zs hz _ _ hR⟩
 refine bA (by rw[g_ e];decide) ?_;left;refine⟨⟨by decide,by decide⟩,?_⟩;generalize h / 2=h2;left;refine⟨⟨by decide,by decide⟩,Rv _ _ _ fun m hm=>?_⟩;left;refine⟨by decide,?_⟩;have f1:(f:Int)+1=((f+1:Nat):Int):=by lia
 by_cases e0:h2 % 3=0
 ·refine bH (f_ e0) ?_;right;rw[f1];exact Jo _ _ _ _ _ _ (by lia) hz fun ws hw wq=>⟨sz (by simp),hR (.row ws) ⟨wq,by lia⟩ WV⟩
 refine bA (by rw[g_ e0];decide) ?_;left;refine⟨by decide,?_⟩;by_cases e1:h2 % 3=1
 ·refine bH (f_ e1) ?_;right;rw[f1];exact Jo _ _ _ _ _ _ (by lia) hz fun ws hw wq=>Vv _ _ _ _ _ (by lia) wq fun ps o=>hR (.af ps) o WV
 refine bA (by rw[g_ e1];decide) ?_;left;refine⟨⟨by decide,by decide⟩,by decide,?_⟩;left;refine⟨by decide,?_⟩;subst hN;refine sqo fun N hN=>?_
 have tail:∀ w d:Nat,w<=12->d<=12->N [.sh (iU ns),.sh (.int f),.sh (.lst (zs.map .str)),.sh (.int h2),.sh (.int m),.sh (.int w),.sh (.int d),.no] M:=fun w d hw hd=>by
  rw[hN];refine sqo fun N3 cQ=>?_
  and_intros;refine⟨.inl ⟨by lia,by lia⟩,?_⟩;rw[f1,←ZG];have Tc:w*d<=12*12:=ZZ hw hd;refine Jo _ _ _ _ _ _ (by lia) hz fun ws hl wq=>?_
  subst cQ;refine sqo fun N3 cQ=>?_
  and_intros;refine⟨.inl ⟨by lia,by lia⟩,⟨by lia,by lia⟩,by rw[aj];exact sz (by lia),?_⟩;refine iF (P:=fun x=>∃ l:List Str,x=aT l/\l.length=w/\∀ z∈l,ay z=true) (fun x hx K hK=>?_) fun ds yP hP=>?_
  ·obtain⟨k,qK⟩:=V_.mp hx;obtain⟨hk,rfl⟩:=aA qK;rw[n_] at hk;rw[Wt];and_intros;exact⟨.inl ⟨by lia,by lia⟩,.inl ⟨by lia,by lia⟩,hK _ (uI hl hk wq)⟩
  ·obtain⟨ls,rfl,h3,h4⟩:=oJ hP;rw[a_,aj,n_] at yP;refine⟨sz (by simp),?_⟩
   have e5:((w:Int)*if decide (0<(d:Int))=true then 1 else 0)=((if d=0 then 0 else w:Nat):Int):=by
    by_cases h0:d=0
    ·rw[u_ h0,p_ (by rw[h0];decide),ab4];rfl
    ·rw[p_ h0,u_ (f_ (by lia)),Z2]
   rw[e5];refine hR (.table (if d=0 then 0 else w) ls) ⟨by lia,by split<;>lia,fun l hl=>?_,h4⟩ fun e=>?_
   ·rw[p_ (by have:=Zd hl;lia)];exact h3 l hl
   ·rw[u_ (by rw[e] at yP;exact yP.symm)]
 and_intros;obtain⟨a,ea,ha⟩:=aX (h2 / 48) (show (0:Int)<5 by decide);obtain⟨b,eb,hb⟩:=aX (m:Int) (show (0:Int)<6 by decide);obtain⟨a',Vx,SK⟩:=aX (h2 / 48) (show (0:Int)<8 by decide);obtain⟨b',Vy,F7⟩:=aX (h2 / 384) (show (0:Int)<9 by decide);rw[ea,eb];by_cases e9:(9:Int)<m
 ·refine bH (f_ e9) ?_;refine sqo fun N3 cQ=>?_
  and_intros;refine⟨⟨by decide,by decide⟩,by decide,?_⟩;subst cQ;refine sqo fun N3 cQ=>?_
  and_intros;refine⟨⟨by decide,by decide⟩,by decide,?_⟩;subst cQ;rw[Vx,Vy,show (1:Int)+(a':Int)=((1+a':Nat):Int) by lia];exact tail _ _ (by lia) (by lia)
 ·refine bA (by rw[g_ e9];decide) (tail _ _ (by lia) (by lia))
theorem kJ {c:Int}{zs:List Str} (hz:fL zs) (hR:∀ r:Rw,r.Ok->r.Full->R (aB r) M):Fn Γ cE [.sh (.int c),.sh (.lst (zs.map .str)),.no,.no,.no,.no,.no,.no,.no,.no] M R:=by
 unfold cE;obtain⟨z4,OW,hz⟩:=hz;obtain⟨k,ek,hk⟩:=aX (c / 3) (show (0:Int)<10 by decide);obtain⟨w,ew,hw⟩:=aX (c / 30) (show (0:Int)<5 by decide);obtain⟨d,ed,hd⟩:=aX (c / 150) (show (0:Int)<5 by decide);symm;refine⟨⟨by decide,by decide⟩,by decide,?_⟩;rw[ek];left;refine⟨⟨by decide,by decide⟩,by decide,?_⟩;rw[ew];left;refine⟨⟨by decide,by decide⟩,by decide,?_⟩;rw[ed];left;refine⟨⟨by decide,by decide⟩,?_⟩;generalize c / 750=r0;subst hN;refine sqo fun N hN=>?_
 have Tc:w*d<=4*4:=ZZ (by lia) (by lia)
 have main:∀ m:Nat,m<=16->(c % 3=2->m=w*d)->(¬ c % 3=2->m<=9)->N [.sh (.int c),.sh (.lst (zs.map .str)),.sh (.int m),.sh (.int w),.sh (.int d),.sh (.int r0),.no,.no,.no,.no] M:=fun m Rz m2 m9=>by
  rw[hN];refine sqo fun N3 cQ=>?_
  and_intros;refine⟨sz (by simp),?_⟩;subst cQ;refine sqo fun N3 cQ=>?_
  and_intros;refine⟨⟨by lia,by lia⟩,?_⟩;refine ax (fun i ρ M'=>M'=M/\∃ ws:List Str,ws.length=i/\(∀ z∈ws,ay z=true)/\∃ (r:Int) (o7:Sl),ρ=[.sh (.int c),.sh (.lst (zs.map .str)),.sh (.int m),.sh (.int w),.sh (.int d),.sh (.int r),.ow (.lst (ws.map .str)),o7,.no,.no]) ⟨rfl,[],rfl,fun _ z=>(nomatch z),_,_,rfl⟩ ?_ ?_
  ·rintro i x ρ M' N' hx ⟨rfl,ws,hl,wq,r,o7,rfl⟩ eJ;obtain⟨hi,rfl⟩:=aA hx;rw[n_] at hi;and_intros;refine sqo fun N4 i7=>?_
   and_intros;rw[a_];obtain⟨q,eq,hq⟩:=aX r (show (0:Int)<(zs.length:Nat) by lia);rw[eq];refine⟨by lia,.str (atS zs q),K18.dq (by lia) (by lia),by rw[a_];exact uE (by lia),?_⟩;subst i7;refine sqo fun N4 i7=>?_
   and_intros;rw[a_];refine⟨⟨by lia,by lia⟩,?_⟩;subst i7;rw[show ws.map Dt.str++[Dt.str (atS zs q)]=(ws++[atS zs q]).map .str by rw[I_];rfl];refine eJ _ _ ⟨rfl,ws++[atS zs q],by simp [hl],fun z Gu=>?_,_,_,rfl⟩;rcases U_.mp Gu with h | h
   ·exact wq z h
   ·rw[D_.mp h];exact hz _ (getD_mem (by lia))
  ·rintro ρ M' ⟨rfl,ws,hl,wq,r,o7,rfl⟩;rw[aj,n_] at hl;subst cQ;refine sqo fun N3 cQ=>?_
   and_intros;refine⟨by decide,?_⟩;by_cases e0:c % 3=0
   ·refine bH (f_ e0) ?_;refine sqo fun N4 i7=>?_
    and_intros;subst i7;refine sqo fun N4 i7=>?_
    exact⟨sz (by simp),hR (.row ws) ⟨wq,by lia⟩ WV⟩
   refine bA (by rw[g_ e0];decide) ?_;subst cQ;refine sqo fun N3 cQ=>?_
   and_intros;refine⟨by decide,?_⟩;by_cases e2:c % 3=2
   ·refine bH (f_ e2) ?_;refine sqo fun N4 i7=>?_
    and_intros;subst i7;refine sqo fun N4 i7=>?_
    and_intros;have hl:=hl.trans (m2 e2);refine⟨.inl ⟨by lia,by lia⟩,⟨by lia,by lia⟩,by rw[aj];exact sz (by lia),?_⟩;refine iF (P:=fun x=>∃ l:List Str,x=aT l/\l.length=w/\∀ z∈l,ay z=true) (fun x hx K hK=>?_) fun ds yP hP=>?_
    ·obtain⟨k,qK⟩:=V_.mp hx;obtain⟨hk,rfl⟩:=aA qK;rw[n_] at hk;rw[Wt];and_intros;exact⟨.inl ⟨by lia,by lia⟩,.inl ⟨by lia,by lia⟩,hK _ (uI hl hk wq)⟩
    ·obtain⟨ls,rfl,h3,h4⟩:=oJ hP;rw[a_,aj,n_] at yP;refine⟨sz (by simp),?_⟩
     have e5:((w:Int)*if decide (0<(d:Int))=true then 1 else 0)=((if d=0 then 0 else w:Nat):Int):=by
      by_cases h0:d=0
      ·rw[u_ h0,p_ (by rw[h0];decide),ab4];rfl
      ·rw[p_ h0,u_ (f_ (by lia)),Z2]
     rw[e5];refine hR (.table (if d=0 then 0 else w) ls) ⟨by lia,by split<;>lia,fun l hl=>?_,h4⟩ fun e=>?_
     ·rw[p_ (by have:=Zd hl;lia)];exact h3 l hl
     ·rw[u_ (by rw[e] at yP;exact yP.symm)]
   refine bA (by rw[g_ e2];decide) ?_;have m9:=m9 e2;subst cQ;refine sqo fun N3 cQ=>?_
   and_intros;refine⟨sz (by simp),?_⟩;subst cQ;refine sqo fun N3 cQ=>?_
   and_intros;subst cQ;refine sqo fun N3 cQ=>?_
   and_intros;refine⟨⟨by lia,by lia⟩,?_⟩;refine ax (fun i ρ Bm=>Bm=M'/\∃ (ps:List Nd) (rm:Nat),ps.length=i/\aQ 0 ps/\1<=rm/\rm<=i+1/\(rm:Int)-1<=aM 0 ps/\∃ (r:Int) (o7:Sl),ρ=[.sh (.int c),.sh (.lst (zs.map .str)),.sh (.int m),.sh (.int w),.sh (.int d),.sh (.int r),.ow (.lst (ws.map .str)),o7,.ow (.lst (ps.map aF)),.sh (.int rm)]) ⟨rfl,[],1,rfl,WV,by lia,by lia,by show (1:Int)-1<=0;lia,_,_,rfl⟩ ?_ ?_
   ·rintro i x ρ Bm N' hx ⟨rfl,ps,rm,hp,ho,r1,r2,r3,r,o7,rfl⟩ eJ;obtain⟨hi,rfl⟩:=aA hx;rw[n_] at hi;rw[Wt];obtain⟨z,Jh⟩:∃ z,ws[i]? = some z:=⟨_,c_ (by lia)⟩;obtain⟨q,eq,hq⟩:=aX r (show (0:Int)<(rm:Int) by lia);have hm:=wq z (y_ Jh);and_intros;refine sqo fun N4 i7=>?_
    and_intros;rw[eq];refine⟨.str z,aN (by rw[h_,Jh];rfl),by lia,sz (by simp),by rw[a_];exact uE (by lia),?_⟩;subst i7;refine sqo fun N4 i7=>?_
    and_intros;refine⟨⟨by lia,by lia⟩,?_⟩;subst i7;refine sqo fun N4 i7=>?_
    and_intros;refine⟨.tup [.str z,.int q],jX _ _,_,rfl,?_⟩;and_intros;subst i7;rw[show ps.map aF++[Dt.tup [.str z,.int q]]=(ps++[((z,(q:Int)):Nd)]).map aF by rw[I_];rfl,show (q:Int)+2=((q+2:Nat):Int) by lia];refine eJ _ _ ⟨rfl,ps++[(z,(q:Int))],q+2,by simp [hp],aV.mpr ⟨ho,hm,by show (0:Int)<=q;lia,by show (q:Int)<=_;lia,WV⟩,by lia,by lia,?_,_,_,rfl⟩;rw[bg];show ((q+2:Nat):Int)-1<=min ((q:Int)+1) 12
    lia
   ·rintro ρ Bm ⟨rfl,ps,rm,hp,ho,r1,r2,r3,r,o7,rfl⟩;rw[aj,n_] at hp;subst cQ;refine sqo fun N3 cQ=>?_
    and_intros;subst cQ;refine sqo fun N3 cQ=>?_
    exact⟨sz (by simp),hR (.af ps) ⟨ho,by lia⟩ WV⟩
 and_intros;refine⟨by decide,?_⟩;by_cases e2:c % 3=2
 ·refine bH (f_ e2) ?_;refine sqo fun N3 cQ=>?_
  and_intros;refine⟨.inl ⟨by lia,by lia⟩,?_⟩;subst cQ;rw[←ZG];exact main _ Tc (fun _=>rfl) (fun h=>absurd e2 h)
 ·refine bA (by rw[g_ e2];decide) (main k (by lia) (fun h=>absurd h e2) (fun _=>by lia))
end
section
variable {Γ:Gm}{M:Mem}{R:Dt->Mem->Prop}
noncomputable def EM:Rw->Nat->Int
 | .row _,_=>0
 | .af ns,k=>(ns.getD k ("",0)).2
 | .table w _,k=>((k / w:Nat):Int)
noncomputable def OX:Rw->Nat->Int
 | .row _,k=>k
 | .af _,k=>k
 | .table w _,k=>((k % w:Nat):Int)
noncomputable def pW (r:Rw) (k:Nat):Dt:=.tup [.str (r.names.getD k ""),.int (EM r k),.int (OX r k)]
noncomputable def bN (r:Rw):List Dt:=(Wv r.names.length).map (pW r)
theorem oK {r:Rw}{i:Nat}:(Wv i).map (pW r)++[pW r i]=(Wv (i+1)).map (pW r):=by rw[aaN,I_];rfl
theorem j3 {w:Nat}:∀ {ls:List (List Str)},(∀ l∈ls,l.length=w)->ls.flatten.length=ls.length*w
 | [],_=>by simp
 | l::ls,h=>by rw[Y9,F_,h l (by simp),j3 fun m hm=>h m (by simp [hm]),G_,Nat.add_mul,Nat.one_mul,ab3]
def di (p:cP):Prop:=∀ (r:Rw) M R,r.Ok->R (.lst (bN r)) M->p [aB r] M R
theorem sy {r:Rw} (o:r.Ok) (hR:R (.lst (bN r)) M):Fn Γ gu [.sh (aB r),.no,.no,.no,.no] M R:=by
 unfold gu;symm;refine⟨sz (by simp),?_⟩
 cases r with
 | row zs =>
  have EG:zs.length<=40:=o.2;left;refine dB rfl ?_;right;refine⟨_,rfl,?_⟩;and_intros;rw[a_];refine⟨⟨by lia,by lia⟩,?_⟩;refine ax (fun i ρ M'=>M'=M/\∃ o2,ρ=[.sh (aB (.row zs)),.ow (.lst ((Wv i).map (pW (.row zs)))),o2,.no,.no]) ⟨rfl,_,rfl⟩ ?_ ?_
  ·rintro i x ρ M' N' hx ⟨rfl,o2,rfl⟩ eJ;obtain⟨hi,rfl⟩:=aA hx;rw[n_] at hi;rw[Wt];and_intros;refine sqo fun N3 cQ=>?_
   and_intros;refine⟨_,rfl,?_⟩;refine⟨_,K18.dq (by lia) (by lia),sz (by simp),by rw[a_,Wu];exact uE (by lia),?_⟩;subst cQ;have e:Dt.tup [.str (atS zs i),.int 0,.int i]=pW (.row zs) i:=rfl;rw[e,oK];exact eJ _ _ ⟨rfl,_,rfl⟩
  ·rintro ρ M' ⟨rfl,o2,rfl⟩;rw[aj,n_];subst hN2;show N _ _;left;refine cL 0 (by decide +kernel) rfl ?_;left;refine cL 0 (by decide +kernel) rfl ?_;left;left;exact hR
 | af ns =>
  have EG:ns.length<=40:=o.2;left;refine cL 1 (by decide +kernel) rfl ?_;left;refine dB rfl ?_;right;refine⟨_,rfl,?_⟩;and_intros;rw[a_];refine⟨⟨by lia,by lia⟩,?_⟩;refine ax (fun i ρ M'=>M'=M/\∃ o2,ρ=[.sh (aB (.af ns)),.ow (.lst ((Wv i).map (pW (.af ns)))),o2,.no,.no]) ⟨rfl,_,rfl⟩ ?_ ?_
  ·rintro i x ρ M' N' hx ⟨rfl,o2,rfl⟩ eJ;obtain⟨hi,rfl⟩:=aA hx;rw[n_] at hi;rw[Wt];obtain⟨n,hn⟩:∃ n,ns[i]? = some n:=⟨_,c_ hi⟩;have wu:∀ {k:Dt->Prop},k (aF n)->jM (.lst (ns.map aF)) i k:=fun h=>⟨aF n,aN (by rw[h_,hn];rfl),h⟩
   and_intros;refine sqo fun N3 cQ=>?_
   and_intros;refine⟨_,rfl,wu (DD ⟨_,rfl,wu (um ⟨sz (by simp),by rw[a_,Wu];exact uE (by lia),?_⟩)⟩)⟩;subst cQ
   have e:Dt.tup [.str n.1,.int n.2,.int i]=pW (.af ns) i:=by
    show _=Dt.tup [.str ((Rw.af ns).names.getD i ""),.int (ns.getD i ("",0)).2,.int i];rw[getD_some hn,getD_some (show (Rw.af ns).names[i]? = some n.1 by show (ns.map _)[i]? = _;rw[h_,hn];rfl)]
   rw[e,oK];exact eJ _ _ ⟨rfl,_,rfl⟩
  ·rintro ρ M' ⟨rfl,o2,rfl⟩;rw[aj,n_];subst hN2;show N _ _;left;refine cL 1 (by decide +kernel) rfl ?_;left;subst hN;refine sqo fun N hN=>?_
   unfold bN at hR;rw[show (Rw.af ns).names.length=ns.length from a_ _] at hR;exact hR
 | table w ls =>
  have o:aU w ls:=o;have o1:=o.len;have o2:=o.BR;left;refine cL 2 (by decide +kernel) rfl ?_;left;refine cL 2 (by decide +kernel) rfl ?_;left;refine dB rfl ?_;right;refine⟨_,rfl,?_⟩;and_intros;rw[a_];refine⟨⟨by lia,by lia⟩,?_⟩;refine ax (fun i ρ M'=>M'=M/\∃ o3 o4,ρ=[.sh (aB (.table w ls)),.ow (.lst ((Wv (i*w)).map (pW (.table w ls)))),.no,o3,o4]) ⟨rfl,_,_,by rw[Nat.zero_mul];rfl⟩ ?_ ?_
  ·rintro i x ρ M' N' hx ⟨rfl,o3,o4,rfl⟩ eJ;obtain⟨hi,rfl⟩:=aA hx;rw[n_] at hi;rw[Wt];obtain⟨l,hl⟩:∃ l,ls[i]? = some l:=⟨_,c_ hi⟩;have hw:=o.jO l (y_ hl);and_intros;refine sqo fun N3 cQ=>?_
   and_intros;refine⟨_,rfl,?_⟩;and_intros;refine⟨⟨by lia,by lia⟩,?_⟩;refine ax (fun j ρ Bm=>Bm=M'/\∃ o4,ρ=[.sh (aB (.table w ls)),.ow (.lst ((Wv (i*w+j)).map (pW (.table w ls)))),.no,.sh (.int i),o4]) ⟨rfl,_,rfl⟩ ?_ ?_
   ·rintro j x ρ Bm Wj tL ⟨rfl,o4,rfl⟩ RA;obtain⟨hj,rfl⟩:=aA tL;rw[n_] at hj;rw[Wt];have hp:0<w:=by lia
    have Wk:i*w<=12*12:=ZZ (by lia) (by lia);and_intros;refine sqo fun N4 i7=>?_
    and_intros;refine⟨_,rfl,?_⟩;refine⟨aT l,aN (by rw[h_,hl];rfl),?_⟩;refine⟨_,K18.dq (zs:=l) (by lia) (by lia),sz (by simp),by rw[a_,Wu];exact uE (by lia),?_⟩;subst i7;have q1:(i*w+j) / w=i:=by rw[aaE,ZF hp,YA hj,Ze]
    have q2:(i*w+j) % w=j:=by rw[Zn,YB hj]
    have e:Dt.tup [.str (atS l j),.int i,.int j]=pW (.table w ls) (i*w+j):=by
     have hg:l[j]? = some (l[j]'(by lia)):=c_ _;have hn:(Rw.table w ls).names[i*w+j]? = some (l[j]'(by lia)):=(b6 hp o.jO).mpr ⟨l,by rw[q1];exact hl,by rw[q2];exact hg⟩;show _=Dt.tup [.str ((Rw.table w ls).names.getD (i*w+j) ""),.int (((i*w+j) / w:Nat):Int),.int (((i*w+j) % w:Nat):Int)];rw[getD_some hn,q1,q2,sj hg]
    rw[e,oK];exact RA _ _ ⟨rfl,_,rfl⟩
   ·rintro ρ Bm ⟨rfl,o4,rfl⟩;rw[aj,n_];subst cQ;exact eJ _ _ ⟨rfl,_,_,by rw[Nat.add_mul,Nat.one_mul]⟩
  ·rintro ρ M' ⟨rfl,o3,o4,rfl⟩;rw[aj,n_];subst hN2;show N _ _;left;subst hN;refine sqo fun N hN=>?_
   unfold bN at hR;rw[show (Rw.table w ls).names.length=ls.length*w from j3 o.jO] at hR;exact hR
end
section
variable {Γ:Gm}{M:Mem}{R:Dt->Mem->Prop}
theorem cM {r:Rw}{i:Nat}{k:Dt->Prop} (hi:i<r.names.length) (h:k (pW r i)):jM (.lst (bN r)) i k:=⟨pW r i,aN (by unfold bN;rw[h_,Xm hi];rfl),h⟩
theorem uK {r:Rw}{i:Nat}{k:Dt->Prop} (h:k (.str (r.names.getD i ""))):jM (pW r i) 0 k:=⟨_,rfl,h⟩
theorem pX {r:Rw}{i:Nat}{k:Dt->Prop} (h:k (.int (EM r i))):jM (pW r i) 1 k:=⟨_,rfl,h⟩
theorem DG {r:Rw}{i:Nat}{k:Dt->Prop} (h:k (.int (OX r i))):jM (pW r i) 2 k:=⟨_,rfl,h⟩
theorem sA {x y:Int}{Q:Bool->Prop}:tU (.int x) (.int y) Q=Q (decide (x=y)):=rfl
theorem yQ {w i j:Nat} (hw:0<w):(i % w=j % w/\i / w<j / w)↔(i<j/\i % w=j % w):=by
 have e1:=XD i w;have e2:=XD j w;constructor
 ·rintro⟨h1,h2⟩;have:=Nat.mul_lt_mul_of_pos_left h2 hw;exact⟨by lia,h1⟩
 ·rintro⟨h1,h2⟩;refine⟨h2,?_⟩;rcases Xa (i / w) (j / w) with h | h
  ·exact h
  ·have:=ZK w h
   lia
theorem wv {w i j:Nat} (hw:0<w):(i / w=j / w/\i % w+1=j % w)↔(i<j/\j=i+1/\i / w=j / w):=by
 have e1:=XD i w;have e2:=XD j w;constructor
 ·rintro⟨h1,h2⟩;rw[←h1] at e2;exact⟨by lia,by lia,h1⟩
 ·rintro⟨h1,h2,h3⟩;rw[←h3] at e2;exact⟨h3,by lia⟩
theorem EN {w:Nat}{ls:List (List Str)}{i:Nat} (o:aU w ls) (hi:i<(Rw.table w ls).names.length):0<w:=w_pos o.jO (c_ hi)
def gJ (p:cP):Prop:=∀ (r:Rw) (i j:Nat) M R,r.Ok->i<r.names.length->j<r.names.length->(∀ c:Bool,(c=true↔i<j/\r.under i j)->R (.bl c) M)->p [aB r,.lst (bN r),.int i,.int j] M R
def gT (p:cP):Prop:=∀ (r:Rw) (i j:Nat) M R,r.Ok->i<r.names.length->j<r.names.length->(∀ c:Bool,(c=true↔i<j/\r.aK i j)->R (.bl c) M)->p [aB r,.lst (bN r),.int i,.int j] M R
theorem kK {r:Rw}{i j:Nat} (o:r.Ok) (hi:i<r.names.length) (hj:j<r.names.length) (hR:∀ c:Bool,(c=true↔i<j/\r.under i j)->R (.bl c) M):Fn Γ cF [.sh (aB r),.sh (.lst (bN r)),.sh (.int i),.sh (.int j),.no] M R:=by
 unfold cF
 cases r with
 | table w ls =>
  have hw:=EN o hi;symm;refine dB rfl ?_;right;refine cM hi (DG (cM hj (DG ?_)));rw[sA];by_cases e:OX (.table w ls) i=OX (.table w ls) j
  ·refine bH (f_ e) (cM hi (pX (cM hj (pX (hR _ ?_)))));have e:((i % w:Nat):Int)=((j % w:Nat):Int):=e;rw[Wq];show ((i / w:Nat):Int)<((j / w:Nat):Int)↔i<j/\i % w=j % w;rw[←yQ hw]
   lia
  ·refine bA (by rw[g_ e];decide) (hR _ ⟨fun z=>(nomatch z),fun⟨_,h⟩=>absurd ?_ e⟩);show ((i % w:Nat):Int)=((j % w:Nat):Int);have h:i % w=j % w:=h
   lia
 | row zs =>
  symm;refine cL 0 (by decide +kernel) rfl ?_;left;refine dB rfl ?_;refine sqo fun N2 hN2=>?_
  exact hR false ⟨fun z=>(nomatch z),fun⟨_,h⟩=>h.elim⟩
 | af ns =>
  have nl:(Rw.af ns).names.length=ns.length:=a_ _;have EG:ns.length<=40:=o.2;symm;refine cL 1 (by decide +kernel) rfl ?_;left;refine Bj ?_;rw[show tU (.str (rws (Bi (.af ns)))) (.str "row")=fun Q=>Q false from by funext Q;show Q (decide _)=Q false;rw[g_ (by show ¬ rws 1=_;decide +kernel)]];and_intros;by_cases e:(j:Int)<=i
  ·refine bH (f_ e) ?_;refine sqo fun N2 hN2=>?_
   exact hR false ⟨fun z=>(nomatch z),fun⟨h,_⟩=>by lia⟩
  refine bA (by rw[g_ e];decide) ?_;left;refine⟨⟨by lia,by lia⟩,⟨by lia,by lia⟩,?_⟩;refine eT (T:=R (.bl false) M) (fun ρ=>∃ o4,ρ=[.sh (aB (.af ns)),.sh (.lst (bN (.af ns))),.sh (.int i),.sh (.int j),o4]) (fun k=>i+1+k<=j/\(ns.getD (i+1+k) ("",0)).2<=(ns.getD i ("",0)).2) ⟨_,rfl⟩ ?_ ?_ ?_
  ·rintro k x hx ρ N' ⟨o4,rfl⟩ hy hn;obtain⟨hk,rfl⟩:=aA hx;rw[show (i:Int)+1+(k:Int)=((i+1+k:Nat):Int) by lia];and_intros;right;refine cM (by lia) (pX (cM hi (pX ?_)));show if decide ((ns.getD (i+1+k) ("",0)).2<=(ns.getD i ("",0)).2)=true then _ else _
   by_cases e1:(ns.getD (i+1+k) ("",0)).2<=(ns.getD i ("",0)).2
   ·refine bH (f_ e1) ?_;refine sqo fun N3 cQ=>?_
    exact hy ⟨by lia,e1⟩
   ·refine bA (by rw[g_ e1];decide) ?_;subst hN2;exact hn (fun h=>e1 h.2) _ ⟨_,rfl⟩
  ·rintro⟨k,h1,h2⟩;refine hR false ⟨fun z=>(nomatch z),fun⟨_,h⟩=>?_⟩;have:=h (i+1+k) (by lia) h1
   lia
  ·rintro gP ρ ⟨o4,rfl⟩;subst hN;refine sqo fun N hN=>?_
   refine hR true ⟨fun _=>⟨by lia,fun k h1 h2=>?_⟩,fun _=>rfl⟩;rcases Int.lt_or_le (ns.getD i ("",0)).2 (ns.getD k ("",0)).2 with h | h
   ·exact h
   ·refine absurd ⟨k-(i+1),?_,by lia,by rw[show i+1+(k-(i+1))=k by lia];exact h⟩ gP;rw[aj];lia
theorem iG {r:Rw}{i j:Nat} (o:r.Ok) (hi:i<r.names.length) (hj:j<r.names.length) (hR:∀ c:Bool,(c=true↔i<j/\r.aK i j)->R (.bl c) M):Fn Γ bY [.sh (aB r),.sh (.lst (bN r)),.sh (.int i),.sh (.int j),.no] M R:=by
 unfold bY
 cases r with
 | table w ls =>
  have hw:=EN o hi;symm;refine dB rfl ?_;right;refine cM hi (pX (cM hj (pX ?_)));rw[sA];have bt:=wv (i:=i) (j:=j) hw;by_cases e:EM (.table w ls) i=EM (.table w ls) j
  ·refine bH (f_ e) (cM hi (DG ?_));and_intros;refine cM hj (DG (hR _ ?_));have e:((i / w:Nat):Int)=((j / w:Nat):Int):=e;rw[Wq];show ((i % w:Nat):Int)+1=((j % w:Nat):Int)↔i<j/\j=i+1/\i / w=j / w;rw[←bt]
   lia
  ·refine bA (by rw[g_ e];decide) (hR _ ⟨fun z=>(nomatch z),fun⟨_,_,h⟩=>absurd ?_ e⟩);show ((i / w:Nat):Int)=((j / w:Nat):Int)
   lia
 | row zs =>
  symm;refine cL 0 (by decide +kernel) rfl ?_;left;refine dB rfl ?_;right;refine hR _ ?_;rw[Wq];show (i:Int)+1=(j:Int)↔i<j/\j=i+1
  lia
 | af ns =>
  have nl:(Rw.af ns).names.length=ns.length:=a_ _;have EG:ns.length<=40:=o.2;symm;refine cL 1 (by decide +kernel) rfl ?_;left;refine cL 1 (by decide +kernel) rfl ?_;left;by_cases e:(j:Int)<=i
  ·refine bH (f_ e) ?_;refine sqo fun N2 hN2=>?_
   exact hR false ⟨fun z=>(nomatch z),fun⟨h,_⟩=>by lia⟩
  refine bA (by rw[g_ e];decide) (cM hi (pX (cM hj (pX ?_))));rw[sA];by_cases e1:(ns.getD i ("",0)).2=(ns.getD j ("",0)).2
  ·refine bA (by rw[show EM (.af ns) i=EM (.af ns) j from e1,f_ rfl];decide) ?_;left;refine⟨⟨by lia,by lia⟩,⟨by lia,by lia⟩,?_⟩;refine eT (T:=R (.bl false) M) (fun ρ=>∃ o4,ρ=[.sh (aB (.af ns)),.sh (.lst (bN (.af ns))),.sh (.int i),.sh (.int j),o4]) (fun k=>i+1+k<j/\(ns.getD (i+1+k) ("",0)).2<=(ns.getD i ("",0)).2) ⟨_,rfl⟩ ?_ ?_ ?_
   ·rintro k x hx ρ N' ⟨o4,rfl⟩ hy hn;obtain⟨hk,rfl⟩:=aA hx;rw[show (i:Int)+1+(k:Int)=((i+1+k:Nat):Int) by lia];and_intros;right;refine cM (by lia) (pX (cM hi (pX ?_)));show if decide ((ns.getD (i+1+k) ("",0)).2<=(ns.getD i ("",0)).2)=true then _ else _
    by_cases e2:(ns.getD (i+1+k) ("",0)).2<=(ns.getD i ("",0)).2
    ·refine bH (f_ e2) ?_;refine sqo fun N3 cQ=>?_
     exact hy ⟨by lia,e2⟩
    ·refine bA (by rw[g_ e2];decide) ?_;subst hN2;exact hn (fun h=>e2 h.2) _ ⟨_,rfl⟩
   ·rintro⟨k,h1,h2⟩;refine hR false ⟨fun z=>(nomatch z),fun⟨_,_,h⟩=>?_⟩;have:=h (i+1+k) (by lia) h1
    lia
   ·rintro gP ρ ⟨o4,rfl⟩;subst hN;refine sqo fun N hN=>?_
    refine hR true ⟨fun _=>⟨by lia,e1,fun k h1 h2=>?_⟩,fun _=>rfl⟩;rcases Int.lt_or_le (ns.getD i ("",0)).2 (ns.getD k ("",0)).2 with h | h
    ·exact h
    ·refine absurd ⟨k-(i+1),?_,by lia,by rw[show i+1+(k-(i+1))=k by lia];exact h⟩ gP;rw[aj];lia
  ·refine bH (by rw[g_ (show ¬ EM (.af ns) i=EM (.af ns) j from e1)];decide) ?_;refine sqo fun N2 hN2=>?_
   exact hR false ⟨fun z=>(nomatch z),fun⟨_,h,_⟩=>absurd h e1⟩
end
section
variable {Γ:Gm}{M:Mem}{R:Dt->Mem->Prop}
noncomputable def bv (zs:List Str) (a:Str):List Nat:=(Wv zs.length).filter fun k=>decide (zs.getD k "" = a)
theorem aR {zs:List Str}{a:Str}{k:Nat}:k∈bv zs a↔zs[k]? = some a:=by
 unfold bv;rw[XW,WK,Wq];constructor
 ·rintro⟨h1,h2⟩;have hg:=c_ h1;rw[getD_some hg] at h2;rw[hg,h2]
 ·intro h;exact⟨(i_.mp h).1,getD_some h⟩
theorem l9 {zs:List Str}{a:Str}:(bv zs a).Pairwise (·<·):=List.Pairwise.sublist List.filter_sublist aaD
noncomputable def Bn (zs:List Str) (a:Str):Dt->k_ Dt:=l8 fun i=>decide (zs.getD i.toNat "" = a)
noncomputable def dN (k:Nat):Dt:=.int k
theorem uL {zs:List Str}{a:Str}:(bI 0 zs.length).filterMap (Bn zs a)=(bv zs a).map dN:=by
 unfold bI bv;generalize Wv zs.length=l
 induction l with
 | nil=>rfl
 | cons k l ih =>
  rw[o_,Ww,ih,Xd]
  have e:Bn zs a (.int (0+(k:Int)))=if decide (zs.getD k "" = a)=true then some (.int (0+(k:Int))) else none:=by
   show (if decide (zs.getD (0+(k:Int)).toNat "" = a)=true then _ else _)=_;rw[Wt,n_]
  rw[e];by_cases h:decide (zs.getD k "" = a)=true
  ·rw[u_ h,u_ h,o_];show Dt.int (0+(k:Int))::_=dN k::_;rw[Wt];rfl
  ·rw[p_ h,p_ h]
theorem iV {r:Rw} (o:r.Ok):r.names.length<=144:=by
 cases r with
 | row zs=>have:=o.2;show zs.length<=144;lia
 | af ns=>have:=o.2;show (ns.map _).length<=144;rw[a_];lia
 | table w ls =>
  have o:aU w ls:=o;show ls.flatten.length<=144;rw[j3 o.jO];exact ZZ (n₁:=ls.length) (m₁:=w) (n₂:=12) (m₂:=12) o.len o.BR
noncomputable def oM:Flt->k_ (Str×Str)
 | .before a b=>some (a,b) | .under a b=>some (a,b) | .aK a b=>some (a,b) | _=>none
theorem NQ {f:Flt}{a b:Str}{k:Dt->Prop} (e:oM f=some (a,b)) (h:k (.str a)):jM (ao f) 1 k:=by
 cases f<;>first | (cases e;done) | (cases e;unfold ao;exact⟨_,rfl,h⟩)
theorem NR {f:Flt}{a b:Str}{k:Dt->Prop} (e:oM f=some (a,b)) (h:k (.str b)):jM (ao f) 2 k:=by
 cases f<;>first | (cases e;done) | (cases e;unfold ao;exact⟨_,rfl,h⟩)
def jG (p:cP):Prop:=∀ (f:Flt) (a b:Str) (r:Rw) M R,oM f=some (a,b)->r.Ok->(∀ c:Bool,(c=true↔f.holds r)->R (.bl c) M)->p [ao f,aB r] M R
theorem mJ (J1:di (Γ.fn 23)) (RB:gJ (Γ.fn 24)) (Vz:gT (Γ.fn 25)) {f:Flt}{a b:Str}{r:Rw} (e:oM f=some (a,b)) (o:r.Ok) (hR:∀ c:Bool,(c=true↔f.holds r)->R (.bl c) M):Fn Γ dy [.sh (ao f),.sh (aB r),.no,.no,.no,.no,.no] M R:=by
 unfold dy;have Jw:=iV o;have sl:(bN r).length=r.names.length:=by unfold bN;rw[a_,Wu]
 symm;refine J1 r _ _ o ?_;left;rw[sl]
 have test:∀ (m:Str) (x:Dt),x∈bI 0 r.names.length->∀ K:k_ Dt->Mem->Prop,K (Bn r.names m x) M->∃ i:Nat,x=.int i/\i<r.names.length/\(if decide (r.names.getD i "" = m)=true then K (some (.int i)) M else K none M):=fun m x hx K hK=>by
  obtain⟨i,VA⟩:=V_.mp hx;obtain⟨hi,rfl⟩:=aA VA;rw[Wt] at hK ⊢;refine⟨i,rfl,hi,?_⟩;have hK:K (if decide (r.names.getD ((i:Int)).toNat "" = m)=true then some (.int i) else none) M:=hK;rw[n_] at hK;by_cases h:decide (r.names.getD i "" = m)=true
  ·rw[u_ h] at hK ⊢;exact hK
  ·rw[p_ h] at hK ⊢;exact hK
 refine⟨⟨by lia,by lia⟩,by rw[aj];exact sz (by lia),?_⟩;rw[n_];refine bD (Bn r.names a) (fun x hx K hK=>?_) ?_
 ·obtain⟨i,rfl,hi,ht⟩:=test a x hx K hK;and_intros;exact cM hi (uK (NQ e ht))
 rw[uL];left;rw[sl];refine⟨⟨by lia,by lia⟩,by rw[aj];exact sz (by lia),?_⟩;rw[n_];refine bD (Bn r.names b) (fun x hx K hK=>?_) ?_
 ·obtain⟨i,rfl,hi,ht⟩:=test b x hx K hK;and_intros;exact cM hi (uK (NR e ht))
 rw[uL];left
 cases f with
 | before a' b' =>
  cases e
  refine cK rfl ?_;right;rw[a_,a_]
  have Td:¬ (∃ i j:Nat,i∈bv r.names a/\j∈bv r.names b/\i<j)->R (.bl false) M:=fun h=>hR false ⟨fun z=>(nomatch z),fun q=>absurd (show ∃ i j:Nat,i∈bv r.names a/\j∈bv r.names b/\i<j by
   unfold Flt.holds at q;obtain⟨i,j,h1,h2,h3,_⟩:=q;exact⟨i,j,aR.mpr h2,aR.mpr h3,h1⟩) h⟩
  have sa:=l9 (zs:=r.names) (a:=a);have sb:=l9 (zs:=r.names) (a:=b)
  cases ea:bv r.names a with
  | nil =>
   refine bA (by simp) (Td ?_);rintro⟨i,j,h1,_⟩;rw[ea] at h1;cases h1
  | cons i0 O =>
   refine bH (by simp) ?_;rcases List.eq_nil_or_concat (bv r.names b) with eb | ⟨P,j1,eb⟩
   ·rw[eb];refine bA (by simp) (Td ?_);rintro⟨i,j,_,h2,_⟩;rw[eb] at h2;cases h2
   ·rw[List.concat_eq_append] at eb;rw[eb];refine bH (by simp) ?_;refine⟨dN i0,aN (j:=0) rfl,dN j1,by rw[I_];exact jX _ _,?_⟩;refine hR _ ?_;rw[Wq];unfold Flt.holds;rw[ea] at sa;rw[eb] at sb;constructor
    ·intro h;exact⟨i0,j1,by lia,aR.mp (by rw[ea];simp),aR.mp (by rw[eb];simp),WV⟩
    ·rintro⟨i,j,h1,h2,h3,_⟩;have h2:=aR.mpr h2;have h3:=aR.mpr h3;rw[ea] at h2;rw[eb] at h3
     have q1:i0<=i:=by
      rcases t_.mp h2 with rfl | h
      ·exact w_ _
      ·exact W0 ((YR.mp sa).1 i h)
     have q2:j<=j1:=by
      rcases U_.mp h3 with h | h
      ·exact W0 ((abb.mp sb).2.2 j h j1 (by simp))
      ·rw[D_.mp h];exact w_ _
     lia
 | under a' b' =>
  cases e
  refine aL 3 (by decide +kernel) rfl ?_;left;refine cg (T:=R (.bl true) M) (fun ρ=>∃ o5 o6,ρ=[.sh (ao (.under a b)),.sh (aB r),.sh (.lst (bN r)),.sh (.lst ((bv r.names a).map dN)),.sh (.lst ((bv r.names b).map dN)),o5,o6]) (fun x=>∃ i j:Nat,x=dN i/\j∈bv r.names b/\i<j/\r.under i j) ⟨_,_,rfl⟩ ?_ ?_ ?_
  ·rintro x hx ρ N' ⟨o5,o6,rfl⟩ hy hn;obtain⟨i,hi,rfl⟩:=x_.mp hx;have K8:=(i_.mp (aR.mp hi)).1;and_intros;right;refine cg (T:=R (.bl true) M) (fun ρ=>∃ o6,ρ=[.sh (ao (.under a b)),.sh (aB r),.sh (.lst (bN r)),.sh (.lst ((bv r.names a).map dN)),.sh (.lst ((bv r.names b).map dN)),.sh (dN i),o6]) (fun x=>∃ j:Nat,x=dN j/\j∈bv r.names b/\i<j/\r.under i j) ⟨_,rfl⟩ ?_ ?_ ?_
   ·rintro x hx ρ N3 ⟨o6,rfl⟩ RC BD;obtain⟨j,hj,rfl⟩:=x_.mp hx;have RD:=(i_.mp (aR.mp hj)).1
    have go:¬ (i<j/\r.under i j)->N3 ([.sh (ao (.under a b)),.sh (aB r),.sh (.lst (bN r)),.sh (.lst ((bv r.names a).map dN)),.sh (.lst ((bv r.names b).map dN)),.sh (dN i),.sh (dN j)]) M:=fun h=>by
     refine BD ?_ _ ⟨_,rfl⟩;rintro⟨j',e',_,h1,h2⟩;have:j=j':=by injection e' with e';lia
     subst this;exact h ⟨h1,h2⟩
    unfold dN at go ⊢;and_intros;refine sqo fun N4 i7=>?_
    and_intros
    have cont:¬ (i<j/\r.under i j)->N4 ([.sh (ao (.under a b)),.sh (aB r),.sh (.lst (bN r)),.sh (.lst ((bv r.names a).map dN)),.sh (.lst ((bv r.names b).map dN)),.sh (.int i),.sh (.int j)]) M:=fun h=>by
     subst i7;refine sqo fun N5 Jx=>?_
     and_intros;refine aL 3 (by decide +kernel) rfl ?_;subst Jx;exact go h
    refine cK rfl ?_;by_cases h:(i:Int)=(j:Int)
    ·refine bA (by rw[f_ h];decide) ?_;exact cont fun z=>by lia
    ·refine bH (by rw[g_ h];decide) ?_;refine RB r i j _ _ o K8 RD fun c hc=>?_
     cases c with
     | true =>
      and_intros;refine sqo fun N6 VB=>?_
      exact RC ⟨j,rfl,hj,hc.mp rfl⟩
     | false =>
      and_intros;exact cont fun z=>nomatch (hc.mpr z)
   ·rintro⟨x,hx,j,rfl,h0,h1,h2⟩;exact hy ⟨i,j,rfl,h0,h1,h2⟩
   ·rintro gP ρ ⟨o6,rfl⟩;subst hN2;refine hn ?_ _ ⟨_,_,rfl⟩;rintro⟨i',j,e',h0,h1,h2⟩;have:i=i':=by injection e' with e';lia
    subst this;exact gP ⟨dN j,x_.mpr ⟨j,h0,rfl⟩,j,rfl,h0,h1,h2⟩
  ·rintro⟨x,hx,i,j,rfl,h0,h1,h2⟩;obtain⟨i',zL,e'⟩:=x_.mp hx;have:i'=i:=by injection e' with e';lia
   subst this;refine hR true ⟨fun _=>?_,fun _=>rfl⟩;unfold Flt.holds;exact⟨i',j,h1,aR.mp zL,aR.mp h0,h2⟩
  ·rintro gP ρ ⟨o5,o6,rfl⟩;subst hN;refine sqo fun N hN=>?_
   refine hR false ⟨fun z=>(nomatch z),fun q=>?_⟩;unfold Flt.holds at q;obtain⟨i,j,h1,h2,h3,h4⟩:=q;exact absurd ⟨dN i,x_.mpr ⟨i,aR.mpr h2,rfl⟩,i,j,rfl,aR.mpr h3,h1,h4⟩ gP
 | aK a' b' =>
  cases e
  refine aL 4 (by decide +kernel) rfl ?_;left;refine cg (T:=R (.bl true) M) (fun ρ=>∃ o5 o6,ρ=[.sh (ao (.aK a b)),.sh (aB r),.sh (.lst (bN r)),.sh (.lst ((bv r.names a).map dN)),.sh (.lst ((bv r.names b).map dN)),o5,o6]) (fun x=>∃ i j:Nat,x=dN i/\j∈bv r.names b/\i<j/\r.aK i j) ⟨_,_,rfl⟩ ?_ ?_ ?_
  ·rintro x hx ρ N' ⟨o5,o6,rfl⟩ hy hn;obtain⟨i,hi,rfl⟩:=x_.mp hx;have K8:=(i_.mp (aR.mp hi)).1;and_intros;right;refine cg (T:=R (.bl true) M) (fun ρ=>∃ o6,ρ=[.sh (ao (.aK a b)),.sh (aB r),.sh (.lst (bN r)),.sh (.lst ((bv r.names a).map dN)),.sh (.lst ((bv r.names b).map dN)),.sh (dN i),o6]) (fun x=>∃ j:Nat,x=dN j/\j∈bv r.names b/\i<j/\r.aK i j) ⟨_,rfl⟩ ?_ ?_ ?_
   ·rintro x hx ρ N3 ⟨o6,rfl⟩ RC BD;obtain⟨j,hj,rfl⟩:=x_.mp hx;have RD:=(i_.mp (aR.mp hj)).1
    have go:¬ (i<j/\r.aK i j)->N3 ([.sh (ao (.aK a b)),.sh (aB r),.sh (.lst (bN r)),.sh (.lst ((bv r.names a).map dN)),.sh (.lst ((bv r.names b).map dN)),.sh (dN i),.sh (dN j)]) M:=fun h=>by
     refine BD ?_ _ ⟨_,rfl⟩;rintro⟨j',e',_,h1,h2⟩;have:j=j':=by injection e' with e';lia
     subst this;exact h ⟨h1,h2⟩
    unfold dN at go ⊢;and_intros;refine sqo fun N4 i7=>?_
    and_intros;refine aL 4 (by decide +kernel) rfl ?_;subst i7;refine sqo fun N4 i7=>?_
    and_intros;refine cK rfl ?_;by_cases h:(i:Int)=(j:Int)
    ·refine bA (by rw[f_ h];decide) ?_;subst i7;exact go fun z=>by lia
    ·refine bH (by rw[g_ h];decide) ?_;refine Vz r i j _ _ o K8 RD fun c hc=>?_
     cases c with
     | true =>
      and_intros;refine sqo fun N6 VB=>?_
      exact RC ⟨j,rfl,hj,hc.mp rfl⟩
     | false =>
      and_intros;subst i7;exact go fun z=>nomatch (hc.mpr z)
   ·rintro⟨x,hx,j,rfl,h0,h1,h2⟩;exact hy ⟨i,j,rfl,h0,h1,h2⟩
   ·rintro gP ρ ⟨o6,rfl⟩;subst hN2;refine hn ?_ _ ⟨_,_,rfl⟩;rintro⟨i',j,e',h0,h1,h2⟩;have:i=i':=by injection e' with e';lia
    subst this;exact gP ⟨dN j,x_.mpr ⟨j,h0,rfl⟩,j,rfl,h0,h1,h2⟩
  ·rintro⟨x,hx,i,j,rfl,h0,h1,h2⟩;obtain⟨i',zL,e'⟩:=x_.mp hx;have:i'=i:=by injection e' with e';lia
   subst this;refine hR true ⟨fun _=>?_,fun _=>rfl⟩;unfold Flt.holds;exact⟨i',j,h1,aR.mp zL,aR.mp h0,h2⟩
  ·rintro gP ρ ⟨o5,o6,rfl⟩;subst hN;refine sqo fun N hN=>?_
   refine hR false ⟨fun z=>(nomatch z),fun q=>?_⟩;unfold Flt.holds at q;obtain⟨i,j,h1,h2,h3,h4⟩:=q;exact absurd ⟨dN i,x_.mpr ⟨i,aR.mpr h2,rfl⟩,i,j,rfl,aR.mpr h3,h1,h4⟩ gP
 | _=>cases e
end
section
variable {Γ:Gm}{M:Mem}{R:Dt->Mem->Prop}
def eU (n:Nat) (p:cP):Prop:=∀ (f:Flt) (r:Rw) M R,f.Ok->r.Ok->f.dep<=n->(∀ c:Bool,(c=true↔f.holds r)->R (.bl c) M)->p [ao f,aB r] M R
noncomputable def NS:Dt->Dt | .tup (d::_)=>d | _=>.aJ
theorem Bo {r:Rw}:(bN r).map NS=r.names.map .str:=by
 unfold bN;rw[L_];show (Wv r.names.length).map (fun k=>Dt.str (r.names.getD k ""))=_;rw[show (fun k=>Dt.str (r.names.getD k ""))=Dt.str ∘ fun k=>r.names.getD k "" from rfl,←L_,range_getD]
noncomputable def uM (m:Str):Dt->k_ Dt
 | .tup [.str z,x,y]=>if z=m then some (.tup [.str z,x,y]) else none
 | _=>none
theorem qT {m:Str}{r:Rw}:((bN r).filterMap (uM m)).length=r.names.count m:=by
 have h:∀ l:List Nat,((l.map (pW r)).filterMap (uM m)).length=(l.map fun k=>r.names.getD k "").count m:=fun l=>by
  induction l with
  | nil=>rfl
  | cons k l ih =>
   rw[o_,Ww,o_,List.count_cons];have e:uM m (pW r k)=if r.names.getD k "" = m then some (pW r k) else none:=rfl
   rw[e];by_cases h:r.names.getD k "" = m
   ·rw[u_ h,G_,ih,u_ (by simpa using h)]
   ·rw[p_ h,ih,p_ (by simpa using h),Ze]
 have:=h (Wv r.names.length);rw[range_getD] at this;exact this
theorem gK {g:Dt->Mem->(Dt->Mem->Prop)->Prop}{P:Flt->Prop}{K:List Dt->Mem->Prop} (sg:Bool):∀ (fs:List Flt),(∀ f∈fs,∀ k:Dt->Mem->Prop,(∀ c:Bool,(c=true↔P f)->k (.bl c) M)->g (ao f) M k)->(∀ ds:List Dt,ds.length<=fs.length->(ds=[]↔¬ ∃ f∈fs,(sg=true↔P f))->K ds M) ->
  cR (fun x M K=>g x M fun d M2=>bG d fun c=>if (if sg=true then c else !c)=true then K (some x) M2 else K none M2) (fs.map ao) M K
 | [],_,h=>h [] (w_ _) (Iff.intro (fun _ q=>by obtain⟨_,q1,_⟩:=q;cases q1) fun _=>rfl)
 | f::fs,hg,h=>by
  refine hg f (by simp) _ fun c hc=>?_
  show if (if sg=true then c else !c)=true then _ else _
  by_cases e:(if sg=true then c else !c)=true
  ·refine bH e ?_;refine gK sg fs (fun f' Jv=>hg f' (by simp [Jv])) fun ds hl hd=>h (ao f::ds) (by simp;lia) ⟨fun z=>(nomatch z),fun z=>absurd ⟨f,by simp,?_⟩ z⟩
   rw[←hc]
   cases sg<;>cases c<;>simp_all
  ·refine bA e ?_;refine gK sg fs (fun f' Jv=>hg f' (by simp [Jv])) fun ds hl hd=>h ds (by simp;lia) (hd.trans ?_)
   have gP:¬ (sg=true↔P f):=by
    rw[←hc]
    cases sg<;>cases c<;>simp_all
   constructor
   ·rintro z ⟨f',h1,h2⟩;rcases t_.mp h1 with rfl | h1
    ·exact gP h2
    ·exact z ⟨f',h1,h2⟩
   ·rintro z ⟨f',h1,h2⟩;exact z ⟨f',by simp [h1],h2⟩
theorem sB {n:Nat} (J1:di (Γ.fn 23)) (VC:jG (Γ.fn 26)) (Jy:eU n (Γ.fn 27)) {f:Flt}{r:Rw} (of:f.Ok) (o:r.Ok) (hd:f.dep<=n+1) (hR:∀ c:Bool,(c=true↔f.holds r)->R (.bl c) M):Fn Γ cG [.sh (ao f),.sh (aB r)] M R:=by
 unfold cG;have Jw:=iV o;have sl:(bN r).length=r.names.length:=by unfold bN;rw[a_,Wu]
 have pairs:∀ a b,oM f=some (a,b)->tag f≠0->tag f≠1->tag f<5->Fn Γ cG [.sh (ao f),.sh (aB r)] M R:=fun a b e t0 t1 t5=>by
  unfold cG
  have no:∀ (t:Nat) (w:Str) (A B:Prop),Rx t=w->tag f≠t->t<8->B->jM (ao f) 0 fun x=>tU x (.str w) fun c=>if c=true then A else B:=fun t w A B ew ht t8 hB=>by
   refine aL (tag f) ?_ rfl hB;rw[←ew];have VD:=t5;revert t0 t1 ht;generalize tag f=u at VD;intro t0 t1 ht;have hu:u=2∨u=3∨u=4:=by lia
   have Qf:t=0∨t=1∨t=2∨t=3∨t=4∨t=5∨t=6∨t=7:=by lia
   rcases hu with rfl | rfl | rfl<;>rcases Qf with rfl | rfl | rfl | rfl | rfl | rfl | rfl | rfl<;>first | exact absurd rfl ht | decide +kernel
  symm;refine no 0 _ _ _ rfl t0 (by lia) ?_;left;refine no 1 _ _ _ rfl t1 (by lia) ?_;left;refine no 5 _ _ _ rfl (by lia) (by lia) ?_;left;refine no 6 _ _ _ rfl (by lia) (by lia) ?_;left;refine no 7 _ _ _ rfl (by lia) (by lia) ?_;left;exact VC f a b r _ _ e o hR
 cases f with
 | before a b=>exact pairs a b rfl (by simp [tag]) (by simp [tag]) (by simp [tag])
 | under a b=>exact pairs a b rfl (by simp [tag]) (by simp [tag]) (by simp [tag])
 | aK a b=>exact pairs a b rfl (by simp [tag]) (by simp [tag]) (by simp [tag])
 | has m =>
  symm;refine cK rfl ?_;refine sqo fun N2 hN2=>?_
  unfold ao;and_intros;refine⟨_,rfl,J1 r _ _ o ?_⟩;and_intros;refine⟨by rw[sl];exact sz (by lia),comp_map NS (fun x hx K hK=>?_) ?_⟩
  ·obtain⟨k,hk,rfl⟩:=x_.mp hx;exact uK hK
  ·rw[Bo];refine uo (hR _ ?_);rw[Wq];unfold Flt.holds;exact abK.symm
 | many k m =>
  symm;refine aL 1 (by decide +kernel) rfl ?_;left;refine cK rfl ?_;refine sqo fun N2 hN2=>?_
  unfold ao;and_intros;refine J1 r _ _ o ?_;and_intros;refine⟨by rw[sl];exact sz (by lia),bD (uM m) (fun x hx K hK=>?_) ?_⟩
  ·obtain⟨k',hk,rfl⟩:=x_.mp hx;refine uK ⟨_,rfl,?_⟩;have hK:K (if r.names.getD k' "" = m then some (pW r k') else none) M:=hK;show if decide (r.names.getD k' "" = m)=true then _ else _
   by_cases h:r.names.getD k' "" = m
   ·rw[u_ h] at hK;exact bH (f_ h) hK
   ·rw[p_ h] at hK;exact bA (by rw[g_ h];decide) hK
  ·and_intros;rw[qT];refine⟨_,rfl,hR _ ?_⟩;rw[Wq];unfold Flt.holds;exact acX
 | not g =>
  symm;refine aL 5 (by decide +kernel) rfl ?_;left;refine aL 5 (by decide +kernel) rfl ?_;left;refine cK rfl ?_;refine sqo fun N2 hN2=>?_
  unfold ao;and_intros;refine⟨_,rfl,Jy g r _ _ of o (by unfold Flt.dep at hd;lia) fun c hc=>hR (!c) ?_⟩;unfold Flt.holds;rw[←hc]
  cases c<;>simp
 | all fs =>
  symm;refine aL 6 (by decide +kernel) rfl ?_;left;refine aL 6 (by decide +kernel) rfl ?_;left;refine aL 6 (by decide +kernel) rfl ?_;left;refine cK rfl ?_;refine sqo fun N2 hN2=>?_
  unfold ao;rw[cX];and_intros;refine⟨_,rfl,?_⟩;and_intros;refine⟨by rw[a_];exact sz (by have:=of.1;lia),?_⟩;refine gK (P:=fun f=>f.holds r) (g:=fun x M k=>Γ.fn 27 [x,aB r] M k) false fs (fun f hf k hk=>Jy f r _ _ (dJ.mp of.2 f hf) o (by have:=gD f hf;unfold Flt.dep at hd;lia) hk) fun ds hl he=>?_
  and_intros;refine hR _ ?_;rw[Wq];unfold Flt.holds;rw[gB,show ((ds.length:Int)=0↔ds=[]) from by rw[←aap];lia,he];constructor
  ·intro h f hf;exact Z0 fun q=>h ⟨f,hf,⟨fun z=>(nomatch z),fun z=>absurd z q⟩⟩
  ·rintro h ⟨f,hf,q⟩;exact nomatch (q.mpr (h f hf))
 | any fs =>
  symm;refine aL 7 (by decide +kernel) rfl ?_;left;refine aL 7 (by decide +kernel) rfl ?_;left;refine aL 7 (by decide +kernel) rfl ?_;left;refine aL 7 (by decide +kernel) rfl ?_;left;refine cK rfl ?_;refine sqo fun N2 hN2=>?_
  unfold ao;rw[cX];and_intros;refine⟨_,rfl,?_⟩;and_intros;refine⟨by rw[a_];exact sz (by have:=of.1;lia),?_⟩;refine gK (P:=fun f=>f.holds r) (g:=fun x M k=>Γ.fn 27 [x,aB r] M k) true fs (fun f hf k hk=>Jy f r _ _ (dJ.mp of.2 f hf) o (by have:=gD f hf;unfold Flt.dep at hd;lia) hk) fun ds hl he=>?_
  and_intros;refine hR _ ?_;rw[Wq];unfold Flt.holds;rw[gC,show ((0:Int)<(ds.length:Int)↔¬ ds=[]) from by rw[←aap];lia,he];constructor
  ·intro h;obtain⟨f,hf,q⟩:=Classical.not_not.mp h;exact⟨f,hf,q.mp rfl⟩
  ·rintro⟨f,hf,q⟩ h;exact h ⟨f,hf,⟨fun _=>q,fun _=>rfl⟩⟩
end
section
variable {Γ:Gm}{M:Mem}{R:Dt->Mem->Prop}
def xB (p:cP) (ds:List Dt) (n:Nat):Prop:=∀ M R,(∀ f:Flt,f.Ok->f.dep<=n->R (ao f) M)->p ds M R
theorem dj {w:Str}{d:Dt}{f:Flt}{Q:Dt->Prop} (e:ao f=.tup [.str w,d]) (h:Q (ao f)):([Dt.str w,d]:List Dt).length<=sizeLine/\Q (.tup [.str w,d]):=⟨sz (by simp),by rw[←e];exact h⟩
theorem eB {w:Str}{d d':Dt}{f:Flt}{Q:Dt->Prop} (e:ao f=.tup [.str w,d,d']) (h:Q (ao f)):([Dt.str w,d,d']:List Dt).length<=sizeLine/\Q (.tup [.str w,d,d']):=⟨sz (by simp),by rw[←e];exact h⟩
def uN (p:cP):Prop:=∀ (c:Int) (zs:List Str) (g:Bool),fL zs->xB p [.int c,.lst (zs.map .str),.bl g] 2
theorem pY {c:Int}{zs:List Str}{g:Bool} (hz:fL zs) (hR:∀ f:Flt,f.Ok->f.dep<=2->R (ao f) M):Fn Γ fq [.sh (.int c),.sh (.lst (zs.map .str)),.sh (.bl g),.no,.no,.no] M R:=by
 unfold fq;obtain⟨z4,OW,hz⟩:=hz
 have pick:∀ q:Int,∃ m:Str,ay m=true/\pd (zs.map Dt.str) (q % ((zs.length:Nat):Int))=some (.str m):=fun q=>by
  obtain⟨n,e,hn⟩:=aX q (show (0:Int)<(zs.length:Nat) by lia);rw[e];exact⟨atS zs n,hz _ (getD_mem (by lia)),K18.dq (by lia) (by lia)⟩
 symm;rw[a_];obtain⟨a,ha,ea⟩:=pick (c / 16);refine⟨⟨by decide,by decide⟩,by lia,_,ea,?_⟩;left;rw[a_];obtain⟨b,hb,eb⟩:=pick (c / 64);refine⟨⟨by decide,by decide⟩,by lia,_,eb,?_⟩;left;refine⟨by decide,?_⟩;generalize c % 8=w;left
 have EO:N [.sh (.int c),.sh (.lst (zs.map .str)),.sh (.bl g),.sh (.str a),.sh (.str b),.sh (.int w)] M:=by
  rw[hN];refine sqo fun N hN=>?_
  have uO:N [.sh (.int c),.sh (.lst (zs.map .str)),.sh (.bl g),.sh (.str a),.sh (.str b),.sh (.int w)] M:=by
   rw[hN];symm;refine⟨by decide,?_⟩;by_cases e0:w % 4=0
   ·refine bH (f_ e0) ?_;refine sqo fun N2 hN2=>?_
    exact dj (f:=.has a) (Q:=fun d=>R d M) (by unfold ao;rfl) (hR _ (by unfold Flt.Ok;exact ha) (by unfold Flt.dep;lia))
   refine bA (by rw[g_ e0];decide) ?_;left;refine⟨by decide,?_⟩;by_cases e1:w % 4=1
   ·refine bH (f_ e1) ?_;right;refine⟨⟨by decide,by decide⟩,by decide,?_⟩;exact eB (f:=.many (1+c / 8 % 6) a) (Q:=fun d=>R d M) (by unfold ao;rfl) (hR _ (by unfold Flt.Ok;exact ha) (by unfold Flt.dep;lia))
   refine bA (by rw[g_ e1];decide) ?_;left;refine⟨by decide,?_⟩;by_cases e2:w % 4=2
   ·refine bH (f_ e2) ?_;refine sqo fun N2 hN2=>?_
    exact eB (f:=.before a b) (Q:=fun d=>R d M) (by unfold ao;rfl) (hR _ (by unfold Flt.Ok;exact⟨ha,hb⟩) (by unfold Flt.dep;lia))
   refine bA (by rw[g_ e2];decide) ?_;subst hN;refine sqo fun N hN=>?_
   exact eB (f:=.under a b) (Q:=fun d=>R d M) (by unfold ao;rfl) (hR _ (by unfold Flt.Ok;exact⟨ha,hb⟩) (by unfold Flt.dep;lia))
  and_intros;by_cases e7:w=7
  ·refine bH (f_ e7) ?_
   cases g with
   | true=>exact uO
   | false =>
    and_intros;right;refine⟨⟨by decide,by decide⟩,by decide,sz (by simp),?_⟩;exact dj (f:=.not (.many (1+c / 8 % 3) a)) (Q:=fun d=>R d M) (by unfold ao;unfold ao;rfl) (hR _ (by unfold Flt.Ok;unfold Flt.Ok;exact ha) (by unfold Flt.dep;unfold Flt.dep;lia))
  ·refine bA (by rw[g_ e7];decide) uO
 by_cases e6:w=6
 ·refine bH (f_ e6) ?_
  cases g with
  | true=>exact EO
  | false =>
   and_intros;refine sqo fun N2 hN2=>?_
   exact eB (f:=.aK a b) (Q:=fun d=>R d M) (by unfold ao;rfl) (hR _ (by unfold Flt.Ok;exact⟨ha,hb⟩) (by unfold Flt.dep;lia))
 ·refine bA (by rw[g_ e6];decide) EO
end
section
variable {Γ:Gm}{M:Mem}{R:Dt->Mem->Prop}
noncomputable def NT:List Str:=["whole","fault","most","answers","questions"]
noncomputable def dk (r:Rw) (f:Flt) (a b:Addr):Dt:=.obj 4 NT [bJ r,bx f,.int 100,.dD a,.dD b]
theorem BU (g:GB Γ) {f:Str} (h:S6 4 f=true):Γ.at_ 4 f=true:=by rw[g.at_];exact h
theorem VE (g:GB Γ) {r:Rw}{f:Flt}{a b:Addr}{k:Dt->Prop} (h:k (bJ r)):eH Γ "whole" (dk r f a b) k:=⟨BU g (by decide +kernel),_,xy,h⟩
theorem VF (g:GB Γ) {r:Rw}{f:Flt}{a b:Addr}{k:Dt->Prop} (h:k (bx f)):eH Γ "fault" (dk r f a b) k:=⟨BU g (by decide +kernel),_,(wd (by decide +kernel)).trans xy,h⟩
theorem VG (g:GB Γ) {r:Rw}{f:Flt}{a b:Addr}{k:Dt->Prop} (h:k (.int 100)):eH Γ "most" (dk r f a b) k:=⟨BU g (by decide +kernel),_,(wd (by decide +kernel)).trans ((wd (by decide +kernel)).trans xy),h⟩
theorem RE (g:GB Γ) {r:Rw}{f:Flt}{a b:Addr}{k:Dt->Prop} (h:k (.dD a)):eH Γ "answers" (dk r f a b) k:=⟨BU g (by decide +kernel),_,(wd (by decide +kernel)).trans ((wd (by decide +kernel)).trans ((wd (by decide +kernel)).trans xy)),h⟩
theorem RF (g:GB Γ) {r:Rw}{f:Flt}{a b:Addr}{k:Dt->Prop} (h:k (.dD b)):eH Γ "questions" (dk r f a b) k:=⟨BU g (by decide +kernel),_,(wd (by decide +kernel)).trans ((wd (by decide +kernel)).trans ((wd (by decide +kernel)).trans ((wd (by decide +kernel)).trans xy))),h⟩
def xC (p:BS):Prop:=∀ (r:Rw) (f:Flt) M k,(∀ a b:Addr,M a=none->M b=none->a≠b->k (dk r f a b) (bL (bL M a (.md [])) b (.ml [])))->p (.obj 4 [] []) [bJ r,bx f,.int 100] M k
theorem pZ {f g:Str}{d e:Dt}{fs:List Str}{ds:List Dt} (h:¬ g=f):putD f d (g::fs) (e::ds)=(g::(putD f d fs ds).1,e::(putD f d fs ds).2):=by
 show (if g=f then _ else _)=_;rw[p_ h]
theorem sC (g:GB Γ) {r:Rw}{f:Flt}{k:Dt->Mem->Prop} (h:∀ a b:Addr,M a=none->M b=none->a≠b->k (dk r f a b) (bL (bL M a (.md [])) b (.ml []))):In Γ fZ [.ow (.obj 4 [] []),.sh (bJ r),.sh (bx f),.sh (.int 100)] M 4 k:=by
 unfold fZ;symm;rw[putN];refine⟨BU g (by decide +kernel),by simp,?_⟩;left;rw[pZ (by decide +kernel),putN];refine⟨BU g (by decide +kernel),by simp,?_⟩;left;rw[pZ (by decide +kernel),pZ (by decide +kernel),putN];refine⟨BU g (by decide +kernel),by simp,?_⟩;left;intro a ha;rw[pZ (by decide +kernel),pZ (by decide +kernel),pZ (by decide +kernel),putN];refine⟨BU g (by decide +kernel),by simp,?_⟩;left;refine⟨sz (by simp),fun b hb=>?_⟩;rw[pZ (by decide +kernel),pZ (by decide +kernel),pZ (by decide +kernel),pZ (by decide +kernel),putN];refine⟨BU g (by decide +kernel),by simp,?_⟩;subst hN;have BI:a≠b:=fun z=>by subst z;unfold bL at hb;rw[u_ rfl] at hb;cases hb
 have F7:M b=none:=by unfold bL at hb;rw[p_ (WA BI)] at hb;exact hb
 exact⟨rfl,h a b ha F7 BI⟩
def sD (p:cP):Prop:=∀ (r:Rw) (f:Flt) (a b:Addr) (qs:List Dt) M R,M b=some (.ml qs)->R (.int qs.length) M->p [dk r f a b] M R
theorem qa (g:GB Γ) {r:Rw}{f:Flt}{a b:Addr}{qs:List Dt} (hb:M b=some (.ml qs)) (hR:R (.int qs.length) M):Fn Γ eX [.sh (dk r f a b)] M R:=by
 unfold eX;symm;refine RF g ?_;show (match M b with | some (.ml xs)=>_ | some (.mo c fs xs)=>_ | _=>False);rw[hb];exact hR
noncomputable def fQ (zs:List Str):H_:=.tuple (zs.map .str)
noncomputable def cN:Rw->H_
 | .row zs=>.tuple [.str "row",fQ zs]
 | .af ns=>.tuple [.str "forest",.tuple (iY ns)]
 | .table w ls=>.tuple [.str "table",.int w,.tuple (ls.map fQ)]
theorem toPs_strs:∀ zs:List Str,toPs (zs.map Dt.str)=some (zs.map YV)
 | []=>rfl
 | z::zs=>by
  rw[o_];unfold toPs;rw[toPs_strs zs];rfl
theorem toPs_nodes:∀ ns:List Nd,toPs (ns.map aF)=some (iY ns)
 | []=>rfl
 | n::ns=>by
  rw[o_];unfold toPs;rw[toPs_nodes ns];rfl
theorem toPs_tups:∀ ls:List (List Str),toPs (ls.map eA)=some (ls.map fQ)
 | []=>rfl
 | l::ls=>by
  rw[o_];unfold toPs;rw[toPs_tups ls]
  have e:toP (eA l)=some (fQ l):=by
   show (toPs (l.map Dt.str)).map W3=_;rw[toPs_strs];rfl
  rw[e];rfl
theorem toP_form (r:Rw):toP (n5 r)=some (cN r):=by
 cases r with
 | row zs =>
  have e:toP (.eQ (zs.map Dt.str))=some (fQ zs):=by
   show (toPs (zs.map Dt.str)).map W3=_;rw[toPs_strs];rfl
  show (toPs [.str "row",.eQ (zs.map Dt.str)]).map W3=_;unfold toPs toPs toPs;rw[e];rfl
 | af ns =>
  have e:toP (.tup (ns.map aF))=some (.tuple (iY ns)):=by
   show (toPs (ns.map aF)).map W3=_;rw[toPs_nodes];rfl
  show (toPs [.str "forest",.tup (ns.map aF)]).map W3=_;unfold toPs toPs toPs;rw[e];rfl
 | table w ls =>
  have e:toP (.tup (ls.map eA))=some (.tuple (ls.map fQ)):=by
   show (toPs (ls.map eA)).map W3=_;rw[toPs_tups];rfl
  show (toPs [.str "table",.int w,.tup (ls.map eA)]).map W3=_;unfold toPs toPs toPs toPs;rw[e];rfl
end
section
variable {Γ:Gm}{M:Mem}{R:Dt->Mem->Prop}
theorem iH:∀ {zs:List Str},(∀ z∈zs,ay z=true)->M_ (zs.map YV)=true
 | [],_=>by simp [M_]
 | z::zs,h=>by
  rw[o_];simp only[M_,WY,q_];exact⟨fP (h z (by simp)),iH fun y hy=>h y (by simp [hy])⟩
theorem iI:∀ zs:List Str,Wn (zs.map YV)=0
 | []=>by simp [Wn]
 | z::zs=>by
  rw[o_];simp only[Wn,Xh,iI zs];rfl
theorem qU:∀ {ls:List (List Str)},(∀ l∈ls,∀ z∈l,ay z=true)->M_ (ls.map fQ)=true
 | [],_=>by simp [M_]
 | l::ls,h=>by
  rw[o_];unfold fQ;simp only[M_,WY,q_];exact⟨iH (h l (by simp)),qU fun y hy=>h y (by simp [hy])⟩
theorem qV:∀ ls:List (List Str),Wn (ls.map fQ)<=1
 | []=>by simp [Wn]
 | l::ls=>by
  have:=qV ls;rw[o_];have e:(fQ l).depth=1:=by unfold fQ;simp only[Xh,iI]
  simp only[Wn,e]
  lia
theorem yR {r:Rw} (o:r.Ok):pv (cN r):=by
 cases r with
 | row zs =>
  refine⟨?_,?_⟩
  ·show ([YV "row",fQ zs]:List H_).all (ja 6)=true;simp only[WC,ab5,WN,q_];refine⟨rfl,?_⟩;show (zs.map YV).all (ja 5)=true;rw[X2];exact Wm.mpr fun _ _=>rfl
  ·unfold J_ cN fQ;simp only[WY,M_,Xh,Wn,iI,iH o.1,WN];rw[q_];exact⟨by decide +kernel,by decide⟩
 | af ns =>
  have c:=dF fun n hn=>fP (g9 o.1 n hn).1
  have d:=eM ns;refine⟨?_,?_⟩
  ·show ([YV "forest",.tuple (iY ns)]:List H_).all (ja 6)=true;simp only[WC,ab5,WN,q_];refine⟨rfl,?_⟩;show (iY ns).all (ja 5)=true;unfold iY;rw[X2];exact Wm.mpr fun _ _=>rfl
  ·unfold J_ cN;simp only[WY,M_,Xh,Wn,c,WN];rw[q_];exact⟨by decide +kernel,f_ (by lia)⟩
 | table w ls =>
  have o:aU w ls:=o;have c:=qU o.NB;have d:=qV ls;refine⟨?_,?_⟩
  ·show ([YV "table",.int w,.tuple (ls.map fQ)]:List H_).all (ja 6)=true;simp only[WC,ab5,WN,q_];refine⟨rfl,rfl,?_⟩;show (ls.map fQ).all (ja 5)=true;rw[X2];refine Wm.mpr fun l _=>?_
   show (l.map YV).all (ja 4)=true;rw[X2];exact Wm.mpr fun _ _=>rfl
  ·unfold J_ cN;simp only[WY,M_,Xh,Wn,c,WN];rw[q_];exact⟨by decide +kernel,f_ (by lia)⟩
theorem uP (r:Rw):∃ ps,cN r=.tuple ps:=by cases r<;>exact⟨_,rfl⟩
theorem map_inj {α β:Type}{f:α->β} (hf:∀ a b,f a=f b->a=b):∀ {xs ys:List α},xs.map f=ys.map f->xs=ys
 | [],[],_=>rfl
 | [],_::_,h=>by cases h
 | _::_,[],h=>by cases h
 | x::xs,y::ys,h=>by
  rw[o_,o_] at h;injection h with h1 h2
  rw[hf x y h1,map_inj hf h2]
theorem uQ {a b:List Str} (h:fQ a=fQ b):a=b:=by
 unfold fQ at h;injection h with h
 exact map_inj (fun x y e=>by injection e) h
theorem qW {r s:Rw} (h:cN r=cN s):r=s:=by
 cases r with
 | row a =>
  cases s with
  | row b =>
   injection h with h;injection h with h1 h2;injection h2 with h2
   rw[uQ h2]
  | af b =>
   injection h with h;injection h with h1 h2;injection h1 with h1
   exact absurd h1 (by decide +kernel)
  | table w b =>
   injection h with h;injection h with h1 h2;injection h1 with h1
   exact absurd h1 (by decide +kernel)
 | af a =>
  cases s with
  | row b =>
   injection h with h;injection h with h1 h2;injection h1 with h1
   exact absurd h1 (by decide +kernel)
  | af b =>
   injection h with h;injection h with h1 h2;injection h2 with h2
   injection h2 with h2
   have:a=b:=map_inj (fun x y e=>by
    injection e with e;injection e with e1 e2;injection e1 with e1;injection e2 with e2;injection e2 with e2
    exact Prod.ext e1 e2) h2
   rw[this]
  | table w b =>
   injection h with h;injection h with h1 h2;injection h1 with h1
   exact absurd h1 (by decide +kernel)
 | table w a =>
  cases s with
  | row b =>
   injection h with h;injection h with h1 h2;injection h1 with h1
   exact absurd h1 (by decide +kernel)
  | af b =>
   injection h with h;injection h with h1 h2;injection h1 with h1
   exact absurd h1 (by decide +kernel)
  | table v b =>
   injection h with h;injection h with h1 h2;injection h2 with h2 h3;injection h2 with h2;injection h3 with h3;injection h3 with h3
   have:a=b:=map_inj (fun x y e=>uQ e) h3;rw[this,show w=v by lia]
end
section
variable {Γ:Gm}{M:Mem}{R:Dt->Mem->Prop}
noncomputable def lL (f:Flt) (rs:List Rw):List (H_×Dt):=rs.map fun r=>(cN r,.bl (bP (f.holds r)))
noncomputable def qD (r:Rw) (f:Flt) (ps:List Int):Dt:=.tup [.tup (ps.map .int),.bl (bP (f.holds (r.left ps)))]
def fM (M:Mem) (r:Rw) (f:Flt) (a b:Addr) (qs:List (List Int)):Prop:=a≠b/\M a=some (.md (lL f (qs.map r.left)))/\M b=some (.ml (qs.map (qD r f)))
noncomputable def qb (M:Mem) (r:Rw) (f:Flt) (a b:Addr) (qs:List (List Int)):Mem:=bL (bL M a (.md (lL f (qs.map r.left)))) b (.ml (qs.map (qD r f)))
theorem gL {r:Rw}{f:Flt}{a b:Addr}{k:Nat->List Str->Prop}:eI M (dk r f a b) k=k 4 NT:=rfl
theorem oN {f:Flt}{r:Rw}:∀ {rs:List Rw},r∉rs->fV (lL f rs) (cN r)=none
 | [],_=>rfl
 | s::rs,h=>by
  show fV ((cN s,_)::lL f rs) (cN r)=none;rw[ln,p_ fun z=>h (by rw[qW z];simp),oN fun z=>h (by simp [z])]
theorem oO {f:Flt}{r:Rw}:∀ {rs:List Rw},r∈rs->fV (lL f rs) (cN r)=some (.bl (bP (f.holds r)))
 | [],h=>nomatch h
 | s::rs,h=>by
  show fV ((cN s,_)::lL f rs) (cN r)=_;rw[ln];by_cases e:cN s=cN r
  ·rw[u_ e,qW e]
  ·rw[p_ e];rcases t_.mp h with rfl | h
   ·exact absurd rfl e
   ·exact oO h
theorem oP {r:Rw} (o:r.Ok) {Q:H_->Prop} (h:Q (cN r)):yz (n5 r) Q:=by
 obtain⟨ps,e⟩:=uP r;exact⟨ps,by rw[toP_form,e],by rw[←e];exact yR o,by rw[←e];exact h⟩
theorem Bp {a:Addr}{am:List (H_×Dt)}{k:Addr->List (H_×Dt)->Prop} (h:M a=some (.md am)) (q:k a am):GN M (.dD a) k:=by
 show (match M a with | some (.md am)=>k a am | _=>False);rw[h];exact q
theorem kL {a:Addr}{ds:List Dt}{k:Addr->List Dt->Prop} (h:M a=some (.ml ds)) (q:k a ds):tV M (.dD a) k:=by
 show (match M a with | some (.ml ds)=>k a ds | _=>False);rw[h];exact q
theorem dQ {a:Addr}{o:MO}:bL M a o a=some o:=by unfold bL;rw[u_ rfl]
theorem cO {a b:Addr}{o:MO} (h:b≠a):bL M a o b=M b:=by unfold bL;rw[p_ h]
theorem sE {r:Rw}{f:Flt}{a b:Addr}{qs:List (List Int)} (h:a≠b):fM (qb M r f a b qs) r f a b qs:=⟨h,by unfold qb;rw[cO h,dQ],by unfold qb;rw[dQ]⟩
def EQ (n:Nat) (p:cP):Prop:=∀ (r:Rw) (f:Flt) (a b:Addr) (ps:List Int) (qs:List (List Int)) M R,fM M r f a b qs->qs.length<=90->r.left ps∉qs.map r.left->(r.left ps).Ok->f.Ok->f.dep<=n->R .aJ (qb M r f a b (qs++[ps]))->p [dk r f a b,.lst (ps.map .int),bJ (r.left ps)] M R
theorem uR (g:GB Γ) (h:Γ.hm=yO) {n:Nat} (p2:sD (Γ.me 2)) (p5:kE n (Γ.me 5)) (Jl:wf (Γ.me 11)) {r:Rw}{f:Flt}{a b:Addr}{ps:List Int}{qs:List (List Int)} (st:fM M r f a b qs) (h9:qs.length<=90) (hn:r.left ps∉qs.map r.left) (o:(r.left ps).Ok) (of:f.Ok) (hd:f.dep<=n) (hR:R .aJ (qb M r f a b (qs++[ps]))):Fn Γ ic [.sh (dk r f a b),.sh (.lst (ps.map .int)),.sh (bJ (r.left ps)),.no] M R:=by
 unfold ic;obtain⟨BI,ha,hb⟩:=st;symm;rw[gL];refine⟨by rw[h];rfl,p2 _ _ _ _ _ _ _ hb (VG g ?_)⟩;and_intros;refine bA (by rw[a_,g_ (by lia)];decide) ?_;left;refine VF g ?_;rw[nj];refine⟨DE h _,p5 f _ _ _ of o hd fun c hc=>?_⟩;left;refine RE g ?_;and_intros;rw[iD];refine⟨l6 h (by lia) _,Jl _ _ _ (oP o (Bp ha ⟨oN hn,?_,?_⟩))⟩
 ·unfold lL;rw[a_,a_];exact uE (by lia)
 have e1:lL f (qs.map r.left)++[(cN (r.left ps),.bl c)]=lL f ((qs++[ps]).map r.left):=by
  unfold lL;rw[I_,I_,ut hc];rfl
 rw[e1];have F7:bL M a (.md (lL f ((qs++[ps]).map r.left))) b=some (.ml (qs.map (qD r f))):=by rw[cO (WA BI)];exact hb
 left;refine RF g (kL F7 ⟨sz (by simp),kL F7 ⟨by rw[a_];exact uE (by lia),?_⟩⟩);subst hN
 have e2:qs.map (qD r f)++[Dt.tup [.tup (ps.map .int),.bl c]]=(qs++[ps]).map (qD r f):=by
  rw[I_,ut hc];rfl
 rw[e2];exact hR
def xD (n:Nat) (p:cP):Prop:=∀ (r:Rw) (f:Flt) (a b:Addr) (ps:List Int) (qs:List (List Int)) M R,fM M r f a b qs->qs.length<=90->r.Ok->placesOk 0 r.many ps->f.Ok->f.dep<=n->(r.left ps∈qs.map r.left->R (.bl (bP (f.holds (r.left ps)))) M)->(r.left ps∉qs.map r.left->R (.bl (bP (f.holds (r.left ps)))) (qb M r f a b (qs++[ps])))->p [dk r f a b,.lst (ps.map .int)] M R
theorem qc (g:GB Γ) (h:Γ.hm=yO) {n:Nat} (p1:EQ n (Γ.me 1)) (NE:A9 (Γ.me 10)) (Jl:wf (Γ.me 11)) {r:Rw}{f:Flt}{a b:Addr}{ps:List Int}{qs:List (List Int)} (st:fM M r f a b qs) (h9:qs.length<=90) (o:r.Ok) (hp:placesOk 0 r.many ps) (of:f.Ok) (hd:f.dep<=n) (VH:r.left ps∈qs.map r.left->R (.bl (bP (f.holds (r.left ps)))) M) (VI:r.left ps∉qs.map r.left->R (.bl (bP (f.holds (r.left ps)))) (qb M r f a b (qs++[ps]))):Fn Γ eW [.sh (dk r f a b),.sh (.lst (ps.map .int)),.no,.no] M R:=by
 unfold eW;have ol:=eP o hp;symm;refine VE g ?_;rw[iD];refine⟨l6 h (by lia) _,NE r ps _ _ o hp ?_⟩;left;rw[iD];refine⟨l6 h (by lia) _,Jl _ _ _ ?_⟩;left;refine RE g (oP ol (Bp st.2.1 ?_))
 have fin:∀ M' RG,fM M' r f a b RG->r.left ps∈RG.map r.left->R (.bl (bP (f.holds (r.left ps)))) M'->N [.sh (dk r f a b),.sh (.lst (ps.map .int)),.sh (bJ (r.left ps)),.sh (n5 (r.left ps))] M':=fun M' RG rn hm h1=>by
  rw[hN];right;exact RE g (oP ol (Bp rn.2.1 ⟨_,oO hm,h1⟩))
 by_cases hm:r.left ps∈qs.map r.left
 ·rw[oO hm];exact bA (by simp) (fin M qs st hm (VH hm))
 ·rw[oN hm];refine bH (by simp) ?_;right;rw[gL];refine⟨by rw[h];rfl,p1 r f a b ps qs _ _ st h9 hm ol of hd ?_⟩;subst hN2;exact fin _ _ (sE st.1) (by simp) (VI hm)
end
section
variable {Γ:Gm}{M:Mem}{R:Dt->Mem->Prop}
noncomputable def gM (zs:List Str):H_:=.list (zs.map .str)
noncomputable def mK:Rw->H_
 | .row zs=>.tuple [.str "row",gM zs]
 | .af ns=>.tuple [.str "forest",.list (iY ns)]
 | .table w ls=>.tuple [.str "table",.int w,.list (ls.map gM)]
theorem toPs_lines:∀ ls:List (List Str),toPs (ls.map aT)=some (ls.map gM)
 | []=>rfl
 | l::ls=>by
  rw[o_];unfold toPs;rw[toPs_lines ls]
  have e:toP (aT l)=some (gM l):=by
   show (toPs (l.map Dt.str)).map Yv=_;rw[toPs_strs];rfl
  rw[e];rfl
theorem toP_raw (r:Rw):toP (aB r)=some (mK r):=by
 cases r with
 | row zs =>
  have e:toP (.lst (zs.map Dt.str))=some (gM zs):=by
   show (toPs (zs.map Dt.str)).map Yv=_;rw[toPs_strs];rfl
  show (toPs [.str "row",.lst (zs.map Dt.str)]).map W3=_;unfold toPs toPs toPs;rw[e];rfl
 | af ns =>
  have e:toP (.lst (ns.map aF))=some (.list (iY ns)):=by
   show (toPs (ns.map aF)).map Yv=_;rw[toPs_nodes];rfl
  show (toPs [.str "forest",.lst (ns.map aF)]).map W3=_;unfold toPs toPs toPs;rw[e];rfl
 | table w ls =>
  have e:toP (.lst (ls.map aT))=some (.list (ls.map gM)):=by
   show (toPs (ls.map aT)).map Yv=_;rw[toPs_lines];rfl
  show (toPs [.str "table",.int w,.lst (ls.map aT)]).map W3=_;unfold toPs toPs toPs toPs;rw[e];rfl
theorem toPs_raws:∀ rs:List Rw,toPs (rs.map aB)=some (rs.map mK)
 | []=>rfl
 | r::rs=>by rw[o_];unfold toPs;rw[toPs_raws rs,toP_raw];rfl
theorem gN {α:Type}{g:α->H_} (hg:∀ x y,P_ (g x) (g y)=true↔x=y):∀ {xs ys:List α},Yn (xs.map g) (ys.map g)=true↔xs=ys
 | [],[]=>by simp [Yn]
 | [],_::_=>by simp [Yn]
 | _::_,[]=>by simp [Yn]
 | x::xs,y::ys=>by
  rw[o_,o_,Wz,q_,hg x y,gN hg];simp
theorem kM {x y:Str}:P_ (.str x) (.str y)=true↔x=y:=by rw[acw,Xq]
theorem uS {x y:List Str}:P_ (gM x) (gM y)=true↔x=y:=by
 unfold gM;rw[aaP];exact gN fun _ _=>kM
theorem Jz {x y:Nd}:P_ (.tuple [.str x.1,.int x.2]) (.tuple [.str y.1,.int y.2])=true↔x=y:=by
 rw[uq,Wq]
theorem xE {r s:Rw}:P_ (mK r) (mK s)=true↔r=s:=by
 have no:∀ {w v:Str}{a b:List H_},w≠v->(P_ (.tuple (.str w::a)) (.tuple (.str v::b))=true↔False):=fun {w v a b} h=>by
  rw[Yl,Wz,q_,kM];exact⟨fun z=>h z.1,WS⟩
 cases r with
 | row a =>
  cases s with
  | row b =>
   show P_ (.tuple [.str "row",gM a]) (.tuple [.str "row",gM b])=true↔_;rw[Yl,Wz,Wz,YS,WN,q_,kM,uS];exact⟨fun z=>by rw[z.2],fun z=>⟨rfl,by injection z⟩⟩
  | af b=>exact (no (by decide +kernel)).trans ⟨WS,fun z=>nomatch z⟩
  | table w b=>exact (no (by decide +kernel)).trans ⟨WS,fun z=>nomatch z⟩
 | af a =>
  cases s with
  | row b=>exact (no (by decide +kernel)).trans ⟨WS,fun z=>nomatch z⟩
  | af b =>
   show P_ (.tuple [.str "forest",.list (iY a)]) (.tuple [.str "forest",.list (iY b)])=true↔_;rw[Yl,Wz,Wz,YS,WN,q_,kM,aaP];unfold iY;rw[gN fun _ _=>Jz];exact⟨fun z=>by rw[z.2],fun z=>⟨rfl,by injection z⟩⟩
  | table w b=>exact (no (by decide +kernel)).trans ⟨WS,fun z=>nomatch z⟩
 | table w a =>
  cases s with
  | row b=>exact (no (by decide +kernel)).trans ⟨WS,fun z=>nomatch z⟩
  | af b=>exact (no (by decide +kernel)).trans ⟨WS,fun z=>nomatch z⟩
  | table v b =>
   show P_ (.tuple [.str "table",.int w,.list (a.map gM)]) (.tuple [.str "table",.int v,.list (b.map gM)])=true↔_;rw[Yl,Wz,Wz,Wz,YS,WN,q_,q_,kM,acx,Xq,aaP,gN fun _ _=>uS];exact⟨fun z=>by rw[z.2.2,show w=v by have:=z.2.1;lia],fun z=>⟨rfl,by injection z with z1 z2;rw[z1],by injection z⟩⟩
theorem qX:∀ {ls:List (List Str)},(∀ l∈ls,∀ z∈l,ay z=true)->M_ (ls.map gM)=true
 | [],_=>by simp [M_]
 | l::ls,h=>by
  rw[o_];unfold gM;simp only[M_,WY,q_];exact⟨iH (h l (by simp)),qX fun y hy=>h y (by simp [hy])⟩
theorem qY:∀ ls:List (List Str),Wn (ls.map gM)<=1
 | []=>by simp [Wn]
 | l::ls=>by
  have:=qY ls;rw[o_];have e:(gM l).depth=1:=by unfold gM;simp only[Xh,iI]
  simp only[Wn,e]
  lia
theorem mh {r:Rw} (o:r.Ok):J_ (mK r)=true:=by
 cases r with
 | row zs =>
  unfold J_ mK gM;simp only[WY,M_,Xh,Wn,iI,iH o.1,WN];rw[q_];exact⟨by decide +kernel,by decide⟩
 | af ns =>
  have c:=dF fun n hn=>fP (g9 o.1 n hn).1
  have d:=eM ns;unfold J_ mK;simp only[WY,M_,Xh,Wn,c,WN];rw[q_];exact⟨by decide +kernel,f_ (by lia)⟩
 | table w ls =>
  have o:aU w ls:=o;have c:=qX o.NB;have d:=qY ls;unfold J_ mK;simp only[WY,M_,Xh,Wn,c,WN];rw[q_];exact⟨by decide +kernel,f_ (by lia)⟩
theorem Bq {r:Rw}{rs:List Rw} (o:r.Ok) (os:∀ s∈rs,s.Ok) {Q:Bool->Prop} (h:Q (bP (r∈rs))):vS (aB r) (.lst (rs.map aB)) Q:=by
 refine .inr ⟨rs.map aB,mK r,rs.map mK,rfl,toP_raw r,toPs_raws rs,mh o,fun e he=>?_,?_⟩
 ·obtain⟨s,hs,rfl⟩:=x_.mp he;exact mh (os s hs)
 ·have e:((rs.map mK).any fun e=>P_ e (mK r))=bP (r∈rs):=by
   refine ut ?_;rw[Zc,XM];constructor
   ·rintro⟨s,hs,q⟩;rw[←xE.mp q];exact hs
   ·exact fun hr=>⟨r,hr,xE.mpr rfl⟩
  rw[e];exact h
end
section
variable {Γ:Gm}{M:Mem}{R:Dt->Mem->Prop}
def oQ (p:cP):Prop:=∀ (r:Rw) (ps:List Int) M R,r.Ok->placesOk 0 r.many ps->R (aB (r.left ps)) M->p [aB r,.lst (ps.map .int)] M R
def oR (p:cP):Prop:=∀ (ns:List Int) (k:Nat) (zs:List Str) (r:Rw) (g:Bool),fL zs->r.Ok->xB p [iU ns,.int k,.lst (zs.map .str),aB r,.bl g] 6
theorem ww {s:Addr}{ds:List Dt}{k:Dt->Prop} (h:M s=some (.ml ds)) (q:k (.lst ds)):GL M (.dD s) k:=by
 show (match M s with | some (.ml xs)=>k (.lst xs) | some (.mo c fs xs)=>k (.obj c fs xs) | _=>False);rw[h];exact q
theorem toPs_ints:∀ ps:List Int,toPs (ps.map Dt.int)=some (ps.map acL)
 | []=>rfl
 | p::ps=>by rw[o_];unfold toPs;rw[toPs_ints ps];rfl
theorem Br {a x:Addr}{o:MO} (h:bL M a o x=none):x≠a/\M x=none:=by
 unfold bL at h;by_cases e:x=a
 ·rw[u_ e] at h;cases h
 ·rw[p_ e] at h;exact⟨e,h⟩
end
section
variable {Γ:Gm}{M:Mem}{R:Dt->Mem->Prop}
def xF (p:cP):Prop:=∀ (r:Rw) (c:Int),r.Ok->0<r.names.length->xB p [aB r,.lst (bN r),.int c] 1
theorem wx {r:Rw} (o:r.Ok):∀ z∈r.names,ay z=true:=by
 cases r with
 | row zs=>exact o.1
 | af ns =>
  intro z hz;obtain⟨n,hn,rfl⟩:=x_.mp hz;exact (g9 o.1 n hn).1
 | table w ls =>
  have o:aU w ls:=o;intro z hz;obtain⟨l,hl,hz⟩:=List.mem_flatten.mp hz;exact o.NB l hl z hz
theorem lM {r:Rw} (o:r.Ok) {i:Nat} (hi:i<r.names.length):ay (r.names.getD i "")=true:=wx o _ (getD_mem hi)
theorem lN {g:Dt->Mem->(Dt->Mem->Prop)->Prop}{K:List Dt->Mem->Prop}:∀ (is:List Nat),(∀ i∈is,∀ k:Dt->Mem->Prop,(∀ c:Bool,k (.bl c) M)->g (.int i) M k)->(∀ js:List Nat,(∀ j∈js,j∈is)->K (js.map fun j:Nat=>.int j) M) ->
  cR (fun x M K=>g x M fun d M2=>bG d fun c=>if c=true then K (some x) M2 else K none M2) (is.map fun j:Nat=>Dt.int j) M K
 | [],_,h=>h [] (fun _ z=>nomatch z)
 | i::is,hg,h=>by
  refine hg i (by simp) _ fun c=>?_
  show if c=true then _ else _
  cases c with
  | true=>exact bH rfl (lN is (fun j hj=>hg j (by simp [hj])) fun js RH=>h (i::js) fun j hj=>by rcases t_.mp hj with rfl | hj;simp;simp [RH j hj])
  | false=>exact bA (by decide) (lN is (fun j hj=>hg j (by simp [hj])) fun js RH=>h js fun j hj=>by simp [RH j hj])
theorem DH {n:Nat}:bI 0 n=(Wv n).map fun j:Nat=>Dt.int j:=by
 unfold bI;refine W5 fun k _=>?_
 rw[Wt]
theorem sF (RB:gJ (Γ.fn 24)) {r:Rw}{c:Int} (o:r.Ok) (hn:0<r.names.length) (hR:∀ f:Flt,f.Ok->f.dep<=1->R (ao f) M):Fn Γ gv [.sh (aB r),.sh (.lst (bN r)),.sh (.int c),.no,.no,.no,.no] M R:=by
 unfold gv;have Jw:=iV o;have sl:(bN r).length=r.names.length:=by unfold bN;rw[a_,Wu]
 obtain⟨i,ei,hi⟩:=aX c (show (0:Int)<(r.names.length:Nat) by lia);have hi:i<r.names.length:=by lia
 have ma:=lM o hi;symm;rw[sl,ei];refine⟨by lia,?_⟩;left;refine cM hi (uK ?_);generalize ea:r.names.getD i "" = a at ma;left;refine⟨⟨by decide,by decide⟩,by decide,?_⟩;generalize c / 40 % 4=w;left;rw[sl];refine⟨⟨by lia,by lia⟩,by rw[aj];exact sz (by lia),?_⟩;rw[n_,DH];refine lN (g:=fun x M k=>Γ.fn 24 [aB r,.lst (bN r),.int i,x] M k) _ (fun j hj k hk=>RB r i j _ _ o hi (WK.mp hj) fun c _=>hk c) fun lows NU=>?_
 left
 have uO:∀ N0,N0=(fun ρ' M'=>ex Γ ((S.ite ((C.cmp rL.gt (C.v 5) (C.i 0)).and (C.cmp rL.lt (C.bin qI.add (C.v 3) (C.i 1)) (C.v 1).len).one) ((S.ret ((C.s "before").cons ((C.v 4).cons ((((C.v 1).ix (C.bin qI.add (C.bin qI.add (C.v 3) (C.i 1)) (C.bin qI.mod (C.bin qI.fdiv (C.v 2) (C.i 160)) (C.bin qI.sub (C.bin qI.sub (C.v 1).len (C.v 3)) (C.i 1))))).ix (C.i 0)).cons C.nil))).tup).seq S.skip) S.skip).seq ((S.ret ((C.s "has").cons ((C.v 4).cons C.nil)).tup).seq S.skip)) ρ' M' { nx:=fun _ M'=>R .aJ M',rt:=R })->N0 [.sh (aB r),.sh (.lst (bN r)),.sh (.int c),.sh (.int i),.sh (.str a),.sh (.int w),.sh (.lst (lows.map fun j:Nat=>Dt.int j))] M:=fun N0 e0=>by
  rw[e0];refine sqo fun N hN=>?_
  have has:N [.sh (aB r),.sh (.lst (bN r)),.sh (.int c),.sh (.int i),.sh (.str a),.sh (.int w),.sh (.lst (lows.map fun j:Nat=>Dt.int j))] M:=by
   rw[hN];refine sqo fun N2 hN2=>?_
   exact dj (f:=.has a) (Q:=fun d=>R d M) (by unfold ao;rfl) (hR _ (by unfold Flt.Ok;exact ma) (by unfold Flt.dep;lia))
  and_intros;by_cases w0:0<w
  ·refine bH (f_ w0) ?_;rw[sl];by_cases li:(i:Int)+1<(r.names.length:Nat)
   ·refine bH (f_ li) ?_;right;rw[sl];obtain⟨q,eq,hq⟩:=aX (c / 160) (show (0:Int)<((r.names.length:Nat):Int)-(i:Int)-1 by lia);rw[eq,show (i:Int)+1+(q:Int)=((i+1+q:Nat):Int) by lia];refine⟨⟨by decide,by decide⟩,by lia,cM (by lia) (uK ?_)⟩;exact eB (f:=.before a (r.names.getD (i+1+q) "")) (Q:=fun d=>R d M) (by unfold ao;rfl) (hR _ (by unfold Flt.Ok;exact⟨ma,lM o (by lia)⟩) (by unfold Flt.dep;lia))
   ·exact bA (by rw[g_ li];decide) has
  ·exact bA (by rw[g_ w0];decide) has
 by_cases w1:w=1
 ·refine bH (f_ w1) ?_;right;refine⟨⟨by decide,by decide⟩,by rw[sl];exact sz (by lia),bD (uM a) (fun x hx K hK=>?_) ?_⟩
  ·obtain⟨k',hk,rfl⟩:=x_.mp hx;refine uK ?_;have hK:K (if r.names.getD k' "" = a then some (pW r k') else none) M:=hK;rw[show tU (.str (r.names.getD k' "")) (.str a)=fun Q=>Q (decide (r.names.getD k' "" = a)) from rfl];by_cases h:r.names.getD k' "" = a
   ·rw[u_ h] at hK;exact bH (f_ h) hK
   ·rw[p_ h] at hK;exact bA (by rw[g_ h];decide) hK
  ·rw[qT];have cp:0<r.names.count a:=abK.mpr (by rw[←ea];exact getD_mem hi);refine⟨by lia,?_⟩;exact eB (f:=.many (1+c / 160 % ((r.names.count a:Nat):Int)) a) (Q:=fun d=>R d M) (by unfold ao;rfl) (hR _ (by unfold Flt.Ok;exact ma) (by unfold Flt.dep;lia))
 refine bA (by rw[g_ w1];decide) ?_;left;by_cases w2:w=2
 ·refine bH (f_ w2) ?_;rw[a_];by_cases l0:(0:Int)<(lows.length:Nat)
  ·refine bH (f_ l0) ?_;right;rw[a_];obtain⟨q,eq,hq⟩:=aX (c / 160) l0;rw[eq];have hl:=c_ (show q<lows.length by lia);have hj:=WK.mp (NU _ (y_ hl));refine⟨⟨by decide,by decide⟩,l0,.int ((lows[q]'(by lia):Nat):Int),aN (by rw[h_,hl];rfl),cM hj (uK ?_)⟩;exact eB (f:=.under a (r.names.getD (lows[q]'(by lia)) "")) (Q:=fun d=>R d M) (by unfold ao;rfl) (hR _ (by unfold Flt.Ok;exact⟨ma,lM o hj⟩) (by unfold Flt.dep;lia))
  ·exact bA (by rw[g_ l0];decide) (uO _ hN)
 ·exact bA (by rw[g_ w2];decide) (uO _ hN)
end
section
variable {Γ:Gm}{M:Mem}{R:Dt->Mem->Prop}
theorem oS {n:Nat}:∀ {fs:List Flt},(∀ f∈fs,f.dep<=n)->su fs<=n
 | [],_=>Xn _
 | f::fs,h=>by
  unfold su;have:=h f (by simp);have:=oS (fs:=fs) fun g hg=>h g (by simp [hg])
  lia
def uT (n m:Nat) (fs:List Flt):Prop:=fs.length<=m/\(∀ f∈fs,f.Ok)/\∀ f∈fs,f.dep<=n
theorem lO {n m:Nat}{fs:List Flt} (h:uT n m fs) (hm:m<=100):(Flt.all fs).Ok/\(Flt.all fs).dep<=n+1:=by
 unfold Flt.Ok Flt.dep;have:=oS h.2.2;exact⟨⟨by have:=h.1;lia,dJ.mpr h.2.1⟩,by lia⟩
theorem sG {n m:Nat}{fs:List Flt} (h:uT n m fs) (hm:m<=100):(Flt.any fs).Ok/\(Flt.any fs).dep<=n+1:=by
 unfold Flt.Ok Flt.dep;have:=oS h.2.2;exact⟨⟨by have:=h.1;lia,dJ.mpr h.2.1⟩,by lia⟩
theorem kN {fs:List Flt}:ao (.all fs)=.tup [.str "all",.lst (fs.map ao)]:=by unfold ao;rw[cX]
theorem xG {fs:List Flt}:ao (.any fs)=.tup [.str "any",.lst (fs.map ao)]:=by unfold ao;rw[cX]
def je (p:cP):Prop:=∀ (ns:List Int) (k:Nat) (zs:List Str) (g:Bool),fL zs->xB p [iU ns,.int k,.lst (zs.map .str),.bl g] 4
theorem jH (oh:cY (Γ.fn 12)) (Ry:Bh (Γ.fn 17)) (Te:uN (Γ.fn 29)) {ns:List Int}{k:Nat}{zs:List Str}{g:Bool} (hz:fL zs) (hR:∀ f:Flt,f.Ok->f.dep<=4->R (ao f) M):Fn Γ cf [.sh (iU ns),.sh (.int k),.sh (.lst (zs.map .str)),.sh (.bl g),.no,.no,.no,.no,.no,.no,.no] M R:=by
 unfold cf;symm;refine oh _ _ _ _ (by lia) fun h=>?_
 left;refine⟨sz (by simp),?_⟩;left;refine oh _ _ _ _ (by lia) fun c1=>Ry _ _ _ fun rest=>?_
 obtain⟨t,et,ht⟩:=aX h (show (0:Int)<3 by decide);left;rw[et];refine⟨by decide,⟨by lia,by lia⟩,?_⟩;refine ax (fun i ρ M'=>M'=M/\∃ fs:List Flt,fs.length=i/\(∀ f∈fs,f.Ok)/\(∀ f∈fs,f.dep<=3)/\∃ (rs:Int) (o7 o8 o9 DI:Sl),ρ=[.sh (iU ns),.sh (.int k),.sh (.lst (zs.map .str)),.sh (.bl g),.sh (.int h),.ow (.lst (fs.map ao)),.sh (.int rs),o7,o8,o9,DI]) ⟨rfl,[],rfl,fun _ z=>(nomatch z),fun _ z=>(nomatch z),_,_,_,_,_,rfl⟩ ?_ ?_
 ·rintro i x ρ M' N' hx ⟨rfl,fs,hl,be,J2,rs,o7,o8,o9,DI,rfl⟩ eJ;obtain⟨hi,rfl⟩:=aA hx;rw[Wt];have hi:i<4:=by lia
  and_intros;right;refine⟨.inl ⟨by decide,by decide⟩,oh _ _ _ _ (by lia) fun ca=>?_⟩;subst hN2;right;refine⟨.inl ⟨by decide,by decide⟩,oh _ _ _ _ (by lia) fun cb=>?_⟩;subst hN2;refine sqo fun N2 hN2=>?_
  have tail:∀ (ca cb rs:Int),N2 [.sh (iU ns),.sh (.int k),.sh (.lst (zs.map .str)),.sh (.bl g),.sh (.int h),.ow (.lst (fs.map ao)),.sh (.int rs),.sh (.int i),.sh (.int ca),.sh (.int cb),DI] M':=fun ca cb rs=>by
   rw[hN2];refine sqo fun N3 cQ=>?_
   and_intros;refine Te ca zs g hz _ _ fun f1 k1 d1=>?_
   subst cQ;refine sqo fun N3 cQ=>?_
   have last:∀ f,f.Ok->f.dep<=3->N3 [.sh (iU ns),.sh (.int k),.sh (.lst (zs.map .str)),.sh (.bl g),.sh (.int h),.ow (.lst (fs.map ao)),.sh (.int rs),.sh (.int i),.sh (.int ca),.sh (.int cb),.sh (ao f)] M':=fun f fo fd=>by
    rw[cQ];refine sqo fun N4 i7=>?_
    and_intros;refine⟨by rw[a_];exact uE (by lia),?_⟩;subst i7;rw[show fs.map ao++[ao f]=(fs++[f]).map ao by rw[I_];rfl];refine eJ _ _ ⟨rfl,fs++[f],by simp [hl],fun x hx=>?_,fun x hx=>?_,_,_,_,_,_,rfl⟩
    ·rcases U_.mp hx with h | h
     ·exact be x h
     ·rw[D_.mp h];exact fo
    ·rcases U_.mp hx with h | h
     ·exact J2 x h
     ·rw[D_.mp h];exact fd
   and_intros;refine⟨⟨by decide,by decide⟩,by decide,?_⟩;by_cases e:ca / 256 % 3=1
   ·refine bH (f_ e) ?_;refine sqo fun N4 i7=>?_
    and_intros;refine Te cb zs g hz _ _ fun f2 k2 d2=>⟨sz (by simp),sz (by simp),?_⟩
    subst i7;have ak:=sG (n:=2) (m:=2) (fs:=[f1,f2]) ⟨by simp,fun x hx=>by simp only[t_,WM,Yu] at hx;rcases hx with rfl | rfl;exact k1;exact k2,fun x hx=>by simp only[t_,WM,Yu] at hx;rcases hx with rfl | rfl;exact d1;exact d2⟩ (by lia);have:=last (.any [f1,f2]) ak.1 ak.2;rw[xG] at this;exact this
   ·exact bA (by rw[g_ e];decide) (last f1 k1 (by lia))
  and_intros;refine⟨⟨by decide,by decide⟩,by decide,?_⟩;by_cases e:h / 216 % 2=1
  ·refine bH (f_ e) ?_;refine sqo fun N3 cQ=>?_
   and_intros;refine⟨by decide,?_⟩;subst cQ;refine sqo fun N3 cQ=>?_
   and_intros;refine⟨⟨by decide,by decide⟩,by decide,?_⟩;subst cQ;refine sqo fun N3 cQ=>?_
   and_intros;refine⟨⟨by decide,by decide⟩,⟨by decide,by decide⟩,?_⟩;subst cQ;exact tail _ _ _
  ·exact bA (by rw[g_ e];decide) (tail _ _ _)
 ·rintro ρ M' ⟨rfl,fs,hl,be,J2,rs,o7,o8,o9,DI,rfl⟩;rw[aj] at hl;have VJ:1<=fs.length/\fs.length<=3:=by lia
  left;rw[a_];by_cases e:((fs.length:Nat):Int)=1
  ·refine bH (f_ e) ?_;right;have hg:=c_ (show 0<fs.length by lia);have hm:=y_ hg;exact⟨ao (fs[0]'(by lia)),aN (j:=0) (by rw[h_,hg];rfl),hR _ (be _ hm) (by have:=J2 _ hm;lia)⟩
  ·refine bA (by rw[g_ e];decide) ?_;left;left;obtain⟨v,hv,_,ev⟩:=mU (xs:=([.str "all",.str "all",.str "any"]:List Dt)) (i:=h / 3) (m:=3) (by decide) (by decide);refine⟨sz (by simp),⟨by decide,by decide⟩,by decide,v,ev,sz (by simp),?_⟩;have ok:uT 3 3 fs:=⟨VJ.2,be,J2⟩;simp only[t_,WM,Yu] at hv;rcases hv with rfl | rfl | rfl
   ·have ak:=lO ok (by lia);have:=hR (.all fs) ak.1 ak.2;rw[kN] at this;exact this
   ·have ak:=lO ok (by lia);have:=hR (.all fs) ak.1 ak.2;rw[kN] at this;exact this
   ·have ak:=sG ok (by lia);have:=hR (.any fs) ak.1 ak.2;rw[xG] at this;exact this
end
section
variable {Γ:Gm}{M:Mem}{R:Dt->Mem->Prop}
theorem NV {f:Flt}:ao (.not f)=.tup [.str "not",ao f]:=by rw[ao]
theorem sH {n:Nat}{f h:Flt} (f1:f.Ok) (f2:f.dep<=n) (h1:h.Ok) (h2:h.dep<=n):uT n 2 [f,h] :=
 ⟨by simp,fun x hx=>by simp only[t_,WM,Yu] at hx;rcases hx with rfl | rfl;exact f1;exact h1,fun x hx=>by simp only[t_,WM,Yu] at hx;rcases hx with rfl | rfl;exact f2;exact h2⟩
theorem mL (oh:cY (Γ.fn 12)) (J1:di (Γ.fn 23)) (Jy:eU 4 (Γ.fn 27)) (VL:je (Γ.fn 30)) (Tf:xF (Γ.fn 31)) {ns:List Int}{k:Nat}{zs:List Str}{r:Rw}{g:Bool} (hz:fL zs) (o:r.Ok) (hR:∀ f:Flt,f.Ok->f.dep<=6->R (ao f) M):Fn Γ dz [.sh (iU ns),.sh (.int k),.sh (.lst (zs.map .str)),.sh (aB r),.sh (.bl g),.no,.no,.no,.no,.no,.no,.no] M R:=by
 unfold dz;have Jw:=iV o;have sl:(bN r).length=r.names.length:=by unfold bN;rw[a_,Wu]
 symm;refine oh _ _ _ _ (by lia) fun h=>?_
 left;refine VL ns k zs g hz _ _ fun f of fd=>?_
 left;refine J1 r _ _ o ?_;left;refine⟨⟨by decide,by decide⟩,by decide,?_⟩;generalize h / 9 % 8=w;left;rw[sl];by_cases e0:((r.names.length:Nat):Int)=0
 ·refine bH (f_ e0) ?_;refine sqo fun N2 hN2=>?_
  exact hR f of (by lia)
 have hn:0<r.names.length:=by lia
 refine bA (by rw[g_ e0];decide) ?_;by_cases e7:w=7
 ·refine bH (f_ e7) ?_;refine sqo fun N2 hN2=>?_
  exact hR f of (by lia)
 refine bA (by rw[g_ e7];decide) ?_;left;refine⟨sz (by simp),?_⟩;obtain⟨t,et,ht⟩:=aX (h / 72) (show (0:Int)<5 by decide);left;rw[et];refine⟨⟨by decide,by decide⟩,by decide,⟨by lia,by lia⟩,?_⟩;refine ax (fun i ρ M'=>M'=M/\∃ fs:List Flt,uT 1 i fs/\∃ DI:Sl,ρ=[.sh (iU ns),.sh (.int k),.sh (.lst (zs.map .str)),.sh (aB r),.sh (.bl g),.sh (.int h),.sh (ao f),.sh (.lst (bN r)),.sh (.int w),.ow (.lst (fs.map ao)),DI,.no]) ⟨rfl,[],⟨by simp,fun _ z=>(nomatch z),fun _ z=>(nomatch z)⟩,_,rfl⟩ ?_ ?_
 ·rintro i x ρ M' N' hx ⟨rfl,fs,⟨hl,be,J2⟩,DI,rfl⟩ eJ;obtain⟨hi,rfl⟩:=aA hx;rw[Wt];have hi:i<7:=by lia
  and_intros;right;refine oh _ _ _ _ (by lia) fun ca=>?_
  and_intros;refine⟨.inl ⟨by decide,by decide⟩,Tf r _ o hn _ _ fun f' RI OQ=>⟨by rw[a_];exact uE (by lia),?_⟩⟩;subst hN2;rw[show fs.map ao++[ao f']=(fs++[f']).map ao by rw[I_];rfl];refine eJ _ _ ⟨rfl,fs++[f'],⟨by simp;lia,fun x hx=>?_,fun x hx=>?_⟩,_,rfl⟩
  ·rcases U_.mp hx with h | h
   ·exact be x h
   ·rw[D_.mp h];exact RI
  ·rcases U_.mp hx with h | h
   ·exact J2 x h
   ·rw[D_.mp h];exact OQ
 ·rintro ρ M' ⟨rfl,fs,JA,DI,rfl⟩;rw[aj] at JA;have JA:uT 1 10 fs:=⟨by have:=JA.1;lia,JA.2⟩;have ak:=lO JA (by lia);subst hN;refine sqo fun N hN=>?_
  have rest:N [.sh (iU ns),.sh (.int k),.sh (.lst (zs.map .str)),.sh (aB r),.sh (.bl g),.sh (.int h),.sh (ao f),.sh (.lst (bN r)),.sh (.int w),.ow (.lst (fs.map ao)),DI,.no] M':=by
   rw[hN];symm;by_cases e4:w<4
   ·refine bH (f_ e4) ?_;right;subst hN2;refine sqo fun N2 hN2=>?_
    exact dj (f:=.all fs) (Q:=fun d=>R d M') kN (hR _ ak.1 (by have:=ak.2;lia))
   refine bA (by rw[g_ e4];decide) ?_;left;by_cases e5:w=4
   ·refine bH (f_ e5) ?_;right;subst hN2;right;refine⟨sz (by simp),sz (by simp),?_⟩;have bk:=sG (sH (n:=4) of fd ak.1 (by have:=ak.2;lia)) (by lia);exact dj (f:=.any [f,.all fs]) (Q:=fun d=>R d M') (by rw[xG,o_,o_,Xg,kN]) (hR _ bk.1 (by have:=bk.2;lia))
   refine bA (by rw[g_ e5];decide) ?_;left;by_cases e6:w=5
   ·refine bH (f_ e6) ?_;right;subst hN2;right;refine⟨sz (by simp),sz (by simp),?_⟩;have bk:=lO (sH (n:=4) ak.1 (by have:=ak.2;lia) of fd) (by lia);exact dj (f:=.all [.all fs,f]) (Q:=fun d=>R d M') (by rw[kN,o_,o_,Xg,kN]) (hR _ bk.1 (by have:=bk.2;lia))
   refine bA (by rw[g_ e6];decide) ?_;left;refine⟨⟨by decide,by decide⟩,by rw[aj];exact sz (by decide),?_⟩;refine iF (P:=fun d=>∃ f':Flt,d=ao f'/\f'.Ok/\f'.dep<=1) (fun x hx K hK=>?_) fun ds yP hP=>?_
   ·obtain⟨q,VM⟩:=V_.mp hx;obtain⟨hq,rfl⟩:=aA VM;rw[Wt];and_intros;refine oh _ _ _ _ (by lia) fun ca=>?_
    and_intros;exact⟨.inl ⟨by decide,by decide⟩,Tf r _ o hn _ _ fun f' RI OQ=>hK _ ⟨f',rfl,RI,OQ⟩⟩
   ·obtain⟨gs,rfl,VN⟩:∃ gs:List Flt,ds=gs.map ao/\uT 1 2 gs:=by
     rw[aj] at yP
     have:∀ {es:List Dt},(∀ d∈es,∃ f':Flt,d=ao f'/\f'.Ok/\f'.dep<=1)->∃ gs:List Flt,es=gs.map ao/\(∀ f'∈gs,f'.Ok)/\∀ f'∈gs,f'.dep<=1:=fun {es}=>by
      induction es with
      | nil=>exact fun _=>⟨[],rfl,fun _ z=>(nomatch z),fun _ z=>nomatch z⟩
      | cons d es ih =>
       intro hP;obtain⟨f',rfl,q1,q2⟩:=hP d (by simp);obtain⟨gs,rfl,q3,q4⟩:=ih fun e he=>hP e (by simp [he])
       refine⟨f'::gs,rfl,fun x hx=>?_,fun x hx=>?_⟩
       ·rcases t_.mp hx with rfl | hx;exact q1;exact q3 x hx
       ·rcases t_.mp hx with rfl | hx;exact q2;exact q4 x hx
     obtain⟨gs,rfl,q3,q4⟩:=this hP;rw[a_] at yP;exact⟨gs,rfl,by rw[yP];decide,q3,q4⟩
    have gk:=lO VN (by lia);left;left;refine⟨sz (by simp),sz (by simp),sz (by simp),?_⟩;have bk:=sG (sH (n:=2) ak.1 ak.2 gk.1 gk.2) (by lia);exact dj (f:=.any [.all fs,.all gs]) (Q:=fun d=>R d M') (by rw[xG,o_,o_,Xg,kN,kN]) (hR _ bk.1 (by have:=bk.2;lia))
  and_intros
  cases g with
  | true=>exact rest
  | false =>
   refine bH rfl ?_;by_cases e1:w=1
   ·refine bH (f_ e1) (Jy f r _ _ of o fd fun c hc=>?_)
    cases c with
    | true=>exact rest
    | false =>
     and_intros;right;refine⟨sz (by simp),sz (by simp),?_⟩;rw[ur (n:=5) (i:=5) rfl,←Zs];refine⟨by rw[a_];refine sz ?_;have:=abm 5 fs;simp;lia,?_⟩
     have nk:uT 5 11 (fs.take 5++[.not f]):=⟨by have:=abm 5 fs;simp;lia,fun x hx=>by
      rcases U_.mp hx with h | h
      ·exact JA.2.1 x (WQ h)
      ·rw[D_.mp h];unfold Flt.Ok;exact of,fun x hx=>by
      rcases U_.mp hx with h | h
      ·have:=JA.2.2 x (WQ h);lia
      ·rw[D_.mp h];unfold Flt.dep;lia⟩
     have bk:=lO nk (by lia);exact dj (f:=.all (fs.take 5++[.not f])) (Q:=fun d=>R d M') (by rw[kN,I_,o_,Xg,NV]) (hR _ bk.1 bk.2)
   ·exact bA (by rw[g_ e1];decide) rest
end
section
variable {Γ:Gm}{M:Mem}{R:Dt->Mem->Prop}
noncomputable def RJ (zs:List Str):Dt->Dt | .int q=>.str (atS zs q) | _=>.aJ
noncomputable def qZ (ls:List (List Str)):Dt->k_ Dt
 | .int q=>if q<(ls.length:Int) then some (aT (ls.getD q.toNat [])) else none
 | _=>none
theorem q8 {ls:List (List Str)}:∀ {ps:List Int},(ps.map Dt.int).filterMap (qZ ls)=(linesOf ls.length ps).map fun q=>aT (ls.getD q.toNat [])
 | []=>rfl
 | q::ps=>by
  have ih:=q8 (ls:=ls) (ps:=ps);unfold SH.linesOf at ih ⊢;rw[o_,Ww,Xd,ih];by_cases h:q<(ls.length:Int)
  ·rw[show qZ ls (.int q)=some (aT (ls.getD q.toNat [])) from u_ h,u_ (by simpa using h)];rfl
  ·rw[show qZ ls (.int q)=none from p_ h,p_ (by simpa using h)]
noncomputable def markL (qs:List Int):Dt->Dt
 | .lst ds=>.lst (qs.map fun q=>ds.getD q.toNat .aJ)
 | _=>.aJ
theorem oT {qs:List Int}{l:List Str} (h:∀ j∈qs,0<=j/\j<(l.length:Int)):markL qs (aT l)=aT (qs.map (atS l)):=lH (l:=l) h
theorem iJ {r:Rw}{ps:List Int} (o:r.Ok) (hp:placesOk 0 r.many ps) (VO:∀ ns,r≠.af ns) (hR:R (aB (r.left ps)) M):Fn Γ cn [.sh (aB r),.sh (.lst (ps.map .int)),.no,.no,.no,.no,.no,.no,.no] M R:=by
 unfold cn
 cases r with
 | af ns=>exact absurd rfl (VO ns)
 | row zs =>
  have pa:=aO hp;have pl:((ps.length:Nat):Int)<=(zs.length:Nat)-0:=places_len hp (by lia);have o2:=o.2;symm;refine dB rfl ?_;right;refine⟨by rw[a_];exact sz (by lia),comp_map (RJ zs) (fun x hx K hK=>?_) ⟨sz (by simp),?_⟩⟩
  ·obtain⟨q,hq,rfl⟩:=x_.mp hx;obtain⟨h0,h1⟩:=pa q hq;exact⟨_,rfl,_,K18.dq h0 h1,hK⟩
  ·rw[L_];show R (.tup [.str "row",.lst (ps.map fun q=>.str (atS zs q))]) M
   have e:aB ((Rw.row zs).left ps)=.tup [.str "row",.lst (ps.map fun q=>.str (atS zs q))]:=by
    show Dt.tup [.str "row",.lst ((ps.map (atS zs)).map .str)]=_;rw[L_];rfl
   rw[e] at hR;exact hR
 | table w ls =>
  have kW:placesOk 0 ((ls.length:Int)+(w:Int)) ps:=by have:=hp;rwa [show ((Rw.table w ls).many:Int)=(ls.length:Int)+(w:Int) from XZ _ _] at this
  have pl:=places_len kW (by lia);have la:=hG (n:=ls.length) kW;have ca:=ji kW;have o:aU w ls:=o;have o1:=o.len;have o2:=o.BR;have l1:=eO (n:=ls.length) kW;have l2:=fR (n:=ls.length) kW;symm;refine cL 2 (by decide +kernel) rfl ?_;left;refine dB rfl ?_;right;refine⟨by rw[a_];exact sz (by lia),bD (sr ls.length) (fun x hx K hK=>?_) ?_⟩
  ·obtain⟨q,hq,rfl⟩:=x_.mp hx;refine⟨_,rfl,?_⟩;and_intros;rw[a_];by_cases h:(ls.length:Int)<=q
   ·refine bH (f_ h) ⟨_,rfl,?_⟩;and_intros;rw[a_];rw[show sr ls.length (.int q)=some (.int (q-ls.length)) from u_ h] at hK;exact hK
   ·refine bA (by rw[g_ h];decide) ?_;rw[show sr ls.length (.int q)=none from p_ h] at hK;exact hK
  rw[om];subst hN2;right;refine⟨by rw[a_];exact sz (by lia),bD (qZ ls) (fun x hx K hK=>?_) ?_⟩
  ·obtain⟨q,hq,rfl⟩:=x_.mp hx;have:=aO kW q hq;refine⟨_,rfl,?_⟩;and_intros;rw[a_];by_cases h:q<(ls.length:Int)
   ·refine bH (f_ h) ⟨_,rfl,aT (ls.getD q.toNat []),?_,?_⟩
    ·obtain⟨n,rfl⟩:=WL this.1;rw[n_];refine aN ?_;rw[h_,c_ (show n<ls.length by lia),getD_some (c_ (show n<ls.length by lia))];rfl
    ·rw[show qZ ls (.int q)=some (aT (ls.getD q.toNat [])) from u_ h] at hK;exact hK
   ·refine bA (by rw[g_ h];decide) ?_;rw[show qZ ls (.int q)=none from p_ h] at hK;exact hK
  rw[q8];subst hN2;right;refine⟨by rw[a_];exact sz (by lia),comp_map (markL (cw ls.length ps)) (fun x hx K hK=>?_) ⟨sz (by simp),?_⟩⟩
  ·obtain⟨q,hq,rfl⟩:=x_.mp hx;have:=la q hq;have hm:=getD_mem (xs:=ls) (i:=q.toNat) (a:=[]) (by lia);have hw:=o.jO _ hm;refine⟨by rw[a_];exact sz (by lia),comp_map (RJ (ls.getD q.toNat [])) (fun y hy K' VP=>?_) ?_⟩
   ·obtain⟨j,hj,rfl⟩:=x_.mp hy;have:=ca j hj;exact⟨_,K18.dq (zs:=ls.getD q.toNat []) (by lia) (by lia),VP⟩
   ·rw[oT fun j hj=>by have:=ca j hj;lia] at hK
    have e:((cw ls.length ps).map Dt.int).map (RJ (ls.getD q.toNat []))=((cw ls.length ps).map (atS (ls.getD q.toNat []))).map .str:=by
     rw[L_,L_];rfl
    rw[e];exact hK
  ·have e:((linesOf ls.length ps).map fun q=>aT (ls.getD q.toNat [])).map (markL (cw ls.length ps))=(ul ls ps).map aT:=by
    unfold ul;rw[L_,L_];refine W5 fun q hq=>oT fun j hj=>?_
    have:=la q hq;have:=ca j hj;have hw:=o.jO _ (getD_mem (xs:=ls) (i:=q.toNat) (a:=[]) (by lia))
    lia
   rw[e,a_];exact hR
end
section
variable {Γ:Gm}{M:Mem}{R:Dt->Mem->Prop}
theorem xH {ns:List Nd} (hd:aQ 0 ns):∀ i,i<=ns.length->(∀ t j:Nat,(way (ns.take i))[t]? = some (j:Int)->(ns.getD j ("",0)).2=(t:Int))/\∀ j:Nat,(j:Int)∈way (ns.take i)↔j<i/\∀ x,j<x->x<i->(ns.getD j ("",0)).2<(ns.getD x ("",0)).2:=by
 intro i
 induction i with
 | zero =>
  intro _;rw[Xj];exact⟨fun t j h=>(nomatch h),fun j=>⟨fun h=>(nomatch h),fun h=>absurd h.1 (Nat.not_lt_zero _)⟩⟩
 | succ i ih =>
  intro hi;obtain⟨K3,Ow⟩:=ih (by lia);have hn:ns[i]? = some ns[i]:=c_ (by lia);have hf:=z0 hd hn;have ge:ns.getD i ("",0)=ns[i]:=by rw[A_,hn];rfl
  rw[hJ hn] at hf;rw[dc hn];refine⟨fun t j h=>?_,fun j=>?_⟩
  ·rw[List.getElem?_append] at h;by_cases ht:t<((way (ns.take i)).take ns[i].2.toNat).length
   ·rw[u_ ht,abJ] at h;split at h
    ·exact K3 t j h
    ·exact nomatch h
   ·rw[p_ ht] at h
    have h0:t-((way (ns.take i)).take ns[i].2.toNat).length=0:=by
     rcases YU (t-((way (ns.take i)).take ns[i].2.toNat).length) with h1 | h1
     ·exact h1
     ·rw[WI (by rw[Ws];lia)] at h;exact nomatch h
    rw[h0] at h;have ej:(i:Int)=(j:Int):=by simpa using h
    have:j=i:=by lia
    subst this;rw[ge]
    lia
  ·rw[U_,D_];constructor
   ·rintro (h | h)
    ·obtain⟨t,ht,e⟩:=Xv.mp h
     have e1:(way (ns.take i))[t]? = some (j:Int):=by
      rw[ab6] at e;rw[Wp] at ht;rw[c_ (by lia),e]
     have d1:=K3 t j e1;obtain⟨h1,h2⟩:=(Ow j).mp (WQ h);refine⟨by lia,fun x hx Wl=>?_⟩;rcases Xa x i with OR | OR
     ·exact h2 x hx OR
     ·have:x=i:=by lia
      subst this;rw[ge,d1];rw[Wp] at ht
      lia
    ·have:j=i:=by lia
     subst this;exact⟨by lia,fun x h1 h2=>by lia⟩
   ·rintro⟨h1,h2⟩;rcases Xa j i with hj | hj
    ·refine .inl ?_;have hm:=(Ow j).mpr ⟨hj,fun x a b=>h2 x a (by lia)⟩;obtain⟨t,ht,e⟩:=Xv.mp hm;have e1:(way (ns.take i))[t]? = some (j:Int):=by rw[c_ ht,e]
     have d1:=K3 t j e1;have d2:=h2 i hj (by lia);rw[ge,d1] at d2;refine Xv.mpr ⟨t,by rw[Wp];lia,?_⟩;rw[ab6];exact e
    ·refine .inr ?_;have:j=i:=by lia
     rw[this]
theorem DJ {ns:List Nd} (hd:aQ 0 ns) {k:Nat} (hk:k<ns.length) (j:Nat):(j:Int)∈pp ns k↔j<k/\∀ x,j<x->x<=k->(ns.getD j ("",0)).2<(ns.getD x ("",0)).2:=by
 have hn:ns[k]? = some ns[k]:=c_ hk;have h1:=(xH hd (k+1) (by lia)).2 j;rw[dc hn,U_,D_,←hJ hn] at h1;constructor
 ·intro h;have hj:=(((xH hd k (W0 hk)).2 j).mp (WQ (by rw[hJ hn] at h;exact h))).1;exact⟨hj,fun x a b=>(h1.mp (.inl h)).2 x a (by lia)⟩
 ·rintro⟨a,b⟩;rcases h1.mpr ⟨by lia,fun x c d=>b x c (by lia)⟩ with h | h
  ·exact h
  ·lia
theorem wy {ns:List Nd}:∀ i,i<=ns.length->(way (ns.take i)).Pairwise (·<·):=by
 intro i
 induction i with
 | zero=>intro _;rw[Xj];exact Y8
 | succ i ih =>
  intro hi;rw[dc (c_ (by lia:i<ns.length)),abb];refine⟨(ih (by lia)).sublist (Z5 _ _),List.pairwise_singleton _ _,fun x hx y hy=>?_⟩;rw[D_.mp hy];exact (wY i (by lia) x (WQ hx)).2
theorem wz {ns:List Nd}{k:Nat} (hk:k<ns.length):(pp ns k).Pairwise (·<·):=by
 rw[hJ (c_ hk)];exact (wy k (by lia)).sublist (Z5 _ _)
theorem uU {P:Int->Bool}{j:Int}:∀ {l:List Int},l.Pairwise (·<·)->(l.filter fun q=>P q&&decide (j<=q)).length=(l.filter fun q=>P q&&decide (j+1<=q)).length+(if j∈l/\P j=true then 1 else 0)
 | [],_=>by simp
 | x::l,h=>by
  obtain⟨h1,h2⟩:=YR.mp h;have ih:=uU (P:=P) (j:=j) h2;rw[Xd,Xd];rcases Int.lt_trichotomy x j with hx | hx | hx
  ·rw[p_ (by rw[g_ (by lia)];simp),p_ (by rw[g_ (by lia)];simp),ih];congr 1;by_cases e:j∈l/\P j=true
   ·rw[u_ e,u_ ⟨by simp [e.1],e.2⟩]
   ·rw[p_ e,p_ fun z=>e ⟨by rcases t_.mp z.1 with q | q;lia;exact q,z.2⟩]
  ·subst hx;have nm:x∉l:=fun z=>by have:=h1 x z;lia
   have f1:(P x&&decide (x<=x))=P x:=by simp
   have f2:(P x&&decide (x+1<=x))=false:=by rw[g_ (by lia)];simp
   have g1:(if x∈l/\P x=true then 1 else 0)=0:=p_ fun z=>nm z.1
   rw[g1] at ih;rw[f1,f2,p_ s_]
   cases e:P x with
   | true =>
    have g2:(if x∈x::l/\true=true then 1 else 0)=1:=u_ ⟨by simp,rfl⟩;rw[g2,u_ rfl,G_,ih]
   | false =>
    have g2:(if x∈x::l/\false=true then 1 else 0)=0:=p_ fun z=>nomatch z.2
    rw[g2,p_ s_,ih]
  ·have f1:(P x&&decide (j<=x))=P x:=by rw[f_ (by lia)];simp
   have f2:(P x&&decide (j+1<=x))=P x:=by rw[f_ (by lia)];simp
   have nm:j∉x::l:=fun z=>by rcases t_.mp z with q | q;lia;have:=h1 j q;lia
   have g1:(if j∈l/\P j=true then 1 else 0)=0:=p_ fun z=>nm (by simp [z.1])
   have g2:(if j∈x::l/\P j=true then 1 else 0)=0:=p_ fun z=>nm z.1
   rw[g1] at ih;rw[f1,f2,g2]
   cases e:P x with
   | true=>rw[u_ rfl,u_ rfl,G_,G_,ih]
   | false=>rw[p_ s_,p_ s_,ih]
theorem Bt {x:Int}{zs:List Int}{Q:Bool->Prop} (h:Q (decide (x∈zs))):vS (.int x) (.lst (zs.map .int)) Q:=by
 refine .inl ⟨zs.map .int,rfl,rfl,by rw[X2];exact Wm.mpr fun _ _=>rfl,?_⟩;rw[Zc]
 have e:(zs.any ((fun z=>JX z (.int x)) ∘ Dt.int))=decide (x∈zs):=by
  rw[W9,XM,Wq];constructor
  ·rintro⟨z,h1,h2⟩;have h2:(z==x)=true:=h2;rw[←Xq.mp h2];exact h1
  ·intro h1;exact⟨x,h1,show (x==x)=true from X6 x⟩
 rw[e];exact h
theorem qd {ns:List Nd}{ps:List Int} (o:(Rw.af ns).Ok) (hp:placesOk 0 (Rw.af ns).many ps) (hR:R (aB ((Rw.af ns).left ps)) M):Fn Γ cn [.sh (aB (.af ns)),.sh (.lst (ps.map .int)),.no,.no,.no,.no,.no,.no,.no] M R:=by
 unfold cn;have hp:placesOk 0 (ns.length:Nat) ps:=hp;have pa:=aO hp;have pl:=places_len hp (by lia);have EG:ns.length<=40:=o.2;symm;refine cL 1 (by decide +kernel) rfl ?_;left;refine cL 1 (by decide +kernel) rfl ?_;left;refine⟨sz (by simp),?_⟩;left;refine ax (fun i ρ M'=>M'=M/\∃ o5 o6 o7 o8,ρ=[.sh (aB (.af ns)),.sh (.lst (ps.map .int)),.no,.no,.ow (.lst (((ps.take i).map (dZ ns ps)).map aF)),o5,o6,o7,o8]) ⟨rfl,_,_,_,_,rfl⟩ ?_ ?_
 ·rintro i x ρ M' N' hx ⟨rfl,o5,o6,o7,o8,rfl⟩ eJ;rw[h_] at hx;obtain⟨p,Tg,rfl⟩:=m_.mp hx;have pm:=y_ Tg;obtain⟨p0,p1⟩:=pa p pm;obtain⟨m,rfl⟩:=WL p0;have hm:m<ns.length:=by lia
  have wu:∀ {q:Nat},q<ns.length->∀ {k:Dt->Prop},k (aF (ns.getD q ("",0)))->jM (.lst (ns.map aF)) q k:=fun {q} hq {k} h=>⟨_,aN (by rw[h_,c_ hq,getD_some (c_ hq)];rfl),h⟩
  and_intros;right;refine⟨_,rfl,wu hm (um ?_)⟩;subst hN2;right;subst hN2;right;refine⟨by lia,by lia,?_⟩;rw[n_];have dep:∀ q,(ns.getD q ("",0)).2=(ns.getD q ("",0)).2:=fun _=>rfl
  refine ax (fun t ρ Bm=>Bm=M'/\t<=m/\∃ (D:Int) (o8:Sl),(∀ x,m-t<=x->x<=m->D<=(ns.getD x ("",0)).2)/\(∃ x,m-t<=x/\x<=m/\(ns.getD x ("",0)).2=D)/\ρ=[.sh (aB (.af ns)),.sh (.lst (ps.map .int)),.no,.no,.ow (.lst (((ps.take i).map (dZ ns ps)).map aF)),.sh (.int m),.sh (.int D),.sh (.int (((pp ns m).filter fun q=>decide (q∈ps)&&decide (((m-t:Nat):Int)<=q)).length:Nat)),o8]) ⟨rfl,Xn _,(ns.getD m ("",0)).2,o8,?_,⟨m,by lia,w_ _,rfl⟩,?_⟩ ?_ ?_
  ·intro x h1 h2;have:x=m:=by lia
   subst this;exact abd _
  ·have e:(pp ns m).filter (fun q=>decide (q∈ps)&&decide (((m-0:Nat):Int)<=q))=[]:=by
    rw[Yh];intro q hq;have:=w4 (W0 hm) q hq;rw[g_ (show ¬ ((m-0:Nat):Int)<=q by lia)];simp
   rw[e];rfl
  ·rintro t x ρ Bm N3 tL ⟨rfl,ht,D,o8,d1,⟨y,y1,y2,y3⟩,rfl⟩ cQ;have VQ:t<m:=by have:=(i_.mp tL).1;rwa [ZJ,aj] at this
   have ex:x=.int ((m-t-1:Nat):Int):=by
    rw[aaU (by rw[aj];exact VQ),aj] at tL;obtain⟨_,e⟩:=aA tL;rw[e,Wt,show m-1-t=m-t-1 by lia]
   subst ex;generalize hj:m-t-1=j at *;have Ti:j<ns.length:=by lia
   have NW:(j:Int)∈pp ns m↔(ns.getD j ("",0)).2<D:=by
    rw[DJ o.1 hm];constructor
    ·rintro⟨_,q⟩;rw[←y3];exact q y (by lia) y2
    ·intro q;exact⟨by lia,fun x x1 x2=>by have:=d1 x (by lia) x2;lia⟩
   have st:=uU (P:=fun q=>decide (q∈ps)) (j:=(j:Int)) (wz hm);rw[show (j:Int)+1=((m-t:Nat):Int) by lia] at st;and_intros;refine sqo fun N4 i7=>?_
   and_intros;refine⟨_,rfl,wu Ti (um ?_)⟩;and_intros;have e1:m-(t+1)=j:=by lia
   by_cases lt:(ns.getD j ("",0)).2<D
   ·refine bH (f_ lt) ?_;refine sqo fun N5 Jx=>?_
    and_intros;refine⟨_,rfl,wu Ti (um ?_)⟩;subst Jx;refine sqo fun N5 Jx=>?_
    and_intros;refine Bt ?_;and_intros;subst Jx;subst i7;refine cQ _ _ ⟨rfl,by lia,_,.sh (.int j),fun x x1 x2=>?_,⟨j,by lia,by lia,rfl⟩,?_⟩
    ·rcases Xa j x with q | q
     ·have:=d1 x (by lia) x2;lia
     ·have:x=j:=by lia
      subst this;exact abd _
    ·rw[st];have q:=NW.mpr lt;by_cases hk:(j:Int)∈ps
     ·rw[u_ (f_ hk),u_ ⟨q,f_ hk⟩];rfl
     ·rw[p_ (by rw[g_ hk];decide),p_ fun z=>by rw[g_ hk] at z;exact nomatch z.2];simp
   ·refine bA (by rw[g_ lt];decide) ?_;subst i7;refine cQ _ _ ⟨rfl,by lia,D,.sh (.int j),fun x x1 x2=>?_,⟨y,by lia,y2,y3⟩,?_⟩
    ·rcases Xa j x with q | q
     ·exact d1 x (by lia) x2
     ·have:x=j:=by lia
      subst this;lia
    ·rw[st,p_ fun z=>lt (NW.mp z.1),Ze]
  ·rintro ρ Bm ⟨rfl,_,D,o8,_,_,rfl⟩;rw[ZJ,aj];subst hN2;refine sqo fun N4 i7=>?_
   and_intros;refine⟨_,rfl,wu hm (DD ⟨sz (by simp),by rw[a_,a_,Wp];exact uE (by lia),?_⟩)⟩;subst i7
   have e2:(pp ns m).filter (fun q=>decide (q∈ps)&&decide (((m-m:Nat):Int)<=q))=kept ps (pp ns m):=by
    unfold kept;refine List.filter_congr fun q hq=>?_
    have:=w4 (W0 hm) q hq;rw[f_ (show ((m-m:Nat):Int)<=q by lia),WN]
   rw[e2]
   have e3:((ps.take i).map (dZ ns ps)).map aF++[.tup [.str (ns.getD m ("",0)).1,.int ((kept ps (pp ns m)).length:Nat)]]=((ps.take (i+1)).map (dZ ns ps)).map aF:=by
    rw[er Tg,I_,I_];rfl
   rw[e3];exact eJ _ _ ⟨rfl,_,_,_,_,rfl⟩
 ·rintro ρ M' ⟨rfl,o5,o6,o7,o8,rfl⟩;rw[a_,X8];left;left;exact⟨sz (by simp),hR⟩
theorem uV {r:Rw}{ps:List Int} (o:r.Ok) (hp:placesOk 0 r.many ps) (hR:R (aB (r.left ps)) M):Fn Γ cn [.sh (aB r),.sh (.lst (ps.map .int)),.no,.no,.no,.no,.no,.no,.no] M R:=by
 cases r with
 | af ns=>exact qd o hp hR
 | row zs=>exact iJ o hp (fun _ z=>nomatch z) hR
 | table w ls=>exact iJ o hp (fun _ z=>nomatch z) hR
end
section
variable {Γ:Gm}{M:Mem}{R:Dt->Mem->Prop}
theorem kP {α:Type}{g:α->Dt}:∀ {xs:List α},(∀ x∈xs,lh (g x)=true)->hV (xs.map g)=true
 | [],_=>by unfold List.map hV;rfl
 | x::xs,h=>by
  rw[o_];unfold hV;rw[h x (by simp),kP fun y hy=>h y (by simp [hy])];rfl
theorem sI {ps:List Int}:hV (ps.map .int)=true:=kP fun _ _=>by unfold lh;rfl
theorem iW {a:Addr}{m:MO} (h:tT M) (o:Sy m=true):tT (bL M a m):=fun x u e=>by
 unfold bL at e;by_cases z:x=a
 ·rw[u_ z] at e;cases e;exact o
 ·rw[p_ z] at e;exact h x u e
theorem Bu {d e:Dt} (h:lh d=true) (h':lh e=true):lh (.tup [d,e])=true:=by
 unfold lh hV hV hV;rw[h,h'];rfl
theorem re {b:Bool}:lh (.bl b)=true:=by unfold lh;rfl
theorem RK {r:Rw}{f:Flt}{ps:List Int}:lh (qD r f ps)=true:=Bu (by unfold lh;exact sI) re
theorem sJ {r:Rw}{f:Flt}{a b:Addr}{qs:List (List Int)} (h:tT M):tT (qb M r f a b qs):=by
 refine iW (iW h ?_) (kP fun _ _=>RK);show (lL f (qs.map r.left)).all (fun p=>lh p.2)=true;unfold lL;rw[X2];exact Wm.mpr fun x _=>re (b:=bP (f.holds x))
noncomputable abbrev Itm:=Addr×List Int×Bool
noncomputable def oU (c:Itm):Dt:=.tup [.dD c.1,.bl c.2.2]
noncomputable def jI (c:List Int×Bool):Dt:=.tup [.lst (c.1.map .int),.bl c.2]
structure ER (M M':Mem) (p:Addr) (ai:List Itm):Prop where
 keep:∀ x,M x≠none->M' x=M x
 cell:∀ c∈ai,M c.1=none/\M' c.1=some (.ml (c.2.1.map .int))/\c.1≠p
 top:M' p=some (.ml (ai.map oU))
 pn:M p=none
 lf:tT M->tT M'
noncomputable def ES (r:Rw) (f:Flt) (ps:List Int):List Int×Bool:=(ps,bP (f.holds (r.left ps)))
def ET (p:cP):Prop:=∀ (r:Rw) (f:Flt) (a b:Addr) (qs:List (List Int)) M R,fM M r f a b qs->qs.length<=90->(∀ M' q ai,ER M M' q ai->ai.map (·.2)=qs.map (ES r f)->R (.dD q) M')->p [dk r f a b] M R
theorem uW (g:GB Γ) {r:Rw}{f:Flt}{a b:Addr}{qs:List (List Int)} (st:fM M r f a b qs) (h9:qs.length<=90) (hR:∀ M' q ai,ER M M' q ai->ai.map (·.2)=qs.map (ES r f)->R (.dD q) M'):Fn Γ ie [.sh (dk r f a b)] M R:=by
 unfold ie;obtain⟨BI,ha,hb⟩:=st;symm;refine RF g (kL hb ⟨by rw[a_];exact W0 (uE (Q_ h9 (by decide))),?_⟩);have kb:∀ {M1:Mem},(∀ x,M x≠none->M1 x=M x)->M1 b=some (.ml (qs.map (qD r f))):=fun k=>by rw[k b (by rw[hb];exact fun z=>nomatch z)];exact hb
 suffices go:∀ (l:List (List Int)) (M1:Mem) (K:Rt),(∀ x,M x≠none->M1 x=M x)->(∀ M2 (ai:List Itm),ai.map (·.2)=l.map (ES r f)->(∀ c∈ai,M1 c.1=none/\M2 c.1=some (.ml (c.2.1.map .int)))->(∀ x,M1 x≠none->M2 x=M1 x)->(tT M1->tT M2)->K (ai.map oU) M2)->cR _ (l.map (qD r f)) M1 K from
  go qs M _ (fun _ _=>rfl) fun M2 ai e1 e2 e3 e4=>⟨kb e3,fun q hq=>hR _ q ai ⟨fun x hx=>by rw[cO fun z=>hx (by rw[z];by_cases y:M q=none;exact y;rw[e3 q y] at hq;exact hq)];exact e3 x hx,fun c hc=>⟨(e2 c hc).1,by rw[cO fun z=>by rw[←z,(e2 c hc).2] at hq;cases hq];exact (e2 c hc).2,fun z=>by rw[←z,(e2 c hc).2] at hq;cases hq⟩,dQ,by by_cases y:M q=none;exact y;rw[e3 q y] at hq;exact hq,fun l=>iW (e4 l) (kP fun _ _=>Bu (by unfold lh;rfl) re)⟩ e1⟩
 intro l
 induction l with
 | nil=>exact fun M1 K _ h=>h M1 [] rfl (fun _ z=>nomatch z) (fun _ _=>rfl) id
 | cons ps l ih =>
  intro M1 K k h;refine⟨kb k,fun c hc=>⟨sz (by simp),?_⟩⟩;have nc:∀ x,M1 x≠none->x≠c:=fun x hx z=>hx (by rw[z];exact hc)
  refine ih (bL M1 c (.ml (ps.map .int))) _ (fun x hx=>by rw[cO (nc x (by rw[k x hx];exact hx))];exact k x hx) fun M2 ai e1 e2 e3 e4=>?_
  refine h M2 ((c,ES r f ps)::ai) (by rw[o_,o_,e1]) (fun d hd=>?_) (fun x hx=>?_) fun l=>e4 (iW l sI)
  ·rcases t_.mp hd with rfl | hd
   ·exact⟨hc,by rw[e3 c (by rw[dQ];exact fun z=>nomatch z),dQ];rfl⟩
   ·exact⟨(Br (e2 d hd).1).2,(e2 d hd).2⟩
  ·rw[e3 x (by rw[cO (nc x hx)];exact hx),cO (nc x hx)]
def uX (p:cP):Prop:=∀ (a:Addr) (ps:List Int) M R,M a=some (.ml (ps.map .int))->R (.bl true) M->p [.dD a] M R
theorem qe {a:Addr}{ps:List Int} (h:M a=some (.ml (ps.map .int))) (hR:R (.bl true) M):Fn Γ fu [.sh (.dD a),.no] M R:=by
 unfold fu;symm;refine ww h ?_;and_intros;left;refine kL h (ax (fun i ρ M'=>M'=M/\∃ o,ρ=[.sh (.dD a),o]) ⟨rfl,_,rfl⟩ ?_ ?_)
 ·rintro i x ρ M' N' hx ⟨rfl,o,rfl⟩ eJ;rw[h_] at hx;obtain⟨p,_,rfl⟩:=m_.mp hx;refine⟨h,?_⟩;and_intros;exact eJ _ _ ⟨rfl,_,rfl⟩
 ·rintro ρ M' ⟨rfl,o,rfl⟩;refine⟨h,?_⟩;left;exact hR
noncomputable def BV (c:List Int×Bool):H_:=.tuple [.list (c.1.map .int),.bool c.2]
theorem toPT_itm {c:Itm} (h:M c.1=some (.ml (c.2.1.map .int))):toPT M (oU c)=some (BV c.2):=by
 have e:toPH M (.dD c.1)=some (.list (c.2.1.map .int)):=by
  show (match M c.1 with | some (.ml xs)=>(toPs xs).map Yv | _=>none)=_;rw[h];show (toPs (c.2.1.map Dt.int)).map Yv=_;rw[toPs_ints];rfl
 show (toPHs M [.dD c.1,.bl c.2.2]).map W3=_;unfold toPHs toPHs toPHs;rw[e];rfl
theorem toPT_due {c:List Int×Bool}:toPT M (jI c)=some (BV c):=by
 have e:toPH M (.lst (c.1.map .int))=some (.list (c.1.map .int)):=by
  show (toPs (c.1.map Dt.int)).map Yv=_;rw[toPs_ints];rfl
 show (toPHs M [.lst (c.1.map .int),.bl c.2]).map W3=_;unfold toPHs toPHs toPHs;rw[e];rfl
theorem xI {c:List Int×Bool}:(BV c).canLay0=true:=by unfold BV;simp only[WY,M_,lU,abq]
theorem oV {c:List Int×Bool}:J_ (BV c)=true:=by
 have h2:=nC c.1;unfold J_;rw[q_];refine⟨xI,f_ ?_⟩;unfold BV;simp only[Xh,Wn]
 lia
theorem DK {c:List Int×Bool}:P_ (BV c) (BV c)=true:=SeqAt.eqv_refl _ xI
def uY (p:cP):Prop:=∀ (q:Addr) (ai:List Itm) M R,(∀ c∈ai,M c.1=some (.ml (c.2.1.map .int)))->M q=some (.ml (ai.map oU))->ai.length<=90->R (.bl true) M->p [.dD q,.lst (ai.map fun c=>jI c.2)] M R
theorem qf (VR:uX (Γ.fn 38)) {q:Addr}{ai:List Itm} (hc:∀ c∈ai,M c.1=some (.ml (c.2.1.map .int))) (hq:M q=some (.ml (ai.map oU))) (hl:ai.length<=90) (hR:R (.bl true) M):Fn Γ fv [.sh (.dD q),.sh (.lst (ai.map fun c=>jI c.2)),.no] M R:=by
 unfold fv;symm;refine ww hq ?_;and_intros;refine ww hq ?_;and_intros;refine bA (by rw[a_,a_,f_ rfl];decide) ?_;left;rw[a_];refine⟨⟨by lia,by lia⟩,ax (fun i ρ M'=>M'=M/\∃ o,ρ=[.sh (.dD q),.sh (.lst (ai.map fun c=>jI c.2)),o]) ⟨rfl,_,rfl⟩ ?_ ?_⟩
 ·rintro i x ρ M' N' hx ⟨rfl,o,rfl⟩ eJ;obtain⟨hi,rfl⟩:=aA hx;rw[Wt];have hi:i<ai.length:=by lia
  have e1:ai[i]? = some ai[i]:=c_ hi;generalize ai[i]=c at e1;have mc:=hc c (y_ e1);have f1:∀ {Q:Dt->Prop},Q (oU c)->tV M' (.dD q) fun _ ds=>atK ds i Q:=fun h=>kL hq ⟨_,aN (by rw[h_,e1];rfl),h⟩
  symm;refine f1 ?_;unfold oU;and_intros;refine f1 ?_;unfold oU;and_intros;refine bA (by simp) (f1 ⟨_,aN (j:=0) rfl,VR _ _ _ _ mc ?_⟩);and_intros;left;refine f1 ⟨_,aN (j:=1) rfl,?_⟩;and_intros;refine f1 ⟨jI c.2,aN (by rw[h_,e1];rfl),?_⟩;refine⟨BV c.2,BV c.2,?_,?_,?_,?_,?_⟩
  ·exact toPT_itm mc
  ·exact toPT_due
  ·exact oV
  ·exact oV
  ·rw[DK];refine bA (by simp) ?_;subst hN;exact eJ _ _ ⟨rfl,_,rfl⟩
 ·rintro ρ M' ⟨rfl,o,rfl⟩;left;exact hR
end
section
variable {Γ:Gm}{M:Mem}{R:Dt->Mem->Prop}
theorem DL {r:Rw} (o:r.Ok):r.many<=900:=by
 cases r with
 | row zs=>have:=o.2;show zs.length<=900;lia
 | af ns=>have:=o.2;show ns.length<=900;lia
 | table w ls=>have o:aU w ls:=o;have:=o.len;have:=o.BR;show ls.length+w<=900;lia
theorem places_len:∀ {lo m:Int}{ps:List Int},placesOk lo m ps->0<=lo->(ps.length:Int)<=m-lo∨ps=[]
 | _,_,[],_,_=>.inr rfl
 | lo,m,p::ps,h,hl=>by
  obtain⟨h1,h2,h3⟩:=h;rcases places_len h3 (by lia) with q | rfl
  ·rw[G_];left;lia
  ·left;rw[Ws];lia
structure JB (M:Mem) (r:Rw) (f:Flt) (a b:Addr) (qs:List (List Int)):Prop where
 at_:fM M r f a b qs
 lf:tT M
 ok:∀ ps∈qs,placesOk 0 r.many ps
theorem fM.keep {M':Mem}{r:Rw}{f:Flt}{a b:Addr}{qs:List (List Int)} (h:fM M r f a b qs) (k:∀ x,M x≠none->M' x=M x):fM M' r f a b qs :=
 ⟨h.1,by rw[k a (by rw[h.2.1];exact fun z=>nomatch z)];exact h.2.1,by rw[k b (by rw[h.2.2];exact fun z=>nomatch z)];exact h.2.2⟩
noncomputable def kQ (r:Rw) (f:Flt) (qs:List (List Int)):Dt:=.lst (qs.map fun ps=>jI (ES r f ps))
noncomputable def iK (r:Rw) (qs:List (List Int)):Dt:=.lst ((qs.map r.left).map aB)
theorem NX (hh:Γ.hm=yO) (oh:cY (Γ.fn 12)) (Ru:oB (Γ.fn 13)) (VS:uJ (Γ.fn 19)) (VT:oR (Γ.fn 32)) (VU:kH (Γ.fn 20)) (VV:qS (Γ.fn 33)) (VW:oQ (Γ.fn 21)) (VX:Bl (Γ.fn 22)) (OV:gH 6 (Γ.fn 28)) (Jy:eU 6 (Γ.fn 27)) (q4:xC (Γ.bj 4)) (m0:xD 6 (Γ.me 0)) (m2:sD (Γ.me 2)) (Rz:ET (Γ.me 16)) (Tj:uY (Γ.fn 39)) {ns:List Int} (lf:tT M) (hR:∀ M',R (.bl true) M'):Fn Γ A3 [.sh (iU ns),.no,.no,.no,.no,.no,.no,.no,.no,.no,.no,.no,.no,.no,.no] M R:=by
 unfold A3;symm;refine oh _ _ _ _ (by lia) fun c0=>Ru _ _ _ fun zs z4 OW hz=>?_
 have mk:fL zs:=⟨z4,OW,hz⟩;left;refine VS ns 15 zs mk _ _ fun r o hf=>?_
 left;refine VT ns 8 zs r false mk o _ _ fun f of hd=>?_
 left;refine VU r _ _ ?_;have m9:=DL o;left;refine VX r _ _ o hf (OV f _ _ of hd (q4 r f _ _ fun a b ha hb BI=>?_));left;refine⟨sz (by simp),?_⟩;left;refine⟨sz (by simp),?_⟩;left;refine oh _ _ _ _ (by lia) fun c2=>?_
 and_intros;obtain⟨n,en,hn⟩:=aX c2 (show (0:Int)<13 by decide);rw[en];refine⟨by decide,⟨by lia,by lia⟩,?_⟩;refine ax (fun i ρ M'=>∃ qs s8 s9 J3 J4 DM DN xJ,qs.length<=i/\JB M' r f a b qs/\ρ=[.sh (iU ns),.sh (.lst (zs.map .str)),.sh (aB r),.sh (ao f),.sh (.int r.many),.sh (dk r f a b),.ow (kQ r f qs),.ow (iK r qs),s8,s9,J3,J4,DM,DN,xJ]) ⟨[],_,_,_,_,_,_,_,w_ _,⟨(show fM (qb M r f a b []) r f a b [] from sE BI),(show tT (qb M r f a b []) from sJ lf),fun _ z=>nomatch z⟩,rfl⟩ ?_ ?_
 ·rintro i x ρ M' N' hx ⟨qs,s8,s9,J3,J4,DM,DN,xJ,hq,st,rfl⟩ eJ;obtain⟨hi,rfl⟩:=aA hx;rw[Wt];have hi:i<15:=by lia
  symm;refine⟨by decide,oh _ _ _ _ (by lia) fun c3=>?_⟩;and_intros;refine⟨⟨by decide,by decide⟩,.inl ⟨by decide,by decide⟩,VV _ _ _ _ m9 fun ps hp=>?_⟩;subst hN;refine sqo fun N hN=>?_
  have fin:∀ ps,placesOk 0 r.many ps->N [.sh (iU ns),.sh (.lst (zs.map .str)),.sh (aB r),.sh (ao f),.sh (.int r.many),.sh (dk r f a b),.ow (kQ r f qs),.ow (iK r qs),.sh (.int i),.sh (.lst (ps.map .int)),J3,J4,DM,DN,xJ] M':=fun ps hp=>by
   have ol:=eP o hp;rw[hN];symm;refine VW r ps _ _ o hp ?_;left;left;rw[gL];refine⟨by rw[hh];rfl,?_⟩
   have go:∀ M3 wA,JB M3 r f a b wA->wA.length<=i+1->(r.left ps∈qs.map r.left->wA=qs)->(r.left ps∉qs.map r.left->wA=qs++[ps])->N [.sh (iU ns),.sh (.lst (zs.map .str)),.sh (aB r),.sh (ao f),.sh (.int r.many),.sh (dk r f a b),.ow (kQ r f qs),.ow (iK r qs),.sh (.int i),.sh (.lst (ps.map .int)),.sh (aB (r.left ps)),.ow (.lst (ps.map .int)),DM,DN,xJ] M3:=fun M3 wA BE l3 hy hn=>by
    rw[hN];refine sqo fun N hN=>?_
    have fin2:∀ hs:List Dt,N [.sh (iU ns),.sh (.lst (zs.map .str)),.sh (aB r),.sh (ao f),.sh (.int r.many),.sh (dk r f a b),.ow (kQ r f qs),.ow (iK r qs),.sh (.int i),.sh (.lst (ps.map .int)),.sh (aB (r.left ps)),.ow (.lst hs),DM,DN,xJ] M3:=fun hs=>by
     rw[hN];refine sqo fun N hN=>?_
     have NY:N [.sh (iU ns),.sh (.lst (zs.map .str)),.sh (aB r),.sh (ao f),.sh (.int r.many),.sh (dk r f a b),.ow (kQ r f wA),.ow (iK r wA),.sh (.int i),.sh (.lst (ps.map .int)),.sh (aB (r.left ps)),.ow (.lst hs),DM,DN,xJ] M3:=by
      rw[hN];refine sqo fun N hN=>?_
      have JC:∀ M5 Tk J5,JB M5 r f a b wA->N [.sh (iU ns),.sh (.lst (zs.map .str)),.sh (aB r),.sh (ao f),.sh (.int r.many),.sh (dk r f a b),.ow (kQ r f wA),.ow (iK r wA),.sh (.int i),.sh (.lst (ps.map .int)),.sh (aB (r.left ps)),.ow (.lst hs),Tk,J5,xJ] M5:=fun M5 Tk J5 B7=>by
       rw[hN];symm;subst hN;exact eJ _ _ ⟨wA,_,_,_,_,_,_,_,l3,B7,rfl⟩
      and_intros;by_cases e2:(i:Int)=2
      ·refine bH (f_ e2) ?_;right;rw[gL];refine⟨by rw[hh];rfl,Rz r f a b wA _ _ BE.at_ (by lia) fun M4 q ai lo e1=>?_⟩;subst hN2;refine sqo fun N2 hN2=>?_
       have ed:kQ r f wA=.lst (ai.map fun c=>jI c.2):=by
        unfold kQ;rw[show (ai.map fun c=>jI c.2)=(ai.map (·.2)).map jI by rw[L_];rfl,e1,L_];rfl
       rw[ed] at JC ⊢;and_intros;refine Tj q ai _ _ (fun c hc=>(lo.cell c hc).2.1) lo.top (by have:=congrArg Zw e1;rw[a_,a_] at this;lia) ⟨⟨re,lo.lf BE.lf⟩,?_⟩;and_intros;subst hN2;right;refine kL lo.top (ax (fun j ρ M5=>(M5 q=some (.ml (ai.map oU))/\(∀ x,M3 x≠none->M5 x=M3 x)/\tT M5/\∀ c∈ai,∃ l:List Int,M5 c.1=some (.ml (l.map .int))/\l.length<=900+j)/\∃ J5,ρ=[.sh (iU ns),.sh (.lst (zs.map .str)),.sh (aB r),.sh (ao f),.sh (.int r.many),.sh (dk r f a b),.ow (.lst (ai.map fun c=>jI c.2)),.ow (iK r wA),.sh (.int i),.sh (.lst (ps.map .int)),.sh (aB (r.left ps)),.ow (.lst hs),.sh (.dD q),J5,xJ]) ⟨⟨lo.top,lo.keep,lo.lf BE.lf,fun c hc=>⟨_,(lo.cell c hc).2.1,?_⟩⟩,_,rfl⟩ ?_ ?_)
       ·have:c.2∈wA.map (ES r f):=by rw[←e1];exact abn hc
        obtain⟨Hy,kW,e⟩:=x_.mp this;rw[←e];rcases places_len (BE.ok _ kW) (abd _) with z | z
        ·show Hy.length<=_;lia
        ·show Hy.length<=_;rw[z];exact Xn _
       ·rintro j x ρ M5 N5 hx ⟨⟨k1,k2,k3,k4⟩,J5,rfl⟩ Jx;rw[h_] at hx;have hj:=(i_.mp (show (ai.map oU)[j]? = some x by rw[h_];exact hx)).1;obtain⟨c,hy,rfl⟩:=m_.mp hx;have hc:=y_ hy;obtain⟨l,l1,l2⟩:=k4 c hc;refine⟨k1,?_⟩;unfold oU;symm;have el:=congrArg Zw e1;rw[a_,a_] at el;rw[a_] at hj;refine⟨_,aN (j:=0) rfl,kL l1 (kL l1 ⟨by rw[a_];exact uE (by lia),?_⟩)⟩;subst hN;rw[show l.map Dt.int++[.int 0]=(l++[0]).map Dt.int by rw[I_];rfl];refine Jx _ _ ⟨⟨by rw[cO (WA (lo.cell c hc).2.2)];exact k1,fun x hx=>by rw[cO fun z=>hx (by rw[z];exact (lo.cell c hc).1)];exact k2 x hx,iW k3 sI,fun d hd=>?_⟩,_,rfl⟩
        by_cases z:d.1=c.1
        ·rw[z,dQ];exact⟨_,rfl,by rw[F_,Ws];lia⟩
        ·rw[cO z];obtain⟨l',q1,q2⟩:=k4 d hd;exact⟨l',q1,by lia⟩
       ·rintro ρ M5 ⟨⟨k1,k2,k3,k4⟩,J5,rfl⟩;refine⟨k1,?_⟩;subst hN2;right;refine kL k1 ?_;subst hN2;and_intros;refine JC _ _ _ ⟨BE.at_.keep fun x hx=>?_,iW k3 rfl,BE.ok⟩;rw[cO fun z=>hx (by rw[z];by_cases y:M3 q=none;exact y;exact absurd lo.pn y)];exact k2 x hx
      ·refine bA (by rw[g_ e2];decide) (JC M3 _ _ BE)
     and_intros;refine Bq ol (fun s hs=>?_) ?_
     ·obtain⟨Hy,kW,rfl⟩:=x_.mp hs;exact eP o (st.ok _ kW)
     by_cases hm:r.left ps∈qs.map r.left
     ·rw[oo.mpr hm];refine bA (by decide) ?_;rw[←hy hm];exact NY
     ·rw[show bP (r.left ps∈qs.map r.left)=false from Bool.eq_false_iff.mpr fun z=>hm (oo.mp z)];refine bH (by decide) ?_;right;unfold iK;and_intros;refine⟨by rw[a_,a_];exact uE (by lia),?_⟩;subst hN2;refine sqo fun N2 hN2=>?_
      unfold kQ;and_intros;refine Jy f _ _ _ of ol hd fun c hc=>⟨sz (by simp),by rw[a_];exact uE (by lia),?_⟩
      subst hN2;rw[ut hc];have:=NY;rw[hn hm] at this;unfold kQ iK at this;rw[I_,I_,I_] at this;exact this
    and_intros;refine oh _ _ _ _ (by lia) fun c1=>?_
    and_intros;refine⟨by decide,?_⟩;by_cases e1:c1 % 2=1
    ·refine bH (f_ e1) ?_;right;refine⟨by rw[a_];exact uE (by rcases places_len hp (abd _) with z | z;lia;rw[z];exact Xn _),?_⟩;subst hN2;exact fin2 _
    ·exact bA (by rw[g_ e1];decide) (fin2 _)
   refine m0 r f a b ps qs _ _ st.at_ (by lia) o hp of hd (fun hm=>⟨⟨re,st.lf⟩,go _ _ st (by lia) (fun _=>rfl) fun z=>absurd hm z⟩) fun hm=>⟨⟨re,sJ st.lf⟩,go _ _ ⟨sE st.at_.1,sJ st.lf,fun qp hq=>?_⟩ (by rw[F_,Ws];lia) (fun z=>absurd z hm) fun _=>rfl⟩
   rcases U_.mp hq with hq | hq
   ·exact st.ok _ hq
   ·rw[D_.mp hq];exact hp
  and_intros;refine⟨by decide,?_⟩;by_cases e4:(i:Int) % 4=3
  ·refine bH (f_ e4) ?_;by_cases e5:(0:Int)<r.many
   ·refine bH (f_ e5) ?_;right
    have RL:∀ P:Int->Bool,N2 [.sh (iU ns),.sh (.lst (zs.map .str)),.sh (aB r),.sh (ao f),.sh (.int r.many),.sh (dk r f a b),.ow (kQ r f qs),.ow (iK r qs),.sh (.int i),.sh (.lst ((bI 0 r.many).filterMap (l8 P))),J3,J4,DM,DN,xJ] M':=fun P=>by
     obtain⟨qs,h1,h2⟩:=oH (uH P) (SH.upTo r.many);rw[oG,h2,hN2];and_intros;exact fin qs (oF (rH r.many) h1)
    refine⟨⟨by lia,by lia⟩,by rw[aj];exact sz (by lia),bD (l8 fun j => !decide (j=(i:Int) / 4 % r.many)) (fun x hx K hK=>?_) (RL _)⟩;obtain⟨j,hj⟩:=V_.mp hx;obtain⟨_,rfl⟩:=aA hj;and_intros;refine⟨⟨by decide,by decide⟩,e5,?_⟩;have hK:K (if (!decide ((0:Int)+j=(i:Int) / 4 % r.many))=true then some (.int (0+(j:Int))) else none) M':=hK;by_cases e6:(!decide ((0:Int)+j=(i:Int) / 4 % r.many))=true
    ·rw[u_ e6] at hK;exact bH e6 hK
    ·rw[p_ e6] at hK;exact bA e6 hK
   ·exact bA (by rw[g_ e5];decide) (fin ps hp)
  ·exact bA (by rw[g_ e4];decide) (fin ps hp)
 ·rintro ρ M' ⟨qs,s8,s9,J3,J4,DM,DN,xJ,hq,st,rfl⟩;rw[aj] at hq;have hq:qs.length<=15:=by lia
  left;left;refine (show dE _ _ (qs.map fun ps=>jI (ES r f ps)) _ M' from ?_);refine ax (fun i ρ M2=>M2=M'/\∃ s9 xJ,ρ=[.sh (iU ns),.sh (.lst (zs.map .str)),.sh (aB r),.sh (ao f),.sh (.int r.many),.sh (dk r f a b),.sh (kQ r f qs),.ow (iK r qs),s8,s9,J3,J4,DM,DN,xJ]) ⟨rfl,_,_,rfl⟩ ?_ ?_
  ·rintro i x ρ M2 N' hx ⟨rfl,s9,xJ,rfl⟩ eJ;rw[h_] at hx;obtain⟨ps,hy,rfl⟩:=m_.mp hx;have hm:=y_ hy;unfold jI ES;symm;rw[gL];refine⟨by rw[hh];rfl,m0 r f a b ps qs _ _ st.at_ (by lia) o (st.ok _ hm) of hd (fun _=>?_) fun z=>absurd (abn hm) z⟩;refine (show (fun c:Bool=>_) (decide (bP (f.holds (r.left ps))=bP (f.holds (r.left ps)))) from ?_);refine bA (by simp) ?_;subst hN;exact eJ _ _ ⟨rfl,_,_,rfl⟩
  ·rintro ρ M2 ⟨rfl,s9,xJ,rfl⟩;left;rw[gL];refine⟨by rw[hh];rfl,Rz r f a b qs _ _ st.at_ (by lia) fun M4 q ai lo e1=>?_⟩
   have ed:kQ r f qs=.lst (ai.map fun c=>jI c.2):=by
    unfold kQ;rw[show (ai.map fun c=>jI c.2)=(ai.map (·.2)).map jI by rw[L_];rfl,e1,L_];rfl
   have el:=congrArg Zw e1;rw[a_,a_] at el;rw[ed];refine Tj q ai _ _ (fun c hc=>(lo.cell c hc).2.1) lo.top (by lia) ?_;and_intros;rw[gL];refine⟨by rw[hh];rfl,m2 _ _ _ _ _ _ _ (st.at_.keep lo.keep).2.2 ?_⟩;and_intros;rw[a_,a_,el,f_ rfl];exact hR _
end
theorem gb {n:Nat}:GB (Pr.Γ n):=⟨Pg.Nw n,Pg.Ja n⟩
theorem kR {n m c:Nat}{fs:List Str} (h:Pr.hm m c fs=true):(Pr.Γ n).hm m c fs=true:=by rw[Pg.lz];exact h
theorem rf {n k:Nat}{d:Dt} (h:Pr.cs k=d):(Pr.Γ n).cs k=d:=by rw[Pg.Ja];exact h
theorem at_ {F:Gm->Prop}{l N:Nat} (h:l<=N) (p:∀ {n},F (Pr.Γ (n+l))):F (Pr.Γ N):=by have q:=p (n:=N-l);rwa [Nat.sub_add_cancel h] at q
theorem sK (f:Flt):0<f.dep:=by cases f<;>(unfold Flt.dep;lia)
theorem oW {n:Nat}:jC ((Pr.Γ (n+1)).fn 0):=fun i M R h1=>⟨_,rfl,rfl,wb h1⟩
theorem rg {n:Nat}:lD ((Pr.Γ (n+1)).fn 1):=fun z M R h1 h2=>⟨_,rfl,rfl,yM (rf (by kernel_rfl)) (rf (by kernel_rfl)) h1 h2⟩
theorem gO {n:Nat}:dI ((Pr.Γ (n+1)).fn 2):=fun ds m M R h1 h2=>⟨_,rfl,rfl,r6 h1 h2⟩
theorem jf {n:Nat}:fz ((Pr.Γ (n+2)).fn 3):=fun zs m M R h1 h2 h3=>⟨_,rfl,rfl,pI rg gO h1 h2 h3⟩
theorem sL {n:Nat}:kn ((Pr.Γ (n+2)).fn 4):=fun n d M R h1 h2 h3 h4=>⟨_,rfl,rfl,r9 oW rg h1 h2 h3 h4⟩
theorem qg {n:Nat}:jc ((Pr.Γ (n+3)).fn 5):=fun ns M R h1 h2 h3=>⟨_,rfl,rfl,pJ gO sL (rf (by kernel_rfl)) (rf (by kernel_rfl)) h1 h2 h3⟩
theorem qh {n:Nat}:jd ((Pr.Γ (n+3)).fn 6):=fun w ls M R h1 h2=>⟨_,rfl,rfl,pK gO jf (rf (by kernel_rfl)) (rf (by kernel_rfl)) h1 h2⟩
theorem eC {n:Nat}:cJ ((Pr.Γ (n+2)).fn 7):=fun ps m M R h1 h2=>⟨_,rfl,rfl,nX oW h1 h2⟩
theorem jJ {n:Nat}:gw ((Pr.Γ (n+1)).fn 8):=fun t zs ps M R h1 h2 h3 h4=>⟨_,rfl,rfl,wc h1 h2 h3 h4⟩
theorem mj {n:Nat}:iy ((Pr.Γ (n+1)).fn 9):=fun zs m M R h1 h2=>⟨_,rfl,rfl,uh h1 h2⟩
theorem iL {n:Nat}:ez ((Pr.Γ (n+1)).fn 10):=fun t zs a b M R h1 h2=>⟨_,rfl,rfl,n0 h1 h2⟩
theorem dm {n:Nat}:bZ ((Pr.Γ (n+1)).fn 11):=fun t zs a b M R h1 h2 h3=>⟨_,rfl,rfl,iz h1 h2 h3⟩
theorem sM {n:Nat}:m8 ((Pr.Γ (n+2)).bj 16):=fun c zs M k h1 h2=>⟨_,_,_,_,_,rfl,rfl,rfl,rfl,sk gb h1 h2⟩
theorem EU {n:Nat}:A8 ((Pr.Γ (n+4)).bj 17):=fun zs M k h1 h2=>⟨_,_,_,_,_,rfl,rfl,rfl,rfl,wj gb jf sM h1 h2⟩
theorem uZ {n:Nat}:oj ((Pr.Γ (n+5)).bj 18):=fun ns M k h1 h2=>⟨_,_,_,_,_,rfl,rfl,rfl,rfl,pO gb qg sM h1 h2⟩
theorem xK {n:Nat}:sn ((Pr.Γ (n+5)).bj 19):=fun w ls M k h1 h2=>⟨_,_,_,_,_,rfl,rfl,rfl,rfl,so gb qh sM h1 h2⟩
theorem oX {n:Nat}:lE ((Pr.Γ (n+1)).me 9):=by
 intro r M R h1
 cases r with
 | row zs=>exact⟨_,_,_,_,_,rfl,⟨rfl,rfl⟩,rfl,rfl,we gb h1⟩
 | af ns=>exact⟨_,_,_,_,_,rfl,⟨rfl,rfl⟩,rfl,rfl,pL gb h1⟩
 | table w ls=>exact⟨_,_,_,_,_,rfl,⟨rfl,rfl⟩,rfl,rfl,se gb h1⟩
theorem Bv {n:Nat}:wf ((Pr.Γ (n+1)).me 11):=by
 intro r M R h1
 cases r with
 | row zs=>exact⟨_,_,_,_,_,rfl,⟨rfl,rfl⟩,rfl,rfl,wg gb h1⟩
 | af ns=>exact⟨_,_,_,_,_,rfl,⟨rfl,rfl⟩,rfl,rfl,pM gb h1⟩
 | table w ls=>exact⟨_,_,_,_,_,rfl,⟨rfl,rfl⟩,rfl,rfl,si gb h1⟩
theorem u6 {n:Nat}:iB ((Pr.Γ (n+2)).me 8):=by
 intro r a b M R h1;have q:=kr (Γ:=Pr.Γ (n+1)) (r:=r) gb iL h1
 cases r<;>exact⟨_,_,_,_,_,rfl,⟨rfl,rfl⟩,rfl,rfl,q⟩
theorem rh {n:Nat}:fJ ((Pr.Γ (n+1)).me 7):=by
 intro r m M R h1;have q:=mG (Γ:=Pr.Γ (n+0)) (r:=r) gb h1
 cases r<;>exact⟨_,_,_,_,_,rfl,⟨rfl,rfl⟩,rfl,rfl,q⟩
theorem oY {n:Nat}:jD ((Pr.Γ (n+2)).me 12):=by
 intro r m M R h1 h2 h3
 cases r with
 | row zs=>exact⟨_,_,_,_,_,rfl,⟨rfl,rfl⟩,rfl,rfl,n6 gb mj h1 h3⟩
 | af ns=>exact⟨_,_,_,_,_,rfl,⟨rfl,rfl⟩,rfl,rfl,ky gb mj h1 h3⟩
 | table w ls=>exact absurd rfl (h2 _ _)
theorem ri {n:Nat}:lF ((Pr.Γ (n+2)).me 15):=fun ns i M R h1 h2 h3=>⟨_,_,_,_,_,rfl,⟨rfl,rfl⟩,rfl,rfl,lG gb oX (kR (by kernel_rfl)) h1 h2 h3⟩
theorem wB {n:Nat}:jE ((Pr.Γ (n+3)).me 13):=by
 intro r a b M R h1 h2
 cases r with
 | row zs=>exact⟨_,_,_,_,_,rfl,⟨rfl,rfl⟩,rfl,rfl,n8 h2⟩
 | af ns=>exact⟨_,_,_,_,_,rfl,⟨rfl,rfl⟩,rfl,rfl,kC gb jJ oY ri (kR (by kernel_rfl)) (kR (by kernel_rfl)) h1 h2⟩
 | table w ls=>exact⟨_,_,_,_,_,rfl,⟨rfl,rfl⟩,rfl,rfl,lI gb iL h1 h2⟩
theorem u7 {n:Nat}:iC ((Pr.Γ (n+3)).me 14):=by
 intro r a b M R h1 h2 h3
 cases r with
 | row zs=>exact⟨_,_,_,_,_,rfl,⟨rfl,rfl⟩,rfl,rfl,mH gb dm h1 h3⟩
 | af ns=>exact⟨_,_,_,_,_,rfl,⟨rfl,rfl⟩,rfl,rfl,jF gb oX oY ri (kR (by kernel_rfl)) (kR (by kernel_rfl)) (kR (by kernel_rfl)) h2 h1 h3⟩
 | table w ls=>exact⟨_,_,_,_,_,rfl,⟨rfl,rfl⟩,rfl,rfl,kD gb dm h1 h3⟩
theorem JD {n:Nat}:A9 ((Pr.Γ (n+6)).me 10):=by
 intro r ps M R h1 h2 h3
 cases r with
 | row zs=>exact⟨_,_,_,_,_,rfl,⟨rfl,rfl⟩,rfl,rfl,wk gb eC jJ oX (kR (by kernel_rfl)) EU h1 h2 h3⟩
 | af ns=>exact⟨_,_,_,_,_,rfl,⟨rfl,rfl⟩,rfl,rfl,pP gb eC oX (kR (by kernel_rfl)) uZ h1 h2 h3⟩
 | table w ls=>exact⟨_,_,_,_,_,rfl,⟨rfl,rfl⟩,rfl,rfl,ss gb eC jJ oX (kR (by kernel_rfl)) xK h1 h2 h3⟩
theorem nn:∀ {k n:Nat},kE k ((Pr.Γ (n+4+k)).me 5)
 | 0,n=>fun f r M R h1 h2 h3 h4=>absurd (sK f) (by lia)
 | k+1,n=>fun f r M R h1 h2 h3 h4=>by
  cases f<;>(unfold Flt.Ok at h1;unfold Flt.dep at h3)
  ·exact⟨_,_,_,_,_,rfl,⟨rfl,rfl⟩,rfl,rfl,ux (Γ:=Pr.Γ (n+4+k)) gb (Pg.lz _) (at_ (F:=fun Γ=>fJ (Γ.me 7)) (by lia) rh) h4⟩
  ·exact⟨_,_,_,_,_,rfl,⟨rfl,rfl⟩,rfl,rfl,sv (Γ:=Pr.Γ (n+4+k)) gb (Pg.lz _) (at_ (F:=fun Γ=>fJ (Γ.me 7)) (by lia) rh) h4⟩
  ·exact⟨_,_,_,_,_,rfl,⟨rfl,rfl⟩,rfl,rfl,ox (Γ:=Pr.Γ (n+4+k)) gb (Pg.lz _) (at_ (F:=fun Γ=>iB (Γ.me 8)) (by lia) u6) h4⟩
  ·exact⟨_,_,_,_,_,rfl,⟨rfl,rfl⟩,rfl,rfl,pQ (Γ:=Pr.Γ (n+4+k)) gb (Pg.lz _) (at_ (F:=fun Γ=>jE (Γ.me 13)) (by lia) wB) h2 h4⟩
  ·exact⟨_,_,_,_,_,rfl,⟨rfl,rfl⟩,rfl,rfl,oy (Γ:=Pr.Γ (n+4+k)) gb (Pg.lz _) (at_ (F:=fun Γ=>iC (Γ.me 14)) (by lia) u7) h2 h1.2 h4⟩
  ·exact⟨_,_,_,_,_,rfl,⟨rfl,rfl⟩,rfl,rfl,uy gb (Pg.lz _) (nn (k:=k) (n:=n)) h1 h2 (by lia) h4⟩
  ·exact⟨_,_,_,_,_,rfl,⟨rfl,rfl⟩,rfl,rfl,uz gb (Pg.lz _) (nn (k:=k) (n:=n)) h1.2 h2 (by lia) h4⟩
  ·exact⟨_,_,_,_,_,rfl,⟨rfl,rfl⟩,rfl,rfl,uA gb (Pg.lz _) (nn (k:=k) (n:=n)) h1.2 h2 (by lia) h4⟩
theorem NZ {n:Nat}:Be ((Pr.Γ (n+2)).bj 6):=fun m M k h1=>⟨_,_,_,_,_,rfl,rfl,rfl,rfl,wm gb h1⟩
theorem JE {n:Nat}:wn ((Pr.Γ (n+2)).bj 7):=fun n m M k h1=>⟨_,_,_,_,_,rfl,rfl,rfl,rfl,uB gb h1⟩
theorem Bw {n:Nat}:gF 9 ((Pr.Γ (n+2)).bj 9):=fun a b M k h1=>⟨_,_,_,_,_,rfl,rfl,rfl,rfl,iE gb (.inl rfl) h1⟩
theorem yS {n:Nat}:gF 10 ((Pr.Γ (n+2)).bj 10):=fun a b M k h1=>⟨_,_,_,_,_,rfl,rfl,rfl,rfl,iE gb (.inr (.inl rfl)) h1⟩
theorem yT {n:Nat}:gF 11 ((Pr.Γ (n+2)).bj 11):=fun a b M k h1=>⟨_,_,_,_,_,rfl,rfl,rfl,rfl,iE gb (.inr (.inr rfl)) h1⟩
theorem wC {n:Nat}:iT 13 ((Pr.Γ (n+2)).bj 13):=fun ds M k h1=>⟨_,_,_,_,_,rfl,rfl,rfl,rfl,kF gb (.inl rfl) h1⟩
theorem wD {n:Nat}:iT 14 ((Pr.Γ (n+2)).bj 14):=fun ds M k h1=>⟨_,_,_,_,_,rfl,rfl,rfl,rfl,kF gb (.inr rfl) h1⟩
theorem N1 {n:Nat}:Bf ((Pr.Γ (n+2)).bj 15):=fun d M k h1=>⟨_,_,_,_,_,rfl,rfl,rfl,rfl,wo gb h1⟩
theorem kS:∀ {k n:Nat},gH k ((Pr.Γ (n+3+k)).fn 28)
 | 0,n=>fun f M R h1 h2 h3=>absurd (sK f) (by lia)
 | k+1,n=>fun f M R h1 h2 h3=>⟨_,rfl,rfl,kG (Γ:=Pr.Γ (n+3+k)) (kS (k:=k) (n:=n)) (at_ (F:=fun Γ=>Be (Γ.bj 6)) (by lia) NZ) (at_ (F:=fun Γ=>wn (Γ.bj 7)) (by lia) JE) (at_ (F:=fun Γ=>gF 9 (Γ.bj 9)) (by lia) Bw) (at_ (F:=fun Γ=>gF 10 (Γ.bj 10)) (by lia) yS) (at_ (F:=fun Γ=>gF 11 (Γ.bj 11)) (by lia) yT) (at_ (F:=fun Γ=>iT 13 (Γ.bj 13)) (by lia) wC) (at_ (F:=fun Γ=>iT 14 (Γ.bj 14)) (by lia) wD) (at_ (F:=fun Γ=>Bf (Γ.bj 15)) (by lia) N1) h1 h2 h3⟩
theorem dR {n:Nat}:cY ((Pr.Γ (n+1)).fn 12):=fun ns k M R h1 h2=>⟨_,rfl,rfl,oA h1 h2⟩
theorem wE {n:Nat}:oB ((Pr.Γ (n+1)).fn 13):=fun c M R h1=>⟨_,rfl,rfl,mI h1⟩
theorem yU {n:Nat}:qR ((Pr.Γ (n+1)).fn 14):=fun c M R h1=>⟨_,rfl,rfl,oE h1⟩
theorem Bx {n:Nat}:uF ((Pr.Γ (n+2)).fn 15):=fun ns f m zs M R h1 h2 h3=>⟨_,rfl,rfl,pS dR h1 h2 h3⟩
theorem u8 {n:Nat}:l7 ((Pr.Γ (n+2)).fn 16):=fun ns f zs M R h1 h2 h3=>⟨_,rfl,rfl,lJ dR h1 h2 h3⟩
theorem EV {n:Nat}:Bh ((Pr.Γ (n+1)).fn 17):=fun r M R h1=>⟨_,rfl,rfl,wr h1⟩
theorem sN {n:Nat}:kI ((Pr.Γ (n+1)).fn 18):=fun c zs h1 M R hR=>⟨_,rfl,rfl,kJ h1 hR⟩
theorem By {n:Nat}:uJ ((Pr.Γ (n+3)).fn 19):=fun ns f zs h1 M R hR=>⟨_,rfl,rfl,pU dR yU Bx u8 EV sN h1 hR⟩
theorem sO {n:Nat}:kH ((Pr.Γ (n+1)).fn 20):=fun r M R h1=>⟨_,rfl,rfl,lK h1⟩
theorem wF {n:Nat}:oQ ((Pr.Γ (n+1)).fn 21):=fun r ps M R h1 h2 h3=>⟨_,rfl,rfl,uV h1 h2 h3⟩
theorem JF {n:Nat}:Bl ((Pr.Γ (n+6)).fn 22):=fun r M R h1 h2 h3=>⟨_,rfl,rfl,uG EU uZ xK h1 h2 h3⟩
theorem iM {n:Nat}:di ((Pr.Γ (n+1)).fn 23):=fun r M R h1 h2=>⟨_,rfl,rfl,sy h1 h2⟩
theorem kT {n:Nat}:gJ ((Pr.Γ (n+1)).fn 24):=fun r i j M R h1 h2 h3 h4=>⟨_,rfl,rfl,kK h1 h2 h3 h4⟩
theorem mM {n:Nat}:gT ((Pr.Γ (n+1)).fn 25):=fun r i j M R h1 h2 h3 h4=>⟨_,rfl,rfl,iG h1 h2 h3 h4⟩
theorem wG {n:Nat}:jG ((Pr.Γ (n+2)).fn 26):=fun f a b r M R h1 h2 h3=>⟨_,rfl,rfl,mJ iM kT mM h1 h2 h3⟩
theorem iN:∀ {k n:Nat},eU k ((Pr.Γ (n+3+k)).fn 27)
 | 0,n=>fun f r M R h1 h2 h3 h4=>absurd (sK f) (by lia)
 | k+1,n=>fun f r M R h1 h2 h3 h4=>⟨_,rfl,rfl,sB (Γ:=Pr.Γ (n+3+k)) (at_ (F:=fun Γ=>di (Γ.fn 23)) (by lia) iM) (at_ (F:=fun Γ=>jG (Γ.fn 26)) (by lia) wG) (iN (k:=k) (n:=n)) h1 h2 h3 h4⟩
theorem Bz {n:Nat}:uN ((Pr.Γ (n+1)).fn 29):=fun c zs g h1 M R hR=>⟨_,rfl,rfl,pY h1 hR⟩
theorem qi {n:Nat}:je ((Pr.Γ (n+2)).fn 30):=fun ns k zs g h1 M R hR=>⟨_,rfl,rfl,jH dR EV Bz h1 hR⟩
theorem DO {n:Nat}:xF ((Pr.Γ (n+2)).fn 31):=fun r c h1 h2 M R hR=>⟨_,rfl,rfl,sF kT h1 h2 hR⟩
theorem wH {n:Nat}:oR ((Pr.Γ (n+8)).fn 32):=fun ns k zs r g h1 h2 M R hR=>⟨_,rfl,rfl,mL dR iM (iN (k:=4)) qi DO h1 h2 hR⟩
theorem yV {n:Nat}:qS ((Pr.Γ (n+1)).fn 33):=fun c m M R h1 h2=>⟨_,rfl,rfl,oI h1 h2⟩
theorem DQ {n:Nat}:xC ((Pr.Γ (n+2)).bj 4):=fun r f M k h1=>⟨_,_,_,_,_,rfl,rfl,rfl,rfl,sC gb h1⟩
theorem xL {n:Nat}:sD ((Pr.Γ (n+1)).me 2):=fun r f a b qs M R h1 h2=>⟨_,_,_,_,_,rfl,⟨rfl,rfl⟩,rfl,rfl,qa gb h1 h2⟩
theorem N7 {n:Nat}:EQ 6 ((Pr.Γ (n+11)).me 1):=fun r f a b ps qs M R h1 h2 h3 h4 h5 h6 h7=>⟨_,_,_,_,_,rfl,⟨rfl,rfl⟩,rfl,rfl,uR gb (Pg.lz _) xL (nn (k:=6)) Bv h1 h2 h3 h4 h5 h6 h7⟩
theorem DR {n:Nat}:xD 6 ((Pr.Γ (n+12)).me 0):=fun r f a b ps qs M R h1 h2 h3 h4 h5 h6 h7 h8=>⟨_,_,_,_,_,rfl,⟨rfl,rfl⟩,rfl,rfl,qc gb (Pg.lz _) N7 JD Bv h1 h2 h3 h4 h5 h6 h7 h8⟩
theorem N8 {n:Nat}:ET ((Pr.Γ (n+1)).me 16):=fun r f a b qs M R h1 h2 h3=>⟨_,_,_,_,_,rfl,⟨rfl,rfl⟩,rfl,rfl,uW gb h1 h2 h3⟩
theorem BA {n:Nat}:uX ((Pr.Γ (n+1)).fn 38):=fun a ps M R h1 h2=>⟨_,rfl,rfl,qe h1 h2⟩
theorem BB {n:Nat}:uY ((Pr.Γ (n+2)).fn 39):=fun q ai M R h1 h2 h3 h4=>⟨_,rfl,rfl,qf BA h1 h2 h3 h4⟩
theorem JG:∀ (ns:List Int) k,ns.length<=63->(∀ M',k (.bl true) M')->(Pr.Γ 13).fn 36 [.mw (ns.map .int)] (fun _=>none) k:=fun ns k h1 h2=>⟨_,rfl,rfl,NX (Γ:=Pr.Γ (0+12)) (Pg.lz _) dR wE By wH sO yV wF JF (kS (k:=6)) (iN (k:=6)) DQ DR xL N8 BB (fun _ _ z=>nomatch z) h2⟩
end K18
namespace PySem.W.Fast
def tw12499091974548654697:Nat:=0
def tw1100391873860678053:Nat:=0
def tw14543140711975313299:Nat:=0
def tw3489883205276185227:Nat:=0
def tw6756612619708413656:Nat:=0
def tw8292215625298710685:Nat:=0
def tw16533383348887602334:Nat:=0
def tw7082665718158272347:Nat:=0
def tw2640159528799957520:Nat:=0
def tw17918774847023324364:Nat:=0
def tw11931901397137549497:Nat:=0
def tw13457319530949885907:Nat:=0
def tw11035341060292005313:Nat:=0
def tw11960271478927320642:Nat:=0
def tw7912352256288709631:Nat:=0
def tw17263361791919220261:Nat:=0
def tw2874266365700034354:Nat:=0
def tw2014765169326823826:Nat:=0
def tw6968183225611896045:Nat:=0
def tw8939150010887035037:Nat:=0
def tw12811660991668624941:Nat:=0
def tw1747158195163740332:Nat:=0
def tw3473314647117057270:Nat:=0
def tw16551039954581613013:Nat:=0
def tw7927417505913292596:Nat:=0
def tw8065822847730002436:Nat:=0
def tw3850011392350562018:Nat:=0
def tw8821534947315441147:Nat:=0
def tw12529954618262479976:Nat:=0
def tw7840385502988953244:Nat:=0
def tw2041495000861973177:Nat:=0
def tw18076909933958996936:Nat:=0
def tw824007651545523118:Nat:=0
def tw14676903716712282263:Nat:=0
def tw6602446735277015716:Nat:=0
def tw10710124181380141853:Nat:=0
def tw12955920481046247594:Nat:=0
def tw13900319369686840657:Nat:=0
def tw6575008897430657117:Nat:=0
def tw17727184538015401391:Nat:=0
def tw2942562694377896232:Nat:=0
def tw12944564408274915968:Nat:=0
def tw66074488840731728:Nat:=0
def tw420533390447189483:Nat:=0
def tw7019401835534393245:Nat:=0
def tw3287325706359437518:Nat:=0
def tw6721407586391773727:Nat:=0
def tw2651540129564338835:Nat:=0
def tw14876985415503656416:Nat:=0
def tw13791054623681834155:Nat:=0
def tw12823536938081200858:Nat:=0
def tw14913017208255074609:Nat:=0
def tw8967611579487264919:Nat:=0
def tw13720419999245006990:Nat:=0
def tw7922126406980205972:Nat:=0
def tw3662366055846637704:Nat:=0
def tw7898551537163498332:Nat:=0
def tw2803878621376324335:Nat:=0
def tw8858552905759264221:Nat:=0
def tw1685131242950571713:Nat:=0
def tw9010038940642333189:Nat:=0
def tw6625868060743868059:Nat:=0
def tw3144554563284173339:Nat:=0
def tw4887713067748368315:Nat:=0
def tw10221972114210652048:Nat:=0
def tw3639579898761796326:Nat:=0
def tw15735854292983698484:Nat:=0
def tw9545684649616561303:Nat:=0
def tw6378114031486304750:Nat:=0
def tw14092784847195354223:Nat:=0
def tw2877828598298947604:Nat:=0
def tw5401965587390466876:Nat:=0
def tw18253993074589886324:Nat:=0
def tw15383600863997352641:Nat:=0
def tw10250302827339417937:Nat:=0
def tw17226042342506127097:Nat:=0
def tw12902259652690471641:Nat:=0
def tw10248457761341416368:Nat:=0
def tw14831446863378433598:Nat:=0
def tw334018775287924009:Nat:=0
def tw2623359160761838743:Nat:=0
def tw8949827659328904626:Nat:=0
def tw365232427480592254:Nat:=0
def tw1334478530626524418:Nat:=0
def tw830178106631107336:Nat:=0
def tw6514468903472617285:Nat:=0
def tw16624189491997242734:Nat:=0
def tw7262451671667825394:Nat:=0
def tw15281023116225222972:Nat:=0
def tw5151538892518576833:Nat:=0
def tw15822636629000810316:Nat:=0
def tw5494121002156484393:Nat:=0
def tw14038566201036995786:Nat:=0
def tw5836369611267690404:Nat:=0
def tw9504410230380077614:Nat:=0
def tw17692054088277099883:Nat:=0
def tw6935687578351171144:Nat:=0
def tw6022146839729040326:Nat:=0
def tw15040779856670534023:Nat:=0
def tw12277427843241269554:Nat:=0
def tw3531607795769743046:Nat:=0
def tw13979176407505473832:Nat:=0
def tw13785220425734587282:Nat:=0
def tw8898336601985565462:Nat:=0
def tw2847445567432733333:Nat:=0
def tw2101316297113438710:Nat:=0
def tw3390864439198726273:Nat:=0
def tw7392400473620534412:Nat:=0
def tw4235923754477868506:Nat:=0
def tw10904913879400175409:Nat:=0
def tw8808798033503533487:Nat:=0
def tw14355188881633248975:Nat:=0
def tw576564368703885586:Nat:=0
def tw4103430924655504968:Nat:=0
def tw9939992683665496776:Nat:=0
def tw8551058535118890461:Nat:=0
def tw18254249215585344947:Nat:=0
def tw9892487122342446856:Nat:=0
def tw959956222868789025:Nat:=0
def tw3571206068680771626:Nat:=0
def tw6390780334488005187:Nat:=0
def tw11143347439086151123:Nat:=0
def tw13915937815801981843:Nat:=0
def tw2895434816379614764:Nat:=0
def tw12646771092204139713:Nat:=0
def tw11044678937703137192:Nat:=0
def tw13050797453824329606:Nat:=0
def tw16651961721356819290:Nat:=0
def tw1433798909728163878:Nat:=0
def tw2161626097494876758:Nat:=0
def tw17830054038460020590:Nat:=0
def tw13353032476678974340:Nat:=0
def tw8802126048103181557:Nat:=0
def tw7295748513796030000:Nat:=0
def tw4685158343787908791:Nat:=0
def tw15992405515109240919:Nat:=0
def tw6837364653772122687:Nat:=0
def tw1960738461242484487:Nat:=0
def tw3958324246462672587:Nat:=0
def tw16184707232459767768:Nat:=0
def tw9028102912714954652:Nat:=0
def tw15959398750406552531:Nat:=0
def tw5493840904471960893:Nat:=0
def tw3695335641072982995:Nat:=0
def tw15213619850019225039:Nat:=0
def tw9122798048118266170:Nat:=0
def tw15501624473371863711:Nat:=0
def tw10356261551615048242:Nat:=0
def tw1411901103628599471:Nat:=0
def tw8204195659018183154:Nat:=0
def tw8737719561605735964:Nat:=0
def tw18190610077458286579:Nat:=0
def tw2000838461283650176:Nat:=0
def tw11040493401490502842:Nat:=0
def tw9414279725578578913:Nat:=0
def tw14819190709870832231:Nat:=0
def tw6100344347552103360:Nat:=0
def tw7993982151588635324:Nat:=0
def tw8354916607041394761:Nat:=0
def tw15720853212618856258:Nat:=0
def tw7503045864772025721:Nat:=0
def tw5583278563079294110:Nat:=0
def tw18213086067482218241:Nat:=0
def tw4144582808596941714:Nat:=0
def tw9369705549078119629:Nat:=0
def tw14382574459399822656:Nat:=0
def tw10886714778973745859:Nat:=0
def tw6960071003944175089:Nat:=0
def tw3611983888848852694:Nat:=0
def tw13095001002348736171:Nat:=0
def tw12433613804060066306:Nat:=0
def tw3964254904194135500:Nat:=0
def tw7638941589608748906:Nat:=0
def tw18237994496837284842:Nat:=0
def tw14953455569260501671:Nat:=0
def tw8165274308061685103:Nat:=0
def tw1922200734993805105:Nat:=0
def tw16112736058612850325:Nat:=0
def tw15481344661558592667:Nat:=0
def tw14513548514411111334:Nat:=0
def tw17307232944480664797:Nat:=0
def tw4363295627427238112:Nat:=0
def tw17109992832589128053:Nat:=0
def tw12872195382838185429:Nat:=0
def tw6114628303665994621:Nat:=0
def tw11093231344625757633:Nat:=0
def tw7006963759207673833:Nat:=0
def tw6833876659182572068:Nat:=0
def tw6239201226377034408:Nat:=0
def tw2070604061408336612:Nat:=0
def tw14220361645241090379:Nat:=0
def tw12989365191753997576:Nat:=0
def tw2062882723508450603:Nat:=0
def tw5053655920993185720:Nat:=0
def tw17555310512794871586:Nat:=0
def tw2385117904822273600:Nat:=0
def tw9599001896498755445:Nat:=0
def tw3631946872873193627:Nat:=0
def tw7334043853866612039:Nat:=0
def tw14065803434113062257:Nat:=0
def tw5950657597372206502:Nat:=0
def tw13130400133014362852:Nat:=0
def tw1442560198878636899:Nat:=0
def tw5029675456278109694:Nat:=0
def tw99191931233712828:Nat:=0
def tw12914489742032942586:Nat:=0
def tw3346900962278628150:Nat:=0
def tw993561721857036294:Nat:=0
def tw4893943642856908835:Nat:=0
def tw7184888858306218568:Nat:=0
def tw6404574588046261844:Nat:=0
def tw773525445405599029:Nat:=0
def tw14181633571140148718:Nat:=0
def tw15753006228947210555:Nat:=0
def tw4371301795476082108:Nat:=0
def tw16377745044458973383:Nat:=0
def tw17633228005180760919:Nat:=0
def tw10960163381050927445:Nat:=0
def tw3415923256541494461:Nat:=0
def tw16116160324161730389:Nat:=0
def tw17250944815481529080:Nat:=0
def tw6451286567230119961:Nat:=0
def tw10332854911220187348:Nat:=0
def tw5855901027627405773:Nat:=0
def tw9293597340365161889:Nat:=0
def tw916860226938555681:Nat:=0
def tw5965491829620505381:Nat:=0
def tw10738221219313335597:Nat:=0
def tw17912853260380382153:Nat:=0
def tw8689354312637283112:Nat:=0
def tw13820608763519963923:Nat:=0
def tw14053763318452704707:Nat:=0
def tw14638186531884387476:Nat:=0
def tw9184090084316414061:Nat:=0
def tw17510934471979072808:Nat:=0
def tw2583857788944505287:Nat:=0
def tw3181763038463022878:Nat:=0
def tw3612494868244930031:Nat:=0
def tw10511545982863471908:Nat:=0
def tw13208496654073625797:Nat:=0
def tw8520436089816377291:Nat:=0
def tw2690308480445306547:Nat:=0
def tw18340973591043158871:Nat:=0
def tw6799956706260064330:Nat:=0
def tw15750578047759416441:Nat:=0
def tw17689663349914757946:Nat:=0
def tw2399517812553958414:Nat:=0
def tw3427973820077866262:Nat:=0
def tw17804045534336517874:Nat:=0
def tw16008495992216100322:Nat:=0
def tw329262600190372289:Nat:=0
def tw16942736642064847673:Nat:=0
def tw15887987899011439752:Nat:=0
def tw2179202425071905771:Nat:=0
def tw7539458459821928925:Nat:=0
def tw16472542734990154034:Nat:=0
def tw7203254157974869329:Nat:=0
def tw1882301689677994144:Nat:=0
def tw939337717996733893:Nat:=0
def tw42569218273823853:Nat:=0
def tw10475128166768713500:Nat:=0
def tw1385245452812714815:Nat:=0
def tw17109605288042444856:Nat:=0
def tw8009479795113278867:Nat:=0
def tw15001394188540868821:Nat:=0
def tw6445068945843393468:Nat:=0
def tw11455152319421283021:Nat:=0
def tw3930232247850915380:Nat:=0
def tw1110751815725703636:Nat:=0
def tw14402044875147745366:Nat:=0
def tw6871835041073435843:Nat:=0
def tw3990746821580754800:Nat:=0
def tw13177644407170864835:Nat:=0
def tw8514739321039244788:Nat:=0
def tw3291841209838443569:Nat:=0
def tw3100018892903060043:Nat:=0
def tw13072033800290791269:Nat:=0
def tw18054882874915548509:Nat:=0
def tw1535373912406248426:Nat:=0
def tw4916982795750176858:Nat:=0
def tw3198369875640453165:Nat:=0
def tw948504324122561789:Nat:=0
def tw15184973062533165340:Nat:=0
def tw7626197832311401693:Nat:=0
def tw543693524836625954:Nat:=0
def tw8452756379988363008:Nat:=0
def tw3067804213938607852:Nat:=0
def tw8613997162151437543:Nat:=0
def tw10129703067695795729:Nat:=0
def tw8707793251491424471:Nat:=0
def tw6700745602809278690:Nat:=0
def tw14355989085492341899:Nat:=0
def tw7596281293335189158:Nat:=0
def tw7256768793361732724:Nat:=0
def tw16556260773990260392:Nat:=0
def tw15368526921611974883:Nat:=0
def tw16505935327642506939:Nat:=0
def tw17817539961264657080:Nat:=0
def tw16238996361960946054:Nat:=0
def tw5741014127626236222:Nat:=0
def tw10028366483863423379:Nat:=0
def tw8783407326178476101:Nat:=0
end PySem.W.Fast
open PySem PySem.W PyProof.Rows
set_option maxRecDepth 100000 in
set_option maxHeartbeats 0 in
theorem PySem.Challenge.cw_shrinkhouse_k19_no_question_twice_holds : PySem.Challenge.rw_shrinkhouse_k19_no_question_twice.Holds := by
 w_on;o_law;k_head;(case hw=>w_witness2)
 k_fill
 exact PV.DC (p:=K18.Pr) (l:=PySem.Challenge.rw_shrinkhouse_k19_no_question_twice) (lw:=36) (n:=13) rfl rfl rfl ⟨rfl,by decide,by decide⟩ (fun w h Y=>PySem.W.kIn_of Y) (fun w=>by kernel_rfl) rfl rfl rfl K18.JG
#print axioms PySem.Challenge.cw_shrinkhouse_k19_no_question_twice_holds
