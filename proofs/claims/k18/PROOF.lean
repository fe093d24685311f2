import PyProof.Rows.All
import Wide.All
import OpenK.AllK
import Wide.FinOn
import Lean
import PyProof.EqAt
import PyProof.EqKinds
import PyProof.TupleCall
import PyProof.StrLawsIn
import KE.KTryMore
import KE.KDictOf
import PyProof.Draws
import PyProof.EnumMake
import PyProof.Rows.EnumRows
import PyProof.ZipIter
import KE.KRevIter
import KE.KDictList
import PyProof.ListRange
import PySem.Challenge.RW_shrinkhouse_k18_answers_of_an_asker
set_option autoImplicit false
set_option Elab.async false
set_option linter.all false
set_option maxRecDepth 100000
set_option maxHeartbeats 4000000
set_option compiler.extract_closed false
open List renaming length_map→a_, getElem?_eq_getElem→c_, getElem?_map→g_, getElem?_eq_some_iff→j_, map_cons→p_, mem_cons→u_, mem_singleton→y_, mem_map→z_, mem_of_getElem?→A_, getD_eq_getElem?_getD→B_, size_toArray→C_, mem_append_right→D_, length_cons→E_, length_append→G_, mem_cons_of_mem→I_, map_map→R_, map_append→S_, all_eq_true→T_, mem_append→U_, length_take→V6, lookup_cons→V7, mem_iff_getElem?→V8, mem_cons_self→V_, getElem?_append_right→Wb, length_range→Wc, length_singleton→Wf, range→Wg, filterMap_cons→Wh, getElem?_append_left→Wm, not_mem_nil→Wp, getElem?_eq_none→Wu, mem_range→Wv, mem_of_mem_take→Wz, append_nil→WB, all_cons→WD, filter_cons→WE, map_congr_left→WF, take_of_length_le→WM, map_nil→WX, take_zero→W0, getElem?_range→W4, drop_eq_getElem_cons→W6, getElem?_zip_eq_some→W7, getElem?_drop→W_, mem_iff_getElem→Xc, mem_filter→Xf, find?_cons→Xh, length_set→Xi, getElem?_set_self→Xl, length_drop→Xq, any_eq_true→Xr, zip_cons_cons→Xx, take_append_drop→Xy, lookup→XE, take_add_one→XF, all_map→XG, filter_cons_of_pos→XQ, filter_cons_of_neg→XR, take_length→XS, filter_eq_nil_iff→X4, nodup_cons→X7, any_cons→Ya, mem_append_left→Yd, getElem?_set_ne→Ye, getElem_mem→Ym, pairwise_cons→YD, getElem?_cons_succ→YN, length_eq_zero_iff→YO, flatten_cons→YW, append_assoc→YX, any_map→Y0, length_pos_of_mem→Y1, length_replicate→Y4, contains_iff_mem→Y7, zipIdx_cons→Y9, map_take→Ze, mem_zipIdx_iff_getElem?→Zm, length_reverse→Zr, forIn_nil→ZJ, length_zipIdx→ZL, take_sublist→ZS, ext_getElem?→ZV, getElem?_replicate→Z7, cons_append→Z9, pairwise_lt_range→aaq, of_mem_zip→aaw, forIn_cons→aax, length_nil→aay, range_succ→aaB, length_zip→aaC, length_filter_le→aaG, getElem?_reverse→aaI, length→aaR, getElem?_zipIdx→aaW, mem_of_mem_drop→aaX, pairwise_append→aaY, takeWhile_cons→aa7, length_take_le→aa8, contains→abd, map_drop→abe, mem_filterMap→abh, getElem_range→abt, getElem?_take→abw, count_pos_iff→abx, push_toArray→abJ, all_nil→abS, getElem_take→abT, countP_cons→ab2, drop_length→ab5, isEmpty_iff→ab6, foldl_cons→acg, zipIdx_nil→ach, countP_map→aci, replicate→acu, drop_zero→acB
open PySem renaming wpAny_bind→b_, Shared→h_, wpAny_pure→o_, PyData→K_, Program→L_, starEach→N_, compareOp→Wo, wpAny_truthy_bool→Wq, Around→Wt, wpAny_field→Wy, FuncData→WJ, wpAny_newObj_type→WO, behindInMarks→WP, bootBuiltins→WQ, wpAny_callSpecial?_slot→WU, foldedSetIterable→WW, wpAny_seqItems→WZ, wpAny_call_entry→W9, rawInt→Xa, strIterType→Xb, swapsWith→Xd, wpAny_mono→Xg, backTo→Xm, NameKind→Xu, wpAny_setField_rec→Xw, wpAny_passesOwn→XB, attributeBase→XI, IsPair→XM, mem_of_lookup→XN, wpAny_getItem_str_slice→XO, wpAny_of_eq→XT, sysModules→XY, wpAny_Call_Name_kw→X0, wpAny_pyIter_tuple→X3, keywordEach→Yh, compEnvC→Yi, codeAny→Yk, cellsFrom→Yl, binaryOp→Yr, wpAny_comprehension_free→Yt, ReadsAll→Yu, wpAny_specialOf→Yz, wpAny_rule→YC, sliceBounds→YJ, Operator→YQ, wpAny_pyIter_rangeiter→YR, wpAny_pyIter_list→YV, eqIsQuiet_byValue→YZ, wpAny_holding→Zb, Keyword→Zc, Builtin→Zd, wpAny_updateSeq_pair→Zg, letOwnedTupleGo→Zh, post_val_or_str→Zi, pyHashByItsType→Zl, codeAny_mono→Zv, wpAny_typeOf→Zw, pushCells→Zz, backToKw→ZH, newFunctionEnv→ZI, getItem→ZT, wpAny_onRaise→ZZ, wpAny_pyHash_int→Z4, wpAny_pyHash_str→Z5, Paired→aac, builtinsNs→aad, holding→aae, assignEach→aaf, wpAny_pyNext_list_item→aag, wpAny_pyNext_range_end→aah, IsPart→aak, wpAny_Call_method_late→aam, callerA→aao, codeAny_compStart_list→aap, wpAny_execs_nil→aat, codeAny_builtin→aaz, wpAny_loadPart'→aaA, wpAny_isTrue_Compare1→aaE, wpAny_pyNext_list_end→aaF, isTrue→aaL, wpAny_loadName_local→aaM, IsRangeIter→aaN, recursionLimit→aaP, subscripted→aaS, standAt→aa1, PassesOwn→aa2, wpAny_loadName_cell→aa3, rangeSize_one→aa9, call_meets→abl, Within→aby, BindsTo→abE, bindArgs→abF, valueAt→abL, tupleKind→abU, assign→abV, pyNext→abW, getMethod→abY, Arguments→abZ, stored→ab1, sizeLine_eq→ab9, wpAny_letGo→aca, UnaryOp→acm, IsRange→aco, call→acy
open PySem.W renaming Frag→e_, findIn→Wr, keepIn→Ws, kia_one→WL, emptyDict→WN, instObj→Xe, fnOf→Xn, callWith_K→X1, codeIn→Yg, plainGet→Yj, nsIn→Yn, hasDictIn→YS, isFn→YT, kitOne→YU, methodCall_KW→Y5, plainGet_of→Zq, lookIn→ZE, methodObj→ZO, plainOver→ZQ, specialIn→ZR, mg_of→Z2, cellsFrom_some→aaj, takerIn→aau, makesIn→aav, kitx_list→abA, kitx_dict→abB, handedIn→abX, OpenLaw→acd, readsIn→ace, findCls→acf, CFound→acC, WalkO→acF
open PySem.Heap renaming get?_push_of_some→i_, lt_size→r_, get?_push_size→v_, size_push→WI, SameBut→XZ, IsTuple→abM
open Int renaming toNat_natCast→l_, zero_add→Wd, eq_ofNat_of_zero_le→Ww, emod_nonneg→W5, natCast_add→XD, emod_lt_of_pos→X2, natCast_mul→Zo, toNat→ZA, fdiv_eq_ediv_of_nonneg→ZD, mul_one→ZP, mul_zero→abR
open Option renaming map_eq_some_iff→m_, map_some→Yy, isSome_iff_exists→ZY, getD_none→Z8, isSome_some→abo, getD_some→ab0
open Bool renaming false_ne_true→q_, and_eq_true→t_, and_true→Wx, eq_iff_iff→WK, false_xor→ZK, true_xor→Z0, false_or→abb, false_eq_true→abm, or_eq_true→acj, false_and→acs
open Nat renaming lt_of_lt_of_le→s_, le_refl→x_, ne_of_lt→J_, le_trans→P_, lt_irrefl→Wa, lt_or_ge→WS, div_add_mod→Xj, le_of_lt→Xk, zero_le→Xo, lt_succ_self→Xp, min_eq_left→XC, le_succ→Yf, div_eq_of_lt→Yo, mod_eq_of_lt→Yp, lt_of_le_of_lt→YF, eq_zero_or_pos→YG, add_zero→Y2, le_add_right→Y_, mul_add_mod'→Za, mul_add_div→Zn, mul_le_mul_left→Zs, ne_of_gt→Zu, mul_le_mul→ZM, le_of_eq→aai, add_comm→aar, mul_comm→aas, not_lt→abn, lt_succ_of_lt→abI, sub_zero→abQ, min_eq_right→ab7, mod_lt→acD
open Option.some renaming inj→F_
open PySem.SeqAt renaming shaped→H_, canLay_of_shaped→W1, room_of_shaped→aaU, notIn_listAt→abk, eqAt_reads→ab4, in_listAt→acb
open Ne renaming symm→M_
open PySem.PyData renaming eqv→O_, canLayAll0→Q_, depthAll→V9, canLay0→WC, depth→WY, tuple→W2, eqvAll→Yb, int→YB, str→YH, list→ZW, strOk→abK
open PySem.Value renaming ref→V5, none→XW, type→XX, int→Y8, bool→ZB, str→Z3, float→ab8, isStrOf→acE, builtin→acH
open False renaming elim→Wi
open PySem.PyData.eqvAll renaming eq_2→Wj, eq_1→YE
open PyProof.Rows renaming slot_tuple_getitem→Wk, callWith_type1→WH, boot_list→X5, boot_range→X6, boot_tuple→YL, AllBare→Zt, subscriptTail_builtinR→aal, boot_int→aaH, envOfC→aaQ, entry_tuple_getitem→aa4, subscriptTail→aa_, IntsAre→acn
open PySem.NameKind renaming free→Wl, cell→WV
open PySem.Builtin.SmallTypes renaming nextOf→Wn, ownedTupleIsFree→Yw, ownedTupleHandOut→aa6
open PySem.Str renaming empty→WA, ofString→WR, length_append→XH, length→abj
open True renaming intro→WG
open PySem.Builtin.Str renaming occurrences→WT
open PySem.Txt renaming slice→Xs
open PySem.F renaming slot_tuple_iterator_next→Xv, slot_list_getattribute→Yv, plainAttrs_list→YM, slot_tuple_hash→YY, slot_list_append→Y3, slot_range_reversed→Y6, args_tuple_iterator_next_1→Zj, slot_zip_next→Zk, entry_tuple_iterator_next→Zx, type_list_append→Z1, slot_tuple_count→aaJ, slot_list_extend→aaK, plain_reversed_new→aaV, args_zip_next_1→abP
open PySem.Builtin.Slice renaming slicePlaces→Xz, sliceAdjust→Yq, sliceApplied→ZF
open PySem.Builtin.Tuple renaming tupleHashOf→XA, tupleExact→XJ, tupleItemsOf→ZG
open Sum renaming inl→XU, inr→aaZ
open ForInStep renaming yield→X8
open PySem.PyData.eqv renaming eq_8→X_, eq_7→aaD, eq_6→ack, eq_5→acl
open PySem.Builtin.List renaming listTooLong→Ys
open PySem.Builtin.Range renaming rangeSize→YI, rangeFitsLong→Zy
open Classical renaming propDecidable→YK, byContradiction→ZN
open PySem.Around renaming under_plainId→Zf, under→abC
open Array renaming length_toList→Zp, forIn_toList→abv
open PySem.Calls renaming Name_function_global→ZC, callWith_builtin→aan, evalArgs_plain→aaT
open List.Pairwise renaming nil→ZU
open PySem.Paired renaming length→ZX
open PySem.Data renaming cell→Z6, fields→aaO, seq→acz
open PySem.Builtin.Dict renaming updateFrom→Z_
open PySem.Heap.SameBut renaming update→aa5
open PySem.SeqAt.EqAt renaming int_str→abf, str_int→abg
open PySem.Code renaming quiet_builtin→abq, isFrame→abD
open PySem.Obj renaming data_mapFields→abr
open PySem.SeqAt.Reads renaming unique→abu
open PySem.WalksT renaming enumerateD→abN
open PySem.Shared renaming heap→ab_
open Iff renaming rfl→acp
open PyProof.Rows.IsTup renaming new→acJ
open Sum.inl renaming inj→acP
noncomputable abbrev d_:=@decide_eq_true
noncomputable abbrev f_:=@decide_eq_false
noncomputable abbrev k_:=@Option
noncomputable abbrev n_:=@if_neg
noncomputable abbrev w_:=@if_pos
noncomputable abbrev V4:=@decide_eq_true_iff
noncomputable abbrev W3:=@beq_eq_false_iff_ne
noncomputable abbrev W8:=@beq_iff_eq
noncomputable abbrev Xt:=@beq_self_eq_true
noncomputable abbrev X9:=@or_false
noncomputable abbrev Yc:=@decide_eq_true_eq
noncomputable abbrev Yx:=@if_true
noncomputable abbrev YA:=@String
namespace L2
open PySem PySem.Spec PyProof.Rows
noncomputable abbrev Key:=Sum Int Str
noncomputable def qm:Key->Value->Bool
 | .inl k,v=>Value.isInt k v
 | .inr x,v=>acE x v
noncomputable def OZ (w:World):Key->Int
 | .inl k=>hashInt k
 | .inr x=>hashStr w x
theorem bu:∀ {k:Key}{v:Value},qm k v=true->(∃ i t,k=XU i/\v=Y8 i t)∨(∃ x t,k=aaZ x/\v=Z3 x t)
 | .inl i,v,h=>by
  obtain⟨t,e⟩:=Value.isInt_shape (k:=i) (v:=v) h;exact .inl ⟨i,t,rfl,e⟩
 | .inr x,v,h=>by
  obtain⟨t,e⟩:=Value.isStrOf_shape (x:=x) (v:=v) h;exact .inr ⟨x,t,rfl,e⟩
theorem xD (i:Int) (t:Tok):qm (.inl i) (.int i t)=true:=by simp [qm,Value.isInt]
theorem xE (x:Str) (t:Tok):qm (.inr x) (.str x t)=true:=by simp [qm,acE]
theorem ER (a b:Int):decide ((XU a:Key)=XU b)=(a==b):=by
 by_cases e:a=b
 ·subst e;simp
 ·have h:¬ (XU a:Key)=XU b:=fun q=>e (acP q)
  rw[f_ h];exact (W3.mpr e).symm
theorem ES (a b:Str):decide ((aaZ a:Key)=aaZ b)=decide (a=b):=by
 by_cases e:a=b
 ·subst e;simp
 ·have h:¬ (aaZ a:Key)=aaZ b:=fun q=>e (Sum.inr.inj q)
  rw[f_ h,f_ e]
theorem ET (a:Int) (b:Str):decide ((XU a:Key)=aaZ b)=false:=f_ (fun q=>nomatch q)
theorem EU (a:Str) (b:Int):decide ((aaZ a:Key)=XU b)=false:=f_ (fun q=>nomatch q)
noncomputable def aZ (prog:L_) (w:World):PySem.KeyKind prog w Key where
 is:=qm
 hash:=OZ w
 inj:=fun v a b ha hb=>by
  rcases bu ha with ⟨i,t,rfl,rfl⟩ | ⟨x,t,rfl,rfl⟩
  ·rcases bu hb with ⟨j,u,rfl,e⟩ | ⟨y,u,rfl,e⟩
   ·injection e with e1 _;rw[e1]
   ·exact nomatch e
  ·rcases bu hb with ⟨j,u,rfl,e⟩ | ⟨y,u,rfl,e⟩
   ·exact nomatch e
   ·injection e with e1 _;rw[e1]
 byValue:=fun k v h=>by
  rcases bu h with ⟨i,t,rfl,rfl⟩ | ⟨x,t,rfl,rfl⟩<;>rfl
 pyHash:=fun hv h=>by
  rcases bu hv with ⟨i,t,rfl,rfl⟩ | ⟨x,t,rfl,rfl⟩
  ·exact Z4 h
  ·exact Z5 h
 eqBool:=fun hu hv h=>by
  rcases bu hu with ⟨i,t,rfl,rfl⟩ | ⟨x,t,rfl,rfl⟩
  ·rcases bu hv with ⟨j,u,rfl,rfl⟩ | ⟨y,u,rfl,rfl⟩
   ·rw[ER] at h;exact wpAny_eqBool_int h
   ·rw[ET] at h;exact abf i t y u _ _ _ _ h
  ·rcases bu hv with ⟨j,u,rfl,rfl⟩ | ⟨y,u,rfl,rfl⟩
   ·rw[EU] at h;exact abg x t j u _ _ _ _ h
   ·rw[ES] at h;exact wpAny_eqBool_str h
 «strs»:=fun k x t v h=>by
  rcases bu h with ⟨i,u,rfl,e⟩ | ⟨y,u,rfl,e⟩
  ·exact nomatch e
  ·injection e with e1 _
   subst e1
   cases v<;>rfl
theorem sS (prog:L_) (w:World) (i:Int) (t:Tok):(aZ prog w).is (.inl i) (.int i t)=true:=xD i t
theorem sT (prog:L_) (w:World) (x:Str) (t:Tok):(aZ prog w).is (.inr x) (.str x t)=true:=xE x t
end L2
namespace L2
open PySem PySem.Spec PyProof.Rows
inductive V where
 | aK | bl (b:Bool) | int (i:Int) | str (x:Str) | wx (b:Array UInt8) | EV (b:UInt64) | ref (a:Addr) | ty (n:YA)
 deriving DecidableEq
def RelV:V->Value->Prop
 | .aK,u=>u=XW
 | .bl b,u=>u=ZB b
 | .int i,u=>∃ t,u=Y8 i t
 | .str x,u=>∃ t,u=Z3 x t
 | .wx b,u=>∃ t,u=Value.bytes b t
 | .EV b,u=>∃ t,u=ab8 b t
 | .ref a,u=>u=V5 a
 | .ty n,u=>u=XX n
abbrev Vals:List V->List Value->Prop:=aac RelV
theorem Vals.length {xs:List V}{us:List Value} (r:Vals xs us):xs.length=us.length:=ZX r
theorem Vals.get:∀ {xs:List V}{us:List Value}{i:Nat}{x:V},Vals xs us->xs[i]? = some x->∃ u,us[i]? = some u/\RelV x u
 | _,_,_,_,.nil,e=>by simp at e
 | _,_,0,_,.cons r _,e=>by simp at e;subst e;exact⟨_,rfl,r⟩
 | _,_,i+1,x,.cons _ t,e=>by
  obtain⟨u,h1,h2⟩:=Vals.get (i:=i) (x:=x) t (by simpa using e);exact⟨u,by simpa using h1,h2⟩
theorem Vals.append:∀ {xs ys:List V}{us ws:List Value},Vals xs us->Vals ys ws->Vals (xs++ys) (us++ws)
 | _,_,_,_,.nil,s=>s
 | _,_,_,_,.cons r t,s=>.cons r (Vals.append t s)
theorem Vals.take:∀ {xs:List V}{us:List Value} (n:Nat),Vals xs us->Vals (xs.take n) (us.take n)
 | _,_,0,_=>.nil
 | _,_,_+1,.nil=>.nil
 | _,_,n+1,.cons r t=>.cons r (Vals.take n t)
theorem Vals.drop:∀ {xs:List V}{us:List Value} (n:Nat),Vals xs us->Vals (xs.drop n) (us.drop n)
 | _,_,0,r=>r
 | _,_,_+1,.nil=>.nil
 | _,_,n+1,.cons _ t=>Vals.drop n t
def jO:k_ V->k_ Value->Prop
 | some v,some u=>RelV v u
 | none,none=>True
 | _,_=>False
def KV {κ:Type}:List (κ×V)->List (κ×Value)->Prop:=aac fun (p:κ×V) (q:κ×Value)=>p.1=q.1/\RelV p.2 q.2
noncomputable def kV:Key->V
 | .inl i=>.int i
 | .inr x=>.str x
inductive HO where
 | lst (xs:List V)
 | tup (xs:List V)
 | dK (am:List (Key×V)) | dT (am:List (List Key×V))
 | set (S:Int->Bool) (n:Nat)
 | ins (C dx:Addr) (fs:List (Str×V))
 | own (x:Addr)
 | xd (fs:List (Str×V))
 | met (f x:Addr)
 | xF (lo hi:Int)
 | eM (o:Obj) (u:HO)
 | EW (ps:Array Value)
 | ext (φ:Heap->Prop)
noncomputable abbrev Hp:=Addr->k_ HO
noncomputable def upd (H:Hp) (a:Addr) (o:HO):Hp:=fun b=>if b=a then some o else H b
theorem aA {H:Hp}{a:Addr}{o:HO}:upd H a o a=some o:=by unfold upd;rw[w_ rfl]
theorem aq {H:Hp}{a b:Addr}{o:HO} (h:b≠a):upd H a o b=H b:=by unfold upd;rw[n_ h]
theorem ax {H:Hp}{a b:Addr}{o:HO} (h:H a=some o) (h':H b=none):a≠b:=by
 intro e;subst e;rw[h] at h';cases h'
section
variable (P:L_) (w:World)
def aU (H:Hp) (h:Heap) (a:Addr):HO->Prop
 | .lst xs=>xs.length<=sizeLine/\∃ (ao:List Value) (n:Nat),Vals xs ao/\h.get? a=some { cls:=.type "list",data:=.seq ao.toArray n }
 | .tup xs=>xs.length<=sizeLine/\∃ ao:List Value,Vals xs ao/\IsTup h a ao.toArray
 | .dK am=>am.length<=sizeLine/\(a==XY)=false/\∃ vs,KV am vs/\h.DictOf (aZ P w) a vs
 | .dT am=>am.length<=sizeLine/\(a==XY)=false/\∃ xs:List (List Key×Addr×Value),
   aac (fun (p:List Key×V) (q:List Key×Addr×Value)=>p.1=q.1/\H q.2.1=some (.tup (p.1.map kV))/\RelV p.2 q.2.2) am xs /\
   ∃ o es ep,h.get? a=some o/\o.ExactDict/\o.data=.dict es ep/\es.toList=xs.map (entryOfKey (abU (aZ P w)))/\(xs.map (·.1)).Nodup
 | .set S n=>h.SetOf (intKind P w) a S n
 | .ins C dx fs=>H dx=some (.own a)/\fs.length<=1000/\dx≠a/\h.get? a=some (Xe C dx) /\
   ∃ mA,h.Ns1 dx mA/\(∀ f,jO (fs.lookup f) (mA f))/\aby mA (fs.map (·.1))
 | .own _=>∃ o,h.get? a=some o
 | .xd fs=>∃ mA,h.Ns1 a mA/\∀ f,jO (fs.lookup f) (mA f)
 | .xF lo hi=>∃ t u v,h.get? a=some { cls:=.type "range",data:=.fields #[.int lo t,.int hi u,.int 1 v] }
 | .eM o u=>h.get? a=some o/\aU H h a u
 | .EW ps=>h.get? a=some { cls:=.none,data:=.fields ps }
 | .met f x=>h.get? a=some (ZO (.ref f) (.ref x))
 | .ext φ=>φ h/\(∃ o,h.get? a=some o)/\∀ h1 h2:Heap,φ h1->(∀ o,h1.get? a=some o->h2.get? a=some o)->φ h2
def iT (H:Hp) (h:Heap):Prop:=∀ a o,H a=some o->aU P w H h a o
end
section
variable {P:L_}{w:World}{H H':Hp}{h h':Heap}{a:Addr}{o:HO}
theorem aU.lt (x:aU P w H h a o):a<h.objs.size:=by
 cases o with
 | lst xs=>obtain⟨_,_,_,_,e⟩:=x;exact r_ e
 | tup xs=>obtain⟨_,_,_,p⟩:=x;exact p.lt
 | dK am=>obtain⟨_,_,_,_,o,_,_,e,_⟩:=x;exact r_ e
 | dT am=>obtain⟨_,_,_,_,o,_,_,e,_⟩:=x;exact r_ e
 | set S n=>obtain⟨o,_,_,_,e,_⟩:=x;exact r_ e
 | ins C dx fs=>obtain⟨_,_,_,e,_⟩:=x;exact r_ e
 | own y=>obtain⟨_,e⟩:=x;exact r_ e
 | xd fs=>obtain⟨_,⟨_,_,_,e,_⟩,_⟩:=x;exact r_ e
 | xF lo hi=>obtain⟨_,_,_,e⟩:=x;exact r_ e
 | eM ob u=>obtain⟨e,_⟩:=x;exact r_ e
 | EW ps=>exact r_ (show h.get? a=some _ from x)
 | met f y=>exact r_ (show h.get? a=some _ from x)
 | ext φ=>obtain⟨_,⟨_,e⟩,_⟩:=x;exact r_ e
theorem aac.J0 {α β:Type}{F G:α->β->Prop}:∀ {l₁:List α}{l₂:List β},aac F l₁ l₂->(∀ a b,F a b->G a b)->aac G l₁ l₂
 | _,_,.nil,_=>.nil
 | _,_,.cons r t,f=>.cons (f _ _ r) (aac.J0 t f)
theorem aU.eF (x:aU P w H h a o) (k:∀ b u,(b=a∨H b=some (.own a))->h.get? b=some u->h'.get? b=some u)
  (ho:∀ b,H b=some (.own a)->H' b=some (.own a)) (ht:∀ b xs,H b=some (.tup xs)->H' b=some (.tup xs)):aU P w H' h' a o:=by
 induction o with
 | lst xs=>obtain⟨z,ao,n,r,e⟩:=x;exact⟨z,ao,n,r,k _ _ (.inl rfl) e⟩
 | tup xs=>obtain⟨z,ao,r,ob,e,c⟩:=x;exact⟨z,ao,r,ob,k _ _ (.inl rfl) e,c⟩
 | dK am=>obtain⟨z,y,vs,r,ob,es,ep,e,c⟩:=x;exact⟨z,y,vs,r,ob,es,ep,k _ _ (.inl rfl) e,c⟩
 | dT am =>
  obtain⟨z,y,xs,r,ob,es,ep,e,c⟩:=x;exact⟨z,y,xs,aac.J0 r fun p q z=>⟨z.1,ht _ _ z.2.1,z.2.2⟩,ob,es,ep,k _ _ (.inl rfl) e,c⟩
 | set S n=>obtain⟨ob,es,ep,t,e,c⟩:=x;exact⟨ob,es,ep,t,k _ _ (.inl rfl) e,c⟩
 | ins C dx fs =>
  obtain⟨d,z,ne,e,mA,⟨od,es,ep,e2,c⟩,r⟩:=x;exact⟨ho _ d,z,ne,k _ _ (.inl rfl) e,mA,⟨od,es,ep,k _ _ (.inr d) e2,c⟩,r⟩
 | own y=>obtain⟨ob,e⟩:=x;exact⟨ob,k _ _ (.inl rfl) e⟩
 | xd fs=>obtain⟨mA,⟨od,es,ep,e,c⟩,r⟩:=x;exact⟨mA,⟨od,es,ep,k _ _ (.inl rfl) e,c⟩,r⟩
 | xF lo hi=>obtain⟨t,u,v,e⟩:=x;exact⟨t,u,v,k _ _ (.inl rfl) e⟩
 | eM ob u ih=>obtain⟨e,q⟩:=x;exact⟨k _ _ (.inl rfl) e,ih q⟩
 | EW ps =>
  have e:h.get? a=some { cls:=.none,data:=.fields ps }:=x;show h'.get? a=some { cls:=.none,data:=.fields ps };exact k a _ (.inl rfl) e
 | met f y =>
  have e:h.get? a=some (ZO (.ref f) (.ref y)):=x;show h'.get? a=some (ZO (.ref f) (.ref y));exact k a _ (.inl rfl) e
 | ext φ=>obtain⟨p,⟨o,e⟩,st⟩:=x;exact⟨st _ _ p fun o q=>k _ _ (.inl rfl) q,⟨o,k _ _ (.inl rfl) e⟩,st⟩
theorem iT.lt (x:iT P w H h) (e:H a=some o):a<h.objs.size:=(x a o e).lt
theorem iT.fresh (x:iT P w H h) (e:h.objs.size<=a):H a=none:=by
 cases q:H a with
 | none=>rfl
 | some u=>exact absurd (s_ (x.lt q) e) (Wa _)
theorem iT.kept (x:iT P w H h) (k:∀ b u,h.get? b=some u->h'.get? b=some u):iT P w H h':=fun a o e =>
 (x a o e).eF (fun b u _ q=>k b u q) (fun _ q=>q) fun _ _ q=>q
theorem iT.laid (x:iT P w H h) (k:∀ b u,h.get? b=some u->h'.get? b=some u) (hp:h.objs.size<=a) (new:aU P w (upd H a o) h' a o):iT P w (upd H a o) h':=fun b u e=>by
 have hn:=x.fresh hp;by_cases hb:b=a
 ·subst hb;rw[aA] at e;cases e;exact new
 ·rw[aq hb] at e;exact (x b u e).eF (fun c v _ q=>k c v q) (fun c q=>by rw[aq (ax q hn)];exact q) fun c xs q=>by rw[aq (ax q hn)];exact q
end
def Rd (H:Hp) (a:Addr) (u:HO):Prop:=H a=some u∨∃ o,H a=some (.eM o u)
theorem Rd.ok {P:L_}{w:World}{H:Hp}{h:Heap}{a:Addr}{u:HO} (r:Rd H a u) (x:iT P w H h):aU P w H h a u:=by
 rcases r with r | ⟨o,r⟩
 ·exact x a u r
 ·obtain⟨_,q⟩:=x a _ r;exact q
def J1:k_ HO->Prop
 | some (.lst _)=>True
 | some (.dK _)=>True
 | some (.dT _)=>True
 | some (.set _ _)=>True
 | some (.ins _ _ _)=>True
 | some (.ext _)=>True
 | _=>False
section
variable {P:L_}{w:World}{H:Hp}{h h':Heap}{x e:Addr}{o':HO}
theorem iT.write (ok:iT P w H h) (mu:J1 (H x)) (he:e=x∨H e=some (.own x)) (k:∀ b u,b≠e->h.get? b=some u->h'.get? b=some u) (JG:∃ u,h'.get? e=some u)
  (new:aU P w (upd H x o') h' x o'):iT P w (upd H x o') h':=fun b u q=>by
 have J2:∀ c y,H c=some (.own y)->c≠x:=fun c y r z=>by subst z;rw[r] at mu;exact mu
 have O0:∀ c xs,H c=some (.tup xs)->c≠x:=fun c xs r z=>by subst z;rw[r] at mu;exact mu
 by_cases hb:b=x
 ·subst hb;rw[aA] at q;cases q;exact new
 ·rw[aq hb] at q;by_cases EX:b=e
  ·have q':H b=some (.own x):=by
    rcases he with z | z
    ·exact absurd (EX.trans z) hb
    ·rw[EX];exact z
   rw[q] at q';cases q';obtain⟨v,hv⟩:=JG;exact⟨v,by rw[EX];exact hv⟩
  ·refine (ok b u q).eF (fun c v hc r=>k c v ?_ r) (fun c r=>by rw[aq (J2 c b r)];exact r) fun c xs r=>by rw[aq (O0 c xs r)];exact r
   rcases hc with rfl | hc
   ·exact EX
   ·rintro rfl;rcases he with z | z
    ·exact J2 c b hc z
    ·rw[hc] at z;cases z;exact hb rfl
end
structure Un (fs ex:List Addr) (H H':Hp) (h h':Heap):Prop where
 keep:∀ b o,h.get? b=some o->H b=none->b∉fs->b∉ex->h'.get? b=some o
 slot:∀ b o,h.get? b=some o->H b=none->b∈fs->b∉ex->∃ sl,h'.get? b=some { o with slots:=sl }
 free:∀ b o,h.get? b=some o->H b=none->b∉ex->H' b=none
 there:∀ b o,h.get? b=some o->b∉ex->∃ o',h'.get? b=some o'
 mr:∀ b xs,H b=some (.tup xs)->H' b=some (.tup xs)
 kQ:∀ b o u,H b=some (.eM o u)->H' b=some (.eM o u)
 pb:∀ b ps,H b=some (.EW ps)->∃ more,H' b=some (.EW (ps++more))
section
variable {fs fC ex VA:List Addr}{H H1 H2:Hp}{h h1 h2 h':Heap}{a x e:Addr}{o:HO}
theorem Un.any (u:Un fs ex H H1 h h1) {b:Addr}{ob:Obj} (q:h.get? b=some ob) (n:H b=none) (hx:b∉ex):∃ sl,h1.get? b=some { ob with slots:=sl }:=by
 by_cases hb:b∈fs
 ·exact u.slot b ob q n hb hx
 ·exact⟨ob.slots,u.keep b ob q n hb hx⟩
theorem Un.kept (k:∀ b u,h.get? b=some u->h'.get? b=some u):Un fs ex H H h h' :=
 ⟨fun b ob q _ _ _=>k b ob q,fun b ob q _ _ _=>⟨ob.slots,k b ob q⟩,fun _ _ _ n _=>n,fun b ob q _=>⟨ob,k b ob q⟩,fun _ _ q=>q,fun _ _ _ q=>q,fun _ ps q=>⟨#[],by rw[q];simp⟩⟩
theorem Un.refl:Un fs ex H H h h:=Un.kept fun _ _ q=>q
theorem Un.laid (k:∀ b u,h.get? b=some u->h'.get? b=some u) (hp:h.objs.size<=a) (hn:H a=none):Un fs ex H (upd H a o) h h' where
 keep:=fun b u q _ _ _=>k b u q
 slot:=fun b u q _ _ _=>⟨u.slots,k b u q⟩
 free:=fun b u q n _=>by rw[aq (J_ (s_ (r_ q) hp))];exact n
 there:=fun b u q _=>⟨u,k b u q⟩
 mr:=fun b xs q=>by rw[aq (ax q hn)];exact q
 kQ:=fun b u xs q=>by rw[aq (ax q hn)];exact q
 pb:=fun b ps q=>⟨#[],by rw[aq (ax q hn),q];simp⟩
theorem Un.write (mu:J1 (H x)) (he:e=x∨H e=some (.own x)) (k:∀ b u,b≠e->h.get? b=some u->h'.get? b=some u) (JG:∃ u,h'.get? e=some u):Un fs ex H (upd H x o) h h':=by
 have hx:∀ b,H b=none->b≠x:=fun b n z=>by subst z;rw[n] at mu;exact mu
 have hb:∀ b,H b=none->b≠e:=fun b n z=>by
  subst z;rcases he with r | r
  ·exact hx b n r
  ·rw[n] at r;cases r
 have hm:∀ b u,H b=some u->¬ J1 (some u)->b≠x:=fun b u q nm z=>by subst z;rw[q] at mu;exact nm mu
 refine⟨fun b u q n _ _=>k b u (hb b n) q,fun b u q n _ _=>⟨u.slots,k b u (hb b n) q⟩,fun b u q n _=>by rw[aq (hx b n)];exact n,fun b u q _=>?_,
  fun b xs q=>by rw[aq (hm b _ q fun z=>z)];exact q,fun b u xs q=>by rw[aq (hm b _ q fun z=>z)];exact q,fun b ps q=>⟨#[],by rw[aq (hm b _ q fun z=>z),q];simp⟩⟩
 by_cases EX:b=e
 ·subst EX;exact JG
 ·exact⟨u,k b u EX q⟩
end
noncomputable def Oc (h:Heap) (H:Hp):List Addr:=(Wg h.objs.size).filter fun a=>(H a).isSome
noncomputable def rn (h:Heap) (H:Hp):Heap:=PySem.W.hideAll h (Oc h H)
theorem xG (h:Heap) (H:Hp):(rn h H).objs.size=h.objs.size:=PySem.W.hideAll_size _ _
theorem yU {h:Heap}{H:Hp}{b:Addr}{o:Obj} (e:h.get? b=some o) (n:H b=none):(rn h H).get? b=some o :=
 PySem.W.hideAll_get _ e fun hm=>by
  have q:(H b).isSome=true:=(Xf.mp hm).2;rw[n] at q;simp at q
theorem BR {h:Heap}{H:Hp}{b:Addr}{o:Obj} (e:(rn h H).get? b=some o):h.get? b=some o/\H b=none:=by
 have e':h.get? b=some o:=PySem.W.of_hideAll (Oc h H) e;refine⟨e',?_⟩
 cases q:H b with
 | none=>rfl
 | some x =>
  have hm:b∈Oc h H:=Xf.mpr ⟨Wv.mpr (r_ e'),by simp [q]⟩;have z:(rn h H).get? b=none:=PySem.W.hideAll_none (Oc h H) hm;rw[z] at e;cases e
noncomputable def BS (g h:Heap) (L:Addr):List (Addr×Obj):=(Wg h.objs.size).filterMap fun a=>if a=L∨(g.get? a).isSome=true then none else (h.get? a).map fun o=>(a,o)
noncomputable def rest (g h:Heap) (L d:Addr):List (Addr×Obj):=(BS g h L).filter fun p=>decide (p.1≠d)
end L2
namespace L2
open PySem PySem.Spec PyProof.Rows
structure Mod (K:e_) (mg:Str->k_ Value) (base:Heap):Prop where
 EY:K.In base
 glob:base.Ns mainGlobals mg
 blt:∃ mb,base.Ns aad mb/\∀ x:Str,x ≠ "__name__" ->mb x=WQ x
 nolimit:base.NoLimit
structure Cx where
 prog:L_
 w:World
 K:e_
 mg:Str->k_ Value
 base:Heap
 A:Wt
 N:List Str
 s₀:h_
 H₀:Hp
 env:Env
 outer:List Env
 stack:List Env
 ex:List Addr
 fn:Str->Bool
 calm:Bool
 pn:List (Addr×Obj)
 xe:Value->h_->Prop
noncomputable def o0 (l:List Env):List Addr:=l.filterMap (·.frame)
noncomputable abbrev Cx.fs (X:Cx):List Addr:=o0 X.outer
def yV (sc:Scope) (x:Str):Prop:=sc.names.lookup x=some .local∨sc.names.lookup x=some .cell∨sc.names.lookup x=some .free
def Loc (sc:Scope) (x:Str):Prop:=sc.names.lookup x=some .local∨sc.names.lookup x=some .cell
def Look (env:Env) (h:Heap) (m:Str->k_ Value) (x:Str) (u:Value):Prop :=
 (env.kindOf x=some .local/\m x=some u)∨((env.kindOf x=some .cell∨env.kindOf x=some .free)/\∃ c,env.cells.lookup x=some c/\h.IsCell c (some u))
structure Cx.Ok (X:Cx):Prop where
 mod:Mod X.K X.mg X.base
 kind:X.env.scope.kind=.function
 glob:X.env.globals=mainGlobals
 blt:X.env.builtins=aad
 above:X.s₀.heap.objs.size<=X.env.locals
 inj:∀ x y c,X.env.cells.lookup x=some c->X.env.cells.lookup y=some c->x=y
 has:∀ x,(X.env.kindOf x=some .cell∨X.env.kindOf x=some .free)->∃ c,X.env.cells.lookup x=some c
 J3:∀ x c,X.fn x=true->X.env.cells.lookup x=some c->X.s₀.heap.objs.size<=c
 hd:X.calm=true->X.A.handled=none
 frames:X.A.frames=some X.stack
 Od:X.stack=X.outer∨(X.stack=X.env::X.outer/\X.env.frame=some X.env.locals)
 RM:∀ b∈X.ex,b≠X.env.locals/\∀ x c,X.env.cells.lookup x=some c->c≠b
 bs:∀ b o,X.base.get? b=some o->X.s₀.heap.get? b=some o/\X.H₀ b=none
 yW:X.base.objs.size<=X.s₀.heap.objs.size
 xH:∀ b o,X.base.get? b=some o->b∉X.ex
 BU:∀ b∈X.ex,b∉X.fs
 i6:X.s₀.heap.FunFrames X.base X.outer
 EZ:∀ b∈X.fs,X.H₀ b=none
structure Inv (X:Cx) (pins:List (Addr×Obj)) (σ:List (k_ V)) (H:Hp) (s:h_):Prop where
 ok:X.Ok
 os:s.os=X.s₀.os
 bare:Zt s.gens
 base:Un X.fs X.ex X.H₀ H X.s₀.heap s.heap
 loc:∃ m,s.heap.Ns X.env.locals m/\∀ (i:Nat) (x:Str) (v:V),X.N[i]? = some x->σ[i]? = some (some v)->yV X.env.scope x->∃ u,RelV v u/\Look X.env s.heap m x u
 cell:∀ x c,X.env.cells.lookup x=some c->∃ v,s.heap.IsCell c v
 free:H X.env.locals=none
 hJ:∀ x c,X.env.cells.lookup x=some c->H c=none
 pin:∀ p∈X.pn++pins,s.heap.get? p.1=some p.2/\H p.1=none/\p.1≠X.env.locals/\p.1∉X.fs/\∀ v,p.2.data≠.cell v
 bf:iT X.prog X.w H s.heap
 len:σ.length=X.N.length
section
variable {X:Cx}{pins:List (Addr×Obj)}{σ:List (k_ V)}{H H':Hp}{s:h_}{h':Heap}
theorem Cx.Ok.O1 (ok:X.Ok) {b:Addr}{o:Obj} (e:X.base.get? b=some o):b∉X.fs:=fun hb=>by
 have:=(ok.i6.mem hb).1;rw[e] at this;cases this
theorem Inv.bs (I:Inv X pins σ H s):∀ b o,X.base.get? b=some o->s.heap.get? b=some o/\H b=none:=fun b o e =>
 ⟨I.base.keep b o (I.ok.bs b o e).1 (I.ok.bs b o e).2 (I.ok.O1 e) (I.ok.xH b o e),I.base.free b o (I.ok.bs b o e).1 (I.ok.bs b o e).2 (I.ok.xH b o e)⟩
theorem Inv.bk (I:Inv X pins σ H s):∀ b o,X.base.get? b=some o->s.heap.get? b=some o:=fun b o e=>(I.bs b o e).1
theorem Inv.mod (I:Inv X pins σ H s):Mod X.K X.mg X.base:=I.ok.mod
theorem Inv.jK (I:Inv X pins σ H s):X.K.In s.heap:=I.ok.mod.EY.keeps I.bk
theorem Inv.lt (I:Inv X pins σ H s):X.env.locals<s.heap.objs.size:=let ⟨_,hn,_⟩:=I.loc;hn.lt
theorem Inv.sz (I:Inv X pins σ H s):X.s₀.heap.objs.size<=s.heap.objs.size:=P_ I.ok.above (Xk I.lt)
theorem Inv.O2 (I:Inv X pins σ H s) {a:Addr} (h:s.heap.objs.size<=a):a∉X.fs:=fun hb=>by
 obtain⟨_,o,ho,_⟩:=I.ok.i6.mem hb;exact absurd (s_ (r_ ho) (P_ I.sz h)) (Wa _)
theorem Inv.E1 (I:Inv X pins σ H s):∀ x c,X.env.cells.lookup x=some c->c≠X.env.locals:=fun x c e z=>by
 obtain⟨v,o,ho,hd⟩:=I.cell x c e;obtain⟨m,⟨o',es,ep,kR,pd,_⟩,_⟩:=I.loc;rw[z,kR] at ho;cases ho;rw[pd] at hd;cases hd
theorem Inv.i6 (I:Inv X pins σ H s):s.heap.FunFrames X.base X.outer:=by
 have all:∀ (l:List Env),(∀ b∈o0 l,b∈X.fs)->X.s₀.heap.FunFrames X.base l->s.heap.FunFrames X.base l:=by
  intro l
  induction l with
  | nil=>intro _ _;trivial
  | cons env r ih =>
   intro hs hl;obtain⟨hk,⟨L,o,hf,hn,ho,hd⟩,hr⟩:=hl;have hL:L∈X.fs:=hs L (by unfold o0;rw[Wh,hf];exact V_);obtain⟨sl,e⟩:=I.base.slot L o ho (I.ok.EZ L hL) hL fun z=>I.ok.BU L z hL
   exact⟨hk,⟨L,_,hf,hn,e,hd⟩,ih (fun b hb=>hs b (by unfold o0;rw[Wh,hf];exact I_ _ hb)) hr⟩
 exact all X.outer (fun _ hb=>hb) I.ok.i6
theorem Inv.stack (I:Inv X pins σ H s):s.heap.FunFrames X.base X.stack:=by
 rcases I.ok.Od with e | ⟨e,hf⟩
 ·rw[e];exact I.i6
 ·rw[e];obtain⟨m,hn,_⟩:=I.loc;refine .cons (by rw[I.ok.kind];decide) hf hn ?_ I.i6;exact Heap.get?_none_of_le (P_ I.ok.yW I.ok.above)
theorem Inv.hU (I:Inv X pins σ H s):∀ b∈o0 X.stack,b∈X.env.locals::X.fs:=fun b hb=>by
 rcases I.ok.Od with e | ⟨e,hf⟩
 ·rw[e] at hb;exact I_ _ hb
 ·rw[e] at hb;unfold o0 at hb;rw[Wh,hf] at hb;exact hb
theorem Inv.ro (I:Inv X pins σ H s):∀ b∈o0 X.stack,H b=none:=fun b hb=>by
 rcases u_.mp (I.hU b hb) with e | hb
 ·rw[e];exact I.free
 ·obtain⟨_,o,ho,_⟩:=I.ok.i6.mem hb;exact I.base.free b o ho (I.ok.EZ b hb) fun z=>I.ok.BU b z hb
theorem Inv.step {g':Array GenState}{t':Nat}{d':Drawn}{ch:List Addr} (I:Inv X pins σ H s)
  (sQ:∀ b∈ch,(b∈X.ex∨X.s₀.heap.objs.size<=b)/\b≠X.env.locals/\(∀ x c,X.env.cells.lookup x=some c->c≠b)/\∀ p∈X.pn++pins,p.1≠b)
  (keep:∀ b o,b≠X.env.locals->b∉X.fs->b∉ch->s.heap.get? b=some o->H b=none->h'.get? b=some o)
  (slot:∀ b o,b≠X.env.locals->b∈X.fs->b∉ch->s.heap.get? b=some o->H b=none->∃ sl,h'.get? b=some { o with slots:=sl }) (free:∀ b o,b∉ch->s.heap.get? b=some o->H b=none->H' b=none)
  (there:∀ b o,b∉ch->s.heap.get? b=some o->∃ o',h'.get? b=some o')
  (mr:∀ b xs,H b=some (.tup xs)->H' b=some (.tup xs)) (kQ:∀ b o u,H b=some (.eM o u)->H' b=some (.eM o u)) (pb:∀ b ps,H b=some (.EW ps)->∃ more,H' b=some (.EW (ps++more)))
  (ns:∀ m,s.heap.Ns X.env.locals m->h'.Ns X.env.locals m) (bf:iT X.prog X.w H' h') (hg:Zt g') :
  Inv X pins σ H' { s with heap:=h',gens:=g',drawn:=d',toks:=t' }:=by
 have RN:∀ b o,X.s₀.heap.get? b=some o->b≠X.env.locals:=fun b o e=>J_ (s_ (r_ e) I.ok.above)
 have Oe:∀ b o,X.s₀.heap.get? b=some o->b∉X.ex->b∉ch:=fun b o e hx hb=>by
  rcases (sQ b hb).1 with z | z
  ·exact hx z
  ·exact absurd (s_ (r_ e) z) (Wa _)
 have cellK:∀ x c,X.env.cells.lookup x=some c->∀ v,s.heap.IsCell c v->h'.IsCell c v:=fun x c e v ⟨o,ho,hd⟩=>by
  have J4:c∉ch:=fun z=>(sQ c z).2.2.1 x c e rfl
  by_cases hc:c∈X.fs
  ·obtain⟨sl,q⟩:=slot c o (I.E1 x c e) hc J4 ho (I.hJ x c e);exact⟨_,q,hd⟩
  ·exact⟨o,keep c o (I.E1 x c e) hc J4 ho (I.hJ x c e),hd⟩
 refine⟨I.ok,I.os,hg,⟨fun b o e n hb hx=>?_,fun b o e n hb hx=>?_,fun b o e n hx=>?_,fun b o e hx=>?_,fun b xs e=>mr b xs (I.base.mr b xs e),fun b o xs e=>kQ b o xs (I.base.kQ b o xs e),fun b ps e=>?_⟩,?_,fun x c e=>?_,?_,fun x c e=>?_,fun p hp=>?_,bf,I.len⟩
 ·exact keep b o (RN b o e) hb (Oe b o e hx) (I.base.keep b o e n hb hx) (I.base.free b o e n hx)
 ·obtain⟨sl,e1⟩:=I.base.slot b o e n hb hx;obtain⟨Td,e2⟩:=slot b _ (RN b o e) hb (Oe b o e hx) e1 (I.base.free b o e n hx);exact⟨Td,e2⟩
 ·obtain⟨o',e1⟩:=I.base.there b o e hx;exact free b o' (Oe b o e hx) e1 (I.base.free b o e n hx)
 ·obtain⟨o',e1⟩:=I.base.there b o e hx;exact there b o' (Oe b o e hx) e1
 ·obtain⟨m1,e1⟩:=I.base.pb b ps e;obtain⟨m2,e2⟩:=pb b _ e1;exact⟨m1++m2,by rw[e2,Array.append_assoc]⟩
 ·obtain⟨m,hn,hl⟩:=I.loc;refine⟨m,ns m hn,fun i x v e1 e2 e3=>?_⟩;obtain⟨u,r,l⟩:=hl i x v e1 e2 e3;refine⟨u,r,?_⟩;rcases l with l | ⟨k,c,e,z⟩
  ·exact .inl l
  ·exact .inr ⟨k,c,e,cellK x c e _ z⟩
 ·obtain⟨v,z⟩:=I.cell x c e;exact⟨v,cellK x c e v z⟩
 ·obtain⟨m,⟨o,_,_,ho,_⟩,_⟩:=I.loc;exact free _ o (fun z=>(sQ _ z).2.1 rfl) ho I.free
 ·obtain⟨v,o,ho,hd⟩:=I.cell x c e;exact free c o (fun z=>(sQ c z).2.2.1 x c e rfl) ho (I.hJ x c e)
 ·obtain⟨e,n,ne,nf,d⟩:=I.pin p hp;have J4:p.1∉ch:=fun z=>(sQ p.1 z).2.2.2 p hp rfl
  exact⟨keep p.1 p.2 ne nf J4 e n,free p.1 p.2 J4 e n,ne,nf,d⟩
theorem Inv.un {t':Nat} (I:Inv X pins σ H s) (u:Un X.fs [] H H' s.heap h') (bf:iT X.prog X.w H' h'):Inv X pins σ H' { s with heap:=h',toks:=t' }:=by
 obtain⟨m,⟨o,es,ep,ho,r⟩,_⟩:=id I.loc;obtain⟨sl,hL⟩:=u.any ho I.free (by simp)
 exact I.step (g':=s.gens) (d':=s.drawn) (ch:=[]) (fun _ z=>nomatch z) (fun b o _ hb _ e n=>u.keep b o e n hb (by simp)) (fun b o _ hb _ e n=>u.slot b o e n hb (by simp)) (fun b o _ e n=>u.free b o e n (by simp)) (fun b o _ e=>u.there b o e (by simp)) u.mr u.kQ u.pb (fun m' hm=>by
  obtain⟨o',O3,O4,kR,r'⟩:=hm;rw[ho] at kR;cases kR;exact⟨_,O3,O4,hL,r'⟩) bf I.bare
theorem Inv.call {g':Array GenState}{t':Nat}{d':Drawn}{ch:List Addr} (I:Inv X pins σ H s) (u:Un (o0 X.stack) ch H H' s.heap h') (bf:iT X.prog X.w H' h') (hg:Zt g')
  (sQ:∀ b∈ch,(b∈X.ex∨X.s₀.heap.objs.size<=b)/\b≠X.env.locals/\(∀ x c,X.env.cells.lookup x=some c->c≠b)/\∀ p∈X.pn++pins,p.1≠b) :
  Inv X pins σ H' { s with heap:=h',gens:=g',drawn:=d',toks:=t' }:=by
 obtain⟨m,⟨o,es,ep,ho,r⟩,_⟩:=id I.loc;obtain⟨sl,hL⟩:=u.any ho I.free fun z=>(sQ _ z).2.1 rfl
 exact I.step (ch:=ch) sQ (fun b o hL hb hc e n=>u.keep b o e n (fun z=>(u_.mp (I.hU b z)).elim hL hb) hc) (fun b o _ _ hc e n=>u.any e n hc) (fun b o hc e n=>u.free b o e n hc) (fun b o hc e=>u.there b o e hc) u.mr u.kQ u.pb (fun m' hm=>by
  obtain⟨o',O3,O4,kR,r'⟩:=hm;rw[ho] at kR;cases kR;exact⟨_,O3,O4,hL,r'⟩) bf hg
theorem Inv.turned {t':Nat}{it:Addr} (I:Inv X pins σ H s) (k:∀ b o,b≠it->s.heap.get? b=some o->h'.get? b=some o) (hn:H it=none) (hL:it≠X.env.locals)
  (h1:it∈X.ex∨X.s₀.heap.objs.size<=it) (h2:∀ x c,X.env.cells.lookup x=some c->c≠it) (h3:∀ p∈X.pn++pins,p.1≠it):Inv X pins σ H { s with heap:=h',toks:=t' }:=by
 have DU:∀ b u,H b=some u->b≠it:=fun b u e z=>by rw[z,hn] at e;cases e
 refine I.step (g':=s.gens) (d':=s.drawn) (ch:=[it]) (fun b hb=>?_) (fun b o _ _ hc e _=>k b o (fun z=>hc (by simp [z])) e) (fun b o _ _ hc e _=>⟨o.slots,k b o (fun z=>hc (by simp [z])) e⟩) (fun _ _ _ _ n=>n)
  (fun b o hc e=>⟨o,k b o (fun z=>hc (by simp [z])) e⟩) (fun _ _ e=>e) (fun _ _ _ e=>e) (fun b ps e=>⟨#[],by rw[e];simp⟩) (fun m hm=>?_) (fun b u e=>?_) I.bare
 ·have e:b=it:=by simpa using hb
  subst e;exact⟨h1,hL,h2,h3⟩
 ·obtain⟨o,es,ep,ho,r⟩:=hm;exact⟨o,es,ep,k _ o (M_ hL) ho,r⟩
 ·refine (I.bf b u e).eF (fun c v hc q=>k c v ?_ q) (fun _ q=>q) fun _ _ q=>q
  rcases hc with z | z
  ·rw[z];exact DU b u e
  ·exact DU c _ z
theorem Inv.tok (I:Inv X pins σ H s) (t:Nat):Inv X pins σ H { s with toks:=t }:=I.un (h':=s.heap) (t':=t) Un.refl I.bf
theorem Inv.kept {t':Nat} (I:Inv X pins σ H s) (k:∀ b u,s.heap.get? b=some u->h'.get? b=some u):Inv X pins σ H { s with heap:=h',toks:=t' }:=I.un (Un.kept k) (I.bf.kept k)
theorem Inv.laid {a:Addr}{o:HO}{t':Nat} (I:Inv X pins σ H s) (k:∀ b u,s.heap.get? b=some u->h'.get? b=some u) (hp:s.heap.objs.size<=a) (new:aU X.prog X.w (upd H a o) h' a o) :
  Inv X pins σ (upd H a o) { s with heap:=h',toks:=t' }:=I.un (Un.laid k hp (I.bf.fresh hp)) (I.bf.laid k hp new)
theorem Inv.write {x e:Addr}{o:HO}{t':Nat} (I:Inv X pins σ H s) (mu:J1 (H x)) (he:e=x∨H e=some (.own x)) (k:∀ b u,b≠e->s.heap.get? b=some u->h'.get? b=some u) (JG:∃ u,h'.get? e=some u)
  (new:aU X.prog X.w (upd H x o) h' x o):Inv X pins σ (upd H x o) { s with heap:=h',toks:=t' }:=I.un (Un.write mu he k JG) (I.bf.write mu he k JG new)
theorem Inv.dH {pins':List (Addr×Obj)} (I:Inv X pins σ H s) (h:∀ p∈pins',s.heap.get? p.1=some p.2/\H p.1=none/\p.1≠X.env.locals/\p.1∉X.fs/\∀ v,p.2.data≠.cell v):Inv X pins' σ H s :=
 ⟨I.ok,I.os,I.bare,I.base,I.loc,I.cell,I.free,I.hJ,fun p hp=>(U_.mp hp).elim (fun z=>I.pin p (Yd _ z)) (h p),I.bf,I.len⟩
theorem sU {N:List Str} (hN:N.Nodup) {i j:Nat}{x:Str} (a:N[i]? = some x) (b:N[j]? = some x):i=j:=by
 obtain⟨h1,e1⟩:=j_.mp a;obtain⟨h2,e2⟩:=j_.mp b;exact (List.getElem_inj hN).mp (e1.trans e2.symm)
theorem xI {M:Model}{A:Wt}{E:Value->h_->Prop}{i:Nat}{x:Str}{v:V}{u:Value}{Q:Unit->h_->Prop} (I:Inv X pins σ H s) (hN:X.N.Nodup) (hi:X.N[i]? = some x) (hx:Loc X.env.scope x) (r:RelV v u)
  (h : ∀ s', Inv X pins (σ.set i (some v)) H s' ->(∃ a, XZ a s.heap s'.heap /\ (a = X.env.locals ∨ X.env.cells.lookup x = some a)) ->Q () s') (hf : X.fn x = true ∨ X.env.scope.names.lookup x = some .local := by first | exact .inl rfl | exact .inr rfl | assumption) : wpAny M A (storeName X.env x u) Q E s := by
 obtain⟨m,hn,hl⟩:=id I.loc;have O5:(X.env.scope.kind==.class||(X.env.scope.kind==.module&&X.env.locals != X.env.globals))=false:=by rw[I.ok.kind];rfl
 have RO:i<σ.length:=by rw[I.len];exact (j_.mp hi).1
 have E1:=I.E1
 have tracked:∀ {a:Addr}{h':Heap},(∃ o,s.heap.get? a=some o/\H a=none)->XZ a s.heap h'->iT X.prog X.w H h':=fun {a h'} ha hs b ob e=>by
  obtain⟨_,_,DV⟩:=ha;refine (I.bf b ob e).eF (fun c w' hc q=>(hs.2 c ?_).trans q) (fun _ q=>q) fun _ _ q=>q
  rintro rfl;rcases hc with rfl | hc
  ·rw[DV] at e;cases e
  ·rw[DV] at hc;cases hc
 rcases hx with hk | hk
 ·refine wpAny_storeName_local hk hn (fun h' Bx hs=>?_) O5;obtain⟨oL,_,_,Te,_⟩:=id hn;refine h _ ⟨I.ok,I.os,I.bare,⟨fun b o e n hb hx=>?_,fun b o e n hb hx=>?_,I.base.free,fun b o e hx=>?_,I.base.mr,I.base.kQ,I.base.pb⟩,⟨_,Bx,fun j y v' e1 e2 e3=>?_⟩,fun y c e=>?_,I.free,I.hJ,fun p hp=>?_,tracked ⟨oL,Te,I.free⟩ hs,by simpa using I.len⟩ ⟨_,hs,.inl rfl⟩
  ·exact (hs.2 b (J_ (s_ (r_ e) I.ok.above))).trans (I.base.keep b o e n hb hx)
  ·obtain⟨sl,e1⟩:=I.base.slot b o e n hb hx;exact⟨sl,(hs.2 b (J_ (s_ (r_ e) I.ok.above))).trans e1⟩
  ·obtain⟨o',e1⟩:=I.base.there b o e hx;exact⟨o',(hs.2 b (J_ (s_ (r_ e) I.ok.above))).trans e1⟩
  ·by_cases hj:j=i
   ·subst hj;rw[hi] at e1;cases e1;rw[Xl RO] at e2
    cases e2
    exact⟨u,r,.inl ⟨hk,by simp⟩⟩
   ·rw[Ye (M_ hj)] at e2;obtain⟨u',r',q⟩:=hl j y v' e1 e2 e3;refine⟨u',r',?_⟩;rcases q with ⟨k,e⟩ | ⟨k,c,e,z⟩
    ·refine .inl ⟨k,?_⟩;have:y≠x:=fun e=>hj (sU hN e1 (e▸hi))
     simp [this,e]
    ·exact .inr ⟨k,c,e,z.sameBut hs (E1 y c e)⟩
  ·obtain⟨w',z⟩:=I.cell y c e;exact⟨w',z.sameBut hs (E1 y c e)⟩
  ·obtain⟨e,n,ne,nf,d⟩:=I.pin p hp;exact⟨(hs.2 p.1 ne).trans e,n,ne,nf,d⟩
 ·have O6:X.fn x=true:=by
   rcases hf with z | z
   ·exact z
   ·rw[z] at hk;cases hk
  obtain⟨c,hc⟩:=I.ok.has x (.inl hk);obtain⟨w',z⟩:=I.cell x c hc;refine wpAny_storeName_cell I.ok.kind hk hc z (fun h' yX hs=>?_);obtain⟨oc,By,O7⟩:=id z;refine h { s with heap:=h' } ⟨I.ok,I.os,I.bare,⟨fun b o e n hb hx=>?_,fun b o e n hb hx=>?_,I.base.free,fun b o e hx=>?_,I.base.mr,I.base.kQ,I.base.pb⟩,⟨m,hn.sameBut hs (M_ (E1 x c hc)),fun j y v' e1 e2 e3=>?_⟩,fun y c' e=>?_,I.free,I.hJ,fun p hp=>?_,tracked ⟨oc,By,I.hJ x c hc⟩ hs,by simpa using I.len⟩ ⟨c,hs,.inr hc⟩
  ·exact (hs.2 b (J_ (s_ (r_ e) (I.ok.J3 x c O6 hc)))).trans (I.base.keep b o e n hb hx)
  ·obtain⟨sl,e1⟩:=I.base.slot b o e n hb hx;exact⟨sl,(hs.2 b (J_ (s_ (r_ e) (I.ok.J3 x c O6 hc)))).trans e1⟩
  ·obtain⟨o',e1⟩:=I.base.there b o e hx;exact⟨o',(hs.2 b (J_ (s_ (r_ e) (I.ok.J3 x c O6 hc)))).trans e1⟩
  ·by_cases hj:j=i
   ·subst hj;rw[hi] at e1;cases e1;rw[Xl RO] at e2
    cases e2
    exact⟨u,r,.inr ⟨.inl hk,c,hc,yX⟩⟩
   ·rw[Ye (M_ hj)] at e2;obtain⟨u',r',q⟩:=hl j y v' e1 e2 e3;refine⟨u',r',?_⟩;rcases q with q | ⟨k,c',e,z'⟩
    ·exact .inl q
    ·refine .inr ⟨k,c',e,z'.sameBut hs ?_⟩;rintro rfl;exact hj (sU hN e1 (I.ok.inj _ _ _ e hc▸hi))
  ·by_cases RP:c'=c
   ·subst RP;exact⟨_,yX⟩
   ·obtain⟨w2,z2⟩:=I.cell y c' e;exact⟨w2,z2.sameBut hs RP⟩
  ·obtain⟨e,n,ne,nf,d⟩:=I.pin p hp;refine⟨(hs.2 p.1 ?_).trans e,n,ne,nf,d⟩;intro q;rw[q,By] at e;have q':oc=p.2:=F_ e;exact d w' (by rw[←q'];exact O7)
theorem jP {M:Model}{A:Wt}{E:Value->h_->Prop}{i:Nat}{x:Str}{v:V}{u:Value}{Q:Unit->h_->Prop} (I:Inv X pins σ H s) (hN:X.N.Nodup) (hi:X.N[i]? = some x) (hx:Loc X.env.scope x) (r:RelV v u)
  (h : ∀ s', Inv X pins (σ.set i (some v)) H s' ->Q () s') (hf : X.fn x = true ∨ X.env.scope.names.lookup x = some .local := by first | exact .inl rfl | exact .inr rfl | assumption) : wpAny M A (storeName X.env x u) Q E s :=
 xI I hN hi hx r (fun s' I' _=>h s' I') hf
theorem Inv.DW {s':h_}{ch:List Addr} (I:Inv X pins σ H s) (ho:s'.os=s.os) (u:Un (o0 X.stack) ch H H' s.heap s'.heap) (bf:iT X.prog X.w H' s'.heap) (hg:Zt s'.gens)
  (sQ:∀ b∈ch,(b∈X.ex∨X.s₀.heap.objs.size<=b)/\b≠X.env.locals/\(∀ x c,X.env.cells.lookup x=some c->c≠b)/\∀ p∈X.pn++pins,p.1≠b):Inv X pins σ H' s':=by
 obtain⟨h',g',d',t',o'⟩:=s';have e:o'=s.os:=ho;subst e;exact I.call (g':=g') (t':=t') (d':=d') u bf hg sQ
end
noncomputable abbrev XK:=Value->k_ Addr->Hp->Prop
noncomputable abbrev St:=List (k_ V)
noncomputable abbrev VK:=V->Hp->Prop
noncomputable abbrev TE:=St->Hp->VK->Prop
noncomputable abbrev TT:=St->Hp->(Bool->Hp->Prop)->Prop
noncomputable abbrev TA:=St->Hp->(List V->Hp->Prop)->Prop
structure Ends where
 nx:St->Hp->Prop
 rt:VK
 bk:St->Hp->Prop:=fun _ _=>False
 ct:St->Hp->Prop:=fun _ _=>False
noncomputable abbrev TS:=Ends->St->Hp->Prop
def EP (X:Cx) (pins:List (Addr×Obj)) (σ:St) (Q:VK) (u:Value) (s':h_):Prop:=∃ v H',Inv X pins σ H' s'/\RelV v u/\Q v H'
def TP (X:Cx) (pins:List (Addr×Obj)) (σ:St) (Q:Bool->Hp->Prop) (b:Bool) (s':h_):Prop:=∃ H',Inv X pins σ H' s'/\Q b H'
def AP (X:Cx) (pins:List (Addr×Obj)) (σ:St) (Q:List V->Hp->Prop) (us:List Value) (s':h_):Prop:=∃ vs H',Inv X pins σ H' s'/\Vals vs us/\Q vs H'
def SP (X:Cx) (pins:List (Addr×Obj)) (D:Ends) (f:Flow) (s':h_):Prop :=
 match f with
 | .next=>∃ σ' H',Inv X pins σ' H' s'/\D.nx σ' H'
 | .brk=>∃ σ' H',Inv X pins σ' H' s'/\D.bk σ' H'
 | .cont=>∃ σ' H',Inv X pins σ' H' s'/\D.ct σ' H'
 | .ret u=>∃ v σ' H',Inv X pins σ' H' s'/\RelV v u/\D.rt v H'
def PE (X:Cx) (e:Expr) (t:TE):Prop :=
 ∀ (pins:List (Addr×Obj)) (s:h_) (σ:St) (H:Hp) (Q:VK),Inv X pins σ H s->t σ H Q->wpAny (model X.prog X.w) X.A (eval e X.env) (EP X pins σ Q) X.xe s
def PT (X:Cx) (e:Expr) (t:TT):Prop :=
 ∀ (pins:List (Addr×Obj)) (s:h_) (σ:St) (H:Hp) (Q:Bool->Hp->Prop),Inv X pins σ H s->t σ H Q->wpAny (model X.prog X.w) X.A (aaL e X.env (eval e X.env)) (TP X pins σ Q) X.xe s
def PW (X:Cx) (e:Expr) (t:TT):Prop :=
 ∀ (whole:Sem Value) (pins:List (Addr×Obj)) (s:h_) (σ:St) (H:Hp) (Q:Bool->Hp->Prop),Inv X pins σ H s->t σ H Q->wpAny (model X.prog X.w) X.A (aaL e X.env whole) (TP X pins σ Q) X.xe s
theorem PW.pt {X:Cx}{e:Expr}{t:TT} (h:PW X e t):PT X e t:=h _
def PA (X:Cx) (es:List Expr) (t:TA):Prop :=
 ∀ (pos:Pos) (pins:List (Addr×Obj)) (s:h_) (σ:St) (H:Hp) (Q:List V->Hp->Prop),Inv X pins σ H s->t σ H Q->wpAny (model X.prog X.w) X.A (spliced (Xm pos (N_ es X.env))) (AP X pins σ Q) X.xe s
def PS (X:Cx) (st:Stmt) (t:TS):Prop :=
 ∀ (pins:List (Addr×Obj)) (s:h_) (σ:St) (H:Hp) (D:Ends),Inv X pins σ H s->t D σ H->wpAny (model X.prog X.w) X.A (exec st X.env) (SP X pins D) X.xe s
def lL (X:Cx) (st:List Stmt) (t:TS):Prop :=
 ∀ (pins:List (Addr×Obj)) (s:h_) (σ:St) (H:Hp) (D:Ends),Inv X pins σ H s->t D σ H->wpAny (model X.prog X.w) X.A (execs st X.env) (SP X pins D) X.xe s
theorem a9 {α:Type}{t:Sem α}{Q Q':α->h_->Prop}{M:Model}{A:Wt}{E:Value->h_->Prop}{s:h_} (h:wpAny M A t Q E s) (hQ:∀ a s,Q a s->Q' a s):wpAny M A t Q' E s:=Xg h hQ fun _ _ x=>x
end L2
namespace L2
open PySem PySem.Spec PyProof.Rows
section
variable {X:Cx}
theorem bin {a b:Expr}{ta tb:TE} (ha:PE X a ta) (hb:PE X b tb) {pins:List (Addr×Obj)}{s:h_}{σ:St}{H:Hp}{R:V->V->Hp->Prop} (I:Inv X pins σ H s) (h:ta σ H fun x H1=>tb σ H1 fun y H2=>R x y H2)
  {α:Type}{Q:α->h_->Prop}{f:Value->Value->Sem α}
  (hf:∀ v u s2 x y H2,Inv X pins σ H2 s2->RelV x v->RelV y u->R x y H2->wpAny (model X.prog X.w) X.A (f v u) Q X.xe s2) :
  wpAny (model X.prog X.w) X.A (eval a X.env) (fun v s₁=>wpAny (model X.prog X.w) X.A (eval b X.env) (fun u s₂=>wpAny (model X.prog X.w) X.A (f v u) Q X.xe s₂) X.xe s₁) X.xe s:=by
 refine a9 (ha pins s σ H _ I h) fun v s1 ⟨x,H1,I1,r1,q1⟩=>?_
 refine a9 (hb pins s1 σ H1 _ I1 q1) fun u s2 ⟨y,H2,I2,r2,q2⟩=>?_
 exact hf v u s2 x y H2 I2 r1 r2 q2
def O8 (i:Nat):TE:=fun σ H Q=>∃ v,σ[i]? = some (some v)/\Q v H
def tC (v:V):TE:=fun _ H Q=>Q v H
theorem kS {i:Nat}{x:Str}{pos:Pos} (hN:X.N[i]? = some x) (hv:yV X.env.scope x) (hd:(x==("__debug__" : Str))=false:=by decide) (kT:(x==("__classdict__" : Str))=false:=by decide):PE X (.Name x pos) (O8 i):=by
 intro pins s σ H Q I h;obtain⟨v,e,h⟩:=h;obtain⟨m,hn,hl⟩:=I.loc;obtain⟨u,r,l⟩:=hl i x v hN e hv;have fin:EP X pins σ Q u s:=⟨v,H,I,r,h⟩;rcases l with ⟨hk,hm⟩ | ⟨hk,c,hc,lM⟩
 ·exact wpAny_Name (aaM I.ok.kind hk hn hm fin) hd
 ·rcases hk with hk | hk
  ·exact wpAny_Name (aa3 I.ok.kind hk hc lM fin) hd
  ·exact wpAny_Name (wpAny_loadName_free I.ok.kind hk hc lM fin kT) hd
theorem E2 {i j pos}:PE X (.Constant (.int i) j pos) (tC (.int i)):=fun _ _ _ H _ I h=>wpAny_Constant_int ⟨.int i,H,I.tok _,⟨_,rfl⟩,h⟩
theorem J5 {b j pos}:PE X (.Constant (.bool b) j pos) (tC (.bl b)):=fun _ _ _ H _ I h=>Constant_bool ⟨.bl b,H,I,rfl,h⟩
theorem E3 {j pos}:PE X (.Constant .none j pos) (tC .aK):=fun _ _ _ H _ I h=>Constant_none ⟨.aK,H,I,rfl,h⟩
theorem E4 {x j pos}:PE X (.Constant (.str x) j pos) (tC (.str x)):=fun _ _ _ H _ I h=>Calls.Constant_str ⟨.str x,H,I.tok _,⟨_,rfl⟩,h⟩
def Gl (X:Cx) (x:Str):Prop:=X.env.kindOf x=some .globalImplicit
theorem jQ {E:Value->h_->Prop}{pins:List (Addr×Obj)}{s:h_}{σ:St}{H:Hp}{x:Str}{u:Value}{pos:Pos}{Q:Value->h_->Prop} (I:Inv X pins σ H s) (hg:Gl X x) (hm:X.mg x=some u) (h:Q u s)
  (hd:(x==("__debug__" : Str))=false:=by decide):wpAny (model X.prog X.w) X.A (eval (.Name x pos) X.env) Q E s :=
 ZC I.ok.kind hg (Calls.loadGlobal_global (by rw[I.ok.glob];exact I.mod.glob.keeps I.bk) hm h) hd
theorem hV {E:Value->h_->Prop}{pins:List (Addr×Obj)}{s:h_}{σ:St}{H:Hp}{x:Str}{u:Value}{pos:Pos}{Q:Value->h_->Prop} (I:Inv X pins σ H s) (hg:Gl X x) (hm:X.mg x=none) (hv:WQ x=some u) (h:Q u s)
  (hn:x ≠ "__name__" := by decide) (hd:(x==("__debug__" : Str))=false:=by decide):wpAny (model X.prog X.w) X.A (eval (.Name x pos) X.env) Q E s:=by
 obtain⟨mb,h1,h2⟩:=I.mod.blt;exact ZC I.ok.kind hg (Calls.loadGlobal_builtin (by rw[I.ok.glob];exact I.mod.glob.keeps I.bk) hm (by rw[I.ok.blt];exact h1.keeps I.bk) ((h2 x hn).trans hv) h) hd
theorem BV {x:Str}{v:V}{u:Value}{pos:Pos} (hg:Gl X x) (hm:X.mg x=some u) (r:RelV v u) (hd:(x==("__debug__" : Str))=false:=by decide):PE X (.Name x pos) (tC v) :=
 fun _ _ _ H _ I h=>jQ I hg hm ⟨v,H,I,r,h⟩ hd
theorem BW {x:Str}{v:V}{u:Value}{pos:Pos} (hg:Gl X x) (hm:X.mg x=none) (hv:WQ x=some u) (r:RelV v u) (hn:x ≠ "__name__" := by decide) (hd:(x==("__debug__" : Str))=false:=by decide):PE X (.Name x pos) (tC v) :=
 fun _ _ _ H _ I h=>hV I hg hm hv ⟨v,H,I,r,h⟩ hn hd
variable {a b:Expr}{ta tb:TE}{pos:Pos}
def PC (X:Cx) (op:CmpOp) (a b:Expr) (t:TE):Prop :=
 ∀ (pins:List (Addr×Obj)) (s:h_) (σ:St) (H:Hp) (Q:VK),Inv X pins σ H s->t σ H Q ->
  wpAny (model X.prog X.w) X.A (eval a X.env) (fun v s₁=>wpAny (model X.prog X.w) X.A (eval b X.env) (fun u s₂=>wpAny (model X.prog X.w) X.A (Wo op v u) (EP X pins σ Q) X.xe s₂) X.xe s₁) X.xe s
theorem sV (b:Expr) {op:CmpOp} (h:op≠.In) (h2:op≠.NotIn):WP op b=false:=by
 have e1:(op==CmpOp.In)=false:=by cases op<;>first | rfl | exact absurd rfl h
 have e2:(op==CmpOp.NotIn)=false:=by cases op<;>first | rfl | exact absurd rfl h2
 cases b<;>simp [WP,e1,e2]
def tB (t:TE):TT:=fun σ H Q=>t σ H fun x H1=>∃ c,x=.bl c/\Q c H1
theorem yY {op:CmpOp}{t:TE} (h:PC X op a b t) (h1:WP op b=false:=by first | exact sV _ (by decide) (by decide) | rfl):PE X (.Compare a [op] [b] pos) t:=fun pins s σ H Q I hw=>wpAny_Compare1 (h pins s σ H Q I hw) h1
theorem yZ {op:CmpOp}{t:TE} (h:PC X op a b t) (h1:WP op b=false:=by first | exact sV _ (by decide) (by decide) | rfl):PT X (.Compare a [op] [b] pos) (tB t):=by
 intro pins s σ H Q I hw;refine aaE (a9 (h pins s σ H _ I hw) fun v s1 h1=>a9 h1 fun u s2 h2=>a9 h2 fun c s3 ⟨x,H1,I1,r1,q1⟩=>?_) h1;obtain⟨d,rfl,q⟩:=q1
 cases r1
 exact Wq ⟨H1,I1,q⟩
theorem E5 {e:Expr}{t:TE} (h:PE X e t) (he:∀ whole,aaL e X.env whole=(do let v ←whole;aa1 e.pos;aae [v] (truthy v)):=by intro _;rfl):PT X e (tB t):=by
 intro pins s σ H Q I hw;refine isTrue_plain (a9 (h pins s σ H _ I hw) fun v s1 ⟨x,H1,I1,r1,q1⟩=>?_) (he _);obtain⟨d,rfl,q⟩:=q1
 cases r1
 exact Wq ⟨H1,I1,q⟩
variable {tA Og:TT}{rest:List Expr}
def O9 (t u:TT):TT:=fun σ H Q=>t σ H fun c H1=>if c=true then u σ H1 Q else Q false H1
def Tf (t u:TT):TT:=fun σ H Q=>t σ H fun c H1=>if c=true then Q true H1 else u σ H1 Q
def Pa (t:TT):TT:=fun σ H Q=>t σ H fun c H1=>Q (!c) H1
theorem BX (ha:PT X a tA):PW X (.BoolOp .And [a] pos) tA:=by
 intro wh pins s σ H Q I h;refine isTrue_and (a9 (ha pins s σ H Q I h) fun c s1 e=>?_)
 cases c with
 | true=>exact isTrue_and_nil e
 | false=>exact e
theorem E6 (ha:PT X a tA):PW X (.BoolOp .Or [a] pos) tA:=by
 intro wh pins s σ H Q I h;refine isTrue_or (a9 (ha pins s σ H Q I h) fun c s1 e=>?_)
 cases c with
 | false=>exact isTrue_or_nil e
 | true=>exact e
theorem E7 (ha:PT X a tA) (hb:PW X (.BoolOp .And (b::rest) pos) Og):PW X (.BoolOp .And (a::b::rest) pos) (O9 tA Og):=by
 intro wh pins s σ H Q I h;refine isTrue_and (a9 (ha pins s σ H _ I h) fun c s1 ⟨H1,I1,q1⟩=>?_)
 cases c with
 | true=>exact hb wh pins s1 σ H1 Q I1 q1
 | false=>exact⟨H1,I1,q1⟩
theorem J6 (ha:PT X a tA) (hb:PW X (.BoolOp .Or (b::rest) pos) Og):PW X (.BoolOp .Or (a::b::rest) pos) (Tf tA Og):=by
 intro wh pins s σ H Q I h;refine isTrue_or (a9 (ha pins s σ H _ I h) fun c s1 ⟨H1,I1,q1⟩=>?_)
 cases c with
 | true=>exact⟨H1,I1,q1⟩
 | false=>exact hb wh pins s1 σ H1 Q I1 q1
theorem E8 (ha:PT X a tA):PT X (.UnaryOp .Not a pos) (Pa tA):=by
 intro pins s σ H Q I h;exact isTrue_not (ha pins s σ H (fun c H1=>Q (!c) H1) I h)
def J7 (ta tb:TE):TE:=fun σ H Q=>ta σ H fun x H1=>∃ c,x=.bl c/\if c=true then tb σ H1 Q else Q (.bl false) H1
def Pb (ta tb:TE):TE:=fun σ H Q=>ta σ H fun x H1=>∃ c,x=.bl c/\if c=true then Q (.bl true) H1 else tb σ H1 Q
def J8 (ta:TE):TE:=fun σ H Q=>ta σ H fun x H1=>∃ c,x=.bl c/\Q (.bl (!c)) H1
theorem E9 {op}{t:TE} (h:PE X a t):PE X (.BoolOp op [a] pos) t:=fun pins s σ H Q I hw=>BoolOp_one (h pins s σ H Q I hw)
theorem Fa (ha:PE X a ta) (hb:PE X (.BoolOp .And (b::rest) pos) tb):PE X (.BoolOp .And (a::b::rest) pos) (J7 ta tb):=by
 intro pins s σ H Q I h;refine BoolOp_and (a9 (ha pins s σ H _ I h) fun v s1 ⟨x,H1,I1,r1,q1⟩=>?_);obtain⟨c,rfl,q1⟩:=q1
 cases r1
 refine Wq ?_
 cases c with
 | true=>exact hb pins s1 σ H1 Q I1 q1
 | false=>exact⟨.bl false,H1,I1,rfl,q1⟩
theorem J9 (ha:PE X a ta) (hb:PE X (.BoolOp .Or (b::rest) pos) tb):PE X (.BoolOp .Or (a::b::rest) pos) (Pb ta tb):=by
 intro pins s σ H Q I h;refine BoolOp_or (a9 (ha pins s σ H _ I h) fun v s1 ⟨x,H1,I1,r1,q1⟩=>?_);obtain⟨c,rfl,q1⟩:=q1
 cases r1
 refine Wq ?_
 cases c with
 | false=>exact hb pins s1 σ H1 Q I1 q1
 | true=>exact⟨.bl true,H1,I1,rfl,q1⟩
theorem Fb (ha:PE X a ta):PE X (.UnaryOp .Not a pos) (J8 ta):=by
 intro pins s σ H Q I h;refine UnaryOp_ (a9 (ha pins s σ H _ I h) fun v s1 ⟨x,H1,I1,r1,q1⟩=>?_);obtain⟨c,rfl,q1⟩:=q1
 cases r1
 exact not_of (Wq ⟨.bl (!c),H1,I1,rfl,q1⟩)
def Tg (t:TT) (ta tb:TE):TE:=fun σ H Q=>t σ H fun c H1=>if c=true then ta σ H1 Q else tb σ H1 Q
theorem y4 {c:Expr} (hc:PT X c tA) (ha:PE X a ta) (hb:PE X b tb):PE X (.IfExp c a b pos) (Tg tA ta tb):=by
 intro pins s σ H Q I h;refine wpAny_IfExp (a9 (hc pins s σ H _ I h) fun d s1 ⟨H1,I1,q1⟩=>?_)
 cases d with
 | true=>exact ha pins s1 σ H1 Q I1 q1
 | false=>exact hb pins s1 σ H1 Q I1 q1
end
end L2
namespace L2
open PySem PySem.Spec PyProof.Rows
def du (K:e_) (H:Hp) (a:Addr) (xs:List V):Prop :=
 Rd H a (.lst xs) ∨
  ∃ (o:Obj) (ao:Array Value) (n:Nat),K.lookup a=some o/\o.cls=.type "list" /\ o.dict=none/\o.data=.seq ao n/\ao.size<=sizeLine/\Vals xs ao.toList
def eG (K:e_) (H:Hp) (a:Addr) (xs:List V):Prop :=
 Rd H a (.tup xs) ∨
  ∃ (o:Obj) (ao:Array Value) (n:Nat),K.lookup a=some o/\o.cls=.type "tuple" /\ o.data=.seq ao n/\ao.size<=sizeLine/\Vals xs ao.toList
noncomputable def Pc:Value->k_ V
 | .none=>some .aK
 | .bool b=>some (.bl b)
 | .int i _=>some (.int i)
 | .str x _=>some (.str x)
 | .bytes b _=>some (.wx b)
 | .float b _=>some (.EV b)
 | .ref a=>some (.ref a)
 | .type n=>some (.ty n)
 | _=>none
theorem RelV.abs {x:V}{u:Value} (r:RelV x u):Pc u=some x:=by
 cases x with
 | aK=>cases r;rfl
 | bl _=>cases r;rfl
 | int _=>obtain⟨t,rfl⟩:=r;rfl
 | str _=>obtain⟨t,rfl⟩:=r;rfl
 | wx _=>obtain⟨t,rfl⟩:=r;rfl
 | EV _=>obtain⟨t,rfl⟩:=r;rfl
 | ref _=>cases r;rfl
 | ty _=>cases r;rfl
theorem RelV.inj {x y:V}{u:Value} (r:RelV x u) (q:RelV y u):x=y:=F_ (r.abs.symm.trans q.abs)
theorem Vals.inj:∀ {xs ys:List V}{us:List Value},Vals xs us->Vals ys us->xs=ys
 | _,_,_,.nil,.nil=>rfl
 | _,_,_,.cons r t,.cons r' t'=>by rw[r.inj r',Vals.inj t t']
section
variable {X:Cx}{pins:List (Addr×Obj)}{σ:St}{H:Hp}{s:h_}{a:Addr}{xs ys:List V}
theorem du.of {K:e_} (h:H a=some (.lst xs)):du K H a xs:=.inl (.inl h)
theorem eG.of {K:e_} (h:H a=some (.tup xs)):eG K H a xs:=.inl (.inl h)
theorem Inv.list (I:Inv X pins σ H s) (h:du X.K H a xs):∃ ao:List Value,Vals xs ao/\PlainL s.heap a ao.toArray/\xs.length<=sizeLine:=by
 rcases h with h | ⟨o,ao,n,hk,hc,hd,hs,hz,r⟩
 ·obtain⟨z,ao,n,r,e⟩:=h.ok I.bf;exact⟨ao,r,⟨_,n,e,rfl,rfl,rfl⟩,z⟩
 ·refine⟨ao.toList,r,⟨o,n,I.jK a o hk,hc,hd,by simpa using hs⟩,?_⟩;have e:=r.length;simp only[Zp] at e;omega
theorem Inv.tuple (I:Inv X pins σ H s) (h:eG X.K H a xs):∃ ao:List Value,Vals xs ao/\IsTup s.heap a ao.toArray/\xs.length<=sizeLine:=by
 rcases h with h | ⟨o,ao,n,hk,hc,hs,hz,r⟩
 ·obtain⟨z,ao,r,p⟩:=h.ok I.bf;exact⟨ao,r,p,z⟩
 ·refine⟨ao.toList,r,⟨o,I.jK a o hk,hc,n,by simpa using hs⟩,?_⟩;have e:=r.length;simp only[Zp] at e;omega
theorem Inv.y6 (I:Inv X pins σ H s) (h:du X.K H a xs) (h':du X.K H a ys):xs=ys:=by
 obtain⟨ao,r,⟨o,n,e,_,_,d⟩,_⟩:=I.list h;obtain⟨its',r',⟨o',n',e',_,_,d'⟩,_⟩:=I.list h';rw[e] at e';cases e';rw[d] at d';injection d' with d1 _
 have:ao=its':=by simpa using congrArg Array.toList d1
 subst this;exact r.inj r'
theorem Inv.qo (I:Inv X pins σ H s) (h:eG X.K H a xs) (h':eG X.K H a ys):xs=ys:=by
 obtain⟨ao,r,⟨o,e,_,n,d⟩,_⟩:=I.tuple h;obtain⟨its',r',⟨o',e',_,n',d'⟩,_⟩:=I.tuple h';rw[e] at e';cases e';rw[d] at d';injection d' with d1 _
 have:ao=its':=by simpa using congrArg Array.toList d1
 subst this;exact r.inj r'
end
noncomputable abbrev Cx.pe (X:Cx) (E:Value->h_->Prop):Cx:={ X with xe:=E }
noncomputable abbrev Cx.Ka (X:Cx):Cx:=X.pe fun _ _=>False
theorem Cx.Ok.pe {X:Cx} (ok:X.Ok) (E:Value->h_->Prop):(X.pe E).Ok :=
 ⟨ok.mod,ok.kind,ok.glob,ok.blt,ok.above,ok.inj,ok.has,ok.J3,ok.hd,ok.frames,ok.Od,ok.RM,ok.bs,ok.yW,ok.xH,ok.BU,ok.i6,ok.EZ⟩
theorem Cx.Ok.hW {X:Cx}{E:Value->h_->Prop} (ok:(X.pe E).Ok):X.Ok :=
 ⟨ok.mod,ok.kind,ok.glob,ok.blt,ok.above,ok.inj,ok.has,ok.J3,ok.hd,ok.frames,ok.Od,ok.RM,ok.bs,ok.yW,ok.xH,ok.BU,ok.i6,ok.EZ⟩
section
variable {X:Cx}{pins:List (Addr×Obj)}{σ:St}{H:Hp}{s:h_}{E:Value->h_->Prop}
theorem Inv.pe (I:Inv X pins σ H s) (E:Value->h_->Prop):Inv (X.pe E) pins σ H s:=⟨I.ok.pe E,I.os,I.bare,I.base,I.loc,I.cell,I.free,I.hJ,I.pin,I.bf,I.len⟩
theorem Inv.hW (I:Inv (X.pe E) pins σ H s):Inv X pins σ H s:=⟨I.ok.hW,I.os,I.bare,I.base,I.loc,I.cell,I.free,I.hJ,I.pin,I.bf,I.len⟩
theorem SP.hW {D:Ends}{f:Flow}{s':h_} (h:SP (X.pe E) pins D f s'):SP X pins D f s':=by
 cases f with
 | next=>obtain⟨σ',H',I,q⟩:=h;exact⟨σ',H',I.hW,q⟩
 | brk=>obtain⟨σ',H',I,q⟩:=h;exact⟨σ',H',I.hW,q⟩
 | cont=>obtain⟨σ',H',I,q⟩:=h;exact⟨σ',H',I.hW,q⟩
 | ret u=>obtain⟨v,σ',H',I,r,q⟩:=h;exact⟨v,σ',H',I.hW,r,q⟩
theorem lL.Ka {st:List Stmt}{t:TS} (h:lL X.Ka st t):lL X st t:=fun pins s σ H D I hw =>
 Xg (h pins s σ H D (I.pe _) hw) (fun _ _ q=>q.hW) fun _ _ z=>Wi z
end
section
variable {X:Cx}{st:Stmt}{rest:List Stmt}{t u:TS}{e:Expr}{te:TE}{pos:Pos}
def DX:TS:=fun D σ H=>D.nx σ H
def Pd (t u:TS):TS:=fun D σ H=>t { D with nx:=u D } σ H
theorem BY:lL X [] DX:=fun _ _ σ H _ I h=>aat ⟨σ,H,I,h⟩
theorem y7 (h1:PS X st t) (h2:lL X rest u):lL X (st::rest) (Pd t u):=by
 intro pins s σ H D I h;refine wpAny_execs_cons (a9 (h1 pins s σ H { D with nx:=u D } I h) fun f s1 q=>?_)
 cases f with
 | next =>
  obtain⟨σ',H',I',q⟩:=q;exact h2 pins s1 σ' H' D I' q
 | ret v=>exact q
 | brk=>exact q
 | cont=>exact q
def Fc:TS:=fun D σ H=>D.bk σ H
theorem BZ:PS X (.Pass pos) DX:=fun _ _ σ H _ I h=>wpAny_Pass ⟨σ,H,I,h⟩
theorem y8:PS X (.Break pos) Fc:=fun _ _ σ H _ I h=>wpAny_Break ⟨σ,H,I,h⟩
theorem Inv.quiet {pins:List (Addr×Obj)}{σ:St}{H:Hp}{s:h_} (I:Inv X pins σ H s):interactive X.env=false:=by simp [interactive,I.ok.kind]
def Kb (te:TE):TS:=fun D σ H=>te σ H fun _ H1=>D.nx σ H1
theorem jR (he:PE X e te) (hs:Xd e none pos.line X.env=pure false:=by rfl):PS X (.Expr e pos) (Kb te):=by
 intro pins s σ H D I h;exact wpAny_Expr_any (a9 (he pins s σ H _ I h) fun v s1 ⟨x,H1,I1,r1,q1⟩=>⟨σ,H1,I1,q1⟩) I.quiet hs
def Pe (te:TE):TS:=fun D σ H=>te σ H D.rt
theorem Fd (he:PE X e te):PS X (.Return (some e) pos) (Pe te):=by
 intro pins s σ H D I h;exact wpAny_Return_some (a9 (he pins s σ H _ I h) fun v s1 ⟨x,H1,I1,r1,q1⟩=>⟨x,σ,H1,I1,r1,q1⟩)
def Kc:TS:=fun D _ H=>D.rt .aK H
theorem B0:PS X (.Return none pos) Kc:=fun _ _ σ H _ I h=>wpAny_Return_none ⟨.aK,σ,H,I,rfl,h⟩
def Pf (c:TT) (t u:TS):TS:=fun D σ H=>c σ H fun b H1=>if b=true then t D σ H1 else u D σ H1
theorem Kd {c:Expr}{a b:List Stmt}{tc:TT} (hc:PT X c tc) (ha:lL X a t) (hb:lL X b u):PS X (.If c a b pos) (Pf tc t u):=by
 intro pins s σ H D I h;refine wpAny_If (a9 (hc pins s σ H _ I h) fun d s1 ⟨H1,I1,q1⟩=>?_)
 cases d with
 | true=>exact ha pins s1 σ H1 D I1 q1
 | false=>exact hb pins s1 σ H1 D I1 q1
def Fe:TS:=fun _ _ _=>False
theorem y9:PS X st Fe:=fun _ _ _ _ _ _ h=>h.elim
end
noncomputable abbrev TG:=V->St->Hp->(St->Hp->Prop)->Prop
noncomputable abbrev Ff:=List V->St->Hp->(St->Hp->Prop)->Prop
def PG (X:Cx) (target:Expr) (t:TG):Prop :=
 ∀ (pins:List (Addr×Obj)) (s:h_) (σ:St) (H:Hp) (v:V) (u:Value) (Q:St->Hp->Prop),Inv X pins σ H s->RelV v u->t v σ H Q ->
  wpAny (model X.prog X.w) X.A (abV target X.env u) (fun _ s'=>∃ σ' H',Inv X pins σ' H' s'/\Q σ' H') X.xe s
def Oh (X:Cx) (ts:List Expr) (t:Ff):Prop :=
 ∀ (pins:List (Addr×Obj)) (s:h_) (σ:St) (H:Hp) (vs:List V) (us:List Value) (Q:St->Hp->Prop),Inv X pins σ H s->Vals vs us->t vs σ H Q ->
  wpAny (model X.prog X.w) X.A (assignInOrder ((aaf ts X.env).map (·.2)) us) (fun _ s'=>∃ σ' H',Inv X pins σ' H' s'/\Q σ' H') X.xe s
noncomputable abbrev Oi:=V->V->Hp->VK->Prop
def Oj (X:Cx) (op:YQ) (t:Oi):Prop :=
 ∀ (pins:List (Addr×Obj)) (s:h_) (σ:St) (H:Hp) (x y:V) (v u:Value) (Q:VK),Inv X pins σ H s->RelV x v->RelV y u->t x y H Q ->
  wpAny (model X.prog X.w) X.A (inplaceOp op v u) (EP X pins σ Q) X.xe s
section
variable {X:Cx}{pos:Pos}
def dF (i:Nat):TG:=fun v σ H Q=>Q (σ.set i (some v)) H
theorem jS {i : Nat} {x : Str} (hN : X.N.Nodup) (hi : X.N[i]? = some x) (hx : Loc X.env.scope x) (hf : X.fn x = true ∨ X.env.scope.names.lookup x = some .local := by first | exact .inl rfl | exact .inr rfl | assumption) : PG X (.Name x pos) (dF i) := by
 intro pins s σ H v u Q I r h;exact wpAny_assign_Name (jP I hN hi hx r (fun s' I'=>⟨_,H,I',h⟩) hf)
def za:Ff:=fun vs σ H Q=>vs=[]/\Q σ H
def jT (t:TG) (u:Ff):Ff:=fun vs σ H Q=>∃ v r,vs=v::r/\t v σ H fun σ' H'=>u r σ' H' Q
theorem B2:Oh X [] za:=by
 intro pins s σ H vs us Q I r h;obtain⟨e,h⟩:=h;subst e
 cases r
 exact assignInOrder_nil ⟨σ,H,I,h⟩
theorem sW {e:Expr}{es:List Expr}{t:TG}{u:Ff} (h1:PG X e t) (h2:Oh X es u)
  (hs:(aaf (e::es) X.env).map (·.2)=abV e X.env::(aaf es X.env).map (·.2):=by rfl):Oh X (e::es) (jT t u):=by
 intro pins s σ H vs us Q I r h;obtain⟨v,vr,e1,h⟩:=h;subst e1
 cases r with
 | cons r rr =>
  rw[hs];refine assignInOrder_cons (a9 (h1 pins s σ H _ _ _ I r h) fun _ s1 ⟨σ1,H1,I1,q1⟩=>?_);exact h2 pins s1 σ1 H1 _ _ Q I1 rr q1
def zb (K:e_) (n:Nat) (t:Ff):TG:=fun v σ H Q=>∃ a xs,v=.ref a/\eG K H a xs/\xs.length=n/\t xs σ H Q
theorem Fg {es:List Expr}{k:Nat}{t:Ff}{n:Nat} (hc:X.calm=true) (h:Oh X es t)
  (hn:(aaf es X.env).length=n:=by rfl) (Ph:(aaf es X.env).findIdx? (·.1)=none:=by rfl):PG X (.Tuple es k pos) (zb X.K n t):=by
 intro pins s σ H v u Q I r hw;obtain⟨a,xs,e1,hq,hl,hw⟩:=hw;subst e1
 cases r
 obtain⟨ao,rv,ht,hz⟩:=I.tuple hq;refine assign_Tuple_tuple (I.ok.hd hc) ht (by simp [hn,←hl,rv.length]) Ph fun h' hx=>?_
 have I1:Inv X pins σ H { s with heap:=h' }:=I.kept (t':=s.toks) fun b o e=>hx b o (J_ (r_ e)) e
 exact h pins _ σ H xs _ Q I1 (by simpa using rv) hw
def Ke (te:TE) (g:TG):TS:=fun D σ H=>te σ H fun x H1=>g x σ H1 D.nx
theorem uZ {i : Nat} {x : Str} {e : Expr} {te : TE} {pos' : Pos} (hN : X.N.Nodup) (hi : X.N[i]? = some x) (hx : Loc X.env.scope x) (he : PE X e te) (hs : Xd e (some (.Name x pos')) pos.line X.env = pure false := by rfl) (hf : X.fn x = true ∨ X.env.scope.names.lookup x = some .local := by first | exact .inl rfl | exact .inr rfl | assumption) :
  PS X (.Assign [.Name x pos'] e pos) (Ke te (dF i)):=by
 intro pins s σ H D I h;refine wpAny_Assign_Name (a9 (he pins s σ H _ I h) fun v s1 ⟨y,H1,I1,r1,q1⟩=>?_) hs;exact jP I1 hN hi hx r1 (fun s2 I2=>⟨_,H1,I2,q1⟩) hf
def Pj (i:Nat) (te:TE) (ti:Oi):TS:=fun D σ H=>∃ x,σ[i]? = some (some x)/\te σ H fun y H1=>ti x y H1 fun z H2=>D.nx (σ.set i (some z)) H2
theorem Fh {i : Nat} {x : Str} {e : Expr} {te : TE} {op : YQ} {ti : Oi} {pos' : Pos} (hN : X.N.Nodup) (hi : X.N[i]? = some x) (hx : Loc X.env.scope x) (he : PE X e te) (ho : Oj X op ti) (hf : X.fn x = true ∨ X.env.scope.names.lookup x = some .local := by first | exact .inl rfl | exact .inr rfl | assumption) :
  PS X (.AugAssign (.Name x pos') op e pos) (Pj i te ti):=by
 intro pins s σ H D I h;obtain⟨v,e1,h⟩:=h;obtain⟨m,hn,hl⟩:=I.loc;have JH:yV X.env.scope x:=by rcases hx with k | k;exact .inl k;exact .inr (.inl k)
 obtain⟨u,r,l⟩:=hl i x v hi e1 JH;refine wpAny_AugAssign_Name ?_
 have go:wpAny (model X.prog X.w) X.A (eval e X.env) (fun w s₂=>wpAny (model X.prog X.w) X.A (inplaceOp op u w) (fun r s₃=>wpAny (model X.prog X.w) X.A (storeName X.env x r) (fun _=>SP X pins D .next) X.xe s₃) X.xe s₂) X.xe s:=by
  refine a9 (he pins s σ H _ I h) fun w s1 ⟨y,H1,I1,r1,q1⟩=>?_
  refine a9 (ho pins s1 σ H1 v y u w _ I1 r r1 q1) fun z s2 ⟨zv,H2,I2,r2,q2⟩=>?_
  exact jP I2 hN hi hx r2 (fun s3 I3=>⟨_,H2,I3,q2⟩) hf
 rcases l with ⟨hk,hm⟩ | ⟨hk,c,hc,lM⟩
 ·exact aaM I.ok.kind hk hn hm go
 ·rcases hk with hk | hk
  ·exact aa3 I.ok.kind hk hc lM go
  ·rcases hx with k | k
   ·have:X.env.scope.names.lookup x=some .free:=hk;rw[k] at this;cases this
   ·have:X.env.scope.names.lookup x=some .free:=hk;rw[k] at this;cases this
def Pk (f:Int->Int->Int):Oi:=fun x y H Q=>∃ i j,x=.int i/\y=.int j/\Q (.int (f i j)) H
theorem Fi:Oj X .Add (Pk fun i j=>i+j):=by
 intro pins s σ H x y v u Q I r1 r2 h;obtain⟨i,j,e1,e2,q⟩:=h;subst e1;subst e2;obtain⟨t,rfl⟩:=r1;obtain⟨t',rfl⟩:=r2;exact iadd_int ⟨.int _,H,I.tok _,⟨_,rfl⟩,q⟩
theorem Fj:Oj X .Sub (Pk fun i j=>i-j):=by
 intro pins s σ H x y v u Q I r1 r2 h;obtain⟨i,j,e1,e2,q⟩:=h;subst e1;subst e2;obtain⟨t,rfl⟩:=r1;obtain⟨t',rfl⟩:=r2;exact isub_int ⟨.int _,H,I.tok _,⟨_,rfl⟩,q⟩
end
section
variable {X:Cx}{pos:Pos}
def Fk (c:TT) (tb:TS):TS:=fun D σ H=>∃ W:Nat->St->Hp->Prop,(∃ m,W m σ H)/\∀ m σ H,W m σ H ->
 c σ H fun b H1=>if b=true then ∃ N:St->Hp->Prop,(∀ σ' H',N σ' H'->∃ m',m'<m/\W m' σ' H')/\tb { D with nx:=N,ct:=N,bk:=D.nx } σ H1 else D.nx σ H1
theorem zc {c:Expr}{body:List Stmt}{tc:TT}{tb:TS} (hp:aa2 (model X.prog X.w) X.A X.env X.xe) (hc:PT X c tc) (hb:lL X body tb):PS X (.While c body [] pos) (Fk tc tb):=by
 intro pins s σ H D I h;obtain⟨W,⟨m0,w0⟩,turn⟩:=h;refine wpAny_While (codeAny_whileLoop (fun n s'=>∃ σ' H',Inv X pins σ' H' s'/\W n σ' H') ?_ m0 ⟨σ,H,I,w0⟩);rintro n s1 ⟨σ1,H1,I1,w1⟩;refine XB hp (a9 (hc pins s1 σ1 H1 _ I1 (turn n σ1 H1 w1)) fun b s2 ⟨H2,I2,q2⟩=>?_)
 cases b with
 | true =>
  obtain⟨N,hN,q2⟩:=q2;rw[w_ rfl];refine XB hp (a9 (hb pins s2 σ1 H2 _ I2 q2) fun f s3 q3=>?_)
  cases f with
  | next =>
   obtain⟨σ3,H3,I3,n3⟩:=q3;obtain⟨m',hm,w3⟩:=hN σ3 H3 n3;exact⟨m',hm,σ3,H3,I3,w3⟩
  | cont =>
   obtain⟨σ3,H3,I3,n3⟩:=q3;obtain⟨m',hm,w3⟩:=hN σ3 H3 n3;exact⟨m',hm,σ3,H3,I3,w3⟩
  | brk=>exact q3
  | ret v=>exact q3
 | false =>
  rw[n_ q_];exact aat ⟨σ1,H2,I2,q2⟩
end
structure It where
 go:Nat->Hp->Prop
 JI:Nat->Hp->V->Hp->Prop
 stop:Nat->Hp->Prop
def jm (X:Cx) (pins:List (Addr×Obj)) (H:Hp) (b:Addr):Prop :=
 H b=none/\b≠X.env.locals/\b∉X.fs/\(b∈X.ex∨X.s₀.heap.objs.size<=b)/\(∀ x c,X.env.cells.lookup x=some c->c≠b)/\∀ p∈X.pn++pins,p.1≠b
theorem Inv.xJ {X:Cx}{pins:List (Addr×Obj)}{σ:St}{H H':Hp}{s:h_}{b:Addr} (I:Inv X pins σ H s) (hb:s.heap.objs.size<=b) (hn:H' b=none):jm X pins H' b:=by
 refine⟨hn,Zu (s_ I.lt hb),I.O2 hb,.inr (P_ I.sz hb),fun x c e z=>?_,fun p hp z=>?_⟩
 ·obtain⟨v,q⟩:=I.cell x c e;exact absurd (s_ q.lt (by rw[z];exact hb)) (Wa _)
 ·exact absurd (s_ (r_ (I.pin p hp).1) (by rw[z];exact hb)) (Wa _)
structure Turn (P:L_) (w:World) (K:e_) (tg:Expr) (J:It) (fp:List Addr) (it:Addr) (tn:Nat->Heap->Prop):Prop where
 mem:it∈fp
 obj:∀ i h,tn i h->∀ b∈fp,∃ o,h.get? b=some o/\∀ v,o.data≠.cell v
 keep:∀ i h h',tn i h->(∀ b∈fp,∀ o,h.get? b=some o->h'.get? b=some o)->tn i h'
 item:∀ (X:Cx),X.prog=P->X.w=w->X.K=K->X.calm=true->∀ (i:Nat) (pins:List (Addr×Obj)) (s:h_) (σ:St) (H:Hp) (E:Value->h_->Prop),Inv X pins σ H s->(∀ b∈fp,jm X pins H b)->tn i s.heap->J.go i H ->
  wpAny (model P w) X.A (abW (.ref it)) (fun r s1=>∃ u,r=some u /\
   wpAny (model P w) X.A (Zh tg (.ref it) u) (fun _ s2=>∃ x H',Inv X pins σ H' s2/\RelV x u/\J.JI i H x H'/\tn (i+1) s2.heap/\∀ b∈fp,H' b=none) E s1) E s
 done:∀ (X:Cx),X.prog=P->X.w=w->X.K=K->X.calm=true->∀ (i:Nat) (pins:List (Addr×Obj)) (s:h_) (σ:St) (H:Hp) (E:Value->h_->Prop),Inv X pins σ H s->(∀ b∈fp,jm X pins H b)->tn i s.heap->J.stop i H ->
  wpAny (model P w) X.A (abW (.ref it)) (fun r s1=>r=none/\Inv X pins σ H s1) E s
 self:∀ (A:Wt) (i:Nat) (s:h_) (Q:Value->h_->Prop) (E:Value->h_->Prop),tn i s.heap->Q (.ref it) s->wpAny (model P w) A (pyIter (.ref it)) Q E s
noncomputable abbrev TI:=St->Hp->(It->Hp->Prop)->Prop
def RQ (X:Cx) (pins:List (Addr×Obj)) (σ:St) (tg:Expr) (R:It->Hp->Prop) (Kf:Value) (s2:h_):Prop :=
 ∃ (it:Addr) (fp:List Addr) (tn:Nat->Heap->Prop) (J:It) (H':Hp),Kf=.ref it/\Inv X pins σ H' s2/\Turn X.prog X.w X.K tg J fp it tn/\tn 0 s2.heap/\(∀ b∈fp,jm X pins H' b)/\R J H'
def PI (X:Cx) (tg iter:Expr) (wi:TI):Prop :=
 ∀ (pins:List (Addr×Obj)) (s:h_) (σ:St) (H:Hp) (R:It->Hp->Prop),Inv X pins σ H s->wi σ H R ->
  wpAny (model X.prog X.w) X.A (eval iter X.env) (fun v s1=>wpAny (model X.prog X.w) X.A (pyIter v) (RQ X pins σ tg R) X.xe s1) X.xe s
theorem sX {M:Model}{A:Wt}{E:Value->h_->Prop}{s:h_}{tg:Expr}{it:Addr}{u:Value}{o:Obj}{n:YA}{vs:Array Value}{Q:Unit->h_->Prop} (ho:s.heap.get? it=some o) (hc:o.cls=.type n) (hd:o.data=.fields vs)
  (hn:["enumerate","zip","dict_itemiterator","dict_reverseitemiterator","odict_iterator","itertools.zip_longest","itertools.pairwise"].contains n=false) (hQ:Q () s):wpAny M A (Zh tg (.ref it) u) Q E s:=by
 unfold Zh
 cases tg<;>first
  | exact o_ hQ
  | (cases u<;>first
    | exact o_ hQ
    | (refine b_ (wpAny_load ho ?_)
       rw[hc,hd];show wpAny M A (if (["enumerate","zip","dict_itemiterator","dict_reverseitemiterator","odict_iterator","itertools.zip_longest","itertools.pairwise"].contains n&&vs[0]? == some (Xa _))=true then _ else _) Q E s;rw[n_ (by intro h;rw[hn,acs] at h;cases h)];exact o_ hQ))
noncomputable def Ol (K:e_) (a:Addr):It :=
 ⟨fun i H=>∃ xs x,du K H a xs/\xs[i]? = some x,fun i H x H'=>H'=H/\∀ xs,du K H a xs->xs[i]? = some x,fun i H=>∃ xs,du K H a xs/\xs.length<=i⟩
noncomputable def Om (K:e_) (a:Addr):It :=
 ⟨fun i H=>∃ xs x,eG K H a xs/\xs[i]? = some x,fun i H x H'=>H'=H/\∀ xs,eG K H a xs->xs[i]? = some x,fun i H=>∃ xs,eG K H a xs/\xs.length<=i⟩
noncomputable def Kg (lo:Int) (n:Nat):It:=⟨fun i _=>i<n,fun i H x H'=>H'=H/\x=.int (lo+i),fun i _=>n<=i⟩
theorem xK {P:L_}{w:World}{K:e_}{tg:Expr} (a it:Addr):Turn P w K tg (Ol K a) [it] it (fun i h=>h.IsListIter it a i) where
 mem:=by simp
 obj:=fun i h st b hb=>by
  have e:b=it:=by simpa using hb
  subst e;obtain⟨o,e,c,d⟩:=st;exact⟨o,e,fun v z=>by rw[d] at z;cases z⟩
 keep:=fun i h h' st k=>st.at fun o e=>k it (by simp) o e
 item:=by
  intro X hP hw hK hc i pins s σ H E I hf st hg;subst hP hw hK;obtain⟨xs,x,hq,hx⟩:=hg;obtain⟨ao,rv,p,hz⟩:=I.list hq;obtain⟨u,hu,ru⟩:=rv.get hx;obtain⟨f0,f1,f2,f3,f4,f5⟩:=hf it (by simp);refine aag st p.isList (x:=u) (by simpa using hu) fun h' ms sb=>?_
  have I1:Inv X pins σ H { s with heap:=h' }:=I.turned (t':=s.toks) (fun b o hb e=>(sb.2 b hb).trans e) f0 f1 f3 f4 f5;obtain⟨o,e,c,d⟩:=id ms;exact⟨u,rfl,sX (s:={ s with heap:=h' }) e c d (by decide) ⟨x,H,I1,ru,⟨rfl,fun ys hy=>by rw[I.y6 hy hq];exact hx⟩,ms,fun b hb=>(hf b hb).1⟩⟩
 done:=by
  intro X hP hw hK hc i pins s σ H E I hf st hg;subst hP hw hK;obtain⟨xs,hq,hx⟩:=hg;obtain⟨ao,rv,p,hz⟩:=I.list hq;obtain⟨f0,f1,f2,f3,f4,f5⟩:=hf it (by simp);have hl:=rv.length;exact aaF (I.ok.hd hc) st p.isList (by simp;omega) fun h' eb=>⟨rfl,I.turned (t':=s.toks) (fun b o hb e=>eb b o hb e) f0 f1 f3 f4 f5⟩
 self:=fun _ _ _ _ _ st h=>wpAny_pyIter_listiter st h
theorem u6 {P:L_}{w:World}{K:e_}{tg:Expr} (a it:Addr):Turn P w K tg (Om K a) [it] it (fun i h=>h.IsTupleIter it a i) where
 mem:=by simp
 obj:=fun i h st b hb=>by
  have e:b=it:=by simpa using hb
  subst e;obtain⟨o,e,c,d⟩:=st;exact⟨o,e,fun v z=>by rw[d] at z;cases z⟩
 keep:=fun i h h' st k=>st.at fun o e=>k it (by simp) o e
 item:=by
  intro X hP hw hK hc i pins s σ H E I hf st hg;subst hP hw hK;obtain⟨xs,x,hq,hx⟩:=hg;obtain⟨ao,rv,p,hz⟩:=I.tuple hq;obtain⟨u,hu,ru⟩:=rv.get hx;obtain⟨f0,f1,f2,f3,f4,f5⟩:=hf it (by simp);refine wpAny_pyNext_tuple_item st (show s.heap.IsTuple a ao.toArray from p) (x:=u) (by simpa using hu) fun h' ms sb=>?_
  have I1:Inv X pins σ H { s with heap:=h' }:=I.turned (t':=s.toks) (fun b o hb e=>(sb.2 b hb).trans e) f0 f1 f3 f4 f5;obtain⟨o,e,c,d⟩:=id ms;exact⟨u,rfl,sX (s:={ s with heap:=h' }) e c d (by decide) ⟨x,H,I1,ru,⟨rfl,fun ys hy=>by rw[I.qo hy hq];exact hx⟩,ms,fun b hb=>(hf b hb).1⟩⟩
 done:=by
  intro X hP hw hK hc i pins s σ H E I hf st hg;subst hP hw hK;obtain⟨xs,hq,hx⟩:=hg;obtain⟨ao,rv,p,hz⟩:=I.tuple hq;obtain⟨f0,f1,f2,f3,f4,f5⟩:=hf it (by simp);have hl:=rv.length;exact wpAny_pyNext_tuple_end (I.ok.hd hc) st (show s.heap.IsTuple a ao.toArray from p) (by simp;omega) fun h' eb=>⟨rfl,I.turned (t':=s.toks) (fun b o hb e=>eb b o hb e) f0 f1 f3 f4 f5⟩
 self:=fun _ _ _ _ _ st h=>wpAny_pyIter_tupleiter st h
theorem u7 {P:L_}{w:World}{K:e_}{tg:Expr} (it:Addr) (lo:Int) (n:Nat):Turn P w K tg (Kg lo n) [it] it (fun i h=>aaN h it (lo+(i:Nat)*1) ((n:Int)-(i:Nat)) 1) where
 mem:=by simp
 obj:=fun i h st b hb=>by
  have e:b=it:=by simpa using hb
  subst e
  exact⟨_,st,fun v z=>by
   have z':aaO _=Z6 v:=z
   cases z'⟩
 keep:=fun i h h' st k=>k it (by simp) _ st
 item:=by
  intro X hP hw hK hc i pins s σ H E I hf st hg;subst hP hw hK;obtain⟨f0,f1,f2,f3,f4,f5⟩:=hf it (by simp);have W:=Walks.range (prog:=X.prog) (w:=X.w) (I.ok.hd hc) it lo 1 n;refine W.item i s _ _ hg st fun v h' tk hv ms kk=>?_
  obtain⟨t,rfl⟩:=hv;have I1:Inv X pins σ H { s with heap:=h',toks:=tk }:=I.turned (fun b o hb e=>kk b o (by simpa using hb) e) f0 f1 f3 f4 f5;refine⟨_,rfl,sX (s:={ s with heap:=h',toks:=tk }) (n := "range_iterator") ms rfl rfl (by decide) ⟨.int (lo+i),H,I1,⟨t,?_⟩,⟨rfl,rfl⟩,ms,fun b hb=>(hf b hb).1⟩⟩;rw[ZP]
 done:=by
  intro X hP hw hK hc i pins s σ H E I hf st hg;subst hP hw hK;obtain⟨f0,f1,f2,f3,f4,f5⟩:=hf it (by simp);exact aah (I.ok.hd hc) st (by have:n<=i:=hg;omega) fun h' eb=>⟨rfl,I.turned (t':=s.toks) (fun b o hb e=>eb b o hb e) f0 f1 f3 f4 f5⟩
 self:=fun _ _ _ _ _ st h=>YR st h
end L2
namespace L2
open PySem PySem.Spec PyProof.Rows
section
variable {X:Cx}{tg:Expr}
theorem sY {pins:List (Addr×Obj)}{σ:St}{H:Hp}{s:h_}{R:It->Hp->Prop}{E:Value->h_->Prop}{lo hi:Int}{t u v:Tok}{tk:Nat} (I:Inv X pins σ H s) (h1 : -(2 ^ 62)<=lo) (h2:lo<2 ^ 62) (h3 : -(2 ^ 62)<=hi) (h4:hi<2 ^ 62)
  (q:R (Kg lo (hi-lo).toNat) H):wpAny (model X.prog X.w) X.A (pyIter (.ref s.heap.objs.size)) (RQ X pins σ tg R) E { s with heap:=s.heap.push { cls:=.type "range",data:=.fields #[.int lo t,.int hi u,.int 1 v] },toks:=tk }:=by
 refine wpAny_pyIter_range (IsRange.new ..) (small_one h1 h2 h3 h4) ?_;have I1:Inv X pins σ H { s with heap:=s.heap.push { cls:=.type "range",data:=.fields #[.int lo t,.int hi u,.int 1 v] },toks:=tk }:=I.kept fun b o e=>i_ _ e
 refine⟨(s.heap.push { cls:=.type "range",data:=.fields #[.int lo t,.int hi u,.int 1 v] }).objs.size,[(s.heap.push { cls:=.type "range",data:=.fields #[.int lo t,.int hi u,.int 1 v] }).objs.size],_,_,H,rfl,
  I1.kept (t':=tk) fun b o e=>i_ _ e,u7 _ lo (hi-lo).toNat,?_,fun b hb=>?_,q⟩
 ·have e1:lo+((0:Nat):Int)*1=lo:=by simp
  have e2:(((hi-lo).toNat:Nat):Int)-((0:Nat):Int)=YI lo hi 1:=by rw[aa9];split<;>omega
  show aaN _ _ (lo+((0:Nat):Int)*1) ((((hi-lo).toNat:Nat):Int)-((0:Nat):Int)) 1;rw[e1,e2];exact v_ _ rfl
 ·have e:b=(s.heap.push { cls:=.type "range",data:=.fields #[.int lo t,.int hi u,.int 1 v] }).objs.size:=by simpa using hb
  subst e;exact I1.xJ (x_ _) (I1.bf.fresh (x_ _))
def Kh (ta:TA):TI:=fun σ H R=>ta σ H fun vs H1=>∃ j:Int,vs=[.int j] /\ -(2 ^ 62)<=j/\j<2 ^ 62/\R (Kg 0 j.toNat) H1
def Ki (ta:TA):TI:=fun σ H R=>ta σ H fun vs H1=>∃ i j:Int,vs=[.int i,.int j]/\(-(2 ^ 62)<=i/\i<2 ^ 62 /\ -(2 ^ 62)<=j/\j<2 ^ 62)/\R (Kg i (j-i).toNat) H1
theorem xL {a:Expr}{ta:TA}{p pos:Pos} (hg:Gl X "range") (hm:X.mg "range" = none) (ha:PA X [a] ta) (hs:N_ [a] X.env=[(false,eval a X.env)]:=by rfl):PI X tg (.Call (.Name "range" p) [a] [] pos) (Kh ta):=by
 intro pins s σ H R I h;refine Call_ (hV I hg hm X6 (WH (a9 (ha pos pins s σ H _ I h) fun us s1 ⟨vs,H1,I1,r1,q1⟩=>?_) hs rfl));obtain⟨j,e,q1,q2,q⟩:=q1;subst e
 cases r1 with
 | cons r rr =>
  cases rr
  obtain⟨t,rfl⟩:=r;exact call_range_1 (sY I1 (by omega) (by omega) q1 q2 (by simpa using q))
theorem xM {a b:Expr}{ta:TA}{p pos:Pos} (hg:Gl X "range") (hm:X.mg "range" = none) (ha:PA X [a,b] ta) (hs:N_ [a,b] X.env=[(false,eval a X.env),(false,eval b X.env)]:=by rfl) (gT:N_ [b] X.env=[(false,eval b X.env)]:=by rfl) :
  PI X tg (.Call (.Name "range" p) [a,b] [] pos) (Ki ta):=by
 intro pins s σ H R I h;refine Call_ (hV I hg hm X6 (WH (a9 (ha pos pins s σ H _ I h) fun us s1 ⟨vs,H1,I1,r1,q1⟩=>?_) (by rw[hs,gT]) (by rw[gT];rfl)));obtain⟨i,j,e,⟨q1,q2,q3,q4⟩,q⟩:=q1;subst e
 cases r1 with
 | cons r rr =>
  cases rr with
  | cons r' rr =>
   cases rr
   obtain⟨t,rfl⟩:=r;obtain⟨t',rfl⟩:=r';exact call_range_2 (sY I1 q1 q2 q3 q4 q)
def Pl (wi:TI) (g:TG) (tb:TS):TS:=fun D σ H=>wi σ H fun J H1=>∃ W:Nat->Nat->St->Hp->Prop,(∃ m,W 0 m σ H1)/\∀ i m σ H,W i m σ H ->
 (J.stop i H/\D.nx σ H)∨(J.go i H/\∃ N:St->Hp->Prop,(∀ σ' H',N σ' H'->∃ m',m'<m/\W (i+1) m' σ' H')/\∀ x H',J.JI i H x H'->g x σ H' fun σ2 H2=>tb { D with nx:=N,ct:=N,bk:=D.nx } σ2 H2)
noncomputable def hX (fp:List Addr) (h:Heap):List (Addr×Obj):=fp.filterMap fun b=>(h.get? b).map fun o=>(b,o)
theorem cV {fp:List Addr}{h:Heap}{b:Addr}{o:Obj} (hb:b∈fp) (e:h.get? b=some o):(b,o)∈hX fp h:=abh.mpr ⟨b,hb,by rw[e];rfl⟩
theorem xN {fp:List Addr}{h:Heap}{p:Addr×Obj} (hp:p∈hX fp h):p.1∈fp/\h.get? p.1=some p.2:=by
 obtain⟨b,hb,e⟩:=abh.mp hp
 cases q:h.get? b with
 | none=>rw[q] at e;cases e
 | some o =>
  rw[q] at e;have e':(b,o)=p:=F_ e;subst e';exact⟨hb,q⟩
theorem Inv.pinned {pins:List (Addr×Obj)}{σ:St}{H:Hp}{s:h_}{fp:List Addr} (I:Inv X pins σ H s) (hf:∀ b∈fp,jm X pins H b) (ho:∀ b∈fp,∃ o,s.heap.get? b=some o/\∀ v,o.data≠.cell v):Inv X (pins++hX fp s.heap) σ H s :=
 I.dH fun p hp=>(U_.mp hp).elim (fun z=>I.pin p (D_ _ z)) fun z=>by
  obtain⟨hb,e⟩:=xN z;obtain⟨f0,f1,f2,_⟩:=hf p.1 hb;obtain⟨o,e',d⟩:=ho p.1 hb;rw[e] at e';cases e';exact⟨e,f0,f1,f2,d⟩
theorem Inv.jU {pins pl:List (Addr×Obj)}{σ:St}{H:Hp}{s:h_} (I:Inv X (pins++pl) σ H s):Inv X pins σ H s:=I.dH fun p hp=>I.pin p (D_ _ (Yd _ hp))
theorem Fl {iter:Expr}{body:List Stmt}{wi:TI}{g:TG}{tb:TS}{pos:Pos} (hp:aa2 (model X.prog X.w) X.A X.env X.xe) (hc:X.calm=true) (hi:PI X tg iter wi) (hg:PG X tg g) (hb:lL X body tb)
  (hs:∀ x,WW iter X.env x=pure x:=by intro _;rfl):PS X (.For tg iter body [] pos) (Pl wi g tb):=by
 intro pins s σ H D I h;refine wpAny_For (a9 (hi pins s σ H _ I h) fun v s1 h1=>a9 h1 fun Kf s2 h2=>?_) hs;obtain⟨it,fp,tn,J,H2,e,I2,T,ph,f2,W,⟨m0,w0⟩,turn⟩:=h2;subst e;have Fm:∀ {H':Hp},(∀ b∈fp,H' b=none)->∀ b∈fp,jm X pins H' b:=fun hn b hb=>⟨hn b hb,(f2 b hb).2⟩
 refine codeAny_forLoop_any (fun n s'=>∃ i σ' H',Inv X pins σ' H' s'/\tn i s'.heap/\(∀ b∈fp,H' b=none)/\W i n σ' H') ?_ m0 ⟨0,σ,H2,I2,ph,fun b hb=>(f2 b hb).1,w0⟩;rintro n s3 ⟨i,σ3,H3,I3,RS,RT,w3⟩;rcases turn i n σ3 H3 w3 with ⟨stop,qn⟩ | ⟨go,N,hN,step⟩
 ·refine XB hp (a9 (T.done X rfl rfl rfl hc i pins s3 σ3 H3 X.xe I3 (Fm RT) RS stop) fun r s4 ⟨hr,I4⟩=>?_);subst hr;exact aat ⟨σ3,H3,I4,qn⟩
 ·refine XB hp (a9 (T.item X rfl rfl rfl hc i pins s3 σ3 H3 X.xe I3 (Fm RT) RS go) fun r s4 ⟨u,hr,h4⟩=>?_);subst hr;refine XB hp (a9 h4 fun _ s5 ⟨x,H5,I5,r5,y5,zd,Kj⟩=>?_);have Kk:=I5.pinned (Fm Kj) (T.obj _ _ zd);refine XB hp (a9 (hg _ s5 σ3 H5 x u _ Kk r5 (step x H5 y5)) fun _ s6 ⟨σ6,H6,I6,q6⟩=>?_);refine XB hp (a9 (hb _ s6 σ6 H6 _ I6 q6) fun f s7 q7=>?_)
  have again:∀ {σ7:St}{H7:Hp},Inv X (pins++hX fp s5.heap) σ7 H7 s7->N σ7 H7->∃ m,m<n/\∃ i σ' H',Inv X pins σ' H' s7/\tn i s7.heap/\(∀ b∈fp,H' b=none)/\W i m σ' H':=fun {σ7 H7} I7 n7=>by
   obtain⟨m',hm,w7⟩:=hN σ7 H7 n7;refine⟨m',hm,i+1,σ7,H7,I7.jU,T.keep _ _ _ zd fun b hb o e=>(I7.pin (b,o) (D_ _ (D_ _ (cV hb e)))).1,fun b hb=>?_,w7⟩;obtain⟨o,e,d⟩:=T.obj _ _ zd b hb;exact (I7.pin (b,o) (D_ _ (D_ _ (cV hb e)))).2.1
  cases f with
  | next=>obtain⟨σ7,H7,I7,n7⟩:=q7;exact again I7 n7
  | cont=>obtain⟨σ7,H7,I7,n7⟩:=q7;exact again I7 n7
  | brk=>obtain⟨σ7,H7,I7,q7⟩:=q7;exact⟨σ7,H7,I7.jU,q7⟩
  | ret v=>obtain⟨x7,σ7,H7,I7,r7,q7⟩:=q7;exact⟨x7,σ7,H7,I7.jU,r7,q7⟩
end
end L2
namespace L2
open PySem PySem.Spec PyProof.Rows
noncomputable abbrev R2:=V->V->Hp->VK->Prop
def fG (X:Cx) (f:Value->Value->Sem Value) (r:R2):Prop :=
 ∀ (pins:List (Addr×Obj)) (s:h_) (σ:St) (H:Hp) (x y:V) (v u:Value) (Q:VK),Inv X pins σ H s->RelV x v->RelV y u->r x y H Q ->
  wpAny (model X.prog X.w) X.A (f v u) (EP X pins σ Q) X.xe s
def Pm (X:Cx) (f:Value->Sem Value) (r:V->Hp->VK->Prop):Prop :=
 ∀ (pins:List (Addr×Obj)) (s:h_) (σ:St) (H:Hp) (x:V) (v:Value) (Q:VK),Inv X pins σ H s->RelV x v->r x H Q ->
  wpAny (model X.prog X.w) X.A (f v) (EP X pins σ Q) X.xe s
def bv (X:Cx) (f:Value) (r:List V->Hp->VK->Prop):Prop :=
 ∀ (pins:List (Addr×Obj)) (s:h_) (σ:St) (H:Hp) (xs:List V) (us:List Value) (Q:VK),Inv X pins σ H s->Vals xs us->r xs H Q ->
  wpAny (model X.prog X.w) X.A (call f us) (EP X pins σ Q) X.xe s
def Pn (X:Cx) (r:V->Hp->(Bool->Hp->Prop)->Prop):Prop :=
 ∀ (pins:List (Addr×Obj)) (s:h_) (σ:St) (H:Hp) (x:V) (v:Value) (Q:Bool->Hp->Prop),Inv X pins σ H s->RelV x v->r x H Q ->
  wpAny (model X.prog X.w) X.A (truthy v) (TP X pins σ Q) X.xe s
def ze (r:R2) (ta tb:TE):TE:=fun σ H Q=>ta σ H fun x H1=>tb σ H1 fun y H2=>r x y H2 Q
def Ti (r:V->Hp->VK->Prop) (ta:TE):TE:=fun σ H Q=>ta σ H fun x H1=>r x H1 Q
def rI (C:Int->Int->Prop) (g:Int->Int->V):R2:=fun x y H Q=>∃ i j,x=.int i/\y=.int j/\C i j/\Q (g i j) H
def wy (g:Int->Int->V):R2:=fun x y H Q=>∃ i j,x=.int i/\y=.int j/\Q (g i j) H
def rU (g:Int->V):V->Hp->VK->Prop:=fun x H Q=>∃ i,x=.int i/\Q (g i) H
section
variable {X:Cx}{a b c:Expr}{ta tb tc:TE}{pos:Pos}
theorem Fo (ha:PE X a ta) (hb:PE X b tb) {pins:List (Addr×Obj)}{s:h_}{σ:St}{H:Hp}{R:V->V->Hp->Prop} (I:Inv X pins σ H s)
  (h:ta σ H fun x H1=>tb σ H1 fun y H2=>R x y H2) {Q:Value->h_->Prop}{f:Value->Value->Sem Value}
  (hf:∀ v u s2 x y H2,Inv X pins σ H2 s2->RelV x v->RelV y u->R x y H2->wpAny (model X.prog X.w) X.A (f v u) Q X.xe s2) :
  wpAny (model X.prog X.w) X.A (eval a X.env) (fun v s₁=>wpAny (model X.prog X.w) X.A (eval b X.env) (fun u s₂=>wpAny (model X.prog X.w) X.A (f v u) Q X.xe s₂) X.xe s₁) X.xe s:=by
 refine a9 (ha pins s σ H _ I h) fun v s1 ⟨x,H1,I1,r1,q1⟩=>?_
 refine a9 (hb pins s1 σ H1 _ I1 q1) fun u s2 ⟨y,H2,I2,r2,q2⟩=>?_
 exact hf v u s2 x y H2 I2 r1 r2 q2
theorem DY {op:YQ}{r:R2} (ho:fG X (Yr op) r) (ha:PE X a ta) (hb:PE X b tb):PE X (.BinOp a op b pos) (ze r ta tb):=by
 intro pins s σ H Q I h;exact wpAny_BinOp (Fo ha hb I h fun v u s2 x y H2 I2 rx ry q=>ho pins s2 σ H2 x y v u Q I2 rx ry q)
theorem Kl {op:acm}{r:V->Hp->VK->Prop} (ho:Pm X (unaryOp op) r) (ha:PE X a ta):PE X (.UnaryOp op a pos) (Ti r ta):=by
 intro pins s σ H Q I h;exact UnaryOp_ (a9 (ha pins s σ H _ I h) fun v s1 ⟨x,H1,I1,r1,q1⟩=>ho pins s1 σ H1 x v Q I1 r1 q1)
theorem Bz {f:Value->Value->Sem Value}{C:Int->Int->Prop}{g:Int->Int->Int}
  (rule:∀ (i j:Int) (t u:Tok) (s:h_) (Q:Value->h_->Prop) (E:Value->h_->Prop),C i j->Q (.int (g i j) s.toks) { s with toks:=s.toks+1 }->wpAny (model X.prog X.w) X.A (f (.int i t) (.int j u)) Q E s) :
  fG X f (rI C fun i j=>.int (g i j)):=by
 intro pins s σ H x y v u Q I rx ry h;obtain⟨i,j,rfl,rfl,hc,q⟩:=h;obtain⟨t,rfl⟩:=rx;obtain⟨t',rfl⟩:=ry;exact rule i j t t' s _ _ hc ⟨.int (g i j),H,I.tok _,⟨_,rfl⟩,q⟩
theorem Km {f:Value->Value->Sem Value}{g:Int->Int->Int}
  (rule:∀ (i j:Int) (t u:Tok) (s:h_) (Q:Value->h_->Prop) (E:Value->h_->Prop),Q (.int (g i j) s.toks) { s with toks:=s.toks+1 }->wpAny (model X.prog X.w) X.A (f (.int i t) (.int j u)) Q E s) :
  fG X f (wy fun i j=>.int (g i j)):=by
 intro pins s σ H x y v u Q I rx ry h;obtain⟨i,j,rfl,rfl,q⟩:=h;obtain⟨t,rfl⟩:=rx;obtain⟨t',rfl⟩:=ry;exact rule i j t t' s _ _ ⟨.int (g i j),H,I.tok _,⟨_,rfl⟩,q⟩
theorem B3 {f:Value->Value->Sem Value}{g:Int->Int->Bool}
  (rule:∀ (i j:Int) (t u:Tok) (s:h_) (Q:Value->h_->Prop) (E:Value->h_->Prop),Q (.bool (g i j)) s->wpAny (model X.prog X.w) X.A (f (.int i t) (.int j u)) Q E s) :
  fG X f (wy fun i j=>.bl (g i j)):=by
 intro pins s σ H x y v u Q I rx ry h;obtain⟨i,j,rfl,rfl,q⟩:=h;obtain⟨t,rfl⟩:=rx;obtain⟨t',rfl⟩:=ry;exact rule i j t t' s _ _ ⟨.bl (g i j),H,I,rfl,q⟩
def B4 (i j:Int):Prop:=0<j/\j<1073741824
def B5 (i j:Int):Prop:=0<=j/\j<=1000000/\i.natAbs<2 ^ 64
def xO (i j:Int):Prop:=(-(2 ^ 64)<i/\i<2 ^ 64)∨(-(2 ^ 64)<j/\j<2 ^ 64)
theorem xO.ok {i j:Int} (h:xO i j):IntMulOk i j:=by
 rcases h with ⟨h1,h2⟩ | ⟨h1,h2⟩
 ·exact .of_left (intBits_le_64 h1 h2)
 ·exact .of_right (intBits_le_64 h1 h2)
theorem u8 (k:Nat):(0:Int)<=2 ^ k:=by
 rw[two_pow_cast];exact Int.natCast_nonneg _
theorem Fp:fG X (Yr .Add) (wy fun i j=>.int (i+j)):=Km fun _ _ _ _ _ _ _ q=>add_int q
theorem Fq:fG X (Yr .Sub) (wy fun i j=>.int (i-j)):=Km fun _ _ _ _ _ _ _ q=>sub_int q
theorem Fs:fG X (Yr .Mult) (rI xO fun i j=>.int (i*j)):=Bz fun _ _ _ _ _ _ _ hc q=>mul_int q hc.ok
theorem B6:fG X (Yr .FloorDiv) (rI B4 fun i j=>.int (i / j)):=Bz fun i j _ _ _ _ _ hc q=>by
 have h1:(0:Int)<j:=hc.1;have h2:j<1073741824:=hc.2;exact floordiv_int (by omega) (by rw[ZD i (by omega)];exact q) (.inl (PyProof.noPylong_small (by omega)))
theorem Ft:fG X (Yr .Mod) (rI (fun _ j=>0<j) fun i j=>.int (i % j)):=Bz fun i j _ _ _ _ _ hc q=>by
 have h1:(0:Int)<j:=hc;exact mod_int' (by omega) (by rw[Int.fmod_eq_emod_of_nonneg i (by omega)];exact q)
theorem Fu:fG X (Yr .Pow) (rI B5 fun i j=>.int (i ^ j.toNat)):=Bz fun _ _ _ _ _ _ _ hc q=>pow_int_small hc.1 hc.2.1 hc.2.2 q
theorem Fv:fG X (Yr .RShift) (rI (fun _ j=>0<=j) fun i j=>.int (i / 2 ^ j.toNat)):=Bz fun i j _ _ _ _ _ hc q =>
 rshift_int hc (by rw[ZD i (u8 _)];exact q)
theorem Tj {f:Value->Sem Value}{g:Int->Int}
  (rule:∀ (i:Int) (t:Tok) (s:h_) (Q:Value->h_->Prop) (E:Value->h_->Prop),Q (.int (g i) s.toks) { s with toks:=s.toks+1 }->wpAny (model X.prog X.w) X.A (f (.int i t)) Q E s) :
  Pm X f (rU fun i=>.int (g i)):=by
 intro pins s σ H x v Q I rx h;obtain⟨i,rfl,q⟩:=h;obtain⟨t,rfl⟩:=rx;exact rule i t s _ _ ⟨.int (g i),H,I.tok _,⟨_,rfl⟩,q⟩
theorem Fw:Pm X (unaryOp .USub) (rU fun i=>.int (-i)):=Tj fun _ _ _ _ _ q=>neg_int q
end
noncomputable def Fy:V->V->Bool
 | .aK,.aK=>true | .aK,.int _=>true | .int _,.aK=>true | .aK,.bl _=>true | .bl _,.aK=>true | .aK,.str _=>true | .str _,.aK=>true
 | .int _,.int _=>true | .bl _,.bl _=>true | .str _,.str _=>true | .wx _,.wx _=>true
 | .int _,.str _=>true | .str _,.int _=>true | .bl _,.str _=>true | .str _,.bl _=>true
 | _,_=>false
def RU:R2:=fun x y H Q=>Fy x y=true/\Q (.bl (decide (x=y))) H
def RV:R2:=fun x y H Q=>Fy x y=true/\Q (.bl (!decide (x=y))) H
theorem wz {i j:Int}:decide (V.int i=V.int j)=(i==j):=by
 rw[WK];simp
theorem zf {i j:Bool}:decide (V.bl i=V.bl j)=(i==j):=by
 rw[WK];simp
theorem wA {i j:Str}:decide (V.str i=V.str j)=(i==j):=by
 rw[WK];simp
theorem wB {i j:Array UInt8}:decide (V.wx i=V.wx j)=(i.toList==j.toList):=by
 rw[WK]
 cases i
 cases j
 simp
section
variable {X:Cx}{a b c:Expr}{ta tb tc:TE}{pos:Pos}
theorem aM {pins:List (Addr×Obj)}{σ:St}{H:Hp}{s:h_}{Q:VK}{k k':Bool} (I:Inv X pins σ H s) (q:Q (.bl k) H) (e:k=k'):EP X pins σ Q (.bool k') s:=by
 subst e;exact⟨.bl k,H,I,rfl,q⟩
theorem Kn:fG X (Wo .Eq) RU:=by
 intro pins s σ H x y v u Q I rx ry h;obtain⟨hs,q⟩:=h
 cases x with
 | aK =>
  cases rx
  cases y with
  | aK=>cases ry;exact PySem.EqNone.eq_none_none (aM I q (by simp))
  | bl j=>cases ry;exact PySem.EqNone.eq_none_bool (aM I q (by simp))
  | int j=>obtain⟨t',rfl⟩:=ry;exact PySem.EqNone.eq_none_int (aM I q (by simp))
  | str j=>obtain⟨t',rfl⟩:=ry;exact PySem.EqNone.eq_none_str (aM I q (by simp))
  | _=>exact absurd (show false=true from hs) q_
 | bl i =>
  cases rx
  cases y with
  | aK=>cases ry;exact PySem.EqNone.eq_bool_none (aM I q (by simp))
  | bl j=>cases ry;exact eq_bool (aM I q zf)
  | str j=>obtain⟨t',rfl⟩:=ry;exact PySem.EqMixed.eq_bool_str (aM I q (by simp))
  | _=>exact absurd (show false=true from hs) q_
 | int i =>
  obtain⟨t,rfl⟩:=rx
  cases y with
  | aK=>cases ry;exact PySem.EqNone.eq_int_none (aM I q (by simp))
  | int j=>obtain⟨t',rfl⟩:=ry;exact eq_int (aM I q wz)
  | str j=>obtain⟨t',rfl⟩:=ry;exact PySem.EqMixed.eq_int_str (aM I q (by simp))
  | _=>exact absurd (show false=true from hs) q_
 | str i =>
  obtain⟨t,rfl⟩:=rx
  cases y with
  | aK=>cases ry;exact PySem.EqNone.eq_str_none (aM I q (by simp))
  | bl j=>cases ry;exact PySem.EqMixed.eq_str_bool (aM I q (by simp))
  | int j=>obtain⟨t',rfl⟩:=ry;exact PySem.EqMixed.eq_str_int (aM I q (by simp))
  | str j=>obtain⟨t',rfl⟩:=ry;exact eq_str (aM I q wA)
  | _=>exact absurd (show false=true from hs) q_
 | wx i =>
  obtain⟨t,rfl⟩:=rx
  cases y with
  | wx j=>obtain⟨t',rfl⟩:=ry;exact PySem.W.eq_bytes (aM I q wB)
  | _=>exact absurd (show false=true from hs) q_
 | _=>cases y<;>exact absurd (show false=true from hs) q_
theorem Ko:fG X (Wo .NotEq) RV:=by
 intro pins s σ H x y v u Q I rx ry h;obtain⟨hs,q⟩:=h
 cases x with
 | aK =>
  cases rx
  cases y with
  | aK=>cases ry;exact PySem.EqNone.ne_none_none (aM I q (by simp))
  | bl j=>cases ry;exact PySem.EqNone.ne_none_bool (aM I q (by simp))
  | int j=>obtain⟨t',rfl⟩:=ry;exact PySem.EqNone.ne_none_int (aM I q (by simp))
  | str j=>obtain⟨t',rfl⟩:=ry;exact PySem.EqNone.ne_none_str (aM I q (by simp))
  | _=>exact absurd (show false=true from hs) q_
 | bl i =>
  cases rx
  cases y with
  | aK=>cases ry;exact PySem.EqNone.ne_bool_none (aM I q (by simp))
  | bl j=>cases ry;exact ne_bool (aM I q (congrArg not zf))
  | str j=>obtain⟨t',rfl⟩:=ry;exact PySem.EqMixed.ne_bool_str (aM I q (by simp))
  | _=>exact absurd (show false=true from hs) q_
 | int i =>
  obtain⟨t,rfl⟩:=rx
  cases y with
  | aK=>cases ry;exact PySem.EqNone.ne_int_none (aM I q (by simp))
  | int j=>obtain⟨t',rfl⟩:=ry;exact ne_int (aM I q (congrArg not wz))
  | str j=>obtain⟨t',rfl⟩:=ry;exact PySem.EqMixed.ne_int_str (aM I q (by simp))
  | _=>exact absurd (show false=true from hs) q_
 | str i =>
  obtain⟨t,rfl⟩:=rx
  cases y with
  | aK=>cases ry;exact PySem.EqNone.ne_str_none (aM I q (by simp))
  | bl j=>cases ry;exact PySem.EqMixed.ne_str_bool (aM I q (by simp))
  | int j=>obtain⟨t',rfl⟩:=ry;exact PySem.EqMixed.ne_str_int (aM I q (by simp))
  | str j=>obtain⟨t',rfl⟩:=ry;exact ne_str (aM I q (congrArg not wA))
  | _=>exact absurd (show false=true from hs) q_
 | wx i =>
  obtain⟨t,rfl⟩:=rx
  cases y with
  | wx j=>obtain⟨t',rfl⟩:=ry;exact PySem.W.ne_bytes (aM I q (congrArg not wB))
  | _=>exact absurd (show false=true from hs) q_
 | _=>cases y<;>exact absurd (show false=true from hs) q_
theorem Kp:fG X (Wo .Lt) (wy fun i j=>.bl (decide (i<j))):=B3 fun _ _ _ _ _ _ _ q=>lt_int q
theorem Kq:fG X (Wo .LtE) (wy fun i j=>.bl (decide (i<=j))):=B3 fun _ _ _ _ _ _ _ q=>le_int q
theorem Kr:fG X (Wo .Gt) (wy fun i j=>.bl (decide (j<i))):=B3 fun _ _ _ _ _ _ _ q=>gt_int q
theorem Ks:fG X (Wo .GtE) (wy fun i j=>.bl (decide (j<=i))):=B3 fun _ _ _ _ _ _ _ q=>ge_int q
theorem qp:fG X (Wo .In) (fun x y H Q=>∃ i j,x=.str i/\y=.str j/\Q (.bl (!(WT j i 0 j.length 1).isEmpty)) H):=by
 intro pins s σ H x y v u Q I rx ry h;obtain⟨i,j,rfl,rfl,q⟩:=h;obtain⟨t,rfl⟩:=rx;obtain⟨t',rfl⟩:=ry;exact in_str (aM I q rfl)
theorem fG.or {f:Value->Value->Sem Value}{r r':R2} (h:fG X f r) (h':fG X f r'):fG X f (fun x y H Q=>r x y H Q∨r' x y H Q):=by
 intro pins s σ H x y v u Q I rx ry q;rcases q with q | q
 ·exact h pins s σ H x y v u Q I rx ry q
 ·exact h' pins s σ H x y v u Q I rx ry q
theorem zg (b:Expr) {op:CmpOp} (h:op≠.In:=by decide) (h2:op≠.NotIn:=by decide):WP op b=false:=by
 have e1:(op==CmpOp.In)=false:=by cases op<;>first | rfl | exact absurd rfl h
 have e2:(op==CmpOp.NotIn)=false:=by cases op<;>first | rfl | exact absurd rfl h2
 cases b<;>simp [WP,e1,e2]
theorem mQ {op:CmpOp}{r:R2} (ho:fG X (Wo op) r) (ha:PE X a ta) (hb:PE X b tb) (hm:WP op b=false):PE X (.Compare a [op] [b] pos) (ze r ta tb):=by
 intro pins s σ H Q I h;exact wpAny_Compare1 (Fo ha hb I h fun v u s2 x y H2 I2 rx ry q=>ho pins s2 σ H2 x y v u Q I2 rx ry q) hm
def DZ (t:TE):TT:=fun σ H Q=>t σ H fun x H'=>∃ k,x=.bl k/\Q k H'
theorem B7 {op:CmpOp}{r:R2} (ho:fG X (Wo op) r) (ha:PE X a ta) (hb:PE X b tb) (hm:WP op b=false):PT X (.Compare a [op] [b] pos) (DZ (ze r ta tb)):=by
 intro pins s σ H Q I h
 refine aaE (a9 (ha pins s σ H _ I h) fun v s1 ⟨x,H1,I1,r1,q1⟩=>a9 (hb pins s1 σ H1 _ I1 q1) fun u s2 ⟨y,H2,I2,r2,q2⟩ =>
  a9 (ho pins s2 σ H2 x y v u _ I2 r1 r2 q2) fun c s3 ⟨z,H3,I3,r3,k,e,q3⟩=>?_) hm
 subst e
 cases r3
 exact Wq ⟨H3,I3,q3⟩
def u9 (r r':R2) (ta tb tc:TE):TE:=fun σ H Q=>ta σ H fun x H1=>tb σ H1 fun y H2=>r x y H2 fun z H3=>∃ k,z=.bl k /\
 (if k=true then tc σ H3 fun w' H4=>r' y w' H4 Q else Q (.bl false) H3)
theorem zh {op Fz:CmpOp}{r r':R2} (ho:fG X (Wo op) r) (kR:fG X (Wo Fz) r') (ha:PE X a ta) (hb:PE X b tb) (hc:PE X c tc)
  (hm:lastMarks [op,Fz] [b,c]=false:=by with_unfolding_all rfl):PE X (.Compare a [op,Fz] [b,c] pos) (u9 r r' ta tb tc):=by
 intro pins s σ H Q I h
 refine Compare_chain (a9 (ha pins s σ H _ I h) fun v s1 ⟨x,H1,I1,r1,q1⟩=>chain_link (a9 (hb pins s1 σ H1 _ I1 q1) fun u s2 ⟨y,H2,I2,r2,q2⟩ =>
  a9 (ho pins s2 σ H2 x y v u _ I2 r1 r2 q2) fun d s3 ⟨z,H3,I3,r3,k,e,q3⟩=>?_)) hm
 subst e
 cases r3
 refine Wq ?_
 cases k with
 | false=>exact ite_ff ⟨.bl false,H3,I3,rfl,q3⟩
 | true=>exact ite_tt (chain_last (a9 (hc pins s3 σ H3 _ I3 q3) fun w' s4 ⟨z',H4,I4,r4,q4⟩=>kR pins s4 σ H4 y z' u w' Q I4 r2 r4 q4))
theorem zi {op Fz:CmpOp}{r r':R2} (ho:fG X (Wo op) r) (kR:fG X (Wo Fz) r') (ha:PE X a ta) (hb:PE X b tb) (hc:PE X c tc)
  (hm:lastMarks [op,Fz] [b,c]=false:=by with_unfolding_all rfl):PT X (.Compare a [op,Fz] [b,c] pos) (DZ (u9 r r' ta tb tc)):=by
 intro pins s σ H Q I h
 refine isTrue_chain (a9 (ha pins s σ H _ I h) fun v s1 ⟨x,H1,I1,r1,q1⟩=>test_link (a9 (hb pins s1 σ H1 _ I1 q1) fun u s2 ⟨y,H2,I2,r2,q2⟩ =>
  a9 (ho pins s2 σ H2 x y v u _ I2 r1 r2 q2) fun d s3 ⟨z,H3,I3,r3,k,e,q3⟩=>?_)) hm
 subst e
 cases r3
 refine Wq ?_
 cases k with
 | false =>
  obtain⟨k',e',q'⟩:=q3
  cases e'
  exact ite_ff ⟨H3,I3,q'⟩
 | true =>
  refine ite_tt (test_last (a9 (hc pins s3 σ H3 _ I3 q3) fun w' s4 ⟨z',H4,I4,r4,q4⟩=>a9 (kR pins s4 σ H4 y z' u w' _ I4 r2 r4 q4) fun d' s5 ⟨z2,H5,I5,r5,k2,e2,q5⟩=>?_));subst e2
  cases r5
  exact Wq ⟨H5,I5,q5⟩
def Kt (K:e_) (x:V) (H:Hp) (k:Bool):Prop :=
 match x with
 | .aK=>k=false
 | .bl b=>k=b
 | .int i=>k=(i != 0)
 | .str y=>y.length<=sizeLine/\k=((y.length:Int) != 0)
 | .wx y=>y.size<=sizeLine/\k=((y.size:Int) != 0)
 | .ref p=>(∃ xs,du K H p xs/\k = !xs.isEmpty)∨(∃ xs,eG K H p xs/\k = !xs.isEmpty)∨∃ am,H p=some (.dK am)/\k = !am.isEmpty
 | _=>False
theorem vb {κ:Type}{am:List (κ×V)}{vs:List (κ×Value)} (r:KV am vs):(!vs.isEmpty) = !am.isEmpty:=by
 cases r<;>rfl
theorem nn {xs:List V}{ao:List Value} (r:Vals xs ao):(!ao.toArray.isEmpty) = !xs.isEmpty:=by
 cases r<;>simp
theorem kU:(sizeLine:Nat)<2 ^ 63:=by rw[ab9];decide
theorem FA:Pn X (fun x H Q=>∃ k,Kt X.K x H k/\Q k H):=by
 intro pins s σ H x v Q I rx h;obtain⟨k,e,q⟩:=h;have hl:=kU;have hs:sizeLine=16777216:=ab9
 cases x with
 | aK =>
  cases rx
  have e':k=false:=e;subst e';exact truthy_none ⟨H,I,q⟩
 | bl b =>
  cases rx
  have e':k=b:=e;subst e';exact Wq ⟨H,I,q⟩
 | int i =>
  obtain⟨t,rfl⟩:=rx;have e':k=(i != 0):=e;subst e';exact PySem.P.truthy_int ⟨H,I,q⟩
 | str y =>
  obtain⟨t,rfl⟩:=rx;obtain⟨hy,e'⟩:y.length<=sizeLine/\k=((y.length:Int) != 0):=e;subst e';exact PySem.P.truthy_str (by omega) ⟨H,I.tok _,q⟩
 | wx y =>
  obtain⟨t,rfl⟩:=rx;obtain⟨hy,e'⟩:y.size<=sizeLine/\k=((y.size:Int) != 0):=e;subst e';exact PySem.W.truthy_bytes (by omega) ⟨H,I.tok _,q⟩
 | ref p =>
  cases rx
  have e':(∃ xs,du X.K H p xs/\k = !xs.isEmpty)∨(∃ xs,eG X.K H p xs/\k = !xs.isEmpty)∨∃ am,H p=some (.dK am)/\k = !am.isEmpty:=e;rcases e' with ⟨xs,hx,e'⟩ | ⟨xs,hx,e'⟩ | ⟨am,hx,e'⟩
  ·subst e';obtain⟨ao,r,pl,hz⟩:=I.list hx;have hlen:=r.length;exact wpAny_truthy_list pl.isList (by simp only[C_];omega) ⟨H,I.tok _,by rw[nn r];exact q⟩
  ·subst e';obtain⟨ao,r,pl,hz⟩:=I.tuple hx;have hlen:=r.length;exact truthy_tuple pl (by simp only[C_];omega) ⟨H,I.tok _,by rw[nn r];exact q⟩
  ·subst e';obtain⟨hz,hS,vs,r,m⟩:am.length<=sizeLine/\(p==XY)=false/\∃ vs,KV am vs/\s.heap.DictOf (aZ X.prog X.w) p vs:=I.bf p _ hx;have hlen:am.length=vs.length:=ZX r;exact wpAny_truthy_dict hS m (by omega) ⟨H,I.tok _,by rw[vb r];exact q⟩
 | _=>exact (show False from e).elim
theorem zj (ha:PE X a ta) (he:∀ whole,aaL a X.env whole=(do let v ←whole;aa1 a.pos;aae [v] (truthy v))) :
  PT X a (fun σ H Q=>ta σ H fun x H'=>∃ k,Kt X.K x H' k/\Q k H'):=by
 intro pins s σ H Q I h;exact isTrue_plain (a9 (ha pins s σ H _ I h) fun v s1 ⟨x,H1,I1,r1,q1⟩=>FA pins s1 σ H1 x v Q I1 r1 q1) (he _)
theorem vd:fG X (Yr .Add) (fun x y H Q=>∃ i j,x=.str i/\y=.str j/\i.length+j.length<=sizeLine/\Q (.str (i++j)) H):=by
 intro pins s σ H x y v u Q I rx ry h;obtain⟨i,j,rfl,rfl,hz,q⟩:=h;obtain⟨t,rfl⟩:=rx;obtain⟨t',rfl⟩:=ry;exact add_str (fun t' tk=>⟨.str (i++j),H,I.tok _,⟨_,rfl⟩,q⟩) hz
theorem vals1 {x:V}{us:List Value} (r:Vals [x] us):∃ u,us=[u]/\RelV x u:=by
 cases r with
 | cons r1 r2=>cases r2;exact⟨_,rfl,r1⟩
theorem vals2 {x y:V}{us:List Value} (r:Vals [x,y] us):∃ u w',us=[u,w']/\RelV x u/\RelV y w':=by
 cases r with
 | cons r1 r2 =>
  cases r2 with
  | cons r3 r4=>cases r4;exact⟨_,_,rfl,r1,r3⟩
theorem xP (hc:X.calm=true):bv X (.builtin "max") (fun xs H Q=>∃ i j,xs=[.int i,.int j]/\Q (.int (if j>i then j else i)) H):=by
 intro pins s σ H xs us Q I r h;obtain⟨i,j,rfl,q⟩:=h;obtain⟨u,w',rfl,⟨t,rfl⟩,⟨t',rfl⟩⟩:=vals2 r;refine max_two_ints (I.ok.hd hc) fun h' tk k=>⟨_,H,I.kept k,?_,q⟩
 by_cases hj:j>i
 ·rw[w_ hj,w_ hj];exact⟨_,rfl⟩
 ·rw[n_ hj,n_ hj];exact⟨_,rfl⟩
theorem xQ (hc:X.calm=true):bv X (.builtin "min") (fun xs H Q=>∃ i j,xs=[.int i,.int j]/\Q (.int (if j<i then j else i)) H):=by
 intro pins s σ H xs us Q I r h;obtain⟨i,j,rfl,q⟩:=h;obtain⟨u,w',rfl,⟨t,rfl⟩,⟨t',rfl⟩⟩:=vals2 r;refine min_two_ints (I.ok.hd hc) fun h' tk k=>⟨_,H,I.kept k,?_,q⟩
 by_cases hj:j<i
 ·rw[w_ hj,w_ hj];exact⟨_,rfl⟩
 ·rw[n_ hj,n_ hj];exact⟨_,rfl⟩
theorem xR:bv X (.type "int") (fun xs H Q=>(∃ i,xs=[.int i]/\Q (.int i) H)∨∃ k,xs=[.bl k]/\Q (.int (if k then 1 else 0)) H):=by
 intro pins s σ H xs us Q I r h;rcases h with ⟨i,rfl,q⟩ | ⟨k,rfl,q⟩
 ·obtain⟨u,rfl,t,rfl⟩:=vals1 r;exact call_int_int ⟨.int i,H,I,⟨_,rfl⟩,q⟩
 ·obtain⟨u,rfl,r1⟩:=vals1 r
  cases r1
  exact call_int_bool ⟨.int (if k then 1 else 0),H,I.tok _,⟨_,rfl⟩,q⟩
end
end L2
namespace L2
open PySem PySem.Spec PyProof.Rows
structure ve (h:Heap) (x dx C:Addr) (mA:Str->k_ Value):Prop where
 obj:h.get? x=some (Xe C dx)
 ns:h.Ns1 dx mA
 ne:dx≠x
theorem xS {h:Heap}{dx:Addr}{mA:Str->k_ Value} (n:h.Ns1 dx mA):∃ od,h.get? dx=some od/\∀ name,ZE name od=some (mA name):=by
 obtain⟨o,es,ep,ho,hd,hk,_,hm⟩:=n;refine⟨o,ho,fun name=>?_⟩;have e:=hm name;unfold nsFind findBy at e;rw[←Array.find?_toList] at e;unfold ZE;rw[hd];dsimp only;split
 ·rename_i y q;rw[q] at e;exact congrArg some e
 ·rename_i q;rw[q] at e
  have a:es.toList.any (·.refKey)=false:=by
   rw[List.any_eq_false];intro y hy;obtain⟨z,t,FB⟩:=hk y (Array.mem_toList_iff.mp hy);simp [DictEntry.refKey,FB]
  have a':¬ es.toList.any (·.refKey)=true:=by rw[a];exact q_
  rw[n_ a'];exact congrArg some e
theorem ve.look {h:Heap}{x dx C:Addr}{mA:Str->k_ Value} (I:ve h x dx C mA):∃ od,PySem.W.InstAt h x (Xe C dx) C (some od)/\∀ name,ZE name od=some (mA name) :=
 let ⟨od,ho,hl⟩:=xS I.ns
 ⟨od,⟨I.obj,rfl,rfl,ho⟩,hl⟩
section
variable {prog:L_}{w:World}{A:Wt}{E:Value->h_->Prop}{s:h_}{K:e_}{x dx C f:Addr}{mA:Str->k_ Value}{name:Str}{v:Value}
theorem get_map {expr:Bool}{Q:Value->h_->Prop} (X:K.In s.heap) (I:ve s.heap x dx C mA) (hg:Yj K C name=true) (hh:YS K C=true)
  (ha:Wr K (.ref C) name=some none) (hv:mA name=some v) (zk:abX v=true) (h:Q v { s with toks:=s.toks+1 }) :
  wpAny (model prog w) A (getAttr (.ref x) name expr) Q E s:=by
 obtain⟨od,J,hl⟩:=I.look;exact PySem.W.get_value X J (Zq hg).1 (PySem.W.findObj_own hh ha rfl (by rw[hl,hv])) zk h
theorem zl {pl:Sem Bool}{Q:Value×List Value->h_->Prop} (X:K.In s.heap) (I:ve s.heap x dx C mA) (hg:Yj K C name=true)
  (hf:Wr K (.ref C) name=some (some (.ref f))) (ht:YT K (.ref f)=true) (hv:mA name=none) (h:Q (.ref f,[.ref x]) s) :
  wpAny (model prog w) A (abY (.ref x) name pl) Q E s:=by
 obtain⟨od,J,hl⟩:=I.look;exact PySem.W.method_fn X J (Zq hg).1 (Zq hg).2 hf (W8.mp ht) (by show (ZE name od).map (·.isSome)=some false;rw[hl,hv];rfl) h
theorem B8 {ns:List Str}{Q:Unit->h_->Prop} (X:K.In s.heap) (I:ve s.heap x dx C mA)
  (hs:Wr K (.ref C) "__setattr__" = some (some (.builtin "object.__setattr__"))) (hp:ZQ K C=true) (ht:aau K C name=some none) (hh:YS K C=true)
  (hw:aby mA ns) (hsz:ns.length<=sizeLine)
  (h:∀ h',ve h' x dx C (fun y=>if y=name then some v else mA y)->XZ dx s.heap h'->Q () { s with heap:=h',toks:=s.toks+2 }) :
  wpAny (model prog w) A (setAttr (.ref x) name v) Q E s:=by
 obtain⟨od,J,hl⟩:=I.look;refine PySem.W.set_plain X J hs (PySem.W.osa_open (s:={ s with toks:=s.toks+1 }) (r:=none) X J hp ht fun b=>?_);obtain⟨cd,hc,pd⟩:=PySem.W.any_some hh;have hx:s.heap.get? x=some ⟨.ref C,some dx,.plain,#[]⟩:=I.obj;refine b_ (o_ (b_ (b_ (wpAny_loadPart hx (b_ (PySem.W.Looks.here (s:={ s with toks:=s.toks+1 }) (PySem.W.looks_clsIn X hc) ?_))))));rw[pd];refine o_ (a:=some dx) (b_ (o_ (b_ ?_)));refine wpAny_nsSet1 (s:={ s with toks:=s.toks+1 }) I.ns fun h' BA gT=>?_
 obtain⟨oD,VB,VC,Tk,Tl,Tn⟩:=BA.count (PySem.Within.cons name v hw);refine b_ (wpAny_lookBehind Tk (by rw[Tl];exact pastItsLine_dict (P_ Tn (by rw[E_];omega))) ?_);exact o_ (h _ ⟨(gT.2 _ (M_ I.ne)).trans I.obj,BA,I.ne⟩ gT)
theorem zm {R:Result->h_->Prop}{vs:List Value}{kw:List (Str×Value)} (X:K.In s.heap) (hm:aav K C=true)
  (hi:Wr K (.ref C) "__init__" = some (some (.ref f))) (hf:PySem.W.typeIn K (.ref f)=some (.type "function"))
  (h:Yk (model prog w) (A.under (.builtin "type.__call__" ⟨.ref C::vs,kw⟩)) (.call (.ref f) ⟨.ref (s.heap.objs.size+1)::vs,kw⟩) (PySem.W.InitBack (s.heap.objs.size+1) R)
   { s with heap:=(s.heap.push WN).push (Xe C s.heap.objs.size) }) :
  Yk (model prog w) A (.call (.ref C) ⟨vs,kw⟩) R s:=by
 obtain⟨hh,g,d,t,os⟩:=s;exact PySem.W.make_core (PySem.W.makes_of X hm) (PySem.W.looks_findIn X hi) (fun self=>PySem.W.bind_fn X self hf) (.inl rfl) h
end
noncomputable def fQ (f:Str) (v:V):List (Str×V)->List (Str×V)
 | []=>[(f,v)]
 | (g,x)::r=>if g=f then (g,v)::r else (g,x)::fQ f v r
theorem lN (f g:Str) (v:V):∀ fs:List (Str×V),(fQ f v fs).lookup g=if g=f then some v else fs.lookup g
 | []=>by
  show XE g [(f,v)]=_;by_cases h:g=f
  ·have hb:(g==f)=true:=W8.mpr h;simp only[XE,hb,w_ h]
  ·have hb:(g==f)=false:=W3.mpr h;simp only[XE,hb,n_ h]
 | (k,x)::r=>by
  have ih:=lN f g v r;rw[show fQ f v ((k,x)::r)=(if k=f then (k,v)::r else (k,x)::fQ f v r) from rfl];by_cases hk:k=f
  ·rw[w_ hk];by_cases h:g=k
   ·have hb:(g==k)=true:=W8.mpr h;simp only[XE,hb,w_ (h.trans hk)]
   ·have hb:(g==k)=false:=W3.mpr h;simp only[XE,hb,n_ (fun e:g=f=>h (e.trans hk.symm))]
  ·rw[n_ hk];by_cases h:g=k
   ·have hb:(g==k)=true:=W8.mpr h;simp only[XE,hb,n_ (fun e:g=f=>hk (h.symm.trans e))]
   ·have hb:(g==k)=false:=W3.mpr h;simp only[XE,hb];exact ih
theorem kW (f:Str) (v:V):∀ fs:List (Str×V),f∈(fQ f v fs).map (·.1)/\∀ g,g∈fs.map (·.1)->g∈(fQ f v fs).map (·.1)
 | []=>⟨by simp [fQ],fun g h=>by simp at h⟩
 | (k,x)::r=>by
  obtain⟨i1,i2⟩:=kW f v r;rw[show fQ f v ((k,x)::r)=(if k=f then (k,v)::r else (k,x)::fQ f v r) from rfl];by_cases hk:k=f
  ·rw[w_ hk];subst hk;exact⟨by simp,fun g h=>by simpa using h⟩
  ·rw[n_ hk];refine⟨?_,fun g h=>?_⟩
   ·rw[p_];exact I_ _ i1
   ·rw[p_] at h ⊢;rcases u_.mp h with e | e
    ·exact u_.mpr (.inl e)
    ·exact I_ _ (i2 g e)
theorem lO (f:Str) (v:V):∀ fs:List (Str×V),(fQ f v fs).length<=fs.length+1
 | []=>by simp [fQ]
 | (k,x)::r=>by
  have ih:=lO f v r;rw[show fQ f v ((k,x)::r)=(if k=f then (k,v)::r else (k,x)::fQ f v r) from rfl];by_cases hk:k=f
  ·rw[w_ hk,E_,E_];omega
  ·rw[n_ hk,E_,E_];omega
theorem jO.some_of {v:V}{o:k_ Value} (r:jO (some v) o):∃ u,o=some u/\RelV v u:=by
 cases o with
 | none=>exact (show False from r).elim
 | some u=>exact⟨u,rfl,r⟩
theorem jO.none_of {o:k_ Value} (r:jO none o):o=none:=by
 cases o with
 | none=>rfl
 | some u=>exact (show False from r).elim
theorem xT {v:V}{u:Value} (r:RelV v u):abX u=true:=by
 cases v with
 | aK=>cases (show u=XW from r);rfl
 | bl b=>cases (show u=ZB b from r);rfl
 | int i=>obtain⟨t,e⟩:=(show ∃ t,u=Y8 i t from r);cases e;rfl
 | str x=>obtain⟨t,e⟩:=(show ∃ t,u=Z3 x t from r);cases e;rfl
 | wx b=>obtain⟨t,e⟩:=(show ∃ t,u=Value.bytes b t from r);cases e;rfl
 | EV b=>obtain⟨t,e⟩:=(show ∃ t,u=ab8 b t from r);cases e;rfl
 | ref a=>cases (show u=V5 a from r);rfl
 | ty n=>cases (show u=XX n from r);rfl
section
variable {P:L_}{w:World}{H H':Hp}{h h':Heap}{a C dx:Addr}{fs fC:List (Str×V)}
theorem mR (bf:iT P w H h) (e:H a=some (.ins C dx fs)):∃ mA,ve h a dx C mA/\(∀ f,jO (fs.lookup f) (mA f))/\aby mA (fs.map (·.1))/\fs.length<=1000/\H dx=some (.own a):=by
 obtain⟨d,z,ne,ob,mA,n,r,q⟩:=(show aU P w H h a (.ins C dx fs) from bf a _ e);exact⟨mA,⟨ob,n,ne⟩,r,q,z,d⟩
end
structure sZ (K:e_) (C:Addr):Prop where
 pg:Yj K C WA=true
 hd:YS K C=true
 po:ZQ K C=true
 sa:Wr K (.ref C) "__setattr__" = some (some (.builtin "object.__setattr__"))
theorem sZ.get {K:e_}{C:Addr} (c:sZ K C) (f:Str):Yj K C f=true:=c.pg
def dW (K:e_) (C:Addr) (f:Str):Prop:=Wr K (.ref C) f=some none
theorem dW.Ku {K:e_}{C:Addr}{f:Str} (n:dW K C f):aau K C f=some none:=by
 unfold aau;rw[show Wr K (.ref C) f=some none from n];rfl
structure Meth (K:e_) (C:Addr) (m:Str) (f:Addr):Prop where
 at_:Wr K (.ref C) m=some (some (.ref f))
 fn:YT K (.ref f)=true
 kp:Ws K (.ref f)=true
section
variable {X:Cx}{pins:List (Addr×Obj)}{σ:St}{H:Hp}{s:h_}{a C dx:Addr}{fs:List (Str×V)}{f:Str}{v:V}{A:Wt}{E:Value->h_->Prop}
theorem vf {b:Bool}{Q:Value->h_->Prop} (I:Inv X pins σ H s) (e:H a=some (.ins C dx fs)) (c:sZ X.K C) (n:dW X.K C f) (l:fs.lookup f=some v)
  (h:∀ u s',Inv X pins σ H s'->RelV v u->Q u s'):wpAny (model X.prog X.w) A (getAttr (.ref a) f b) Q E s:=by
 obtain⟨mA,O,r,_,_,_⟩:=mR I.bf e;obtain⟨u,hu,ru⟩:=jO.some_of (v:=v) (o:=mA f) (by rw[←l];exact r f);exact get_map I.jK O (c.get f) c.hd n hu (xT ru) (h u _ (I.tok _) ru)
theorem nq {m:Str}{g:Addr}{pl:Sem Bool}{Q:Value×List Value->h_->Prop} (I:Inv X pins σ H s) (e:H a=some (.ins C dx fs)) (c:sZ X.K C) (k:Meth X.K C m g) (l:fs.lookup m=none)
  (h:Q (.ref g,[.ref a]) s):wpAny (model X.prog X.w) A (abY (.ref a) m pl) Q E s:=by
 obtain⟨mA,O,r,_,_,_⟩:=mR I.bf e;have hn:mA m=none:=jO.none_of (by rw[←l];exact r m);exact zl I.jK O (c.get m) k.at_ k.fn hn h
theorem vg {y:V}{u:Value}{Q:Unit->h_->Prop} (I:Inv X pins σ H s) (e:H a=some (.ins C dx fs)) (c:sZ X.K C) (n:dW X.K C f) (hl:fs.length<1000) (ry:RelV y u)
  (h:∀ s',Inv X pins σ (upd H a (.ins C dx (fQ f y fs))) s'->Q () s'):wpAny (model X.prog X.w) A (setAttr (.ref a) f u) Q E s:=by
 obtain⟨mA,O,r,wi,_,ho⟩:=mR I.bf e;have hz:(fs.map (·.1)).length<=sizeLine:=by rw[a_,ab9];omega
 refine B8 I.jK O c.sa c.po n.Ku c.hd wi hz fun h' O' sb=>h _ ?_
 have hd:∃ o,h'.get? dx=some o:=let ⟨o,_,_,e',_⟩:=O'.ns;⟨o,e'⟩;refine I.write (x:=a) (e:=dx) (by rw[e];exact WG) (.inr ho) (fun b q hb z=>(sb.2 b hb).trans z) hd ?_;refine⟨by rw[aq O.ne];exact ho,?_,O.ne,O'.obj,_,O'.ns,fun g=>?_,fun g hg=>?_⟩
 ·have:=lO f y fs;omega
 ·show jO ((fQ f y fs).lookup g) (if g=f then some u else mA g);rw[lN];by_cases q:g=f
  ·rw[w_ q,w_ q];exact ry
  ·rw[n_ q,n_ q];exact r g
 ·by_cases q:g=f
  ·rw[q];exact (kW f y fs).1
  ·refine (kW f y fs).2 g (wi g fun z=>hg ?_);show (if g=f then some u else mA g)=none;rw[n_ q];exact z
theorem Inv.made (I:Inv X pins σ H s):Inv X pins σ (upd (upd H s.heap.objs.size (.own (s.heap.objs.size+1))) (s.heap.objs.size+1) (.ins C s.heap.objs.size []))
  { s with heap:=(s.heap.push WN).push (Xe C s.heap.objs.size) }:=by
 have e1:(s.heap.push WN).get? s.heap.objs.size=some WN:=v_ s.heap rfl
 have e2:((s.heap.push WN).push (Xe C s.heap.objs.size)).get? (s.heap.objs.size+1)=some (Xe C s.heap.objs.size):=by
  have:=v_ (s.heap.push WN) (o:=Xe C s.heap.objs.size) rfl;rwa [WI] at this
 have e3:(s.heap.push WN).Ns s.heap.objs.size (fun _=>none):=⟨WN,#[],_,e1,rfl,(fun e he=>absurd he (by simp)),fun _=>rfl⟩;have I1:=I.laid (a:=s.heap.objs.size) (o:=.own (s.heap.objs.size+1)) (h':=s.heap.push WN) (t':=s.toks) (fun b u q=>i_ _ q) (x_ _) ⟨_,e1⟩;refine I1.laid (a:=s.heap.objs.size+1) (o:=.ins C s.heap.objs.size []) (t':=s.toks) (fun b u q=>i_ _ q) (aai (WI _ _)) ?_;have ne:s.heap.objs.size≠s.heap.objs.size+1:=J_ (Xp _);refine⟨by rw[aq ne,aA],Xo _,ne,e2,fun _=>none,(Heap.Ns1.of_empty e3).at fun o q=>i_ _ q,fun _=>WG,fun y hy=>absurd rfl hy⟩
theorem B9 {prog:L_}{w:World}{env:Env}{e:Expr}{f:Str}{pos:Pos}{s:h_}{Q:Value->h_->Prop} (hb:XI e f env (eval e env)=eval e env)
  (h:wpAny (model prog w) A (eval e env) (fun o s₁=>wpAny (model prog w) A (getAttr o f true) Q E s₁) E s):wpAny (model prog w) A (eval (.Attribute e f pos) env) Q E s :=
 Attribute_any_ h (by rw[arm_eval_Attribute,hb])
end
def Po (K:e_) (ta:TE) (f:Str):TE:=fun σ H Q=>ta σ H fun x H1=>∃ a C dx fs v,x=.ref a/\H1 a=some (.ins C dx fs)/\sZ K C/\dW K C f/\fs.lookup f=some v/\Q v H1
def Pp (K:e_) (ta tv:TE) (f:Str):TS:=fun D σ H=>tv σ H fun y H1=>ta σ H1 fun x H2=>∃ a C dx fs,x=.ref a/\H2 a=some (.ins C dx fs)/\sZ K C/\dW K C f/\fs.length<1000 /\
 D.nx σ (upd H2 a (.ins C dx (fQ f y fs)))
section
variable {X:Cx}{o e value:Expr}{f:Str}{pos pos' Kv:Pos}{ta tv:TE}
theorem FC (he:PE X e ta) (hb:XI e f X.env (eval e X.env)=eval e X.env):PE X (.Attribute e f pos) (Po X.K ta f):=by
 intro pins s σ H Q I h;refine B9 hb (a9 (he pins s σ H _ I h) fun u s1 ⟨x,H1,I1,rx,a,C,dx,fs,v,ex,ea,c,n,l,q⟩=>?_);subst ex;obtain rfl:u=V5 a:=rx;exact vf I1 ea c n l fun u' s2 I2 ru=>⟨v,H1,I2,ru,q⟩
theorem FD (ha:PE X o ta) (hv:PE X value tv) (hs:Xd value (some (.Attribute o f pos')) pos.line X.env=pure false):PS X (.Assign [.Attribute o f pos'] value pos) (Pp X.K ta tv f):=by
 intro pins s σ H D I h;refine plainObj_wpAny_Assign_Attribute (a9 (hv pins s σ H _ I h) fun u s1 ⟨y,H1,I1,ry,q⟩=>a9 (ha pins s1 σ H1 _ I1 q) fun ov s2 ⟨x,H2,I2,rx,a,C,dx,fs,ex,ea,c,n,l,q2⟩=>?_) hs;subst ex;obtain rfl:ov=V5 a:=rx;exact vg I2 ea c n l ry fun s3 I3=>⟨σ,_,I3,q2⟩
end
section
variable {X:Cx}{pins:List (Addr×Obj)}{σ:St}{H:Hp}{s:h_}{A:Wt}{E:Value->h_->Prop}{Q:Value->h_->Prop}{c:Value}{b:Bool}
inductive jn (K:e_) (H:Hp):V->Value->Prop where
 | aK:jn K H .aK (.type "NoneType")
 | bl (x:Bool):jn K H (.bl x) (.type "bool")
 | int (i:Int):jn K H (.int i) (.type "int")
 | str (x:Str):jn K H (.str x) (.type "str")
 | EV (x:UInt64):jn K H (.EV x) (.type "float")
 | lst {a:Addr}{xs:List V} (e:H a=some (.lst xs)):jn K H (.ref a) (.type "list")
 | eM {a:Addr}{o:Obj}{xs:List V} (e:H a=some (.eM o (.lst xs))):jn K H (.ref a) (.type "list")
 | tup {a:Addr}{xs:List V} (e:H a=some (.tup xs)):jn K H (.ref a) (.type "tuple")
 | dK {a:Addr}{am:List (Key×V)} (e:H a=some (.dK am)):jn K H (.ref a) (.type "dict")
 | dT {a:Addr}{am:List (List Key×V)} (e:H a=some (.dT am)):jn K H (.ref a) (.type "dict")
 | ins {a C dx:Addr}{fs:List (Str×V)} (e:H a=some (.ins C dx fs)) (cl:sZ K C) (ha:Wr K (.ref C) "__class__" = some (some (.builtin "object.__class__")))
   (hn:ZR K (.builtin "object.__class__") "__get__" = some (some (.builtin "getset_descriptor.__get__"))) (RW:PySem.W.takesIn K (.builtin "object.__class__")=some true)
   (hm:PySem.W.mroIn K C (.type "object")=some true):jn K H (.ref a) (.ref C)
theorem xU {x:V}{u t:Value} (I:Inv X pins σ H s) (rx:RelV x u) (ty:jn X.K H x t) (e:YU X.K t c=some b) (h:∀ tk,Q (.bool b) { s with toks:=tk }) :
  wpAny (model X.prog X.w) A (call (.builtin "isinstance") [u,c]) Q E s:=by
 cases ty with
 | aK=>cases (show u=XW from rx);exact WL PySem.W.kitx_none I.jK WG e (fun z=>nomatch z) h
 | bl y=>cases (show u=ZB y from rx);exact WL PySem.W.kitx_bool I.jK WG e (fun z=>nomatch z) h
 | int i=>obtain⟨t,q⟩:=(show ∃ t,u=Y8 i t from rx);cases q;exact WL PySem.W.kitx_int I.jK WG e (fun z=>nomatch z) h
 | str y=>obtain⟨t,q⟩:=(show ∃ t,u=Z3 y t from rx);cases q;exact WL PySem.W.kitx_str I.jK WG e (fun z=>nomatch z) h
 | EV y=>obtain⟨t,q⟩:=(show ∃ t,u=ab8 y t from rx);cases q;exact WL PySem.W.kitx_float I.jK WG e (fun z=>nomatch z) h
 | @lst a xs ea =>
  cases (show u=V5 a from rx)
  obtain⟨_,_,n,_,h1⟩:=(show aU X.prog X.w H s.heap a (.lst xs) from I.bf a _ ea);exact WL abA I.jK ⟨_,h1,rfl⟩ e (fun z=>nomatch z) h
 | @eM a ob xs ea =>
  cases (show u=V5 a from rx)
  obtain⟨_,_,_,n,_,h1⟩:=(show aU X.prog X.w H s.heap a (.eM ob (.lst xs)) from I.bf a _ ea);exact WL abA I.jK ⟨_,h1,rfl⟩ e (fun z=>nomatch z) h
 | @tup a xs ea =>
  cases (show u=V5 a from rx)
  obtain⟨_,_,_,p⟩:=(show aU X.prog X.w H s.heap a (.tup xs) from I.bf a _ ea);obtain⟨o,h1,h2,_⟩:=p;exact WL PySem.W.kitx_tuple I.jK ⟨o,h1,h2⟩ e (fun z=>nomatch z) h
 | @dK a am ea =>
  cases (show u=V5 a from rx)
  obtain⟨_,_,vs,_,p⟩:=(show aU X.prog X.w H s.heap a (.dK am) from I.bf a _ ea);obtain⟨o,es,ep,h1,h2,_⟩:=p;exact WL abB I.jK ⟨o,h1,h2.1⟩ e (fun z=>nomatch z) h
 | @dT a am ea =>
  cases (show u=V5 a from rx)
  obtain⟨_,_,xs,_,o,es,ep,h1,h2,_⟩:=(show aU X.prog X.w H s.heap a (.dT am) from I.bf a _ ea);exact WL abB I.jK ⟨o,h1,h2.1⟩ e (fun z=>nomatch z) h
 | @ins a C dx fs ea cl ha hn RW hm =>
  cases (show u=V5 a from rx)
  obtain⟨mA,O,_⟩:=mR I.bf ea;obtain⟨od,J,_⟩:=O.look;exact WL (PySem.W.kitx_own (cl.get _) cl.hd ha hn RW hm) I.jK J e (fun z=>nomatch z) h
end
end L2
namespace L2
open PySem PySem.Spec PyProof.Rows
structure cj (k:Nat) (A:Wt):Prop where
 hd:A.handled=none
 dp:A.depth+3*k+5<aaP
 un:A.units+16*k+200<cLine
theorem cj.mono {j k:Nat}{A:Wt} (r:cj k A) (h:j<=k):cj j A:=⟨r.hd,by have:=r.dp;omega,by have:=r.un;omega⟩
theorem cj.deeper {k:Nat}{A:Wt} (r:cj (k+1) A) (env:Env):cj k (A.deeper env) :=
 ⟨r.hd,by have:=r.dp;show A.depth+1+3*k+5<_;omega,by have:=r.un;show A.units+3+16*k+200<_;omega⟩
theorem vh {A:Wt}{C:Addr}{us:List Value}{kw:List (Str×Value)}:(A.under (.builtin "type.__call__" ⟨.ref C::us,kw⟩)).depth=A.depth+1:=by
 first | rfl | simp [abC,Code.weight,Code.isCreation,Code.isGuard,Code.isCaller,Code.frames,abD,guardIds]
theorem vi {A:Wt}{C:Addr}{us:List Value}{kw:List (Str×Value)}:(A.under (.builtin "type.__call__" ⟨.ref C::us,kw⟩)).units=A.units+1:=by
 first | rfl | simp [abC,Code.cUnits,Code.frames,abD]
theorem cj.make {k:Nat}{A:Wt} (r:cj (k+1) A) (C:Addr) (us:List Value) (kw:List (Str×Value)):cj k (A.under (.builtin "type.__call__" ⟨.ref C::us,kw⟩)) :=
 ⟨r.hd,by have:=r.dp;rw[vh];omega,by have:=r.un;rw[vi];omega⟩
theorem cj.depth {k:Nat}{A:Wt} (r:cj k A):A.depth<aaP:=by have:=r.dp;omega
theorem cj.units {k:Nat}{A:Wt} (r:cj k A):A.units+64<cLine:=by have:=r.un;omega
def Kw:TA:=fun _ H Q=>Q [] H
def Kx (ta:TE) (tr:TA):TA:=fun σ H Q=>ta σ H fun x H1=>tr σ H1 fun xs H2=>Q (x::xs) H2
section
variable {X:Cx}{e:Expr}{es:List Expr}{te:TE}{t:TA}{pos:Pos}
theorem bz:PA X [] Kw:=fun _ _ _ _ H Q I h=>Calls.spliced_nil ⟨[],H,I,.nil,h⟩
theorem aI (ha:PE X e te) (hr:PA X es t) (hs:N_ (e::es) X.env=(false,eval e X.env)::N_ es X.env:=by rfl):PA X (e::es) (Kx te t):=by
 intro pos pins s σ H Q I h;rw[hs];show wpAny _ _ (spliced ((false,eval e X.env)::Xm pos (N_ es X.env))) _ _ s;refine Calls.spliced_cons (a9 (ha pins s σ H _ I h) fun u s1 ⟨x,H1,I1,r1,q1⟩=>?_);exact a9 (hr pos pins s1 σ H1 _ I1 q1) fun us s2 ⟨xs,H2,I2,r2,q2⟩=>⟨x::xs,H2,I2,.cons r1 r2,q2⟩
def Pq (t:TA):TE:=fun σ H Q=>t σ H fun xs H1=>xs.length<=sizeLine/\∀ p,H1 p=none->Q (.ref p) (upd H1 p (.tup xs))
def Ps (t:TA):TE:=fun σ H Q=>t σ H fun xs H1=>xs.length<=sizeLine/\∀ p,H1 p=none->Q (.ref p) (upd H1 p (.lst xs))
theorem FE {x1} (h:PA X es t):PE X (.Tuple es x1 pos) (Pq t):=by
 intro pins s σ H Q I hq;refine wpAny_Tuple_spliced (a9 (h pos pins s σ H _ I hq) fun us s1 ⟨xs,H1,I1,r,z,q⟩=>⟨by rw[←r.length];exact z,?_⟩);have hf:H1 s1.heap.objs.size=none:=I1.bf.fresh (x_ _);refine⟨.ref s1.heap.objs.size,upd H1 s1.heap.objs.size (.tup xs),I1.laid (t':=s1.toks) (fun b u e=>i_ _ e) (x_ _) ?_,rfl,q _ hf⟩;exact⟨z,us,r,⟨_,v_ _ rfl,rfl,_,rfl⟩⟩
theorem FF (h:PA X es t):PE X (.List es pos) (Ps t):=by
 intro pins s σ H Q I hq;refine wpAny_List_spliced (a9 (h pos pins s σ H _ I hq) fun us s1 ⟨xs,H1,I1,r,z,q⟩=>⟨by rw[←r.length];exact z,?_⟩);have hf:H1 s1.heap.objs.size=none:=I1.bf.fresh (x_ _);refine⟨.ref s1.heap.objs.size,upd H1 s1.heap.objs.size (.lst xs),I1.laid (t':=s1.toks) (fun b u e=>i_ _ e) (x_ _) ?_,rfl,q _ hf⟩;exact⟨z,us,0,r,v_ _ rfl⟩
end
noncomputable abbrev Sp:=List V->Hp->VK->XK->Prop
noncomputable abbrev vj:=List Env->Hp->h_->XK->Value->h_->Prop
structure s9 (P:L_) (w:World) (K:e_) (mg:Str->k_ Value) (base:Heap) (A:Wt) (outer:List Env) (s:h_) (H:Hp):Prop where
 frames:A.frames=some outer
 mod:Mod K mg base
 bs:∀ b o,base.get? b=some o->s.heap.get? b=some o/\H b=none
 yW:base.objs.size<=s.heap.objs.size
 i6:s.heap.FunFrames base outer
 EZ:∀ b∈o0 outer,H b=none
 bf:iT P w H s.heap
 bare:Zt s.gens
def CE (outer:List Env) (P:L_) (w:World) (H:Hp) (s:h_) (Q:VK) (u:Value) (s':h_):Prop :=
 ∃ v H',s'.os=s.os/\Zt s'.gens/\Un (o0 outer) [] H H' s.heap s'.heap/\iT P w H' s'.heap/\RelV v u/\Q v H'
def CR (CX:vj) (outer:List Env) (P:L_) (w:World) (H:Hp) (s:h_) (Q:VK) (E:XK) (r:Result) (s':h_):Prop :=
 match r with
 | .ok (.ret u)=>CE outer P w H s Q u s'
 | .ok _=>False
 | .error e=>CX outer H s E e s'
structure b8 (P:L_) (w:World) (K:e_) (mg:Str->k_ Value) (base:Heap) (CX:vj) (k:Nat) (f:Addr) (fd:WJ) (ps:List Str) (sp:Sp):Prop where
 len:∀ vs H Q E,sp vs H Q E->vs.length=ps.length
 run:∀ (A:Wt) (outer:List Env) (s:h_) (H:Hp) (args:Args) (us:List Value) (vs:List V) (Q:VK) (E:XK),cj k A->s9 P w K mg base A outer s H->abE s fd args (ps.zip us)->Vals vs us->sp vs H Q E ->
  Yk (model P w) A (.call (.ref f) args) (CR CX outer P w H s Q E) s
theorem b8.mono {P:L_}{w:World}{K:e_}{mg:Str->k_ Value}{base:Heap}{CX:vj}{j k:Nat}{f:Addr}{fd:WJ}{ps:List Str}{sp:Sp} (F:b8 P w K mg base CX j f fd ps sp) (h:j<=k) :
  b8 P w K mg base CX k f fd ps sp:=⟨F.len,fun A outer s H args us vs Q E hr=>F.run A outer s H args us vs Q E (hr.mono h)⟩
theorem b8.imp {P:L_}{w:World}{K:e_}{mg:Str->k_ Value}{base:Heap}{CX:vj}{k:Nat}{f:Addr}{fd:WJ}{ps:List Str}{sp RX:Sp} (F:b8 P w K mg base CX k f fd ps sp)
  (h:∀ vs H Q E,RX vs H Q E->sp vs H Q E):b8 P w K mg base CX k f fd ps RX :=
 ⟨fun vs H Q E q=>F.len vs H Q E (h _ _ _ _ q),fun A outer s H args us vs Q E hr he hb hv hs=>F.run A outer s H args us vs Q E hr he hb hv (h _ _ _ _ hs)⟩
theorem s9.make {P:L_}{w:World}{K:e_}{mg:Str->k_ Value}{base:Heap}{A:Wt}{outer:List Env}{s:h_}{H:Hp} (e:s9 P w K mg base A outer s H) (C:Addr) (us:List Value) (kw:List (Str×Value)) :
  s9 P w K mg base (A.under (.builtin "type.__call__" ⟨.ref C::us,kw⟩)) outer s H:=⟨by first | exact e.frames | (simpa [abC,Code.envs,abD,pushEnvs] using e.frames),e.mod,e.bs,e.yW,e.i6,e.EZ,e.bf,e.bare⟩
section
variable {X:Cx}{pins:List (Addr×Obj)}{σ:St}{H:Hp}{s s':h_}
theorem Inv.FG (I:Inv X pins σ H s):s9 X.prog X.w X.K X.mg X.base X.A X.stack s H :=
 ⟨I.ok.frames,I.ok.mod,I.bs,P_ I.ok.yW I.sz,I.stack,I.ro,I.bf,I.bare⟩
theorem Inv.after {Q:VK}{u:Value} (I:Inv X pins σ H s) (h:CE X.stack X.prog X.w H s Q u s'):EP X pins σ Q u s':=by
 obtain⟨v,H',os,bare,un,bf,r,q⟩:=h;obtain⟨hh,g,d,t,To⟩:=s';obtain rfl:To=s.os:=os;exact⟨v,H',I.call (h':=hh) (g':=g) (d':=d) (t':=t) (ch:=[]) un bf bare (fun b z=>absurd z (by simp)),r,q⟩
end
def zn (sp:Sp) (dvs:List V) (E:XK) (t:TA):TE:=fun σ H Q=>t σ H fun vs H1=>sp (vs++dvs) H1 Q E
def Binds (K:e_) (fd:WJ) (ps:List Str) (ds:List Value):Prop :=
 ∀ (s:h_) (us:List Value),K.In s.heap->(us++ds).length=ps.length->abE s fd ⟨us,[]⟩ (ps.zip (us++ds))
theorem Binds.all {K:e_}{fd:WJ}{ps:List Str} (h:∀ us:List Value,us.length=ps.length->abF fd ⟨us,[]⟩=pure (ps.zip us)):Binds K fd ps []:=fun s us _ hl=>by
 rw[WB] at hl ⊢;exact .of_eq (h us hl)
def Passes (CX:vj) (X:Cx) (E:XK):Prop:=∀ (pins:List (Addr×Obj)) (σ:St) (H:Hp) (s:h_) (e:Value) (s':h_),Inv X pins σ H s->CX X.stack H s E e s'->X.xe e s'
section
variable {X:Cx}{CX:vj}{k:Nat}{f C:Addr}{fd:WJ}{ps:List Str}{sp:Sp}{dvs:List V}{ds:List Value}{E:XK}{x m:Str}{p pos apos:Pos}{e o:Expr}{es:List Expr}{ta:TE}{t:TA}
theorem rp {pins:List (Addr×Obj)}{σ:St}{H:Hp}{s:h_}{Q:VK}{us:List Value}{vs:List V} (F:b8 X.prog X.w X.K X.mg X.base CX k f fd ps sp) (hr:cj k X.A) (hb:Binds X.K fd ps ds) (hd:Vals dvs ds) (hx:Passes CX X E)
  (I:Inv X pins σ H s) (r:Vals vs us) (h:sp (vs++dvs) H Q E):wpAny (model X.prog X.w) X.A (call (.ref f) us) (EP X pins σ Q) X.xe s:=by
 have r2:Vals (vs++dvs) (us++ds):=r.append hd;have hl:(us++ds).length=ps.length:=by rw[←r2.length];exact F.len _ _ _ _ h
 refine wpAny_call (Zv (F.run X.A X.stack s H ⟨us,[]⟩ (us++ds) (vs++dvs) Q E hr I.FG (hb s us I.jK hl) r2 h) fun r s' hq=>?_)
 cases r with
 | error e=>exact hx pins σ H s e s' I hq
 | ok fl =>
  cases fl with
  | ret u=>exact I.after hq
  | next=>exact Wi hq
  | brk=>exact Wi hq
  | cont=>exact Wi hq
theorem Ca (F:b8 X.prog X.w X.K X.mg X.base CX k f fd ps sp) (hr:cj k X.A) (hg:Gl X x) (hm:X.mg x=some (.ref f)) (hk:Ws X.K (.ref f)=true) (hb:Binds X.K fd ps ds) (hd:Vals dvs ds) (hx:Passes CX X E)
  (ha:PA X (e::es) t) (lP:(x==("__debug__" : Str))=false:=by decide) (he:N_ (e::es) X.env=(false,eval e X.env)::N_ es X.env:=by rfl) (BB:(Xm pos (N_ es X.env)).any (·.1)=false:=by rfl) :
  PE X (.Call (.Name x p) (e::es) [] pos) (zn sp dvs E t):=by
 intro pins s σ H Q I h;refine X0 (jQ I hg hm ?_ lP);refine X1 (h₀:=X.base) I.ok.mod.EY hk (a9 (ha pos pins s σ H _ I h) fun us s1 ⟨vs,H1,I1,r,q⟩=>⟨I1.jK,?_⟩) he BB;exact rp F hr hb hd hx I1 r q
structure Mk (K:e_) (C f:Addr):Prop where
 makes:aav K C=true
 init:Wr K (.ref C) "__init__" = some (some (.ref f))
 fn:YT K (.ref f)=true
 kp:Ws K (.ref C)=true
theorem zo {pins:List (Addr×Obj)}{σ:St}{H:Hp}{s:h_}{Q:VK}{us:List Value}{vs:List V} (M:Mk X.K C f) (F:b8 X.prog X.w X.K X.mg X.base CX k f fd ps sp) (hr:cj (k+1) X.A) (hb:Binds X.K fd ps ds) (hd:Vals dvs ds)
  (hx:Passes CX X E) (I:Inv X pins σ H s) (r:Vals vs us)
  (h:∀ x dx,H x=none->H dx=none->dx≠x->sp (.ref x::(vs++dvs)) (upd (upd H dx (.own x)) x (.ins C dx [])) (fun v H2=>v=.aK/\Q (.ref x) H2) E) :
  wpAny (model X.prog X.w) X.A (call (.ref C) us) (EP X pins σ Q) X.xe s:=by
 have hq:=h (s.heap.objs.size+1) s.heap.objs.size (I.bf.fresh (Yf _)) (I.bf.fresh (x_ _)) (J_ (Xp _));have I2:=Inv.made (C:=C) I;have r2:Vals (V.ref (s.heap.objs.size+1)::(vs++dvs)) (V5 (s.heap.objs.size+1)::(us++ds)):=.cons rfl (r.append hd)
 have hl:(V5 (s.heap.objs.size+1)::us++ds).length=ps.length:=by
  have e:=r2.length;rw[F.len _ _ _ _ hq] at e;exact e.symm
 refine wpAny_call (zm (f:=f) I.jK M.makes M.init (W8.mp M.fn) (Zv (F.run _ X.stack _ _ ⟨V5 (s.heap.objs.size+1)::us,[]⟩ (V5 (s.heap.objs.size+1)::(us++ds)) _ _ E (hr.make C us [])
  (I2.FG.make C us []) (hb _ (V5 (s.heap.objs.size+1)::us) I2.jK hl) r2 hq) fun r s' xV=>?_))
 cases r with
 | error e=>exact hx pins σ _ _ e s' I2 xV
 | ok fl =>
  cases fl with
  | ret u =>
   obtain⟨v,H',I3,rv,ev,q3⟩:=I2.after xV;subst ev;exact⟨rv,⟨V.ref (s.heap.objs.size+1),H',I3,rfl,q3⟩⟩
  | next=>exact Wi xV
  | brk=>exact Wi xV
  | cont=>exact Wi xV
end
structure mS (N P:List Str) (sc:Scope):Prop where
 kind:sc.kind=.function
 co:sc.isCoroutine=false
 gen:sc.isGenerator=false
 nd:N.Nodup
 pre:N.take P.length=P
 par:∀ x∈P,sc.names.lookup x=some .local∨sc.names.lookup x=some .cell
 FH:∀ y∈sc.names,y.2≠.free
theorem qq {kindOf:Str->k_ Xu}{x:Str}:∀ {binds:List (Str×Value)}{m:Str->k_ Value},(∀ v,(x,v)∉binds)->bindL kindOf binds m x=m x
 | [],_,_=>rfl
 | (n,v)::r,m,h=>by
  unfold bindL;rw[qq fun w hw=>h w (I_ _ hw)];split
  ·have:x≠n:=by rintro rfl;exact h v V_
   simp [this]
  ·rfl
theorem qr {kindOf:Str->k_ Xu}{x:Str}:∀ {binds:List (Str×Value)}{m:Str->k_ Value},(∀ v,(x,v)∉binds)->bindC kindOf binds m x=m x
 | [],_,_=>rfl
 | (n,v)::r,m,h=>by
  unfold bindC;rw[qr fun w hw=>h w (I_ _ hw)];split
  ·rfl
  ·have:x≠n:=by rintro rfl;exact h v V_
   simp [this]
theorem qt {kindOf:Str->k_ Xu}{x:Str}{v:Value}:∀ {P:List Str}{vs:List Value}{i:Nat}{m:Str->k_ Value},P.Nodup->P[i]? = some x->vs[i]? = some v->kindOf x=some .local ->
  bindL kindOf (P.zip vs) m x=some v
 | [],_,_,_,_,h,_,_=>by simp at h
 | _::_,[],_,_,_,_,h,_=>by simp at h
 | p::P,w::vs,0,m,nd,h1,h2,hk=>by
  simp at h1 h2;subst h1;subst h2;show bindL kindOf ((p,w)::P.zip vs) m p=_;unfold bindL;rw[qq fun v hv=>(X7.mp nd).1 (aaw hv).1,w_ hk];simp
 | p::P,w::vs,i+1,m,nd,h1,h2,hk=>by
  show bindL kindOf ((p,w)::P.zip vs) m x=_;unfold bindL;exact qt (i:=i) (X7.mp nd).2 (by simpa using h1) (by simpa using h2) hk
theorem qu {kindOf:Str->k_ Xu}{x:Str}{v:Value}:∀ {P:List Str}{vs:List Value}{i:Nat}{m:Str->k_ Value},P.Nodup->P[i]? = some x->vs[i]? = some v->kindOf x≠some .local ->
  bindC kindOf (P.zip vs) m x=some v
 | [],_,_,_,_,h,_,_=>by simp at h
 | _::_,[],_,_,_,_,h,_=>by simp at h
 | p::P,w::vs,0,m,nd,h1,h2,hk=>by
  simp at h1 h2;subst h1;subst h2;show bindC kindOf ((p,w)::P.zip vs) m p=_;unfold bindC;rw[qr fun v hv=>(X7.mp nd).1 (aaw hv).1,n_ hk];simp
 | p::P,w::vs,i+1,m,nd,h1,h2,hk=>by
  show bindC kindOf ((p,w)::P.zip vs) m x=_;unfold bindC;exact qu (i:=i) (X7.mp nd).2 (by simpa using h1) (by simpa using h2) hk
noncomputable def start (N:List Str) (vs:List V):St:=vs.map some++acu (N.length-vs.length) none
noncomputable def vk (CX:vj) (P:L_) (w:World) (K:e_) (mg:Str->k_ Value) (base:Heap) (N:List Str) (qual:Str) (scope:Scope) (f:Addr) (cd:Value) (A:Wt) (outer:List Env) (s:h_) (H:Hp) (E:XK):Cx where
 prog:=P
 w:=w
 K:=K
 mg:=mg
 base:=base
 A:=A.deeper (aaQ qual scope s.heap.objs.size f cd)
 N:=N
 s₀:=s
 H₀:=H
 env:=aaQ qual scope s.heap.objs.size f cd
 outer:=outer
 stack:=aaQ qual scope s.heap.objs.size f cd::outer
 ex:=[]
 calm:=true
 fn:=fun _=>true
 pn:=[]
 xe:=fun e s'=>wpAny (model P w) (A.deeper (aaQ qual scope s.heap.objs.size f cd)) (leaving (aaQ qual scope s.heap.objs.size f cd) e) (fun _ rz=>CX outer H s E e rz) (fun e' rz=>CX outer H s E e' rz) s'
theorem tj {sc:Scope}{n:Nat}{x:Str} (h:sc.names.lookup x=some .cell):∃ c,(Yl n sc.names []).lookup x=some c:=by
 have q:=aaj sc.names n [] (.inl h);exact ZY.mp q
theorem xW {CX:vj}{P:L_}{w:World}{K:e_}{mg:Str->k_ Value}{base:Heap}{N ps:List Str}{qual:Str}{scope:Scope}{f:Addr}{cd:Value}{A:Wt}{outer:List Env}{s s1:h_}{H:Hp}{E:XK}{us:List Value}{vs:List V}
  (S:mS N ps scope) (hd:A.handled=none) (e0:s9 P w K mg base A outer s H) (hl:vs.length=ps.length) (r:Vals vs us)
  (x:InCallC s s.heap.objs.size (bindL (aaQ qual scope s.heap.objs.size f cd).kindOf (ps.zip us) fun _=>none) (Yl (s.heap.objs.size+1) scope.names []) (bindC (aaQ qual scope s.heap.objs.size f cd).kindOf (ps.zip us) fun _=>none) s1) :
  Inv (vk CX P w K mg base N qual scope f cd A outer s H E) [] (start N vs) H s1:=by
 have BB:ps.length<=N.length:=by have:=congrArg aaR S.pre;rw[V6] at this;omega
 obtain⟨h1,tk,rfl,hk⟩:=x.done;have Ky:∀ b:Addr,b∉(vk CX P w K mg base N qual scope f cd A outer s H E).ex:=fun b z=>absurd (show b∈([]:List Addr) from z) (by simp)
 refine⟨⟨e0.mod,S.kind,rfl,rfl,x_ _,fun y z c h1 h2=>?_,fun y hy=>?_,fun y c _ h=>?_,fun _=>hd,Around.frames_deeper e0.frames,.inr ⟨rfl,rfl⟩,fun b z=>absurd z (Ky b),e0.bs,e0.yW,fun b _ _=>Ky b,fun b z=>absurd z (Ky b),e0.i6,e0.EZ⟩,
  rfl,e0.bare,Un.kept hk,⟨_,x.toInCall.ns,fun i y v h1 h2 h3=>?_⟩,fun y c h=>⟨_,x.cell y c h⟩,e0.bf.fresh (x_ _),fun y c h=>?_,fun p hp=>absurd (show p∈([]:List (Addr×Obj)) from hp) (by simp),e0.bf.kept hk,?_⟩
 ·exact name_of_addr x.apart (XN h1) (XN h2)
 ·have hy:scope.names.lookup y=some .cell∨scope.names.lookup y=some .free:=hy;rcases hy with hy | hy
  ·exact tj hy
  ·exact absurd rfl (S.FH _ (XN hy))
 ·exact Xk (x.above y c (XN h))
 ·have hi:i<vs.length:=by
   unfold start at h2;by_cases hi:i<vs.length
   ·exact hi
   ·rw[Wb (by simpa using hi)] at h2;rw[Z7] at h2;split at h2<;>cases h2
  have ha:vs[i]? = some v:=by
   unfold start at h2;rw[Wm (by simpa using hi),g_] at h2
   cases e:vs[i]? with
   | none=>rw[e] at h2;cases h2
   | some a=>rw[e] at h2;cases h2;rfl
  obtain⟨u,hu,rv⟩:=r.get ha
  have hp:ps[i]? = some y:=by
   rw[←S.pre,List.getElem?_take_of_lt (by omega)];exact h1
  have RY:ps.Nodup:=by rw[←S.pre];exact S.nd.sublist (ZS _ _)
  refine⟨u,rv,?_⟩;rcases S.par y (A_ hp) with k | k
  ·exact .inl ⟨k,qt RY hp hu k⟩
  ·obtain⟨c,e⟩:=tj (n:=s.heap.objs.size+1) k;refine .inr ⟨.inl k,c,e,?_⟩;have q:=x.cell y c e;rw[qu RY hp hu (by show scope.names.lookup y≠_;rw[k];decide)] at q;exact q
 ·exact e0.bf.fresh (Xk (x.above y c (XN h)))
 ·unfold start;show _=N.length;rw[G_,a_,Y4];omega
theorem Kz {CX:vj}{P:L_}{w:World}{K:e_}{mg:Str->k_ Value}{base:Heap}{k:Nat}{f:Addr}{name qual:Str}{params:abZ}{body:List Stmt}{scope:Scope}{dV kV doc pm jo ct oc:Value}{an od:k_ Addr}
  {zp:Array (k_ Value)}{N ps:List Str}{sp:Sp} (lk:K.lookup f=some ⟨oc,od,.func (Xn name qual params body scope dV kV doc pm an jo ct),zp⟩) (kT:Yg K jo qual=true) (S:mS N ps scope)
  (len:∀ vs H Q E,sp vs H Q E->vs.length=ps.length)
  (zq:∀ (A:Wt) (outer:List Env) (s:h_) (H:Hp) (vs:List V) (Q:VK) (E:XK),cj k (A.deeper (aaQ qual scope s.heap.objs.size f jo))->sp vs H Q E ->
   ∃ t,lL (vk CX P w K mg base N qual scope f jo A outer s H E) body t/\t { nx:=fun _ H'=>Q .aK H',rt:=Q } (start N vs) H) :
  b8 P w K mg base CX (k+1) f (Xn name qual params body scope dV kV doc pm an jo ct) ps sp:=by
 refine⟨len,fun A outer s H args us vs Q E hr e0 hb r BD=>?_⟩;have hl:=len _ _ _ _ BD;have KX:K.In s.heap:=e0.mod.EY.keeps fun b o e=>(e0.bs b o e).1
 have lim:s.heap.NoLimit:=e0.mod.nolimit.keeps fun b o e=>(e0.bs b o e).1
 have KA:∀ y∈ps.zip us,scope.names.lookup y.1=some .local∨(scope.names.lookup y.1=some .cell/\((Yl (s.heap.objs.size+1) scope.names []).lookup y.1).isSome=true):=fun⟨n,v⟩ hy=>by
  rcases S.par n (aaw hy).1 with q | q
  ·exact .inl q
  ·exact .inr ⟨q,aaj _ _ _ (.inl q)⟩
 refine codeAny_call_function hr.depth (KX _ _ lk) rfl S.co S.gen rfl (PySem.W.codeRec_of KX kT) (hb _ _ _ _ ?_);refine wpAny_newFunctionEnv_cells S.kind KA fun env he s1 x=>?_
 subst he;refine⟨lim.keeps x.toInCall.keep,codeAny_func ?_⟩;obtain⟨t,ht,hq⟩:=zq A outer s H vs Q E (hr.deeper _) BD;have I:Inv (vk CX P w K mg base N qual scope f jo A outer s H E) [] (start N vs) H s1:=xW S hr.hd e0 hl r x;refine Xg (ht [] s1 (start N vs) H _ I hq) (fun fl s' hs=>?_) fun e s' hs=>hs
 have fin:∀ {σ':St}{H':Hp}{v:V}{u:Value},Inv (vk CX P w K mg base N qual scope f jo A outer s H E) [] σ' H' s'->RelV v u->Q v H'->CE outer P w H s Q u s' :=
  fun {σ' H' v u} J rv q=>⟨v,H',J.os,J.bare,J.base,J.bf,rv,q⟩
 cases fl with
 | ret u =>
  obtain⟨v,σ',H',J,rv,q⟩:=hs;exact fin J rv q
 | next =>
  obtain⟨σ',H',J,q⟩:=hs;exact fin (v:=V.aK) (u:=XW) J rfl q
 | brk =>
  obtain⟨_,_,_,q⟩:=hs;exact Wi q
 | cont =>
  obtain⟨_,_,_,q⟩:=hs;exact Wi q
end L2
namespace L2
open PySem PySem.Spec PyProof.Rows
section
variable {X:Cx}{x:Str}{p pos:Pos}{e:Expr}{es:List Expr}{t:TA}{id T:YA}{r:List V->Hp->VK->Prop}
def RZ (r:List V->Hp->VK->Prop) (t:TA):TE:=fun σ H Q=>t σ H fun vs H1=>r vs H1 Q
theorem nr (hc:bv X (.builtin id) r) (hg:Gl X x) (hm:X.mg x=none) (hv:WQ x=some (.builtin id)) (ha:PA X (e::es) t) (hn:x ≠ "__name__" := by decide) (lP:(x==("__debug__" : Str))=false:=by decide)
  (he:N_ (e::es) X.env=(false,eval e X.env)::N_ es X.env:=by rfl) (BB:(Xm pos (N_ es X.env)).any (·.1)=false:=by rfl):PE X (.Call (.Name x p) (e::es) [] pos) (RZ r t):=by
 intro pins s σ H Q I h;refine X0 (hV I hg hm hv ?_ hn lP);exact PyProof.Rows.callWith_builtin1 (a9 (ha pos pins s σ H _ I h) fun us s1 ⟨vs,H1,I1,r1,q1⟩=>hc pins s1 σ H1 vs us Q I1 r1 q1) he BB
theorem cW (hc:bv X (.type T) r) (hg:Gl X x) (hm:X.mg x=none) (hv:WQ x=some (.type T)) (ha:PA X (e::es) t) (hn:x ≠ "__name__" := by decide) (lP:(x==("__debug__" : Str))=false:=by decide)
  (he:N_ (e::es) X.env=(false,eval e X.env)::N_ es X.env:=by rfl) (BB:(Xm pos (N_ es X.env)).any (·.1)=false:=by rfl):PE X (.Call (.Name x p) (e::es) [] pos) (RZ r t):=by
 intro pins s σ H Q I h;refine X0 (hV I hg hm hv ?_ hn lP);exact WH (a9 (ha pos pins s σ H _ I h) fun us s1 ⟨vs,H1,I1,r1,q1⟩=>hc pins s1 σ H1 vs us Q I1 r1 q1) he BB
end
end L2
namespace HT
open PySem PyProof.Rows
section
variable {prog:L_}{w:World}{A:Wt}{E:Value->h_->Prop}{s:h_}
noncomputable def bR (n d:Nat):k_ Int->Nat
 | none=>d
 | some v=>if v<0 then (v+(n:Int)).toNat else min v.toNat n
theorem tm (n d:Nat):bR n d none=d:=rfl
theorem mT (n d k:Nat):bR n d (some (k:Int))=min k n:=by
 show (if (k:Int)<0 then ((k:Int)+(n:Int)).toNat else min (k:Int).toNat n)=min k n;rw[n_ (by omega),l_]
theorem FI (n d:Nat) (hd:d<=n) (o:k_ Int):bR n d o<=n:=by
 cases o with
 | none=>exact hd
 | some v =>
  show (if v<0 then (v+(n:Int)).toNat else min v.toNat n)<=n;by_cases hv:v<0
  ·rw[w_ hv];omega
  ·rw[n_ hv];exact Nat.min_le_right _ _
theorem wC (v:Int) (n d:Nat):(if v<0 then max (v+(n:Int)) 0 else min v (n:Int))=((bR n d (some v):Nat):Int):=by
 show (if v<0 then max (v+(n:Int)) 0 else min v (n:Int))=(((if v<0 then (v+(n:Int)).toNat else min v.toNat n):Nat):Int);by_cases hv:v<0
 ·simp only[w_ hv];omega
 ·simp only[n_ hv];omega
theorem vm (lo hi:k_ Int) (n:Nat):Yq lo hi 1 (n:Int)=(((bR n 0 lo:Nat):Int),((bR n n hi:Nat):Int)):=by
 have h1:¬ ((1:Int)<0):=by omega
 unfold Yq;simp only[h1,if_false];refine Prod.ext ?_ ?_
 ·cases lo with
  | none=>rfl
  | some v=>exact wC v n 0
 ·cases hi with
  | none=>rfl
  | some v=>exact wC v n n
theorem vn (i j:Nat):Xz (i:Int) (j:Int) 1=j-i:=by
 unfold Xz;have h1:(1:Int)>0:=by omega
 simp only[h1,Yx,Int.ediv_one];split<;>omega
theorem nu {v:Value}{o:k_ Int}{Q:k_ Int->h_->Prop} (p:aak v o) (h:Q o s):wpAny (model prog w) A (Builtin.Slice.slicePartIndex v) Q E s:=by
 cases p with
 | none=>exact slicePart_none h
 | int i t=>exact slicePart_int h
theorem fH {sl:Addr}{vl vu:Value}{lo hi:k_ Int}{n:Nat}{Q:Int×Int×Nat->h_->Prop} (hs:s.heap.IsSliceOf sl vl vu .none) (pl:aak vl lo) (pu:aak vu hi)
  (h:Q (((bR n 0 lo:Nat):Int),1,bR n n hi-bR n 0 lo) s):wpAny (model prog w) A (ZF (.ref sl) (pure (n:Int))) Q E s:=by
 obtain⟨os,FJ,On,Cb⟩:=id hs;unfold ZF Builtin.Slice.sliceFields;refine b_ (b_ (Wy FJ Cb (x:=vl) rfl (b_ (Wy FJ Cb (x:=vu) rfl (b_ (Wy FJ Cb (x:=.none) rfl (o_ ?_)))))));refine b_ (slicePart_none ?_);show wpAny _ _ (if ((1:Int)==0)=true then _ else _) _ _ s;rw[n_ (by decide)];refine b_ (nu pl (b_ (nu pu (b_ (o_ ?_)))));show wpAny _ _ (match Yq lo hi 1 (n:Int) with | (lo,hi)=>pure (lo,(1:Int),Xz lo hi 1)) _ _ s;rw[vm lo hi n];show wpAny _ _ (pure (((bR n 0 lo:Nat):Int),(1:Int),Xz ((bR n 0 lo:Nat):Int) ((bR n n hi:Nat):Int) 1)) _ _ s;rw[vn];exact o_ h
theorem zr (xs:Array Value) (i k:Nat):((Wg k).filterMap fun (m:Nat)=>xs[((i:Int)+(m:Int)*1).toNat]?).toArray=((xs.toList.drop i).take k).toArray:=by
 have e:(fun (m:Nat)=>xs[((i:Int)+(m:Int)*1).toNat]?)=fun m=>xs[i+m]? := by
  funext m
  have:((i:Int)+(m:Int)*1).toNat=i+m:=by omega
  rw[this]
 rw[e];have:=pick_run xs i k;rw[List.filterMap_map] at this;have e2:((fun x=>xs[x]?) ∘ fun x=>i+x)=fun m=>xs[i+m]? := rfl
 rw[e2] at this;rw[this]
theorem jV {t sl:Addr}{items:Array Value}{vl vu:Value}{lo hi:k_ Int}{Q:Value->h_->Prop} (ht:IsTup s.heap t items) (hs:s.heap.IsSliceOf sl vl vu .none) (pl:aak vl lo) (pu:aak vu hi)
  (hw:¬ (bR items.size 0 lo=0/\bR items.size items.size hi=items.size))
  (h:Q (.ref s.heap.objs.size) { s with heap:=s.heap.push { cls:=.type "tuple",data:=.seq ((items.toList.drop (bR items.size 0 lo)).take (bR items.size items.size hi-bR items.size 0 lo)).toArray } })
  (hsz:items.size<=sizeLine):wpAny (model prog w) A (ZT (.ref t) (.ref sl)) Q E s:=by
 have wD:sizeOk (.seq ((items.toList.drop (bR items.size 0 lo)).take (bR items.size items.size hi-bR items.size 0 lo)).toArray):=by
  show ((items.toList.drop (bR items.size 0 lo)).take (bR items.size items.size hi-bR items.size 0 lo)).toArray.size<=sizeLine;rw[C_,V6,Xq,Zp];omega
 have hj:bR items.size items.size hi<=items.size:=FI _ _ (x_ _) hi;obtain⟨os,FJ,On,Cb⟩:=id hs;have Pt:s.TypeIs (.ref sl) "slice" := ⟨os,FJ,On⟩;unfold ZT
 try with_reducible refine Zb ?_
 first | refine b_ (o_ ?_) | skip
 refine b_ (wpAny_sequenceKey ht.typeIs (by decide) ?_)
 refine b_ (WU (name:=WR "__getitem__") ht.typeIs Wk
  (W9 Wk ht.typeIs aa4 ?_ (args_tuple_getitem _ _)))
 show wpAny _ _ (ZG (.ref t) >>= _) _ _ s;refine b_ (tupleItemsOf_ ht ?_);refine b_ (Zw Pt ?_);rw[w_ (by decide)];refine b_ (fH hs pl pu ?_)
 have gU:¬ ((((bR items.size 0 lo:Nat):Int)==0&&(1:Int)==1&&(bR items.size items.size hi-bR items.size 0 lo)==items.size)=true):=by
  intro q;rw[t_,t_] at q;have q1:((bR items.size 0 lo:Nat):Int)=0:=eq_of_beq q.1.1;have q2:bR items.size items.size hi-bR items.size 0 lo=items.size:=eq_of_beq q.2;exact hw ⟨by omega,by omega⟩
 show wpAny _ _ (if (((bR items.size 0 lo:Nat):Int)==0&&(1:Int)==1&&(bR items.size items.size hi-bR items.size 0 lo)==items.size)=true then _ else _) _ _ s;rw[n_ gU,zr]
 first
  | exact b_ (m:=XJ _) (WO (o_ ⟨_,rfl,o_ h⟩) wD)
  | exact b_ (m:=XJ _) (WO (b_ (o_ (o_ ⟨_,rfl,o_ h⟩))) wD)
  | exact b_ (b_ (m:=XJ _) (WO (o_ (o_ ⟨_,rfl,o_ h⟩)) wD))
  | exact b_ (b_ (m:=XJ _) (WO (o_ ⟨_,rfl,o_ h⟩) wD))
end
end HT
namespace L2
open PySem PySem.Spec PyProof.Rows
noncomputable abbrev TO:=St->Hp->(k_ Int->Hp->Prop)->Prop
def PO (X:Cx) (e:k_ Expr) (t:TO):Prop :=
 ∀ (pins:List (Addr×Obj)) (s:h_) (σ:St) (H:Hp) (Q:k_ Int->Hp->Prop),Inv X pins σ H s->t σ H Q ->
  wpAny (model X.prog X.w) X.A (evalPart e X.env) (fun u s'=>∃ o H',Inv X pins σ H' s'/\aak u o/\Q o H') X.xe s
def Cc:TO:=fun _ H Q=>Q none H
def KB (t:TE):TO:=fun σ H Q=>t σ H fun x H1=>∃ i,x=.int i/\Q (some i) H1
section
variable {X:Cx}{e:Expr}{te:TE}{lo hi:k_ Expr}{tl th:TO}{pos p2:Pos}
theorem Cd:PO X none Cc:=by
 intro pins s σ H Q I h;rw[evalPart_none];exact o_ ⟨none,H,I,.none,h⟩
theorem Ce (h:PE X e te):PO X (some e) (KB te):=by
 intro pins s σ H Q I hw;rw[evalPart_some];refine a9 (h pins s σ H _ I hw) fun u s1 ⟨x,H1,I1,r1,q1⟩=>?_
 obtain⟨i,rfl,q⟩:=q1;obtain⟨t,rfl⟩:=r1;exact⟨some i,H1,I1,.int i t,q⟩
def KC (X:Cx) (r:V->k_ Int->k_ Int->Hp->VK->Prop):Prop :=
 ∀ (pins:List (Addr×Obj)) (s:h_) (σ:St) (H:Hp) (x:V) (v vl vu:Value) (lo hi:k_ Int) (sl:Addr) (Q:VK),Inv X pins σ H s->RelV x v->s.heap.IsSliceOf sl vl vu .none->aak vl lo->aak vu hi->r x lo hi H Q ->
  ∃ T id,typeLookup (.type T) "__getitem__" = pure (some (.builtin id))/\s.TypeIs v T/\wpAny (model X.prog X.w) X.A (ZT v (.ref sl)) (EP X pins σ Q) X.xe s
def R0 (r:V->k_ Int->k_ Int->Hp->VK->Prop) (te:TE) (tl th:TO):TE:=fun σ H Q=>te σ H fun x H1=>tl σ H1 fun l H2=>th σ H2 fun u H3=>r x l u H3 Q
theorem nv {r:V->k_ Int->k_ Int->Hp->VK->Prop} (hr:KC X r) (he:PE X e te) (hl:PO X lo tl) (hu:PO X hi th):PE X (.Subscript e (.Slice lo hi none p2) pos) (R0 r te tl th):=by
 intro pins s σ H Q I h;refine Subscript_ (a9 (he pins s σ H _ I h) fun v s1 ⟨x,H1,I1,r1,q1⟩=>?_);refine wpAny_Slice (a9 (hl pins s1 σ H1 _ I1 q1) fun vl s2 ⟨l,H2,I2,pl,q2⟩=>a9 (hu pins s2 σ H2 _ I2 q2) fun vu s3 ⟨u,H3,I3,pu,q3⟩=>?_);rw[evalPart_none];refine o_ ?_;have I4:Inv X pins σ H3 { s3 with heap:=s3.heap.push { cls:=.type "slice",data:=.fields #[vl,vu,.none] } }:=I3.kept (t':=s3.toks) fun b ob q=>i_ _ q
 obtain⟨T,id,hT,ht,hg⟩:=hr pins { s3 with heap:=s3.heap.push { cls:=.type "slice",data:=.fields #[vl,vu,.none] } } σ H3 x v vl vu l u s3.heap.objs.size Q I4 r1 (Heap.IsSliceOf.new ..) pl pu q3;show wpAny (model X.prog X.w) X.A (aa_ e (.Slice lo hi none p2) v (.ref s3.heap.objs.size)) (EP X pins σ Q) X.xe { s3 with heap:=s3.heap.push { cls:=.type "slice",data:=.fields #[vl,vu,.none] } };exact tail_any (ops:=[.ref s3.heap.objs.size,v]) ht hT hg (by with_unfolding_all rfl)
noncomputable def mv (xs:List V) (lo hi:k_ Int):List V:=(xs.drop (HT.bR xs.length 0 lo)).take (HT.bR xs.length xs.length hi-HT.bR xs.length 0 lo)
theorem lQ (xs:List V) (lo hi:k_ Int):(mv xs lo hi).length<=xs.length:=by
 unfold mv;rw[V6,Xq];omega
def Pu (K:e_):V->k_ Int->k_ Int->Hp->VK->Prop:=fun x lo hi H Q=>∃ a xs,x=.ref a/\eG K H a xs /\
 ¬ (HT.bR xs.length 0 lo=0/\HT.bR xs.length xs.length hi=xs.length)/\∀ p,H p=none->Q (.ref p) (upd H p (.tup (mv xs lo hi)))
theorem FK:KC X (Pu X.K):=by
 intro pins s σ H x v vl vu lo hi sl Q I rx hs pl pu h;obtain⟨a,xs,rfl,hx,hw,q⟩:=h
 cases rx
 obtain⟨ao,r,ht,hz⟩:=I.tuple hx;have hlen:ao.toArray.size=xs.length:=by rw[C_];exact r.length.symm
 refine⟨"tuple",_,Wk.lookup,ht.typeIs,?_⟩;refine HT.jV ht hs pl pu (by rw[hlen];exact hw) ?_ (by rw[hlen];exact hz);rw[hlen];refine⟨.ref s.heap.objs.size,_,I.laid (t':=s.toks) (o:=.tup (mv xs lo hi)) (fun b ob q=>i_ _ q) (x_ _) ?_,rfl,q _ (I.bf.fresh (x_ _))⟩;exact⟨P_ (lQ xs lo hi) hz,_,(r.drop (HT.bR xs.length 0 lo)).take (HT.bR xs.length xs.length hi-HT.bR xs.length 0 lo),acJ _ _⟩
end
end L2
namespace L2
open PySem PySem.Spec PyProof.Rows
noncomputable def Cf (n:Nat) (i:Int):k_ Nat:=if 0<=i then (if i<n then some i.toNat else none) else if -(n:Int)<=i then some (i+n).toNat else none
noncomputable def pi {α:Type} (xs:List α) (i:Int):k_ α:=(Cf xs.length i).bind fun j=>xs[j]?
theorem Cg {n:Nat}{i:Int}{j:Nat} (h:Cf n i=some j):seqIndex? i n=some j/\j<n /\ -(n:Int)<=i/\i<n:=by
 unfold Cf at h;by_cases h0:0<=i
 ·rw[w_ h0] at h;by_cases h1:i<n
  ·rw[w_ h1] at h;have e:i.toNat=j:=F_ h;exact⟨by rw[seqIndex_of h0 h1,e],by omega,by omega,h1⟩
  ·rw[n_ h1] at h;cases h
 ·rw[n_ h0] at h;by_cases h1 : -(n:Int)<=i
  ·rw[w_ h1] at h;have e:(i+n).toNat=j:=F_ h;exact⟨by rw[seqIndex_neg (by omega) h1,e],by omega,h1,by omega⟩
  ·rw[n_ h1] at h;cases h
theorem rA {α:Type}{xs:List α}{i:Int}{v:α} (h:pi xs i=some v):∃ j,seqIndex? i xs.length=some j/\xs[j]? = some v/\j<xs.length /\ -(xs.length:Int)<=i/\i<xs.length:=by
 unfold pi at h
 cases e:Cf xs.length i with
 | none=>rw[e] at h;cases h
 | some j =>
  rw[e] at h;obtain⟨h1,h2,h3,h4⟩:=Cg e;exact⟨j,h1,h,h2,h3,h4⟩
theorem bg {α:Type}{xs:List α}{j:Nat}{v:α} (h:xs[j]? = some v):pi xs (j:Int)=some v:=by
 have hj:j<xs.length:=(j_.mp h).1
 have e:Cf xs.length (j:Int)=some j:=by
  unfold Cf;rw[w_ (by omega),w_ (by omega)];simp
 unfold pi;rw[e];exact h
theorem jW {α:Type} (xs:List α) (v:α):pi (xs++[v]) (-1)=some v:=by
 have hl:(xs++[v]).length=xs.length+1:=by simp
 have e:Cf (xs++[v]).length (-1)=some xs.length:=by
  unfold Cf;rw[hl,n_ (by decide),w_ (by omega)];congr 1;omega
 unfold pi;rw[e];show (xs++[v])[xs.length]? = some v;simp
def wE (b:Expr):Prop:=∀ o i,aaS b false o i=operate [o,i] (ZT o i)
def Ci (X:Cx) (r:R2):Prop :=
 ∀ (value slice:Expr) (pins:List (Addr×Obj)) (s:h_) (σ:St) (H:Hp) (x y:V) (v u:Value) (Q:VK),Inv X pins σ H s->RelV x v->RelV y u->r x y H Q ->
  aaS slice false v u=operate [v,u] (ZT v u)->wpAny (model X.prog X.w) X.A (aa_ value slice v u) (EP X pins σ Q) X.xe s
def Tp (X:Cx) (id:YA) (r:V->List V->Hp->VK->Prop):Prop :=
 ∀ (pins:List (Addr×Obj)) (s:h_) (σ:St) (H:Hp) (x:V) (xs:List V) (v:Value) (us:List Value) (Q:VK),Inv X pins σ H s->RelV x v->Vals xs us->r x xs H Q ->
  wpAny (model X.prog X.w) X.A (call (.builtin id) (v::us)) (EP X pins σ Q) X.xe s
section
variable {X:Cx}{a b:Expr}{ta tb:TE}{pos:Pos}
theorem Ci.or {r r':R2} (h:Ci X r) (h':Ci X r'):Ci X (fun x y H Q=>r x y H Q∨r' x y H Q):=by
 intro value slice pins s σ H x y v u Q I rx ry q hs;rcases q with q | q
 ·exact h value slice pins s σ H x y v u Q I rx ry q hs
 ·exact h' value slice pins s σ H x y v u Q I rx ry q hs
theorem KD {r:R2} (hr:Ci X r) (ha:PE X a ta) (hb:PE X b tb) (hs:wE b):PE X (.Subscript a b pos) (ze r ta tb):=by
 intro pins s σ H Q I h;exact Subscript_ (Fo ha hb I h fun v u s2 x y H2 I2 rx ry q=>hr a b pins s2 σ H2 x y v u Q I2 rx ry q (hs _ _))
def KF (K:e_):R2:=fun x y H Q=>∃ p xs i v,x=.ref p/\y=.int i/\du K H p xs/\pi xs i=some v/\Q v H
def KG (K:e_):R2:=fun x y H Q=>∃ p xs i v,x=.ref p/\y=.int i/\eG K H p xs/\pi xs i=some v/\Q v H
def KH:R2:=fun x y H Q=>∃ z i c,x=.str z/\y=.int i/\z.length<=sizeLine/\pi z.cps.toList i=some c/\Q (.str ⟨#[c]⟩) H
theorem Cj:Ci X (KF X.K):=by
 intro value slice pins s σ H x y v u Q I rx ry h hs;obtain⟨p,xs,i,z,rfl,rfl,hq,he,q⟩:=h
 cases rx
 obtain⟨t,rfl⟩:=ry;obtain⟨ao,r,pl,hz⟩:=I.list hq;obtain⟨j,h1,h2,h3,h4,h5⟩:=rA he;obtain⟨w,ew,Pv⟩:=r.get h2;have hl:=r.length;have hn:=kU;have fin:EP X pins σ Q w s:=⟨z,H,I,Pv,q⟩;by_cases h0:0<=i
 ·have hj:i.toNat=j:=by
   rw[seqIndex_of h0 h5] at h1;exact F_ h1
  exact item_listR pl.isList h0 (by omega) (by rw[hj];simpa using ew) fin hs
 ·have hj:(i+(ao.toArray.size:Int)).toNat=j:=by
   rw[seqIndex_neg (by omega) h4] at h1;rw[C_,←hl];exact F_ h1
  exact aal (x:=w) pl.isList.typeIs slot_list_getitem.lookup
   (wpAny_getItem_list_neg (Q:=fun r s'=>r=w/\EP X pins σ Q r s') pl.isList (by omega) (by rw[C_]<;>omega) (by omega) (by rw[hj];simpa using ew) ⟨rfl,fin⟩) hs
theorem zu:Ci X (KG X.K):=by
 intro value slice pins s σ H x y v u Q I rx ry h hs;obtain⟨p,xs,i,z,rfl,rfl,hq,he,q⟩:=h
 cases rx
 obtain⟨t,rfl⟩:=ry;obtain⟨ao,r,pl,hz⟩:=I.tuple hq;obtain⟨j,h1,h2,h3,h4,h5⟩:=rA he;obtain⟨w,ew,Pv⟩:=r.get h2;have hl:=r.length;have hn:=kU;have fin:EP X pins σ Q w s:=⟨z,H,I,Pv,q⟩
 exact aal (x:=w) pl.typeIs Wk.lookup
  (getItem_tuple (j:=j) (Q:=fun r s'=>r=w/\EP X pins σ Q r s') pl (by omega) (by omega) (by rw[C_,←hl];exact h1) (by simpa using ew) ⟨rfl,fin⟩) hs
theorem FL:Ci X KH:=by
 intro value slice pins s σ H x y v u Q I rx ry h hs;obtain⟨z,i,c,rfl,rfl,hz,he,q⟩:=h;obtain⟨t,rfl⟩:=rx;obtain⟨t',rfl⟩:=ry;obtain⟨j,h1,h2,h3,h4,h5⟩:=rA he;have hl:z.cps.toList.length=z.length:=by simp [abj]
 rw[hl] at h1 h4 h5;have hn:=kU
 exact tail_any (typeIs_str s z t) slot_str_getitem.lookup (getItem_str (c:=c) (by
  have e1:decide (i < -(2 ^ 63:Int))=false:=f_ (by omega);have e2:decide (i>=2 ^ 63)=false:=f_ (by omega);rw[e1,e2,Bool.or_false]) (by rw[h1];simpa using h2) ⟨.str ⟨#[c]⟩,H,I.tok _,⟨_,rfl⟩,q⟩) hs
def Pw (K:e_):R2:=fun x y H Q=>KF K x y H Q∨KG K x y H Q∨KH x y H Q
theorem FM:Ci X (Pw X.K):=Cj.or (zu.or FL)
theorem rB (lo hi:k_ Int) (n:Nat):(YJ lo hi none n).1=((HT.bR n 0 lo:Nat):Int)/\(YJ lo hi none n).2.1=((HT.bR n n hi:Nat):Int)/\(YJ lo hi none n).2.2=1:=by
 refine⟨?_,?_,rfl⟩
 ·cases lo with
  | none=>simp [YJ,HT.bR]
  | some i =>
   simp only[YJ,HT.bR,Z8,show (1:Int)>0 by decide,Yx];by_cases h:i<0
   ·simp only[h,Yx]<;>omega
   ·simp only[h,if_false]<;>omega
 ·cases hi with
  | none=>simp [YJ,HT.bR]
  | some i =>
   simp only[YJ,HT.bR,Z8,show (1:Int)>0 by decide,Yx];by_cases h:i<0
   ·simp only[h,Yx]<;>omega
   ·simp only[h,if_false]<;>omega
theorem pk (ao:List Value) (lo hi:k_ Int):slicePick ao.toArray lo hi none=((ao.drop (HT.bR ao.length 0 lo)).take (HT.bR ao.length ao.length hi-HT.bR ao.length 0 lo)).toArray:=by
 obtain⟨h1,h2,h3⟩:=rB lo hi ao.toArray.size;unfold slicePick;rw[h1,h2,h3];simp only[sliceRange_one,pick_run,C_]<;>rfl
def Px (K:e_):V->k_ Int->k_ Int->Hp->VK->Prop:=fun x lo hi H Q=>∃ a xs,x=.ref a/\du K H a xs/\∀ p,H p=none->Q (.ref p) (upd H p (.lst (mv xs lo hi)))
theorem Ck:KC X (Px X.K):=by
 intro pins s σ H x v vl vu lo hi sl Q I rx hs pl pu h;obtain⟨a,xs,rfl,hx,q⟩:=h
 cases rx
 obtain⟨ao,r,ht,hz⟩:=I.list hx;have hlen:=r.length;refine⟨"list",_,slot_list_getitem.lookup,ht.isList.typeIs,?_⟩;refine wpAny_getItem_list_slice ht.isList hs pl pu .none (by simp) ?_ (by rw[C_]<;>omega);rw[pk,←hlen];refine⟨.ref s.heap.objs.size,_,I.laid (t':=s.toks) (o:=.lst (mv xs lo hi)) (fun b ob q=>i_ _ q) (x_ _) ?_,rfl,q _ (I.bf.fresh (x_ _))⟩;exact⟨P_ (lQ xs lo hi) hz,_,0,(r.drop (HT.bR xs.length 0 lo)).take (HT.bR xs.length xs.length hi-HT.bR xs.length 0 lo),v_ _ rfl⟩
noncomputable def eO:V->Bool
 | .aK=>true
 | .bl _=>true
 | .int _=>true
 | .str _=>true
 | _=>false
noncomputable def zw:V->V->Bool
 | .aK,.aK=>true
 | .bl a,.bl b=>a==b
 | .bl a,.int b=>(if a then 1 else 0)==b
 | .int a,.bl b=>a==(if b then 1 else 0)
 | .int a,.int b=>a==b
 | .str a,.str b=>a==b
 | _,_=>false
theorem FN {A:Wt}{s:h_}{y x:V}{u v:Value} (ry:RelV y u) (rx:RelV x v) (fy:eO y=true) (fx:eO x=true):SeqAt.EqAt A s u v (zw y x):=by
 cases y with
 | aK =>
  cases ry
  cases x with
  | aK=>cases rx;exact SeqAt.EqAt.same _
  | bl b=>cases rx;exact SeqAt.EqAt.none_bool b
  | int b=>obtain⟨t,rfl⟩:=rx;exact SeqAt.EqAt.none_int b t
  | str b=>obtain⟨t,rfl⟩:=rx;exact SeqAt.EqAt.none_str b t
  | _=>exact absurd (show false=true from fx) q_
 | bl a =>
  cases ry
  cases x with
  | aK=>cases rx;exact SeqAt.EqAt.bool_none a
  | bl b=>cases rx;exact SeqAt.EqAt.bool_bool a b
  | int b=>obtain⟨t,rfl⟩:=rx;exact SeqAt.EqAt.bool_int a b t
  | str b=>obtain⟨t,rfl⟩:=rx;exact SeqAt.EqAt.bool_str a b t
  | _=>exact absurd (show false=true from fx) q_
 | int a =>
  obtain⟨t',rfl⟩:=ry
  cases x with
  | aK=>cases rx;exact SeqAt.EqAt.int_none a t'
  | bl b=>cases rx;exact SeqAt.EqAt.int_bool a t' b
  | int b=>obtain⟨t,rfl⟩:=rx;exact SeqAt.EqAt.int_int a t' b t
  | str b=>obtain⟨t,rfl⟩:=rx;exact abf a t' b t
  | _=>exact absurd (show false=true from fx) q_
 | str a =>
  obtain⟨t',rfl⟩:=ry
  cases x with
  | aK=>cases rx;exact SeqAt.EqAt.str_none a t'
  | bl b=>cases rx;exact SeqAt.EqAt.str_bool a t' b
  | int b=>obtain⟨t,rfl⟩:=rx;exact abg a t' b t
  | str b=>obtain⟨t,rfl⟩:=rx;exact SeqAt.EqAt.str_str a t' b t
  | _=>exact absurd (show false=true from fx) q_
 | _=>exact absurd (show false=true from fy) q_
noncomputable def tu (x:V) (u:Value):Bool:=match u with
 | .none=>zw .aK x
 | .bool b=>zw (.bl b) x
 | .int i _=>zw (.int i) x
 | .str z _=>zw (.str z) x
 | _=>false
theorem vo {x y:V}{u:Value} (r:RelV y u) (f:eO y=true):tu x u=zw y x:=by
 cases y with
 | aK=>cases r;rfl
 | bl b=>cases r;rfl
 | int i=>obtain⟨t,rfl⟩:=r;rfl
 | str z=>obtain⟨t,rfl⟩:=r;rfl
 | _=>exact absurd (show false=true from f) q_
theorem jX {x:V}:∀ {xs:List V}{us:List Value},Vals xs us->xs.all eO=true->us.any (tu x)=xs.any fun y=>zw y x
 | _,_,.nil,_=>rfl
 | y::xs,u::us,.cons r t,f=>by
  rw[WD,t_] at f;rw[Ya,Ya,vo r f.1,jX t f.2]
theorem fI {A:Wt}{s:h_}{x:V}{v:Value} (rx:RelV x v) (fx:eO x=true):∀ {xs:List V}{us:List Value},Vals xs us->xs.all eO=true->∀ u∈us,SeqAt.EqAt A s u v (tu x u)
 | _,_,.nil,_=>fun u hu=>by cases hu
 | y::xs,u::us,.cons r t,f=>fun u' hu=>by
  rw[WD,t_] at f;rcases u_.mp hu with rfl | hu
  ·rw[vo r f.1];exact FN r rx f.1 fx
  ·exact fI rx fx t f.2 u' hu
noncomputable def Oo (x:V) (xs:List V):Bool:=xs.any fun y=>zw y x
def Op (K:e_) (neg:Bool):R2:=fun x y H Q=>∃ p xs,y=.ref p/\(du K H p xs∨eG K H p xs)/\eO x=true/\xs.all eO=true/\Q (.bl (if neg then !Oo x xs else Oo x xs)) H
theorem xX:fG X (Wo .In) (Op X.K false):=by
 intro pins s σ H x y v u Q I rx ry h;obtain⟨p,xs,rfl,hq,fx,fs,q⟩:=h
 cases ry
 rcases hq with hq | hq
 ·obtain⟨ao,r,pl,hz⟩:=I.list hq;refine acb (tu x) pl.isList (fun w hw=>fI rx fx r fs w (by simpa using hw)) ⟨.bl _,H,I,rfl,?_⟩;rw[show ao.toArray.any (tu x)=ao.any (tu x) by simp,jX r fs];exact q
 ·obtain⟨ao,r,pl,hz⟩:=I.tuple hq;refine SeqAt.in_tupleAt (tu x) pl (fun w hw=>fI rx fx r fs w (by simpa using hw)) ⟨.bl _,H,I,rfl,?_⟩;rw[show ao.toArray.any (tu x)=ao.any (tu x) by simp,jX r fs];exact q
theorem rC:fG X (Wo .NotIn) (Op X.K true):=by
 intro pins s σ H x y v u Q I rx ry h;obtain⟨p,xs,rfl,hq,fx,fs,q⟩:=h
 cases ry
 rcases hq with hq | hq
 ·obtain⟨ao,r,pl,hz⟩:=I.list hq;refine abk (tu x) pl.isList (fun w hw=>fI rx fx r fs w (by simpa using hw)) ⟨.bl _,H,I,rfl,?_⟩;rw[show ao.toArray.any (tu x)=ao.any (tu x) by simp,jX r fs];exact q
 ·obtain⟨ao,r,pl,hz⟩:=I.tuple hq;refine SeqAt.notIn_tupleAt (tu x) pl (fun w hw=>fI rx fx r fs w (by simpa using hw)) ⟨.bl _,H,I,rfl,?_⟩;rw[show ao.toArray.any (tu x)=ao.any (tu x) by simp,jX r fs];exact q
theorem rD:bv X (.builtin "len") (fun xs H Q=>∃ p ys,xs=[.ref p]/\(du X.K H p ys∨eG X.K H p ys)/\Q (.int ys.length) H):=by
 intro pins s σ H xs us Q I r h;obtain⟨p,ys,rfl,hq,q⟩:=h;obtain⟨u,rfl,rx⟩:=vals1 r
 cases rx
 have hn:=kU;rcases hq with hq | hq
 ·obtain⟨ao,r',pl,hz⟩:=I.list hq;have hlen:=r'.length;exact Calls.call_len_list pl.isList (by simp only[C_]<;>omega) ⟨.int ys.length,H,I.tok _,⟨s.toks+1,by rw[C_,hlen]⟩,q⟩
 ·obtain⟨ao,r',pl,hz⟩:=I.tuple hq;have hlen:=r'.length;exact len_tuple pl (by simp only[C_]<;>omega) ⟨.int ys.length,H,I.tok _,⟨s.toks+1,by rw[C_,hlen]⟩,q⟩
theorem rE:bv X (.builtin "len") (fun xs H Q=>∃ z,xs=[.str z]/\z.length<=sizeLine/\Q (.int z.length) H):=by
 intro pins s σ H xs us Q I r h;obtain⟨z,rfl,hz,q⟩:=h;obtain⟨u,rfl,t,rfl⟩:=vals1 r;have hn:=kU;exact len_str (by omega) ⟨.int z.length,H,I.tok _,⟨_,rfl⟩,q⟩
theorem bv.or {f:Value}{r r':List V->Hp->VK->Prop} (h:bv X f r) (h':bv X f r'):bv X f (fun xs H Q=>r xs H Q∨r' xs H Q):=by
 intro pins s σ H xs us Q I rs q;rcases q with q | q
 ·exact h pins s σ H xs us Q I rs q
 ·exact h' pins s σ H xs us Q I rs q
theorem rF:bv X (.type "list") (fun xs H Q=>∃ p ys,xs=[.ref p]/\(du X.K H p ys∨eG X.K H p ys)/\∀ l,H l=none->Q (.ref l) (upd H l (.lst ys))):=by
 intro pins s σ H xs us Q I r h;obtain⟨p,ys,rfl,hq,q⟩:=h;obtain⟨u,rfl,rx⟩:=vals1 r
 cases rx
 have fin:∀ (ao:List Value),Vals ys ao->ys.length<=sizeLine->∀ (h':Heap) (c':Nat),(∀ b o',s.heap.get? b=some o'->h'.get? b=some o') ->
   h'.get? s.heap.objs.size=some { cls:=.type "list",dict:=none,data:=.seq ao.toArray c',slots:=#[] }->EP X pins σ Q (.ref s.heap.objs.size) { s with heap:=h' }:=fun ao r' hz h' c' kp e =>
  ⟨.ref s.heap.objs.size,_,I.laid (t':=s.toks) kp (x_ _) (show aU X.prog X.w _ h' _ (.lst ys) from ⟨hz,ao,c',r',e⟩),rfl,q _ (I.bf.fresh (x_ _))⟩
 rcases hq with hq | hq
 ·obtain⟨ao,r',pl,hz⟩:=I.list hq;have hlen:=r'.length;obtain⟨o,ho,hc,n,hd⟩:=pl.isList;exact call_list_seq p (.inl rfl) ho hc hd (fun h' c' kp e=>fin ao r' hz h' c' kp e) (by simp only[C_]<;>omega)
 ·obtain⟨ao,r',pl,hz⟩:=I.tuple hq;have hlen:=r'.length;obtain⟨o,ho,hc,n,hd⟩:=pl;exact call_list_seq p (.inr rfl) ho hc hd (fun h' c' kp e=>fin ao r' hz h' c' kp e) (by simp only[C_]<;>omega)
theorem pp:bv X (.type "tuple") (fun xs H Q=>∃ p ys,xs=[.ref p]/\((du X.K H p ys/\∀ l,H l=none->Q (.ref l) (upd H l (.tup ys)))∨(eG X.K H p ys/\Q (.ref p) H))):=by
 intro pins s σ H xs us Q I r h;obtain⟨p,ys,rfl,h⟩:=h;obtain⟨u,rfl,rx⟩:=vals1 r
 cases rx
 rcases h with ⟨hq,q⟩ | ⟨hq,q⟩
 ·obtain⟨ao,r',pl,hz⟩:=I.list hq;have hlen:=r'.length;refine call_tuple_list pl.isList (fun h' kp=>?_) (by simp only[C_]<;>omega);have I1:Inv X pins σ H { s with heap:=h' }:=I.kept (t':=s.toks) kp
  have I2:Inv X pins σ (upd H h'.objs.size (.tup ys)) { s with heap:=h'.push { cls:=.type "tuple",data:=.seq ao.toArray } } :=
   I1.laid (t':=s.toks) (fun b o e=>i_ _ e) (x_ _) (show aU X.prog X.w _ _ _ (.tup ys) from ⟨hz,ao,r',acJ _ _⟩)
  exact⟨.ref h'.objs.size,_,I2,rfl,q _ (I1.bf.fresh (x_ _))⟩
 ·obtain⟨ao,r',pl,hz⟩:=I.tuple hq;exact call_tuple_same pl ⟨.ref p,H,I,rfl,q⟩
def Py (K:e_) (T:YA) (x:V) (H:Hp):Prop:=match x with
 | .str _=>T = "str"
 | .int _=>T = "int"
 | .ref p=>(T = "list" /\ ∃ xs,du K H p xs)∨(T = "tuple" /\ ∃ o,K.lookup p=some o/\o.cls=.type "tuple" /\ o.dict=none) ∨
   (T = "dict" /\ ((∃ am,H p=some (.dK am))∨∃ am,H p=some (.dT am)))∨(T = "set" /\ ∃ S n,H p=some (.set S n))
 | _=>False
theorem FO {pins:List (Addr×Obj)}{σ:St}{H:Hp}{s:h_}{T:YA}{x:V}{v:Value} (I:Inv X pins σ H s) (r:RelV x v) (ty:Py X.K T x H) :
  s.TypeIs v T/\∀ a,v=.ref a->∃ ob,s.heap.get? a=some ob/\ob.dict=none:=by
 cases x with
 | str z =>
  obtain⟨t,rfl⟩:=r
  cases (show T = "str" from ty)
  exact⟨typeIs_str s z t,fun _ e=>nomatch e⟩
 | int i =>
  obtain⟨t,rfl⟩:=r
  cases (show T = "int" from ty)
  exact⟨typeIs_int s i t,fun _ e=>nomatch e⟩
 | ref p =>
  cases r
  rcases ty with ⟨rfl,xs,hq⟩ | ⟨rfl,o,hk,hc,hd⟩ | ⟨rfl,hk⟩ | ⟨rfl,S,n,hk⟩
  ·obtain⟨ao,_,pl,_⟩:=I.list hq;refine⟨pl.isList.typeIs,fun a e=>?_⟩
   cases e
   obtain⟨o,n,e,c,hd,_⟩:=pl;exact⟨o,e,hd⟩
  ·refine⟨⟨o,I.jK p o hk,hc⟩,fun a e=>?_⟩
   cases e
   exact⟨o,I.jK _ o hk,hd⟩
  ·have z:∃ o,s.heap.get? p=some o/\o.ExactDict:=by
    rcases hk with ⟨am,hk⟩ | ⟨am,hk⟩
    ·obtain⟨_,_,_,_,o,_,_,e,ex,_⟩:=I.bf p _ hk;exact⟨o,e,ex⟩
    ·obtain⟨_,_,_,_,o,_,_,e,ex,_⟩:=I.bf p _ hk;exact⟨o,e,ex⟩
   obtain⟨o,e,ex⟩:=z;refine⟨⟨o,e,ex.1⟩,fun a e2=>?_⟩
   cases e2
   exact⟨o,e,ex.2.1⟩
  ·obtain⟨o,_,_,_,e,ex,_⟩:=I.bf p _ hk;refine⟨⟨o,e,ex.1⟩,fun a e2=>?_⟩
   cases e2
   exact⟨o,e,ex.2.1⟩
 | _=>exact Wi ty
def Tq (K:e_) (T:YA) (r:V->List V->Hp->VK->Prop) (to:TE) (t:TA):TE:=fun σ H Q=>to σ H fun x H1=>Py K T x H1/\t σ H1 fun xs H2=>r x xs H2 Q
variable {o e:Expr}{es:List Expr}{to:TE}{t:TA}{name:Str}{apos bN:Pos}{T id:YA}{r:V->List V->Hp->VK->Prop}
theorem zx (pa:PlainAttrs T) (slot:Slot T name id) (Tr:typeOf (.builtin id)=pure (.type "method_descriptor")) (hm:Tp X id r) (ho:PE X o to) (ha:PA X (e::es) t)
  (nw:XI o name X.env (eval o X.env)=eval o X.env:=by rfl)
  (FP:((Xm bN (N_ (e::es) X.env)).all (fun x => !x.1)&&(ZH bN (Yh [] X.env)).all (fun x=>x.1.isSome)
   && decide ((e::es).length+([]:List Zc).length+(if ([]:List Zc).isEmpty then 0 else 1)<30))=true:=by rfl)
  (bS:(apos.endLine==bN.line)=true:=by rfl) (hs:N_ (e::es) X.env=(false,eval e X.env)::N_ es X.env:=by rfl) (vp:(Xm bN (N_ es X.env)).any (·.1)=false:=by rfl) :
  PE X (.Call (.Attribute o name apos) (e::es) [] bN) (Tq X.K T r to t):=by
 intro pins s σ H Q I h;refine aam nw FP bS rfl (a9 (ho pins s σ H _ I h) fun v s1 ⟨x,H1,I1,r1,ty,q1⟩=>?_);obtain⟨h1,h2⟩:=FO I1 r1 ty;refine⟨T,id,pa,slot,Tr,h1,h2,?_⟩;have hA:=ha bN pins s1 σ H1 _ I1 q1;rw[hs] at hA ⊢;refine aan (by show (false||(Xm bN (N_ es X.env)).any (·.1))=false;rw[vp]<;>rfl) (aaT ?_);exact a9 hA fun us s2 ⟨vs,H2,I2,r2,q2⟩=>hm pins s2 σ H2 x vs v us Q I2 r1 r2 q2
end
end L2
namespace L2
open PySem PySem.Spec PyProof.Rows
def Pz (X:Cx) (id:YA) (r:V->List V->Hp->VK->Prop):Prop :=
 ∀ (pins:List (Addr×Obj)) (s:h_) (σ:St) (H:Hp) (x:V) (xs:List V) (v:Value) (us:List Value) (Q:VK),Inv X pins σ H s->RelV x v->Vals xs us->r x xs H Q ->
  wpAny (model X.prog X.w) X.A (call (.builtin id) (v::us)) (EP X pins σ Q) X.xe s
theorem Vals.one:∀ {x:V}{us:List Value},Vals [x] us->∃ u,us=[u]/\RelV x u
 | _,_,.cons r .nil=>⟨_,rfl,r⟩
section
variable {X:Cx}{pins:List (Addr×Obj)}{σ:St}{H:Hp}{s:h_}{l b:Addr}{xs ys zs:List V}
theorem Inv.KI {ao its':List Value}{n:Nat}{f:Array Value->Array Value}{t':Nat} (I:Inv X pins σ H s) (hH:H l=some (.lst xs))
  (e:s.heap.get? l=some { cls:=.type "list",data:=.seq ao.toArray n }) (hf:f ao.toArray=its'.toArray) (hv:Vals ys its') (hz:ys.length<=sizeLine) :
  Inv X pins σ (upd H l (.lst ys)) { s with heap:=s.heap.update l (Obj.mapSeq f),toks:=t' }:=by
 have q:=PySem.IsL.update e f;rw[hf] at q;refine I.write (x:=l) (e:=l) (by rw[hH];exact trivial) (.inl rfl) (fun b' u hb hu=>(Heap.get?_update_other s.heap (Obj.mapSeq f) (M_ hb)).trans hu) ⟨_,q⟩ ?_;exact⟨hz,its',_,hv,q⟩
theorem Inv.PB {ao:List Value}{t':Nat} (I:Inv X pins σ H s) (hv:Vals ys ao) (hz:ys.length<=sizeLine) :
  Inv X pins σ (upd H s.heap.objs.size (.lst ys)) { s with heap:=s.heap.push { cls:=.type "list",data:=.seq ao.toArray },toks:=t' } :=
 I.laid (fun _ _ q=>i_ _ q) (x_ _) ⟨hz,ao,0,hv,v_ _ rfl⟩
theorem Inv.fresh (I:Inv X pins σ H s):H s.heap.objs.size=none:=I.bf.fresh (x_ _)
theorem Inv.zy (I:Inv X pins σ H s) (hH:H l=some (.lst xs)):xs.length<=sizeLine/\∃ (ao:List Value) (n:Nat),Vals xs ao/\xs.length=ao.length/\s.heap.get? l=some { cls:=.type "list",data:=.seq ao.toArray n }:=by
 obtain⟨z,ao,n,r,e⟩:=I.bf l _ hH;exact⟨z,ao,n,r,r.length,e⟩
theorem zA {n:Nat} (h:n<=sizeLine):Ys n=false:=by
 unfold Ys;exact f_ (by omega)
end
section
variable {X:Cx}
def Cm:V->List V->Hp->VK->Prop:=fun x vs H Q=>∃ l xs y,x=.ref l/\vs=[y]/\H l=some (.lst xs)/\xs.length<sizeLine/\Q .aK (upd H l (.lst (xs++[y])))
theorem qv:Pz X "list.append" Cm:=by
 intro pins s σ H x vs v us Q I rx rv h;obtain⟨l,xs,y,rfl,rfl,hH,hz,q⟩:=h
 cases rx
 obtain⟨u,rfl,ru⟩:=rv.one;obtain⟨z,ao,n,r,hl,e⟩:=I.zy hH;refine abl Y3 ⟨_,e,rfl⟩ F.entry_list_append (F.args_list_append_2 _ _) (PySem.list_append l ao.toArray n u (by rw[C_];omega)) ⟨e,?_⟩;refine⟨.aK,_,I.KI (its':=ao++[u]) hH e (by simp) (r.append (.cons ru .nil)) ?_,rfl,q⟩;rw[G_,Wf];omega
def Cn:V->List V->Hp->VK->Prop:=fun x vs H Q=>∃ l b xs zs,x=.ref l/\vs=[.ref b]/\H l=some (.lst xs)/\H b=some (.lst zs)/\xs.length+zs.length<=sizeLine/\Q .aK (upd H l (.lst (xs++zs)))
theorem xY:Pz X "list.extend" Cn:=by
 intro pins s σ H x vs v us Q I rx rv h;obtain⟨l,b,xs,zs,rfl,rfl,hH,hB,hz,q⟩:=h
 cases rx
 obtain⟨u,rfl,ru⟩:=rv.one
 cases ru
 obtain⟨z,ao,n,r,hl,e⟩:=I.zy hH;obtain⟨z2,jY,n2,r2,FQ,e2⟩:=I.zy hB;have hsz:ao.toArray.size+jY.toArray.size<=sizeLine:=by rw[C_,C_];omega
 have KJ:¬ (!ao.toArray.isEmpty&&Ys (ao.toArray.size+jY.toArray.size))=true:=by
  rw[zA hsz,Bool.and_false];exact q_
 refine abl aaK ⟨_,e,rfl⟩ F.entry_list_extend (F.args_list_extend_2 _ _)
  (AutoSeq1.list_extend_list_list_0 l ao.toArray n b jY.toArray n2 KJ (by rw[C_];omega) (by omega)) ⟨e,e2,?_⟩
 refine⟨.aK,_,I.KI (its':=ao++jY) hH e (by simp) (r.append r2) ?_,rfl,q⟩;rw[G_];omega
def PD:R2:=fun x y H Q=>∃ l b xs zs,x=.ref l/\y=.ref b/\H l=some (.lst xs)/\H b=some (.lst zs)/\xs.length+zs.length<=sizeLine/\∀ p,H p=none->Q (.ref p) (upd H p (.lst (xs++zs)))
theorem FR:fG X (Yr .Add) PD:=by
 intro pins s σ H x y v u Q I rx ry h;obtain⟨l,b,xs,zs,rfl,rfl,hH,hB,hz,q⟩:=h
 cases rx
 cases ry
 obtain⟨z,ao,n,r,hl,e⟩:=I.zy hH;obtain⟨z2,jY,n2,r2,FQ,e2⟩:=I.zy hB;refine PySem.P.add_list e e2 ?_ (by rw[C_,C_];omega);have ea:ao.toArray++jY.toArray=(ao++jY).toArray:=by simp
 rw[ea];exact⟨.ref _,_,I.PB (t':=s.toks) (r.append r2) (by rw[G_];omega),rfl,q _ I.fresh⟩
end
end L2
namespace Att
open PySem PySem.W PySem.Calls PyProof.Rows
theorem mw {P:Params}{h:Heap}:∀ (ns:List Int) (vs:List Value),WellAll P h vs (ns.map WData.int)->acn vs ns:=by
 intro ns
 induction ns with
 | nil =>
  intro vs w;rw[WX] at w
  cases w
  exact .nil
 | cons n ns ih =>
  intro vs w;rw[p_] at w
  cases w with
  | cons a b =>
   cases a
   exact .cons _ _ (ih _ b)
theorem xZ {l:OpenLaw}{n:Nat} (hn:l.most=some n) {P:Params}{h:Heap}{args:List WData}{vals:List Value}
  (pq:l.row.toRowW.claim.pre args=true) (PF:WellAll P h vals args) :
  ∃ a vs ns,vals=[V5 a]/\args=[WData.list (ns.map WData.int)]/\h.get? a=some { cls:=.type "list",data:=.seq vs.toArray }/\acn vs ns/\ns.length<=n:=by
 have Ts:WShape.hasAll [] args [.list .int]=true:=(pre_splitW pq).1;have hc:l.pre.holds [] { args:=args }=true:=(pre_splitW pq).2;obtain⟨d,r,rfl,h1,h2⟩:=hasAllW_cons Ts;obtain rfl:=hasAllW_nil h2;obtain⟨xs,rfl,h3⟩:=hasW_list h1;obtain⟨ns,rfl⟩:=items_int h3
 have hlen:ns.length<=n:=by
  unfold OpenLaw.pre at hc
  have h4:(WTm.not (.lt (.lit (.int (n:Int))) (.len (.arg 0)))).holds [] { args:=[.list (ns.map .int)] }=true:=by
   have h4:=(holds_andW hc).1;rw[hn] at h4;exact h4
  have h5:=condW_of h4 (w_not (w_lt w_lit (w_len_list (w_arg rfl))));rw[a_] at h5;refine Nat.le_of_not_lt fun q=>?_
  have q':(n:Int)<((ns.length:Nat):Int):=by omega
  first
   | (rw[d_ q'] at h5;exact absurd h5 (by decide))
   | (simp at h5;omega)
 cases PF with
 | cons w1 w2 =>
  cases w2
  cases w1 with
  | list ho PH=>exact⟨_,_,ns,rfl,rfl,ho,mw ns _ PH,hlen⟩
theorem x5 (l:OpenLaw) (args:List WData):l.row.toRowW.claim.post args (.bool true) args=true :=
 postW_of (r:=l.row.toRowW) (X:=(true==true))
  (show WShape.has [] (.bool true) .bool=true by first | rfl | decide | simp [WShape.has,WShape.arms,WShape.armsAll])
  (show (WTm.eq .res (.lit (.bool true))).value [] { args:=args,res:=some (.bool true),after:=args }=some (.bool (true==true)) from w_eq_bool (w_res rfl) w_lit) rfl
theorem tw {l:OpenLaw}{n:Nat}{q:Program}{loose:List Str}{XP:(Str->Option Value)->Heap->Prop}{YP:World->Heap->Prop}{d:DefRec}
  (hn:l.most=some n) (KL:d.params.defaults=[])
  (call:∀ (w:World) (s₀ s₁:h_) (mg mb:Str->k_ Value) (fa:Addr) (o:Obj) (pm cd doc:Value) (a:Addr) (vs:List Value) (ns:List Int),
   Ground q loose [] XP w s₀ mg mb s₁.heap->YP w s₁.heap ->
   s₁.heap.get? fa=some o->o.data=.func (docDef d.name d.params d.body d.scope pm cd doc)->s₁.heap.CodeRec cd d.name->mg d.name=some (.ref fa) ->
   s₁.heap.get? a=some { cls:=.type "list",data:=.seq vs.toArray }->acn vs ns->ns.length<=n->s₁.gens=#[] ->
   Yk (model l.prog w) aao (.call (.ref fa) ⟨[.ref a],[]⟩) (fun r s'=>r=.ok (.ret (.bool true))/\OldK s₁.heap s'.heap/\s'.os=s₁.os/\Zt s'.gens) s₁) :
  WalkO q loose XP YP l.row.toRowW d [] (fun f vs=>acy f vs):=by
 intro w s₀ s₁ mg mb G Y fa o pm cd doc dV kV ho hd kT hD FS hg args vals as pq Tt VD PF VE;obtain rfl:dV=.none:=Dflts.none hD KL;obtain rfl:kV=.none:=Dflts.noKw hD;obtain⟨a,vs,ns,rfl,rfl,FT,hints,hlen⟩:=xZ hn pq PF;refine enter_call (Zv (call w s₀ s₁ mg mb fa o pm cd doc a vs ns G Y ho (fd_plain hd) kT FS FT hints hlen hg) fun r s' hq=>?_);obtain⟨rfl,h2,h3,h4⟩:=hq;exact⟨.inl ⟨.bool true,.bool true,[],rfl,fun _=>rfl,.bool true,x5 l _,fun _=>⟨ZU,fun _ hm=>(nomatch hm)⟩⟩,h2,h3,h4⟩
end Att
namespace L2
open PySem PySem.Spec PyProof.Rows
theorem qw:∀ {vs:List Value}{ns:List Int},acn vs ns->Vals (ns.map V.int) vs
 | _,_,.nil=>.nil
 | _,_,.cons n t h=>.cons ⟨t,rfl⟩ (qw h)
def FU (H:Hp):Prop:=∀ b,H b=none∨∃ o xs,H b=some (.eM o (.lst xs))
theorem zB {P:L_}{w:World}{K:e_}{mg mb:Str->k_ Value}{CX:vj}{k:Nat}{fa a:Addr}{fd:WJ}{x:Str}{sp:Sp}{s₁:h_}{vs:List Value}{ns:List Int}
  (KX:K.In s₁.heap) (JJ:s₁.heap.Ns mainGlobals mg) (hb:s₁.heap.Ns aad mb) (Tv:∀ x:Str,x ≠ "__name__" ->mb x=WQ x) (PJ:s₁.heap.NoLimit) (hg:s₁.gens=#[])
  (ha:s₁.heap.get? a=some { cls:=.type "list",data:=.seq vs.toArray }) (hi:acn vs ns) (hl:ns.length<=sizeLine) (hr:cj k aao)
  (F:∀ base:Heap,K.In base->base.Ns mainGlobals mg->b8 P w K mg base CX k fa fd [x] sp) (KM:∀ (s:h_) (u:Value),abE s fd ⟨[u],[]⟩ [(x,u)])
  (BD:∀ H:Hp,FU H->du K H a (ns.map V.int)->sp [.ref a] H (fun v _=>v=.bl true) fun _ _ _=>False)
  (PK:∀ H e s',CX [] H s₁ (fun _ _ _=>False) e s'->False) :
  Yk (model P w) aao (.call (.ref fa) ⟨[.ref a],[]⟩) (fun r s'=>r=.ok (.ret (.bool true))/\OldK s₁.heap s'.heap/\s'.os=s₁.os/\Zt s'.gens) s₁:=by
 have rv:=qw hi;have PL:=hi.length
 have core:∀ H:Hp,FU H->du K H a (ns.map V.int)->iT P w H s₁.heap->(∀ b,H b≠none->b=a)->(H a≠none->K.lookup a=none) ->
   Yk (model P w) aao (.call (.ref fa) ⟨[.ref a],[]⟩) (fun r s'=>r=.ok (.ret (.bool true))/\OldK s₁.heap s'.heap/\s'.os=s₁.os/\Zt s'.gens) s₁:=by
  intro H hO hS bf hA hK;have fR:∀ {b:Addr}{o:Obj},s₁.heap.get? b=some o->H b=none->(rn s₁.heap H).get? b=some o:=fun e n=>yU e n
  have Ky:∀ {b:Addr}{o:Obj}{es:Array DictEntry}{ep:Nat},s₁.heap.get? b=some o->o.data=.dict es ep->H b=none:=fun {b o es ep} e d=>by
   cases q:H b with
   | none=>rfl
   | some u =>
    have e':b=a:=hA b (by rw[q];simp);subst e';rw[ha] at e;cases e;have d':acz vs.toArray _=Data.dict es ep:=d
    cases d'
  have Oq:∀ {b:Addr}{m:Str->k_ Value},s₁.heap.Ns b m->(rn s₁.heap H).Ns b m:=fun {b m} ⟨o,es,ep,e,d,r⟩=>⟨o,es,ep,fR e (Ky e d),d,r⟩
  have R1:K.In (rn s₁.heap H):=fun b o e=>fR (KX b o e) (by
   cases q:H b with
   | none=>rfl
   | some u =>
    have e':b=a:=hA b (by rw[q];simp);subst e';rw[hK (by rw[q];simp)] at e;cases e)
  have hM:Mod K mg (rn s₁.heap H):=⟨R1,Oq JJ,⟨mb,Oq hb,Tv⟩,let ⟨mc,h1,h2⟩:=PJ;⟨mc,Oq h1,h2⟩⟩;have e0:s9 P w K mg (rn s₁.heap H) aao [] s₁ H:=⟨rfl,hM,fun b o e=>BR e,aai (xG _ _),trivial,fun b hb=>absurd (show b∈([]:List Addr) from hb) (by simp),bf,.of_eq hg⟩;refine Zv ((F _ R1 (Oq JJ)).run aao [] s₁ H ⟨[.ref a],[]⟩ [.ref a] [.ref a] _ _ hr e0 (KM s₁ (.ref a)) (.cons rfl .nil) (BD H hO hS)) fun r s' h=>?_
  cases r with
  | error e=>exact (PK H e s' h).elim
  | ok fl =>
   cases fl with
   | next=>exact Wi h
   | brk=>exact Wi h
   | cont=>exact Wi h
   | ret u =>
    obtain⟨v,H',os,bare,un,PN,r',q⟩:=h;have q':v=.bl true:=q;subst q';obtain rfl:u=ZB true:=r';refine⟨rfl,OldK.of_keep fun b o e=>?_,os,bare⟩
    cases q:H b with
    | none=>exact un.keep b o e q (by intro z;exact absurd (show b∈([]:List Addr) from z) (by simp)) (by simp)
    | some u =>
     rcases hO b with z | ⟨ob,xs,z⟩
     ·rw[q] at z;cases z
     ·have z2:=un.kQ b ob _ z;obtain⟨e1,_⟩:=bf b _ z;obtain⟨e2,_⟩:=PN b _ z2;rw[e] at e1;cases e1;exact e2
 cases hk:K.lookup a with
 | some o =>
  have e:=KX a o hk;rw[ha] at e
  cases e
  refine core (fun _=>none) (fun _=>.inl rfl) (.inr ⟨_,vs.toArray,_,hk,rfl,rfl,rfl,by rw[C_,PL];exact hl,by simpa using rv⟩) (fun b u z=>by have z':(none:k_ HO)=some u:=z;cases z') (fun b z=>absurd rfl z) fun z=>absurd rfl z
 | none =>
  refine core (fun b=>if b=a then some (.eM { cls:=.type "list",data:=.seq vs.toArray } (.lst (ns.map V.int))) else none) (fun b=>?_) (.inl (.inr ⟨{ cls:=.type "list",data:=.seq vs.toArray },w_ rfl⟩)) (fun b u z=>?_) (fun b z=>?_) fun _=>hk
  ·by_cases hb:b=a
   ·exact .inr ⟨_,_,w_ hb⟩
   ·exact .inl (n_ hb)
  ·by_cases hb:b=a
   ·have z':=(w_ hb).symm.trans z
    cases z'
    subst hb;exact⟨ha,by rw[a_];exact hl,vs,_,rv,ha⟩
   ·have z':=(n_ hb).symm.trans z
    cases z'
  ·by_cases hb:b=a
   ·exact hb
   ·exact absurd (n_ hb) z
end L2
namespace L2
open PySem PySem.Spec PyProof.Rows
theorem Co {l:acd}{n k:Nat}{q:L_}{loose:List Str}{XP:(Str->k_ Value)->Heap->Prop}{YP:World->Heap->Prop}{d:DefRec}{K:Params->e_}{CX:World->vj}{sp:World->Sp}{x:Str}
  (hn:l.most=some n) (BA:n<=sizeLine) (KL:d.params.defaults=[]) (hr:cj k aao)
  (hY:∀ (w:World) (h:Heap),YP w h->(K w.params).In h)
  (F:∀ (w:World) (mg:Str->k_ Value) (fa:Addr) (h:Heap),(K w.params).In h->h.Ns mainGlobals mg->mg d.name=some (.ref fa) ->
   ∃ fd:WJ,(∀ (s:h_) (u:Value),abE s fd ⟨[u],[]⟩ [(x,u)]) /\
    ∀ base:Heap,(K w.params).In base->base.Ns mainGlobals mg->b8 l.prog w (K w.params) mg base (CX w) k fa fd [x] (sp w))
  (BD:∀ (w:World) (H:Hp) (a:Addr) (ns:List Int),ns.length<=n->FU H->du (K w.params) H a (ns.map V.int)->sp w [.ref a] H (fun v _=>v=.bl true) fun _ _ _=>False)
  (PK:∀ (w:World) (H:Hp) (s:h_) (e:Value) (s':h_),CX w [] H s (fun _ _ _=>False) e s'->False) :
  acF q loose XP YP l.row.toRowW d [] (fun f vs=>acy f vs):=by
 refine Att.tw hn KL fun w s₀ s₁ mg mb fa o pm cd doc a vs ns G Y ho hd kT FS FT hints hlen hg=>?_
 have KX:=hY w _ Y;obtain⟨fd,hb,hF⟩:=F w mg fa _ KX G.T.g FS;exact zB KX G.T.g G.T.b G.T.builtins G.T.nolimit hg FT hints (P_ hlen BA) hr hF hb (fun H hO hS=>BD w H a ns hlen hO hS) fun H e s'=>PK w H s₁ e s'
end L2
namespace L2
open PySem PySem.Spec PyProof.Rows
noncomputable def mU (s:Stmt):abZ:=match s with
 | .FunctionDef _ a _ _ _ _ _ _ _ _=>a
 | _=>{ posonlyargs:=[],args:=[],vararg:=none,kwonlyargs:=[],kw_defaults:=[],kwarg:=none,defaults:=[] }
noncomputable def iU (s:Stmt):List Stmt:=match s with
 | .FunctionDef _ _ b _ _ _ _ _ _ _=>b
 | _=>[]
noncomputable def bH (s:Stmt):Scope:=match s with
 | .FunctionDef _ _ _ _ _ _ sc _ _ _=>sc
 | _=>{ kind:=.function,names:=[],isGenerator:=false,isCoroutine:=false }
abbrev ny:vj:=fun _ _ _ _ _ _=>False
abbrev E0:XK:=fun _ _ _=>False
theorem tx {X:Cx}:Passes ny X E0:=fun _ _ _ _ _ _ _ h=>h.elim
structure BE (K:e_) (x qual:Str) (st:Stmt) (f:Addr) (fd:WJ):Prop where
 ex:∃ (oc:Value) (od:k_ Addr) (kV doc pm:Value) (an:k_ Addr) (jo ct:Value) (zp:Array (k_ Value)),
  fd=Xn x qual (mU st) (iU st) (bH st) .none kV doc pm an jo ct/\K.lookup f=some ⟨oc,od,.func fd,zp⟩/\Yg K jo qual=true
 kp:Ws K (.ref f)=true
section
variable {P:L_}{w:World}{K:e_}{mg:Str->k_ Value}{base:Heap}
theorem BE.ok {x qual:Str}{st:Stmt}{f:Addr}{fd:WJ}{N ps:List Str}{k:Nat}{sp:Sp} (F:BE K x qual st f fd) (S:mS N ps (bH st)) (len:∀ vs H Q E,sp vs H Q E->vs.length=ps.length)
  (zq:∀ (jo:Value) (A:Wt) (outer:List Env) (s:h_) (H:Hp) (vs:List V) (Q:VK) (E:XK),cj k (A.deeper (aaQ qual (bH st) s.heap.objs.size f jo))->sp vs H Q E ->
   ∃ t,lL (vk ny P w K mg base N qual (bH st) f jo A outer s H E).Ka (iU st) t/\t { nx:=fun _ H'=>Q .aK H',rt:=Q } (start N vs) H):b8 P w K mg base ny (k+1) f fd ps sp:=by
 obtain⟨oc,od,kV,doc,pm,an,jo,ct,zp,rfl,lk,kT⟩:=F.ex;refine Kz lk kT S len fun A outer s H vs Q E hr BD=>?_
 obtain⟨t,h,q⟩:=zq jo A outer s H vs Q E hr BD;exact⟨t,h.Ka,q⟩
theorem BE.binds {x qual:Str}{st:Stmt}{f:Addr}{fd:WJ}{ps:List Str} (F:BE K x qual st f fd)
  (h:∀ (kV doc pm:Value) (an:k_ Addr) (jo ct:Value) (us:List Value),us.length=ps.length->abF (Xn x qual (mU st) (iU st) (bH st) .none kV doc pm an jo ct) ⟨us,[]⟩=pure (ps.zip us)):Binds K fd ps []:=by
 obtain⟨oc,od,kV,doc,pm,an,jo,ct,zp,rfl,lk,kT⟩:=F.ex;exact .all (h kV doc pm an jo ct)
theorem FV {x qual:Str}{st:Stmt}{f:Addr}{oc:Value}{od an:k_ Addr}{zp:Array (k_ Value)}{kV doc pm jo ct:Value} (l:K.lookup f=some ⟨oc,od,.func (Xn x qual (mU st) (iU st) (bH st) .none kV doc pm an jo ct),zp⟩)
  (c:Yg K jo qual=true) (k:Ws K (.ref f)=true):BE K x qual st f (Xn x qual (mU st) (iU st) (bH st) .none kV doc pm an jo ct):=⟨⟨oc,od,kV,doc,pm,an,jo,ct,zp,rfl,l,c⟩,k⟩
end
def ah (H H':Hp):Prop:=∀ b o,H b=some o->H' b=some o
theorem ah.refl (H:Hp):ah H H:=fun _ _ h=>h
theorem ah.trans {H H1 H2:Hp} (a:ah H H1) (b:ah H1 H2):ah H H2:=fun c o h=>b c o (a c o h)
theorem ah.free {H H':Hp} (e:ah H H') {l:Addr} (h:H' l=Option.none):H l=Option.none:=by
 cases q:H l with
 | none=>rfl
 | some o =>
  rw[e l o q] at h
  cases h
theorem ah.seq {K:e_}{H H':Hp}{a:Addr}{xs:List V} (e:ah H H') (h:du K H a xs):du K H' a xs:=by
 rcases h with (h | ⟨o,h⟩) | h
 ·exact .inl (.inl (e _ _ h))
 ·exact .inl (.inr ⟨o,e _ _ h⟩)
 ·exact .inr h
end L2
namespace L2
open PySem PySem.Spec PyProof.Rows
section
variable {P:L_}{w:World}{H:Hp}{h:Heap}{a:Addr}{o:HO}
theorem iT.D0 (x:iT P w H h) (hn:H a=none) (new:aU P w (upd H a o) h a o):iT P w (upd H a o) h:=fun b u e=>by
 by_cases hb:b=a
 ·subst hb;rw[aA] at e;cases e;exact new
 ·rw[aq hb] at e;exact (x b u e).eF (fun c v _ q=>q) (fun c q=>by rw[aq (ax q hn)];exact q) fun c xs q=>by rw[aq (ax q hn)];exact q
end
noncomputable def PP (x:Str):It:=⟨fun i _=>i<x.cps.size,fun i H v H'=>H'=H/\∃ c,x.cps[i]? = some c/\v=.str ⟨#[c]⟩,fun i _=>i=x.cps.size⟩
theorem qx {prog:L_}{w:World}{A:Wt} (hh:A.handled=none) (I:Addr) (x:Str) (t:Tok):Walks prog w A I [I] [I] x.cps.size (SignAt x) (fun i h=>h.IsStrIter I (Xb x) x t i):=by
 cases ha:x.cps.all (·<128)
 ·have e:Xb x = "str_iterator" := by simp [Xb,ha]
  rw[e];exact Walks.strWide hh I x t
 ·have e:Xb x = "str_ascii_iterator" := by simp [Xb,ha]
  rw[e];exact Walks.strAscii hh I x t
theorem zC {P:L_}{w:World}{K:e_}{tg:Expr} (it:Addr) (x:Str) (t:Tok):Turn P w K tg (PP x) [it] it (fun i h=>h.IsStrIter it (Xb x) x t i) where
 mem:=by simp
 obj:=fun i h st b hb=>by
  have e:b=it:=by simpa using hb
  subst e;obtain⟨o,ho,_,hd⟩:=st;exact⟨o,ho,fun v q=>by rw[hd] at q;cases q⟩
 keep:=fun i h h' st k=>by
  obtain⟨o,ho,r⟩:=st;exact⟨o,k it (by simp) o ho,r⟩
 item:=by
  intro X hP hw hK hc i pins s σ H E I hf st hg;subst hP hw hK;obtain⟨f0,f1,f2,f3,f4,f5⟩:=hf it (by simp);refine (qx (I.ok.hd hc) it x t).item i s _ _ hg st fun v h' tk hv ms kk=>?_
  obtain⟨c,u,hx,rfl⟩:=hv;have I1:Inv X pins σ H { s with heap:=h',toks:=tk }:=I.turned (fun b o hb e=>kk b o (by simpa using hb) e) f0 f1 f3 f4 f5;obtain⟨o,ho,JK,hd⟩:=id ms;refine⟨_,rfl,sX (s:={ s with heap:=h',toks:=tk }) (n:=Xb x) ho JK hd ?_ ⟨.str ⟨#[c]⟩,H,I1,⟨u,rfl⟩,⟨rfl,c,hx,rfl⟩,ms,fun b hb=>(hf b hb).1⟩⟩;unfold Xb;split<;>decide
 done:=by
  intro X hP hw hK hc i pins s σ H E I hf st hg;subst hP hw hK;obtain⟨f0,f1,f2,f3,f4,f5⟩:=hf it (by simp);have Tw:i=x.cps.size:=hg;subst Tw;exact (qx (I.ok.hd hc) it x t).done s _ _ st fun h' tk kk=>⟨rfl,I.turned (fun b o hb e=>kk b o (by simpa using hb) e) f0 f1 f3 f4 f5⟩
 self:=fun A i s Q E st h=>by
  cases ha:x.cps.all (·<128)
  ·have e:Xb x = "str_iterator" := by simp [Xb,ha]
   rw[e] at st;exact wpAny_pyIter_striter_wide st h
  ·have e:Xb x = "str_ascii_iterator" := by simp [Xb,ha]
   rw[e] at st;exact wpAny_pyIter_striter_ascii st h
section
variable {prog:L_}{w:World}{A:Wt}{R:Result->h_->Prop}{s:h_}
theorem lR {elt target iter:Expr}{ifs:List Expr}{scope:Scope}{pos:Pos}{it acc:Value}{env:Env} (I:Nat->h_->Prop)
  (turn:∀ n s,I n s->wpAny (model prog w) A (abW it) (fun r s₁=>match r with
   | none=>R (.ok .next) s₁
   | some v=>wpAny (model prog w) A (Zh target it v) (fun _ R3=>wpAny (model prog w) A (abV target env v) (fun _ s₂ =>
     wpAny (model prog w) A (forIn ifs true fun c r=>if r=true then do let ok ←aaL c env (eval c env);pure (X8 ok) else pure (X8 r)) (fun ok s₃ =>
      if ok=true then wpAny (model prog w) A (eval elt env) (fun x s₄ =>
       wpAny (model prog w) A (call (.builtin "list.append") [acc,x]) (fun _ s₅=>∃ m,m<n/\I m s₅) (fun _ _=>False) s₄) (fun _ _=>False) s₃
      else ∃ m,m<n/\I m s₃) (fun _ _=>False) s₂) (fun _ _=>False) R3) (fun _ _=>False) s₁) (fun _ _=>False) s)
  (n:Nat) (h:I n s) :
  Yk (model prog w) A (.compLoop (.ListComp elt [⟨target,iter,ifs,0⟩] scope pos) 0 it acc env) R s:=by
 refine codeAny_loop rfl I (fun n s hI=>?_) n h;show wpAny _ A ((compTurn (.ListComp elt [⟨target,iter,ifs,0⟩] scope pos) 0 it acc env).onRaise (fun x=>do noteFrame x env;theTreesLotGoes x)) _ _ s;refine wpAny_noted ?_;rw[compTurn_list];refine b_ (wpAny_standAt (b_ (Xg (turn n s hI) (fun r s₁ h₁=>?_) fun _ _ h'=>h'.elim)))
 cases r with
 | none=>exact o_ h₁
 | some v =>
  refine b_ (Xg h₁ (fun _ R3 Tx=>b_ (Xg Tx (fun _ s₂ h₂=>b_ (Xg h₂ (fun ok s₃ h₃=>?_) fun _ _ h'=>h'.elim)) fun _ _ h'=>h'.elim)) fun _ _ h'=>h'.elim)
  cases ok with
  | false=>exact o_ ⟨rfl,h₃⟩
  | true =>
   exact b_ (b_ (Xg h₃ (fun x s₄ h₄=>b_ (Xg h₄ (fun _ s₅ h₅=>o_ (o_ ⟨rfl,h₅⟩)) fun _ _ h'=>h'.elim)) fun _ _ h'=>h'.elim))
end
noncomputable def cB (env:Env):List (Str×Xu)->List (Str×Addr)->List (Str×Addr)
 | [],acc=>acc
 | (n,k)::r,acc=>cB env r (if k==.free then (n,(env.cells.lookup n).getD 0)::acc else acc)
theorem dv {scope:Scope}{env:Env} (h:∀ y∈scope.names,y.2=.free->∃ c,env.cells.lookup y.1=some c):closureFor scope env=pure (cB env scope.names []):=by
 simp only[closureFor]
 suffices hh:∀ (l:List (Str×Xu)) (acc:List (Str×Addr)),(∀ y∈l,y.2=.free->∃ c,env.cells.lookup y.1=some c) ->
   (forIn l acc fun x r=>if (x.2==Wl)=true then do let a ←cellOf env x.1;pure (X8 ((x.1,a)::r)) else pure (X8 r):Sem (List (Str×Addr)))=pure (cB env l acc) by
  have:=hh scope.names [] h;simp only[bind_pure];exact this
 intro l
 induction l with
 | nil=>intro acc _;rfl
 | cons y r ih =>
  intro acc hy;obtain⟨n,k⟩:=y;rw[aax]
  cases hk:(k==Wl) with
  | true =>
   obtain⟨c,hc⟩:=hy (n,k) V_ (by simpa using hk);have e1:cellOf env n=pure c:=by unfold cellOf;rw[hc]
   simp only[hk,Yx,e1,pure_bind];rw[ih _ fun z hz=>hy z (I_ _ hz)];simp only[cB,hk,Yx,hc,ab0]
  | false =>
   simp only[hk,abm,if_false,pure_bind];rw[ih _ fun z hz=>hy z (I_ _ hz)];simp only[cB,hk,abm,if_false]
theorem jZ {env:Env}{x:Str}{c:Addr}:∀ {l:List (Str×Xu)}{acc:List (Str×Addr)},(∀ y∈l,y.2=.free->∃ c,env.cells.lookup y.1=some c)->(acc.lookup x=some c->env.cells.lookup x=some c)->(cB env l acc).lookup x=some c->env.cells.lookup x=some c
 | [],_,_,ha,e=>ha e
 | (n,k)::r,acc,hl,ha,e=>by
  refine jZ (l:=r) (fun z hz=>hl z (I_ _ hz)) (fun q=>?_) e
  cases hk:(k==Wl) with
  | false=>rw[hk] at q;exact ha q
  | true =>
   rw[hk] at q;obtain⟨c',hc⟩:=hl (n,k) V_ (by simpa using hk);simp only[Yx,hc,ab0,V7] at q
   cases hx:(x==n) with
   | true=>rw[hx] at q;cases q;rw[show x=n from by simpa using hx];exact hc
   | false=>rw[hx] at q;exact ha q
theorem nz {env:Env}{x:Str}{c:Addr}:∀ {l:List (Str×Xu)}{acc:List (Str×Addr)},(cB env l acc).lookup x=some c->acc.lookup x=some c∨(x,Wl)∈l
 | [],_,e=>.inl e
 | (n,k)::r,acc,e=>by
  rcases nz (l:=r) e with q | q
  ·cases hk:(k==Wl) with
   | false=>rw[hk] at q;exact .inl q
   | true =>
    rw[hk] at q;simp only[Yx,V7] at q
    cases hx:(x==n) with
    | true =>
     have e1:x=n:=by simpa using hx
     have e2:k=Wl:=by simpa using hk
     subst e1 e2;exact .inr V_
    | false=>rw[hx] at q;exact .inl q
  ·exact .inr (I_ _ q)
theorem hZ {env:Env}{x:Str}:∀ {l:List (Str×Xu)}{acc:List (Str×Addr)},(∃ c,acc.lookup x=some c)∨(x,Wl)∈l->∃ c,(cB env l acc).lookup x=some c
 | [],_,h=>h.elim (fun z=>z) fun z=>nomatch z
 | (n,k)::r,acc,h=>by
  refine hZ (l:=r) ?_;rcases h with ⟨c,h⟩ | h
  ·refine .inl ?_
   cases hk:(k==Wl) with
   | false=>exact⟨c,h⟩
   | true =>
    simp only[Yx,V7]
    cases hx:(x==n) with
    | true=>exact⟨_,rfl⟩
    | false=>exact⟨c,h⟩
  ·rcases u_.mp h with h | h
   ·cases h
    refine .inl ?_;rw[w_ (by rfl),V7];exact⟨_,by rw[show (x==x)=true from by simp]⟩
   ·exact .inr h
theorem lookup_mem {α:Type}{x:Str}{k:α}:∀ {l:List (Str×α)},l.lookup x=some k->(x,k)∈l
 | (n,z)::r,e=>by
  rw[V7] at e
  cases hx:(x==n) with
  | true=>rw[hx] at e;cases e;rw[show x=n from by simpa using hx];exact V_
  | false=>rw[hx] at e;exact I_ _ (lookup_mem e)
theorem qy (env:Env) (n:Str) (z:Xu):∃ z',(if (z==Wl&&env.scope.kind==.function&&env.kindOf n==some .cell)=true then (n,WV) else (n,z))=(n,z')/\(z'=z∨(z=.free/\z'=.cell)):=by
 by_cases hc:(z==Wl&&env.scope.kind==.function&&env.kindOf n==some .cell)=true
 ·rw[w_ hc];simp only[t_] at hc;exact⟨_,rfl,.inr ⟨by simpa using hc.1.1,rfl⟩⟩
 ·rw[n_ hc];exact⟨_,rfl,.inl rfl⟩
theorem aB {env:Env}{x:Str}:∀ {l:List (Str×Xu)}{k:Xu},l.lookup x=some k ->
  ((l.map fun (n,k)=>if (k==Wl&&env.scope.kind==.function&&env.kindOf n==some .cell) then (n,WV) else (n,k)).lookup x=some k) ∨
  (k=.free/\(l.map fun (n,k)=>if (k==Wl&&env.scope.kind==.function&&env.kindOf n==some .cell) then (n,WV) else (n,k)).lookup x=some .cell)
 | (n,z)::r,k,e=>by
  obtain⟨z',e1,e2⟩:=qy env n z;have ih:=fun h=>aB (env:=env) (x:=x) (l:=r) (k:=k) h
  rw[V7] at e;rw[p_];dsimp only;rw[e1,V7]
  cases hx:(x==n) with
  | true =>
   rw[hx] at e
   cases e
   rcases e2 with e2 | ⟨e2,e3⟩
   ·rw[e2];exact .inl rfl
   ·rw[e3];exact .inr ⟨e2,rfl⟩
  | false=>rw[hx] at e;exact ih e
theorem fS {env:Env}{x:Str}:∀ {l:List (Str×Xu)},l.lookup x=none ->
  (l.map fun (n,k)=>if (k==Wl&&env.scope.kind==.function&&env.kindOf n==some .cell) then (n,WV) else (n,k)).lookup x=none
 | [],_=>rfl
 | (n,z)::r,e=>by
  obtain⟨z',e1,e2⟩:=qy env n z;have ih:=fun h=>fS (env:=env) (x:=x) (l:=r) h
  rw[V7] at e;rw[p_];dsimp only;rw[e1,V7]
  cases hx:(x==n) with
  | true=>rw[hx] at e;cases e
  | false=>rw[hx] at e;exact ih e
structure bL (N:List Str) (KN scope:Scope) (own aV:List Str) (ix:List Nat):Prop where
 kind:scope.kind=.function
 cell:∀ y∈scope.names,y.2≠.cell
 names:∀ y∈scope.names,y.2=.local->scope.names.lookup y.1=some .local
 free:∀ y∈scope.names,y.2=.free->y.1∈aV
 FW:∀ x∈own,scope.names.lookup x=some .local
 vq:∀ x∈aV,scope.names.lookup x=some .free
 out:∀ x∈aV,KN.names.lookup x=some .cell∨KN.names.lookup x=some .free
 KO:ix.map (fun i=>N[i]?)=aV.map some
 nd:(own++aV).Nodup
noncomputable def Cx.comp (X:Cx) (scope:Scope) (own aV:List Str) (C:Addr) (s₀:h_) (H₀:Hp) (ex:List Addr) (pn:List (Addr×Obj)):Cx :=
 { X with N:=own++aV,s₀:=s₀,H₀:=H₀,env:=Yi scope (cB X.env scope.names []) C X.env,outer:=X.stack,ex:=ex,fn:=fun x=>own.contains x,pn:=pn,xe:=fun _ _=>False }
noncomputable def i7 (σ:St) (own:List Str) (ix:List Nat):St:=own.map (fun _=>none)++ix.map (fun i=>(σ[i]?).join)
section
variable {X:Cx}{pins:List (Addr×Obj)}{σ:St}{H:Hp}{s:h_}{scope:Scope}{own aV:List Str}{ix:List Nat}
theorem bL.has (S:bL X.N X.env.scope scope own aV ix) (ok:X.Ok):∀ y∈scope.names,y.2=.free->∃ c,X.env.cells.lookup y.1=some c:=fun y hy hf=>ok.has y.1 (S.out y.1 (S.free y hy hf))
theorem Inv.comp (I:Inv X pins σ H s) (S:bL X.N X.env.scope scope own aV ix) {fp:List Addr} (hf:∀ b∈fp,jm X pins H b) (ho:∀ b∈fp,∃ o,s.heap.get? b=some o)
  {h₁:Heap}{tk:Nat}{C:Addr}{m:Str->k_ Value} (hC:s.heap.objs.size<=C) (old:∀ b o,s.heap.get? b=some o->h₁.get? b=some o) (JJ:h₁.Ns C m) :
  Inv (X.comp scope own aV C s H fp (X.pn++pins)) [] (i7 σ own ix) H { s with heap:=h₁,toks:=tk }:=by
 have cv:∀ x c,(cB X.env scope.names []).lookup x=some c->X.env.cells.lookup x=some c:=fun x c e=>jZ (S.has I.ok) (fun q=>by simp at q) e
 have cc:∀ x c,(cB X.env scope.names []).lookup x=some c->x∈aV:=fun x c e=>by
  rcases nz e with q | q
  ·cases q
  ·exact S.free _ q rfl
 have kk:∀ x,((Yi scope (cB X.env scope.names []) C X.env).kindOf x=some .cell∨(Yi scope (cB X.env scope.names []) C X.env).kindOf x=some .free)->x∈aV:=fun x hx=>by
  cases e:scope.names.lookup x with
  | none =>
   have q:=fS (env:=X.env) e;rcases hx with hx | hx
   ·have i8:_=some WV:=hx;exact nomatch q.symm.trans i8
   ·have i8:_=some Wl:=hx;exact nomatch q.symm.trans i8
  | some k =>
   have nc:k≠.cell:=S.cell _ (lookup_mem e);rcases aB (env:=X.env) e with q | ⟨q,_⟩
   ·rcases hx with hx | hx
    ·have i8:_=some WV:=hx;exact absurd (F_ (q.symm.trans i8)) nc
    ·have i8:_=some Wl:=hx;exact S.free _ (lookup_mem e) (F_ (q.symm.trans i8))
   ·exact S.free _ (lookup_mem e) q
 have FY:∀ x∈aV,(Yi scope (cB X.env scope.names []) C X.env).kindOf x=some .cell∨(Yi scope (cB X.env scope.names []) C X.env).kindOf x=some .free:=fun x hx=>by
  rcases aB (env:=X.env) (S.vq x hx) with q | ⟨_,q⟩
  ·exact .inr q
  ·exact .inl q
 have lt:∀ {b:Addr}{o:Obj},s.heap.get? b=some o->b≠C:=fun e=>J_ (s_ (r_ e) hC)
 have KP:∀ b,b∈o0 X.stack->b∈X.env.locals::X.fs:=I.hU
 refine⟨⟨I.ok.mod,S.kind,I.ok.glob,I.ok.blt,hC,fun x y c e1 e2=>I.ok.inj x y c (cv x c e1) (cv y c e2),fun x hx=>hZ (.inr (lookup_mem (S.vq x (kk x hx)))),fun x c hx e=>?_,I.ok.hd,I.ok.frames,.inl rfl,fun b hb=>?_,
  I.bs,P_ I.ok.yW I.sz,fun b o e hb=>?_,fun b hb Cp=>?_,I.stack,I.ro⟩,rfl,I.bare,Un.kept old,?_,fun x c e=>?_,I.bf.fresh hC,fun x c e=>I.hJ x c (cv x c e),fun p hp=>?_,I.bf.kept old,?_⟩
 ·exfalso;have h1:x∈own:=by simpa [Cx.comp] using hx
  have h2:x∈aV:=cc x c e;exact (List.nodup_append.mp S.nd).2.2 x h1 x h2 rfl
 ·obtain⟨o,e⟩:=ho b hb;exact⟨lt e,fun x c q=>(hf b hb).2.2.2.2.1 x c (cv x c q)⟩
 ·rcases (hf b hb).2.2.2.1 with z | z
  ·exact I.ok.xH b o e z
  ·exact absurd (s_ (r_ e) (P_ I.ok.yW z)) (Wa _)
 ·rcases u_.mp (KP b Cp) with z | z
  ·exact (hf b hb).2.1 z
  ·exact (hf b hb).2.2.1 z
 ·refine⟨m,JJ,fun i x v e1 e2 _=>?_⟩;by_cases hi:i<own.length
  ·have e3:(i7 σ own ix)[i]? = some none:=by
    unfold i7;rw[Wm (by simpa using hi),g_];rw[c_ hi];rfl
   rw[e3] at e2;cases e2
  ·have hj:own.length<=i:=abn.mp hi
   have FZ:aV[i-own.length]? = some x:=by
    have:(own++aV)[i]? = some x:=e1;rwa [Wb hj] at this
   have e4:(ix.map (fun i=>X.N[i]?))[i-own.length]? = some (some x):=by rw[S.KO,g_,FZ];rfl
   rw[g_] at e4
   cases q:ix[i-own.length]? with
   | none=>rw[q] at e4;cases e4
   | some j =>
    rw[q] at e4;have PQ:X.N[j]? = some x:=F_ e4
    have e5:(σ[j]?).join=some v:=by
     unfold i7 at e2;rw[Wb (by simpa using hj),g_,a_,q] at e2;exact F_ e2
    have e6:σ[j]? = some (some v):=by
     cases r:σ[j]? with
     | none=>rw[r] at e5;cases e5
     | some z=>rw[r] at e5;exact congrArg some e5
    have hx:x∈aV:=A_ FZ;obtain⟨mo,hn,hl⟩:=I.loc;obtain⟨u,ru,lu⟩:=hl j x v PQ e6 (.inr (S.out x hx));refine⟨u,ru,.inr ⟨FY x hx,?_⟩⟩;rcases lu with ⟨kx,_⟩ | ⟨_,c,hc,lM⟩
    ·have KQ : X.env.scope.names.lookup x = some .local := kx;rcases S.out x hx with z | z
     ·exact nomatch KQ.symm.trans z
     ·exact nomatch KQ.symm.trans z
    ·obtain⟨c',yX⟩:=hZ (env:=X.env) (x:=x) (l:=scope.names) (acc:=[]) (.inr (lookup_mem (S.vq x hx)));have:c'=c:=F_ ((cv x c' yX).symm.trans hc);subst this;obtain⟨oc,By,Cq⟩:=lM;exact⟨c',yX,oc,old _ _ By,Cq⟩
 ·obtain⟨v,oc,By,Cq⟩:=I.cell x c (cv x c e);exact⟨v,oc,old _ _ By,Cq⟩
 ·have kN:p∈X.pn++pins:=by simpa [Cx.comp] using hp
  obtain⟨q1,q2,q3,q4,q5⟩:=I.pin p kN;refine⟨old _ _ q1,q2,lt q1,fun z=>?_,q5⟩;rcases u_.mp (KP p.1 z) with y | y
  ·exact q3 y
  ·exact q4 y
 ·show (i7 σ own ix).length=(own++aV).length;have:=congrArg aaR S.KO;rw[a_,a_] at this;unfold i7;rw[G_,G_,a_,a_,this]
end
def rG (X:Cx) (ifs:List Expr) (t:TT):Prop :=
 ∀ (pins:List (Addr×Obj)) (s:h_) (σ:St) (H:Hp) (Q:Bool->Hp->Prop),Inv X pins σ H s->t σ H Q ->
  wpAny (model X.prog X.w) X.A (forIn ifs true fun c r=>if r=true then do let ok ←aaL c X.env (eval c X.env);pure (X8 ok) else pure (X8 r)) (TP X pins σ Q) X.xe s
def KR:TT:=fun _ H Q=>Q true H
theorem tD {X:Cx}:rG X [] KR:=fun _ _ _ H _ I h=>wpAny_tests_nil ⟨H,I,h⟩
theorem tE {X:Cx}{c:Expr}{t:TT} (h:PT X c t):rG X [c] t:=fun pins s σ H Q I q=>wpAny_tests_one (h pins s σ H Q I q)
def wF (own:List Str) (ix:List Nat) (wi:TI) (g:TG) (ti:TT) (te:TE):TE:=fun σ H Q=>wi σ H fun J H1 =>
 ∃ W:Nat->Nat->List V->St->Hp->Prop,(∃ m,W 0 m [] (i7 σ own ix) H1)/\∀ i m ys σ' H,W i m ys σ' H ->
  (J.stop i H/\ys.length<=sizeLine/\∀ D,H D=none->Q (.ref D) (upd H D (.lst ys))) ∨
  (J.go i H/\∀ x H',J.JI i H x H'->g x σ' H' fun σ2 H2=>ti σ2 H2 fun b H3=>if b=true then te σ2 H3 fun y H4=>ys.length<sizeLine/\∃ m',m'<m/\W (i+1) m' (ys++[y]) σ2 H4 else ∃ m',m'<m/\W (i+1) m' ys σ2 H3)
section
variable {X:Cx}{pins:List (Addr×Obj)}{σ:St}{scope:Scope}{own aV:List Str}{ix:List Nat}{tg iter elt:Expr}{ifs:List Expr}{pos:Pos}
set_option maxHeartbeats 4000000 in
theorem nA {s:h_}{H:Hp}{it:Addr}{fp:List Addr}{tn:Nat->Heap->Prop}{J:It}{g:TG}{ti:TT}{te:TE}{Q:VK}{W:Nat->Nat->List V->St->Hp->Prop}{E:Value->h_->Prop}{RR:Value->Addr->Result->h_->Prop} (hc:X.calm=true)
  (I:Inv X pins σ H s) (S:bL X.N X.env.scope scope own aV ix) (T:Turn X.prog X.w X.K tg J fp it tn) (st:tn 0 s.heap) (hf:∀ b∈fp,jm X pins H b)
  (hb:∀ (C:Addr) (s₀:h_) (H₀:Hp) (ex:List Addr) (pn:List (Addr×Obj)),PG (X.comp scope own aV C s₀ H₀ ex pn) tg g/\rG (X.comp scope own aV C s₀ H₀ ex pn) ifs ti/\PE (X.comp scope own aV C s₀ H₀ ex pn) elt te)
  (h0:∃ m,W 0 m [] (i7 σ own ix) H)
  (turn:∀ i m ys σ' H,W i m ys σ' H->(J.stop i H/\ys.length<=sizeLine/\∀ D,H D=none->Q (.ref D) (upd H D (.lst ys))) ∨
   (J.go i H/\∀ x H',J.JI i H x H'->g x σ' H' fun σ2 H2=>ti σ2 H2 fun b H3=>if b=true then te σ2 H3 fun y H4=>ys.length<sizeLine/\∃ m',m'<m/\W (i+1) m' (ys++[y]) σ2 H4 else ∃ m',m'<m/\W (i+1) m' ys σ2 H3))
  (PR:∀ (D C:Addr) (oC:Obj) (m:Str->k_ Value) (H':Hp) (s':h_),s'.heap.get? C=some oC->s'.heap.Ns C m->C≠X.env.locals->(X.s₀.heap.objs.size<=C)->(∀ x c,X.env.cells.lookup x=some c->c≠C)->(∀ p∈X.pn++pins,p.1≠C)->C∉X.fs->H' C=none ->
   Inv X pins σ H' s'->Q (.ref D) H'->RR (.ref D) C (.ok .next) s') :
  wpAny (model X.prog X.w) X.A (newList []) (fun acc s₃=>wpAny (model X.prog X.w) X.A (ZI scope X.env.globals (cB X.env scope.names []) [] X.env.qual none .none (some X.env)) (fun zD s₄ =>
   Yk (model X.prog X.w) X.A (.compStart (.ListComp elt [⟨tg,iter,ifs,0⟩] scope pos) 0 (.ref it) acc { zD with scope:=relabel scope X.env }) (RR acc zD.locals) s₄) E s₃) E s:=by
 refine WO (wpAny_newFunctionEnv S.cell (by intro y hy;simp at hy) (fun h₁ tF zE=>?_) S.kind);dsimp only at tF zE ⊢;generalize F0:s.heap.push { cls:=.type "list",dict:=none,data:=.seq ([]:List Value).toArray }=HH at tF zE ⊢;generalize KS:HH.objs.size=C at tF zE ⊢;generalize yO:s.heap.objs.size=D;have hC:C=D+1:=by rw[←KS,←F0,WI,yO]
 have D3:D≠C:=by rw[hC];exact J_ (Xp _)
 have below:∀ b,b<s.heap.objs.size->b≠C/\b≠D:=fun b hb=>by rw[yO] at hb;exact⟨by rw[hC];exact J_ (abI hb),J_ hb⟩
 have old:∀ b o,s.heap.get? b=some o->h₁.get? b=some o:=fun b o e=>zE.extBut b o (below b (r_ e)).1 (i_ _ (F0▸i_ _ e))
 have F3:h₁.get? D=some { cls:=.type "list",data:=.seq ([]:List Value).toArray 0 }:=zE.extBut _ _ D3 (i_ _ (by rw[←F0,←yO];exact v_ _ rfl));have x6:s.heap.objs.size<=C:=by rw[yO,hC];exact Yf _
 have zF:s.heap.objs.size<=D:=aai yO
 have KU:D∉fp:=fun hm=>by
  obtain⟨o,e,_⟩:=T.obj _ _ st D hm;exact (below D (r_ e)).2 rfl
 have PU:H D=none:=I.bf.fresh zF;obtain⟨gG,gI,gE⟩:=hb C s H fp (X.pn++pins);have I0:∀ tk,Inv (X.comp scope own aV C s H fp (X.pn++pins)) [] (i7 σ own ix) H { s with heap:=h₁,toks:=tk }:=fun tk=>I.comp S hf (fun b hb=>(T.obj _ _ st b hb).imp fun o e=>e.1) x6 old tF
 have KW:∀ x c,(X.comp scope own aV C s H fp (X.pn++pins)).env.cells.lookup x=some c->X.env.cells.lookup x=some c:=fun x c e=>jZ (S.has I.ok) (fun q=>by simp at q) e
 have nB:∀ x c,X.env.cells.lookup x=some c->c<s.heap.objs.size:=fun x c e=>by obtain⟨v,q⟩:=I.cell x c e;exact q.lt
 have zG:∀ b∈o0 X.stack,b<s.heap.objs.size:=fun b hb=>by
  rcases u_.mp (I.hU b hb) with z | z
  ·rw[z];exact I.lt
  ·obtain⟨_,o,ho,_⟩:=I.i6.mem z;exact r_ ho
 have F4:∀ (H':Hp) (ps:List (Addr×Obj)),(∀ p∈ps,p.1=D)->(∀ b∈fp,H' b=none)->∀ b∈fp,jm (X.comp scope own aV C s H fp (X.pn++pins)) ps H' b:=fun H' ps PX hn b hb=>by
  obtain⟨o,e,_⟩:=T.obj _ _ st b hb;obtain⟨f0,f1,f2,f3,f4,f5⟩:=hf b hb;refine⟨hn b hb,(below b (r_ e)).1,fun z=>?_,.inl hb,fun x c q=>f4 x c (KW x c q),fun p hp=>?_⟩
  ·rcases u_.mp (I.hU b z) with y | y
   ·exact f1 y
   ·exact f2 y
  ·rcases U_.mp hp with z | z
   ·exact f5 p z
   ·intro y;exact KU (by rw[←PX p z,y];exact hb)
 have F5:∀ {H':Hp}{σ':St}{s':h_}{o:Obj},Inv (X.comp scope own aV C s H fp (X.pn++pins)) [] σ' H' s'->s'.heap.get? D=some o->(∀ v,o.data≠.cell v)->H' D=none->Inv (X.comp scope own aV C s H fp (X.pn++pins)) [(D,o)] σ' H' s':=fun {H' σ' s' o} I' e hd hn =>
  I'.dH fun p hp=>by
   have e1:p=(D,o):=by simpa using hp
   subst e1;exact⟨e,hn,D3,fun z=>Wa _ (s_ (zG D z) zF),hd⟩
 have loop:∀ s₃:h_,s₃={ s with heap:=h₁,toks:=s.toks+([]:List (Str×Value)).length } ->
   Yk (model X.prog X.w) X.A (.compLoop (.ListComp elt [⟨tg,iter,ifs,0⟩] scope pos) 0 (.ref it) (.ref D) (Yi scope (cB X.env scope.names []) C X.env)) (RR (.ref D) C) s₃:=by
  rintro s₃ rfl;obtain⟨m0,w0⟩:=h0
  refine lR (fun n s'=>∃ i ys σ' H',Inv (X.comp scope own aV C s H fp (X.pn++pins)) [] σ' H' s'/\tn i s'.heap/\(∀ b∈fp,H' b=none)/\H' D=none /\
   (∃ (ao:List Value) (k:Nat),Vals ys ao/\s'.heap.get? D=some { cls:=.type "list",data:=.seq ao.toArray k })/\ys.length<=sizeLine/\W i n ys σ' H') ?_ m0
   ⟨0,[],_,H,I0 _,T.keep _ _ _ st fun b _ o e=>old b o e,fun b hb=>(hf b hb).1,PU,⟨[],0,.nil,F3⟩,Xo _,w0⟩
  rintro n s' ⟨i,ys,σ',H',I',ms,KY,x8,⟨ao,k,hv,PY⟩,KZ,w'⟩;have ID:=F5 I' PY (fun v q=>nomatch q) x8;rcases turn i n ys σ' H' w' with ⟨stop,hz,q⟩ | ⟨go,step⟩
  ·refine a9 (T.done (X.comp scope own aV C s H fp (X.pn++pins)) rfl rfl rfl hc i [(D,_)] s' σ' H' _ ID (F4 H' _ (fun p hp=>by rw[y_.mp hp]) KY) ms stop) fun r rz ⟨hr,I2⟩=>?_
   subst hr;show RR (.ref D) C (.ok .next) rz;have F6:rz.heap.get? D=some { cls:=.type "list",data:=.seq ao.toArray k }:=(I2.pin (D,_) (D_ _ (y_.mpr rfl))).1;obtain⟨m2,BA,_⟩:=I2.loc;obtain⟨oC,es,ep,Cr,_⟩:=id BA;have F7:iT X.prog X.w (upd H' D (.lst ys)) rz.heap:=I2.bf.D0 x8 ⟨KZ,ao,k,hv,F6⟩
   have un:Un (o0 X.stack) fp H (upd H' D (.lst ys)) s.heap rz.heap:=by
    have u0:Un (o0 X.stack) fp H H' s.heap rz.heap:=I2.base;refine⟨u0.keep,u0.slot,fun b o e hn hx=>?_,u0.there,fun b xs e=>?_,fun b o u e=>?_,fun b ps e=>?_⟩
    ·rw[aq (below b (r_ e)).2];exact u0.free b o e hn hx
    ·rw[aq (ax (u0.mr b xs e) x8)];exact u0.mr b xs e
    ·rw[aq (ax (u0.kQ b o u e) x8)];exact u0.kQ b o u e
    ·obtain⟨more,e'⟩:=u0.pb b ps e;exact⟨more,by rw[aq (ax e' x8)];exact e'⟩
   have IX:Inv X pins σ (upd H' D (.lst ys)) rz:=I.DW (ch:=fp) I2.os un F7 I2.bare fun b hb=>⟨(hf b hb).2.2.2.1,(hf b hb).2.1,(hf b hb).2.2.2.2.1,(hf b hb).2.2.2.2.2⟩
   refine PR D C oC m2 _ rz Cr BA ?_ ?_ (fun x c e z=>?_) (fun p hp z=>?_) (fun z=>?_) ?_ IX (q D x8)
   ·exact fun z=>Wa _ (s_ I.lt (by rw[←z];exact x6))
   ·exact P_ I.sz x6
   ·exact Wa _ (s_ (nB x c e) (by rw[z];exact x6))
   ·exact Wa _ (s_ (r_ (I.pin p hp).1) (by rw[z];exact x6))
   ·obtain⟨_,o,ho,_⟩:=I.i6.mem z;exact Wa _ (s_ (r_ ho) x6)
   ·rw[aq D3.symm];exact I2.free
  ·refine a9 (T.item (X.comp scope own aV C s H fp (X.pn++pins)) rfl rfl rfl hc i [(D,_)] s' σ' H' _ ID (F4 H' _ (fun p hp=>by rw[y_.mp hp]) KY) ms go) fun r s4 ⟨u,hr,h4⟩=>?_
   subst hr;refine a9 h4 fun _ s5 ⟨x,H5,I5,r5,y5,zd,Kj⟩=>?_
   have PZ:=I5.pin (D,_) (D_ _ (y_.mpr rfl));have Kk:=I5.pinned (F4 H5 _ (fun p hp=>by rw[y_.mp hp]) Kj) (T.obj _ _ zd);refine a9 (gG _ s5 σ' H5 x u _ Kk r5 (step x H5 y5)) fun _ s6 ⟨σ6,H6,I6,q6⟩=>?_
   refine a9 (gI _ s6 σ6 H6 _ I6 q6) fun ok s7 ⟨H7,I7,q7⟩=>?_
   have K0:∀ {σ8:St}{H8:Hp}{s8:h_},Inv (X.comp scope own aV C s H fp (X.pn++pins)) ([(D,({ cls:=.type "list",data:=.seq ao.toArray k }:Obj))]++hX fp s5.heap) σ8 H8 s8->tn (i+1) s8.heap/\(∀ b∈fp,H8 b=none):=fun {σ8 H8 s8} I8=>by
    refine⟨T.keep _ _ _ zd fun b hb o e=>(I8.pin (b,o) (D_ _ (D_ _ (cV hb e)))).1,fun b hb=>?_⟩;obtain⟨o,e,d⟩:=T.obj _ _ zd b hb;exact (I8.pin (b,o) (D_ _ (D_ _ (cV hb e)))).2.1
   have dK:∀ {σ8:St}{H8:Hp}{s8:h_},Inv (X.comp scope own aV C s H fp (X.pn++pins)) ([(D,({ cls:=.type "list",data:=.seq ao.toArray k }:Obj))]++hX fp s5.heap) σ8 H8 s8->s8.heap.get? D=some { cls:=.type "list",data:=.seq ao.toArray k }/\H8 D=none:=fun {σ8 H8 s8} I8=>by
    have z:=I8.pin (D,_) (D_ _ (Yd _ (y_.mpr rfl)));exact⟨z.1,z.2.1⟩
   cases ok with
   | false =>
    obtain⟨m',hm,w7⟩:=q7;obtain⟨P0,P3⟩:=K0 I7;obtain⟨P4,P5⟩:=dK I7;exact⟨m',hm,i+1,ys,σ6,H7,I7.dH (fun p hp=>nomatch hp),P0,P3,P5,⟨ao,k,hv,P4⟩,KZ,w7⟩
   | true =>
    refine a9 (gE _ s7 σ6 H7 _ I7 q7) fun xv s8 ⟨y,H8,I8,r8,K1,m',hm,w8⟩=>?_
    obtain⟨P6,P7⟩:=K0 I8;obtain⟨P8,K2⟩:=dK I8;refine append_at (hsz:=by rw[C_,←hv.length];exact Xk K1) P8 fun h9 K3 P9=>?_
    have I9:Inv (X.comp scope own aV C s H fp (X.pn++pins)) [] σ6 H8 { s8 with heap:=h9 }:=by
     refine (I8.dH (pins':=[]) fun p hp=>nomatch hp).turned (t':=s8.toks) (it:=D) (fun b o hb e=>K3.extBut b o hb e) K2 D3 (.inr zF) (fun x c e z=>?_) (fun p hp z=>?_)
     ·exact Wa _ (s_ (nB x c (KW x c e)) (by rw[z];exact zF))
     ·have kN:p∈X.pn++pins:=by simpa [Cx.comp] using hp
      exact Wa _ (s_ (r_ (I.pin p kN).1) (by rw[z];exact zF))
    refine⟨m',hm,i+1,ys++[y],σ6,H8,I9,T.keep _ _ _ P6 fun b hb o e=>K3.extBut b o (fun z=>KU (by rw[←z];exact hb)) e,P7,K2,⟨ao++[xv],k+1,hv.append (.cons r8 .nil),?_⟩,by rw[G_,Wf];exact K1,w8⟩;rw[P9,abJ]
 exact aap (loop _ rfl) (T.self _ 0 _ _ _ (T.keep _ _ _ st fun b _ o e=>old b o e) (loop _ rfl))
theorem Cs {wi:TI}{g:TG}{ti:TT}{te:TE} (hc:X.calm=true) (S:bL X.N X.env.scope scope own aV ix) (hi:PI X tg iter wi)
  (hb:∀ (C:Addr) (s₀:h_) (H₀:Hp) (ex:List Addr) (pn:List (Addr×Obj)),PG (X.comp scope own aV C s₀ H₀ ex pn) tg g/\rG (X.comp scope own aV C s₀ H₀ ex pn) ifs ti/\PE (X.comp scope own aV C s₀ H₀ ex pn) elt te)
  (hs:∀ x,WW iter X.env x=pure x:=by intro _;rfl):PE X (.ListComp elt [⟨tg,iter,ifs,0⟩] scope pos) (wF own ix wi g ti te):=by
 intro pins s σ H Q I h;rw[eval_ListComp];refine Yt (use:=none) rfl hs (dv (S.has I.ok)) S.kind S.names (a9 (hi pins s σ H _ I h) fun xv s₁ h₁=>a9 h₁ fun Kf s₂ h₂=>?_);obtain⟨it,fp,tn,J,H2,e,I2,T,ph,f2,W,h0,turn⟩:=h₂;subst e;refine nA (Q:=Q) (RR:=fun acc C=>compPost (model X.prog X.w) X.A X.xe none (EP X pins σ Q) acc C) hc I2 S T ph f2 hb h0 turn ?_;intro D C oC m H' s' Cr hn h1 h2 h3 h4 h5 h6 I' q;refine⟨m,hn,fun h' yP=>⟨.ref D,H',I'.turned (t':=s'.toks) (it:=C) (fun b o hb e=>yP.extBut b o hb e) h6 (M_ h1.symm) (.inr h2) h3 h4,rfl,q⟩⟩
theorem Ct {wi:TI}{g:TG}{ti:TT}{te:TE}{i:Nat}{y:Str}{py x9:Pos} (hc:X.calm=true) (hN:X.N.Nodup) (hy:X.N[i]? = some y) (hx:Loc X.env.scope y) (S:bL X.N X.env.scope scope own aV ix) (hi:PI X tg iter wi)
  (hb:∀ (C:Addr) (s₀:h_) (H₀:Hp) (ex:List Addr) (pn:List (Addr×Obj)),PG (X.comp scope own aV C s₀ H₀ ex pn) tg g/\rG (X.comp scope own aV C s₀ H₀ ex pn) ifs ti/\PE (X.comp scope own aV C s₀ H₀ ex pn) elt te)
  (Qa:Xd (.ListComp elt [⟨tg,iter,ifs,0⟩] scope pos) (some (.Name y py)) x9.line X.env=pure true:=by rfl)
  (hs : ∀ x, WW iter X.env x = pure x := by intro _; rfl) (hf : X.fn y = true ∨ X.env.scope.names.lookup y = some .local := by first | exact .inl rfl | exact .inr rfl | assumption) :
  PS X (.Assign [.Name y py] (.ListComp elt [⟨tg,iter,ifs,0⟩] scope pos) x9) (Ke (wF own ix wi g ti te) (dF i)):=by
 intro pins s σ H D I h;rw[exec_Assign_Name_used _ _ _ _ Qa];refine b_ (wpAny_standAt (b_ ?_));show wpAny _ X.A (do let _ ←comprehension (.ListComp elt [⟨tg,iter,ifs,0⟩] scope pos) scope X.env _ (newList []) false (eval iter X.env) (some (abV (.Name y py) X.env))) _ _ s
 refine b_ (Xg (Yt (use:=some (abV (.Name y py) X.env)) (Q:=fun _ s'=>SP X pins D .next s') rfl hs (dv (S.has I.ok)) S.kind S.names
  (a9 (hi pins s σ H _ I h) fun xv s₁ h₁=>a9 h₁ fun Kf s₂ h₂=>?_)) (fun _ s' hq=>o_ (o_ hq)) fun _ _ e=>e)
 obtain⟨it,fp,tn,J,H2,e,I2,T,ph,f2,W,h0,turn⟩:=h₂;subst e;refine nA (Q:=fun x H1=>dF i x σ H1 D.nx) (RR:=fun acc C=>compPost (model X.prog X.w) X.A X.xe (some (abV (.Name y py) X.env)) (fun _ s'=>SP X pins D .next s') acc C) hc I2 S T ph f2 hb h0 turn ?_;intro Da C oC m H' s' Cr hn h1 h2 h3 h4 h5 h6 I' q
 have Cq:∀ v,oC.data≠.cell v:=fun v z=>by
  obtain⟨o',es,ep,kR,pd,_⟩:=hn;rw[Cr] at kR;cases kR;rw[pd] at z;cases z
 have Ip:Inv X (pins++[(C,oC)]) σ H' s':=I'.dH fun p hp=>by
  rcases U_.mp hp with z | z
  ·exact I'.pin p (D_ _ z)
  ·have e1:p=(C,oC):=by simpa using z
   subst e1;exact⟨Cr,h6,h1,h5,Cq⟩
 show wpAny _ X.A (abV (.Name y py) X.env (.ref Da)) _ _ _;refine wpAny_assign_Name (jP (v:=.ref Da) Ip hN hy hx rfl (fun s2 I3=>?_) hf);have pc:=I3.pin (C,oC) (D_ _ (D_ _ (by simp)));obtain⟨o',es,ep,kR,r'⟩:=hn;rw[Cr] at kR;cases kR;refine⟨m,⟨oC,es,ep,pc.1,r'⟩,fun h' yP=>⟨_,H',(Inv.jU I3).turned (t':=s2.toks) (it:=C) (fun b o hb e=>yP.extBut b o hb e) h6 h1 (.inr h2) h3 h4,q⟩⟩
end
end L2
namespace L2
open PySem PySem.Spec PyProof.Rows
section
variable {X:Cx}
theorem ya:bv X (.builtin "isinstance") (fun xs H Q=>∃ x n t b,xs=[x,.ty n]/\jn X.K H x t/\YU X.K t (.type n)=some b/\Q (.bl b) H):=by
 intro pins s σ H xs us Q I r h;obtain⟨x,n,t,b,rfl,ty,e,q⟩:=h;obtain⟨u,w',rfl,rx,rc⟩:=vals2 r
 cases (show w'=XX n from rc)
 exact xU I rx ty e fun tk=>⟨.bl b,H,I.tok tk,rfl,q⟩
theorem K4 {x:Str}{n:YA}{pos:Pos} (hg:Gl X x) (hm:X.mg x=none) (hv:WQ x=some (.type n)) (hn:x ≠ "__name__" := by decide) (hd:(x==("__debug__" : Str))=false:=by decide):PE X (.Name x pos) (tC (.ty n)) :=
 BW (v:=.ty n) hg hm hv rfl hn hd
theorem lS {prog:L_}{w:World}{A:Wt}{bs:List Bool}{ao:List Value} (r:Vals (bs.map V.bl) ao):TruthOf prog w A (fun i v=>ao.toArray[i]? = some v) (fun i=>bs.getD i false):=by
 intro i v s Q E hv q;have zk:ao[i]? = some v:=by simpa using hv
 have hl:=r.length;rw[a_] at hl;have hi:i<ao.length:=(j_.mp zk).1
 have hb:(bs.map V.bl)[i]? = some (.bl (bs.getD i false)):=by
  rw[g_,B_,c_ (show i<bs.length by omega)];rfl
 obtain⟨u,hu,ru⟩:=Vals.get r hb;rw[zk] at hu
 cases hu
 cases (show v=ZB _ from ru)
 exact Wq q
theorem range_all (bs:List Bool):(Wg bs.length).all (fun i=>bs.getD i false)=bs.all id:=by
 rw[WK,T_,T_];constructor
 ·intro h b hb;obtain⟨i,hi,e⟩:=Xc.mp hb;have:=h i (Wv.mpr hi);rw[B_,c_ hi,e] at this;exact this
 ·intro h i hi;have zH:=Wv.mp hi;rw[B_,c_ zH];exact h _ (Ym zH)
theorem range_any (bs:List Bool):(Wg bs.length).any (fun i=>bs.getD i false)=bs.any id:=by
 rw[WK,Xr,Xr];constructor
 ·rintro⟨i,hi,e⟩;have zH:=Wv.mp hi;rw[B_,c_ zH] at e;exact⟨_,Ym zH,e⟩
 ·rintro⟨b,hb,e⟩;obtain⟨i,hi,e'⟩:=Xc.mp hb;refine⟨i,Wv.mpr hi,?_⟩;rw[B_,c_ hi,e'];exact e
theorem zI (hc:X.calm=true):bv X (.builtin "all") (fun xs H Q=>∃ (p:Addr) (bs:List Bool),xs=[.ref p]/\du X.K H p (bs.map V.bl)/\Q (.bl (bs.all id)) H):=by
 intro pins s σ H xs us Q I r h;obtain⟨p,bs,rfl,hq,q⟩:=h;obtain⟨u,rfl,rx⟩:=vals1 r
 cases (show u=V5 p from rx)
 obtain⟨ao,rv,pl,hz⟩:=I.list hq;have j3:p<s.heap.objs.size:=by obtain⟨_,e,_⟩:=pl.isList;exact r_ e
 have hl:=rv.length;rw[a_] at hl;refine call_all_walk (YV pl.isList ⟨s.heap.objs.size,_,_,_,_,_,_,rfl,Walks.list (A:=X.A.in1) (show X.A.in1.handled=none from I.ok.hd hc) s.heap.objs.size p (J_ j3) ao.toArray,⟨⟨_,v_ _ rfl,rfl,rfl⟩,pl.isList.push _⟩,lS rv,fun h' tk hk=>?_⟩);rw[C_,←hl,range_all];exact⟨.bl _,H,I.kept fun b o e=>hk b o (by simpa using J_ (r_ e)) (i_ _ e),rfl,q⟩
theorem zJ (hc:X.calm=true):bv X (.builtin "any") (fun xs H Q=>∃ (p:Addr) (bs:List Bool),xs=[.ref p]/\du X.K H p (bs.map V.bl)/\Q (.bl (bs.any id)) H):=by
 intro pins s σ H xs us Q I r h;obtain⟨p,bs,rfl,hq,q⟩:=h;obtain⟨u,rfl,rx⟩:=vals1 r
 cases (show u=V5 p from rx)
 obtain⟨ao,rv,pl,hz⟩:=I.list hq;have j3:p<s.heap.objs.size:=by obtain⟨_,e,_⟩:=pl.isList;exact r_ e
 have hl:=rv.length;rw[a_] at hl;refine call_any_walk (YV pl.isList ⟨s.heap.objs.size,_,_,_,_,_,_,rfl,Walks.list (A:=X.A.in1) (show X.A.in1.handled=none from I.ok.hd hc) s.heap.objs.size p (J_ j3) ao.toArray,⟨⟨_,v_ _ rfl,rfl,rfl⟩,pl.isList.push _⟩,lS rv,fun h' tk hk=>?_⟩);rw[C_,←hl,range_any];exact⟨.bl _,H,I.kept fun b o e=>hk b o (by simpa using J_ (r_ e)) (i_ _ e),rfl,q⟩
def Qb:V->k_ Int->k_ Int->Hp->VK->Prop:=fun x lo hi H Q=>∃ z,x=.str z/\z.length<=sizeLine/\Q (.str (Xs z lo hi)) H
theorem F8:KC X Qb:=by
 intro pins s σ H x v vl vu lo hi sl Q I rx hs pl pu h;obtain⟨z,rfl,hz,q⟩:=h;obtain⟨t,rfl⟩:=rx;refine⟨"str",_,F.slot_str_getitem.lookup,typeIs_str _ _ _,?_⟩;have fin:(Xs z lo hi).length<=sizeLine/\∀ t' k,EP X pins σ Q (.str (Xs z lo hi) t') { s with toks:=k }:=⟨P_ (Txt.slice_le z _ _) hz,fun t' k=>⟨.str _,H,I.tok k,⟨t',rfl⟩,q⟩⟩;obtain⟨o,ho,hc,hd⟩:=hs
 cases pl with
 | none =>
  cases pu with
  | none=>exact XO (l:=none) (u:=none) (st:=none) ⟨o,ho,hc,hd⟩ rfl (Zi fin)
  | int j uj=>exact XO (l:=none) (u:=some (j,uj)) (st:=none) ⟨o,ho,hc,hd⟩ rfl (Zi fin)
 | int i ui =>
  cases pu with
  | none=>exact XO (l:=some (i,ui)) (u:=none) (st:=none) ⟨o,ho,hc,hd⟩ rfl (Zi fin)
  | int j uj=>exact XO (l:=some (i,ui)) (u:=some (j,uj)) (st:=none) ⟨o,ho,hc,hd⟩ rfl (Zi fin)
end
theorem Cu {α:Type}{xs:List α}{i:Int} (h0:0<=i) (h1:i<xs.length):∃ v,v∈xs/\xs[i.toNat]? = some v/\pi xs i=some v:=by
 obtain⟨n,rfl⟩:=Ww h0;have hn:n<xs.length:=by omega
 exact⟨xs[n],Ym hn,by simp [hn],bg (c_ hn)⟩
theorem mV {α:Type}{xs:List α}{i m:Int} (h0:0<m) (h1:m<=xs.length):∃ v,v∈xs/\xs[(i % m).toNat]? = some v/\pi xs (i % m)=some v :=
 Cu (W5 _ (by omega)) (by have:=X2 i h0;omega)
end L2
namespace L2
open PySem PySem.Spec PyProof.Rows
mutual
inductive cC (K:e_) (H:Hp):V->K_->Prop
 | aK:cC K H .aK .none
 | bl (b:Bool):cC K H (.bl b) (.bool b)
 | int (i:Int):cC K H (.int i) (.int i)
 | str (x:Str):cC K H (.str x) (.str x)
 | lst {a:Addr}{xs:List V}{ds:List K_}:du K H a xs->dX K H xs ds->cC K H (.ref a) (.list ds)
 | tup {a:Addr}{xs:List V}{ds:List K_}:eG K H a xs->dX K H xs ds->cC K H (.ref a) (.tuple ds)
inductive dX (K:e_) (H:Hp):List V->List K_->Prop
 | nil:dX K H [] []
 | cons {x:V}{d:K_}{xs:List V}{ds:List K_}:cC K H x d->dX K H xs ds->dX K H (x::xs) (d::ds)
end
theorem cC.reads {X:Cx}{pins:List (Addr×Obj)}{σ:St}{H:Hp}{s:h_} (I:Inv X pins σ H s) {v:V}{d:K_} (h:cC X.K H v d):∀ u,RelV v u->∃ as,Reads s.heap u d as :=
 cC.rec (motive_1:=fun v d _=>∀ u,RelV v u->∃ as,Reads s.heap u d as) (motive_2:=fun xs ds _=>∀ us,Vals xs us->∃ as,Yu s.heap us ds as)
  (fun u r=>by cases (show u=XW from r);exact⟨_,.none⟩)
  (fun b u r=>by cases (show u=ZB b from r);exact⟨_,.bool b⟩)
  (fun i u r=>by obtain⟨t,rfl⟩:=(show ∃ t,u=Y8 i t from r);exact⟨_,.int i t⟩)
  (fun x u r=>by obtain⟨t,rfl⟩:=(show ∃ t,u=Z3 x t from r);exact⟨_,.str x t⟩)
  (fun {a xs ds} hq _ ih u r=>by
   cases (show u=V5 a from r)
   obtain⟨ao,rv,pl,_⟩:=I.list hq;obtain⟨o,ho,hc,n,hd⟩:=pl.isList;obtain⟨as,ra⟩:=ih ao rv;exact⟨_,.list ho hc hd (by simpa using ra)⟩)
  (fun {a xs ds} hq _ ih u r=>by
   cases (show u=V5 a from r)
   obtain⟨ao,rv,pl,_⟩:=I.tuple hq;obtain⟨o,ho,hc,n,hd⟩:=pl;obtain⟨as,ra⟩:=ih ao rv;exact⟨_,.tuple ho hc hd (by simpa using ra)⟩)
  (fun us r=>by cases r;exact⟨_,.nil⟩)
  (fun {x d xs ds} _ _ K5 Os us r=>by
   cases r with
   | cons r1 r2 =>
    obtain⟨as,ra⟩:=K5 _ r1;obtain⟨bs,rb⟩:=Os _ r2;exact⟨_,.cons ra rb⟩) h
theorem du.same {K:e_}{H H':Hp}{a:Addr}{xs:List V} (e:ah H H') (h:du K H a xs):du K H' a xs:=e.seq h
theorem eG.same {K:e_}{H H':Hp}{a:Addr}{xs:List V} (e:ah H H') (h:eG K H a xs):eG K H' a xs:=by
 rcases h with (h | ⟨o,h⟩) | h
 ·exact .inl (.inl (e _ _ h))
 ·exact .inl (.inr ⟨o,e _ _ h⟩)
 ·exact .inr h
theorem cC.same {K:e_}{H H':Hp} (e:ah H H') {v:V}{d:K_} (h:cC K H v d):cC K H' v d :=
 cC.rec (motive_1:=fun v d _=>cC K H' v d) (motive_2:=fun xs ds _=>dX K H' xs ds) .aK .bl .int .str (fun q _ ih=>.lst (q.same e) ih) (fun q _ ih=>.tup (q.same e) ih) .nil (fun _ _ a b=>.cons a b) h
section
variable {X:Cx}
def Cv (K:e_) (neg:Bool):R2:=fun x y H Q=>∃ d e,cC K H x d/\cC K H y e/\H_ d=true/\H_ e=true/\Q (.bl (if neg then !PyData.eqv d e else O_ d e)) H
theorem F9 (hu:X.A.units+64<cLine):fG X (Wo .Eq) (Cv X.K false):=by
 intro pins s σ H x y v u Q I rx ry h;obtain⟨d,e,hd,he,s1,s2,q⟩:=h;obtain⟨as,ra⟩:=hd.reads I v rx;obtain⟨bs,rb⟩:=he.reads I u ry;exact eq_dataH ra rb s1 s2 hu ⟨.bl _,H,I,rfl,q⟩
theorem Ga (hu:X.A.units+64<cLine):fG X (Wo .NotEq) (Cv X.K true):=by
 intro pins s σ H x y v u Q I rx ry h;obtain⟨d,e,hd,he,s1,s2,q⟩:=h;obtain⟨as,ra⟩:=hd.reads I v rx;obtain⟨bs,rb⟩:=he.reads I u ry;exact ne_dataH ra rb s1 s2 hu ⟨.bl _,H,I,rfl,q⟩
end
end L2
namespace L2
open PySem PySem.Spec PyProof.Rows
def Qc (φ:k_ Value->Prop) (e:Addr) (h:Heap):Prop:=∃ o fs,h.get? e=some o/\o.data=.fields fs/\φ fs[2]?
end L2
namespace L2
open PySem PySem.Spec PyProof.Rows
noncomputable abbrev Gb:=Hp->k_ Value->Prop
structure Tz (φ:Gb) (P:L_) (w:World) (outer:List Env) (H H':Hp) (s:h_) (ea:Addr) (cls:Value) (s':h_):Prop where
 os:s'.os=s.os
 bare:Zt s'.gens
 cx:Qc (φ H') ea s'.heap
 un:Un (o0 outer) [] H H' s.heap s'.heap
 VF:∃ B a0,Heap.FlyingW B outer ea cls a0 s'.heap/\iT P w H' B/\(∀ b o,s.heap.get? b=some o->H b=none->b∉o0 outer->B.get? b=some o)/\(∀ b o,s.heap.get? b=some o->b∉o0 outer->∃ o',B.get? b=some o')
def TB (φ:Gb) (P:L_) (w:World):vj:=fun outer H s E e s'=>∃ ea cls H',e=.ref ea/\Tz φ P w outer H H' s ea cls s'/\E cls none H'
end L2
namespace L2
open PySem PySem.Spec PyProof.Rows
def XP (φ:Gb) (X:Cx) (pins:List (Addr×Obj)) (σ:St) (E:XK) (ev:Value) (s':h_):Prop:=∃ H s0,Inv X pins σ H s0/\TB φ X.prog X.w X.stack H s0 E ev s'
noncomputable abbrev TX:=St->Hp->VK->XK->Prop
end L2
namespace L2
open PySem PySem.Spec PyProof.Rows
structure D4 (k:Nat) (A:Wt):Prop where
 dp:A.depth+3*k+5<aaP
 un:A.units+16*k+200<cLine
structure K6 (P:L_) (w:World) (K:e_) (mg:Str->k_ Value) (base:Heap) (k:Nat) (f:Addr) (fd:WJ) (ps:List Str) (sp:Sp):Prop where
 len:∀ vs H Q E,sp vs H Q E->vs.length=ps.length
 run:∀ (A:Wt) (outer:List Env) (s:h_) (H:Hp) (args:Args) (us:List Value) (vs:List V) (Q:VK) (E:XK),D4 k A->s9 P w K mg base A outer s H->abE s fd args (ps.zip us)->Vals vs us->sp vs H Q E ->
  Yk (model P w) A (.call (.ref f) args) (CR ny outer P w H s Q E) s
section
variable {X:Cx}{k:Nat}{f:Addr}{fd:WJ}{ps:List Str}{sp:Sp}{dvs:List V}{ds:List Value}{x:Str}{p pos:Pos}{e:Expr}{es:List Expr}{t:TA}{E:XK}
theorem K7 (F:K6 X.prog X.w X.K X.mg X.base k f fd ps sp) (hr:D4 k X.A) (hg:Gl X x) (hm:X.mg x=some (.ref f)) (hk:Ws X.K (.ref f)=true) (hb:Binds X.K fd ps ds) (hd:Vals dvs ds)
  (ha:PA X (e::es) t) (lP:(x==("__debug__" : Str))=false:=by decide) (he:N_ (e::es) X.env=(false,eval e X.env)::N_ es X.env:=by rfl) (BB:(Xm pos (N_ es X.env)).any (·.1)=false:=by rfl) :
  PE X (.Call (.Name x p) (e::es) [] pos) (zn sp dvs E t):=by
 intro pins s σ H Q I h;refine X0 (jQ I hg hm ?_ lP);refine X1 (h₀:=X.base) I.ok.mod.EY hk (a9 (ha pos pins s σ H _ I h) fun us s1 ⟨vs,H1,I1,r,q⟩=>⟨I1.jK,?_⟩) he BB;have r2:Vals (vs++dvs) (us++ds):=r.append hd;have hl:(us++ds).length=ps.length:=by rw[←r2.length];exact F.len _ _ _ _ q
 refine wpAny_call (Zv (F.run X.A X.stack s1 H1 ⟨us,[]⟩ (us++ds) (vs++dvs) Q E hr I1.FG (hb s1 us I1.jK hl) r2 q) fun r s' hq=>?_)
 cases r with
 | error e=>exact Wi hq
 | ok fl =>
  cases fl with
  | ret u=>exact I1.after hq
  | next=>exact Wi hq
  | brk=>exact Wi hq
  | cont=>exact Wi hq
end
structure Gd (K:e_) (B:Addr) (m:Str) (f:Addr):Prop where
 sp:ZR K (.ref B) "__getattribute__" = some (some (.builtin "type.__getattribute__"))
 rd:ace K B (.type "type")=true
 fd:acf K (.ref B) (.type "type") m=some (.val (.ref f))
 kp:Ws K (.ref f)=true
section
variable {X:Cx}{CX:vj}{k:Nat}{f B:Addr}{fd:WJ}{ps:List Str}{sp:Sp}{dvs:List V}{ds:List Value}{E:XK}{x m:Str}{p pos apos:Pos}{e:Expr}{es:List Expr}{t:TA}
theorem Cw {pl:Sem Bool} (hg:Gl X x) (FS:X.mg x=some (.ref B)) (c:Gd X.K B m f) (F:b8 X.prog X.w X.K X.mg X.base CX k f fd ps sp) (hr:cj k X.A) (hb:Binds X.K fd ps ds) (hd:Vals dvs ds) (hx:Passes CX X E) (ha:PA X (e::es) t)
  (lP:(x==("__debug__" : Str))=false:=by decide) (Ph:N_ (e::es) X.env=(false,eval e X.env)::N_ es X.env:=by rfl) (BB:(Xm pos (N_ es X.env)).any (·.1)=false:=by rfl)
  (ht:eval (.Call (.Attribute (.Name x p) m apos) (e::es) [] pos) X.env=(do
   let ov ←eval (.Name x p) X.env
   aa1 apos.atName
   let (f,first) ←aae [ov] (abY ov m pl)
   callWith pos f first (Xm pos (N_ (e::es) X.env)) (ZH pos (Yh [] X.env))):=by rfl) :
  PE X (.Call (.Attribute (.Name x p) m apos) (e::es) [] pos) (zn sp dvs E t):=by
 intro pins s σ H Q I h;refine Y5 (pl:=pl) (jQ I hg FS ?_ lP) ht;refine PySem.W.method_cls I.jK c.sp (PySem.W.cls_value I.jK c.rd c.fd rfl ?_);have I':=I.tok (s.toks+1);refine X1 (first:=[]) (h₀:=X.base) I.ok.mod.EY c.kp (a9 (ha pos pins { s with toks:=s.toks+1 } σ H _ I' h) fun us s2 ⟨vs,H2,I2,r,q2⟩=>⟨I2.jK,?_⟩) Ph BB;exact rp F hr hb hd hx I2 r q2
end
end L2
namespace L2
open PySem PySem.Spec PyProof.Rows
section
variable {X:Cx}
theorem bv.imp {f:Value}{r r':List V->Hp->VK->Prop} (h:bv X f r) (hi:∀ xs H Q,r' xs H Q->r xs H Q):bv X f r':=fun pins s σ H xs us Q I rs q=>h pins s σ H xs us Q I rs (hi _ _ _ q)
def K8 (K:e_):List V->Hp->VK->Prop:=fun xs H Q=>∃ p ys,xs=[.ref p]/\du K H p ys/\∀ l,H l=none->Q (.ref l) (upd H l (.tup ys))
theorem yb:bv X (.type "tuple") (K8 X.K):=pp.imp fun _ _ _ ⟨p,ys,e,h,q⟩=>⟨p,ys,e,.inl ⟨h,q⟩⟩
end
theorem ah.upd {H H':Hp}{l:Addr}{o:HO} (s:ah H H') (h:H' l=none):ah H (upd H' l o):=fun b u e=>by
 have e':=s b u e;rw[aq (ax e' h)];exact e'
theorem ah.put {H:Hp}{l:Addr}{o:HO} (h:H l=none):ah H (L2.upd H l o):=(ah.refl H).upd h
end L2
namespace SH
open PySem L2
noncomputable abbrev zK:Str := "abcdefghijklmnopqrstuvwxyz"
noncomputable def vt (c:Nat):Bool := !(WT zK ⟨#[c]⟩ 0 zK.length 1).isEmpty
noncomputable def az (x:Str):Bool:=decide (1<=x.length)&&decide (x.length<=8)&&x.cps.toList.all vt
theorem dw {z:Str}{i m:Int} (h0:0<m) (h1:m<=z.length):∃ c,c∈z.cps.toList/\pi z.cps.toList (i % m)=some c:=by
 obtain⟨v,hm,_,e⟩:=mV (xs:=z.cps.toList) (i:=i) h0 (by simpa [abj] using h1);exact⟨v,hm,e⟩
theorem iV (c:Nat):(⟨#[c]⟩:Str).length=1:=rfl
theorem app_list (a y:Str):(a++y).cps.toList=a.cps.toList++y.cps.toList:=by
 rw[PySem.Str.cps_append,Array.toList_append]
theorem tG {c:Nat}:vt c=true↔c∈zK.cps.toList:=by
 unfold vt;rw[PySem.StrLaws.found_one,Yc]
theorem Cy {c:Nat} (h:vt c=true):c<0x110000:=by
 have h1:∀ d∈zK.cps.toList,d<0x110000:=by decide +kernel
 exact h1 c (tG.mp h)
theorem tH {z:Str} (h:az z=true):1<=z.length/\z.length<=8/\∀ c∈z.cps.toList,vt c=true:=by
 unfold az at h;simp only[t_,Yc,T_] at h;exact⟨h.1.1,h.1.2,h.2⟩
theorem fT {z:Str} (h:az z=true):abK z=true:=by
 unfold abK;rw[←Array.all_toList,T_];intro c hc;exact d_ (Cy ((tH h).2.2 c hc))
theorem Cz {z:Str} (h1:1<=z.length) (h2:z.length<=8) (h3:∀ c∈z.cps.toList,vt c=true):az z=true:=by
 unfold az;simp only[t_,Yc,T_];exact⟨⟨h1,h2⟩,h3⟩
end SH
namespace SH
open PySem L2
noncomputable abbrev Nd:=Str×Int
noncomputable def wG (n:Nd):Int:=min (n.2+1) 12
def aQ:Int->List Nd->Prop
 | _,[]=>True
 | d,n::r=>az n.1=true/\0<=n.2/\n.2<=d/\aQ (wG n) r
noncomputable def aN:Int->List Nd->Int
 | d,[]=>d
 | _,n::r=>aN (wG n) r
theorem aY:∀ {d:Int}{a b:List Nd},aQ d (a++b)↔aQ d a/\aQ (aN d a) b
 | d,[],b=>by simp [aQ,aN]
 | d,n::r,b=>by
  have ih:=aY (d:=wG n) (a:=r) (b:=b);simp only[Z9,aQ,aN,ih];constructor
  ·rintro⟨h1,h2,h3,h4,h5⟩;exact⟨⟨h1,h2,h3,h4⟩,h5⟩
  ·rintro⟨⟨h1,h2,h3,h4⟩,h5⟩;exact⟨h1,h2,h3,h4,h5⟩
theorem bm:∀ {d:Int}{a b:List Nd},aN d (a++b)=aN (aN d a) b
 | _,[],_=>rfl
 | _,n::r,b=>bm (d:=wG n) (a:=r) (b:=b)
theorem ia {d:Int}{ns:List Nd}:aQ d ns->∀ n∈ns,az n.1=true/\0<=n.2:=by
 induction ns generalizing d with
 | nil=>intro _ n h;exact nomatch h
 | cons m r ih =>
  rintro⟨h1,h2,_,h4⟩ n hn;rcases u_.mp hn with e | e
  ·rw[e];exact⟨h1,h2⟩
  ·exact ih h4 n e
noncomputable def i9 (ns:List Nd):List K_:=ns.map fun n=>.tuple [.str n.1,.int n.2]
theorem dI:∀ {ns:List Nd},(∀ n∈ns,abK n.1=true)->Q_ (i9 ns)=true
 | [],_=>rfl
 | n::r,h=>by
  have h1:=h n V_;have h2:=dI (ns:=r) fun y hy=>h y (I_ _ hy)
  unfold i9 at h2 ⊢;simp only[p_,Q_,WC,h1,h2,Bool.and_self]
theorem eP:∀ ns:List Nd,V9 (i9 ns)<=1
 | []=>Xo _
 | n::r=>by
  have h2:=eP r;unfold i9 at h2 ⊢;simp only[p_,V9,WY];omega
end SH
namespace L2
open PySem PySem.Spec PyProof.Rows
noncomputable def Ge (lo st:Int) (n:Nat):It:=⟨fun i _=>i<n,fun i H x H'=>H'=H/\x=.int (lo+i*st),fun i _=>n<=i⟩
theorem tI {P:L_}{w:World}{K:e_}{tg:Expr} (it:Addr) (lo c:Int) (n:Nat):Turn P w K tg (Ge lo c n) [it] it (fun i h=>aaN h it (lo+(i:Nat)*c) ((n:Int)-(i:Nat)) c) where
 mem:=by simp
 obj:=fun i h st b hb=>by
  have e:b=it:=by simpa using hb
  subst e
  exact⟨_,st,fun v z=>by
   have z':aaO _=Z6 v:=z
   cases z'⟩
 keep:=fun i h h' st k=>k it (by simp) _ st
 item:=by
  intro X hP hw hK hc i pins s σ H E I hf st hg;subst hP hw hK;obtain⟨f0,f1,f2,f3,f4,f5⟩:=hf it (by simp);have W:=Walks.range (prog:=X.prog) (w:=X.w) (I.ok.hd hc) it lo c n;refine W.item i s _ _ hg st fun v h' tk hv ms kk=>?_
  obtain⟨t,rfl⟩:=hv;have I1:Inv X pins σ H { s with heap:=h',toks:=tk }:=I.turned (fun b o hb e=>kk b o (by simpa using hb) e) f0 f1 f3 f4 f5;exact⟨_,rfl,sX (s:={ s with heap:=h',toks:=tk }) (n := "range_iterator") ms rfl rfl (by decide) ⟨.int (lo+i*c),H,I1,⟨t,rfl⟩,⟨rfl,rfl⟩,ms,fun b hb=>(hf b hb).1⟩⟩
 done:=by
  intro X hP hw hK hc i pins s σ H E I hf st hg;subst hP hw hK;obtain⟨f0,f1,f2,f3,f4,f5⟩:=hf it (by simp);exact aah (I.ok.hd hc) st (by have:n<=i:=hg;omega) fun h' eb=>⟨rfl,I.turned (t':=s.toks) (fun b o hb e=>eb b o hb e) f0 f1 f3 f4 f5⟩
 self:=fun _ _ _ _ _ st h=>YR st h
end L2
namespace SH
open PySem L2
noncomputable def fU:V->K_
 | .str z=>.str z
 | _=>.none
theorem j4 {ls:List (List V)} (h:∀ l∈ls,l.length<=12):ls.flatten.length<=12*ls.length:=by
 induction ls with
 | nil=>exact x_ _
 | cons l r ih =>
  have h1:=h l V_;have h2:=ih fun y hy=>h y (I_ _ hy)
  rw[YW,G_,E_];omega
end SH
namespace SH
open PySem L2
def placesOk:Int->Int->List Int->Prop
 | _,_,[]=>True
 | lo,m,p::r=>lo<=p/\p<m/\placesOk (p+1) m r
noncomputable def b9:Int->List Int->Int
 | lo,[]=>lo
 | _,p::r=>b9 (p+1) r
theorem gV:∀ {lo m:Int}{a b:List Int},placesOk lo m (a++b)↔placesOk lo m a/\placesOk (b9 lo a) m b
 | lo,m,[],b=>by simp [placesOk,b9]
 | lo,m,p::r,b=>by
  have ih:=gV (lo:=p+1) (m:=m) (a:=r) (b:=b);simp only[Z9,placesOk,b9,ih];constructor
  ·rintro⟨h1,h2,h3,h4⟩;exact⟨⟨h1,h2,h3⟩,h4⟩
  ·rintro⟨⟨h1,h2,h3⟩,h4⟩;exact⟨h1,h2,h3,h4⟩
theorem gW:∀ {lo:Int}{a b:List Int},b9 lo (a++b)=b9 (b9 lo a) b
 | _,[],_=>rfl
 | _,p::r,b=>gW (lo:=p+1) (a:=r) (b:=b)
theorem aO:∀ {lo m:Int}{ps:List Int},placesOk lo m ps->∀ p∈ps,lo<=p/\p<m
 | _,_,[],_,_,hp=>nomatch hp
 | lo,m,q::r,h,p,hp=>by
  rcases u_.mp hp with e | e
  ·rw[e];exact⟨h.1,h.2.1⟩
  ·have:=aO h.2.2 p e;have:=h.1;omega
theorem places_len:∀ {lo m:Int}{ps:List Int},placesOk lo m ps->lo<=m->(ps.length:Int)<=m-lo
 | _,_,[],_,h=>by simp;omega
 | lo,m,p::r,k,h=>by
  have ih:=places_len k.2.2 (by have:=k.2.1;omega);have:=k.1;rw[E_];omega
noncomputable def b5 (n:Nat) (ps:List Int):List Int:=(ps.filter fun i=>decide ((n:Int)<=i)).map fun i=>i-n
noncomputable def linesOf (n:Nat) (ps:List Int):List Int:=ps.filter fun i=>decide (i<(n:Int))
theorem eQ {n:Nat}:∀ {lo m:Int}{ps:List Int},placesOk lo m ps->((linesOf n ps).length:Int)<=max ((n:Int)-lo) 0
 | lo,m,[],_=>by simp [linesOf];omega
 | lo,m,p::r,k=>by
  have ih:=eQ (n:=n) k.2.2;have h1:=k.1;unfold linesOf at ih ⊢;by_cases h:p<(n:Int)
  ·rw[XQ (by simpa using h),E_];omega
  ·rw[XR (by simpa using h)];omega
theorem fV {n:Nat}:∀ {lo m:Int}{ps:List Int},placesOk lo m ps->((b5 n ps).length:Int)<=max (m-max (n:Int) lo) 0
 | lo,m,[],_=>by simp [b5];omega
 | lo,m,p::r,k=>by
  have ih:=fV (n:=n) k.2.2;have h1:=k.1;have h2:=k.2.1;unfold b5 at ih ⊢;rw[a_] at ih ⊢;by_cases h:(n:Int)<=p
  ·rw[XQ (by simpa using h),E_];omega
  ·rw[XR (by simpa using h)];omega
theorem ib {n:Nat}{m:Int}{ps:List Int} (k:placesOk 0 m ps):∀ i∈linesOf n ps,0<=i/\i<(n:Int):=fun i hi=>by
 obtain⟨h1,h2⟩:=Xf.mp hi;exact⟨(aO k i h1).1,by simpa using h2⟩
theorem jp {n w:Nat}{ps:List Int} (k:placesOk 0 ((n:Int)+(w:Int)) ps):∀ i∈b5 n ps,0<=i/\i<(w:Int):=fun i hi=>by
 obtain⟨j,hj,rfl⟩:=z_.mp hi;obtain⟨h1,h2⟩:=Xf.mp hj;have h3:(n:Int)<=j:=by simpa using h2
 have:=(aO k j h1).2;omega
theorem vv {K:e_}{H:Hp}:∀ (ps:List Int),dX K H (ps.map V.int) (ps.map YB)
 | []=>.nil
 | p::r=>.cons (.int _) (vv r)
theorem ic:∀ (ps:List Int),Q_ (ps.map YB)=true
 | []=>rfl
 | p::r=>by
  have ih:=ic r;simp only[p_,Q_,WC,ih,Bool.and_self]
theorem nC:∀ (ps:List Int),V9 (ps.map YB)<=0
 | []=>x_ _
 | p::r=>by
  have ih:=nC r;simp only[p_,V9,WY];omega
theorem zL (ps:List Int):O_ (.list (ps.map YB)) (.list (ps.map YB))=true:=SeqAt.eqv_refl _ (by simp only[WC,ic])
theorem shaped_ints (ps:List Int):H_ (.list (ps.map YB))=true:=by
 have h2:=nC ps;unfold H_;rw[t_];refine⟨by simp only[WC,ic],d_ ?_⟩;simp only[WY];omega
theorem tJ {n:Nat}:∀ (ps:List Int),(linesOf n ps).length+(b5 n ps).length=ps.length
 | []=>rfl
 | p::r=>by
  have ih:=tJ (n:=n) r;unfold linesOf b5 at ih ⊢;rw[a_] at ih ⊢;by_cases h:p<(n:Int)
  ·rw[XQ (by simpa using h),XR (by simp;omega),E_,E_];omega
  ·rw[XR (by simpa using h),XQ (by simp;omega),E_,E_];omega
end SH
namespace L2
open PySem PySem.Spec PyProof.Rows
section
variable {κ:Type} [DecidableEq κ]
noncomputable def dJ (am:List (κ×V)) (k:κ):k_ V:=(am.find? fun kv=>decide (kv.1=k)).map (·.2)
noncomputable def putK (am:List (κ×V)) (k:κ) (v:V):List (κ×V) :=
 if (am.any fun kv=>decide (kv.1=k))=true then am.map (fun kv=>if kv.1=k then (kv.1,v) else kv) else am++[(k,v)]
theorem bT {p:κ×V}{r:List (κ×V)}{k:κ} (e:p.1=k):dJ (p::r) k=some p.2:=by simp [dJ,Xh,e]
theorem bU {p:κ×V}{r:List (κ×V)}{k:κ} (e:¬ p.1=k):dJ (p::r) k=dJ r k:=by simp [dJ,Xh,e]
theorem nD (k:κ):∀ am:List (κ×V),(am.any fun kv=>decide (kv.1=k))=(dJ am k).isSome
 | []=>rfl
 | p::r=>by
  rw[Ya];by_cases e:p.1=k
  ·simp only[bT e,d_ e,Bool.true_or,abo]
  ·rw[bU e,f_ e,abb];exact nD k r
theorem tK (k j:κ) (y:V):∀ am:List (κ×V),dJ (am.map fun kv=>if kv.1=k then (kv.1,y) else kv) j=(dJ am j).map fun x=>if j=k then y else x
 | []=>rfl
 | p::r=>by
  have ih:=tK k j y r;rw[p_];by_cases h:p.1=k
  ·rw[w_ h];by_cases e:p.1=j
   ·rw[bT (p:=(p.1,y)) e,bT e,Yy,w_ (e.symm.trans h)]
   ·rw[bU (p:=(p.1,y)) e,bU e,ih]
  ·rw[n_ h];by_cases e:p.1=j
   ·rw[bT (p:=p) e,bT e,Yy,n_ (fun z=>h (e.trans z))]
   ·rw[bU (p:=p) e,bU e,ih]
theorem qz (k j:κ) (y:V):∀ am:List (κ×V),dJ am k=none->dJ (am++[(k,y)]) j=if j=k then some y else dJ am j
 | [],_=>by
  by_cases e:k=j
  ·rw[w_ e.symm];exact bT (p:=(k,y)) e
  ·rw[n_ (fun z=>e z.symm)];exact bU (p:=(k,y)) e
 | p::r,hn=>by
  rw[Z9];have hk:¬ p.1=k:=fun z=>by rw[bT z] at hn;cases hn
  rw[bU hk] at hn;have ih:=qz k j y r hn;by_cases e:p.1=j
  ·rw[bT e,bT e,n_ (fun z=>hk (e.trans z))]
  ·rw[bU e,bU e,ih]
theorem zM (am:List (κ×V)) (k j:κ) (y:V):dJ (putK am k y) j=if j=k then some y else dJ am j:=by
 unfold putK;by_cases a:(am.any fun kv=>decide (kv.1=k))=true
 ·rw[w_ a,tK];rw[nD] at a;by_cases e:j=k
  ·obtain⟨x,hx⟩:=ZY.mp a;rw[w_ e,e,hx,Yy,w_ rfl]
  ·rw[n_ e]
   cases dJ am j with
   | none=>rfl
   | some x=>rw[Yy,n_ e]
 ·rw[n_ a];refine qz k j y am ?_;rw[nD] at a
  cases q:dJ am k with
  | none=>rfl
  | some x=>rw[q] at a;exact (a rfl).elim
theorem tL (am:List (κ×V)) (k:κ) (v:V):(putK am k v).length<=am.length+1:=by
 unfold putK;split
 ·rw[a_];omega
 ·rw[G_,E_,aay];omega
theorem jO.qA {o:k_ V}{u:k_ Value} (r:jO o u):o.isSome=u.isSome:=by
 cases o with
 | none=>cases u with
  | none=>rfl
  | some _=>exact (show False from r).elim
 | some _=>cases u with
  | none=>exact (show False from r).elim
  | some _=>rfl
theorem KV.val {am:List (κ×V)}{vs:List (κ×Value)} (r:KV am vs) (k:κ):jO (dJ am k) (abL vs k):=by
 unfold KV at r
 induction r with
 | nil=>exact WG
 | @cons p q ps qs h t ih =>
  obtain⟨h1,h2⟩:=h;by_cases e:p.1=k
  ·have e':q.1=k:=h1.symm.trans e;have b:abL (q::qs) k=some q.2:=by simp [abL,Xh,e']
   rw[bT e,b];exact h2
  ·have e':¬ q.1=k:=fun z=>e (h1.trans z)
   have b:abL (q::qs) k=abL qs k:=by simp [abL,Xh,e']
   rw[bU e,b];exact ih
theorem KV.any {am:List (κ×V)}{vs:List (κ×Value)} (r:KV am vs) (k:κ):(am.any fun kv=>decide (kv.1=k))=vs.any fun kv=>decide (kv.1=k):=by
 unfold KV at r
 induction r with
 | nil=>rfl
 | cons h t ih=>rw[Ya,Ya,ih,h.1]
theorem KV.Qd {am:List (κ×V)}{vs:List (κ×Value)} (r:KV am vs) (k:κ) {y:V}{u:Value} (ry:RelV y u) :
  KV (am.map fun kv=>if kv.1=k then (kv.1,y) else kv) (vs.map fun kv=>if kv.1=k then (kv.1,u) else kv):=by
 unfold KV at r ⊢
 induction r with
 | nil=>exact .nil
 | @cons p q ps qs h t ih =>
  rw[p_,p_];refine .cons ?_ ih;obtain⟨h1,h2⟩:=h;by_cases e:p.1=k
  ·rw[w_ e,w_ (h1.symm.trans e)];exact⟨h1,ry⟩
  ·rw[n_ e,n_ (fun z=>e (h1.trans z))];exact⟨h1,h2⟩
theorem KV.put {am:List (κ×V)}{vs:List (κ×Value)} (r:KV am vs) (k:κ) {y:V}{u:Value} (ry:RelV y u):KV (putK am k y) (ab1 vs k u):=by
 unfold putK ab1;rw[r.any k];by_cases e:(vs.any fun kv=>decide (kv.1=k))=true
 ·rw[w_ e,w_ e];exact r.Qd k ry
 ·rw[n_ e,n_ e];exact Paired.snoc r ⟨rfl,ry⟩
theorem KV.length {am:List (κ×V)}{vs:List (κ×Value)} (r:KV am vs):am.length=vs.length:=ZX r
end
theorem zN {P:L_}{w:World}{k:Key}{u:Value} (r:RelV (kV k) u):(aZ P w).is k u=true:=by
 cases k with
 | inl i=>obtain⟨t,e⟩:=(show ∃ t,u=Y8 i t from r);subst e;exact sS P w i t
 | inr x=>obtain⟨t,e⟩:=(show ∃ t,u=Z3 x t from r);subst e;exact sT P w x t
theorem qB {P:L_}{w:World}:∀ {ks:List Key}{us:List Value},Vals (ks.map kV) us->ItemsAre (aZ P w) ks us
 | [],_,r=>by rw[WX] at r;cases r;exact .nil
 | k::ks,_,r=>by
  rw[p_] at r
  cases r with
  | cons h t=>exact .cons (zN h) (qB t)
abbrev KT (H:Hp):List (List Key×V)->List (List Key×Addr×Value)->Prop:=aac fun p q=>p.1=q.1/\H q.2.1=some (.tup (p.1.map kV))/\RelV p.2 q.2.2
theorem KT.val {H:Hp}{am:List (List Key×V)}{xs:List (List Key×Addr×Value)} (r:KT H am xs) (k:List Key):jO (dJ am k) ((atKey xs k).map (·.2)):=by
 induction r with
 | nil=>exact WG
 | @cons p q ps qs h t ih =>
  obtain⟨h1,_,h2⟩:=h;by_cases e:p.1=k
  ·have e':q.1=k:=h1.symm.trans e;have b:atKey (q::qs) k=some q.2:=by simp [atKey,Xh,e']
   rw[bT e,b];exact h2
  ·have e':¬ q.1=k:=fun z=>e (h1.trans z)
   have b:atKey (q::qs) k=atKey qs k:=by simp [atKey,Xh,e']
   rw[bU e,b];exact ih
section
variable {P:L_}{w:World}{H:Hp}{h:Heap}{a:Addr}
theorem D5 {u:HO} (ok:iT P w H h) (e:Rd H a u):aU P w H h a u:=e.ok ok
theorem K9 {am:List (Key×V)} (ok:iT P w H h) (e:Rd H a (.dK am)):am.length<=sizeLine/\(a==XY)=false/\∃ vs,KV am vs/\h.DictOf (aZ P w) a vs :=
 show aU P w H h a (.dK am) from D5 ok e
theorem zO {ks:List Key} (ok:iT P w H h) (e:H a=some (.tup (ks.map kV))):(abU (aZ P w)).is h ks a:=by
 obtain⟨_,ao,r,o,h1,h2,n,h3⟩:=(show aU P w H h a (.tup (ks.map kV)) from ok a _ e);exact⟨o,ao.toArray,n,h1,h2,h3,by simpa using qB r⟩
theorem La {am:List (List Key×V)} (ok:iT P w H h) (e:Rd H a (.dT am)):am.length<=sizeLine/\(a==XY)=false /\
  ∃ xs,KT H am xs/\h.DictOfH (abU (aZ P w)) a xs:=by
 obtain⟨z,y,xs,r,o,es,ep,h1,h2,h3,h4,h5⟩:=(show aU P w H h a (.dT am) from D5 ok e);refine⟨z,y,xs,r,o,es,ep,h1,h2,h3,h4,fun x hx=>?_,h5⟩
 have all:∀ {l:List (List Key×V)}{m:List (List Key×Addr×Value)},KT H l m->∀ x∈m,(abU (aZ P w)).is h x.1 x.2.1:=by
  intro l m q
  induction q with
  | nil=>intro x hx;exact nomatch hx
  | @cons p q ps qs hq t ih =>
   intro x hx;rcases u_.mp hx with e | hx
   ·subst e;exact zO ok (by rw[←hq.1];exact hq.2.1)
   ·exact ih x hx
 exact all r x hx
end
def zP (H:Hp) (a:Addr) (y:V) (r:k_ V):Prop :=
 (∃ am k,Rd H a (.dK am)/\y=kV k/\r=dJ am k)∨∃ am k b,Rd H a (.dT am)/\y=.ref b/\H b=some (.tup (k.map kV))/\r=dJ am k
theorem zP.k {H:Hp}{a:Addr}{am:List (Key×V)}{k:Key} (e:H a=some (.dK am)):zP H a (kV k) (dJ am k):=.inl ⟨am,k,.inl e,rfl,rfl⟩
section
variable {X:Cx}{pins:List (Addr×Obj)}{σ:St}{H:Hp}{s:h_}{a:Addr}{y v:V}{u r:Value}{o:k_ V}{A:Wt}{E:Value->h_->Prop}
theorem Inv.big (I:Inv X pins σ H s):XY<s.heap.objs.size:=by
 have h:mainGlobals<s.heap.objs.size:=(I.mod.glob.keeps I.bk).lt;exact Nat.lt_trans (by decide) h
theorem Qe {Q:Value->h_->Prop} (hu:A.units+1<cLine) (I:Inv X pins σ H s) (g:zP H a y o) (ry:RelV y u) (h:∀ s',Inv X pins σ H s'->Q (.bool o.isSome) s') :
  wpAny (model X.prog X.w) A (Wo .In u (.ref a)) Q E s:=by
 rcases g with ⟨am,k,e,ey,l⟩ | ⟨am,k,b,e,ey,eb,l⟩
 ·subst ey;obtain⟨z,hd,vs,rel,dd⟩:=K9 I.bf e;refine wpAny_in_of (zN ry) hd dd.mapOf ?_;rw[←(rel.val k).qA,←l];exact h _ (I.tok _)
 ·subst ey
  cases (show u=V5 b from ry)
  obtain⟨z,hd,xs,rel,dd⟩:=La I.bf e;refine wpAny_in_heap (tupleKind_room_in1 hu) (zO I.bf eb) hd dd ?_;have q:=(rel.val k).qA;rw[Option.isSome_map] at q;rw[←q,←l];exact h _ (I.tok _)
theorem CA {h':Heap}{t':Nat}{ob:HO} (I:Inv X pins σ H s) (mu:J1 (H a)) (hs:XZ a s.heap h') (he:∃ q,h'.get? a=some q) (new:aU X.prog X.w (upd H a ob) h' a ob) :
  Inv X pins σ (upd H a ob) { s with heap:=h',toks:=t' } :=
 I.write (x:=a) (e:=a) mu (.inl rfl) (fun b q hb z=>(hs.2 b hb).trans z) he new
theorem Gf {P:L_}{w:World}{H':Hp}{h':Heap}{am:List (Key×V)}{vs:List (Key×Value)} (z:am.length<=sizeLine) (hd:(a==XY)=false) (rel:KV am vs) (dd:h'.DictOf (aZ P w) a vs) :
  aU P w H' h' a (.dK am):=⟨z,hd,vs,rel,dd⟩
end
def Gg (i:Expr):Prop:=∀ ov iv,aaS i false ov iv=operate [ov,iv] (ZT ov iv)
theorem CB {prog:L_}{w:World}{A:Wt}{E:Value->h_->Prop}{s:h_}{env:Env}{value slice:Expr}{pos:Pos}{T id:YA}{Q:Value->h_->Prop}
  (hl:typeLookup (.type T) "__getitem__" = pure (some (.builtin id))) (hs:Gg slice)
  (h:wpAny (model prog w) A (eval value env) (fun o s₁=>wpAny (model prog w) A (eval slice env) (fun i s₂=>s₂.TypeIs o T/\wpAny (model prog w) A (ZT o i) Q E s₂) E s₁) E s) :
  wpAny (model prog w) A (eval (.Subscript value slice pos) env) Q E s:=by
 refine Subscript_ (Xg h (fun o s₁ h₁=>Xg h₁ (fun i s₂ h₂=>?_) fun _ _ x=>x) fun _ _ x=>x);obtain⟨hT,h₂⟩:=h₂;unfold aa_;refine b_ ?_;rw[getitemInPython_of_ne hT.not_modules];refine b_ (Yz hT hl ?_)
 have fin:wpAny (model prog w) A (aaS slice false o i) (fun r s₃=>wpAny (model prog w) A (letTemporaryGo value o r >>= fun _=>pure r) Q E s₃) E s₂:=by
  rw[hs o i];exact wpAny_operating (Xg h₂ (fun r s₃ h₃=>b_ (wpAny_letTemporaryGo (o_ h₃))) fun _ _ x=>x)
 first
  | exact o_ (b_ fin)
  | exact b_ (o_ (b_ fin))
  | exact b_ fin
def Lb (ty td:TE):TE:=fun σ H Q=>ty σ H fun y H1=>td σ H1 fun x H2=>∃ a o,x=.ref a/\zP H2 a y o/\Q (.bl o.isSome) H2
section
variable {X:Cx}{o i e value:Expr}{pos pos' Kv:Pos}{td ty tv:TE}
theorem zQ (hu:X.A.units+1<cLine) (hi:PE X i ty) (ho:PE X o td):PC X .In i o (Lb ty td):=by
 intro pins s σ H Q I h;refine a9 (hi pins s σ H _ I h) fun iv s1 ⟨y,H1,I1,ry,q1⟩=>a9 (ho pins s1 σ H1 _ I1 q1) fun u s2 ⟨x,H2,I2,rx,a,ov,ex,g,q2⟩=>?_
 subst ex;obtain rfl:u=V5 a:=rx;exact Qe hu I2 g ry fun s3 I3=>⟨.bl ov.isSome,H2,I3,rfl,q2⟩
end
structure M1 (X:Cx) (o:Expr) (m:Str) (apos:Pos) (e:Expr) (bN:Pos):Prop where
 base:XI o m X.env (eval o X.env)=eval o X.env
 TC:((Xm bN (N_ [e] X.env)).all (fun x => !x.1)&&(ZH bN (Yh [] X.env)).all (fun x=>x.1.isSome)
  && decide (([e]:List Expr).length+([]:List Zc).length+(if ([]:List Zc).isEmpty then 0 else 1)<30))=true
 line:(apos.endLine==bN.line)=true
 trees:Xm bN (N_ [e] X.env)=[(false,eval e X.env)]
structure M2 (X:Cx) (o:Expr) (m:Str) (apos:Pos) (e f:Expr) (bN:Pos):Prop where
 base:XI o m X.env (eval o X.env)=eval o X.env
 TC:((Xm bN (N_ [e,f] X.env)).all (fun x => !x.1)&&(ZH bN (Yh [] X.env)).all (fun x=>x.1.isSome)
  && decide (([e,f]:List Expr).length+([]:List Zc).length+(if ([]:List Zc).isEmpty then 0 else 1)<30))=true
 line:(apos.endLine==bN.line)=true
 trees:Xm bN (N_ [e,f] X.env)=[(false,eval e X.env),(false,eval f X.env)]
end L2
namespace PySem
open Sem (wp)
theorem CC:typeLookup (.type "list") "keys" = pure none:=by rw[typeLookup_type,builtinLookup_eq_fast];kernel_rfl
theorem nE {prog:L_}{w:World}{A:Wt}{E:Value->h_->Prop}{s:h_}{a:Addr}{o:Obj}{xs:Array Value}{k:Nat}{Q:k_ Value->h_->Prop}
  (hx:s.heap.get? a=some o) (hc:o.cls=.type "list") (tM:o.data=.seq xs k) (hd:o.dict=none) (hA:A.handled=none)
  (h:∀ h' tk,(∀ b ob,s.heap.get? b=some ob->h'.get? b=some ob)->Q none { s with heap:=h',toks:=tk }) :
  wpAny (model prog w) A (getAttr? (.ref a) "keys") Q E s:=by
 obtain⟨c,yc,dat,sl⟩:=o;simp only at hc tM hd;subst hc tM hd;obtain⟨hp,g,d,tk,os⟩:=s;have hT:∀ Qf,(⟨hp,g,d,Qf,os⟩:h_).TypeIs (.ref a) "list" := fun _=>⟨_,hx,rfl⟩
 have f1:=sub_AttributeError;have f3:=Yv.lookup;have f4:=Yv.bind (.ref a);have f5:=am_list_getattr_none;unfold getAttr? getAttrBy? getAttrBy
 repeat (any_goals (first | assumption | exact hT _ | ((with_reducible show wpAny _ _ (call (acH "list.__getattribute__") _ _) _ _ _);refine abl Yv (hT _) am_entry_list_getattribute (F.args_list_getattribute_2 _ _) (meets_getattribute_miss_list a xs k sl "keys" _ CC (by decide +kernel)) ⟨hx,hA,fun h' Qf e i8=>?_⟩) | wp_step))
 obtain⟨t',u',he⟩:=i8.there;show wpAny _ _ (getattributeRaised _ _ _ _ _ _ _) _ _ _;unfold getattributeRaised
 repeat (any_goals (first | assumption | wp_step))
 exact h h' Qf i8.keeps
end PySem
namespace L2
open PySem PySem.Spec PyProof.Rows
theorem lT:entryFor table "dict.update.loop" = some Zd.«dict.update.loop»:=entryFor_of_tree (by kernel_rfl)
theorem lU:plainId "dict.update.loop" = true:=by decide +kernel
section
variable {prog:L_}{w:World}{A:Wt}{E:Value->h_->Prop}
theorem yd {d it l:Addr}{Q:Value->h_->Prop} (hA:A.handled=none) (ye:d≠it) (fD:d≠l) (Lc:it≠l) (items:List Value) (kX:List (Key×Value)) (hsz:kX.length<=900) :
  ∀ (m i:Nat) (s:h_) (am:List (Key×Value)),items.length=i+m->am.length<=i->s.heap.IsListIter it l i->s.heap.IsList l items.toArray ->
   (∀ (j:Nat) (x:Value) (p:Key×Value),items[j]? = some x->kX[j]? = some p->∃ (t:Addr) (ku:Value),x=V5 t/\t≠d/\t≠it/\s.heap.IsTuple t #[ku,p.2]/\(aZ prog w).is p.1 ku=true) ->
   items.length=kX.length->s.heap.DictOf (aZ prog w) d am ->
   (∀ h' tk,(∀ b o,b≠d->b≠it->s.heap.get? b=some o->h'.get? b=some o)->h'.DictOf (aZ prog w) d ((kX.drop i).foldl (fun a p=>ab1 a p.1 p.2) am)->Q .none { s with heap:=h',toks:=tk }) ->
   Yk (model prog w) A (.builtin "dict.update.loop" ⟨[.ref d,.ref it,Xa i,.none],[]⟩) (wants Q E) s:=by
 intro m
 induction m with
 | zero =>
  intro i s am hn hk hit hl hp hlen hd hQ;refine aaz lT ?_;rw[Zf lU];unfold Zd.«dict.update.loop»;refine b_ (aaF (by exact hA) hit hl (by simp;omega) fun h' hx=>?_);refine b_ (o_ ?_);refine o_ ?_;have pd:kX.drop i=[]:=List.drop_eq_nil_of_le (by omega);rw[pd] at hQ;exact hQ h' s.toks (fun b o _ hb e=>hx b o hb e) (hd.extBut hx ye)
 | succ m ih =>
  intro i s am hn hk hit hl hp hlen hd hQ;have hi:i<items.length:=by omega
  have R4:i<kX.length:=by omega
  have ex:=c_ hi;have ep:=c_ R4;obtain⟨t,ku,et,VG,TD,Qg,FB⟩:=hp i _ _ ex ep;refine aaz lT ?_;rw[Zf lU];unfold Zd.«dict.update.loop»;refine b_ (aag hit hl (x:=items[i]) (by simpa using ex) fun h1 Qh Qi=>?_);rw[et]
  have Ld:h1.IsTuple t #[ku,kX[i].2]:=by
   obtain⟨o,ho,r⟩:=Qg;exact⟨o,(Qi.2 t TD).trans ho,r⟩
  have TF:h1.DictOf (aZ prog w) d am:=hd.sameBut Qi ye
  have hT:(⟨h1,s.gens,s.drawn,s.toks,s.os⟩:h_).TypeIs (.ref t) "tuple" := by
   obtain⟨o,ho,hc,r⟩:=Ld;exact⟨_,ho,hc⟩
  refine b_ (Zb (b_ (wpAny_tryCatch ?_)));unfold Builtin.Dict.pairItems;refine b_ (Zw hT ?_);rw[w_ (by decide +kernel)];obtain⟨o,ho,hc,n,tM⟩:=id Ld;refine b_ (WZ (s:=⟨h1,s.gens,s.drawn,s.toks,s.os⟩) ho tM ?_);refine o_ ?_
  have hz:am.length<=sizeLine:=by
   have h9:(1000:Nat)<=sizeLine:=by decide
   omega
  show wpAny _ _ (aae [ku,kX[i].2] (dictSet d ku kX[i].2)) _ _ _;refine Zb (wpAny_dictSet_pairs (s:=⟨h1,s.gens,s.drawn,s.toks,s.os⟩) FB TF (fun h2 hd2 R5=>?_) hz);refine o_ ?_;refine⟨abq _ (by decide +kernel),?_⟩;have e1:Xa ((i:Int)+1)=Xa ((i+1:Nat):Int):=rfl;have kp:∀ b o,b≠d->b≠it->s.heap.get? b=some o->h2.get? b=some o:=fun b o Gh qC e=>(R5.2 b Gh).trans ((Qi.2 b qC).trans e)
  rw[e1];refine ih (i+1) ⟨h2,s.gens,s.drawn,s.toks+1,s.os⟩ (ab1 am kX[i].1 kX[i].2) (by omega) ?_ ?_ ?_ ?_ hlen hd2 ?_
  ·unfold ab1;split
   ·rw[a_];omega
   ·rw[G_,Wf];omega
  ·exact Qh.at fun o e=>(R5.2 it (M_ ye)).trans e
  ·exact hl.at fun o e=>kp l o (M_ fD) (M_ Lc) e
  ·intro j x p hx kN;obtain⟨t',TH,e',a1,a2,⟨o',kR,r'⟩,a4⟩:=hp j x p hx kN;exact⟨t',TH,e',a1,a2,⟨o',kp t' o' a1 a2 kR,r'⟩,a4⟩
  ·intro h' tk k2 pd;refine hQ h' tk (fun b o Gh qC e=>k2 b o Gh qC (kp b o Gh qC e)) ?_;rw[W6 R4];exact pd
end
end L2
namespace L2
open PySem PySem.Spec PyProof.Rows
theorem KV.fold {ks:List (Key×V)}{us:List (Key×Value)} (r:KV ks us):∀ {a:List (Key×V)}{b:List (Key×Value)},KV a b->KV (ks.foldl (fun a p=>putK a p.1 p.2) a) (us.foldl (fun a p=>ab1 a p.1 p.2) b):=by
 induction r with
 | nil=>intro a b h;exact h
 | @cons p q ps qs h t ih =>
  intro a b CD;refine ih ?_;obtain⟨e,rv⟩:=h;show KV (putK a p.1 p.2) (ab1 b q.1 q.2);rw[←e];exact KV.put CD p.1 rv
theorem zR (ks:List (Key×V)):∀ a:List (Key×V),(ks.foldl (fun a p=>putK a p.1 p.2) a).length<=a.length+ks.length:=by
 induction ks with
 | nil=>intro a;exact x_ _
 | cons p ps ih =>
  intro a;have h1:=ih (putK a p.1 p.2);have h2:=tL a p.1 p.2;rw[acg,E_];omega
section
variable {X:Cx}
def Gi (K:e_):List V->Hp->VK->Prop:=fun xs H Q=>∃ (l:Addr) (ys:List V) (kX:List (Key×V)),xs=[.ref l]/\du K H l ys/\ys.length=kX.length/\kX.length<=900 /\
 (∀ (j:Nat) (y:V) (p:Key×V),ys[j]? = some y->kX[j]? = some p->∃ t,y=.ref t/\H t=some (.tup [kV p.1,p.2]))/\∀ d,H d=none->Q (.ref d) (upd H d (.dK (kX.foldl (fun a p=>putK a p.1 p.2) [])))
theorem vw (hc:X.calm=true):bv X (.type "dict") (Gi X.K):=by
 intro pins s σ H xs us Q I r h;obtain⟨l,ys,kX,rfl,hq,hlen,hsz,hp,q⟩:=h;obtain⟨u,rfl,rx⟩:=vals1 r
 cases rx
 obtain⟨ao,rv,pl,hz⟩:=I.list hq;have VH:=rv.length;have hA:X.A.handled=none:=I.ok.hd hc
 have Ot:∃ us:List (Key×Value),KV kX us/\∀ (j:Nat) (x:Value) (p:Key×Value),ao[j]? = some x->us[j]? = some p->∃ (t:Addr) (ku:Value),x=V5 t/\s.heap.IsTuple t #[ku,p.2]/\(aZ X.prog X.w).is p.1 ku=true:=by
  clear hq pl hz q r
  have gen:∀ (kX:List (Key×V)) (ys:List V) (ao:List Value),Vals ys ao->ys.length=kX.length->(∀ (j:Nat) (y:V) (p:Key×V),ys[j]? = some y->kX[j]? = some p->∃ t,y=.ref t/\H t=some (.tup [kV p.1,p.2])) ->
    ∃ us:List (Key×Value),KV kX us/\∀ (j:Nat) (x:Value) (p:Key×Value),ao[j]? = some x->us[j]? = some p->∃ (t:Addr) (ku:Value),x=V5 t/\s.heap.IsTuple t #[ku,p.2]/\(aZ X.prog X.w).is p.1 ku=true:=by
   intro kX
   induction kX with
   | nil=>intro ys ao rv hl _;exact⟨[],.nil,fun j x p _ e=>by simp at e⟩
   | cons p ps ih =>
    intro ys ao rv hl hp
    cases rv with
    | nil=>simp at hl
    | @cons y u ys CF ru TJ =>
     obtain⟨us,k1,k2⟩:=ih ys CF TJ (by simpa using hl) fun j y' p' h1 h2=>hp (j+1) y' p' h1 h2
     obtain⟨t,e,ht⟩:=hp 0 y p rfl rfl;subst e
     cases ru
     obtain⟨VI,tv,tp,_⟩:=I.tuple (eG.of ht)
     cases tv with
     | cons rk TK =>
      cases TK with
      | cons Qj TL =>
       cases TL
       rename_i ku vu;refine⟨(p.1,vu)::us,.cons ⟨rfl,Qj⟩ k1,fun j x p' h1 h2=>?_⟩
       cases j with
       | zero =>
        simp at h1 h2;subst h1 h2;exact⟨t,ku,rfl,tp,zN rk⟩
       | succ j=>exact k2 j x p' h1 h2
  exact gen kX ys ao rv hlen hp
 obtain⟨us,kv,TM⟩:=Ot;have VJ:=kv.length;obtain⟨o,n,ho,JK,TN,tM⟩:=pl;refine callType_codes (Q₁:=fun obj s₁=>obj=.ref s.heap.objs.size/\s₁={ s with heap:=s.heap.push { cls:=.type "dict",data:=.dict #[] } }) PySem.F.kt_called_dict (PySem.F.kt_typeCall_dict_1 _) PySem.F.entry_dict_init (kt_code_dict_new _ ⟨rfl,rfl⟩) ?_;rintro obj s₁ ⟨rfl,rfl⟩;have Gj:(s.heap.push { cls:=.type "dict",data:=.dict #[] }).DictOf (aZ X.prog X.w) s.heap.objs.size []:=Heap.DictOf.new s.heap;have Qk:∀ b o,s.heap.get? b=some o->(s.heap.push { cls:=.type "dict",data:=.dict #[] }).get? b=some o:=fun b o e=>i_ _ e
 refine⟨Gj.typeIs,PySem.F.args_dict_init_2 _ _,?_⟩;unfold Zd.«dict.__init__»;refine b_ ?_;unfold Builtin.Dict.selfAndRest;refine b_ (wpAny_notOrdered_dict Gj.typeIs ?_);show wpAny _ _ (pure (s.heap.objs.size,[V5 l])) _ _ _;refine o_ ?_;show wpAny _ _ (Z_ "dict.__init__" s.heap.objs.size (.ref l) [] .none) _ _ _;unfold Z_;generalize hP:s.heap.push { cls:=.type "dict",data:=.dict #[] }=R6 at *;have TQ:(⟨R6,s.gens,s.drawn,s.toks,s.os⟩:h_).TypeIs (.ref l) "list" := ⟨_,Qk _ _ ho,JK⟩;refine b_ (Zw TQ ?_);rw[w_ (by decide +kernel)];refine b_ (nE (s:=⟨R6,s.gens,s.drawn,s.toks,s.os⟩) (Qk _ _ ho) JK tM TN hA fun h2 D6 R7=>?_)
 rw[w_ (show (none:k_ Value).isNone=true from rfl)];refine b_ (YC ?_);have zS:∀ b o,s.heap.get? b=some o->h2.get? b=some o:=fun b o e=>R7 b o (Qk b o e)
 have FQ:h2.IsList l ao.toArray:=⟨o,zS _ _ ho,JK,n,tM⟩;refine b_ (YV (s:=⟨h2,s.gens,s.drawn,D6,s.os⟩) FQ ?_);refine o_ ?_;refine⟨abq _ (by decide +kernel),?_⟩
 have hd2:h2.DictOf (aZ X.prog X.w) s.heap.objs.size []:=by
  obtain⟨o',es,ep,kR,r'⟩:=Gj;exact⟨o',es,ep,R7 _ _ kR,r'⟩
 have TR:s.heap.objs.size<h2.objs.size:=by
  obtain⟨o',es,ep,kR,r'⟩:=hd2;exact r_ kR
 have TU:l<h2.objs.size:=r_ (zS _ _ ho);have Gk:∀ b o,s.heap.get? b=some o->b≠s.heap.objs.size:=fun b o e=>J_ (r_ e)
 have Ql:∀ b o,s.heap.get? b=some o->∀ x,(h2.push x).get? b=some o:=fun b o e x=>i_ _ (zS b o e)
 refine yd (d:=s.heap.objs.size) (it:=h2.objs.size) (l:=l) (by exact hA) (J_ TR) (M_ (Gk _ _ ho)) (M_ (J_ TU)) ao us (by omega) ao.length 0 _ [] (by omega) (Xo _) ⟨_,v_ _ rfl,rfl,rfl⟩ ⟨o,Ql _ _ ho _,JK,n,tM⟩ ?_ (by omega) ?_ ?_
 ·intro j x p h1 TV;obtain⟨t,ku,e,⟨ot,Gn,rt⟩,hk⟩:=TM j x p h1 TV;exact⟨t,ku,e,Gk _ _ Gn,J_ (r_ (zS _ _ Gn)),⟨ot,Ql _ _ Gn _,rt⟩,hk⟩
 ·obtain⟨o',es,ep,kR,r'⟩:=hd2;exact⟨o',es,ep,i_ _ kR,r'⟩
 ·intro h' tk k3 pd;refine⟨rfl,.ref s.heap.objs.size,_,I.laid (a:=s.heap.objs.size) (o:=.dK (kX.foldl (fun a p=>putK a p.1 p.2) [])) (t':=tk) (fun b q xV=>?_) (x_ _) (Gf ?_ (W3.mpr (M_ (J_ I.big))) (kv.fold .nil) pd),rfl,q _ (I.bf.fresh (x_ _))⟩
  ·exact k3 b q (Gk _ _ xV) (J_ (r_ (zS _ _ xV))) (Ql _ _ xV _)
  ·have h9:(1000:Nat)<=sizeLine:=by decide
   have h8:=zR kX [];rw[aay] at h8;omega
end
end L2
namespace PySem
open Sem (wp)
section
variable {prog:L_}{w:World}{A:Wt}{E:Value->h_->Prop}{s:h_}
theorem vA {it t:Addr}{i:Nat}{items:Array Value}{x:Value}{Q:Value->h_->Prop} (hI:s.heap.IsTupleIter it t i) (hT:s.heap.IsTuple t items) (hx:items[i]? = some x)
  (q:∀ h',h'.IsTupleIter it t (i+1)->XZ it s.heap h'->Q x { s with heap:=h' }):wpAny (model prog w) A (Wn (.ref it)) Q E s:=by
 obtain⟨oi,D7,R8,ye⟩:=id hI;obtain⟨ot,Gn,_,nt,Qm⟩:=hT;unfold Wn;refine b_ (WU (name:=WR "__next__") hI.typeIs Xv (W9 Xv hI.typeIs Zx ?_ (Zj _)));refine b_ (m:=field (.ref it) 0) (Wy D7 ye (x:=.ref t) rfl ?_);dsimp only;rw[n_ (show ¬ ((V5 t==XW)=true) by exact q_)];refine b_ (m:=field (.ref it) 1) (Wy D7 ye (x:=.int i 0) rfl ?_);refine b_ (m:=seqItems? (.ref t)) (WZ Gn Qm ?_);simp only[l_,hx];refine b_ (wpAny_setField D7 ye (by simp) (o_ ⟨x,rfl,o_ (q _ ⟨_,Heap.get?_update_self _ D7 (Obj.isFreed_of_fields (abr ye _)),(Obj.cls_mapFields ..).trans R8,?_⟩ (aa5 ..))⟩));rw[abr ye];simp [Xa]
theorem yf {it t:Addr}{i:Nat}{items:Array Value}{Q:Value->h_->Prop} (hh:A.handled=none) (hI:s.heap.IsTupleIter it t i) (hT:s.heap.IsTuple t items) (hx:items[i]? = none)
  (q:∀ h' e,Heap.ExtBut it s.heap h'->(∃ o,h'.get? e=some o/\o.cls=.type "StopIteration")->E (.ref e) { s with heap:=h' }):wpAny (model prog w) A (Wn (.ref it)) Q E s:=by
 obtain⟨oi,D7,R8,ye⟩:=id hI;obtain⟨ot,Gn,_,nt,Qm⟩:=hT;unfold Wn;refine b_ (WU (name:=WR "__next__") hI.typeIs Xv (W9 Xv hI.typeIs Zx ?_ (Zj _)));refine b_ (m:=field (.ref it) 0) (Wy D7 ye (x:=.ref t) rfl ?_);dsimp only;rw[n_ (show ¬ ((V5 t==XW)=true) by exact q_)];refine b_ (m:=field (.ref it) 1) (Wy D7 ye (x:=.int i 0) rfl ?_);refine b_ (m:=seqItems? (.ref t)) (WZ Gn Qm ?_);simp only[l_,hx];refine b_ (YC (b_ (wpAny_setField D7 ye (by simp) (b_ (m:=newExc (.type "StopIteration") []) ?_))));simp only[newExc,newTuple];refine b_ (WO (b_ (m:=firstArgMember _ _) (XT (a:=XW) (by first | rfl | (simp only[firstArgMember];rfl)) (WO ?_ (by size_fits)))) (by size_fits))
 simp only[raiseNew];refine b_ (wpAny_handled ?_)
 first | rw[show A.in1.handled=none by exact hh] | rw[hh]
 exact b_ (o_ (wpAny_throw (q _ _ (((aa5 ..).extBut.push _).push _) ⟨_,v_ _ rfl,rfl⟩)))
theorem Draws.tup (hh:A.handled=none) (it t:Addr) (BF:t≠it) (items:Array Value):Draws prog w A it [it,t] items.size (fun i v=>items[i]? = some v) (fun i h=>h.IsTupleIter it t i/\h.IsTuple t items) where
 live:=fun _ _ st=>let ⟨o,ho,_⟩:=st.1;⟨o,ho⟩
 frame:=fun _ _ _ st hk=>⟨st.1.at fun o e=>hk it (by simp) o e,let ⟨o,ho,r⟩:=st.2;⟨o,hk t (by simp) o ho,r⟩⟩
 item:=fun i s Q E hi st hQ=>by
  refine vA st.1 st.2 (x:=items[i]) (by simp [hi]) fun h' Qn yP=>hQ _ h' s.toks (by simp [hi]) ⟨Qn,?_⟩ yP
  obtain⟨o,ho,r⟩:=st.2;exact⟨o,(yP.2 t BF).trans ho,r⟩
 done:=fun s Q E st hE=>yf hh st.1 st.2 (by simp) hE
theorem tN (l:Addr) (items:Array Value) (n:Nat) (yc:k_ Addr) (sl:Array (k_ Value)) :
  Meets (Zd.«enumerate.__new__» ⟨[.type "enumerate",.ref l],[]⟩) (fun _ R s=>s.heap.get? l=some { cls:=.type "tuple",dict:=yc,data:=.seq items n,slots:=sl } /\
   R (.ok (.ret (.ref (s.heap.push { cls:=.type "tuple_iterator",data:=.fields #[.ref l,.int 0 0] }).objs.size)))
    { s with heap:=(s.heap.push { cls:=.type "tuple_iterator",data:=.fields #[.ref l,.int 0 0] }).push { cls:=.type "enumerate",data:=.fields #[.none,.bool false,.ref s.heap.objs.size,Xa 0,.none,.none] } }) :=
 .of_wp fun prog w A R s h=>by
  obtain⟨hp,g,d,tk,os⟩:=s;obtain⟨hl,h⟩:=h;have Qo:=sub_enumerate;have hL:abM (ab_ ⟨hp,g,d,tk,os⟩) l items:=⟨_,hl,rfl,n,rfl⟩
  wp_walk using aaA hl
  refine wpAny_stack_any fun st=>o_ ?_
  split
  ·rename_i c _ _ _ _ _
   cases (c==XX "enumerate")<;>(wp_walk using aaA hl,X3 hL;exact⟨_,rfl,h⟩)
  ·wp_walk using aaA hl,X3 hL
   exact⟨_,rfl,h⟩
theorem vB {l:Addr}{items:Array Value}{Q:Value->h_->Prop} (hL:s.heap.IsTuple l items)
  (h:∀ h',IsEnum h' (s.heap.objs.size+1) s.heap.objs.size 0 .none->h'.IsTupleIter s.heap.objs.size l 0->h'.objs.size=s.heap.objs.size+2->(∀ b o,s.heap.get? b=some o->h'.get? b=some o)->Q (.ref (s.heap.objs.size+1)) { s with heap:=h' }) :
  wpAny (model prog w) A (call (.type "enumerate") [.ref l]) Q E s:=by
 obtain⟨⟨c,yc,dt,sl⟩,hl,hc,n,hd⟩:=hL
 replace hc:c=.type "tuple" := hc
 replace hd:dt=.seq items n:=hd
 subst hc hd;refine callType_new F.called_enumerate (by decide) (F.typeCall_enumerate_1 _) (F.newCall_enumerate_1 _) (fun obj=>F.args_object_init_2 obj _) F.entry_enumerate_new (tN l items n yc sl) ⟨hl,?_⟩;generalize hI:({ cls:=.type "tuple_iterator",data:=.fields #[.ref l,.int 0 0] }:Obj)=oi;have hz:(s.heap.push oi).objs.size=s.heap.objs.size+1:=WI ..;show _/\_;rw[hz]
 have he:IsEnum ((s.heap.push oi).push { cls:=.type "enumerate",data:=.fields #[.none,.bool false,.ref s.heap.objs.size,Xa 0,.none,.none] }) (s.heap.objs.size+1) s.heap.objs.size 0 .none:=by
  have g:=v_ (s.heap.push oi) (o:={ cls:=.type "enumerate",data:=.fields #[.none,.bool false,.ref s.heap.objs.size,Xa 0,.none,.none] }) rfl;rw[hz] at g;exact g
 subst hI;exact⟨⟨_,he,rfl⟩,h _ he ⟨_,i_ _ (v_ _ rfl),rfl,rfl⟩ (by rw[WI,hz]) fun b o x=>i_ _ (i_ _ x)⟩
end
end PySem
namespace L2
open PySem PySem.Spec PyProof.Rows
theorem Inv.wH {X:Cx}{pins:List (Addr×Obj)}{σ:St}{H:Hp}{s:h_}{h':Heap}{t':Nat}{ch:List Addr} (I:Inv X pins σ H s) (sQ:∀ b∈ch,jm X pins H b) (k:∀ b o,b∉ch->s.heap.get? b=some o->h'.get? b=some o):Inv X pins σ H { s with heap:=h',toks:=t' }:=by
 have DU:∀ b u,H b=some u->b∉ch:=fun b u e z=>by rw[(sQ b z).1] at e;cases e
 refine I.step (g':=s.gens) (d':=s.drawn) (ch:=ch) (fun b hb=>?_) (fun b o _ _ hc e _=>k b o hc e) (fun b o _ _ hc e _=>⟨o.slots,k b o hc e⟩) (fun _ _ _ _ n=>n) (fun b o hc e=>⟨o,k b o hc e⟩) (fun _ _ e=>e) (fun _ _ _ e=>e) (fun b ps e=>⟨#[],by rw[e];simp⟩) (fun m hm=>?_) (fun b u e=>?_) I.bare
 ·obtain⟨f0,f1,f2,f3,f4,f5⟩:=sQ b hb;exact⟨f3,f1,f4,f5⟩
 ·obtain⟨o,es,ep,ho,r⟩:=hm;exact⟨o,es,ep,k _ o (fun z=>(sQ _ z).2.1 rfl) ho,r⟩
 ·refine (I.bf b u e).eF (fun c v hc q=>k c v ?_ q) (fun _ q=>q) fun _ _ q=>q
  rcases hc with z | z
  ·rw[z];exact DU b u e
  ·exact DU c _ z
theorem Inv.nF {X:Cx}{pins:List (Addr×Obj)}{σ:St}{H:Hp}{s:h_}{h':Heap}{t':Nat}{ch:List Addr}{T:Addr}{ob:HO} (I:Inv X pins σ H s) (sQ:∀ b∈ch,jm X pins H b) (k:∀ b o,b∉ch->s.heap.get? b=some o->h'.get? b=some o)
  (hT:s.heap.objs.size<=T) (new:aU X.prog X.w (upd H T ob) h' T ob):Inv X pins σ (upd H T ob) { s with heap:=h',toks:=t' }:=by
 have hn:H T=none:=I.bf.fresh hT;have DU:∀ b u,H b=some u->b∉ch:=fun b u e z=>by rw[(sQ b z).1] at e;cases e
 have up:∀ b u,H b=some u->(upd H T ob) b=some u:=fun b u e=>by rw[aq (ax e hn)];exact e
 refine I.step (g':=s.gens) (d':=s.drawn) (ch:=ch) (fun b hb=>?_) (fun b o _ _ hc e _=>k b o hc e) (fun b o _ _ hc e _=>⟨o.slots,k b o hc e⟩) (fun b o _ e n=>?_) (fun b o hc e=>⟨o,k b o hc e⟩) (fun b _ e=>up b _ e) (fun b _ _ e=>up b _ e) (fun b ps e=>⟨#[],by rw[up b _ e];simp⟩) (fun m hm=>?_) (fun b u e=>?_) I.bare
 ·obtain⟨f0,f1,f2,f3,f4,f5⟩:=sQ b hb;exact⟨f3,f1,f4,f5⟩
 ·rw[aq (J_ (s_ (r_ e) hT))];exact n
 ·obtain⟨o,es,ep,ho,r⟩:=hm;exact⟨o,es,ep,k _ o (fun z=>(sQ _ z).2.1 rfl) ho,r⟩
 ·by_cases hb:b=T
  ·subst hb;rw[aA] at e;cases e;exact new
  ·rw[aq hb] at e;refine (I.bf b u e).eF (fun c v hc q=>k c v ?_ q) (fun c q=>up c _ q) fun c _ q=>up c _ q
   rcases hc with z | z
   ·rw[z];exact DU b u e
   ·exact DU c _ z
noncomputable def Go (K:e_) (a:Addr):It :=
 ⟨fun i H=>∃ xs x,eG K H a xs/\xs[i]? = some x,fun i H v H'=>∃ T x,H T=none/\v=.ref T/\(∀ xs,eG K H a xs->xs[i]? = some x)/\H'=upd H T (.tup [.int i,x]),fun i H=>∃ xs,eG K H a xs/\xs.length=i⟩
theorem vC {P:L_}{w:World}{K:e_}{elts:List Expr}{kk:Nat}{tp:Pos} (e it a:Addr) (Ou:e≠it):Turn P w K (.Tuple elts kk tp) (Go K a) [e,it] e (fun i h=>(∃ old,IsEnum h e it i old)/\h.IsTupleIter it a i) where
 mem:=by simp
 obj:=fun i h st b hb=>by
  obtain⟨⟨old,he⟩,o,ho,hc,hd⟩:=st;rcases u_.mp hb with q | q
  ·subst q;exact⟨_,he,fun v z=>by have z':aaO _=Z6 v:=z;cases z'⟩
  ·rw[y_.mp q];exact⟨o,ho,fun v z=>by rw[hd] at z;cases z⟩
 keep:=fun i h h' st k=>⟨st.1.imp fun old x=>k e (by simp) _ x,st.2.at fun o x=>k it (by simp) o x⟩
 item:=by
  intro X hP hw hK hc i pins s σ H E I hf st hg;subst hP hw hK;obtain⟨xs,x,hq,hx⟩:=hg;obtain⟨ao,rv,p,hz⟩:=I.tuple hq;obtain⟨u,hu,ru⟩:=rv.get hx;have hA:X.A.handled=none:=I.ok.hd hc;obtain⟨⟨old,he⟩,hI⟩:=id st
  have Qp:a≠it:=fun z=>by
   obtain⟨o1,g1,c1,_⟩:=p;obtain⟨o2,g2,c2,_⟩:=hI;rw[z,g2] at g1
   cases g1
   rw[c2] at c1;exact absurd c1 (by decide)
  have Qq:e≠a:=fun z=>by
   obtain⟨o1,g1,c1,_⟩:=p;have g2:s.heap.get? e=_:=he;rw[←z,g2] at g1
   cases g1
   exact absurd (show XX "enumerate" = XX "tuple" from c1) (by decide)
  have W:=abN (prog:=X.prog) (w:=X.w) (A:=X.A) (Draws.tup (by exact hA) it a Qp ao.toArray) e Ou (by simp [Ou,Qq]) (by simp)
  have hi:i<ao.toArray.size:=by
   have:=(j_.mp hu).1;simpa using this
  refine W.item i s _ _ hi ⟨⟨old,he⟩,hI,p⟩ fun T vals h' tk hv hT TW Le k1=>?_
  obtain⟨t',x',i8,rfl⟩:=hv
  have ex:x'=u:=by
   have h2:ao.toArray[i]? = some u:=by simpa using hu
   rw[h2] at i8;exact (F_ i8).symm
  subst ex;refine⟨_,rfl,W.go elts kk tp i T _ _ _ Le fun h2 Lf k2=>?_⟩;have R9:=W.apart i T _ Le
  have new:aU X.prog X.w (upd H T (.tup [.int i,x])) h2 T (.tup [.int i,x]):=by
   obtain⟨ot,g1,r1⟩:=TW;exact⟨by show 2<=sizeLine;decide,[.int i t',x'],.cons ⟨t',rfl⟩ (.cons ru .nil),ot,k2 T ot R9 g1,r1⟩
  refine⟨.ref T,_,I.nF (ch:=[e,it]) (t':=tk) hf (fun b o hb g=>k2 b o hb (k1 b o hb g)) hT new,rfl,⟨T,x,I.bf.fresh hT,rfl,fun ys hy=>by rw[I.qo hy hq];exact hx,rfl⟩,⟨Lf.1,Lf.2.1⟩,fun b hb=>?_⟩;have TY:b≠T:=fun z=>R9 (by rw[←z];exact hb)
  rw[aq TY];exact (hf b hb).1
 done:=by
  intro X hP hw hK hc i pins s σ H E I hf st hg;subst hP hw hK;obtain⟨xs,hq,hx⟩:=hg;obtain⟨ao,rv,p,hz⟩:=I.tuple hq;have hA:X.A.handled=none:=I.ok.hd hc;obtain⟨⟨old,he⟩,hI⟩:=id st
  have Qp:a≠it:=fun z=>by
   obtain⟨o1,g1,c1,_⟩:=p;obtain⟨o2,g2,c2,_⟩:=hI;rw[z,g2] at g1
   cases g1
   rw[c2] at c1;exact absurd c1 (by decide)
  have Qq:e≠a:=fun z=>by
   obtain⟨o1,g1,c1,_⟩:=p;have g2:s.heap.get? e=_:=he;rw[←z,g2] at g1
   cases g1
   exact absurd (show XX "enumerate" = XX "tuple" from c1) (by decide)
  have W:=abN (prog:=X.prog) (w:=X.w) (A:=X.A) (Draws.tup (by exact hA) it a Qp ao.toArray) e Ou (by simp [Ou,Qq]) (by simp);have hl:=rv.length;have en:ao.toArray.size=i:=by simp;omega
  refine W.done s _ _ ?_ fun h' tk k1=>⟨rfl,I.wH (ch:=[e,it]) (t':=tk) hf fun b o hb g=>k1 b o hb g⟩
  rw[en];exact⟨⟨old,he⟩,hI,p⟩
 self:=fun _ _ _ _ _ st h=>by
  obtain⟨⟨old,he⟩,_⟩:=st;exact wpAny_pyIter_enum he h
section
variable {X:Cx}
def Gp (K:e_) (ta:TA):TI:=fun σ H R=>ta σ H fun vs H1=>∃ a,vs=[.ref a]/\(∃ xs,eG K H1 a xs)/\R (Go K a) H1
theorem zT {a:Expr}{ta:TA}{p pos:Pos}{elts:List Expr}{kk:Nat}{tp:Pos} (hg:Gl X "enumerate") (hm:X.mg "enumerate" = none) (ha:PA X [a] ta) (hs:N_ [a] X.env=[(false,eval a X.env)]:=by rfl) :
  PI X (.Tuple elts kk tp) (.Call (.Name "enumerate" p) [a] [] pos) (Gp X.K ta):=by
 intro pins s σ H R I h;refine Call_ (hV I hg hm boot_enumerate (WH (a9 (ha pos pins s σ H _ I h) fun us s1 ⟨vs,H1,I1,r1,q1⟩=>?_) hs rfl));obtain⟨l,e,⟨xs,hq⟩,q⟩:=q1;subst e
 cases r1 with
 | cons r rr =>
  cases rr
  cases r
  obtain⟨ao,rv,p,hz⟩:=I1.tuple hq;refine vB p fun h' he hi hsz kp=>wpAny_pyIter_enum he ⟨s1.heap.objs.size+1,[s1.heap.objs.size+1,s1.heap.objs.size],_,_,H1,rfl,I1.kept (t':=s1.toks) kp,vC _ _ l (Zu (Xp _)),⟨⟨_,he⟩,hi⟩,fun b hb=>?_,q⟩
  rcases u_.mp hb with z | z
  ·subst z;exact I1.xJ (Yf _) (I1.bf.fresh (Yf _))
  ·rw[y_.mp z];exact I1.xJ (x_ _) (I1.bf.fresh (x_ _))
end
end L2
namespace SH
open PySem L2
noncomputable def fJ:List Int->Int->List Nd->List Int
 | W,_,[]=>W
 | W,k,n::r=>fJ (W.take n.2.toNat++[k]) (k+1) r
noncomputable def way (ns:List Nd):List Int:=fJ [] 0 ns
theorem j5:∀ (a b:List Nd) (W:List Int) (k:Int),fJ W k (a++b)=fJ (fJ W k a) (k+a.length) b
 | [],b,W,k=>by show fJ W k b=fJ W (k+((0:Nat):Int)) b;rw[show k+((0:Nat):Int)=k by omega]
 | n::a,b,W,k=>by
  show fJ _ (k+1) (a++b)=_;rw[j5 a b];show fJ (fJ _ (k+1) a) (k+1+a.length) b=fJ (fJ _ (k+1) a) (k+(n::a).length) b;rw[E_,show k+1+(a.length:Int)=k+((a.length+1:Nat):Int) by omega]
theorem tO (ns:List Nd) (n:Nd):way (ns++[n])=(way ns).take n.2.toNat++[(ns.length:Int)]:=by
 unfold way;rw[j5];show (fJ [] 0 ns).take n.2.toNat++[0+(ns.length:Int)]=_;rw[Wd]
theorem dj {ns:List Nd}{i:Nat}{n:Nd} (h:ns[i]? = some n):way (ns.take (i+1))=(way (ns.take i)).take n.2.toNat++[(i:Int)]:=by
 have hi:=(j_.mp h).1;rw[XF,h];show way (ns.take i++[n])=_;rw[tO,V6,XC (by omega)]
theorem wI {ns:List Nd}:∀ i,i<=ns.length->∀ j∈way (ns.take i),0<=j/\j<(i:Int):=by
 intro i
 induction i with
 | zero=>intro _ j hj;rw[W0] at hj;exact nomatch hj
 | succ i ih =>
  intro hi j hj;rw[dj (c_ (by omega:i<ns.length))] at hj;rcases U_.mp hj with h | h
  ·have:=ih (by omega) j (Wz h);omega
  ·rw[y_.mp h];omega
theorem wJ {ns:List Nd}:∀ i,i<=ns.length->(way (ns.take i)).length<=i:=by
 intro i
 induction i with
 | zero=>intro _;rw[W0];exact x_ _
 | succ i ih =>
  intro hi;rw[dj (c_ (by omega:i<ns.length)),G_,V6,Wf];have:=ih (by omega);omega
noncomputable def pv (ns:List Nd) (k:Nat):List Int:=(way (ns.take k)).take ((ns.getD k ("",0)).2.toNat)
theorem wK {ns:List Nd}{k:Nat} (hk:k<=ns.length):∀ j∈pv ns k,0<=j/\j<(k:Int):=fun j hj=>wI k hk j (Wz hj)
theorem ie {ns:List Nd}{k:Nat}{n:Nd} (h:ns[k]? = some n):pv ns k=(way (ns.take k)).take n.2.toNat:=by
 unfold pv;rw[B_,h];rfl
theorem CG {ns:List Nd}{k:Nat} (hk:k<=ns.length):(pv ns k).length<=k:=by
 unfold pv;rw[V6];have:=wJ (ns:=ns) k hk;omega
noncomputable def kept (ps W:List Int):List Int:=W.filter fun j=>decide (j∈ps)
theorem ig (ps a b:List Int):kept ps (a++b)=kept ps a++kept ps b:=List.filter_append ..
theorem tP (ps:List Int) (k:Int):kept ps [k]=if k∈ps then [k] else []:=by
 unfold kept;by_cases h:k∈ps<;>simp [h]
theorem tQ {ps a b:List Int} (h:a <+: b):kept ps a <+: kept ps b:=by
 obtain⟨c,rfl⟩:=h;exact⟨kept ps c,(ig ps a c).symm⟩
noncomputable def g0 (ps W:List Int):List Int:=(Wg (W.length+1)).map fun j=>((kept ps (W.take j)).length:Int)
theorem yg (ps W:List Int) (d:Nat):(g0 ps W).take (d+1)=g0 ps (W.take d):=by
 unfold g0;rw[←Ze,List.take_range,V6,show min (d+1) (W.length+1)=min d W.length+1 by omega];apply WF;intro j hj;have:=Wv.mp hj;rw[List.take_take,XC (by omega)]
theorem qD (ps W:List Int) (k:Int):g0 ps (W++[k])=g0 ps W++[((kept ps W).length:Int)+if k∈ps then 1 else 0]:=by
 unfold g0;rw[G_,Wf,aaB,S_];congr 1
 ·apply WF;intro j hj;have:=Wv.mp hj;rw[List.take_append_of_le_length (by omega)]
 ·rw[p_,WX,WM (by rw[G_,Wf];omega),ig,tP];by_cases h:k∈ps<;>simp [h]
theorem nG (ps W:List Int):(g0 ps W).length=W.length+1:=by unfold g0;rw[a_,Wc]
theorem yh (ps W:List Int):(g0 ps W)[W.length]? = some ((kept ps W).length:Int):=by
 unfold g0;rw[g_,W4 (by omega)];show some (((kept ps (W.take W.length)).length:Nat):Int)=_;rw[XS]
noncomputable def below (ps:List Int) (i:Nat):List Int:=ps.filter fun p=>decide (p<(i:Int))
theorem dY {i:Nat}:∀ {lo m:Int}{ps:List Int},placesOk lo m ps->(i:Int)<=lo->below ps i=[]:=fun {lo m ps} h hi=>by
 unfold below;rw[X4];intro p hp;have:=(aO h p hp).1;simp;omega
theorem jq {i:Nat}:∀ {lo m:Int}{ps:List Int},placesOk lo m ps->below ps (i+1)=below ps i++(if (i:Int)∈ps then [(i:Int)] else [])
 | _,_,[],_=>rfl
 | lo,m,p::r,h=>by
  obtain⟨h1,h2,h3⟩:=h;have ih:=jq (i:=i) h3
  have e1:∀ k:Nat,below (p::r) k=if p<(k:Int) then p::below r k else below r k:=fun k=>by
   unfold below;rw[WE];by_cases h:p<(k:Int)<;>simp [h]
  rw[e1,e1];by_cases j3:p<(i:Int)
  ·rw[w_ j3,w_ (by omega),ih]
   have:((i:Int)∈p::r)↔(i:Int)∈r:=by
    rw[u_];exact⟨fun z=>z.elim (fun z=>by omega) id,.inr⟩
   by_cases hm:(i:Int)∈r
   ·rw[w_ hm,w_ (this.mpr hm)];rfl
   ·rw[n_ hm,n_ (fun z=>hm (this.mp z))];rfl
  ·rw[n_ j3,dY h3 (by omega)];by_cases he:p=(i:Int)
   ·rw[w_ (by omega),dY h3 (by omega),w_ (by rw[he];exact V_),he];rfl
   ·rw[n_ (by omega),dY h3 (by omega),n_ ?_]
    ·rfl
    ·intro z;rcases u_.mp z with z | z
     ·exact he z.symm
     ·have:=(aO h3 _ z).1;omega
theorem qE {n:Nat}{lo:Int}{ps:List Int} (h:placesOk lo n ps):below ps n=ps:=by
 unfold below;rw[List.filter_eq_self];intro p hp;have:=(aO h p hp).2;simp;omega
theorem below_at:∀ {lo m:Int}{ps:List Int}{k:Nat}{p:Int},placesOk lo m ps->0<=lo->ps[k]? = some p->below ps p.toNat=ps.take k
 | _,_,[],k,p,_,_,hk=>by simp at hk
 | lo,m,q::r,0,p,h,h0,hk=>by
  obtain⟨h1,h2,h3⟩:=h;simp at hk;subst hk;rw[W0];unfold below;rw[X4];intro x hx;rcases u_.mp hx with z | z
  ·subst z;simp;omega
  ·have:=(aO h3 _ z).1;simp;omega
 | lo,m,q::r,k+1,p,h,h0,hk=>by
  obtain⟨h1,h2,h3⟩:=h;have JL:r[k]? = some p:=hk;have:=(aO h3 _ (A_ JL)).1;have ih:=below_at h3 (by omega) JL;unfold below at ih ⊢;rw[WE,w_ (by simp;omega),List.take_succ_cons,ih]
theorem yi {lo m:Int}{ps:List Int}{i:Nat} (h:placesOk lo m ps) (h0:0<=lo) (hi:(i:Int)∈ps):ps[(below ps i).length]? = some (i:Int):=by
 obtain⟨k,hk⟩:=List.getElem?_of_mem hi;have e:=below_at h h0 hk;rw[l_] at e;have:=(j_.mp hk).1;rw[e,V6,XC (by omega)];exact hk
noncomputable def dZ (ns:List Nd) (ps:List Int) (p:Int):Nd:=((ns.getD p.toNat ("",0)).1,((kept ps (pv ns p.toNat)).length:Int))
noncomputable def D8 (ns:List Nd) (ps:List Int):List Nd:=ps.map (dZ ns ps)
theorem j6:∀ {d:Int}{ns:List Nd},d<=12->aN d ns<=12
 | _,[],h=>h
 | _,n::r,_=>j6 (ns:=r) (by show min (n.2+1) 12<=12;omega)
theorem rH {ns:List Nd}{i:Nat}{n:Nd} (hd:aQ 0 ns) (h:ns[i]? = some n):az n.1=true/\0<=n.2/\n.2<=12:=by
 have e:ns=ns.take i++(n::ns.drop (i+1)):=by
  have q:=Xy (i+1) ns;rw[XF,h,YX] at q;exact q.symm
 rw[e] at hd;obtain⟨_,h1,h2,h3,_⟩:=aY.mp hd;have:=j6 (d:=0) (ns:=ns.take i) (by omega);exact⟨h1,h2,by omega⟩
theorem prefix_eq {a b:List Int} (h:a <+: b):b.take a.length=a:=by
 obtain⟨c,rfl⟩:=h;simp
theorem zU {ns:List Nd}{ps:List Int} (hd:aQ 0 ns) (hp:placesOk 0 ns.length ps):∀ i,i<=ns.length ->
  kept ps (way (ns.take i)) <+: (way ((below ps i).map (dZ ns ps))).map (fun j=>ps.getD j.toNat 0)/\aQ 0 ((below ps i).map (dZ ns ps))/\aN 0 ((below ps i).map (dZ ns ps))=min ((way ((below ps i).map (dZ ns ps))).length:Int) 12:=by
 intro i
 induction i with
 | zero =>
  intro _;rw[dY (i:=0) hp (by omega),W0];exact⟨⟨[],rfl⟩,trivial,rfl⟩
 | succ i ih =>
  intro hi;obtain⟨h1,h2,h3⟩:=ih (by omega);have hn:ns[i]? = some ns[i]:=c_ (by omega);obtain⟨hm,d0,Sb⟩:=rH hd hn;rw[dj hn,ig,tP,jq hp];have pq:kept ps ((way (ns.take i)).take ns[i].2.toNat) <+: kept ps (way (ns.take i)):=tQ (List.take_prefix ..);generalize hR:(below ps i).map (dZ ns ps)=R at h1 h2 h3 ⊢;by_cases hk:(i:Int)∈ps
  ·rw[w_ hk,S_,hR];rw[p_,WX]
   have eN:dZ ns ps (i:Int)=(ns[i].1,((kept ps ((way (ns.take i)).take ns[i].2.toNat)).length:Int)):=by
    unfold dZ;rw[l_,ie hn,B_,hn];rfl
   rw[tO,eN,l_];generalize hA:kept ps ((way (ns.take i)).take ns[i].2.toNat)=A at pq ⊢
   have lA:A.length<=ns[i].2.toNat:=by
    rw[←hA];refine P_ (aaG ..) ?_;rw[V6];omega
   have pV:A <+: (way R).map (fun j=>ps.getD j.toNat 0):=pq.trans h1;have lV:A.length<=(way R).length:=by have:=pV.length_le;rw[a_] at this;exact this
   have hl:R.length=(below ps i).length:=by rw[←hR,a_]
   have hg:ps.getD R.length 0=(i:Int):=by rw[hl,B_,yi hp (by omega) hk];rfl
   refine⟨?_,?_,?_⟩
   ·rw[S_,Ze,prefix_eq pV,p_,WX,l_,hg];exact⟨[],by simp⟩
   ·exact aY.mpr ⟨h2,hm,by omega,by rw[h3];show (A.length:Int)<=_;omega,trivial⟩
   ·rw[bm];show min ((A.length:Int)+1) 12=_;rw[G_,V6,Wf];omega
  ·rw[n_ hk,WB,WB,hR];exact⟨pq.trans h1,h2,h3⟩
theorem eR {ns:List Nd}{ps:List Int} (hd:aQ 0 ns) (hp:placesOk 0 ns.length ps):aQ 0 (D8 ns ps):=by
 have h:=(zU hd hp ns.length (x_ _)).2.1;rw[qE hp] at h;exact h
theorem zV (ps:List Int):∀ (acc:List (Key×V)) (j:Int),(dJ ((ps.map fun q=>((XU q:Key),V.bl true)).foldl (fun a p=>putK a p.1 p.2) acc) (XU j)).isSome=(decide (j∈ps)||(dJ acc (XU j)).isSome):=by
 induction ps with
 | nil=>intro acc j;simp
 | cons p r ih =>
  intro acc j;rw[p_,acg,ih,zM];by_cases h:j=p
  ·subst h;simp
  ·have:¬ ((XU j:Key)=XU p):=fun z=>h (acP z)
   simp [this,h]
end SH
namespace L2
open PySem PySem.Spec PyProof.Rows
section
variable {X:Cx}
def CH:List V->Hp->VK->Prop:=fun xs H Q=>∃ n:Int,xs=[.int n]/\∀ r,H r=none->Q (.ref r) (upd H r (.xF 0 n))
def CI:List V->Hp->VK->Prop:=fun xs H Q=>∃ lo hi:Int,xs=[.int lo,.int hi]/\∀ r,H r=none->Q (.ref r) (upd H r (.xF lo hi))
theorem j7:bv X (.type "range") CH:=by
 intro pins s σ H xs us Q I r h;obtain⟨n,rfl,q⟩:=h;obtain⟨u,rfl,t,rfl⟩:=vals1 r;refine call_range_1 ⟨.ref s.heap.objs.size,_,I.laid (a:=s.heap.objs.size) (o:=.xF 0 n) (t':=s.toks+1+1) (fun b o e=>i_ _ e) (x_ _) ?_,rfl,q _ (I.bf.fresh (x_ _))⟩;exact⟨_,_,_,v_ _ rfl⟩
theorem rJ:bv X (.type "range") CI:=by
 intro pins s σ H xs us Q I r h;obtain⟨lo,hi,rfl,q⟩:=h
 cases r with
 | cons r1 rr =>
  cases rr with
  | cons r2 rr =>
   cases rr
   obtain⟨t,rfl⟩:=r1;obtain⟨t',rfl⟩:=r2;refine call_range_2 ⟨.ref s.heap.objs.size,_,I.laid (a:=s.heap.objs.size) (o:=.xF lo hi) (fun b o e=>i_ _ e) (x_ _) ?_,rfl,q _ (I.bf.fresh (x_ _))⟩;exact⟨_,_,_,v_ _ rfl⟩
def Gq:List V->Hp->VK->Prop:=fun xs H Q=>∃ (r:Addr) (lo hi:Int),xs=[.ref r]/\H r=some (.xF lo hi)/\(-(2 ^ 62)<=lo/\lo<2 ^ 62 /\ -(2 ^ 62)<=hi/\hi<2 ^ 62)/\(hi-lo).toNat<=900/\∀ l,H l=none->Q (.ref l) (upd H l (.lst (((Wg (hi-lo).toNat).map fun i:Nat=>lo+(i:Int)).map V.int)))
theorem nH:∀ {ns:List Int}{vs:List Value},ns.length=vs.length->(∀ (i:Nat) (n:Int) (v:Value),ns[i]? = some n->vs[i]? = some v->∃ t,v=.int n t)->Vals (ns.map V.int) vs
 | [],[],_,_=>.nil
 | [],_::_,h,_=>by simp at h
 | _::_,[],h,_=>by simp at h
 | n::ns,v::vs,h,k=>by
  refine .cons ?_ (nH (by simpa using h) fun i n v h1 h2=>k (i+1) n v h1 h2);obtain⟨t,e⟩:=k 0 n v rfl rfl;exact⟨t,e⟩
theorem nI (hc:X.calm=true):bv X (.type "list") Gq:=by
 intro pins s σ H xs us Q I r h;obtain⟨ra,lo,hi,rfl,hr,⟨h1,h2,h3,h4⟩,hsz,q⟩:=h;obtain⟨u,rfl,rx⟩:=vals1 r
 cases rx
 have hA:X.A.handled=none:=I.ok.hd hc;obtain⟨t,u,v,e⟩:=(show aU X.prog X.w H s.heap ra (.xF lo hi) from I.bf ra _ hr);have en:YI lo hi 1=(((hi-lo).toNat:Nat):Int):=by rw[aa9];split<;>omega
 refine call_list_range hA (show aco s.heap ra lo hi 1 t u v from e) (small_one h1 h2 h3 h4) en (by omega) fun h' tk acc c kp he zH=>?_
 obtain⟨hz,Lg⟩:=zH;have z9:(1000:Nat)<=sizeLine:=by decide
 refine⟨.ref s.heap.objs.size,_,I.laid (a:=s.heap.objs.size) (o:=.lst (((Wg (hi-lo).toNat).map fun i:Nat=>lo+(i:Int)).map V.int)) (t':=tk) kp (x_ _) ⟨?_,acc.toList,c,?_,?_⟩,rfl,q _ (I.bf.fresh (x_ _))⟩
 ·rw[a_,a_,Wc];omega
 ·refine nH (by rw[a_,Wc];simpa using hz.symm) fun i n w e1 e2=>?_
  rw[g_] at e1;obtain⟨j,ej,rfl⟩:=m_.mp e1;have hj:=(j_.mp ej);obtain⟨VL,Lh⟩:=hj;rw[abt] at Lh;subst Lh;obtain⟨t',e'⟩:=Lg i w (by simpa using e2);exact⟨t',by rw[e',ZP]⟩
 ·simpa using he
end
end L2
namespace SH
open PySem L2
theorem dL:∀ {lo m:Int}{ps:List Int},placesOk lo m ps↔(∀ p∈ps,lo<=p/\p<m)/\ps.Pairwise (·<·)
 | _,_,[]=>⟨fun _=>⟨(fun _ h=>nomatch h),ZU⟩,fun _=>trivial⟩
 | lo,m,p::r=>by
  constructor
  ·rintro⟨h1,h2,h3⟩;obtain⟨a,b⟩:=dL.mp h3;refine⟨fun q hq=>?_,YD.mpr ⟨fun q hq=>by have:=(a q hq).1;omega,b⟩⟩;rcases u_.mp hq with z | z
   ·subst z;exact⟨h1,h2⟩
   ·have:=a q z;omega
  ·rintro⟨a,b⟩;obtain⟨c,d⟩:=YD.mp b;have:=a p V_;exact⟨this.1,this.2,dL.mpr ⟨fun q hq=>⟨by have:=c q hq;omega,(a q (I_ _ hq)).2⟩,d⟩⟩
noncomputable def upTo (n:Nat):List Int:=(Wg n).map fun i:Nat=>(0:Int)+(i:Int)
theorem wL (n:Nat):placesOk 0 n (upTo n):=by
 refine dL.mpr ⟨fun p h=>?_,?_⟩
 ·obtain⟨i,hi,rfl⟩:=z_.mp h;have:=Wv.mp hi;omega
 ·refine List.pairwise_map.mpr (aaq.imp fun {x y} h=>?_);omega
theorem range_getD {α:Type} (xs:List α) (d:α):(Wg xs.length).map (fun i=>xs.getD i d)=xs:=by
 apply ZV;intro i;rw[g_];by_cases h:i<xs.length
 ·rw[W4 h,c_ h];show some (xs.getD i d)=_;rw[B_,c_ h];rfl
 ·rw[Wu (by rw[Wc];omega),Wu (by omega)];rfl
theorem zW {ns:List Nd} (hd:aQ 0 ns):∀ i,i<=ns.length->aN 0 (ns.take i)=min ((way (ns.take i)).length:Int) 12:=by
 intro i
 induction i with
 | zero=>intro _;rw[W0];rfl
 | succ i ih =>
  intro hi;have hn:ns[i]? = some ns[i]:=c_ (by omega);have h:=ih (by omega);obtain⟨_,d0,Sb⟩:=rH hd hn
  have e:ns=ns.take i++(ns[i]::ns.drop (i+1)):=by
   have q:=Xy (i+1) ns;rw[XF,hn,YX] at q;exact q.symm
  have pd:=hd;rw[e] at pd;obtain⟨_,_,_,h3,_⟩:=aY.mp pd;rw[dj hn,G_,V6,Wf];have e2:ns.take (i+1)=ns.take i++[ns[i]]:=by rw[XF,hn];rfl
  rw[e2,bm];show min (ns[i].2+1) 12=_;omega
theorem zX {ns:List Nd} (hd:aQ 0 ns) {k:Nat}{n:Nd} (h:ns[k]? = some n):((pv ns k).length:Int)=n.2:=by
 have hk:=(j_.mp h).1;obtain⟨_,d0,Sb⟩:=rH hd h
 have e:ns=ns.take k++(n::ns.drop (k+1)):=by
  have q:=Xy (k+1) ns;rw[XF,h,YX] at q;exact q.symm
 have pd:=hd;rw[e] at pd;obtain⟨_,_,_,h3,_⟩:=aY.mp pd;have w:=zW hd k (by omega);rw[ie h,V6];omega
end SH
namespace L2
open PySem PySem.Spec PyProof.Rows
theorem qF {x:V}:∀ {xs:List V}{us:List Value},Vals xs us->xs.all eO=true->us.countP (tu x)=xs.countP fun y=>zw y x
 | _,_,.nil,_=>rfl
 | y::xs,u::us,.cons r t,f=>by
  rw[WD,t_] at f;rw[ab2,ab2,vo r f.1,qF t f.2]
section
variable {X:Cx}
def wM (K:e_):V->List V->Hp->VK->Prop:=fun x vs H Q=>∃ t xs y,x=.ref t/\vs=[y]/\eG K H t xs/\eO y=true/\xs.all eO=true/\Q (.int ((xs.countP fun z=>zw z y:Nat):Int)) H
theorem yj:Pz X "tuple.count" (wM X.K):=by
 intro pins s σ H x vs v us Q I rx rv h;obtain⟨t,xs,y,rfl,rfl,hq,fy,fs,q⟩:=h
 cases rx
 obtain⟨u,rfl,ru⟩:=rv.one;obtain⟨ao,r,p,hz⟩:=I.tuple hq;obtain⟨⟨oc,od,T0,zp⟩,ho,hc,n,hd⟩:=p
 replace hc:oc=.type "tuple" := hc
 replace hd:T0=.seq ao.toArray n:=hd
 subst hc hd;refine abl aaJ ⟨_,ho,rfl⟩ F.entry_tuple_count (F.args_tuple_count_2 _ _) (SeqAt.tuple_countAt t ao.toArray n od zp u (tu y)) ⟨ho,fun w hw=>fI ru fy r fs w (by simpa using hw),?_⟩;refine⟨.int _,H,I.tok _,⟨_,rfl⟩,?_⟩;rw[show ao.toArray.toList=ao by simp,qF r fs];exact q
end
def vD (H:Hp) (t:Addr) (xs:List V):Prop:=∃ o:Obj,H t=some (.eM o (.tup xs))/\o.cls=.type "tuple" /\ o.dict=none
theorem vD.sq {K:e_}{H:Hp}{t:Addr}{xs:List V} (h:vD H t xs):eG K H t xs:=let ⟨o,e,_⟩:=h;.inl (.inr ⟨o,e⟩)
section
variable {X:Cx}
def Li (K:e_):List V->Hp->VK->Prop:=fun xs H Q=>∃ p ys,xs=[.ref p]/\du K H p ys/\∀ l (o:Obj),H l=none->o.cls=.type "tuple" ->o.dict=none->Q (.ref l) (upd H l (.eM o (.tup ys)))
theorem yk:bv X (.type "tuple") (Li X.K):=by
 intro pins s σ H xs us Q I r h;obtain⟨p,ys,rfl,hq,q⟩:=h;obtain⟨u,rfl,rx⟩:=vals1 r
 cases rx
 obtain⟨ao,r',pl,hz⟩:=I.list hq;have hlen:=r'.length;refine call_tuple_list pl.isList (fun h' kp=>?_) (by simp only[C_]<;>omega);have I1:Inv X pins σ H { s with heap:=h' }:=I.kept (t':=s.toks) kp
 have I2:Inv X pins σ (upd H h'.objs.size (.eM { cls:=.type "tuple",data:=.seq ao.toArray } (.tup ys))) { s with heap:=h'.push { cls:=.type "tuple",data:=.seq ao.toArray } } :=
  I1.laid (t':=s.toks) (fun b o e=>i_ _ e) (x_ _) ⟨v_ _ rfl,hz,ao,r',acJ _ _⟩
 exact⟨.ref h'.objs.size,_,I2,rfl,q _ _ (I1.bf.fresh (x_ _)) rfl rfl⟩
def CJ (K:e_) (to:TE) (t:TA):TE:=fun σ H Q=>to σ H fun x H1=>∃ p zs,x=.ref p/\vD H1 p zs/\t σ H1 fun xs H2=>wM K x xs H2 Q
theorem yl {o e:Expr}{to:TE}{t:TA}{apos bN:Pos} (ho:PE X o to) (ha:PA X [e] t)
  (nw:XI o "count" X.env (eval o X.env)=eval o X.env:=by rfl)
  (FP:((Xm bN (N_ [e] X.env)).all (fun x => !x.1)&&(ZH bN (Yh [] X.env)).all (fun x=>x.1.isSome)
   && decide (([e]:List Expr).length+([]:List Zc).length+(if ([]:List Zc).isEmpty then 0 else 1)<30))=true:=by rfl)
  (bS:(apos.endLine==bN.line)=true:=by rfl) (hs:N_ [e] X.env=(false,eval e X.env)::N_ [] X.env:=by rfl) (vp:(Xm bN (N_ [] X.env)).any (·.1)=false:=by rfl) :
  PE X (.Call (.Attribute o "count" apos) [e] [] bN) (CJ X.K to t):=by
 intro pins s σ H Q I h;refine aam nw FP bS rfl (a9 (ho pins s σ H _ I h) fun v s1 ⟨x,H1,I1,r1,p,zs,ex,⟨ob,hf,hc,hd⟩,q1⟩=>?_);subst ex
 cases r1
 obtain⟨e1,_⟩:=(show aU X.prog X.w H1 s1.heap p (.eM ob (.tup zs)) from I1.bf p _ hf);refine⟨"tuple","tuple.count",PySem.F.plainAttrs_tuple,aaJ,PySem.F.type_tuple_count,⟨ob,e1,hc⟩,fun a z=>by cases z;exact⟨ob,e1,hd⟩,?_⟩;have hA:=ha bN pins s1 σ H1 _ I1 q1;rw[hs] at hA ⊢;refine aan (by show (false||(Xm bN (N_ [] X.env)).any (·.1))=false;rw[vp]<;>rfl) (aaT ?_);exact a9 hA fun us s2 ⟨vs,H2,I2,r2,q2⟩=>yj pins s2 σ H2 (.ref p) vs _ us Q I2 rfl r2 q2
end
theorem zY {X:Cx}{i j:Nat}{x y:Str}{p1 p2 pos:Pos}{kk:Nat} (hc:X.calm=true) (hN:X.N.Nodup) (hi:X.N[i]? = some x) (hj:X.N[j]? = some y) (hx:Loc X.env.scope x) (hy:Loc X.env.scope y)
  (T1 : X.fn x = true ∨ X.env.scope.names.lookup x = some .local := by first | exact .inl rfl | exact .inr rfl | assumption) (T2 : X.fn y = true ∨ X.env.scope.names.lookup y = some .local := by first | exact .inl rfl | exact .inr rfl | assumption) :
  PG X (.Tuple [.Name x p1,.Name y p2] kk pos) (zb X.K 2 (jT (dF i) (jT (dF j) za))):=Fg hc (sW (jS hN hi hx T1) (sW (jS hN hj hy T2) B2))
end L2
namespace SH
open PySem L2
theorem _root_.L2.vD.same {H H':Hp}{t:Addr}{xs:List V} (s:ah H H') (h:vD H t xs):vD H' t xs:=let ⟨o,e,r⟩:=h;⟨o,s _ _ e,r⟩
end SH
namespace PySem
open Sem (wp)
structure j8 (z TI TO i1 i2:Addr) (f1 f2:List Addr):Prop where
 zt:TO≠z
 kz:TI≠z
 kt:TI≠TO
 k1:TI≠i1
 k2:TI≠i2
 z1:z∉f1
 z2:z∉f2
 t1:TO∉f1
 t2:TO∉f2
 m1:i1∈f1
 m2:i2∈f2
 o1:i1∉f2
 o2:i2∉f1
section
variable {prog:L_}{w:World}{A:Wt}{E:Value->h_->Prop}{s:h_}{z TI TO i1 i2:Addr}{f1 f2:List Addr}{n1 n2:Nat}{P1 P2:Nat->Value->Prop}{S1 S2:Nat->Heap->Prop}
theorem au {b:Addr}{h h':Heap} (e:XZ b h h') {c:Addr}{o:Obj} (hc:c≠b) (g:h.get? c=some o):h'.get? c=some o:=e.extBut _ _ hc g
theorem Draws.eF {it:Addr}{fp:List Addr}{n i:Nat}{P:Nat->Value->Prop}{St:Nat->Heap->Prop}{h h':Heap}{b:Addr} (D:Draws prog w A it fp n P St) (st:St i h) (hb:b∉fp) (e:XZ b h h'):St i h' :=
 D.frame i h h' st fun c hc o g=>au e (fun q=>hb (q▸hc)) g
theorem ym {i:Nat}{a b:Value}{Q:Value->h_->Prop} (W:j8 z TI TO i1 i2 f1 f2) (D1:Draws prog w A i1 f1 n1 P1 S1) (D2:Draws prog w A i2 f2 n2 P2 S2) (l1:i<n1) (l2:i<n2)
  (hz:IsZip s.heap z TI TO .none) (hI:XM s.heap TI (.ref i1) (.ref i2)) (hO:XM s.heap TO a b) (zZ:S1 i s.heap) (ph:S2 i s.heap)
  (q:∀ h' tk x y,P1 i x->P2 i y->IsZip h' z TI TO (Xa s.heap.objs.size)->XM h' TO x y->S1 (i+1) h'->S2 (i+1) h'->XM h' s.heap.objs.size x y->(∀ c o,c≠z->c≠TO->c≠i1->c≠i2->s.heap.get? c=some o->h'.get? c=some o)->Q (.ref s.heap.objs.size) { s with heap:=h',toks:=tk }) :
  wpAny (model prog w) A (Zd.«zip.__next__» ⟨[.ref z],[]⟩) (fun fin s'=>∃ v,fin=.done (.ret v)/\Q v s') E s:=by
 refine b_ (m:=field (.ref z) 2) (Wy hz rfl (x:=.bool false) rfl (b_ (m:=field (.ref z) 3) (Wy hz rfl (x:=.ref TI) rfl (b_ (WZ hI rfl ?_)))));refine b_ (m:=Yw (.ref z)) (b_ (Wy hz rfl (x:=.none) rfl (o_ ?_)));simp only[Yx];refine b_ (YC (b_ (Wy hz rfl (x:=.ref TO) rfl (b_ (Xw hz (by simp) fun g1 D9 e1=>b_ ?_)))))
 replace D9:IsZip g1 z TI TO .ellipsis:=D9
 simp only[Y9,ach,aax,ZJ];refine b_ (b_ (ZZ (b_ (m:=Wn (.ref i1)) (D1.item i _ _ _ l1 (D1.eF zZ W.z1 e1) fun x g2 D6 hx Lj e2=>o_ ?_))));have ne1:i1≠z:=fun q=>W.z1 (q▸W.m1)
 have ne2:i2≠z:=fun q=>W.z2 (q▸W.m2)
 have Qr:TO≠i1:=fun q=>W.t1 (q▸W.m1)
 have T3:TO≠i2:=fun q=>W.t2 (q▸W.m2)
 have Ll:XM g2 TO a b:=au e2 Qr (au e1 W.zt hO);refine b_ (WZ (s:={ s with heap:=g2,toks:=D6 }) Ll rfl (b_ (Zg (s:={ s with heap:=g2,toks:=D6 }) Ll fun g3 Ov e3=>b_ (aca (o_ ?_)))))
 replace Ov:XM g3 TO x b:=Ov
 refine b_ (b_ (ZZ (b_ (m:=Wn (.ref i2)) (D2.item i _ _ _ l2 (D2.eF (D2.eF (D2.eF ph W.z2 e1) W.o1 e2) W.t2 e3) fun y g4 Lm hy Qs e4=>o_ ?_))));have Sc:XM g4 TO x b:=au e4 T3 Ov;refine b_ (WZ (s:={ s with heap:=g4,toks:=Lm }) Sc rfl (b_ (Zg (s:={ s with heap:=g4,toks:=Lm }) Sc fun g5 Ow e5=>b_ (aca (o_ (o_ ?_))))))
 replace Ow:XM g5 TO x y:=Ow
 have sz:g5.objs.size=s.heap.objs.size:=by rw[e5.1,e4.1,e3.1,e2.1,e1.1]
 have Sd:IsZip g5 z TI TO .ellipsis:=au e5 (M_ W.zt) (au e4 (M_ ne2) (au e3 (M_ W.zt) (au e2 (M_ ne1) D9)));have T4:S1 (i+1) g5:=D1.eF (D1.eF (D1.eF Lj W.t1 e3) W.o2 e4) W.t1 e5;have T5:S2 (i+1) g5:=D2.eF Qs W.t2 e5;have k5:∀ c o,c≠z->c≠TO->c≠i1->c≠i2->s.heap.get? c=some o->g5.get? c=some o:=fun c o c1 c2 c3 c4 g=>au e5 c2 (au e4 c4 (au e3 c2 (au e2 c3 (au e1 c1 g))))
 refine b_ (WZ (s:={ s with heap:=g5,toks:=Lm }) Ow rfl (b_ (wpAny_newTuple ?_)));refine b_ (m:=aa6 (.ref z) (.ref g5.objs.size)) ?_;have Se:z<g5.objs.size:=r_ Sd;refine b_ (Xw (s:={ s with heap:=g5.push { cls:=.type "tuple",data:=.seq #[x,y] },toks:=Lm }) (i_ _ Sd) (by simp) fun g7 Qt e7=>?_)
 replace Qt:IsZip g7 z TI TO (Xa g5.objs.size):=Qt
 refine Xw Qt (by simp) fun g8 Ox e8=>?_
 replace Ox:IsZip g8 z TI TO (Xa g5.objs.size):=Ox
 have up:∀ c o,c≠z->g5.get? c=some o->g8.get? c=some o:=fun c o c1 g=>au e8 c1 (au e7 c1 (i_ _ g))
 have hT:XM g8 g5.objs.size x y:=au e8 (Zu Se) (au e7 (Zu Se) (v_ _ rfl));rw[sz] at Ox hT;refine o_ ⟨_,rfl,?_⟩;rw[sz];exact q g8 Lm x y hx hy Ox (up _ _ W.zt Ow) (D1.frame _ _ _ T4 fun c hc o g=>up c o (fun q=>W.z1 (q▸hc)) g) (D2.frame _ _ _ T5 fun c hc o g=>up c o (fun q=>W.z2 (q▸hc)) g) hT fun c o c1 c2 c3 c4 g=>up c o c1 (k5 c o c1 c2 c3 c4 g)
theorem z0 {i:Nat}{a b:Value}{Q:Fin->h_->Prop} (W:j8 z TI TO i1 i2 f1 f2) (D1:Draws prog w A i1 f1 n1 P1 S1) (D2:Draws prog w A i2 f2 n2 P2 S2) (he:i=n1∨(i<n1/\i=n2))
  (hz:IsZip s.heap z TI TO .none) (hI:XM s.heap TI (.ref i1) (.ref i2)) (hO:XM s.heap TO a b) (zZ:S1 i s.heap) (ph:S2 i s.heap)
  (q:∀ h' tk e,(∀ c o,c≠z->c≠TO->c≠i1->c≠i2->s.heap.get? c=some o->h'.get? c=some o)->(∃ o,h'.get? e=some o/\o.cls=.type "StopIteration")->E (.ref e) { s with heap:=h',toks:=tk }) :
  wpAny (model prog w) A (Zd.«zip.__next__» ⟨[.ref z],[]⟩) Q E s:=by
 have ne1:i1≠z:=fun q=>W.z1 (q▸W.m1)
 have ne2:i2≠z:=fun q=>W.z2 (q▸W.m2)
 have Qr:TO≠i1:=fun q=>W.t1 (q▸W.m1)
 refine b_ (m:=field (.ref z) 2) (Wy hz rfl (x:=.bool false) rfl (b_ (m:=field (.ref z) 3) (Wy hz rfl (x:=.ref TI) rfl (b_ (WZ hI rfl ?_)))));refine b_ (m:=Yw (.ref z)) (b_ (Wy hz rfl (x:=.none) rfl (o_ ?_)));simp only[Yx];refine b_ (YC (b_ (Wy hz rfl (x:=.ref TO) rfl (b_ (Xw hz (by simp) fun g1 D9 e1=>b_ ?_)))))
 replace D9:IsZip g1 z TI TO .ellipsis:=D9
 simp only[Y9,ach,aax,ZJ]
 have away:∀ {g:Heap}{e:Addr},IsZip g z TI TO .ellipsis->(∃ o,g.get? e=some o/\o.cls=.type "StopIteration")->e≠z:=fun hg ⟨o,ho,hc⟩ x=>by
  subst x;rw[hg] at ho
  cases ho
  simp at hc
 refine b_ (b_ (ZZ ?_));refine b_ (m:=Wn (.ref i1)) ?_;rcases he with rfl | ⟨lt,rfl⟩
 ·refine D1.done _ _ _ (D1.eF zZ W.z1 e1) fun g2 e x2 hs=>?_
  have Qu:IsZip g2 z TI TO .ellipsis:=x2 _ _ (M_ ne1) D9;have Qv:=away Qu hs;obtain⟨o,ho,hc⟩:=hs;exact Xw Qu (by simp) fun g3 _ e3=>q g3 s.toks e (fun c o c1 _ c3 _ g=>au e3 c1 (x2 _ _ c3 (au e1 c1 g))) ⟨o,au e3 Qv ho,hc⟩
 ·refine D1.item i _ _ _ lt (D1.eF zZ W.z1 e1) fun x g2 D6 hx Lj e2=>o_ ?_
  have Ll:XM g2 TO a b:=au e2 Qr (au e1 W.zt hO);refine b_ (WZ (s:={ s with heap:=g2,toks:=D6 }) Ll rfl (b_ (Zg (s:={ s with heap:=g2,toks:=D6 }) Ll fun g3 Ov e3=>b_ (aca (o_ ?_)))));refine b_ (b_ (ZZ ?_));refine b_ (m:=Wn (.ref i2)) ?_;refine D2.done _ _ _ (D2.eF (D2.eF (D2.eF ph W.z2 e1) W.o1 e2) W.t2 e3) fun g4 e x4 hs=>?_
  have Sf:IsZip g4 z TI TO .ellipsis:=x4 _ _ (M_ ne2) (au e3 (M_ W.zt) (au e2 (M_ ne1) D9));have Qv:=away Sf hs;obtain⟨o,ho,hc⟩:=hs;exact Xw Sf (by simp) fun g5 _ e5=>q g5 D6 e (fun c o c1 c2 c3 c4 g=>au e5 c1 (x4 _ _ c4 (au e3 c2 (au e2 c3 (au e1 c1 g))))) ⟨o,au e5 Qv ho,hc⟩
theorem vF {i:Nat}{a b:Value}{Q:k_ Value->h_->Prop} (W:j8 z TI TO i1 i2 f1 f2) (D1:Draws prog w A.in1 i1 f1 n1 P1 S1) (D2:Draws prog w A.in1 i2 f2 n2 P2 S2) (l1:i<n1) (l2:i<n2)
  (hz:IsZip s.heap z TI TO .none) (hI:XM s.heap TI (.ref i1) (.ref i2)) (hO:XM s.heap TO a b) (zZ:S1 i s.heap) (ph:S2 i s.heap)
  (q:∀ h' tk x y,P1 i x->P2 i y->IsZip h' z TI TO (Xa s.heap.objs.size)->XM h' TO x y->S1 (i+1) h'->S2 (i+1) h'->XM h' s.heap.objs.size x y->(∀ c o,c≠z->c≠TO->c≠i1->c≠i2->s.heap.get? c=some o->h'.get? c=some o)->Q (some (.ref s.heap.objs.size)) { s with heap:=h',toks:=tk }) :
  wpAny (model prog w) A (abW (.ref z)) Q E s:=by
 have hT:s.TypeIs (.ref z) "zip" := ⟨_,hz,rfl⟩;unfold abW;exact b_ (wpAny_attempt (WU (name:=WR "__next__") hT Zk (W9 Zk hT F.entry_zip_next (ym W D1 D2 l1 l2 hz hI hO zZ ph fun h' tk x y a1 a2 a3 a4 a5 a6 a7 a8=>o_ (q h' tk x y a1 a2 a3 a4 a5 a6 a7 a8)) (abP _))))
theorem yn {i:Nat}{a b:Value}{Q:k_ Value->h_->Prop} (W:j8 z TI TO i1 i2 f1 f2) (D1:Draws prog w A.in1 i1 f1 n1 P1 S1) (D2:Draws prog w A.in1 i2 f2 n2 P2 S2) (he:i=n1∨(i<n1/\i=n2))
  (hz:IsZip s.heap z TI TO .none) (hI:XM s.heap TI (.ref i1) (.ref i2)) (hO:XM s.heap TO a b) (zZ:S1 i s.heap) (ph:S2 i s.heap)
  (q:∀ h' tk,(∀ c o,c≠z->c≠TO->c≠i1->c≠i2->s.heap.get? c=some o->h'.get? c=some o)->Q none { s with heap:=h',toks:=tk }):wpAny (model prog w) A (abW (.ref z)) Q E s:=by
 have hT:s.TypeIs (.ref z) "zip" := ⟨_,hz,rfl⟩;unfold abW;refine b_ (wpAny_attempt (WU (name:=WR "__next__") hT Zk (W9 Zk hT F.entry_zip_next (z0 W D1 D2 he hz hI hO zZ ph fun h' tk e hk hs=>?_) (abP _))));obtain⟨o,ho,hc⟩:=hs;exact b_ (wpAny_isInstance (T := "StopIteration") (b:=true) ⟨o,ho,hc⟩ isSubtype_stop (o_ (q _ _ hk)))
noncomputable def JM (l:Addr):Obj:={ cls:=.type "tuple_iterator",data:=.fields #[.ref l,.int 0 0] }
theorem vG (l1 l2:Addr) (xs ys:Array Value) :
  Meets (Zd.«zip.__new__» ⟨[.type "zip",.ref l1,.ref l2],[]⟩) (fun _ R s=>s.heap.IsTuple l1 xs/\s.heap.IsTuple l2 ys /\
   ∀ g1 g2 g3 g4 g5:Heap,g1=s.heap.push (JM l1)->g2=g1.push (JM l2)->g3=g2.push { cls:=.type "tuple",data:=.seq #[.ref s.heap.objs.size,.ref g1.objs.size] }->g4=g3.push { cls:=.type "tuple",data:=.seq #[.none,.none] } ->
    g5=g4.push { cls:=.type "zip",data:=.fields #[.none,.bool false,.bool false,.ref g2.objs.size,.ref g3.objs.size] }->R (.ok (.ret (.ref g4.objs.size))) { s with heap:=g5 }) :=
 .of_wp fun prog w A R s h=>by
  obtain⟨hp,g,d,tk,os⟩:=s;obtain⟨h1,h2,h⟩:=h;have Qo:=sub_zip;have hA:abM (ab_ ⟨hp,g,d,tk,os⟩) l1 xs:=h1;have hB:abM (ab_ ⟨hp.push (JM l1),g,d,tk,os⟩) l2 ys:=Heap.IsTuple.push h2 _;unfold JM at hB
  wp_walk using X3 hA,X3 hB
  exact⟨_,rfl,h _ _ _ _ _ rfl rfl rfl rfl rfl⟩
theorem yo {l1 l2:Addr}{xs ys:Array Value}{Q:Value->h_->Prop} (h1:s.heap.IsTuple l1 xs) (h2:s.heap.IsTuple l2 ys)
  (q:∀ h',IsZip h' (s.heap.objs.size+4) (s.heap.objs.size+2) (s.heap.objs.size+3) .none->XM h' (s.heap.objs.size+2) (.ref s.heap.objs.size) (.ref (s.heap.objs.size+1))->XM h' (s.heap.objs.size+3) .none .none ->
   h'.IsTupleIter s.heap.objs.size l1 0->h'.IsTupleIter (s.heap.objs.size+1) l2 0->(∀ c o,s.heap.get? c=some o->h'.get? c=some o)->Q (.ref (s.heap.objs.size+4)) { s with heap:=h' }) :
  wpAny (model prog w) A (call (.type "zip") [.ref l1,.ref l2]) Q E s:=by
 refine callType_new F.called_zip (by decide) (F.typeCall_zip_2 _ _) (F.newCall_zip_2 _ _) (fun obj=>F.args_object_init_3 obj _ _) F.entry_zip_new (vG l1 l2 xs ys) ⟨h1,h2,?_⟩;intro g1 g2 g3 g4 g5 e1 e2 e3 e4 e5;have n1:g1.objs.size=s.heap.objs.size+1:=by rw[e1];exact WI ..
 have n2:g2.objs.size=s.heap.objs.size+2:=by rw[e2,WI,n1]
 have n3:g3.objs.size=s.heap.objs.size+3:=by rw[e3,WI,n2]
 have n4:g4.objs.size=s.heap.objs.size+4:=by rw[e4,WI,n3]
 have u1:∀ c o,s.heap.get? c=some o->g1.get? c=some o:=fun c o e=>by rw[e1];exact i_ _ e
 have u2:∀ c o,g1.get? c=some o->g2.get? c=some o:=fun c o e=>by rw[e2];exact i_ _ e
 have u3:∀ c o,g2.get? c=some o->g3.get? c=some o:=fun c o e=>by rw[e3];exact i_ _ e
 have u4:∀ c o,g3.get? c=some o->g4.get? c=some o:=fun c o e=>by rw[e4];exact i_ _ e
 have u5:∀ c o,g4.get? c=some o->g5.get? c=some o:=fun c o e=>by rw[e5];exact i_ _ e
 have a1:g1.get? s.heap.objs.size=some (JM l1):=by rw[e1];exact v_ _ rfl
 have a2:g2.get? g1.objs.size=some (JM l2):=by rw[e2];exact v_ _ rfl
 have a3:g3.get? g2.objs.size=some { cls:=.type "tuple",data:=.seq #[.ref s.heap.objs.size,.ref g1.objs.size] }:=by rw[e3];exact v_ _ rfl
 have a4:g4.get? g3.objs.size=some { cls:=.type "tuple",data:=.seq #[.none,.none] }:=by rw[e4];exact v_ _ rfl
 have a5:g5.get? g4.objs.size=some { cls:=.type "zip",data:=.fields #[.none,.bool false,.bool false,.ref g2.objs.size,.ref g3.objs.size] }:=by rw[e5];exact v_ _ rfl
 rw[n1] at a2 a3;rw[n2] at a3 a5;rw[n3] at a4 a5;rw[n4] at a5;show _/\_;rw[n4];exact⟨⟨_,a5,rfl⟩,q g5 a5 (u5 _ _ (u4 _ _ a3)) (u5 _ _ a4) ⟨_,u5 _ _ (u4 _ _ (u3 _ _ (u2 _ _ a1))),rfl,rfl⟩ ⟨_,u5 _ _ (u4 _ _ (u3 _ _ a2)),rfl,rfl⟩ fun c o e=>u5 _ _ (u4 _ _ (u3 _ _ (u2 _ _ (u1 _ _ e))))⟩
end
end PySem
namespace L2
open PySem PySem.Spec PyProof.Rows
noncomputable def Gr (a b:Addr):It :=
 ⟨fun i H=>∃ xs ys x y,Rd H a (.tup xs)/\Rd H b (.tup ys)/\xs[i]? = some x/\ys[i]? = some y,fun i H v H'=>∃ T x y,H T=none/\v=.ref T/\(∀ xs,Rd H a (.tup xs)->xs[i]? = some x)/\(∀ ys,Rd H b (.tup ys)->ys[i]? = some y)/\H'=upd H T (.tup [x,y]),
  fun i H=>∃ xs ys,Rd H a (.tup xs)/\Rd H b (.tup ys)/\i=min xs.length ys.length⟩
theorem Rd.one {H:Hp}{a:Addr}{xs ys:List V} (h1:Rd H a (.tup xs)) (h2:Rd H a (.tup ys)):xs=ys:=by
 rcases h1 with h1 | ⟨o,h1⟩<;>rcases h2 with h2 | ⟨o',h2⟩<;>(rw[h1] at h2;cases h2<;>rfl)
theorem Rd.ne {H:Hp}{a b:Addr}{u:HO} (h:Rd H a u) (n:H b=none):a≠b:=fun e=>by
 rcases h with h | ⟨o,h⟩<;>(rw[e,n] at h;cases h)
structure kY (z TI TO i1 i2:Addr):Prop where
 tz:TO≠z
 kz:TI≠z
 kt:TI≠TO
 k1:TI≠i1
 k2:TI≠i2
 z1:i1≠z
 z2:i2≠z
 t1:TO≠i1
 t2:TO≠i2
 ii:i1≠i2
theorem kY.of (n:Nat):kY (n+4) (n+2) (n+3) n (n+1):=by constructor<;>(intro e;have e':(_:Nat)=_:=e;omega)
theorem kY.away {z TI TO i1 i2 a b:Addr} (d:kY z TI TO i1 i2) (ha:∀ c∈[z,TI,TO,i1,i2],a≠c) (hb:∀ c∈[z,TI,TO,i1,i2],b≠c):j8 z TI TO i1 i2 [i1,a] [i2,b] where
 zt:=d.tz
 kz:=d.kz
 kt:=d.kt
 k1:=d.k1
 k2:=d.k2
 z1:=by simp [M_ d.z1,M_ (ha z (by simp))]
 z2:=by simp [M_ d.z2,M_ (hb z (by simp))]
 t1:=by simp [d.t1,M_ (ha TO (by simp))]
 t2:=by simp [d.t2,M_ (hb TO (by simp))]
 m1:=by simp
 m2:=by simp
 o1:=by simp [d.ii,M_ (hb i1 (by simp))]
 o2:=by simp [M_ d.ii,M_ (ha i2 (by simp))]
theorem yp {P:L_}{w:World}{K:e_}{elts:List Expr}{kk:Nat}{tp:Pos}{z TI TO i1 i2:Addr} (a b:Addr) (d:kY z TI TO i1 i2):Turn P w K (.Tuple elts kk tp) (Gr a b) [z,TI,TO,i1,i2] z (fun i h=>IsZip h z TI TO .none/\XM h TI (.ref i1) (.ref i2)/\(∃ x y,XM h TO x y)/\h.IsTupleIter i1 a i/\h.IsTupleIter i2 b i) where
 mem:=by simp
 obj:=fun i h st c hc=>by
  obtain⟨hz,hI,⟨x,y,hO⟩,⟨o1,g1,c1,d1⟩,⟨o2,g2,c2,d2⟩⟩:=st;simp only[u_,Wp,X9] at hc;rcases hc with rfl | rfl | rfl | rfl | rfl
  ·exact⟨_,hz,fun v q=>by have q':aaO _=Z6 v:=q;cases q'⟩
  ·exact⟨_,hI,fun v q=>by have q':acz _ _=Z6 v:=q;cases q'⟩
  ·exact⟨_,hO,fun v q=>by have q':acz _ _=Z6 v:=q;cases q'⟩
  ·exact⟨o1,g1,fun v q=>by rw[d1] at q;cases q⟩
  ·exact⟨o2,g2,fun v q=>by rw[d2] at q;cases q⟩
 keep:=fun i h h' st k=>by
  obtain⟨hz,hI,⟨x,y,hO⟩,h1,h2⟩:=st;exact⟨k z (by simp) _ hz,k TI (by simp) _ hI,⟨x,y,k TO (by simp) _ hO⟩,h1.at fun o e=>k i1 (by simp) o e,h2.at fun o e=>k i2 (by simp) o e⟩
 item:=by
  intro X hP hw hK hc i pins s σ H E I hf st hg;subst hP hw hK;obtain⟨xs,ys,x,y,ha,hb,hx,hy⟩:=hg;obtain⟨ao,rv,p,_⟩:=I.tuple (.inl ha);obtain⟨jY,Oy,p2,_⟩:=I.tuple (.inl hb);obtain⟨u,hu,ru⟩:=rv.get hx;obtain⟨v,hv,Qj⟩:=Oy.get hy;have hA:X.A.handled=none:=I.ok.hd hc;obtain⟨hz,hI,⟨x0,y0,hO⟩,h1,h2⟩:=id st;have na:∀ c∈[z,TI,TO,i1,i2],a≠c:=fun c hc=>ha.ne (hf c hc).1
  have nb:∀ c∈[z,TI,TO,i1,i2],b≠c:=fun c hc=>hb.ne (hf c hc).1
  have li:i<ao.toArray.size:=by have:=(j_.mp hu).1;simpa using this
  have T6:i<jY.toArray.size:=by have:=(j_.mp hv).1;simpa using this
  refine vF (d.away na nb) (Draws.tup (by exact hA) i1 a (na i1 (by simp)) ao.toArray) (Draws.tup (by exact hA) i2 b (nb i2 (by simp)) jY.toArray) li T6 hz hI hO ⟨h1,p⟩ ⟨h2,p2⟩ fun h' tk u' v' Sg zk a3 a4 a5 a6 a7 a8=>?_
  have eu:u'=u:=by
   have q:ao.toArray[i]? = some u:=by simpa using hu
   rw[q] at Sg;exact (F_ Sg).symm
  have ev:v'=v:=by
   have q:jY.toArray[i]? = some v:=by simpa using hv
   rw[q] at zk;exact (F_ zk).symm
  subst eu ev;refine⟨_,rfl,wpAny_letOwnedTupleGo_zip (s:={ s with heap:=h',toks:=tk }) a3 fun g Gu e'=>?_⟩
  have kp:∀ c o,c∉[z,TI,TO,i1,i2]->s.heap.get? c=some o->g.get? c=some o:=fun c o hc q=>by
   simp only[u_,Wp,X9,not_or] at hc;exact au e' hc.1 (a8 c o hc.1 hc.2.2.1 hc.2.2.2.1 hc.2.2.2.2 q)
  have nT:∀ c∈[z,TI,TO,i1,i2],c≠s.heap.objs.size:=fun c hc=>by
   have:∃ o,s.heap.get? c=some o:=by
    simp only[u_,Wp,X9] at hc;rcases hc with rfl | rfl | rfl | rfl | rfl
    ·exact⟨_,hz⟩
    ·exact⟨_,hI⟩
    ·exact⟨_,hO⟩
    ·obtain⟨o,q,_⟩:=h1;exact⟨o,q⟩
    ·obtain⟨o,q,_⟩:=h2;exact⟨o,q⟩
   obtain⟨o,q⟩:=this;exact J_ (r_ q)
  have new:aU X.prog X.w (upd H s.heap.objs.size (.tup [x,y])) g s.heap.objs.size (.tup [x,y]) :=
   ⟨by show 2<=sizeLine;decide,[u',v'],.cons ru (.cons Qj .nil),_,au e' (M_ (nT z (by simp))) a7,rfl,_,rfl⟩
  refine⟨.ref s.heap.objs.size,_,I.nF (ch:=[z,TI,TO,i1,i2]) (t':=tk) hf kp (x_ _) new,rfl,⟨s.heap.objs.size,x,y,I.bf.fresh (x_ _),rfl,fun sR h=>by rw[←ha.one h];exact hx,fun VM h=>by rw[←hb.one h];exact hy,rfl⟩,?_,fun c hc=>?_⟩
  ·exact⟨Gu,au e' d.kz (a8 _ _ d.kz d.kt d.k1 d.k2 hI),⟨_,_,au e' d.tz a4⟩,a5.1.at fun o q=>au e' d.z1 q,a6.1.at fun o q=>au e' d.z2 q⟩
  ·rw[aq (nT c hc)];exact (hf c hc).1
 done:=by
  intro X hP hw hK hc i pins s σ H E I hf st hg;subst hP hw hK;obtain⟨xs,ys,ha,hb,hi⟩:=hg;obtain⟨ao,rv,p,_⟩:=I.tuple (.inl ha);obtain⟨jY,Oy,p2,_⟩:=I.tuple (.inl hb);have hA:X.A.handled=none:=I.ok.hd hc;obtain⟨hz,hI,⟨x0,y0,hO⟩,h1,h2⟩:=id st;have na:∀ c∈[z,TI,TO,i1,i2],a≠c:=fun c hc=>ha.ne (hf c hc).1
  have nb:∀ c∈[z,TI,TO,i1,i2],b≠c:=fun c hc=>hb.ne (hf c hc).1
  have e1:=rv.length;have e2:=Oy.length;refine yn (d.away na nb) (Draws.tup (by exact hA) i1 a (na i1 (by simp)) ao.toArray) (Draws.tup (by exact hA) i2 b (nb i2 (by simp)) jY.toArray) (i:=i) (by simp only[C_];omega) hz hI hO ⟨h1,p⟩ ⟨h2,p2⟩ fun h' tk k1=>⟨rfl,I.wH (ch:=[z,TI,TO,i1,i2]) (t':=tk) hf fun c o hc q=>?_⟩
  simp only[u_,Wp,X9,not_or] at hc;exact k1 c o hc.1 hc.2.2.1 hc.2.2.2.1 hc.2.2.2.2 q
 self:=fun _ _ _ _ _ st h=>wpAny_pyIter_zip st.1 h
section
variable {X:Cx}
def Ln (ta:TA):TI:=fun σ H R=>ta σ H fun vs H1=>∃ a b xs ys,vs=[.ref a,.ref b]/\Rd H1 a (.tup xs)/\Rd H1 b (.tup ys)/\R (Gr a b) H1
theorem CK {a b:Expr}{ta:TA}{p pos:Pos}{elts:List Expr}{kk:Nat}{tp:Pos} (hg:Gl X "zip") (hm:X.mg "zip" = none) (ha:PA X [a,b] ta) (hs:N_ [a,b] X.env=[(false,eval a X.env),(false,eval b X.env)]:=by rfl) (gT:N_ [b] X.env=[(false,eval b X.env)]:=by rfl) :
  PI X (.Tuple elts kk tp) (.Call (.Name "zip" p) [a,b] [] pos) (Ln ta):=by
 intro pins s σ H R I h;refine Call_ (hV I hg hm (show WQ "zip" = some (.type "zip") by decide +kernel) (WH (a9 (ha pos pins s σ H _ I h) fun us s1 ⟨vs,H1,I1,r1,q1⟩=>?_) (by rw[hs,gT]) (by rw[gT];rfl)));obtain⟨l1,l2,xs,ys,e,h1,h2,q⟩:=q1;subst e
 cases r1 with
 | cons r rr =>
  cases rr with
  | cons r' rr =>
   cases rr
   cases r
   cases r'
   obtain⟨ao,rv,p,hz⟩:=I1.tuple (.inl h1);obtain⟨jY,Oy,p2,Qu⟩:=I1.tuple (.inl h2);refine yo p p2 fun h' hz hI hO g1 g2 kp=>wpAny_pyIter_zip hz ⟨s1.heap.objs.size+4,[s1.heap.objs.size+4,s1.heap.objs.size+2,s1.heap.objs.size+3,s1.heap.objs.size,s1.heap.objs.size+1],_,_,H1,rfl,I1.kept (t':=s1.toks) kp,yp l1 l2 (kY.of _),⟨hz,hI,⟨_,_,hO⟩,g1,g2⟩,fun c hc=>?_,q⟩
   ·have:s1.heap.objs.size<=c:=by
     simp only[u_,Wp,X9] at hc;rcases hc with rfl | rfl | rfl | rfl | rfl
     ·exact Y_ _ _
     ·exact Y_ _ _
     ·exact Y_ _ _
     ·exact x_ _
     ·exact Y_ _ _
    exact I1.xJ this (I1.bf.fresh this)
end
end L2
namespace HT
open PySem PySem.Spec PyProof.Rows
section
variable {prog:L_}{w:World}{A:Wt}{E:Value->h_->Prop}{s:h_}
theorem j9 {t sl:Addr}{items:Array Value}{vl vu:Value}{lo hi:k_ Int}{Q:Value->h_->Prop} (ht:IsTup s.heap t items) (hs:s.heap.IsSliceOf sl vl vu .none) (pl:aak vl lo) (pu:aak vu hi)
  (hw:bR items.size 0 lo=0/\bR items.size items.size hi=items.size) (h:Q (.ref t) s):wpAny (model prog w) A (ZT (.ref t) (.ref sl)) Q E s:=by
 obtain⟨os,FJ,On,Cb⟩:=id hs;have Pt:s.TypeIs (.ref sl) "slice" := ⟨os,FJ,On⟩;unfold ZT
 try with_reducible refine Zb ?_
 first | refine b_ (o_ ?_) | skip
 refine b_ (wpAny_sequenceKey ht.typeIs (by decide) ?_)
 refine b_ (WU (name:=WR "__getitem__") ht.typeIs Wk
  (W9 Wk ht.typeIs aa4 ?_ (args_tuple_getitem _ _)))
 show wpAny _ _ (ZG (.ref t) >>= _) _ _ s;refine b_ (tupleItemsOf_ ht ?_);refine b_ (Zw Pt ?_);rw[w_ (by decide)];refine b_ (fH hs pl pu ?_)
 have Qw:(((bR items.size 0 lo:Nat):Int)==0&&(1:Int)==1&&(bR items.size items.size hi-bR items.size 0 lo)==items.size)=true:=by
  rw[hw.1,hw.2];simp
 show wpAny _ _ (if (((bR items.size 0 lo:Nat):Int)==0&&(1:Int)==1&&(bR items.size items.size hi-bR items.size 0 lo)==items.size)=true then _ else _) _ _ s;rw[w_ Qw];refine b_ (m:=Builtin.Tuple.tupleIsExact (.ref t)) ?_;refine b_ (Zw ht.typeIs (o_ ?_));rw[w_ (by decide)];exact b_ (YC (o_ ⟨_,rfl,o_ h⟩))
end
end HT
namespace L2
open PySem PySem.Spec PyProof.Rows
def Lo (K:e_):V->k_ Int->k_ Int->Hp->VK->Prop:=fun x lo hi H Q=>∃ a xs,x=.ref a/\eG K H a xs /\
 ((HT.bR xs.length 0 lo=0/\HT.bR xs.length xs.length hi=xs.length)->Q (.ref a) H)/\(¬ (HT.bR xs.length 0 lo=0/\HT.bR xs.length xs.length hi=xs.length)->∀ p,H p=none->Q (.ref p) (upd H p (.tup (mv xs lo hi))))
theorem CL {X:Cx}:KC X (Lo X.K):=by
 intro pins s σ H x v vl vu lo hi sl Q I rx hs pl pu h;obtain⟨a,xs,rfl,hx,q1,q2⟩:=h;by_cases hw:HT.bR xs.length 0 lo=0/\HT.bR xs.length xs.length hi=xs.length
 ·cases rx
  obtain⟨ao,r,ht,hz⟩:=I.tuple hx;have hlen:ao.toArray.size=xs.length:=by rw[C_];exact r.length.symm
  refine⟨"tuple",_,Wk.lookup,ht.typeIs,?_⟩;exact HT.j9 ht hs pl pu (by rw[hlen];exact hw) ⟨.ref a,H,I,rfl,q1 hw⟩
 ·exact FK pins s σ H _ v vl vu lo hi sl Q I rx hs pl pu ⟨a,xs,rfl,hx,hw,q2 hw⟩
end L2
namespace L2
open PySem PySem.Spec PyProof.Rows
section
variable {X:Cx}
def Lp (K:e_):R2:=fun x y H Q=>∃ p xs d ds,y=.ref p/\du K H p xs/\cC K H x d/\dX K H xs ds/\H_ d=true/\(∀ e∈ds,H_ e=true)/\Q (.bl (ds.any fun e=>O_ e d)) H
inductive JN {α β:Type} (R:α->β->Prop):List α->List β->Prop
 | nil:JN R [] []
 | cons {a:α}{b:β}{as:List α}{bs:List β}:R a b->JN R as bs->JN R (a::as) (b::bs)
theorem dX.reads {pins:List (Addr×Obj)}{σ:St}{H:Hp}{s:h_} (I:Inv X pins σ H s):∀ {xs:List V}{ds:List K_},dX X.K H xs ds->(∀ e∈ds,H_ e=true)->∀ us,Vals xs us->JN (fun u d=>(∃ as,Reads s.heap u d as)/\H_ d=true) us ds
 | _,_,.nil,_,_,.nil=>.nil
 | _,_,.cons h1 h2,f,_,.cons r1 r2=>.cons ⟨h1.reads I _ r1,f _ V_⟩ (dX.reads I h2 (fun e he=>f e (I_ _ he)) _ r2)
theorem rK {d:K_}{e:Value->Bool}{R:Value->K_->Prop}:∀ {us:List Value}{ds:List K_},JN R us ds->(∀ u d',R u d'->e u=O_ d' d)->us.any e=ds.any fun x=>O_ x d
 | _,_,.nil,_=>rfl
 | u::us,d'::ds,.cons r t,f=>by
  rw[Ya,Ya,f u d' r,rK t f]
theorem rL {α β:Type}{R:α->β->Prop}:∀ {us:List α}{ds:List β},JN R us ds->∀ u∈us,∃ d,R u d
 | _,_,.nil,u,hu=>by cases hu
 | v::us,d::ds,.cons r t,u,hu=>by
  rcases u_.mp hu with rfl | hu
  ·exact⟨d,r⟩
  ·exact rL t u hu
theorem Gv (hu:X.A.units+66<cLine):fG X (Wo .In) (Lp X.K):=by
 intro pins s σ H x y v u Q I rx ry h;obtain⟨p,xs,d,ds,rfl,hq,hd,Cb,s1,s2,q⟩:=h
 cases ry
 obtain⟨as,ra⟩:=hd.reads I v rx;obtain⟨ao,r,pl,hz⟩:=I.list hq;have F2:=dX.reads I Cb s2 ao r
 classical
 let e:Value->Bool:=fun w=>if h:∃ d',(∃ bs,Reads s.heap w d' bs)/\H_ d'=true then O_ h.choose d else false
 have he:∀ w d',((∃ bs,Reads s.heap w d' bs)/\H_ d'=true)->e w=O_ d' d:=fun w d' hx=>by
  have i8:∃ d',(∃ bs,Reads s.heap w d' bs)/\H_ d'=true:=⟨d',hx⟩;show (if h:∃ d',(∃ bs,Reads s.heap w d' bs)/\H_ d'=true then O_ h.choose d else false)=_;rw[dif_pos i8];obtain⟨⟨cs,rc⟩,sc⟩:=i8.choose_spec;obtain⟨⟨bs,rb⟩,sb⟩:=hx;rw[abu _ _ _ _ _ (W1 sc) rc rb]
 refine acb e pl.isList (fun w hw=>?_) ⟨.bl _,H,I,rfl,?_⟩
 ·obtain⟨d',hx⟩:=rL F2 w (by simpa using hw);rw[he w d' hx];obtain⟨⟨bs,rb⟩,sb⟩:=hx;exact ab4 d' d X.A.in1 s w v bs as rb ra (W1 sb) (W1 s1) (aaU sb (by rw[show X.A.in1.units=X.A.units+1 from rfl];omega))
 ·rw[show ao.toArray.any e=ao.any e by simp,rK F2 he];exact q
end
end L2
namespace L2
open PySem PySem.Spec PyProof.Rows
structure bV (N:List Str) (KN scope:Scope) (x0:Str) (aV:List Str) (ix:List Nat):Prop where
 kind:scope.kind=.function
 lay:∀ (n:Nat) (acc:List (Str×Addr)),Yl n scope.names acc=(x0,n)::acc
 push:∀ h:Heap,Zz h scope.names=h.push { cls:=.type "cell",data:=.cell none }
 Lq:∀ y∈scope.names,y.2=.cell->y.1=x0
 names:∀ y∈scope.names,y.2=.local->scope.names.lookup y.1=some .local
 free:∀ y∈scope.names,y.2=.free->y.1∈aV
 vq:∀ x∈aV,scope.names.lookup x=some .free
 out:∀ x∈aV,KN.names.lookup x=some .cell∨KN.names.lookup x=some .free
 KO:ix.map (fun i=>N[i]?)=aV.map some
 nd:(x0::aV).Nodup
noncomputable def Cx.bE (X:Cx) (scope:Scope) (x0:Str) (aV:List Str) (C c0:Addr) (s₀:h_) (H₀:Hp) (ex:List Addr) (pn:List (Addr×Obj)):Cx :=
 { X with N:=x0::aV,s₀:=s₀,H₀:=H₀,env:=Yi scope ((x0,c0)::cB X.env scope.names []) C X.env,outer:=X.stack,ex:=ex,fn:=fun x=>x==x0,pn:=pn,xe:=fun _ _=>False }
theorem g9 {M:Model}{A:Wt}{E:Value->h_->Prop}{s:h_}{scope:Scope}{globals:Addr}{closure:List (Str×Addr)}{qual:Str}{func:k_ Addr}{code:Value}{outer:Env}{builtins:Addr}{Q:Env->h_->Prop}{x0:Str}
  (lay:∀ (n:Nat) (acc:List (Str×Addr)),Yl n scope.names acc=(x0,n)::acc) (push:∀ h:Heap,Zz h scope.names=h.push { cls:=.type "cell",data:=.cell none })
  (hQ:∀ h',h'=(s.heap.push { cls:=.type "dict",data:=.dict #[] }).push { cls:=.type "cell",data:=.cell none } ->
   Q (newEnv scope s.heap.objs.size globals ((x0,s.heap.objs.size+1)::closure) qual func code (some outer) builtins) { s with heap:=h' }) :
  wpAny M A (ZI scope globals closure [] qual func code (some outer) builtins) Q E s:=by
 simp only[ZI,abo,Yx];refine b_ (wpAny_alloc ?_);refine b_ (wpAny_layCells _ (fun name kind cells=>by cases T7:kind==WV<;>simp [T7]) _ _ _ _ ?_);rw[lay,push];refine b_ ?_;rw[ZJ];refine o_ (o_ ?_);have q:=hQ _ rfl;rw[show ({ s with heap:=s.heap.push { cls:=.type "dict",data:=.dict #[] } }:h_).heap.objs.size=s.heap.objs.size+1 from WI ..];exact q
section
variable {X:Cx}{pins:List (Addr×Obj)}{σ:St}{H:Hp}{s:h_}{scope:Scope}{x0:Str}{aV:List Str}{ix:List Nat}
theorem bV.has (S:bV X.N X.env.scope scope x0 aV ix) (ok:X.Ok):∀ y∈scope.names,y.2=.free->∃ c,X.env.cells.lookup y.1=some c:=fun y hy hf=>ok.has y.1 (S.out y.1 (S.free y hy hf))
theorem bV.cv {c0:Addr}{x:Str}{c:Addr} (S:bV X.N X.env.scope scope x0 aV ix) (has:∀ y∈scope.names,y.2=.free->∃ c,X.env.cells.lookup y.1=some c) (e:((x0,c0)::cB X.env scope.names []).lookup x=some c) :
  (x=x0/\c=c0)∨(x≠x0/\X.env.cells.lookup x=some c/\x∈aV):=by
 rw[V7] at e
 cases h:(x==x0) with
 | true=>rw[h] at e;exact .inl ⟨eq_of_beq h,(F_ e).symm⟩
 | false =>
  rw[h] at e;refine .inr ⟨fun z=>?_,jZ has (fun q=>by simp at q) e,?_⟩
  ·rw[z,Xt] at h;cases h
  ·rcases nz e with q | q
   ·cases q
   ·exact S.free _ q rfl
theorem Inv.bE (I:Inv X pins σ H s) (S:bV X.N X.env.scope scope x0 aV ix) {fp:List Addr} (hf:∀ b∈fp,jm X pins H b) (ho:∀ b∈fp,∃ o,s.heap.get? b=some o)
  {h₁:Heap}{tk:Nat}{C c0:Addr}{m:Str->k_ Value} (hC:s.heap.objs.size<=C) (Ea:s.heap.objs.size<=c0) (VN:c0≠C) (old:∀ b o,s.heap.get? b=some o->h₁.get? b=some o) (JJ:h₁.Ns C m) (Gw:∃ v,h₁.IsCell c0 v) :
  Inv (X.bE scope x0 aV C c0 s H fp (X.pn++pins)) [] (i7 σ [x0] ix) H { s with heap:=h₁,toks:=tk }:=by
 have cv:∀ x c,((x0,c0)::cB X.env scope.names []).lookup x=some c->(x=x0/\c=c0)∨(x≠x0/\X.env.cells.lookup x=some c/\x∈aV):=fun x c e=>S.cv (S.has I.ok) e
 have Sh:∀ x c,X.env.cells.lookup x=some c->c<s.heap.objs.size:=fun x c e=>by obtain⟨v,q⟩:=I.cell x c e;exact q.lt
 have kk:∀ x,((Yi scope ((x0,c0)::cB X.env scope.names []) C X.env).kindOf x=some .cell∨(Yi scope ((x0,c0)::cB X.env scope.names []) C X.env).kindOf x=some .free)->x=x0∨x∈aV:=fun x hx=>by
  cases e:scope.names.lookup x with
  | none =>
   have q:=fS (env:=X.env) e;rcases hx with hx | hx
   ·have i8:_=some WV:=hx;exact nomatch q.symm.trans i8
   ·have i8:_=some Wl:=hx;exact nomatch q.symm.trans i8
  | some k =>
   rcases aB (env:=X.env) e with q | ⟨q,_⟩
   ·rcases hx with hx | hx
    ·have i8:_=some WV:=hx;exact .inl (S.Lq _ (lookup_mem e) (F_ (q.symm.trans i8)))
    ·have i8:_=some Wl:=hx;exact .inr (S.free _ (lookup_mem e) (F_ (q.symm.trans i8)))
   ·exact .inr (S.free _ (lookup_mem e) q)
 have Si:x0∉aV:=(X7.mp S.nd).1;have T8:((x0,c0)::cB X.env scope.names []).lookup x0=some c0:=by rw[V7,Xt]
 have Sj:∀ x,x∈aV->((x0,c0)::cB X.env scope.names []).lookup x=(cB X.env scope.names []).lookup x:=fun x hx=>by
  have ne:(x==x0)=false:=by
   cases h:(x==x0) with
   | false=>rfl
   | true=>exact absurd (by rw[←eq_of_beq h];exact hx) Si
  rw[V7,ne]
 have FY:∀ x∈aV,(Yi scope ((x0,c0)::cB X.env scope.names []) C X.env).kindOf x=some .cell∨(Yi scope ((x0,c0)::cB X.env scope.names []) C X.env).kindOf x=some .free:=fun x hx=>by
  rcases aB (env:=X.env) (S.vq x hx) with q | ⟨_,q⟩
  ·exact .inr q
  ·exact .inl q
 have lt:∀ {b:Addr}{o:Obj},s.heap.get? b=some o->b≠C:=fun e=>J_ (s_ (r_ e) hC)
 have KP:∀ b,b∈o0 X.stack->b∈X.env.locals::X.fs:=I.hU
 refine⟨⟨I.ok.mod,S.kind,I.ok.glob,I.ok.blt,hC,fun x y c e1 e2=>?_,fun x hx=>?_,fun x c hx e=>?_,I.ok.hd,I.ok.frames,.inl rfl,fun b hb=>?_,
  I.bs,P_ I.ok.yW I.sz,fun b o e hb=>?_,fun b hb Cp=>?_,I.stack,I.ro⟩,rfl,I.bare,Un.kept old,?_,fun x c e=>?_,I.bf.fresh hC,fun x c e=>?_,fun p hp=>?_,I.bf.kept old,?_⟩
 ·rcases cv x c e1 with ⟨a1,b1⟩ | ⟨a1,b1,d1⟩
  ·rcases cv y c e2 with ⟨a2,b2⟩ | ⟨a2,b2,d2⟩
   ·rw[a1,a2]
   ·exact absurd (Sh y c b2) (by rw[b1];exact abn.mpr Ea)
  ·rcases cv y c e2 with ⟨a2,b2⟩ | ⟨a2,b2,d2⟩
   ·exact absurd (Sh x c b1) (by rw[b2];exact abn.mpr Ea)
   ·exact I.ok.inj x y c b1 b2
 ·rcases kk x hx with z | z
  ·rw[z];exact⟨c0,T8⟩
  ·obtain⟨c',yX⟩:=hZ (env:=X.env) (x:=x) (l:=scope.names) (acc:=[]) (.inr (lookup_mem (S.vq x z)));exact⟨c',(Sj x z).trans yX⟩
 ·have h1:x=x0:=eq_of_beq hx;rcases cv x c e with ⟨_,z⟩ | ⟨z,_⟩
  ·rw[z];exact Ea
  ·exact absurd h1 z
 ·obtain⟨o,e⟩:=ho b hb;refine⟨lt e,fun x c q=>?_⟩;rcases cv x c q with ⟨_,z⟩ | ⟨_,z,_⟩
  ·rw[z];exact fun y=>Wa _ (s_ (r_ e) (by rw[←y];exact Ea))
  ·exact (hf b hb).2.2.2.2.1 x c z
 ·rcases (hf b hb).2.2.2.1 with z | z
  ·exact I.ok.xH b o e z
  ·exact absurd (s_ (r_ e) (P_ I.ok.yW z)) (Wa _)
 ·rcases u_.mp (KP b Cp) with z | z
  ·exact (hf b hb).2.1 z
  ·exact (hf b hb).2.2.1 z
 ·refine⟨m,JJ,fun i x v e1 e2 _=>?_⟩;by_cases hi:i<1
  ·have e3:(i7 σ [x0] ix)[i]? = some none:=by
    have:i=0:=by omega
    subst this;rfl
   rw[e3] at e2;cases e2
  ·have hj:1<=i:=abn.mp hi
   have FZ:aV[i-1]? = some x:=by
    have:([x0]++aV)[i]? = some x:=e1;rwa [Wb (by simpa using hj)] at this
   have e4:(ix.map (fun i=>X.N[i]?))[i-1]? = some (some x):=by rw[S.KO,g_,FZ];rfl
   rw[g_] at e4
   cases q:ix[i-1]? with
   | none=>rw[q] at e4;cases e4
   | some j =>
    rw[q] at e4;have PQ:X.N[j]? = some x:=F_ e4
    have e5:(σ[j]?).join=some v:=by
     unfold i7 at e2;rw[Wb (by simpa using hj),g_] at e2;have e2:Option.map (fun i=>(σ[i]?).join) ix[i-1]? = some (some v):=e2;rw[q] at e2;exact F_ e2
    have e6:σ[j]? = some (some v):=by
     cases r:σ[j]? with
     | none=>rw[r] at e5;cases e5
     | some z=>rw[r] at e5;exact congrArg some e5
    have hx:x∈aV:=A_ FZ;obtain⟨mo,hn,hl⟩:=I.loc;obtain⟨u,ru,lu⟩:=hl j x v PQ e6 (.inr (S.out x hx));refine⟨u,ru,.inr ⟨FY x hx,?_⟩⟩;rcases lu with ⟨kx,_⟩ | ⟨_,c,hc,lM⟩
    ·have KQ : X.env.scope.names.lookup x = some .local := kx;rcases S.out x hx with z | z
     ·exact nomatch KQ.symm.trans z
     ·exact nomatch KQ.symm.trans z
    ·obtain⟨c',yX⟩:=hZ (env:=X.env) (x:=x) (l:=scope.names) (acc:=[]) (.inr (lookup_mem (S.vq x hx)));have Lr:=(Sj x hx).trans yX;rcases cv x c' Lr with ⟨z,_⟩ | ⟨_,z,_⟩
     ·exact absurd (by rw[←z];exact hx) Si
     ·have:c'=c:=F_ (z.symm.trans hc);subst this;obtain⟨oc,By,Cq⟩:=lM;exact⟨c',Lr,oc,old _ _ By,Cq⟩
 ·rcases cv x c e with ⟨_,z⟩ | ⟨_,z,_⟩
  ·rw[z];exact Gw
  ·obtain⟨v,oc,By,Cq⟩:=I.cell x c z;exact⟨v,oc,old _ _ By,Cq⟩
 ·rcases cv x c e with ⟨_,z⟩ | ⟨_,z,_⟩
  ·rw[z];exact I.bf.fresh Ea
  ·exact I.hJ x c z
 ·have kN:p∈X.pn++pins:=by simpa [Cx.bE] using hp
  obtain⟨q1,q2,q3,q4,q5⟩:=I.pin p kN;refine⟨old _ _ q1,q2,lt q1,fun z=>?_,q5⟩;rcases u_.mp (KP p.1 z) with y | y
  ·exact q3 y
  ·exact q4 y
 ·show (i7 σ [x0] ix).length=(x0::aV).length;have:=congrArg aaR S.KO;rw[a_,a_] at this;unfold i7;rw[G_,a_,a_,this,Wf,E_];exact aar _ _
end
section
variable {X:Cx}{pins:List (Addr×Obj)}{σ:St}{scope:Scope}{x0:Str}{aV:List Str}{ix:List Nat}{tg iter elt:Expr}{ifs:List Expr}{pos:Pos}
set_option maxHeartbeats 4000000 in
theorem tR {s:h_}{H:Hp}{it:Addr}{fp:List Addr}{tn:Nat->Heap->Prop}{J:It}{g:TG}{ti:TT}{te:TE}{Q:VK}{W:Nat->Nat->List V->St->Hp->Prop}{E:Value->h_->Prop}{RR:Value->Addr->Result->h_->Prop} (hc:X.calm=true)
  (I:Inv X pins σ H s) (S:bV X.N X.env.scope scope x0 aV ix) (T:Turn X.prog X.w X.K tg J fp it tn) (st:tn 0 s.heap) (hf:∀ b∈fp,jm X pins H b)
  (hb:∀ (C c0:Addr) (s₀:h_) (H₀:Hp) (ex:List Addr) (pn:List (Addr×Obj)),PG (X.bE scope x0 aV C c0 s₀ H₀ ex pn) tg g/\rG (X.bE scope x0 aV C c0 s₀ H₀ ex pn) ifs ti/\PE (X.bE scope x0 aV C c0 s₀ H₀ ex pn) elt te)
  (h0:∃ m,W 0 m [] (i7 σ [x0] ix) H)
  (turn:∀ i m ys σ' H,W i m ys σ' H->(J.stop i H/\ys.length<=sizeLine/\∀ D,H D=none->Q (.ref D) (upd H D (.lst ys))) ∨
   (J.go i H/\∀ x H',J.JI i H x H'->g x σ' H' fun σ2 H2=>ti σ2 H2 fun b H3=>if b=true then te σ2 H3 fun y H4=>ys.length<sizeLine/\∃ m',m'<m/\W (i+1) m' (ys++[y]) σ2 H4 else ∃ m',m'<m/\W (i+1) m' ys σ2 H3))
  (PR:∀ (D C:Addr) (oC:Obj) (m:Str->k_ Value) (H':Hp) (s':h_),s'.heap.get? C=some oC->s'.heap.Ns C m->C≠X.env.locals->(X.s₀.heap.objs.size<=C)->(∀ x c,X.env.cells.lookup x=some c->c≠C)->(∀ p∈X.pn++pins,p.1≠C)->C∉X.fs->H' C=none ->
   Inv X pins σ H' s'->Q (.ref D) H'->RR (.ref D) C (.ok .next) s') :
  wpAny (model X.prog X.w) X.A (newList []) (fun acc s₃=>wpAny (model X.prog X.w) X.A (ZI scope X.env.globals (cB X.env scope.names []) [] X.env.qual none .none (some X.env)) (fun zD s₄ =>
   Yk (model X.prog X.w) X.A (.compStart (.ListComp elt [⟨tg,iter,ifs,0⟩] scope pos) 0 (.ref it) acc { zD with scope:=relabel scope X.env }) (RR acc zD.locals) s₄) E s₃) E s:=by
 refine WO (g9 S.lay S.push fun h₁ JO=>?_);generalize F0:s.heap.push { cls:=.type "list",dict:=none,data:=.seq ([]:List Value).toArray }=HH at JO ⊢;generalize KS:HH.objs.size=C at JO ⊢;generalize yO:s.heap.objs.size=D;have hC:C=D+1:=by rw[←KS,←F0,WI,yO]
 generalize Ea:C+1=c0;have Gy:c0=D+2:=by rw[←Ea,hC]
 have D3:D≠C:=by rw[hC];exact J_ (Xp _)
 have below:∀ b,b<s.heap.objs.size->b≠C/\b≠D:=fun b hb=>by rw[yO] at hb;exact⟨by rw[hC];exact J_ (abI hb),J_ hb⟩
 have old:∀ b o,s.heap.get? b=some o->h₁.get? b=some o:=fun b o e=>by rw[JO];exact i_ _ (i_ _ (F0▸i_ _ e))
 have F3:h₁.get? D=some { cls:=.type "list",data:=.seq ([]:List Value).toArray 0 }:=by rw[JO];exact i_ _ (i_ _ (by rw[←F0,←yO];exact v_ _ rfl))
 have tF:∃ m,h₁.Ns C m:=by
  have q:(HH.push { cls:=.type "dict",data:=.dict #[] }).Ns HH.objs.size (fun _=>none):=Heap.Ns.new ..;rw[KS] at q;refine⟨fun _=>none,?_⟩;rw[JO];obtain⟨o,es,ep,ho,r⟩:=q;exact⟨o,es,ep,i_ _ ho,r⟩
 obtain⟨m₁,tF⟩:=tF
 have Gw:h₁.IsCell c0 none:=by
  rw[JO,←Ea,←KS];refine⟨{ cls:=.type "cell",data:=.cell none },?_,rfl⟩;have q:((HH.push { cls:=.type "dict",data:=.dict #[] }).push { cls:=.type "cell",data:=.cell none }).get? (HH.push { cls:=.type "dict",data:=.dict #[] }).objs.size=some { cls:=.type "cell",data:=.cell none }:=v_ _ rfl;rwa [WI] at q
 have x6:s.heap.objs.size<=C:=by rw[yO,hC];exact Yf _
 have Ls:s.heap.objs.size<=c0:=by rw[yO,Gy];exact P_ (Yf _) (Yf _)
 have zF:s.heap.objs.size<=D:=aai yO;have Qx:D≠c0:=by rw[Gy];exact J_ (s_ (Xp _) (Yf _))
 have Qy:c0≠C:=by rw[Gy,hC];exact Zu (Xp _)
 have KU:D∉fp:=fun hm=>by
  obtain⟨o,e,_⟩:=T.obj _ _ st D hm;exact (below D (r_ e)).2 rfl
 have PU:H D=none:=I.bf.fresh zF;obtain⟨gG,gI,gE⟩:=hb C c0 s H fp (X.pn++pins);have I0:∀ tk,Inv (X.bE scope x0 aV C c0 s H fp (X.pn++pins)) [] (i7 σ [x0] ix) H { s with heap:=h₁,toks:=tk }:=fun tk=>I.bE S hf (fun b hb=>(T.obj _ _ st b hb).imp fun o e=>e.1) x6 Ls Qy old tF ⟨_,Gw⟩
 have KW:∀ x c,(X.bE scope x0 aV C c0 s H fp (X.pn++pins)).env.cells.lookup x=some c->X.env.cells.lookup x=some c∨c=c0:=fun x c e=>by
  rcases S.cv (S.has I.ok) e with ⟨_,z⟩ | ⟨_,z,_⟩
  ·exact .inr z
  ·exact .inl z
 have nB:∀ x c,X.env.cells.lookup x=some c->c<s.heap.objs.size:=fun x c e=>by obtain⟨v,q⟩:=I.cell x c e;exact q.lt
 have zG:∀ b∈o0 X.stack,b<s.heap.objs.size:=fun b hb=>by
  rcases u_.mp (I.hU b hb) with z | z
  ·rw[z];exact I.lt
  ·obtain⟨_,o,ho,_⟩:=I.i6.mem z;exact r_ ho
 have F4:∀ (H':Hp) (ps:List (Addr×Obj)),(∀ p∈ps,p.1=D)->(∀ b∈fp,H' b=none)->∀ b∈fp,jm (X.bE scope x0 aV C c0 s H fp (X.pn++pins)) ps H' b:=fun H' ps PX hn b hb=>by
  obtain⟨o,e,_⟩:=T.obj _ _ st b hb;obtain⟨f0,f1,f2,f3,f4,f5⟩:=hf b hb;refine⟨hn b hb,(below b (r_ e)).1,fun z=>?_,.inl hb,fun x c q=>(KW x c q).elim (f4 x c) fun z y=>Wa _ (s_ (r_ e) (by rw[←y,z];exact Ls)),fun p hp=>?_⟩
  ·rcases u_.mp (I.hU b z) with y | y
   ·exact f1 y
   ·exact f2 y
  ·rcases U_.mp hp with z | z
   ·exact f5 p z
   ·intro y;exact KU (by rw[←PX p z,y];exact hb)
 have F5:∀ {H':Hp}{σ':St}{s':h_}{o:Obj},Inv (X.bE scope x0 aV C c0 s H fp (X.pn++pins)) [] σ' H' s'->s'.heap.get? D=some o->(∀ v,o.data≠.cell v)->H' D=none->Inv (X.bE scope x0 aV C c0 s H fp (X.pn++pins)) [(D,o)] σ' H' s':=fun {H' σ' s' o} I' e hd hn =>
  I'.dH fun p hp=>by
   have e1:p=(D,o):=by simpa using hp
   subst e1;exact⟨e,hn,D3,fun z=>Wa _ (s_ (zG D z) zF),hd⟩
 have loop:∀ s₃:h_,s₃={ s with heap:=h₁ } ->
   Yk (model X.prog X.w) X.A (.compLoop (.ListComp elt [⟨tg,iter,ifs,0⟩] scope pos) 0 (.ref it) (.ref D) (Yi scope ((x0,c0)::cB X.env scope.names []) C X.env)) (RR (.ref D) C) s₃:=by
  rintro s₃ rfl;obtain⟨m0,w0⟩:=h0
  refine lR (fun n s'=>∃ i ys σ' H',Inv (X.bE scope x0 aV C c0 s H fp (X.pn++pins)) [] σ' H' s'/\tn i s'.heap/\(∀ b∈fp,H' b=none)/\H' D=none /\
   (∃ (ao:List Value) (k:Nat),Vals ys ao/\s'.heap.get? D=some { cls:=.type "list",data:=.seq ao.toArray k })/\ys.length<=sizeLine/\W i n ys σ' H') ?_ m0
   ⟨0,[],_,H,I0 s.toks,T.keep _ _ _ st fun b _ o e=>old b o e,fun b hb=>(hf b hb).1,PU,⟨[],0,.nil,F3⟩,Xo _,w0⟩
  rintro n s' ⟨i,ys,σ',H',I',ms,KY,x8,⟨ao,k,hv,PY⟩,KZ,w'⟩;have ID:=F5 I' PY (fun v q=>nomatch q) x8;rcases turn i n ys σ' H' w' with ⟨stop,hz,q⟩ | ⟨go,step⟩
  ·refine a9 (T.done (X.bE scope x0 aV C c0 s H fp (X.pn++pins)) rfl rfl rfl hc i [(D,_)] s' σ' H' _ ID (F4 H' _ (fun p hp=>by rw[y_.mp hp]) KY) ms stop) fun r rz ⟨hr,I2⟩=>?_
   subst hr;show RR (.ref D) C (.ok .next) rz;have F6:rz.heap.get? D=some { cls:=.type "list",data:=.seq ao.toArray k }:=(I2.pin (D,_) (D_ _ (y_.mpr rfl))).1;obtain⟨m2,BA,_⟩:=I2.loc;obtain⟨oC,es,ep,Cr,_⟩:=id BA;have F7:iT X.prog X.w (upd H' D (.lst ys)) rz.heap:=I2.bf.D0 x8 ⟨KZ,ao,k,hv,F6⟩
   have un:Un (o0 X.stack) fp H (upd H' D (.lst ys)) s.heap rz.heap:=by
    have u0:Un (o0 X.stack) fp H H' s.heap rz.heap:=I2.base;refine⟨u0.keep,u0.slot,fun b o e hn hx=>?_,u0.there,fun b xs e=>?_,fun b o u e=>?_,fun b ps e=>?_⟩
    ·rw[aq (below b (r_ e)).2];exact u0.free b o e hn hx
    ·rw[aq (ax (u0.mr b xs e) x8)];exact u0.mr b xs e
    ·rw[aq (ax (u0.kQ b o u e) x8)];exact u0.kQ b o u e
    ·obtain⟨more,e'⟩:=u0.pb b ps e;exact⟨more,by rw[aq (ax e' x8)];exact e'⟩
   have IX:Inv X pins σ (upd H' D (.lst ys)) rz:=I.DW (ch:=fp) I2.os un F7 I2.bare fun b hb=>⟨(hf b hb).2.2.2.1,(hf b hb).2.1,(hf b hb).2.2.2.2.1,(hf b hb).2.2.2.2.2⟩
   refine PR D C oC m2 _ rz Cr BA ?_ ?_ (fun x c e z=>?_) (fun p hp z=>?_) (fun z=>?_) ?_ IX (q D x8)
   ·exact fun z=>Wa _ (s_ I.lt (by rw[←z];exact x6))
   ·exact P_ I.sz x6
   ·exact Wa _ (s_ (nB x c e) (by rw[z];exact x6))
   ·exact Wa _ (s_ (r_ (I.pin p hp).1) (by rw[z];exact x6))
   ·obtain⟨_,o,ho,_⟩:=I.i6.mem z;exact Wa _ (s_ (r_ ho) x6)
   ·rw[aq D3.symm];exact I2.free
  ·refine a9 (T.item (X.bE scope x0 aV C c0 s H fp (X.pn++pins)) rfl rfl rfl hc i [(D,_)] s' σ' H' _ ID (F4 H' _ (fun p hp=>by rw[y_.mp hp]) KY) ms go) fun r s4 ⟨u,hr,h4⟩=>?_
   subst hr;refine a9 h4 fun _ s5 ⟨x,H5,I5,r5,y5,zd,Kj⟩=>?_
   have PZ:=I5.pin (D,_) (D_ _ (y_.mpr rfl));have Kk:=I5.pinned (F4 H5 _ (fun p hp=>by rw[y_.mp hp]) Kj) (T.obj _ _ zd);refine a9 (gG _ s5 σ' H5 x u _ Kk r5 (step x H5 y5)) fun _ s6 ⟨σ6,H6,I6,q6⟩=>?_
   refine a9 (gI _ s6 σ6 H6 _ I6 q6) fun ok s7 ⟨H7,I7,q7⟩=>?_
   have K0:∀ {σ8:St}{H8:Hp}{s8:h_},Inv (X.bE scope x0 aV C c0 s H fp (X.pn++pins)) ([(D,({ cls:=.type "list",data:=.seq ao.toArray k }:Obj))]++hX fp s5.heap) σ8 H8 s8->tn (i+1) s8.heap/\(∀ b∈fp,H8 b=none):=fun {σ8 H8 s8} I8=>by
    refine⟨T.keep _ _ _ zd fun b hb o e=>(I8.pin (b,o) (D_ _ (D_ _ (cV hb e)))).1,fun b hb=>?_⟩;obtain⟨o,e,d⟩:=T.obj _ _ zd b hb;exact (I8.pin (b,o) (D_ _ (D_ _ (cV hb e)))).2.1
   have dK:∀ {σ8:St}{H8:Hp}{s8:h_},Inv (X.bE scope x0 aV C c0 s H fp (X.pn++pins)) ([(D,({ cls:=.type "list",data:=.seq ao.toArray k }:Obj))]++hX fp s5.heap) σ8 H8 s8->s8.heap.get? D=some { cls:=.type "list",data:=.seq ao.toArray k }/\H8 D=none:=fun {σ8 H8 s8} I8=>by
    have z:=I8.pin (D,_) (D_ _ (Yd _ (y_.mpr rfl)));exact⟨z.1,z.2.1⟩
   cases ok with
   | false =>
    obtain⟨m',hm,w7⟩:=q7;obtain⟨P0,P3⟩:=K0 I7;obtain⟨P4,P5⟩:=dK I7;exact⟨m',hm,i+1,ys,σ6,H7,I7.dH (fun p hp=>nomatch hp),P0,P3,P5,⟨ao,k,hv,P4⟩,KZ,w7⟩
   | true =>
    refine a9 (gE _ s7 σ6 H7 _ I7 q7) fun xv s8 ⟨y,H8,I8,r8,K1,m',hm,w8⟩=>?_
    obtain⟨P6,P7⟩:=K0 I8;obtain⟨P8,K2⟩:=dK I8;refine append_at (hsz:=by rw[C_,←hv.length];exact Xk K1) P8 fun h9 K3 P9=>?_
    have I9:Inv (X.bE scope x0 aV C c0 s H fp (X.pn++pins)) [] σ6 H8 { s8 with heap:=h9 }:=by
     refine (I8.dH (pins':=[]) fun p hp=>nomatch hp).turned (t':=s8.toks) (it:=D) (fun b o hb e=>K3.extBut b o hb e) K2 D3 (.inr zF) (fun x c e z=>?_) (fun p hp z=>?_)
     ·rcases KW x c e with q | q
      ·exact Wa _ (s_ (nB x c q) (by rw[z];exact zF))
      ·exact Qx (by rw[←z,q])
     ·have kN:p∈X.pn++pins:=by simpa [Cx.bE] using hp
      exact Wa _ (s_ (r_ (I.pin p kN).1) (by rw[z];exact zF))
    refine⟨m',hm,i+1,ys++[y],σ6,H8,I9,T.keep _ _ _ P6 fun b hb o e=>K3.extBut b o (fun z=>KU (by rw[←z];exact hb)) e,P7,K2,⟨ao++[xv],k+1,hv.append (.cons r8 .nil),?_⟩,by rw[G_,Wf];exact K1,w8⟩;rw[P9,abJ]
 exact aap (loop _ rfl) (T.self _ 0 _ _ _ (T.keep _ _ _ st fun b _ o e=>old b o e) (loop _ rfl))
theorem z6 {wi:TI}{g:TG}{ti:TT}{te:TE} (hc:X.calm=true) (S:bV X.N X.env.scope scope x0 aV ix) (hi:PI X tg iter wi)
  (hb:∀ (C c0:Addr) (s₀:h_) (H₀:Hp) (ex:List Addr) (pn:List (Addr×Obj)),PG (X.bE scope x0 aV C c0 s₀ H₀ ex pn) tg g/\rG (X.bE scope x0 aV C c0 s₀ H₀ ex pn) ifs ti/\PE (X.bE scope x0 aV C c0 s₀ H₀ ex pn) elt te)
  (hs:∀ x,WW iter X.env x=pure x:=by intro _;rfl):PE X (.ListComp elt [⟨tg,iter,ifs,0⟩] scope pos) (wF [x0] ix wi g ti te):=by
 intro pins s σ H Q I h;rw[eval_ListComp];refine Yt (use:=none) rfl hs (dv (S.has I.ok)) S.kind S.names (a9 (hi pins s σ H _ I h) fun xv s₁ h₁=>a9 h₁ fun Kf s₂ h₂=>?_);obtain⟨it,fp,tn,J,H2,e,I2,T,ph,f2,W,h0,turn⟩:=h₂;subst e;refine tR (Q:=Q) (RR:=fun acc C=>compPost (model X.prog X.w) X.A X.xe none (EP X pins σ Q) acc C) hc I2 S T ph f2 hb h0 turn ?_;intro D C oC m H' s' Cr hn h1 h2 h3 h4 h5 h6 I' q;refine⟨m,hn,fun h' yP=>⟨.ref D,H',I'.turned (t':=s'.toks) (it:=C) (fun b o hb e=>yP.extBut b o hb e) h6 (M_ h1.symm) (.inr h2) h3 h4,rfl,q⟩⟩
end
end L2
namespace PySem
section
variable {prog:L_}{w:World}{A:Wt}{E:Value->h_->Prop}{s:h_}
theorem T9 (n:Nat):YI 0 (n:Int) 1=(n:Int):=by rw[aa9];split<;>omega
theorem tT {i:Int} (h1 : -2000<=i) (h2:i<=2000):Zy i=true:=by
 unfold Zy;simp only[t_,Yc];omega
theorem ja {r:Addr}{n:Nat}{t u v:Tok}{Q:Value->h_->Prop} (hr:aco s.heap r 0 n 1 t u v) (hn:n<=1000)
  (h:Q (.ref s.heap.objs.size) { s with heap:=s.heap.push { cls:=.type "range_iterator",data:=.fields #[Xa ((n:Int)-1),Xa n,Xa (-1)] } }) :
  wpAny (model prog w) A (call (.builtin "range.__reversed__") [.ref r]) Q E s:=by
 have hT:s.TypeIs (.ref r) "range" := ⟨_,hr,rfl⟩;refine W9 Y6 hT F.entry_range_reversed ?_ (F.args_range_reversed_1 _);unfold Zd.«range.__reversed__»;refine b_ (XT (a:=V5 r) rfl ?_);have e1:=T9 n;unfold Builtin.Range.rangeFields;refine b_ (b_ (Wy hr rfl rfl ?_));refine b_ (XT (a:=some 0) rfl ?_);refine b_ (Wy hr rfl rfl ?_);refine b_ (XT (a:=some (n:Int)) rfl ?_);refine b_ (Wy (x:=Y8 1 v) (i:=2) hr rfl rfl ?_);have ea:asInt? (Y8 1 v)=pure (some 1):=rfl;rw[ea,pure_bind];refine o_ ?_;dsimp only;rw[e1,tT (i:=0) (by decide) (by decide),tT (i:=(n:Int)) (by omega) (by omega),tT (i:=1) (by decide) (by decide),tT (i := -1) (by decide) (by decide),tT (i:=0-1) (by decide) (by decide)]
 rw[n_ (show ¬ ((!(true&&true&&true&&true&&true&&true))=true) by decide),w_ (show (true&&true&&true&&true&&true&&true)=true by decide)];refine b_ (WO (o_ ⟨_,rfl,?_⟩));rw[show (0:Int)+((n:Int)-1)*1=(n:Int)-1 by omega];exact h
theorem jr {r:Addr}{n:Nat}{t u v:Tok}{Q₁:Value->h_->Prop} (hr:aco s.heap r 0 n 1 t u v) (hn:n<=1000)
  (h:Q₁ (.ref s.heap.objs.size) { s with heap:=s.heap.push { cls:=.type "range_iterator",data:=.fields #[Xa ((n:Int)-1),Xa n,Xa (-1)] } }) :
  Yk (model prog w) A (.call (.builtin "reversed.__new__") ⟨[.type "reversed",.ref r],[]⟩) (wants Q₁ E) s:=by
 have hT:s.TypeIs (.ref r) "range" := ⟨_,hr,rfl⟩;refine codeAny_of_tree ?_;refine b_ (XT (F.newCall_reversed_1 _) (o_ ⟨plainId_quiet aaV _,aaz F.entry_reversed_new ?_⟩));rw[Zf aaV _];unfold Zd.«reversed.__new__»;refine b_ (XT (newClass_reversed _) ?_)
 try dsimp only
 refine b_ (XT (a:=()) (by first | rfl | kernel_rfl) ?_);refine b_ (XT (a:=()) (by first | rfl | kernel_rfl) ?_)
 try dsimp only
 refine b_ (Yz hT Y6.lookup ?_)
 try dsimp only
 refine b_ (XT (Y6.bind _) ?_)
 try dsimp only
 rw[n_ (show ¬ ((acH "range.__reversed__" == XW)=true) from q_)];refine b_ (YC ?_);refine b_ (m:=runValue (.call (.builtin "range.__reversed__") ⟨[.ref r],[]⟩)) (show wpAny _ _ (call (.builtin "range.__reversed__") [.ref r]) _ _ _ from ja hr hn ?_)
 first
 | exact o_ h
 | exact b_ (o_ (o_ h))
theorem mz:isSubtype (.type "range_iterator") (.type "reversed")=pure false:=by rw[isSubtype_type];kernel_rfl
theorem jb {r:Addr}{n:Nat}{t u v:Tok}{Q:Value->h_->Prop} (hr:aco s.heap r 0 n 1 t u v) (hn:n<=1000)
  (h:Q (.ref s.heap.objs.size) { s with heap:=s.heap.push { cls:=.type "range_iterator",data:=.fields #[Xa ((n:Int)-1),Xa n,Xa (-1)] } }) :
  wpAny (model prog w) A (call (.type "reversed") [.ref r]) Q E s:=by
 refine callType_other (U := "range_iterator") (Q₁:=fun obj s₁=>obj=.ref s.heap.objs.size/\s₁={ s with heap:=s.heap.push { cls:=.type "range_iterator",data:=.fields #[Xa ((n:Int)-1),Xa n,Xa (-1)] } }) (by decide +kernel) F.create_reversed ⟨_,_,F.mro_reversed⟩ F.made_reversed mz (F.typeCall_reversed_1 _) (jr hr hn ⟨rfl,rfl⟩) ?_;rintro obj s₁ ⟨rfl,rfl⟩;exact⟨⟨_,v_ _ rfl,rfl⟩,h⟩
end
end PySem
namespace L2
open PySem PySem.Spec PyProof.Rows
section
variable {X:Cx}{tg:Expr}
def Qz (ta:TA):TI:=fun σ H R=>ta σ H fun vs H1=>∃ (r:Addr) (n:Nat),vs=[.ref r]/\H1 r=some (.xF 0 (n:Int))/\n<=1000/\R (Ge ((n:Int)-1) (-1) n) H1
theorem Gz {a:Expr}{ta:TA}{p pos:Pos} (hg:Gl X "reversed") (hm:X.mg "reversed" = none) (ha:PA X [a] ta) (hs:N_ [a] X.env=[(false,eval a X.env)]:=by rfl) :
  PI X tg (.Call (.Name "reversed" p) [a] [] pos) (Qz ta):=by
 intro pins s σ H R I h;refine Call_ (hV I hg hm boot_reversed (WH (a9 (ha pos pins s σ H _ I h) fun us s1 ⟨vs,H1,I1,r1,q1⟩=>?_) (by rw[hs];rfl) (by rfl)));obtain⟨r,n,e,hr,hn,q⟩:=q1;subst e;obtain⟨u,rfl,rx⟩:=vals1 r1
 cases rx
 obtain⟨t,u,v,e⟩:=(show aU X.prog X.w H1 s1.heap r (.xF 0 (n:Int)) from I1.bf r _ hr);have Ua:=I1.kept (t':=s1.toks) (fun b o e=>i_ { cls:=.type "range_iterator",data:=.fields #[Xa ((n:Int)-1),Xa n,Xa (-1)] } e);refine jb (show aco s1.heap r 0 (n:Int) 1 t u v from e) hn ?_;refine YR (it:=s1.heap.objs.size) (v_ _ rfl) ?_;refine⟨_,[_],_,_,H1,rfl,Ua,tI _ ((n:Int)-1) (-1) n,?_,fun b hb=>?_,q⟩
 ·have e1:((n:Int)-1)+((0:Nat):Int)*(-1)=(n:Int)-1:=by omega
  have e2:((n:Nat):Int)-((0:Nat):Int)=(n:Int):=by omega
  show aaN _ _ (((n:Int)-1)+((0:Nat):Int)*(-1)) (((n:Nat):Int)-((0:Nat):Int)) (-1);rw[e1,e2];exact v_ _ rfl
 ·have e:=y_.mp hb;subst e;exact I1.xJ (x_ _) (I1.bf.fresh (x_ _))
end
end L2
namespace PV
open PySem PySem.Spec PyProof.Rows L2
noncomputable def kZ:Nat->K_->Bool
 | _,.int _=>true
 | _,.str _=>true
 | n+1,.tuple xs=>xs.all (kZ n)
 | _,_=>false
noncomputable def hP (w:World):Nat->K_->Int
 | _,.int i=>hashInt i
 | _,.str x=>hashStr w x
 | n+1,.tuple xs=>reduceHash (XA (xs.map (hP w n)))
 | _,_=>0
noncomputable def dP:Nat->K_->Nat
 | n+1,.tuple xs=>(xs.map (dP n)).sum+1
 | _,_=>1
noncomputable instance Ub:DecidableEq K_:=fun _ _=>YK _
theorem aP {n:Nat}{d:K_} (h:kZ n d=true):(∃ i,d=.int i)∨(∃ x,d=.str x)∨∃ m xs,n=m+1/\d=.tuple xs/\∀ x∈xs,kZ m x=true:=by
 unfold kZ at h;split at h
 ·exact .inl ⟨_,rfl⟩
 ·exact .inr (.inl ⟨_,rfl⟩)
 ·exact .inr (.inr ⟨_,_,rfl,rfl,T_.mp h⟩)
 ·cases h
theorem GA:∀ (n:Nat) (d e:K_),kZ n d=true->kZ n e=true->(O_ d e=true↔d=e):=fun n=>by
 induction n with
 | zero =>
  intro d e hd he;rcases aP hd with ⟨i,rfl⟩ | ⟨x,rfl⟩ | ⟨m,_,z,_⟩
  ·rcases aP he with ⟨j,rfl⟩ | ⟨y,rfl⟩ | ⟨m,_,z,_⟩
   ·simp [O_]
   ·simp [O_]
   ·cases z
  ·rcases aP he with ⟨j,rfl⟩ | ⟨y,rfl⟩ | ⟨m,_,z,_⟩
   ·simp [O_]
   ·simp [O_]
   ·cases z
  ·cases z
 | succ n ih =>
  intro d e hd he;rcases aP hd with ⟨i,rfl⟩ | ⟨x,rfl⟩ | ⟨m,xs,z,rfl,hx⟩
  ·rcases aP he with ⟨j,rfl⟩ | ⟨y,rfl⟩ | ⟨m,ys,z,rfl,hy⟩<;>simp [O_]
  ·rcases aP he with ⟨j,rfl⟩ | ⟨y,rfl⟩ | ⟨m,ys,z,rfl,hy⟩<;>simp [O_]
  ·cases z
   rcases aP he with ⟨j,rfl⟩ | ⟨y,rfl⟩ | ⟨m,ys,z,rfl,hy⟩
   ·simp [O_]
   ·simp [O_]
   ·cases z
    have all:∀ xs ys:List K_,(∀ x∈xs,kZ n x=true)->(∀ y∈ys,kZ n y=true)->(Yb xs ys=true↔xs=ys):=fun xs=>by
     induction xs with
     | nil=>intro ys _ _;cases ys<;>simp [Yb]
     | cons x xs Lu =>
      intro ys hx hy
      cases ys with
      | nil=>simp [Yb]
      | cons y ys =>
       rw[Wj,t_,ih x y (hx x (by simp)) (hy y (by simp)),Lu ys (fun z q=>hx z (by simp [q])) (fun z q=>hy z (by simp [q]))];simp
    rw[X_,all xs ys hx hy];simp
theorem wN {n:Nat}{d e:K_} (hd:kZ n d=true) (he:kZ n e=true):O_ d e=decide (d=e):=by
 have h:=GA n d e hd he
 cases q:O_ d e with
 | true=>rw[d_ (h.mp q)]
 | false=>rw[f_ fun z=>by rw[h.mpr z] at q;cases q]
theorem fW {h:Heap}{v:Value}{i:Int}{as:List Addr} (r:Reads h v (.int i) as):∃ t,v=.int i t:=by cases r;exact⟨_,rfl⟩
theorem fX {h:Heap}{v:Value}{x:Str}{as:List Addr} (r:Reads h v (.str x) as):∃ t,v=.str x t:=by cases r;exact⟨_,rfl⟩
theorem nJ {h:Heap}{v:Value}{xs:List K_}{as:List Addr} (r:Reads h v (.tuple xs) as):∃ (a:Addr) (o:Obj) (vs:Array Value) (n:Nat),v=.ref a/\h.get? a=some o/\o.cls=XX "tuple" /\ o.data=acz vs n/\Yu h vs.toList xs as:=by
 cases r with
 | tuple h1 h2 h3 h4=>exact⟨_,_,_,_,rfl,h1,h2,h3,h4⟩
theorem fY {h:Heap}{vs:List Value}{d:K_}{ds:List K_}{as:List Addr} (r:Yu h vs (d::ds) as):∃ v us a b,vs=v::us/\Reads h v d a/\Yu h us ds b:=by
 cases r with
 | cons h1 h2=>exact⟨_,_,_,_,rfl,h1,h2⟩
theorem nK {h:Heap}{vs:List Value}{as:List Addr} (r:Yu h vs [] as):vs=[]:=by cases r;rfl
theorem z7 {h:Heap}:∀ (n:Nat) (v:Value) (d e:K_) (as bs:List Addr),kZ n d=true->kZ n e=true->Reads h v d as->Reads h v e bs->d=e:=fun n=>by
 induction n with
 | zero =>
  intro v d e as bs hd he r1 r2;rcases aP hd with ⟨i,rfl⟩ | ⟨x,rfl⟩ | ⟨m,_,z,_⟩
  ·obtain⟨t,rfl⟩:=fW r1
   cases r2;rfl
  ·obtain⟨t,rfl⟩:=fX r1
   cases r2;rfl
  ·cases z
 | succ n ih =>
  intro v d e as bs hd he r1 r2;rcases aP hd with ⟨i,rfl⟩ | ⟨x,rfl⟩ | ⟨m,xs,z,rfl,hx⟩
  ·obtain⟨t,rfl⟩:=fW r1
   cases r2;rfl
  ·obtain⟨t,rfl⟩:=fX r1
   cases r2;rfl
  ·cases z
   obtain⟨a,o,vs,k,rfl,g1,g2,g3,g4⟩:=nJ r1;rcases aP he with ⟨j,rfl⟩ | ⟨y,rfl⟩ | ⟨m,ys,z,rfl,hy⟩
   ·obtain⟨t,q⟩:=fW r2;cases q
   ·obtain⟨t,q⟩:=fX r2;cases q
   ·cases z
    obtain⟨a',o',VO,k',q,Sk,VP,Sm,Uc⟩:=nJ r2
    cases q
    rw[g1] at Sk
    cases F_ Sk
    rw[g3] at Sm;injection Sm with g5 g6
    subst g5
    have all:∀ (xs ys:List K_) (vs:List Value) (as bs:List Addr),(∀ x∈xs,kZ n x=true)->(∀ y∈ys,kZ n y=true)->Yu h vs xs as->Yu h vs ys bs->xs=ys:=fun xs=>by
     induction xs with
     | nil =>
      intro ys vs as bs _ _ q1 q2
      cases nK q1
      cases ys with
      | nil=>rfl
      | cons y ys=>obtain⟨_,_,_,_,z,_⟩:=fY q2;cases z
     | cons x xs Lu =>
      intro ys vs as bs hx hy q1 q2;obtain⟨v,us,a1,b1,rfl,r1,r2⟩:=fY q1
      cases ys with
      | nil=>cases nK q2
      | cons y ys =>
       obtain⟨v',CF,a2,b2,z,r3,r4⟩:=fY q2;injection z with z1 z2
       subst z1 z2;rw[ih v x y _ _ (hx x (by simp)) (hy y (by simp)) r1 r3,Lu ys us _ _ (fun z q=>hx z (by simp [q])) (fun z q=>hy z (by simp [q])) r2 r4]
    rw[all xs ys _ _ _ hx hy g4 Uc]
theorem CM {h h':Heap}{d:Addr}{o:Obj}{es:Array DictEntry}{ep:Nat} (ho:h.get? d=some o) (hd:o.data=Data.dict es ep) (hs:XZ d h h') :
  ∀ (n:Nat) (v:Value) (e:K_) (as:List Addr),kZ n e=true->Reads h v e as->∃ bs,Reads h' v e bs:=fun n=>by
 induction n with
 | zero =>
  intro v e as he r;rcases aP he with ⟨i,rfl⟩ | ⟨x,rfl⟩ | ⟨m,_,z,_⟩
  ·obtain⟨t,rfl⟩:=fW r;exact⟨_,.int _ _⟩
  ·obtain⟨t,rfl⟩:=fX r;exact⟨_,.str _ _⟩
  ·cases z
 | succ n ih =>
  intro v e as he r;rcases aP he with ⟨i,rfl⟩ | ⟨x,rfl⟩ | ⟨m,xs,z,rfl,hx⟩
  ·obtain⟨t,rfl⟩:=fW r;exact⟨_,.int _ _⟩
  ·obtain⟨t,rfl⟩:=fX r;exact⟨_,.str _ _⟩
  ·cases z
   obtain⟨a,o',vs,k,rfl,g1,g2,g3,g4⟩:=nJ r
   have all:∀ (xs:List K_) (vs:List Value) (as:List Addr),(∀ x∈xs,kZ n x=true)->Yu h vs xs as->∃ bs,Yu h' vs xs bs:=fun xs=>by
    induction xs with
    | nil=>intro vs as _ q;cases nK q;exact⟨_,.nil⟩
    | cons x xs Lu =>
     intro vs as hx q;obtain⟨v,us,a1,b1,rfl,r1,r2⟩:=fY q;obtain⟨_,p1⟩:=ih v x _ (hx x (by simp)) r1;obtain⟨_,p2⟩:=Lu us _ (fun z q=>hx z (by simp [q])) r2;exact⟨_,.cons p1 p2⟩
   obtain⟨bs,q⟩:=all xs _ _ hx g4
   have ne:a≠d:=fun z=>by
    subst z;rw[ho] at g1
    cases F_ g1
    rw[hd] at g3;cases g3
   exact⟨_,.tuple ((hs.2 a ne).trans g1) g2 g3 q⟩
theorem tU {s:h_}{a:Addr}{o:Obj} (h1:s.heap.get? a=some o) (h2:o.cls=XX "tuple"):s.TypeIs (.ref a) "tuple" := ⟨o,h1,h2⟩
theorem CN {prog:L_}{w:World}{E:Value->h_->Prop}:∀ (n:Nat) (d:K_) (A:Wt) (s:h_) (v:Value) (as:List Addr) (Q:Int->h_->Prop),kZ n d=true->Reads s.heap v d as->A.units+n<cLine ->
  Q (hP w n d) { s with toks:=s.toks+dP n d }->wpAny (model prog w) A (pyHash v) Q E s:=fun n=>by
 induction n with
 | zero =>
  intro d A s v as Q hd r hu h;rcases aP hd with ⟨i,rfl⟩ | ⟨x,rfl⟩ | ⟨m,_,z,_⟩
  ·obtain⟨t,rfl⟩:=fW r;exact Z4 h
  ·obtain⟨t,rfl⟩:=fX r;exact Z5 h
  ·cases z
 | succ n ih =>
  intro d A s v as Q hd r hu h;rcases aP hd with ⟨i,rfl⟩ | ⟨x,rfl⟩ | ⟨m,xs,z,rfl,hx⟩
  ·obtain⟨t,rfl⟩:=fW r;exact Z4 h
  ·obtain⟨t,rfl⟩:=fX r;exact Z5 h
  ·cases z
   obtain⟨a,o,vs,k,rfl,g1,g2,g3,g4⟩:=nJ r;have ht:=tU g1 g2;show wpAny _ A (Zl (.ref a)) Q E s;unfold Zl;refine b_ (wpAny_cRoomFor_or (.inr (by omega)) ?_);refine b_ (Yz ht YY.lookup ?_);rw[beq_builtin_none];refine b_ (Yz ht YY.lookup ?_);refine b_ (wpAny_callSpecialIfBoundUnlessNone?_slot ht YY ?_);refine W9 YY ht F.entry_tuple_hash ?_ (F.args_tuple_hash_1 _);unfold Zd.«tuple.__hash__»;refine b_ ?_;refine o_ (a:=(V5 a,([]:List Value))) ?_;refine b_ (wpAny_tupleItemsOf g1 g3 ?_);rw[←abv];refine b_ ?_;refine wpAny_forIn_list _ (fun us b t=>∃ done left cs,xs=done++left/\Yu s.heap us left cs/\b.toList=done.map (hP w n)/\t={ s with toks:=s.toks+(done.map (dP n)).sum }) _ ?_ ?_ _ _ ⟨[],xs,as,rfl,g4,rfl,by simp⟩
   ·rintro x rest b t ⟨done,left,cs,e1,e2,e3,e4⟩;subst e4
    cases left with
    | nil=>cases nK e2
    | cons d left =>
     obtain⟨v,us,a1,b1,z,r1,r2⟩:=fY e2
     cases z
     refine b_ (ih d _ _ _ a1 _ (hx d (by rw[e1];simp)) r1 (by show A.units+1+n<cLine;omega) ?_);refine o_ ⟨done++[d],left,b1,by rw[e1];simp,r2,by simp [e3],?_⟩;simp [Nat.add_assoc]
   ·rintro b t ⟨done,left,cs,e1,e2,e3,e4⟩;subst e4
    cases left with
    | cons d left=>obtain⟨_,_,_,_,z,_⟩:=fY e2;cases z
    | nil =>
     rw[WB] at e1;subst e1;refine wpAny_ret_mkInt ?_;show wpAny _ A (Zl.reduced _) Q E _;have hr:Q (reduceHash (XA b.toList)) { s with toks:=s.toks+((xs.map (dP n)).sum+1) }:=by rw[e3];exact h
     unfold reduceHash at hr;unfold Zl.reduced;by_cases c:(decide (-2 ^ 63<=XA b.toList)&&decide (XA b.toList<2 ^ 63))=true
     ·rw[w_ c] at hr ⊢;exact o_ hr
     ·rw[n_ c] at hr ⊢;exact b_ (YC (o_ hr))
theorem z8 {prog:L_}{w:World}{E:Value->h_->Prop}{A:Wt}:∀ (n m:Nat) (d:K_) (s:h_) (v:Value) (as:List Addr) (Q:Bool->h_->Prop),kZ n d=true->Reads s.heap v d as->n<=m ->
  Q true s->wpAny (model prog w) A (eqIsQuiet m v) Q E s:=fun n=>by
 induction n with
 | zero =>
  intro m d s v as Q hd r hm h;rcases aP hd with ⟨i,rfl⟩ | ⟨x,rfl⟩ | ⟨_,_,z,_⟩
  ·obtain⟨t,rfl⟩:=fW r;rw[YZ m rfl];exact o_ h
  ·obtain⟨t,rfl⟩:=fX r;rw[YZ m rfl];exact o_ h
  ·cases z
 | succ n ih =>
  intro m d s v as Q hd r hm h;rcases aP hd with ⟨i,rfl⟩ | ⟨x,rfl⟩ | ⟨k,xs,z,rfl,hx⟩
  ·obtain⟨t,rfl⟩:=fW r;rw[YZ m rfl];exact o_ h
  ·obtain⟨t,rfl⟩:=fX r;rw[YZ m rfl];exact o_ h
  ·cases z
   obtain⟨a,o,vs,k,rfl,g1,g2,g3,g4⟩:=nJ r;obtain⟨m,rfl⟩:∃ j,m=j+1:=⟨m-1,by omega⟩;have ht:=tU g1 g2;rw[eqIsQuiet.eq_def];refine b_ (Yz ht F.slot_tuple_eq.lookup ?_);refine b_ (wpAny_isInstance ht isSubtype_tuple_tuple ?_);refine b_ (WZ g1 g3 ?_);refine b_ ?_;rw[←abv];refine wpAny_forIn_list _ (fun us b t=>t=s/\b.1=none/\∃ left cs,Yu s.heap us left cs/\∀ d∈left,kZ n d=true) _ ?_ ?_ _ _ ⟨rfl,rfl,xs,as,g4,hx⟩
   ·rintro x rest b t ⟨rfl,e1,left,cs,e2,e3⟩
    cases left with
    | nil=>cases nK e2
    | cons d left =>
     obtain⟨v,us,a1,b1,z,r1,r2⟩:=fY e2
     cases z
     refine b_ (ih m d _ _ a1 _ (e3 d (by simp)) r1 (by omega) ?_);exact o_ ⟨rfl,rfl,left,b1,r2,fun y hy=>e3 y (by simp [hy])⟩
   ·rintro b t ⟨rfl,e1,left,cs,e2,e3⟩;obtain⟨b1,b2⟩:=b
    cases e1
    exact o_ h
def pw (d:K_):Prop:=kZ 7 d=true/\H_ d=true
noncomputable def fK (prog:L_) (w:World):HeapKind prog w K_ where
 is:=fun h d a=>pw d/\∃ as,Reads h (.ref a) d as
 hash:=hP w 7
 draws:=dP 7
 room:=fun A=>A.units+64<cLine
 inj:=fun⟨h1,_,r1⟩ ⟨h2,_,r2⟩=>z7 7 _ _ _ _ _ h1.1 h2.1 r1 r2
 keeps:=fun⟨h1,_,r1⟩ ho hd hs=>⟨h1,CM ho hd hs 7 _ _ _ h1.1 r1⟩
 pyHash:=fun hu ⟨h1,as,r1⟩ h=>CN 7 _ _ _ _ as _ h1.1 r1 (by omega) h
 eqBool:=fun {A E s x y a b Q} hu ⟨h1,as,r1⟩ ⟨h2,bs,r2⟩ h=>by
  unfold eqBool;refine Zb ?_;by_cases e:a=b
  ·subst e;have:=z7 7 _ _ _ _ _ h1.1 h2.1 r1 r2;subst this;rw[w_ (by simp)];refine b_ (YC (o_ ?_));rw[d_ rfl] at h;exact h
  ·rw[n_ (by simpa using e)];refine b_ ?_;refine (show wpAny _ _ (Wo .Eq (.ref a) (.ref b)) _ _ _ from eq_dataH r1 r2 h1.2 h2.2 hu ?_);refine Wq ?_;rw[wN h1.1 h2.1];exact h
 quiet:=fun⟨h1,as,r1⟩ h=>z8 7 8 _ _ _ as _ h1.1 r1 (by omega) h
end PV
namespace PV
open PySem L2 SH
inductive Dt where
 | aK | bl (b:Bool) | int (i:Int) | str (x:Str)
 | lst (xs:List Dt) | tup (xs:List Dt) | fE (xs:List Dt) | nL (xs:List Dt) | uY (xs:List Dt) | pz (xs:List Dt)
 | obj (c:Nat) (fs:List Str) (xs:List Dt)
 | BG (ks:List Int)
 | fD (a:Addr)
inductive MO where
 | ml (xs:List Dt)
 | mo (c:Nat) (fs:List Str) (xs:List Dt)
 | md (am:List (K_×Dt))
noncomputable abbrev Mem:=Addr->k_ MO
structure Cl where
 a:Nat->Addr
 w:World
noncomputable instance:CoeFun Cl (fun _=>Nat->Addr):=⟨Cl.a⟩
noncomputable def aT (M:Mem) (a:Addr) (o:MO):Mem:=fun b=>if b=a then some o else M b
section
variable (K:e_) (cl:Cl) (G:Hp)
mutual
def Is:Dt->V->Prop
 | .aK,v=>v=.aK
 | .bl b,v=>v=.bl b
 | .int i,v=>v=.int i
 | .str x,v=>v=.str x
 | .lst ds,v=>∃ a vs,v=.ref a/\G a=some (.lst vs)/\IsL ds vs
 | .tup ds,v=>∃ a vs,v=.ref a/\G a=some (.tup vs)/\IsL ds vs
 | .nL ds,v=>∃ a vs,v=.ref a/\du K G a vs/\IsL ds vs
 | .uY ds,v=>∃ a vs,v=.ref a/\eG K G a vs/\IsL ds vs
 | .pz ds,v=>∃ a vs,v=.ref a/\Rd G a (.tup vs)/\IsL ds vs
 | .fE ds,v=>∃ a vs,v=.ref a/\vD G a vs/\IsL ds vs
 | .obj c fs ds,v=>∃ a dx vs,v=.ref a/\G a=some (.ins (cl c) dx (fs.zip vs))/\fs.length=ds.length/\IsL ds vs
 | .BG ks,v=>∃ a am,v=.ref a/\G a=some (.dK am)/\∀ j:Int,(dJ am (XU j)).isSome=ks.contains j
 | .fD a,v=>v=.ref a
def IsL:List Dt->List V->Prop
 | [],vs=>vs=[]
 | d::ds,vs=>∃ v r,vs=v::r/\Is d v/\IsL ds r
end
end
section
variable {K:e_}{cl:Cl}{G G':Hp}
mutual
theorem Is.mono (s:ah G G'):∀ {d:Dt}{v:V},Is K cl G d v->Is K cl G' d v
 | .aK,_,h=>h
 | .bl _,_,h=>h
 | .int _,_,h=>h
 | .str _,_,h=>h
 | .lst ds,v,h=>by
  unfold Is at h ⊢;obtain⟨a,vs,e,q,r⟩:=h;exact⟨a,vs,e,s _ _ q,IsL.mono s r⟩
 | .tup ds,v,h=>by
  unfold Is at h ⊢;obtain⟨a,vs,e,q,r⟩:=h;exact⟨a,vs,e,s _ _ q,IsL.mono s r⟩
 | .nL ds,v,h=>by
  unfold Is at h ⊢;obtain⟨a,vs,e,q,r⟩:=h;exact⟨a,vs,e,q.same s,IsL.mono s r⟩
 | .uY ds,v,h=>by
  unfold Is at h ⊢;obtain⟨a,vs,e,q,r⟩:=h;exact⟨a,vs,e,q.same s,IsL.mono s r⟩
 | .pz ds,v,h=>by
  unfold Is at h ⊢;obtain⟨a,vs,e,q,r⟩:=h;exact⟨a,vs,e,q.elim (fun z=>.inl (s _ _ z)) (fun⟨o,z⟩=>.inr ⟨o,s _ _ z⟩),IsL.mono s r⟩
 | .fE ds,v,h=>by
  unfold Is at h ⊢;obtain⟨a,vs,e,q,r⟩:=h;exact⟨a,vs,e,q.same s,IsL.mono s r⟩
 | .obj c fs ds,v,h=>by
  unfold Is at h ⊢;obtain⟨a,dx,vs,e,q,l,r⟩:=h;exact⟨a,dx,vs,e,s _ _ q,l,IsL.mono s r⟩
 | .BG ks,v,h=>by
  unfold Is at h ⊢;obtain⟨a,am,e,q,r⟩:=h;exact⟨a,am,e,s _ _ q,r⟩
 | .fD _,_,h=>h
theorem IsL.mono (s:ah G G'):∀ {ds:List Dt}{vs:List V},IsL K cl G ds vs->IsL K cl G' ds vs
 | [],_,h=>h
 | d::ds,vs,h=>by
  unfold IsL at h ⊢;obtain⟨v,r,e,h1,h2⟩:=h;exact⟨v,r,e,Is.mono s h1,IsL.mono s h2⟩
end
theorem IsL.nil:IsL K cl G [] []:=by unfold IsL;rfl
theorem IsL.cons {d:Dt}{v:V}{ds:List Dt}{vs:List V} (h:Is K cl G d v) (t:IsL K cl G ds vs):IsL K cl G (d::ds) (v::vs):=by unfold IsL;exact⟨v,vs,rfl,h,t⟩
theorem IsL.length:∀ {ds:List Dt}{vs:List V},IsL K cl G ds vs->ds.length=vs.length
 | [],vs,h=>by unfold IsL at h;rw[h];rfl
 | d::ds,vs,h=>by
  unfold IsL at h;obtain⟨v,r,rfl,h1,h2⟩:=h;rw[E_,E_,IsL.length h2]
theorem IsL.get:∀ {ds:List Dt}{vs:List V}{i:Nat}{d:Dt},IsL K cl G ds vs->ds[i]? = some d->∃ v,vs[i]? = some v/\Is K cl G d v
 | [],vs,i,d,h,e=>by simp at e
 | d'::ds,vs,i,d,h,e=>by
  unfold IsL at h;obtain⟨v,r,rfl,h1,h2⟩:=h
  cases i with
  | zero=>simp at e;subst e;exact⟨v,rfl,h1⟩
  | succ i=>exact IsL.get (i:=i) h2 (by simpa using e)
theorem IsL.get':∀ {ds:List Dt}{vs:List V}{i:Nat}{v:V},IsL K cl G ds vs->vs[i]? = some v->∃ d,ds[i]? = some d/\Is K cl G d v
 | [],vs,i,v,h,e=>by unfold IsL at h;subst h;simp at e
 | d'::ds,vs,i,v,h,e=>by
  unfold IsL at h;obtain⟨v',r,rfl,h1,h2⟩:=h
  cases i with
  | zero=>simp at e;subst e;exact⟨d',rfl,h1⟩
  | succ i=>exact IsL.get' (i:=i) h2 (by simpa using e)
theorem IsL.append:∀ {ds es:List Dt}{vs us:List V},IsL K cl G ds vs->IsL K cl G es us->IsL K cl G (ds++es) (vs++us)
 | [],es,vs,us,h,t=>by unfold IsL at h;subst h;exact t
 | d::ds,es,vs,us,h,t=>by
  unfold IsL at h;obtain⟨v,r,rfl,h1,h2⟩:=h;exact IsL.cons h1 (IsL.append h2 t)
theorem IsL.take:∀ {ds:List Dt}{vs:List V} (n:Nat),IsL K cl G ds vs->IsL K cl G (ds.take n) (vs.take n)
 | ds,vs,0,h=>by rw[W0,W0];exact IsL.nil
 | [],vs,n+1,h=>by unfold IsL at h;subst h;exact IsL.nil
 | d::ds,vs,n+1,h=>by
  unfold IsL at h;obtain⟨v,r,rfl,h1,h2⟩:=h;exact IsL.cons h1 (IsL.take n h2)
theorem IsL.drop:∀ {ds:List Dt}{vs:List V} (n:Nat),IsL K cl G ds vs->IsL K cl G (ds.drop n) (vs.drop n)
 | ds,vs,0,h=>h
 | [],vs,n+1,h=>by unfold IsL at h;subst h;exact IsL.nil
 | d::ds,vs,n+1,h=>by
  unfold IsL at h;obtain⟨v,r,rfl,h1,h2⟩:=h;exact IsL.drop n h2
noncomputable def cutD (xs:List Dt) (lo hi:k_ Int):List Dt:=(xs.drop (HT.bR xs.length 0 lo)).take (HT.bR xs.length xs.length hi-HT.bR xs.length 0 lo)
theorem IsL.cut {ds:List Dt}{vs:List V} (lo hi:k_ Int) (h:IsL K cl G ds vs):IsL K cl G (cutD ds lo hi) (mv vs lo hi):=by
 unfold cutD mv;rw[h.length];exact (h.drop _).take _
theorem IsL.at {ds:List Dt}{vs:List V}{i:Int}{d:Dt} (h:IsL K cl G ds vs) (e:pi ds i=some d):∃ v,pi vs i=some v/\Is K cl G d v:=by
 unfold pi at e ⊢;rw[←h.length]
 cases q:Cf ds.length i with
 | none=>rw[q] at e;cases e
 | some j=>rw[q] at e;exact h.get e
theorem IsL.ints:∀ (ns:List Int),IsL K cl G (ns.map Dt.int) (ns.map V.int)
 | []=>IsL.nil
 | n::ns=>IsL.cons (by unfold Is;rfl) (IsL.ints ns)
theorem IsL.vH:∀ {ns:List Bool}{vs:List V},IsL K cl G (ns.map Dt.bl) vs->vs=ns.map V.bl
 | [],vs,h=>by simp only[WX] at h;unfold IsL at h;exact h
 | n::ns,vs,h=>by
  simp only[p_] at h;unfold IsL at h;obtain⟨v,r,rfl,h1,h2⟩:=h;unfold Is at h1;rw[p_,h1,IsL.vH h2]
noncomputable def jc:Dt->k_ (List Dt)
 | .lst ds=>some ds
 | .nL ds=>some ds
 | _=>none
noncomputable def pA:Dt->k_ (List Dt)
 | .tup ds=>some ds
 | .fE ds=>some ds
 | .uY ds=>some ds
 | .pz ds=>some ds
 | _=>none
theorem Is.BH {d:Dt}{v:V}{ds:List Dt} (h:Is K cl G d v) (e:jc d=some ds):∃ a vs,v=.ref a/\du K G a vs/\IsL K cl G ds vs:=by
 cases d<;>first | (cases e;done) | skip
 ·cases e;unfold Is at h;obtain⟨a,vs,e,q,r⟩:=h;exact⟨a,vs,e,du.of q,r⟩
 ·cases e;unfold Is at h;exact h
theorem Is.JP {d:Dt}{v:V}{ds:List Dt} (h:Is K cl G d v) (e:pA d=some ds):∃ a vs,v=.ref a/\eG K G a vs/\IsL K cl G ds vs:=by
 cases d<;>first | (cases e;done) | skip
 ·cases e;unfold Is at h;obtain⟨a,vs,e,q,r⟩:=h;exact⟨a,vs,e,eG.of q,r⟩
 ·cases e;unfold Is at h;obtain⟨a,vs,e,q,r⟩:=h;exact⟨a,vs,e,q.sq,r⟩
 ·cases e;unfold Is at h;exact h
 ·cases e;unfold Is at h;obtain⟨a,vs,e,q,r⟩:=h;exact⟨a,vs,e,.inl q,r⟩
end
end PV
namespace PV
open PySem L2 SH
section
variable (K:e_) (cl:Cl)
noncomputable def pB (w:World) (a:Addr) (xs:List (K_×Addr×Value)):HO:=.ext fun h=>∃ o es ep,h.get? a=some o/\o.ExactDict/\o.data=.dict es ep/\es.toList=xs.map fun x=>({ hash:=hP w 7 x.1,key:=.ref x.2.1,val:=x.2.2 }:DictEntry)
def DP (G:Hp):List (K_×Dt)->List (K_×Addr×Value)->Prop:=aac fun p q=>p.1=q.1/\pw q.1/\cC K G (.ref q.2.1) q.1/\∃ v,RelV v q.2.2/\Is K cl G p.2 v
def lW (G H:Hp) (a:Addr) (am:List (K_×Dt)):Prop:=(a==XY)=false/\am.length<=sizeLine/\∃ xs,H a=some (pB cl.w a xs)/\(xs.map (·.1)).Nodup/\DP K cl G am xs
def b6 (G H:Hp) (a:Addr):MO->Prop
 | .ml ds=>∃ vs,H a=some (.lst vs)/\IsL K cl G ds vs
 | .mo c fs ds=>∃ dx vs,H a=some (.ins (cl c) dx (fs.zip vs))/\fs.length=ds.length/\IsL K cl G ds vs
 | .md am=>lW K cl G H a am
def bW (G H:Hp) (M:Mem):Prop:=∀ a o,M a=some o->G a=none/\b6 K cl G H a o
noncomputable def wO:MO->Nat×Nat×List Str
 | .ml _=>(0,0,[])
 | .mo c fs _=>(1,c,fs)
 | .md _=>(2,0,[])
structure bq (sf:k_ Addr) (G H:Hp) (M:Mem) (G' H':Hp) (M':Mem):Prop where
 g:ah G G'
 gh:ah G' H'
 jL:∀ a o,H a=some o->∃ o',H' a=some o'
 gf:∀ a o,G' a=some o->G a=none->H a=none
 h:∀ a o,H a=some o->M a=none->sf≠some a->H' a=some o
 mem:bW K cl G' H' M'
 mf:∀ a o,M' a=some o->M a=none->H a=none
 ke:∀ a o,M a=some o->∃ o',M' a=some o'/\wO o'=wO o
end
section
variable {K:e_}{cl:Cl}
theorem DP.mono {G G':Hp} (s:ah G G'):∀ {am:List (K_×Dt)}{xs:List (K_×Addr×Value)},DP K cl G am xs->DP K cl G' am xs
 | _,_,.nil=>.nil
 | _,_,.cons ⟨h1,h2,h3,v,h4,h5⟩ t=>.cons ⟨h1,h2,h3.same s,v,h4,h5.mono s⟩ (DP.mono s t)
theorem b6.jL {G H:Hp}{a:Addr}{o:MO} (h:b6 K cl G H a o):∃ u,H a=some u:=by
 cases o with
 | ml ds=>obtain⟨vs,e,_⟩:=h;exact⟨_,e⟩
 | mo c fs ds=>obtain⟨dx,vs,e,_⟩:=h;exact⟨_,e⟩
 | md am=>obtain⟨_,_,xs,e,_⟩:=h;exact⟨_,e⟩
theorem b6.mono {G H G' H':Hp}{a:Addr}{o:MO} (h:b6 K cl G H a o) (s:ah G G') (e:∀ u,H a=some u->H' a=some u):b6 K cl G' H' a o:=by
 cases o with
 | ml ds=>obtain⟨vs,q,r⟩:=h;exact⟨vs,e _ q,r.mono s⟩
 | mo c fs ds=>obtain⟨dx,vs,q,l,r⟩:=h;exact⟨dx,vs,e _ q,l,r.mono s⟩
 | md am=>obtain⟨h1,h2,xs,q,n,r⟩:=h;exact⟨h1,h2,xs,e _ q,n,r.mono s⟩
theorem bq.refl {sf:k_ Addr}{G H:Hp}{M:Mem} (gh:ah G H) (m:bW K cl G H M):bq K cl sf G H M G H M :=
 ⟨ah.refl G,gh,fun a o h=>⟨o,h⟩,fun a o h n=>absurd h (by rw[n];exact fun z=>nomatch z),fun a o h _ _=>h,m,fun a o h n=>absurd h (by rw[n];exact fun z=>nomatch z),fun a o h=>⟨o,h,rfl⟩⟩
theorem bF {H H':Hp}{a:Addr} (d:∀ a o,H a=some o->∃ o',H' a=some o') (n:H' a=none):H a=none:=by
 cases e:H a with
 | none=>rfl
 | some o=>obtain⟨o',e'⟩:=d a o e;rw[n] at e';cases e'
theorem bq.trans {sf:k_ Addr}{G H G1 H1 G2 H2:Hp}{M M1 M2:Mem} (x:bq K cl sf G H M G1 H1 M1) (y:bq K cl none G1 H1 M1 G2 H2 M2):bq K cl sf G H M G2 H2 M2 where
 g:=x.g.trans y.g
 gh:=y.gh
 jL:=fun a o h=>let ⟨o',h'⟩:=x.jL a o h;y.jL a o' h'
 gf:=fun a o h n=>by
  cases e:G1 a with
  | none=>exact bF x.jL (y.gf a o h e)
  | some u=>exact x.gf a u e n
 h:=fun a o h m n=>by
  have h1:=x.h a o h m n
  cases e:M1 a with
  | none=>exact y.h a o h1 e (fun z=>nomatch z)
  | some u=>exact absurd (x.mf a u e m) (by rw[h];exact fun z=>nomatch z)
 mem:=y.mem
 mf:=fun a o h n=>by
  cases e:M1 a with
  | none=>exact bF x.jL (y.mf a o h e)
  | some u=>exact x.mf a u e n
 ke:=fun a o h=>let ⟨o',h',e⟩:=x.ke a o h;let ⟨o2,h2,e2⟩:=y.ke a o' h';⟨o2,h2,e2.trans e⟩
end
inductive Sl where
 | no | sh (d:Dt) | ow (d:Dt)
noncomputable abbrev En:=List Sl
noncomputable def GF:Dt->k_ MO
 | .lst ds=>some (.ml ds)
 | .obj c fs ds=>some (.mo c fs ds)
 | _=>none
structure Bs where
 G:Hp
 H:Hp
 M:Mem
 sf:k_ Addr
section
variable (K:e_) (cl:Cl)
def Aa (B:Bs) (M:Mem) (G H:Hp) (i:Nat) (a:Addr) (d:Dt):Prop:=G a=none/\M a=none/\(B.H a=none∨(B.sf=some a/\i=0))/\∃ o,GF d=some o/\b6 K cl G H a o
structure Rep (B:Bs) (ρ:En) (M:Mem) (σ:St) (H G:Hp):Prop where
 cz:bq K cl B.sf B.G B.H B.M G H M
 len:ρ.length=σ.length
 s0:∀ a,B.sf=some a->σ[(0:Nat)]? = some (some (.ref a))
 sh:∀ (i:Nat) d,ρ[i]? = some (Sl.sh d)->∃ v,σ[i]? = some (some v)/\Is K cl G d v
 ow:∃ oa:Nat->Addr,(∀ (i:Nat) d,ρ[i]? = some (Sl.ow d)->σ[i]? = some (some (.ref (oa i)))/\Aa K cl B M G H i (oa i) d)/\∀ (i j:Nat) d e,ρ[i]? = some (Sl.ow d)->ρ[j]? = some (Sl.ow e)->oa i=oa j->i=j
end
section
variable {K:e_}{cl:Cl}{B:Bs}{ρ:En}{M M':Mem}{σ:St}{H G H' G':Hp}
theorem Aa.cz {i:Nat}{a:Addr}{d:Dt} (h:Aa K cl B M G H i a d) (f:bq K cl none G H M G' H' M'):Aa K cl B M' G' H' i a d:=by
 obtain⟨h1,h2,h3,o,h4,h5⟩:=h;obtain⟨u,hu⟩:=h5.jL;refine⟨?_,?_,h3,o,h4,h5.mono f.g fun u e=>f.h a u e h2 (fun z=>nomatch z)⟩
 ·cases e:G' a with
  | none=>rfl
  | some w=>exact absurd (f.gf a w e h1) (by rw[hu];exact fun z=>nomatch z)
 ·cases e:M' a with
  | none=>rfl
  | some w=>exact absurd (f.mf a w e h2) (by rw[hu];exact fun z=>nomatch z)
theorem Rep.on (r:Rep K cl B ρ M σ H G) (f:bq K cl none G H M G' H' M'):Rep K cl B ρ M' σ H' G':=by
 obtain⟨oa,h1,h2⟩:=r.ow;exact⟨r.cz.trans f,r.len,r.s0,fun i d e=>let ⟨v,e1,e2⟩:=r.sh i d e;⟨v,e1,e2.mono f.g⟩,oa,fun i d e=>⟨(h1 i d e).1,(h1 i d e).2.cz f⟩,h2⟩
theorem Rep.self (r:Rep K cl B ρ M σ H G):bq K cl none G H M G H M:=bq.refl r.cz.gh r.cz.mem
theorem bq.lay {p:Addr}{o:HO} (gh:ah G H) (m:bW K cl G H M) (hp:H p=none):bq K cl none G H M (upd G p o) (upd H p o) M:=by
 have gp:G p=none:=bF (fun a o h=>⟨o,gh a o h⟩) hp;refine⟨ah.put gp,fun a u e=>?_,fun a u e=>⟨u,ah.put hp a u e⟩,fun a u e n=>?_,fun a u e _ _=>ah.put hp a u e,fun a u e=>?_,fun a u e n=>absurd e (by rw[n];exact fun z=>nomatch z),fun a o h=>⟨o,h,rfl⟩⟩
 ·unfold upd at e ⊢;by_cases z:a=p
  ·rw[w_ z] at e ⊢;exact e
  ·rw[n_ z] at e ⊢;exact gh a u e
 ·unfold upd at e;by_cases z:a=p
  ·rw[z];exact hp
  ·rw[n_ z,n] at e;cases e
 ·obtain⟨h1,h2⟩:=m a u e;obtain⟨w,hw⟩:=h2.jL;have ne:a≠p:=ax hw hp;exact⟨by rw[aq ne];exact h1,h2.mono (ah.put gp) fun x e=>by rw[aq ne];exact e⟩
end
set_option genInjectivity false
set_option genSizeOfSpec false
inductive qG where | add | sub | mul | fdiv | mod | pow | shr
inductive rM where | lt | le | gt | ge
inductive C where
 | i (n:Int) | s (x:Str) | b (x:Bool) | n
 | v (k:Nat) | o (k:Nat) | d (c:C) | g (k:Nat)
 | nil | cons (a r:C)
 | bin (op:qG) (a b:C) | neg (a:C)
 | cmp (op:rM) (a b:C) | Ab (o1 o2:rM) (a b c:C)
 | eq (ng:Bool) (a b:C) | wP (ng:Bool) (a b:C) | ins (a b:C) | ind (a b:C)
 | one (a:C) | and (a b:C) | or (a b:C) | not (a:C) | tr (a:C) | GG (t a b:C)
 | tup (a:C) | fr (f:C) | CO (f:C) | GH
 | jd (a:C) | yQ (a:C) | Ac (a lo hi:C) | cat (a b:C) | GI (a b:C) | GJ (a:C)
 | comp (it:C) (w:Nat) (ix:List Nat) (t e:C) | yq (it:C) (ix:List Nat) (t e:C)
 | eH (a:C) | kP (a:C) | Eb (a b:C) | rev (a:C) | CP (a:C) | zip (a b:C)
 | ix (a k:C) | slt (a lo hi:C) | CQ (a lo hi:C)
 | fld (a:C) (f:Str)
 | call (f:Nat) (a:C) | br (m:Nat) (r a:C) | mk (c:Nat) (a:C) | JQ (c:Nat) (a:C)
 | len (a:C) | tV (a:C) (t:Nat) | all (a:C) | any (a:C) | mB (a:C) | min2 (a b:C) | max2 (a b:C)
 | yR (a:C) | Ec (a:C) | cnt (a b:C) | yc (a:C) | CS (a b:C) | GK (a b:C)
inductive S where
 | skip | seq (a r:S)
 | set (k:Nat) (e:C) | fL (k:Nat) (f:C) | yr (k c:Nat) (a:C) | eM (k:Nat)
 | app (k:Nat) (e:C) | ext (k:Nat) (e:C) | GL (a e:C) | Lv (a k e:C)
 | eI (k:Nat) (f:Str) (e:C) | aug (k:Nat) (op:qG) (e:C) | ex (e:C) | bA (c:Nat) (a:C)
 | ret (e:C) | Ad | brk | cont | never
 | ite (t:C) (a b:S) | bQ (it:C) (tg:List Nat) (b:S) | JR (t:C) (b:S)
noncomputable abbrev cA:=List Dt->Mem->(Dt->Mem->Prop)->Prop
structure Gm where
 fn:Nat->cA
 me:Nat->cA
 bA:Nat->Dt->List Dt->Mem->(Dt->Mem->Prop)->Prop
 cs:Nat->Dt
 at_:Nat->Str->Bool
 hm:Nat->Nat->List Str->Bool
noncomputable abbrev Rt:=List Dt->Mem->Prop
def av (ds:List Dt) (k:Dt->Prop):Prop:=match ds with | [d]=>k d | _=>False
noncomputable def bI:Dt->(Bool->Prop)->Prop | .bl b,R=>R b | _,_=>False
noncomputable def intD:Dt->(Int->Prop)->Prop | .int b,R=>R b | _,_=>False
noncomputable def nM:Dt->(Str->Prop)->Prop | .str b,R=>R b | _,_=>False
noncomputable def ka (d:Dt):k_ (List Dt):=match jc d with | some ds=>some ds | none=>pA d
noncomputable def lstK:Dt->(List Dt->Prop)->Prop | .lst ds,R=>R ds | _,_=>False
noncomputable def mC:Dt->k_ (List Dt)
 | .tup ds=>some ds
 | .fE ds=>some ds
 | .pz ds=>some ds
 | _=>none
def eJ (o:k_ (List Dt)) (R:List Dt->Prop):Prop:=match o with | some ds=>R ds | none=>False
def mD (ρ:En) (k:Nat) (R:Dt->Prop):Prop:=match ρ[k]? with | some (.sh d)=>R d | _=>False
def cX (ρ:En) (k:Nat) (R:Dt->Prop):Prop:=match ρ[k]? with | some (.ow d)=>R d | _=>False
def binI:qG->Int->Int->(Dt->Prop)->Prop
 | .add,i,j,R=>R (.int (i+j))
 | .sub,i,j,R=>R (.int (i-j))
 | .mul,i,j,R=>xO i j/\R (.int (i*j))
 | .fdiv,i,j,R=>B4 i j/\R (.int (i / j))
 | .mod,i,j,R=>0<j/\R (.int (i % j))
 | .pow,i,j,R=>B5 i j/\R (.int (i ^ j.toNat))
 | .shr,i,j,R=>0<=j/\R (.int (i / 2 ^ j.toNat))
def Ed (d:Dt) (R:Int->Prop):Prop:=match d with | .int j=>R j | _=>False
def QA (d:Dt) (R:Str->Prop):Prop:=match d with | .str j=>R j | _=>False
def mE (op:qG) (x y:Dt) (R:Dt->Prop):Prop:=match x with
 | .int i=>Ed y fun j=>binI op i j R
 | .str i=>QA y fun j=>match op with | .add=>i.length+j.length<=sizeLine/\R (.str (i++j)) | _=>False
 | _=>False
def je (op:rM) (x y:Dt) (R:Bool->Prop):Prop:=Ed x fun i=>Ed y fun j=>match op with
 | .lt=>R (decide (i<j))
 | .le=>R (decide (i<=j))
 | .gt=>R (decide (j<i))
 | .ge=>R (decide (j<=i))
mutual
noncomputable def toP:Dt->k_ K_
 | .aK=>some .none
 | .bl b=>some (.bool b)
 | .int i=>some (.int i)
 | .str x=>some (.str x)
 | .lst ds=>(toPs ds).map .list
 | .nL ds=>(toPs ds).map .list
 | .tup ds=>(toPs ds).map .tuple
 | .fE ds=>(toPs ds).map .tuple
 | .uY ds=>(toPs ds).map .tuple
 | .pz ds=>(toPs ds).map .tuple
 | _=>none
noncomputable def toPs:List Dt->k_ (List K_)
 | []=>some []
 | d::ds=>match toP d,toPs ds with
  | some p,some ps=>some (p::ps)
  | _,_=>none
end
noncomputable def Oz:Dt->Dt->k_ Bool
 | .int i,.int j=>some (decide (i=j))
 | .str i,.str j=>some (decide (i=j))
 | .bl i,.bl j=>some (decide (i=j))
 | _,_=>none
def lX (x y:Dt) (R:Bool->Prop):Prop:=match Oz x y with
 | some b=>R b
 | none=>∃ p q,toP x=some p/\toP y=some q/\H_ p=true/\H_ q=true/\R (O_ p q)
noncomputable def kb:Dt->Bool
 | .aK=>true | .bl _=>true | .int _=>true | .str _=>true | _=>false
noncomputable def Lw:Dt->V
 | .bl b=>.bl b | .int i=>.int i | .str x=>.str x | _=>.aK
noncomputable def JS (d e:Dt):Bool:=zw (Lw d) (Lw e)
def vJ (x y:Dt) (R:Bool->Prop):Prop :=
 (∃ ds,ka y=some ds/\kb x=true/\ds.all kb=true/\R (ds.any fun z=>JS z x)) ∨
 (∃ ds p ps,jc y=some ds/\toP x=some p/\toPs ds=some ps/\H_ p=true/\(∀ e∈ps,H_ e=true)/\R (ps.any fun e=>O_ e p))
def CT:Dt->(Bool->Prop)->Prop
 | .bl b,R=>R b
 | .int i,R=>R (i != 0)
 | .lst ds,R=>R (!ds.isEmpty)
 | .nL ds,R=>R (!ds.isEmpty)
 | .tup ds,R=>R (!ds.isEmpty)
 | _,_=>False
def pC:Dt->(Nat->Prop)->Prop
 | .str x,R=>x.length<=sizeLine/\R x.length
 | .lst ds,R=>R ds.length
 | .nL ds,R=>R ds.length
 | .tup ds,R=>R ds.length
 | .fE ds,R=>R ds.length
 | .uY ds,R=>R ds.length
 | .pz ds,R=>R ds.length
 | _,_=>False
def atK (ds:List Dt) (i:Int) (R:Dt->Prop):Prop:=∃ e,pi ds i=some e/\R e
def iW:Dt->Int->(Dt->Prop)->Prop
 | .str z,i,R=>z.length<=sizeLine/\∃ c,pi z.cps.toList i=some c/\R (.str ⟨#[c]⟩)
 | .lst ds,i,R=>atK ds i R
 | .nL ds,i,R=>atK ds i R
 | .tup ds,i,R=>atK ds i R
 | .fE ds,i,R=>atK ds i R
 | .uY ds,i,R=>atK ds i R
 | .pz ds,i,R=>atK ds i R
 | _,_,_=>False
def eK (Γ:Gm) (f:Str):Dt->(Dt->Prop)->Prop
 | .obj c fs ds,R=>Γ.at_ c f=true/\∃ d,(fs.zip ds).lookup f=some d/\R d
 | _,_=>False
noncomputable def isiN:Dt->k_ Nat
 | .int _=>some 0 | .bl _=>some 1 | .str _=>some 2 | .lst _=>some 3 | .tup _=>some 4 | .aK=>some 5 | _=>none
def isiD (t:Nat) (d:Dt) (R:Bool->Prop):Prop:=match isiN d with | some n=>R (n==t||(n==1&&t==0)) | none=>False
def GM (M:Mem):Dt->(Dt->Prop)->Prop
 | .fD a,R=>match M a with
  | some (.ml xs)=>R (.lst xs)
  | some (.mo c fs xs)=>R (.obj c fs xs)
  | _=>False
 | _,_=>False
def ij:List Dt->(k_ Int->Prop)->Prop
 | [],R=>R none
 | [.int i],R=>R (some i)
 | _,_=>False
noncomputable def fZ (ρ:En) (j:Nat):Sl:=match ρ[j]? with | some (.sh d)=>.sh d | _=>.no
def wQ (ρ:En) (w:Nat) (ix:List Nat) (x:Dt) (k:En->Prop):Prop :=
 match w,x with
 | 1,d=>k (.sh d::ix.map (fZ ρ))
 | 2,.tup [d,e]=>k (.sh d::.sh e::ix.map (fZ ρ))
 | _,_=>False
def dk (f:Dt->Mem->(k_ Dt->Mem->Prop)->Prop):List Dt->Mem->Rt->Prop
 | [],M,R=>R [] M
 | x::xs,M,R=>f x M fun o M1=>dk f xs M1 fun ds M2=>R (o.toList++ds) M2
noncomputable def bJ (lo:Int) (n:Nat):List Dt:=(Wg n).map fun (k:Nat)=>.int (lo+(k:Int))
noncomputable def rN (z:Str):List Dt:=z.cps.toList.map fun c=>.str ⟨#[c]⟩
def BI:Dt->(List Dt->Prop)->Prop
 | .str z,R=>R (rN z)
 | .lst ds,R=>R ds
 | .nL ds,R=>R ds
 | .tup ds,R=>R ds
 | .fE ds,R=>R ds
 | .uY ds,R=>R ds
 | .pz ds,R=>R ds
 | _,_=>False
noncomputable def mF:Dt->(Nat->List Str->List Dt->Prop)->Prop | .obj c fs ds,R=>R c fs ds | _,_=>False
noncomputable def CU:Dt->(List Dt->Prop)->Prop | .fE ds,R=>R ds | _,_=>False
def eL (M:Mem):Dt->(Nat->List Str->Prop)->Prop
 | .obj c fs _,R=>R c fs
 | .fD a,R=>(match M a with | some (.mo c fs _)=>R c fs | _=>False)
 | _,_=>False
def GN (M:Mem):Dt->(Addr->List (K_×Dt)->Prop)->Prop
 | .fD p,R=>(match M p with | some (.md am)=>R p am | _=>False)
 | _,_=>False
def yt (d:Dt) (R:K_->Prop):Prop:=∃ ps,toP d=some (.tuple ps)/\pw (.tuple ps)/\R (.tuple ps)
noncomputable def f6 (am:List (K_×Dt)) (p:K_):k_ Dt:=(am.find? fun kv=>decide (kv.1=p)).map (·.2)
def yS (i:Int):Prop := -(2 ^ 62)<=i/\i<2 ^ 62
section
variable (Γ:Gm)
def ev:C->En->Mem->Rt->Prop
 | .i n,_,M,R=>R [.int n] M
 | .s x,_,M,R=>R [.str x] M
 | .b x,_,M,R=>R [.bl x] M
 | .n,_,M,R=>R [.aK] M
 | .v k,ρ,M,R=>mD ρ k fun d=>R [d] M
 | .o k,ρ,M,R=>cX ρ k fun d=>R [d] M
 | .d c,ρ,M,R=>ev c ρ M fun ds M1=>av ds fun d=>GM M1 d fun e=>R [e] M1
 | .g k,_,M,R=>R [Γ.cs k] M
 | .nil,_,M,R=>R [] M
 | .cons a r,ρ,M,R=>ev a ρ M fun ds M1=>av ds fun d=>ev r ρ M1 fun es M2=>R (d::es) M2
 | .bin op a b,ρ,M,R=>ev a ρ M fun x M1=>av x fun x=>ev b ρ M1 fun y M2=>av y fun y=>mE op x y fun d=>R [d] M2
 | .neg a,ρ,M,R=>ev a ρ M fun x M1=>av x fun x=>intD x fun i=>R [.int (-i)] M1
 | .cmp op a b,ρ,M,R=>ev a ρ M fun x M1=>av x fun x=>ev b ρ M1 fun y M2=>av y fun y=>je op x y fun c=>R [.bl c] M2
 | .Ab o1 o2 a b c,ρ,M,R=>ev a ρ M fun x M1=>av x fun x=>ev b ρ M1 fun y M2=>av y fun y=>je o1 x y fun k =>
   if k=true then ev c ρ M2 fun z M3=>av z fun z=>je o2 y z fun k=>R [.bl k] M3 else R [.bl false] M2
 | .eq ng a b,ρ,M,R=>ev a ρ M fun x M1=>av x fun x=>ev b ρ M1 fun y M2=>av y fun y=>lX x y fun c=>R [.bl (ng ^^ c)] M2
 | .wP ng a b,ρ,M,R=>ev a ρ M fun x M1=>av x fun x=>ev b ρ M1 fun y M2=>av y fun y=>vJ x y fun c=>R [.bl (ng ^^ c)] M2
 | .ins a b,ρ,M,R=>ev a ρ M fun x M1=>av x fun x=>ev b ρ M1 fun y M2=>av y fun y=>nM x fun i=>nM y fun j=>R [.bl (!(WT j i 0 j.length 1).isEmpty)] M2
 | .ind a b,ρ,M,R=>ev a ρ M fun x M1=>av x fun x=>ev b ρ M1 fun y M2=>av y fun y=>intD x fun i=>match y with | .BG ks=>R [.bl (ks.contains i)] M2 | _=>False
 | .one a,ρ,M,R=>ev a ρ M R
 | .and a b,ρ,M,R=>ev a ρ M fun x M1=>av x fun x=>bI x fun c=>if c=true then ev b ρ M1 R else R [.bl false] M1
 | .or a b,ρ,M,R=>ev a ρ M fun x M1=>av x fun x=>bI x fun c=>if c=true then R [.bl true] M1 else ev b ρ M1 R
 | .not a,ρ,M,R=>ev a ρ M fun x M1=>av x fun x=>bI x fun c=>R [.bl (!c)] M1
 | .tr a,ρ,M,R=>ev a ρ M fun x M1=>av x fun x=>CT x fun c=>R [.bl c] M1
 | .GG t a b,ρ,M,R=>ev t ρ M fun x M1=>av x fun x=>bI x fun c=>if c=true then ev a ρ M1 R else ev b ρ M1 R
 | .tup a,ρ,M,R=>ev a ρ M fun ds M1=>ds.length<=sizeLine/\R [.tup ds] M1
 | .fr f,ρ,M,R=>ev f ρ M fun ds M1=>R [.lst ds] M1
 | .CO f,ρ,M,R=>ev f ρ M fun ds M1=>∀ a,M1 a=none->R [.fD a] (aT M1 a (.ml ds))
 | .GH,_,M,R=>∀ a,M a=none->R [.fD a] (aT M a (.md []))
 | .jd a,ρ,M,R=>ev a ρ M fun ds M1=>ds.length<=sizeLine/\R ds M1
 | .yQ a,ρ,M,R=>ev a ρ M fun x M1=>av x fun x=>eJ (ka x) fun ds=>R ds M1
 | .Ac a lo hi,ρ,M,R=>ev a ρ M fun x M1=>av x fun x=>ev lo ρ M1 fun l M2=>ij l fun l=>ev hi ρ M2 fun h M3=>ij h fun h=>eJ (jc x) fun ds=>R (cutD ds l h) M3
 | .cat a b,ρ,M,R=>ev a ρ M fun x M1=>av x fun x=>ev b ρ M1 fun y M2=>av y fun y=>lstK x fun ds=>lstK y fun es=>ds.length+es.length<=sizeLine/\R (ds++es) M2
 | .GI a b,ρ,M,R=>ev a ρ M fun x M1=>av x fun x=>ev b ρ M1 fun y M2=>av y fun y=>intD x fun i=>intD y fun j=>yS i/\yS j/\(j-i).toNat<=900/\R (bJ i (j-i).toNat) M2
 | .GJ a,ρ,M,R=>ev a ρ M fun x M1=>av x fun x=>intD x fun j=>yS j/\j.toNat<=900/\R (bJ 0 j.toNat) M1
 | .comp it w ix t e,ρ,M,R=>ev it ρ M fun items M1=>items.length<=sizeLine /\
   dk (fun x M K=>wQ ρ w ix x fun ρ'=>ev t ρ' M fun c M1=>av c fun c=>bI c fun c=>if c=true then ev e ρ' M1 fun d M2=>av d fun d=>K (some d) M2 else K none M1) items M1 R
 | .yq it ix t e,ρ,M,R=>ev it ρ M fun items M1=>items.length<=sizeLine /\
   dk (fun x M K=>wQ ρ 1 ix x fun ρ'=>ev t ρ' M fun c M1=>av c fun c=>bI c fun c=>if c=true then ev e ρ' M1 fun d M2=>av d fun d=>K (some d) M2 else K none M1) items M1 R
 | .eH a,ρ,M,R=>ev a ρ M fun x M1=>av x fun x=>BI x fun ds=>R ds M1
 | .kP a,ρ,M,R=>ev a ρ M fun x M1=>av x fun x=>intD x fun j=>yS j/\R (bJ 0 j.toNat) M1
 | .Eb a b,ρ,M,R=>ev a ρ M fun x M1=>av x fun x=>ev b ρ M1 fun y M2=>av y fun y=>intD x fun i=>intD y fun j=>yS i/\yS j/\R (bJ i (j-i).toNat) M2
 | .rev a,ρ,M,R=>ev a ρ M fun x M1=>av x fun x=>intD x fun j=>0<=j/\j<=1000/\R (bJ 0 j.toNat).reverse M1
 | .CP a,ρ,M,R=>ev a ρ M fun x M1=>av x fun x=>eJ (pA x) fun ds=>R (ds.zipIdx.map fun p=>.tup [.int p.2,p.1]) M1
 | .zip a b,ρ,M,R=>ev a ρ M fun x M1=>av x fun x=>ev b ρ M1 fun y M2=>av y fun y=>eJ (mC x) fun ds=>eJ (mC y) fun es=>R ((ds.zip es).map fun p=>.tup [p.1,p.2]) M2
 | .ix a k,ρ,M,R=>ev a ρ M fun x M1=>av x fun x=>ev k ρ M1 fun y M2=>av y fun y=>intD y fun i=>iW x i fun d=>R [d] M2
 | .slt a lo hi,ρ,M,R=>ev a ρ M fun x M1=>av x fun x=>ev lo ρ M1 fun l M2=>ij l fun l=>ev hi ρ M2 fun h M3=>ij h fun h=>eJ (mC x) fun ds=>R [.pz (cutD ds l h)] M3
 | .CQ a lo hi,ρ,M,R=>ev a ρ M fun x M1=>av x fun x=>ev lo ρ M1 fun l M2=>ij l fun l=>ev hi ρ M2 fun h M3=>ij h fun h=>nM x fun z=>z.length<=sizeLine/\R [.str (Xs z l h)] M3
 | .fld a f,ρ,M,R=>ev a ρ M fun x M1=>av x fun x=>eK Γ f x fun d=>R [d] M1
 | .call f a,ρ,M,R=>ev a ρ M fun ds M1=>Γ.fn f ds M1 fun d M2=>R [d] M2
 | .br m r a,ρ,M,R=>ev r ρ M fun x M1=>av x fun x=>eL M1 x fun c fs=>Γ.hm m c fs=true/\ev a ρ M1 fun ds M2=>Γ.me m (x::ds) M2 fun d M3=>R [d] M3
 | .mk c a,ρ,M,R=>ev a ρ M fun ds M1=>Γ.bA c (.obj c [] []) ds M1 fun d M2=>R [d] M2
 | .JQ c a,ρ,M,R=>ev a ρ M fun ds M1=>Γ.bA c (.obj c [] []) ds M1 fun d M2=>mF d fun c' fs xs=>∀ p,M2 p=none->R [.fD p] (aT M2 p (.mo c' fs xs))
 | .len a,ρ,M,R=>ev a ρ M fun x M1=>av x fun x=>pC x fun n=>R [.int n] M1
 | .tV a t,ρ,M,R=>ev a ρ M fun x M1=>av x fun x=>isiD t x fun c=>R [.bl c] M1
 | .all a,ρ,M,R=>ev a ρ M fun x M1=>av x fun x=>∃ bs:List Bool,x=.lst (bs.map .bl)/\R [.bl (bs.all id)] M1
 | .any a,ρ,M,R=>ev a ρ M fun x M1=>av x fun x=>∃ bs:List Bool,x=.lst (bs.map .bl)/\R [.bl (bs.any id)] M1
 | .mB a,ρ,M,R=>ev a ρ M fun x M1=>av x fun x=>bI x fun c=>R [.int (if c then 1 else 0)] M1
 | .min2 a b,ρ,M,R=>ev a ρ M fun x M1=>av x fun x=>ev b ρ M1 fun y M2=>av y fun y=>intD x fun i=>intD y fun j=>R [.int (if j<i then j else i)] M2
 | .max2 a b,ρ,M,R=>ev a ρ M fun x M1=>av x fun x=>ev b ρ M1 fun y M2=>av y fun y=>intD x fun i=>intD y fun j=>R [.int (if j>i then j else i)] M2
 | .yR a,ρ,M,R=>ev a ρ M fun x M1=>av x fun x=>eJ (jc x) fun ds=>R [.tup ds] M1
 | .Ec a,ρ,M,R=>ev a ρ M fun x M1=>av x fun x=>eJ (jc x) fun ds=>R [.fE ds] M1
 | .cnt a b,ρ,M,R=>ev a ρ M fun x M1=>av x fun x=>CU x fun ds=>ev b ρ M1 fun y M2=>av y fun y=>kb y=true/\ds.all kb=true/\R [.int (ds.countP fun z=>JS z y:Nat)] M2
 | .yc a,ρ,M,R=>ev a ρ M fun x M1=>av x fun x=>∃ ks:List Int,x=.lst (ks.map fun k=>.tup [.int k,.bl true])/\ks.length<=900/\R [.BG ks] M1
 | .CS k d,ρ,M,R=>ev k ρ M fun x M1=>av x fun x=>ev d ρ M1 fun y M2=>av y fun y=>yt x fun p=>GN M2 y fun _ am=>R [.bl (f6 am p).isNone] M2
 | .GK d k,ρ,M,R=>ev d ρ M fun x M1=>av x fun x=>ev k ρ M1 fun y M2=>av y fun y=>yt y fun p=>GN M2 x fun _ am=>∃ v,f6 am p=some v/\R [v] M2
structure yu where
 nx:En->Mem->Prop
 rt:Dt->Mem->Prop
 bk:En->Mem->Prop:=fun _ _=>False
 ct:En->Mem->Prop:=fun _ _=>False
def eS (f:Dt->En->Mem->yu->Prop) (E:yu):List Dt->En->Mem->Prop
 | [],ρ,M=>E.nx ρ M
 | x::xs,ρ,M=>f x ρ M { E with nx:=eS f E xs,ct:=eS f E xs,bk:=E.nx }
def gX (ρ:En) (tg:List Nat) (x:Dt) (k:En->Prop):Prop :=
 match tg,x with
 | [i],d=>k (ρ.set i (.sh d))
 | [i,j],.tup [d,e]=>k ((ρ.set i (.sh d)).set j (.sh e))
 | _,_=>False
noncomputable def putD (f:Str) (d:Dt):List Str->List Dt->List Str×List Dt
 | [],_=>([f],[d])
 | g::fs,[]=>([f],[d])
 | g::fs,e::ds=>if g=f then (g::fs,d::ds) else let r:=putD f d fs ds;(g::r.1,e::r.2)
def GO (M:Mem):Dt->(Addr->List Dt->Prop)->Prop
 | .fD p,R=>(match M p with | some (.ml ds)=>R p ds | _=>False)
 | _,_=>False
def yv (op:qG) (x y:Dt) (R:Dt->Prop):Prop:=Ed x fun i=>Ed y fun j=>match op with | .add=>R (.int (i+j)) | .sub=>R (.int (i-j)) | _=>False
def ex:S->En->Mem->yu->Prop
 | .skip,ρ,M,E=>E.nx ρ M
 | .seq a r,ρ,M,E=>ex a ρ M { E with nx:=fun ρ' M'=>ex r ρ' M' E }
 | .set k e,ρ,M,E=>ev Γ e ρ M fun x M1=>av x fun d=>E.nx (ρ.set k (.sh d)) M1
 | .fL k f,ρ,M,E=>ev Γ f ρ M fun ds M1=>E.nx (ρ.set k (.ow (.lst ds))) M1
 | .yr k c a,ρ,M,E=>ev Γ a ρ M fun ds M1=>Γ.bA c (.obj c [] []) ds M1 fun d M2=>E.nx (ρ.set k (.ow d)) M2
 | .eM k,ρ,M,E=>cX ρ k fun d=>E.nx (ρ.set k (.sh d)) M
 | .app k e,ρ,M,E=>cX ρ k fun l=>lstK l fun ds=>ev Γ e ρ M fun x M1=>av x fun d=>ds.length<sizeLine/\E.nx (ρ.set k (.ow (.lst (ds++[d])))) M1
 | .ext k e,ρ,M,E=>cX ρ k fun l=>lstK l fun ds=>ev Γ e ρ M fun x M1=>av x fun d=>lstK d fun es=>ds.length+es.length<=sizeLine/\E.nx (ρ.set k (.ow (.lst (ds++es)))) M1
 | .GL a e,ρ,M,E=>ev Γ a ρ M fun x M1=>av x fun x=>GO M1 x fun _ _=>ev Γ e ρ M1 fun y M2=>av y fun y=>GO M2 x fun p ds=>ds.length<sizeLine/\E.nx ρ (aT M2 p (.ml (ds++[y])))
 | .Lv d k e,ρ,M,E=>ev Γ e ρ M fun z M1=>av z fun z=>ev Γ d ρ M1 fun x M2=>av x fun x=>ev Γ k ρ M2 fun y M3=>av y fun y=>yt y fun p=>GN M3 x fun a am=>f6 am p=none/\am.length<sizeLine/\E.nx ρ (aT M3 a (.md (am++[(p,z)])))
 | .eI k f e,ρ,M,E=>ev Γ e ρ M fun x M1=>av x fun d=>cX ρ k fun o=>mF o fun c fs ds=>Γ.at_ c f=true/\fs.length<1000/\E.nx (ρ.set k (.ow (.obj c (putD f d fs ds).1 (putD f d fs ds).2))) M1
 | .aug k op e,ρ,M,E=>mD ρ k fun x=>ev Γ e ρ M fun y M1=>av y fun y=>yv op x y fun d=>E.nx (ρ.set k (.sh d)) M1
 | .ex e,ρ,M,E=>ev Γ e ρ M fun x M1=>av x fun _=>E.nx ρ M1
 | .bA c a,ρ,M,E=>cX ρ 0 fun d=>mF d fun n fs xs=>ev Γ a ρ M fun ds M1=>Γ.bA c (.obj n fs xs) ds M1 fun d' M2=>E.nx (ρ.set 0 (.ow d')) M2
 | .ret e,ρ,M,E=>ev Γ e ρ M fun x M1=>av x fun d=>E.rt d M1
 | .Ad,_,M,E=>E.rt .aK M
 | .brk,ρ,M,E=>E.bk ρ M
 | .cont,ρ,M,E=>E.ct ρ M
 | .never,_,_,_=>False
 | .ite t a b,ρ,M,E=>ev Γ t ρ M fun x M1=>av x fun x=>bI x fun c=>if c=true then ex a ρ M1 E else ex b ρ M1 E
 | .bQ it tg b,ρ,M,E=>ev Γ it ρ M fun items M1=>eS (fun x ρ M E=>gX ρ tg x fun ρ'=>ex b ρ' M E) E items ρ M1
 | .JR t b,ρ,M,E=>∃ W:Nat->En->Mem->Prop,(∃ m,W m ρ M)/\∀ m ρ M,W m ρ M ->
   ev Γ t ρ M fun x M1=>av x fun x=>bI x fun c =>
    if c=true then ex b ρ M1 { E with nx:=fun ρ' M'=>∃ m',m'<m/\W m' ρ' M',ct:=fun ρ' M'=>∃ m',m'<m/\W m' ρ' M',bk:=E.nx }
    else E.nx ρ M1
end
end PV
namespace PV
open PySem L2 SH
section
variable {Γ:Gm}
theorem v_i {n}{ρ M R}:ev Γ (.i n) ρ M R=(R [.int n] M):=rfl
theorem v_s {x}{ρ M R}:ev Γ (.s x) ρ M R=(R [.str x] M):=rfl
theorem v_b {x}{ρ M R}:ev Γ (.b x) ρ M R=(R [.bl x] M):=rfl
theorem v_n {ρ M R}:ev Γ .n ρ M R=(R [.aK] M):=rfl
theorem v_v {k}{ρ M R}:ev Γ (.v k) ρ M R=(mD ρ k fun d=>R [d] M):=rfl
theorem v_o {k}{ρ M R}:ev Γ (.o k) ρ M R=(cX ρ k fun d=>R [d] M):=rfl
theorem v_d {c}{ρ M R}:ev Γ (.d c) ρ M R=(ev Γ c ρ M fun ds M1=>av ds fun d=>GM M1 d fun e=>R [e] M1):=rfl
theorem v_g {k}{ρ M R}:ev Γ (.g k) ρ M R=(R [Γ.cs k] M):=rfl
theorem v_nil {ρ M R}:ev Γ .nil ρ M R=(R [] M):=rfl
theorem v_cons {a}{r}{ρ M R}:ev Γ (.cons a r) ρ M R=(ev Γ a ρ M fun ds M1=>av ds fun d=>ev Γ r ρ M1 fun es M2=>R (d::es) M2):=rfl
theorem v_bin {op}{a}{b}{ρ M R}:ev Γ (.bin op a b) ρ M R=(ev Γ a ρ M fun x M1=>av x fun x=>ev Γ b ρ M1 fun y M2=>av y fun y=>mE op x y fun d=>R [d] M2):=rfl
theorem v_neg {a}{ρ M R}:ev Γ (.neg a) ρ M R=(ev Γ a ρ M fun x M1=>av x fun x=>intD x fun i=>R [.int (-i)] M1):=rfl
theorem v_cmp {op}{a}{b}{ρ M R}:ev Γ (.cmp op a b) ρ M R=(ev Γ a ρ M fun x M1=>av x fun x=>ev Γ b ρ M1 fun y M2=>av y fun y=>je op x y fun c=>R [.bl c] M2):=rfl
theorem v_chn {o1}{o2}{a}{b}{c}{ρ M R}:ev Γ (.Ab o1 o2 a b c) ρ M R=(ev Γ a ρ M fun x M1=>av x fun x=>ev Γ b ρ M1 fun y M2=>av y fun y=>je o1 x y fun k=>if k=true then ev Γ c ρ M2 fun z M3=>av z fun z=>je o2 y z fun k=>R [.bl k] M3 else R [.bl false] M2):=rfl
theorem v_eq {ng}{a}{b}{ρ M R}:ev Γ (.eq ng a b) ρ M R=(ev Γ a ρ M fun x M1=>av x fun x=>ev Γ b ρ M1 fun y M2=>av y fun y=>lX x y fun c=>R [.bl (ng ^^ c)] M2):=rfl
theorem v_inn {ng}{a}{b}{ρ M R}:ev Γ (.wP ng a b) ρ M R=(ev Γ a ρ M fun x M1=>av x fun x=>ev Γ b ρ M1 fun y M2=>av y fun y=>vJ x y fun c=>R [.bl (ng ^^ c)] M2):=rfl
theorem v_ins {a}{b}{ρ M R}:ev Γ (.ins a b) ρ M R=(ev Γ a ρ M fun x M1=>av x fun x=>ev Γ b ρ M1 fun y M2=>av y fun y=>nM x fun i=>nM y fun j=>R [.bl (!(WT j i 0 j.length 1).isEmpty)] M2):=rfl
theorem v_ind {a}{b}{ρ M R}:ev Γ (.ind a b) ρ M R=(ev Γ a ρ M fun x M1=>av x fun x=>ev Γ b ρ M1 fun y M2=>av y fun y=>intD x fun i=>match y with | .BG ks=>R [.bl (ks.contains i)] M2 | _=>False):=rfl
theorem v_one {a}{ρ M R}:ev Γ (.one a) ρ M R=(ev Γ a ρ M R):=rfl
theorem v_and {a}{b}{ρ M R}:ev Γ (.and a b) ρ M R=(ev Γ a ρ M fun x M1=>av x fun x=>bI x fun c=>if c=true then ev Γ b ρ M1 R else R [.bl false] M1):=rfl
theorem v_or {a}{b}{ρ M R}:ev Γ (.or a b) ρ M R=(ev Γ a ρ M fun x M1=>av x fun x=>bI x fun c=>if c=true then R [.bl true] M1 else ev Γ b ρ M1 R):=rfl
theorem v_not {a}{ρ M R}:ev Γ (.not a) ρ M R=(ev Γ a ρ M fun x M1=>av x fun x=>bI x fun c=>R [.bl (!c)] M1):=rfl
theorem v_tr {a}{ρ M R}:ev Γ (.tr a) ρ M R=(ev Γ a ρ M fun x M1=>av x fun x=>CT x fun c=>R [.bl c] M1):=rfl
theorem v_ife {t}{a}{b}{ρ M R}:ev Γ (.GG t a b) ρ M R=(ev Γ t ρ M fun x M1=>av x fun x=>bI x fun c=>if c=true then ev Γ a ρ M1 R else ev Γ b ρ M1 R):=rfl
theorem v_tup {a}{ρ M R}:ev Γ (.tup a) ρ M R=(ev Γ a ρ M fun ds M1=>ds.length<=sizeLine/\R [.tup ds] M1):=rfl
theorem v_fr {f}{ρ M R}:ev Γ (.fr f) ρ M R=(ev Γ f ρ M fun ds M1=>R [.lst ds] M1):=rfl
theorem v_nlh {f}{ρ M R}:ev Γ (.CO f) ρ M R=(ev Γ f ρ M fun ds M1=>∀ a,M1 a=none->R [.fD a] (aT M1 a (.ml ds))):=rfl
theorem v_ndh {ρ M R}:ev Γ .GH ρ M R=(∀ a,M a=none->R [.fD a] (aT M a (.md []))):=rfl
theorem v_dsp {a}{ρ M R}:ev Γ (.jd a) ρ M R=(ev Γ a ρ M fun ds M1=>ds.length<=sizeLine/\R ds M1):=rfl
theorem v_lof {a}{ρ M R}:ev Γ (.yQ a) ρ M R=(ev Γ a ρ M fun x M1=>av x fun x=>eJ (ka x) fun ds=>R ds M1):=rfl
theorem v_slc {a}{lo}{hi}{ρ M R}:ev Γ (.Ac a lo hi) ρ M R=(ev Γ a ρ M fun x M1=>av x fun x=>ev Γ lo ρ M1 fun l M2=>ij l fun l=>ev Γ hi ρ M2 fun h M3=>ij h fun h=>eJ (jc x) fun ds=>R (cutD ds l h) M3):=rfl
theorem v_cat {a}{b}{ρ M R}:ev Γ (.cat a b) ρ M R=(ev Γ a ρ M fun x M1=>av x fun x=>ev Γ b ρ M1 fun y M2=>av y fun y=>lstK x fun ds=>lstK y fun es=>ds.length+es.length<=sizeLine/\R (ds++es) M2):=rfl
theorem v_lrg {a}{b}{ρ M R}:ev Γ (.GI a b) ρ M R=(ev Γ a ρ M fun x M1=>av x fun x=>ev Γ b ρ M1 fun y M2=>av y fun y=>intD x fun i=>intD y fun j=>yS i/\yS j/\(j-i).toNat<=900/\R (bJ i (j-i).toNat) M2):=rfl
theorem v_lr1 {a}{ρ M R}:ev Γ (.GJ a) ρ M R=(ev Γ a ρ M fun x M1=>av x fun x=>intD x fun j=>yS j/\j.toNat<=900/\R (bJ 0 j.toNat) M1):=rfl
theorem v_comp {it:C}{w:Nat}{ix:List Nat}{t:C}{e:C}{ρ M R}:ev Γ (.comp it w ix t e) ρ M R=(ev Γ it ρ M fun items M1=>items.length<=sizeLine/\dk (fun x M K=>wQ ρ w ix x fun ρ'=>ev Γ t ρ' M fun c M1=>av c fun c=>bI c fun c=>if c=true then ev Γ e ρ' M1 fun d M2=>av d fun d=>K (some d) M2 else K none M1) items M1 R):=rfl
theorem v_comq {it:C}{ix:List Nat}{t:C}{e:C}{ρ M R}:ev Γ (.yq it ix t e) ρ M R=(ev Γ it ρ M fun items M1=>items.length<=sizeLine/\dk (fun x M K=>wQ ρ 1 ix x fun ρ'=>ev Γ t ρ' M fun c M1=>av c fun c=>bI c fun c=>if c=true then ev Γ e ρ' M1 fun d M2=>av d fun d=>K (some d) M2 else K none M1) items M1 R):=rfl
theorem v_itl {a}{ρ M R}:ev Γ (.eH a) ρ M R=(ev Γ a ρ M fun x M1=>av x fun x=>BI x fun ds=>R ds M1):=rfl
theorem v_rg1 {a}{ρ M R}:ev Γ (.kP a) ρ M R=(ev Γ a ρ M fun x M1=>av x fun x=>intD x fun j=>yS j/\R (bJ 0 j.toNat) M1):=rfl
theorem v_rg2 {a}{b}{ρ M R}:ev Γ (.Eb a b) ρ M R=(ev Γ a ρ M fun x M1=>av x fun x=>ev Γ b ρ M1 fun y M2=>av y fun y=>intD x fun i=>intD y fun j=>yS i/\yS j/\R (bJ i (j-i).toNat) M2):=rfl
theorem v_rev {a}{ρ M R}:ev Γ (.rev a) ρ M R=(ev Γ a ρ M fun x M1=>av x fun x=>intD x fun j=>0<=j/\j<=1000/\R (bJ 0 j.toNat).reverse M1):=rfl
theorem v_enu {a}{ρ M R}:ev Γ (.CP a) ρ M R=(ev Γ a ρ M fun x M1=>av x fun x=>eJ (pA x) fun ds=>R (ds.zipIdx.map fun p=>.tup [.int p.2,p.1]) M1):=rfl
theorem v_zip {a}{b}{ρ M R}:ev Γ (.zip a b) ρ M R=(ev Γ a ρ M fun x M1=>av x fun x=>ev Γ b ρ M1 fun y M2=>av y fun y=>eJ (mC x) fun ds=>eJ (mC y) fun es=>R ((ds.zip es).map fun p=>.tup [p.1,p.2]) M2):=rfl
theorem v_ix {a}{k}{ρ M R}:ev Γ (.ix a k) ρ M R=(ev Γ a ρ M fun x M1=>av x fun x=>ev Γ k ρ M1 fun y M2=>av y fun y=>intD y fun i=>iW x i fun d=>R [d] M2):=rfl
theorem v_slt {a}{lo}{hi}{ρ M R}:ev Γ (.slt a lo hi) ρ M R=(ev Γ a ρ M fun x M1=>av x fun x=>ev Γ lo ρ M1 fun l M2=>ij l fun l=>ev Γ hi ρ M2 fun h M3=>ij h fun h=>eJ (mC x) fun ds=>R [.pz (cutD ds l h)] M3):=rfl
theorem v_sls {a}{lo}{hi}{ρ M R}:ev Γ (.CQ a lo hi) ρ M R=(ev Γ a ρ M fun x M1=>av x fun x=>ev Γ lo ρ M1 fun l M2=>ij l fun l=>ev Γ hi ρ M2 fun h M3=>ij h fun h=>nM x fun z=>z.length<=sizeLine/\R [.str (Xs z l h)] M3):=rfl
theorem v_fld {a:C}{f:Str}{ρ M R}:ev Γ (.fld a f) ρ M R=(ev Γ a ρ M fun x M1=>av x fun x=>eK Γ f x fun d=>R [d] M1):=rfl
theorem v_call {f:Nat}{a:C}{ρ M R}:ev Γ (.call f a) ρ M R=(ev Γ a ρ M fun ds M1=>Γ.fn f ds M1 fun d M2=>R [d] M2):=rfl
theorem v_meth {m:Nat}{r:C}{a:C}{ρ M R}:ev Γ (.br m r a) ρ M R=(ev Γ r ρ M fun x M1=>av x fun x=>eL M1 x fun c fs=>Γ.hm m c fs=true/\ev Γ a ρ M1 fun ds M2=>Γ.me m (x::ds) M2 fun d M3=>R [d] M3):=rfl
theorem v_mk {c:Nat}{a:C}{ρ M R}:ev Γ (.mk c a) ρ M R=(ev Γ a ρ M fun ds M1=>Γ.bA c (.obj c [] []) ds M1 fun d M2=>R [d] M2):=rfl
theorem v_mkh {c:Nat}{a:C}{ρ M R}:ev Γ (.JQ c a) ρ M R=(ev Γ a ρ M fun ds M1=>Γ.bA c (.obj c [] []) ds M1 fun d M2=>mF d fun c' fs xs=>∀ p,M2 p=none->R [.fD p] (aT M2 p (.mo c' fs xs))):=rfl
theorem v_len {a}{ρ M R}:ev Γ (.len a) ρ M R=(ev Γ a ρ M fun x M1=>av x fun x=>pC x fun n=>R [.int n] M1):=rfl
theorem v_isi {a:C}{t:Nat}{ρ M R}:ev Γ (.tV a t) ρ M R=(ev Γ a ρ M fun x M1=>av x fun x=>isiD t x fun c=>R [.bl c] M1):=rfl
theorem v_all {a}{ρ M R}:ev Γ (.all a) ρ M R=(ev Γ a ρ M fun x M1=>av x fun x=>∃ bs:List Bool,x=.lst (bs.map .bl)/\R [.bl (bs.all id)] M1):=rfl
theorem v_any {a}{ρ M R}:ev Γ (.any a) ρ M R=(ev Γ a ρ M fun x M1=>av x fun x=>∃ bs:List Bool,x=.lst (bs.map .bl)/\R [.bl (bs.any id)] M1):=rfl
theorem v_int1 {a}{ρ M R}:ev Γ (.mB a) ρ M R=(ev Γ a ρ M fun x M1=>av x fun x=>bI x fun c=>R [.int (if c then 1 else 0)] M1):=rfl
theorem v_min2 {a}{b}{ρ M R}:ev Γ (.min2 a b) ρ M R=(ev Γ a ρ M fun x M1=>av x fun x=>ev Γ b ρ M1 fun y M2=>av y fun y=>intD x fun i=>intD y fun j=>R [.int (if j<i then j else i)] M2):=rfl
theorem v_max2 {a}{b}{ρ M R}:ev Γ (.max2 a b) ρ M R=(ev Γ a ρ M fun x M1=>av x fun x=>ev Γ b ρ M1 fun y M2=>av y fun y=>intD x fun i=>intD y fun j=>R [.int (if j>i then j else i)] M2):=rfl
theorem v_tpl {a}{ρ M R}:ev Γ (.yR a) ρ M R=(ev Γ a ρ M fun x M1=>av x fun x=>eJ (jc x) fun ds=>R [.tup ds] M1):=rfl
theorem v_tpf {a}{ρ M R}:ev Γ (.Ec a) ρ M R=(ev Γ a ρ M fun x M1=>av x fun x=>eJ (jc x) fun ds=>R [.fE ds] M1):=rfl
theorem v_cnt {a}{b}{ρ M R}:ev Γ (.cnt a b) ρ M R=(ev Γ a ρ M fun x M1=>av x fun x=>CU x fun ds=>ev Γ b ρ M1 fun y M2=>av y fun y=>kb y=true/\ds.all kb=true/\R [.int (ds.countP fun z=>JS z y:Nat)] M2):=rfl
theorem v_dct {a}{ρ M R}:ev Γ (.yc a) ρ M R=(ev Γ a ρ M fun x M1=>av x fun x=>∃ ks:List Int,x=.lst (ks.map fun k=>.tup [.int k,.bl true])/\ks.length<=900/\R [.BG ks] M1):=rfl
theorem v_dnt {k}{d}{ρ M R}:ev Γ (.CS k d) ρ M R=(ev Γ k ρ M fun x M1=>av x fun x=>ev Γ d ρ M1 fun y M2=>av y fun y=>yt x fun p=>GN M2 y fun _ am=>R [.bl (f6 am p).isNone] M2):=rfl
theorem v_dgt {d}{k}{ρ M R}:ev Γ (.GK d k) ρ M R=(ev Γ d ρ M fun x M1=>av x fun x=>ev Γ k ρ M1 fun y M2=>av y fun y=>yt y fun p=>GN M2 x fun _ am=>∃ v,f6 am p=some v/\R [v] M2):=rfl
end
section
variable {Γ:Gm}{ρ:En}{M:Mem}{E:yu}{d e:Dt}{ds es:List Dt}{i j:Int}{x y:Str}{b:Bool}{k:Nat}{s:Sl}{c:C}
theorem rd_r1 {K:Dt->Prop}:av [d] K=K d:=rfl
theorem rd_r2 {K:Bool->Prop}:bI (.bl b) K=K b:=rfl
theorem rd_r3 {K:Int->Prop}:intD (.int i) K=K i:=rfl
theorem rd_r4 {K:Str->Prop}:nM (.str x) K=K x:=rfl
theorem rd_r5 {K:Dt->Prop}:mD (.sh d::ρ) 0 K=K d:=rfl
theorem rd_r6 {K:Dt->Prop}:mD (s::ρ) (k+1) K=mD ρ k K:=rfl
theorem rd_r7 {K:Dt->Prop}:cX (.ow d::ρ) 0 K=K d:=rfl
theorem rd_r8 {K:Dt->Prop}:cX (s::ρ) (k+1) K=cX ρ k K:=rfl
theorem rd_r9 {K:List Dt->Prop}:eJ (some ds) K=K ds:=rfl
theorem rd_r10:ka (.lst ds)=some ds:=rfl
theorem rd_r11:ka (.nL ds)=some ds:=rfl
theorem rd_r12:ka (.tup ds)=some ds:=rfl
theorem rd_r13:ka (.fE ds)=some ds:=rfl
theorem rd_r14:ka (.uY ds)=some ds:=rfl
theorem rd_r15:jc (.lst ds)=some ds:=rfl
theorem rd_r16:jc (.nL ds)=some ds:=rfl
theorem rd_r17:pA (.tup ds)=some ds:=rfl
theorem rd_r18:pA (.fE ds)=some ds:=rfl
theorem rd_r19:pA (.uY ds)=some ds:=rfl
theorem rd_r20:pA (.pz ds)=some ds:=rfl
theorem rd_r21:ka (.pz ds)=some ds:=rfl
theorem rd_r22:mC (.tup ds)=some ds:=rfl
theorem rd_r23:mC (.fE ds)=some ds:=rfl
theorem rd_r24:mC (.pz ds)=some ds:=rfl
theorem rd_b1 {R:Dt->Prop}:mE .add (.int i) (.int j) R=R (.int (i+j)):=rfl
theorem rd_b2 {R:Dt->Prop}:mE .add (.str x) (.str y) R=(x.length+y.length<=sizeLine/\R (.str (x++y))):=rfl
theorem rd_b3 {R:Dt->Prop}:mE .sub (.int i) (.int j) R=R (.int (i-j)):=rfl
theorem rd_b4 {R:Dt->Prop}:mE .mul (.int i) (.int j) R=(xO i j/\R (.int (i*j))):=rfl
theorem rd_b5 {R:Dt->Prop}:mE .fdiv (.int i) (.int j) R=(B4 i j/\R (.int (i / j))):=rfl
theorem rd_b6 {R:Dt->Prop}:mE .mod (.int i) (.int j) R=(0<j/\R (.int (i % j))):=rfl
theorem rd_b7 {R:Dt->Prop}:mE .pow (.int i) (.int j) R=(B5 i j/\R (.int (i ^ j.toNat))):=rfl
theorem rd_b8 {R:Dt->Prop}:mE .shr (.int i) (.int j) R=(0<=j/\R (.int (i / 2 ^ j.toNat))):=rfl
theorem rd_c1 {R:Bool->Prop}:je .lt (.int i) (.int j) R=R (decide (i<j)):=rfl
theorem rd_c2 {R:Bool->Prop}:je .le (.int i) (.int j) R=R (decide (i<=j)):=rfl
theorem rd_c3 {R:Bool->Prop}:je .gt (.int i) (.int j) R=R (decide (j<i)):=rfl
theorem rd_c4 {R:Bool->Prop}:je .ge (.int i) (.int j) R=R (decide (j<=i)):=rfl
theorem rd_e1 {R:Bool->Prop}:lX (.int i) (.int j) R=R (decide (i=j)):=rfl
theorem rd_e2 {R:Bool->Prop}:lX (.str x) (.str y) R=R (decide (x=y)):=rfl
theorem rd_e3 {b':Bool}{R:Bool->Prop}:lX (.bl b) (.bl b') R=R (decide (b=b')):=rfl
theorem rd_l1 {R:Nat->Prop}:pC (.str x) R=(x.length<=sizeLine/\R x.length):=rfl
theorem rd_l2 {R:Nat->Prop}:pC (.lst ds) R=R ds.length:=rfl
theorem rd_l3 {R:Nat->Prop}:pC (.nL ds) R=R ds.length:=rfl
theorem rd_l4 {R:Nat->Prop}:pC (.tup ds) R=R ds.length:=rfl
theorem rd_l5 {R:Nat->Prop}:pC (.fE ds) R=R ds.length:=rfl
theorem rd_l6 {R:Nat->Prop}:pC (.uY ds) R=R ds.length:=rfl
theorem rd_l7 {R:Nat->Prop}:pC (.pz ds) R=R ds.length:=rfl
theorem rd_t1 {R:Bool->Prop}:CT (.bl b) R=R b:=rfl
theorem rd_t2 {R:Bool->Prop}:CT (.lst ds) R=R (!ds.isEmpty):=rfl
theorem rd_x1 {R:Dt->Prop}:iW (.str x) i R=(x.length<=sizeLine/\∃ c,pi x.cps.toList i=some c/\R (.str ⟨#[c]⟩)):=rfl
theorem rd_x2 {R:Dt->Prop}:iW (.lst ds) i R=atK ds i R:=rfl
theorem rd_x3 {R:Dt->Prop}:iW (.nL ds) i R=atK ds i R:=rfl
theorem rd_x4 {R:Dt->Prop}:iW (.tup ds) i R=atK ds i R:=rfl
theorem rd_x5 {R:Dt->Prop}:iW (.fE ds) i R=atK ds i R:=rfl
theorem rd_x6 {R:Dt->Prop}:iW (.uY ds) i R=atK ds i R:=rfl
theorem rd_x8 {R:Dt->Prop}:iW (.pz ds) i R=atK ds i R:=rfl
theorem rd_x7 {c:Nat}{f:Str}{fs:List Str}{R:Dt->Prop}:eK Γ f (.obj c fs ds) R=(Γ.at_ c f=true/\∃ d,(fs.zip ds).lookup f=some d/\R d):=rfl
theorem rd_o1 {R:k_ Int->Prop}:ij [] R=R none:=rfl
theorem rd_o2 {R:k_ Int->Prop}:ij [.int i] R=R (some i):=rfl
theorem rd_k1 {ix:List Nat}{K:En->Prop}:wQ ρ 1 ix d K=K (.sh d::ix.map (fZ ρ)):=rfl
theorem rd_k2 {ix:List Nat}{K:En->Prop}:wQ ρ 2 ix (.tup [d,e]) K=K (.sh d::.sh e::ix.map (fZ ρ)):=rfl
theorem rd_k3:fZ (.sh d::ρ) 0=.sh d:=rfl
theorem rd_k4:fZ (s::ρ) (k+1)=fZ ρ k:=rfl
theorem rd_m1 {R:List Dt->Prop}:BI (.str x) R=R (rN x):=rfl
theorem rd_m2 {R:List Dt->Prop}:BI (.lst ds) R=R ds:=rfl
theorem rd_m3 {R:List Dt->Prop}:BI (.nL ds) R=R ds:=rfl
theorem rd_m4 {R:List Dt->Prop}:BI (.tup ds) R=R ds:=rfl
theorem rd_m5 {R:List Dt->Prop}:BI (.fE ds) R=R ds:=rfl
theorem rd_m6 {R:List Dt->Prop}:BI (.uY ds) R=R ds:=rfl
theorem rd_m7 {R:List Dt->Prop}:BI (.pz ds) R=R ds:=rfl
theorem rd_n1 {i:Nat}{K:En->Prop}:gX ρ [i] d K=K (ρ.set i (.sh d)):=rfl
theorem rd_n2 {i j:Nat}{d':Dt}{K:En->Prop}:gX ρ [i,j] (.tup [d,d']) K=K ((ρ.set i (.sh d)).set j (.sh d')):=rfl
theorem rd_n3 {R:List Dt->Prop}:lstK (.lst ds) R=R ds:=rfl
theorem rd_n4 {c:Nat}{fs:List Str}{R:Nat->List Str->List Dt->Prop}:mF (.obj c fs ds) R=R c fs ds:=rfl
theorem rd_n5 {R:Dt->Prop}:yv .add (.int i) (.int j) R=R (.int (i+j)):=rfl
theorem rd_n6 {R:Dt->Prop}:yv .sub (.int i) (.int j) R=R (.int (i-j)):=rfl
theorem rd_n7 {R:List Dt->Prop}:CU (.fE ds) R=R ds:=rfl
theorem rd_n8 {c:Nat}{fs:List Str}{R:Nat->List Str->Prop}:eL M (.obj c fs ds) R=R c fs:=rfl
variable {a r:S}{f:C}
theorem rd_s1:ex Γ .skip ρ M E=E.nx ρ M:=rfl
theorem rd_s2:ex Γ (.set k c) ρ M E=ev Γ c ρ M fun x M1=>av x fun d=>E.nx (ρ.set k (.sh d)) M1:=rfl
theorem rd_s3:ex Γ (.fL k f) ρ M E=ev Γ f ρ M fun ds M1=>E.nx (ρ.set k (.ow (.lst ds))) M1:=rfl
theorem rd_s4 {q:Nat}:ex Γ (.yr k q c) ρ M E=ev Γ c ρ M fun ds M1=>Γ.bA q (.obj q [] []) ds M1 fun d M2=>E.nx (ρ.set k (.ow d)) M2:=rfl
theorem rd_s5:ex Γ (.eM k) ρ M E=cX ρ k fun d=>E.nx (ρ.set k (.sh d)) M:=rfl
theorem rd_s6:ex Γ (.app k c) ρ M E=cX ρ k fun l=>lstK l fun ds=>ev Γ c ρ M fun x M1=>av x fun d=>ds.length<sizeLine/\E.nx (ρ.set k (.ow (.lst (ds++[d])))) M1:=rfl
theorem rd_s7:ex Γ (.ext k c) ρ M E=cX ρ k fun l=>lstK l fun ds=>ev Γ c ρ M fun x M1=>av x fun d=>lstK d fun es=>ds.length+es.length<=sizeLine/\E.nx (ρ.set k (.ow (.lst (ds++es)))) M1:=rfl
theorem rd_s8 {h:C}:ex Γ (.GL h c) ρ M E=ev Γ h ρ M fun x M1=>av x fun x=>GO M1 x fun _ _=>ev Γ c ρ M1 fun y M2=>av y fun y=>GO M2 x fun p ds=>ds.length<sizeLine/\E.nx ρ (aT M2 p (.ml (ds++[y]))):=rfl
theorem rd_s9 {f:Str}:ex Γ (.eI k f c) ρ M E=ev Γ c ρ M fun x M1=>av x fun d=>cX ρ k fun o=>mF o fun c fs ds=>Γ.at_ c f=true/\fs.length<1000/\E.nx (ρ.set k (.ow (.obj c (putD f d fs ds).1 (putD f d fs ds).2))) M1:=rfl
theorem rd_s10 {op:qG}:ex Γ (.aug k op c) ρ M E=mD ρ k fun x=>ev Γ c ρ M fun y M1=>av y fun y=>yv op x y fun d=>E.nx (ρ.set k (.sh d)) M1:=rfl
theorem rd_s11:ex Γ (.ex c) ρ M E=ev Γ c ρ M fun x M1=>av x fun _=>E.nx ρ M1:=rfl
theorem rd_s12 {q:Nat}:ex Γ (.bA q c) ρ M E=cX ρ 0 fun d=>mF d fun n fs xs=>ev Γ c ρ M fun ds M1=>Γ.bA q (.obj n fs xs) ds M1 fun d' M2=>E.nx (ρ.set 0 (.ow d')) M2:=rfl
theorem rd_s13:ex Γ (.ret c) ρ M E=ev Γ c ρ M fun x M1=>av x fun d=>E.rt d M1:=rfl
theorem rd_s14:ex Γ .Ad ρ M E=E.rt .aK M:=rfl
theorem rd_s15:ex Γ .brk ρ M E=E.bk ρ M:=rfl
theorem rd_s16:ex Γ (.ite c a r) ρ M E=ev Γ c ρ M fun x M1=>av x fun x=>bI x fun c=>if c=true then ex Γ a ρ M1 E else ex Γ r ρ M1 E:=rfl
theorem rd_s17 {tg:List Nat}:ex Γ (.bQ c tg a) ρ M E=ev Γ c ρ M fun items M1=>eS (fun x ρ M E=>gX ρ tg x fun ρ'=>ex Γ a ρ' M E) E items ρ M1:=rfl
theorem sqo (h:∀ N,N=(fun ρ' M'=>ex Γ r ρ' M' E)->ex Γ a ρ M { E with nx:=N }):ex Γ (.seq a r) ρ M E:=h _ rfl
theorem aC {f:Dt->En->Mem->yu->Prop}{items:List Dt} (Iv:Nat->En->Mem->Prop) (h0:Iv 0 ρ M)
  (hs:∀ (i:Nat) x ρ M (N:En->Mem->Prop),items[i]? = some x->Iv i ρ M->(∀ ρ' M',Iv (i+1) ρ' M'->N ρ' M')->f x ρ M { E with nx:=N,ct:=N,bk:=E.nx }) (hd:∀ ρ M,Iv items.length ρ M->E.nx ρ M):eS f E items ρ M:=by
 suffices ∀ (n:Nat) (l:List Dt),l=items.drop n->n<=items.length->∀ ρ M,Iv n ρ M->eS f E l ρ M from this 0 items rfl (Xo _) ρ M h0
 intro n l
 induction l generalizing n with
 | nil =>
  intro e hn ρ M h;have:items.length<=n:=List.drop_eq_nil_iff.mp e.symm;have:n=items.length:=by omega
  subst this;exact hd ρ M h
 | cons x xs ih =>
  intro e hn ρ M h
  have hx:items[n]? = some x:=by
   have:=congrArg (fun l=>l[0]?) e;simpa using this.symm
  have j3:n<items.length:=(j_.mp hx).1
  have e':xs=items.drop (n+1):=by
   have:=congrArg List.tail e;simpa [List.tail_drop] using this
  exact hs n x ρ M _ hx h fun ρ' M' h'=>ih (n+1) e' j3 ρ' M' h'
theorem aD {lo:Int}{n i:Nat}{x:Dt} (h:(bJ lo n)[i]? = some x):i<n/\x=.int (lo+i):=by
 unfold bJ at h;rw[g_] at h;obtain⟨k,hk,rfl⟩:=m_.mp h;obtain⟨h1,h2⟩:=j_.mp hk;rw[Wc] at h1;rw[abt] at h2;subst h2;exact⟨h1,rfl⟩
theorem aj {lo:Int}{n:Nat}:(bJ lo n).length=n:=by unfold bJ;rw[a_,Wc]
theorem comp_map {f:Dt->Mem->(k_ Dt->Mem->Prop)->Prop}{R:Rt} (g:Dt->Dt):∀ {items:List Dt},(∀ x∈items,∀ K,K (some (g x)) M->f x M K)->R (items.map g) M->dk f items M R
 | [],_,h=>h
 | x::xs,hf,h=>hf x V_ _ (comp_map g (fun y hy=>hf y (I_ _ hy)) h)
theorem bK {f:Dt->Mem->(k_ Dt->Mem->Prop)->Prop}{R:Rt} (g:Dt->k_ Dt):∀ {items:List Dt},(∀ x∈items,∀ K,K (g x) M->f x M K)->R (items.filterMap g) M->dk f items M R
 | [],_,h=>h
 | x::xs,hf,h=>by
  refine hf x V_ _ (bK g (fun y hy=>hf y (I_ _ hy)) ?_);rw[Wh] at h
  cases e:g x with
  | none=>rw[e] at h;exact h
  | some d=>rw[e] at h;exact h
end
end PV
namespace PV
open PySem L2 SH
theorem _root_.L2.PE.imp {X:Cx}{e:Expr}{t t':TE} (h:PE X e t) (i:∀ σ H Q,t' σ H Q->t σ H Q):PE X e t':=fun pins s σ H Q I q=>h pins s σ H Q I (i σ H Q q)
theorem _root_.L2.PT.imp {X:Cx}{e:Expr}{t t':TT} (h:PT X e t) (i:∀ σ H Q,t' σ H Q->t σ H Q):PT X e t':=fun pins s σ H Q I q=>h pins s σ H Q I (i σ H Q q)
theorem _root_.L2.PW.imp {X:Cx}{e:Expr}{t t':TT} (h:PW X e t) (i:∀ σ H Q,t' σ H Q->t σ H Q):PW X e t':=fun wh pins s σ H Q I q=>h wh pins s σ H Q I (i σ H Q q)
theorem _root_.L2.PA.imp {X:Cx}{e:List Expr}{t t':TA} (h:PA X e t) (i:∀ σ H Q,t' σ H Q->t σ H Q):PA X e t':=fun pos pins s σ H Q I q=>h pos pins s σ H Q I (i σ H Q q)
theorem _root_.L2.PO.imp {X:Cx}{e:k_ Expr}{t t':TO} (h:PO X e t) (i:∀ σ H Q,t' σ H Q->t σ H Q):PO X e t':=fun pins s σ H Q I q=>h pins s σ H Q I (i σ H Q q)
theorem _root_.L2.PI.imp {X:Cx}{tg e:Expr}{t t':TI} (h:PI X tg e t) (i:∀ σ H Q,t' σ H Q->t σ H Q):PI X tg e t':=fun pins s σ H Q I q=>h pins s σ H Q I (i σ H Q q)
theorem _root_.L2.PS.imp {X:Cx}{e:Stmt}{t t':TS} (h:PS X e t) (i:∀ D σ H,t' D σ H->t D σ H):PS X e t':=fun pins s σ H D I q=>h pins s σ H D I (i D σ H q)
theorem _root_.L2.lL.imp {X:Cx}{e:List Stmt}{t t':TS} (h:lL X e t) (i:∀ D σ H,t' D σ H->t D σ H):lL X e t':=fun pins s σ H D I q=>h pins s σ H D I (i D σ H q)
def dG (K:e_) (cl:Cl) (G H:Hp) (d:Dt) (v:V):Prop:=Is K cl G d v∨∃ a o,v=.ref a/\GF d=some o/\b6 K cl G H a o
def kO (k:k_ Int->Mem->Prop):Rt:=fun ds M=>ij ds fun o=>k o M
def kB (k:Bool->Mem->Prop):Rt:=fun x M=>av x fun x=>bI x fun b=>k b M
def JT (K:e_) (cl:Cl) (G H:Hp) (M:Mem) (d:Dt) (v:V):Prop:=Is K cl G d v∨∃ a o,v=.ref a/\GF d=some o/\M a=none/\b6 K cl G H a o
section
variable (K:e_) (cl:Cl) (Γ:Gm) (c:C)
inductive tp (σ:St) (H:Hp) (Q:VK):Prop where
 | mk (B:Bs) (ρ:En) (M:Mem) (G:Hp) (R:Rt):Rep K cl B ρ M σ H G->ev Γ c ρ M R->(∀ d v M' G' H',bq K cl none G H M G' H' M'->Is K cl G' d v->R [d] M'->Q v H')->tp σ H Q
inductive tq (σ:St) (H:Hp) (Q:VK):Prop where
 | mk (B:Bs) (ρ:En) (M:Mem) (G:Hp) (R:Rt):Rep K cl B ρ M σ H G->ev Γ c ρ M R->(∀ d v M' G' H',bq K cl none G H M G' H' M'->dG K cl G' H' d v->R [d] M'->Q v H')->tq σ H Q
inductive tr (σ:St) (H:Hp) (Q:VK):Prop where
 | mk (B:Bs) (ρ:En) (M:Mem) (G:Hp) (R:Rt):Rep K cl B ρ M σ H G->ev Γ c ρ M R->(∀ d v M' G' H',bq K cl none G H M G' H' M'->JT K cl G' H' M' d v->R [d] M'->Q v H')->tr σ H Q
inductive ta (σ:St) (H:Hp) (Q:List V->Hp->Prop):Prop where
 | mk (B:Bs) (ρ:En) (M:Mem) (G:Hp) (R:Rt):Rep K cl B ρ M σ H G->ev Γ c ρ M R->(∀ ds vs M' G' H',bq K cl none G H M G' H' M'->IsL K cl G' ds vs->R ds M'->Q vs H')->ta σ H Q
inductive tf (σ:St) (H:Hp) (Q:VK):Prop where
 | mk (B:Bs) (ρ:En) (M:Mem) (G:Hp) (R:Rt):Rep K cl B ρ M σ H G->ev Γ c ρ M R->(∀ ds vs M' G' H' p,bq K cl none G H M G' H' M'->H' p=none->IsL K cl G' ds vs->R ds M'->Q (.ref p) (upd H' p (.lst vs)))->tf σ H Q
inductive tt (σ:St) (H:Hp) (Q:Bool->Hp->Prop):Prop where
 | mk (B:Bs) (ρ:En) (M:Mem) (G:Hp) (k:Bool->Mem->Prop):Rep K cl B ρ M σ H G->ev Γ c ρ M (kB k)->(∀ b M' G' H',bq K cl none G H M G' H' M'->k b M'->Q b H')->tt σ H Q
inductive to (σ:St) (H:Hp) (Q:k_ Int->Hp->Prop):Prop where
 | mk (B:Bs) (ρ:En) (M:Mem) (G:Hp) (k:k_ Int->Mem->Prop):Rep K cl B ρ M σ H G->ev Γ c ρ M (kO k)->(∀ o M' G' H',bq K cl none G H M G' H' M'->k o M'->Q o H')->to σ H Q
def tW (J:It) (items:List Dt) (G:Hp):Prop:=∀ (i:Nat) (G' H:Hp) (M:Mem),ah G G'->ah G' H->bW K cl G' H M ->
 (i<items.length->J.go i H/\∀ x H',J.JI i H x H'->∃ d Sn,items[i]? = some d/\Is K cl Sn d x/\bq K cl none G' H M Sn H' M)/\(i=items.length->J.stop i H)
inductive yT (σ:St) (H:Hp) (Q:It->Hp->Prop):Prop where
 | mk (B:Bs) (ρ:En) (M:Mem) (G:Hp) (R:Rt):Rep K cl B ρ M σ H G->ev Γ c ρ M R->(∀ items M' G' H' J,bq K cl none G H M G' H' M'->tW K cl J items G'->R items M'->Q J H')->yT σ H Q
end
section
variable {K:e_}{cl:Cl}{Γ:Gm}{c ca cb cc:C}{σ:St}{H:Hp}{Q:VK}{X:Cx}{e a b:Expr}
theorem dG.BH {G H:Hp}{d:Dt}{v:V}{ds:List Dt} (s:ah G H) (h:dG K cl G H d v) (e:jc d=some ds):∃ a vs,v=.ref a/\du K H a vs/\IsL K cl G ds vs:=by
 rcases h with h | ⟨a,o,rfl,ho,hc⟩
 ·obtain⟨a,vs,h1,h2,h3⟩:=h.BH e;exact⟨a,vs,h1,h2.same s,h3⟩
 ·cases d<;>first | (cases e;done) | skip
  ·cases e;cases ho
   obtain⟨vs,h1,h2⟩:=hc;exact⟨a,vs,rfl,du.of h1,h2⟩
  ·cases ho
theorem dG.JP {G H:Hp}{d:Dt}{v:V}{ds:List Dt} (s:ah G H) (h:dG K cl G H d v) (e:pA d=some ds):∃ a vs,v=.ref a/\eG K H a vs/\IsL K cl G ds vs:=by
 rcases h with h | ⟨a,o,rfl,ho,hc⟩
 ·obtain⟨a,vs,h1,h2,h3⟩:=h.JP e;exact⟨a,vs,h1,h2.same s,h3⟩
 ·cases d<;>first | (cases e;done) | (cases ho;done)
theorem dG.seq {G H:Hp}{d:Dt}{v:V}{ds:List Dt} (s:ah G H) (h:dG K cl G H d v) (e:ka d=some ds):∃ a vs,v=.ref a/\(du K H a vs∨eG K H a vs)/\IsL K cl G ds vs:=by
 unfold ka at e
 cases q:jc d with
 | some es =>
  rw[q] at e;cases e;obtain⟨a,vs,h1,h2,h3⟩:=h.BH s q;exact⟨a,vs,h1,.inl h2,h3⟩
 | none =>
  rw[q] at e;obtain⟨a,vs,h1,h2,h3⟩:=h.JP s e;exact⟨a,vs,h1,.inr h2,h3⟩
theorem dG.int {G H:Hp}{i:Int}{v:V} (h:dG K cl G H (.int i) v):v=.int i:=by
 rcases h with h | ⟨a,o,_,ho,_⟩
 ·unfold Is at h;exact h
 ·cases ho
theorem dG.str {G H:Hp}{i:Str}{v:V} (h:dG K cl G H (.str i) v):v=.str i:=by
 rcases h with h | ⟨a,o,_,ho,_⟩
 ·unfold Is at h;exact h
 ·cases ho
theorem dG.bl {G H:Hp}{i:Bool}{v:V} (h:dG K cl G H (.bl i) v):v=.bl i:=by
 rcases h with h | ⟨a,o,_,ho,_⟩
 ·unfold Is at h;exact h
 ·cases ho
theorem dG.aK {G H:Hp}{v:V} (h:dG K cl G H .aK v):v=.aK:=by
 rcases h with h | ⟨a,o,_,ho,_⟩
 ·unfold Is at h;exact h
 ·cases ho
theorem JT.q {G H:Hp}{M:Mem}{d:Dt}{v:V} (h:JT K cl G H M d v):dG K cl G H d v:=h.elim .inl fun⟨a,o,h1,h2,_,h3⟩=>.inr ⟨a,o,h1,h2,h3⟩
theorem JT.cz {G H G' H':Hp}{M M':Mem}{d:Dt}{v:V} (h:JT K cl G H M d v) (f:bq K cl none G H M G' H' M'):JT K cl G' H' M' d v:=by
 rcases h with h | ⟨a,o,h1,h2,h3,h4⟩
 ·exact .inl (h.mono f.g)
 ·obtain⟨u,hu⟩:=h4.jL;refine .inr ⟨a,o,h1,h2,?_,h4.mono f.g fun u e=>f.h a u e h3 (fun z=>nomatch z)⟩
  cases e:M' a with
  | none=>rfl
  | some w=>exact absurd (f.mf a w e h3) (by rw[hu];exact fun z=>nomatch z)
theorem Lx (h:tr K cl Γ c σ H Q):tp K cl Γ c σ H Q:=by
 obtain⟨B,ρ,M,G,R,h1,h2,h3⟩:=h;exact⟨B,ρ,M,G,R,h1,h2,fun d v M' G' H' f i=>h3 d v M' G' H' f (.inl i)⟩
theorem Ly (h:tq K cl Γ c σ H Q):tr K cl Γ c σ H Q:=by
 obtain⟨B,ρ,M,G,R,h1,h2,h3⟩:=h;exact⟨B,ρ,M,G,R,h1,h2,fun d v M' G' H' f i=>h3 d v M' G' H' f i.q⟩
theorem _root_.L2.PE.r (h:PE X e (tp X.K cl Γ c)):PE X e (tr X.K cl Γ c):=h.imp fun _ _ _=>Lx
theorem _root_.L2.PE.rq (h:PE X e (tr X.K cl Γ c)):PE X e (tq X.K cl Γ c):=h.imp fun _ _ _=>Ly
theorem Lz (h:tq K cl Γ c σ H Q):tp K cl Γ c σ H Q:=by
 obtain⟨B,ρ,M,G,R,h1,h2,h3⟩:=h;exact⟨B,ρ,M,G,R,h1,h2,fun d v M' G' H' f i=>h3 d v M' G' H' f (.inl i)⟩
theorem _root_.L2.PE.q (h:PE X e (tp X.K cl Γ c)):PE X e (tq X.K cl Γ c):=h.imp fun _ _ _=>Lz
theorem LA {D:Dt->Mem->(Dt->Mem->Prop)->Prop}{r:V->Hp->VK->Prop} (he:∀ ρ M R,ev Γ c ρ M R->ev Γ ca ρ M fun x M1=>av x fun x=>D x M1 fun d M2=>R [d] M2)
  (hr:∀ x v G H M (k:Dt->Mem->Prop) (Q:VK),ah G H->bW K cl G H M->dG K cl G H x v->D x M k->(∀ d u M' G' H',bq K cl none G H M G' H' M'->Is K cl G' d u->k d M'->Q u H')->r v H Q)
  (h:tp K cl Γ c σ H Q):tq K cl Γ ca σ H fun v H1=>r v H1 Q:=by
 obtain⟨B,ρ,M,G,R,h1,h2,h3⟩:=h;refine⟨B,ρ,M,G,_,h1,he _ _ _ h2,fun d v M' G' H' f i hd=>hr d v G' H' M' _ Q f.gh f.mem i hd fun d' u M2 G2 H2 f2 i2 h4=>h3 d' u M2 G2 H2 (f.trans f2) i2 h4⟩
theorem Ee {D:Dt->Dt->Mem->(Dt->Mem->Prop)->Prop}{r:R2} (he:∀ ρ M R,ev Γ c ρ M R->ev Γ ca ρ M fun x M1=>av x fun x=>ev Γ cb ρ M1 fun y M2=>av y fun y=>D x y M2 fun d M3=>R [d] M3)
  (hr:∀ x y vx vy G H M (k:Dt->Mem->Prop) (Q:VK),ah G H->bW K cl G H M->dG K cl G H x vx->dG K cl G H y vy->D x y M k->(∀ d u M' G' H',bq K cl none G H M G' H' M'->Is K cl G' d u->k d M'->Q u H')->r vx vy H Q)
  (h:tp K cl Γ c σ H Q):ze r (tr K cl Γ ca) (tq K cl Γ cb) σ H Q:=by
 obtain⟨B,ρ,M,G,R,h1,h2,h3⟩:=h;refine⟨B,ρ,M,G,_,h1,he _ _ _ h2,fun x vx M1 G1 H1 f1 i1 hx=>⟨B,ρ,M1,G1,_,h1.on f1,hx,fun y vy M2 G2 H2 f2 i2 hy=>?_⟩⟩;exact hr x y vx vy G2 H2 M2 _ Q f2.gh f2.mem (i1.cz f2).q i2 hy fun d u M3 G3 H3 f3 i3 h4=>h3 d u M3 G3 H3 ((f1.trans f2).trans f3) i3 h4
theorem LB {d:Dt}{v:V} (he:∀ ρ M R,ev Γ c ρ M R->R [d] M) (hi:∀ G,Is K cl G d v) (h:tp K cl Γ c σ H Q):tC v σ H Q:=by
 obtain⟨B,ρ,M,G,R,h1,h2,h3⟩:=h;exact h3 d v M G H h1.self (hi G) (he _ _ _ h2)
theorem Ud {n:Int}{j pos}:PE X (.Constant (.int n) j pos) (tp X.K cl Γ (.i n)):=E2.imp fun _ _ _ h=>LB (c:=.i n) (d:=.int n) (fun _ _ _ z=>z) (fun _=>by unfold Is;rfl) h
theorem Ue {n:Str}{j pos}:PE X (.Constant (.str n) j pos) (tp X.K cl Γ (.s n)):=E4.imp fun _ _ _ h=>LB (c:=.s n) (d:=.str n) (fun _ _ _ z=>z) (fun _=>by unfold Is;rfl) h
theorem Uf {n:Bool}{j pos}:PE X (.Constant (.bool n) j pos) (tp X.K cl Γ (.b n)):=J5.imp fun _ _ _ h=>LB (c:=.b n) (d:=.bl n) (fun _ _ _ z=>z) (fun _=>by unfold Is;rfl) h
theorem Ug {j pos}:PE X (.Constant .none j pos) (tp X.K cl Γ .n):=E3.imp fun _ _ _ h=>LB (c:=.n) (d:=.aK) (fun _ _ _ z=>z) (fun _=>by unfold Is;rfl) h
theorem Uh {k:Nat}{x:Str}{pos:Pos} (hN:X.N[k]? = some x) (hv:yV X.env.scope x) (hd:(x==("__debug__" : Str))=false) (kT:(x==("__classdict__" : Str))=false):PE X (.Name x pos) (tp X.K cl Γ (.v k)) :=
 (kS hN hv hd kT).imp fun σ H Q h=>by
  obtain⟨B,ρ,M,G,R,h1,h2,h3⟩:=h;change mD ρ k _ at h2;unfold mD at h2
  cases e:ρ[k]? with
  | none=>rw[e] at h2;exact h2.elim
  | some s =>
   cases s with
   | sh d =>
    rw[e] at h2;obtain⟨v,e1,e2⟩:=h1.sh k d e;exact⟨v,e1,h3 d v M G H h1.self e2 h2⟩
   | no=>rw[e] at h2;exact h2.elim
   | ow d=>rw[e] at h2;exact h2.elim
theorem Ui {k:Nat}{x:Str}{pos:Pos} (hN:X.N[k]? = some x) (hv:yV X.env.scope x) (hd:(x==("__debug__" : Str))=false) (kT:(x==("__classdict__" : Str))=false):PE X (.Name x pos) (tr X.K cl Γ (.o k)) :=
 (kS hN hv hd kT).imp fun σ H Q h=>by
  obtain⟨B,ρ,M,G,R,h1,h2,h3⟩:=h;change cX ρ k _ at h2;unfold cX at h2
  cases e:ρ[k]? with
  | none=>rw[e] at h2;exact h2.elim
  | some s =>
   cases s with
   | ow d =>
    rw[e] at h2;obtain⟨oa,o1,_⟩:=h1.ow;obtain⟨e1,_,hm,_,o,ho,hc⟩:=o1 k d e;exact⟨_,e1,h3 d _ M G H h1.self (.inr ⟨_,o,rfl,ho,hm,hc⟩) h2⟩
   | no=>rw[e] at h2;exact h2.elim
   | sh d=>rw[e] at h2;exact h2.elim
theorem Uj (ha:PE X e (tp X.K cl Γ ca)):PE X e (tq X.K cl Γ (.d ca)):=ha.imp fun σ H Q h=>by
 obtain⟨B,ρ,M,G,R,h1,h2,h3⟩:=h;refine⟨B,ρ,M,G,_,h1,h2,fun d v M' G' H' f i hd=>?_⟩
 cases d with
 | fD p =>
  change (match M' p with | some (.ml xs)=>R [.lst xs] M' | some (.mo c fs xs)=>R [.obj c fs xs] M' | _=>False) at hd
  cases e:M' p with
  | none=>rw[e] at hd;exact hd.elim
  | some o =>
   have hc:=(f.mem p o e).2;rw[e] at hd;unfold Is at i
   cases o with
   | ml xs=>exact h3 _ v M' G' H' f (.inr ⟨p,_,i,rfl,hc⟩) hd
   | mo c fs xs=>exact h3 _ v M' G' H' f (.inr ⟨p,_,i,rfl,hc⟩) hd
   | md am=>exact hd.elim
 | _=>exact (show False from hd).elim
noncomputable def GP:qG->YQ
 | .add=>.Add | .sub=>.Sub | .mul=>.Mult | .fdiv=>.FloorDiv | .mod=>.Mod | .pow=>.Pow | .shr=>.RShift
def LC:qG->R2
 | .add=>fun x y H Q=>wy (fun i j=>.int (i+j)) x y H Q∨∃ i j,x=.str i/\y=.str j/\i.length+j.length<=sizeLine/\Q (.str (i++j)) H
 | .sub=>wy fun i j=>.int (i-j)
 | .mul=>rI xO fun i j=>.int (i*j)
 | .fdiv=>rI B4 fun i j=>.int (i / j)
 | .mod=>rI (fun _ j=>0<j) fun i j=>.int (i % j)
 | .pow=>rI B5 fun i j=>.int (i ^ j.toNat)
 | .shr=>rI (fun _ j=>0<=j) fun i j=>.int (i / 2 ^ j.toNat)
theorem GQ:∀ op:qG,fG X (Yr (GP op)) (LC op)
 | .add=>Fp.or vd
 | .sub=>Fq
 | .mul=>Fs
 | .fdiv=>B6
 | .mod=>Ft
 | .pow=>Fu
 | .shr=>Fv
theorem nN {d:Dt}{R:Int->Prop} (h:Ed d R):∃ i,d=.int i/\R i:=by
 cases d<;>first | exact⟨_,rfl,h⟩ | exact h.elim
theorem GR {d:Dt}{R:Str->Prop} (h:QA d R):∃ i,d=.str i/\R i:=by
 cases d<;>first | exact⟨_,rfl,h⟩ | exact h.elim
theorem GS {op:qG}{x y:Dt}{vx vy:V}{G H:Hp}{k:Dt->Prop}{Q:VK} (hx:dG K cl G H x vx) (hy:dG K cl G H y vy) (h:mE op x y k) (q:∀ d v,Is K cl G d v->k d->Q v H):LC op vx vy H Q:=by
 have Ae:∀ n,Is K cl G (.int n) (.int n):=fun n=>by unfold Is;rfl
 cases x with
 | int i =>
  obtain⟨j,rfl,h⟩:=nN (show Ed y _ from h);have e1:=hx.int;have e2:=hy.int;subst e1 e2
  cases op with
  | add=>exact .inl ⟨i,j,rfl,rfl,q _ _ (Ae _) h⟩
  | sub=>exact⟨i,j,rfl,rfl,q _ _ (Ae _) h⟩
  | _=>exact⟨i,j,rfl,rfl,h.1,q _ _ (Ae _) h.2⟩
 | str i =>
  obtain⟨j,rfl,h⟩:=GR (show QA y _ from h);have e1:=hx.str;have e2:=hy.str;subst e1 e2
  cases op with
  | add=>exact .inr ⟨i,j,rfl,rfl,h.1,q _ _ (by unfold Is;rfl) h.2⟩
  | _=>exact h.elim
 | _=>exact h.elim
theorem LD {op:qG}{pos:Pos} (ha:PE X a (tp X.K cl Γ ca)) (hb:PE X b (tp X.K cl Γ cb)):PE X (.BinOp a (GP op) b pos) (tp X.K cl Γ (.bin op ca cb)) :=
 (DY (GQ op) ha.r hb.q).imp fun σ H Q h=>Ee (c:=.bin op ca cb) (D:=fun x y M k=>mE op x y fun d=>k d M) (fun _ _ _ z=>z) (fun x y vx vy G H M k Q s m hx hy hd q=>GS hx hy hd fun d v i hk=>q d v M G H (bq.refl s m) i hk) h
theorem LF {pos:Pos} (ha:PE X a (tp X.K cl Γ ca)):PE X (.UnaryOp .USub a pos) (tp X.K cl Γ (.neg ca)) :=
 (Kl Fw ha.q).imp fun σ H Q h=>LA (c:=.neg ca) (D:=fun x M k=>intD x fun i=>k (.int (-i)) M) (fun _ _ _ z=>z) (fun x v G H M k Q s m hx hd q=>by
  cases x with
  | int i=>have e:=hx.int;subst e;exact⟨i,rfl,q _ _ M G H (bq.refl s m) (by unfold Is;rfl) hd⟩
  | _=>exact (show False from hd).elim) h
noncomputable def yw:rM->CmpOp
 | .lt=>.Lt | .le=>.LtE | .gt=>.Gt | .ge=>.GtE
def Af:rM->R2
 | .lt=>wy fun i j=>.bl (decide (i<j))
 | .le=>wy fun i j=>.bl (decide (i<=j))
 | .gt=>wy fun i j=>.bl (decide (j<i))
 | .ge=>wy fun i j=>.bl (decide (j<=i))
theorem k6:∀ op:rM,fG X (Wo (yw op)) (Af op)
 | .lt=>Kp
 | .le=>Kq
 | .gt=>Kr
 | .ge=>Ks
theorem vK (op:rM) (b:Expr):WP (yw op) b=false:=by cases op<;>exact zg b
theorem rO {op:rM}{x y:Dt}{vx vy:V}{G H:Hp}{k:Bool->Prop}{Q:VK} (hx:dG K cl G H x vx) (hy:dG K cl G H y vy) (h:je op x y k) (q:∀ b,k b->Q (.bl b) H):Af op vx vy H Q:=by
 obtain⟨i,rfl,h2⟩:=nN h;obtain⟨j,rfl,h3⟩:=nN h2;have e1:=hx.int;have e2:=hy.int;subst e1 e2
 cases op<;>exact⟨i,j,rfl,rfl,q _ h3⟩
theorem Is.wR {G:Hp}{b:Bool}:Is K cl G (.bl b) (.bl b):=by unfold Is;rfl
theorem LG {op:rM}{pos:Pos} (ha:PE X a (tp X.K cl Γ ca)) (hb:PE X b (tp X.K cl Γ cb)):PE X (.Compare a [yw op] [b] pos) (tp X.K cl Γ (.cmp op ca cb)) :=
 (mQ (k6 op) ha.r hb.q (vK op b)).imp fun σ H Q h=>Ee (c:=.cmp op ca cb) (D:=fun x y M k=>je op x y fun c=>k (.bl c) M) (fun _ _ _ z=>z) (fun x y vx vy G H M k Q s m hx hy hd q=>rO hx hy hd fun b hk=>q _ _ M G H (bq.refl s m) Is.wR hk) h
theorem tX {σ:St}{H:Hp}{Q:Bool->Hp->Prop} (h:tt K cl Γ c σ H Q):tp K cl Γ c σ H fun v H1=>∃ b,v=.bl b/\Q b H1:=by
 obtain⟨B,ρ,M,G,k,h1,h2,h3⟩:=h;refine⟨B,ρ,M,G,_,h1,h2,fun d v M' G' H' f i hd=>?_⟩
 cases d with
 | bl b=>unfold Is at i;exact⟨b,i,h3 b M' G' H' f hd⟩
 | _=>exact (show False from hd).elim
theorem wS {op:CmpOp}{r:R2}{pos:Pos} (ho:fG X (Wo op) r) (ha:PE X a (tr X.K cl Γ ca)) (hb:PE X b (tq X.K cl Γ cb)) (hm:WP op b=false)
  (hh:∀ σ H Q,tp X.K cl Γ c σ H Q->ze r (tr X.K cl Γ ca) (tq X.K cl Γ cb) σ H Q):PT X (.Compare a [op] [b] pos) (tt X.K cl Γ c):=(B7 ho ha hb hm).imp fun σ H Q h=>hh σ H _ (tX h)
theorem LH (ha:PE X e (tp X.K cl Γ c)) (he:∀ whole,aaL e X.env whole=(do let v ←whole;aa1 e.pos;aae [v] (truthy v))):PT X e (tt X.K cl Γ c):=(E5 ha he).imp fun _ _ _ h=>tX h
end
end PV
namespace PV
open PySem L2 SH
noncomputable def noStar:Expr->Bool
 | .Starred _ _=>false
 | _=>true
theorem ag {e:Expr}{es:List Expr}{env:Env} (h:noStar e=true):N_ (e::es) env=(false,eval e env)::N_ es env:=by
 cases e<;>first | rfl | cases h
theorem d5 {pos:Pos}{env:Env}:∀ {es:List Expr},es.all noStar=true->(Xm pos (N_ es env)).any (·.1)=false
 | [],_=>rfl
 | e::es,h=>by
  rw[WD,t_] at h;rw[ag h.1];show (false||(Xm pos (N_ es env)).any (·.1))=false;rw[d5 h.2];rfl
theorem kc {pos:Pos}{env:Env}:∀ {es:List Expr},es.all noStar=true->(Xm pos (N_ es env)).all (fun x => !x.1)=true
 | [],_=>rfl
 | e::es,h=>by
  rw[WD,t_] at h;rw[ag h.1];show (true&&(Xm pos (N_ es env)).all (fun x => !x.1))=true;rw[kc h.2];rfl
section
variable {K:e_}{cl:Cl}{Γ:Gm}{c ca cb cc:C}{σ:St}{H:Hp}{Q:VK}{X:Cx}{e a b:Expr}{es:List Expr}
theorem LI:PA X [] (ta X.K cl Γ .nil):=bz.imp fun σ H Q h=>by
 obtain⟨B,ρ,M,G,R,h1,h2,h3⟩:=h;exact h3 [] [] M G H h1.self IsL.nil h2
theorem GU (ha:PE X a (tp X.K cl Γ ca)) (hr:PA X es (ta X.K cl Γ cb)) (hs:noStar a=true):PA X (a::es) (ta X.K cl Γ (.cons ca cb)):=(aI ha hr (ag hs)).imp fun σ H Q h=>by
 obtain⟨B,ρ,M,G,R,h1,h2,h3⟩:=h;exact⟨B,ρ,M,G,_,h1,h2,fun x vx M1 G1 H1 f1 i1 hx=>⟨B,ρ,M1,G1,_,h1.on f1,hx,fun ds vs M2 G2 H2 f2 i2 hd=>h3 _ _ M2 G2 H2 (f1.trans f2) (IsL.cons (i1.mono f2.g) i2) hd⟩⟩
theorem vL {G H:Hp}{p:Addr} (s:ah G H) (h:H p=none):G p=none:=s.free h
theorem bq.cell {G H:Hp}{M:Mem}{p:Addr}{o:HO}{m:MO} (gh:ah G H) (mm:bW K cl G H M) (hp:H p=none) (hc:∀ H',H' p=some o->b6 K cl G H' p m):bq K cl none G H M G (upd H p o) (aT M p m):=by
 have gp:G p=none:=vL gh hp
 have mp:M p=none:=by
  cases e:M p with
  | none=>rfl
  | some w=>obtain⟨u,hu⟩:=(mm p w e).2.jL;rw[hp] at hu;cases hu
 refine⟨ah.refl G,fun a u e=>ah.put hp a u (gh a u e),fun a u e=>⟨u,ah.put hp a u e⟩,fun a u e n=>absurd e (by rw[n];exact fun z=>nomatch z),fun a u e _ _=>ah.put hp a u e,fun a u e=>?_,fun a u e n=>?_,fun a u e=>?_⟩
 ·unfold aT at e;by_cases z:a=p
  ·subst z;rw[w_ rfl] at e;cases e;exact⟨gp,hc _ aA⟩
  ·rw[n_ z] at e;obtain⟨h1,h2⟩:=mm a u e;exact⟨h1,h2.mono (ah.refl G) fun w hw=>by rw[aq z];exact hw⟩
 ·unfold aT at e;by_cases z:a=p
  ·rw[z];exact hp
  ·rw[n_ z,n] at e;cases e
 ·unfold aT;by_cases z:a=p
  ·subst z;rw[mp] at e;cases e
  ·rw[n_ z];exact⟨u,e,rfl⟩
theorem Ef (h:tp K cl Γ (.fr c) σ H Q):tf K cl Γ c σ H Q:=by
 obtain⟨B,ρ,M,G,R,h1,h2,h3⟩:=h;refine⟨B,ρ,M,G,_,h1,h2,fun ds vs M' G' H' p f hp i hR=>?_⟩;have f2:=bq.lay (o:=.lst vs) f.gh f.mem hp;exact h3 (.lst ds) (.ref p) M' _ _ (f.trans f2) (by unfold Is;exact⟨p,vs,rfl,aA,i.mono f2.g⟩) hR
theorem QB (h:PE X e (tf X.K cl Γ c)):PE X e (tp X.K cl Γ (.fr c)):=h.imp fun _ _ _=>Ef
theorem LJ (h:PE X e (tf X.K cl Γ c)):PE X e (tp X.K cl Γ (.CO c)):=h.imp fun σ H Q h=>by
 obtain⟨B,ρ,M,G,R,h1,h2,h3⟩:=h;refine⟨B,ρ,M,G,_,h1,h2,fun ds vs M' G' H' p f hp i hR=>?_⟩;have f2:=bq.cell (o:=.lst vs) (m:=.ml ds) f.gh f.mem hp fun H' e=>⟨vs,e,i⟩
 refine h3 (.fD p) (.ref p) _ _ _ (f.trans f2) (by unfold Is;rfl) (hR p ?_)
 cases e:M' p with
 | none=>rfl
 | some w=>obtain⟨u,hu⟩:=(f.mem p w e).2.jL;rw[hp] at hu;cases hu
theorem LK {k pos} (h:PA X es (ta X.K cl Γ c)):PE X (.Tuple es k pos) (tp X.K cl Γ (.tup c)):=(FE h).imp fun σ H Q h=>by
 obtain⟨B,ρ,M,G,R,h1,h2,h3⟩:=h;refine⟨B,ρ,M,G,_,h1,h2,fun ds vs M' G' H' f i hR=>⟨by rw[←i.length];exact hR.1,fun p hp=>?_⟩⟩;have f2:=bq.lay (o:=.tup vs) f.gh f.mem hp;exact h3 (.tup ds) (.ref p) M' _ _ (f.trans f2) (by unfold Is;exact⟨p,vs,rfl,aA,i.mono f2.g⟩) hR.2
theorem LL {pos} (h:PA X es (ta X.K cl Γ c)):PE X (.List es pos) (tf X.K cl Γ (.jd c)):=(FF h).imp fun σ H Q h=>by
 obtain⟨B,ρ,M,G,R,h1,h2,h3⟩:=h;exact⟨B,ρ,M,G,_,h1,h2,fun ds vs M' G' H' f i hR=>⟨by rw[←i.length];exact hR.1,fun p hp=>h3 ds vs M' G' H' p f hp i hR.2⟩⟩
theorem Uk {D:Dt->Mem->(List Dt->Mem->Prop)->Prop}{r:V->Hp->VK->Prop} (he:∀ ρ M R,ev Γ c ρ M R->ev Γ ca ρ M fun x M1=>av x fun x=>D x M1 R)
  (hr:∀ x v G H M (k:List Dt->Mem->Prop) (Q:VK),ah G H->bW K cl G H M->dG K cl G H x v->D x M k->(∀ ds vs M' G' H' p,bq K cl none G H M G' H' M'->H' p=none->IsL K cl G' ds vs->k ds M'->Q (.ref p) (upd H' p (.lst vs)))->r v H Q)
  (h:tf K cl Γ c σ H Q):tq K cl Γ ca σ H fun v H1=>r v H1 Q:=by
 obtain⟨B,ρ,M,G,R,h1,h2,h3⟩:=h;exact⟨B,ρ,M,G,_,h1,he _ _ _ h2,fun d v M' G' H' f i hd=>hr d v G' H' M' _ Q f.gh f.mem i hd fun ds vs M2 G2 H2 p f2 hp i2 h4=>h3 ds vs M2 G2 H2 p (f.trans f2) hp i2 h4⟩
theorem Ul {D:Dt->Dt->Mem->(List Dt->Mem->Prop)->Prop}{r:R2} (he:∀ ρ M R,ev Γ c ρ M R->ev Γ ca ρ M fun x M1=>av x fun x=>ev Γ cb ρ M1 fun y M2=>av y fun y=>D x y M2 R)
  (hr:∀ x y vx vy G H M (k:List Dt->Mem->Prop) (Q:VK),ah G H->bW K cl G H M->dG K cl G H x vx->dG K cl G H y vy->D x y M k->(∀ ds vs M' G' H' p,bq K cl none G H M G' H' M'->H' p=none->IsL K cl G' ds vs->k ds M'->Q (.ref p) (upd H' p (.lst vs)))->r vx vy H Q)
  (h:tf K cl Γ c σ H Q):ze r (tr K cl Γ ca) (tq K cl Γ cb) σ H Q:=by
 obtain⟨B,ρ,M,G,R,h1,h2,h3⟩:=h;refine⟨B,ρ,M,G,_,h1,he _ _ _ h2,fun x vx M1 G1 H1 f1 i1 hx=>⟨B,ρ,M1,G1,_,h1.on f1,hx,fun y vy M2 G2 H2 f2 i2 hy=>?_⟩⟩;exact hr x y vx vy G2 H2 M2 _ Q f2.gh f2.mem (i1.cz f2).q i2 hy fun ds vs M3 G3 H3 p f3 hp i3 h4=>h3 ds vs M3 G3 H3 p ((f1.trans f2).trans f3) hp i3 h4
theorem cw {o:k_ (List Dt)}{k:List Dt->Prop} (h:eJ o k):∃ ds,o=some ds/\k ds:=by
 cases o with
 | none=>exact (show False from h).elim
 | some ds=>exact⟨ds,rfl,h⟩
theorem fM {d:Dt}{k:List Dt->Prop} (h:lstK d k):∃ ds,d=.lst ds/\k ds:=by
 cases d with
 | lst ds=>exact⟨ds,rfl,h⟩
 | _=>exact (show False from h).elim
theorem bo {d:Dt}{k:Int->Prop} (h:intD d k):∃ ds,d=.int ds/\k ds:=by
 cases d with
 | int ds=>exact⟨ds,rfl,h⟩
 | _=>exact (show False from h).elim
theorem k7 {d:Dt}{k:Str->Prop} (h:nM d k):∃ ds,d=.str ds/\k ds:=by
 cases d with
 | str ds=>exact⟨ds,rfl,h⟩
 | _=>exact (show False from h).elim
theorem f7 {d:Dt}{k:Bool->Prop} (h:bI d k):∃ ds,d=.bl ds/\k ds:=by
 cases d with
 | bl ds=>exact⟨ds,rfl,h⟩
 | _=>exact (show False from h).elim
theorem dG.lst {G H:Hp}{ds:List Dt}{v:V} (s:ah G H) (h:dG K cl G H (.lst ds) v):∃ a vs,v=.ref a/\H a=some (.lst vs)/\IsL K cl G ds vs:=by
 rcases h with h | ⟨a,o,rfl,ho,hc⟩
 ·unfold Is at h;obtain⟨a,vs,e,q,r⟩:=h;exact⟨a,vs,e,s _ _ q,r⟩
 ·cases ho;obtain⟨vs,h1,h2⟩:=hc;exact⟨a,vs,rfl,h1,h2⟩
section
variable {x:Str}{id T:YA}{rr:List V->Hp->VK->Prop}{p pos:Pos}
theorem vM {D:Dt->Mem->(Dt->Mem->Prop)->Prop} (hc:bv X (.builtin id) rr) (hg:Gl X x) (hm:X.mg x=none) (hv:WQ x=some (.builtin id)) (hn:x ≠ "__name__") (lP:(x==("__debug__" : Str))=false) (ha:PE X a (tq X.K cl Γ ca)) (hs:noStar a=true)
  (he:∀ ρ M R,ev Γ c ρ M R->ev Γ ca ρ M fun x M1=>av x fun x=>D x M1 fun d M2=>R [d] M2)
  (hr:∀ x v G H M (k:Dt->Mem->Prop) (Q:VK),ah G H->bW X.K cl G H M->dG X.K cl G H x v->D x M k->(∀ d u M' G' H',bq X.K cl none G H M G' H' M'->Is X.K cl G' d u->k d M'->Q u H')->rr [v] H Q):PE X (.Call (.Name x p) [a] [] pos) (tp X.K cl Γ c) :=
 (nr hc hg hm hv (aI ha bz (ag hs)) hn lP (ag hs) rfl).imp fun σ H Q h=>LA (r:=fun v H Q=>rr [v] H Q) he hr h
theorem rP {D:Dt->Mem->(Dt->Mem->Prop)->Prop} (hc:bv X (.type T) rr) (hg:Gl X x) (hm:X.mg x=none) (hv:WQ x=some (.type T)) (hn:x ≠ "__name__") (lP:(x==("__debug__" : Str))=false) (ha:PE X a (tq X.K cl Γ ca)) (hs:noStar a=true)
  (he:∀ ρ M R,ev Γ c ρ M R->ev Γ ca ρ M fun x M1=>av x fun x=>D x M1 fun d M2=>R [d] M2)
  (hr:∀ x v G H M (k:Dt->Mem->Prop) (Q:VK),ah G H->bW X.K cl G H M->dG X.K cl G H x v->D x M k->(∀ d u M' G' H',bq X.K cl none G H M G' H' M'->Is X.K cl G' d u->k d M'->Q u H')->rr [v] H Q):PE X (.Call (.Name x p) [a] [] pos) (tp X.K cl Γ c) :=
 (cW hc hg hm hv (aI ha bz (ag hs)) hn lP (ag hs) rfl).imp fun σ H Q h=>LA (r:=fun v H Q=>rr [v] H Q) he hr h
theorem CV {D:Dt->Mem->(List Dt->Mem->Prop)->Prop} (hc:bv X (.type T) rr) (hg:Gl X x) (hm:X.mg x=none) (hv:WQ x=some (.type T)) (hn:x ≠ "__name__") (lP:(x==("__debug__" : Str))=false) (ha:PE X a (tq X.K cl Γ ca)) (hs:noStar a=true)
  (he:∀ ρ M R,ev Γ c ρ M R->ev Γ ca ρ M fun x M1=>av x fun x=>D x M1 R)
  (hr:∀ x v G H M (k:List Dt->Mem->Prop) (Q:VK),ah G H->bW X.K cl G H M->dG X.K cl G H x v->D x M k->(∀ ds vs M' G' H' p,bq X.K cl none G H M G' H' M'->H' p=none->IsL X.K cl G' ds vs->k ds M'->Q (.ref p) (upd H' p (.lst vs)))->rr [v] H Q):PE X (.Call (.Name x p) [a] [] pos) (tf X.K cl Γ c) :=
 (cW hc hg hm hv (aI ha bz (ag hs)) hn lP (ag hs) rfl).imp fun σ H Q h=>Uk (r:=fun v H Q=>rr [v] H Q) he hr h
theorem Ag {D:Dt->Dt->Mem->(Dt->Mem->Prop)->Prop} (hc:bv X (.builtin id) rr) (hg:Gl X x) (hm:X.mg x=none) (hv:WQ x=some (.builtin id)) (hn:x ≠ "__name__") (lP:(x==("__debug__" : Str))=false) (ha:PE X a (tr X.K cl Γ ca)) (hb:PE X b (tq X.K cl Γ cb)) (hs:noStar a=true) (gT:noStar b=true)
  (he:∀ ρ M R,ev Γ c ρ M R->ev Γ ca ρ M fun x M1=>av x fun x=>ev Γ cb ρ M1 fun y M2=>av y fun y=>D x y M2 fun d M3=>R [d] M3)
  (hr:∀ x y vx vy G H M (k:Dt->Mem->Prop) (Q:VK),ah G H->bW X.K cl G H M->dG X.K cl G H x vx->dG X.K cl G H y vy->D x y M k->(∀ d u M' G' H',bq X.K cl none G H M G' H' M'->Is X.K cl G' d u->k d M'->Q u H')->rr [vx,vy] H Q):PE X (.Call (.Name x p) [a,b] [] pos) (tp X.K cl Γ c) :=
 (nr hc hg hm hv (aI ha (aI hb bz (ag gT)) (ag hs)) hn lP (ag hs) (d5 (by simp [gT]))).imp fun σ H Q h=>Ee (r:=fun v u H Q=>rr [v,u] H Q) he hr h
end
theorem LM {p pos:Pos} (hg:Gl X "list") (hm:X.mg "list" = none) (ha:PE X a (tq X.K cl Γ ca)) (hs:noStar a=true):PE X (.Call (.Name "list" p) [a] [] pos) (tf X.K cl Γ (.yQ ca)) :=
 CV (c:=.yQ ca) (D:=fun x M k=>eJ (ka x) fun ds=>k ds M) (rF) hg hm X5 (by decide) (by decide) ha hs (fun _ _ _ z=>z)
  (fun x v G H M k Q s m hx hd q=>by
   obtain⟨ds,e,hk⟩:=cw hd;obtain⟨l,vs,rfl,h1,h2⟩:=hx.seq s e;exact⟨l,vs,rfl,h1,fun p hp=>q ds vs M G H p (bq.refl s m) hp h2 hk⟩)
theorem LN {p pos:Pos} (hg:Gl X "len") (hm:X.mg "len" = none) (ha:PE X a (tq X.K cl Γ ca)) (hs:noStar a=true):PE X (.Call (.Name "len" p) [a] [] pos) (tp X.K cl Γ (.len ca)) :=
 vM (c:=.len ca) (D:=fun x M k=>pC x fun n=>k (.int n) M) (rD.or rE) hg hm PySem.boot_len (by decide) (by decide) ha hs (fun _ _ _ z=>z)
  (fun x v G H M k Q s m hx hd q=>by
   have fin:∀ {ds:List Dt},ka x=some ds->k (.int ds.length) M->∃ p ys,[v]=[V.ref p]/\(du X.K H p ys∨eG X.K H p ys)/\Q (.int ys.length) H:=fun {ds} e hk=>by
    obtain⟨l,vs,rfl,h1,h2⟩:=hx.seq s e;exact⟨l,vs,rfl,h1,q _ _ M G H (bq.refl s m) (by unfold Is;rw[h2.length]) hk⟩
   cases x with
   | str z=>have e:=hx.str;subst e;exact .inr ⟨z,rfl,hd.1,q _ _ M G H (bq.refl s m) (by unfold Is;rfl) hd.2⟩
   | lst ds=>exact .inl (fin rfl hd)
   | nL ds=>exact .inl (fin rfl hd)
   | tup ds=>exact .inl (fin rfl hd)
   | fE ds=>exact .inl (fin rfl hd)
   | uY ds=>exact .inl (fin rfl hd)
   | pz ds=>exact .inl (fin rfl hd)
   | _=>exact (show False from hd).elim)
theorem LO {p pos:Pos} (hg:Gl X "tuple") (hm:X.mg "tuple" = none) (ha:PE X a (tq X.K cl Γ ca)) (hs:noStar a=true):PE X (.Call (.Name "tuple" p) [a] [] pos) (tp X.K cl Γ (.yR ca)) :=
 rP (c:=.yR ca) (D:=fun x M k=>eJ (jc x) fun ds=>k (.tup ds) M) (yb) hg hm YL (by decide) (by decide) ha hs (fun _ _ _ z=>z)
  (fun x v G H M k Q s m hx hd q=>by
   obtain⟨ds,e,hk⟩:=cw hd;obtain⟨l,vs,rfl,h1,h2⟩:=hx.BH s e;refine⟨l,vs,rfl,h1,fun p hp=>?_⟩;have f2:=bq.lay (o:=.tup vs) s m hp;exact q _ _ M _ _ f2 (by unfold Is;exact⟨p,vs,rfl,aA,h2.mono f2.g⟩) hk)
theorem LP {p pos:Pos} (hg:Gl X "tuple") (hm:X.mg "tuple" = none) (ha:PE X a (tq X.K cl Γ ca)) (hs:noStar a=true):PE X (.Call (.Name "tuple" p) [a] [] pos) (tp X.K cl Γ (.Ec ca)) :=
 rP (c:=.Ec ca) (D:=fun x M k=>eJ (jc x) fun ds=>k (.fE ds) M) (yk) hg hm YL (by decide) (by decide) ha hs (fun _ _ _ z=>z)
  (fun x v G H M k Q s m hx hd q=>by
   obtain⟨ds,e,hk⟩:=cw hd;obtain⟨l,vs,rfl,h1,h2⟩:=hx.BH s e;refine⟨l,vs,rfl,h1,fun p o hp Um Uo=>?_⟩;have f2:=bq.lay (o:=.eM o (.tup vs)) s m hp;exact q _ _ M _ _ f2 (by unfold Is;exact⟨p,vs,rfl,⟨o,aA,Um,Uo⟩,h2.mono f2.g⟩) hk)
theorem LQ {p pos:Pos} (hc:X.calm=true) (hg:Gl X "all") (hm:X.mg "all" = none) (ha:PE X a (tq X.K cl Γ ca)) (hs:noStar a=true):PE X (.Call (.Name "all" p) [a] [] pos) (tp X.K cl Γ (.all ca)) :=
 vM (c:=.all ca) (D:=fun x M k=>∃ bs:List Bool,x=.lst (bs.map .bl)/\k (.bl (bs.all id)) M) (zI hc) hg hm (by decide +kernel) (by decide) (by decide) ha hs (fun _ _ _ z=>z)
  (fun x v G H M k Q s m hx hd q=>by
   obtain⟨bs,rfl,hk⟩:=hd;obtain⟨l,vs,rfl,h1,h2⟩:=hx.lst s;have e:=h2.vH;subst e;exact⟨l,bs,rfl,du.of h1,q _ _ M G H (bq.refl s m) Is.wR hk⟩)
theorem LR {p pos:Pos} (hc:X.calm=true) (hg:Gl X "any") (hm:X.mg "any" = none) (ha:PE X a (tq X.K cl Γ ca)) (hs:noStar a=true):PE X (.Call (.Name "any" p) [a] [] pos) (tp X.K cl Γ (.any ca)) :=
 vM (c:=.any ca) (D:=fun x M k=>∃ bs:List Bool,x=.lst (bs.map .bl)/\k (.bl (bs.any id)) M) (zJ hc) hg hm (by decide +kernel) (by decide) (by decide) ha hs (fun _ _ _ z=>z)
  (fun x v G H M k Q s m hx hd q=>by
   obtain⟨bs,rfl,hk⟩:=hd;obtain⟨l,vs,rfl,h1,h2⟩:=hx.lst s;have e:=h2.vH;subst e;exact⟨l,bs,rfl,du.of h1,q _ _ M G H (bq.refl s m) Is.wR hk⟩)
theorem GV {p pos:Pos} (hg:Gl X "int") (hm:X.mg "int" = none) (ha:PE X a (tq X.K cl Γ ca)) (hs:noStar a=true):PE X (.Call (.Name "int" p) [a] [] pos) (tp X.K cl Γ (.mB ca)) :=
 rP (c:=.mB ca) (D:=fun x M k=>bI x fun b=>k (.int (if b then 1 else 0)) M) (xR) hg hm aaH (by decide) (by decide) ha hs (fun _ _ _ z=>z)
  (fun x v G H M k Q s m hx hd q=>by
   obtain⟨b,rfl,hk⟩:=f7 hd;have e:=hx.bl;subst e;exact .inr ⟨b,rfl,q _ _ M G H (bq.refl s m) (by unfold Is;rfl) hk⟩)
end
end PV
namespace PV
open PySem L2 SH
section
variable {K:e_}{cl:Cl}{Γ:Gm}{c ca cb cc:C}{σ:St}{G H:Hp}{Q:VK}{X:Cx}{e a b:Expr}{es:List Expr}{pos:Pos}
mutual
theorem Is.dat (s:ah G H):∀ {d:Dt}{v:V}{p:K_},Is K cl G d v->toP d=some p->cC K H v p
 | .aK,v,p,h,e=>by unfold Is at h;unfold toP at e;cases e;subst h;exact .aK
 | .bl b,v,p,h,e=>by unfold Is at h;unfold toP at e;cases e;subst h;exact .bl b
 | .int b,v,p,h,e=>by unfold Is at h;unfold toP at e;cases e;subst h;exact .int b
 | .str b,v,p,h,e=>by unfold Is at h;unfold toP at e;cases e;subst h;exact .str b
 | .lst ds,v,p,h,e=>by
  unfold Is at h;unfold toP at e;obtain⟨a,vs,rfl,q,r⟩:=h;obtain⟨ps,e1,rfl⟩:=m_.mp e;exact .lst (du.of (s _ _ q)) (IsL.pD s r e1)
 | .nL ds,v,p,h,e=>by
  unfold Is at h;unfold toP at e;obtain⟨a,vs,rfl,q,r⟩:=h;obtain⟨ps,e1,rfl⟩:=m_.mp e;exact .lst (q.same s) (IsL.pD s r e1)
 | .tup ds,v,p,h,e=>by
  unfold Is at h;unfold toP at e;obtain⟨a,vs,rfl,q,r⟩:=h;obtain⟨ps,e1,rfl⟩:=m_.mp e;exact .tup (eG.of (s _ _ q)) (IsL.pD s r e1)
 | .fE ds,v,p,h,e=>by
  unfold Is at h;unfold toP at e;obtain⟨a,vs,rfl,q,r⟩:=h;obtain⟨ps,e1,rfl⟩:=m_.mp e;exact .tup (q.sq.same s) (IsL.pD s r e1)
 | .uY ds,v,p,h,e=>by
  unfold Is at h;unfold toP at e;obtain⟨a,vs,rfl,q,r⟩:=h;obtain⟨ps,e1,rfl⟩:=m_.mp e;exact .tup (q.same s) (IsL.pD s r e1)
 | .pz ds,v,p,h,e=>by
  unfold Is at h;unfold toP at e;obtain⟨a,vs,rfl,q,r⟩:=h;obtain⟨ps,e1,rfl⟩:=m_.mp e;exact .tup (eG.same s (.inl q)) (IsL.pD s r e1)
 | .obj c fs ds,v,p,h,e=>by unfold toP at e;cases e
 | .BG ks,v,p,h,e=>by unfold toP at e;cases e
 | .fD a,v,p,h,e=>by unfold toP at e;cases e
theorem IsL.pD (s:ah G H):∀ {ds:List Dt}{vs:List V}{ps:List K_},IsL K cl G ds vs->toPs ds=some ps->dX K H vs ps
 | [],vs,ps,h,e=>by unfold IsL at h;unfold toPs at e;cases e;subst h;exact .nil
 | d::ds,vs,ps,h,e=>by
  unfold IsL at h;unfold toPs at e;obtain⟨v,r,rfl,h1,h2⟩:=h
  cases e1:toP d with
  | none=>rw[e1] at e;cases e
  | some p =>
   cases e2:toPs ds with
   | none=>rw[e1,e2] at e;cases e
   | some qs =>
    rw[e1,e2] at e
    cases e
    exact .cons (Is.dat s h1 e1) (IsL.pD s h2 e2)
end
theorem dG.dat {d:Dt}{v:V}{p:K_} (s:ah G H) (h:dG K cl G H d v) (e:toP d=some p):cC K H v p:=by
 rcases h with h | ⟨a,o,rfl,ho,hc⟩
 ·exact h.dat s e
 ·cases d<;>first | (cases ho;done) | skip
  ·cases ho
   obtain⟨vs,h1,h2⟩:=hc;unfold toP at e;obtain⟨ps,e1,rfl⟩:=m_.mp e;exact .lst (du.of h1) (h2.pD s e1)
  ·unfold toP at e;cases e
noncomputable def LU:Bool->CmpOp
 | false=>.Eq
 | true=>.NotEq
def CW (K:e_):Bool->R2
 | false=>fun x y H Q=>RU x y H Q∨Cv K false x y H Q
 | true=>fun x y H Q=>RV x y H Q∨Cv K true x y H Q
theorem Ah (hu:X.A.units+64<cLine):∀ ng,fG X (Wo (LU ng)) (CW X.K ng)
 | false=>Kn.or (F9 hu)
 | true=>Ko.or (Ga hu)
theorem Ai (ng:Bool) (b:Expr):WP (LU ng) b=false:=by cases ng<;>exact zg b
theorem LV {ng:Bool}{x y:Dt}{vx vy:V}{k:Bool->Prop} (s:ah G H) (hx:dG K cl G H x vx) (hy:dG K cl G H y vy) (h:lX x y k) (q:∀ b,k b->Q (.bl (ng ^^ b)) H):CW K ng vx vy H Q:=by
 unfold lX at h
 cases e:Oz x y with
 | some b =>
  rw[e] at h
  have fin:∀ {u w:V},Fy u w=true->decide (u=w)=b->CW K ng u w H Q:=fun {u w} h1 h2=>by
   cases ng with
   | false=>exact .inl ⟨h1,by rw[h2];have:=q b h;rwa [ZK] at this⟩
   | true=>exact .inl ⟨h1,by rw[h2];have:=q b h;rwa [Z0] at this⟩
  unfold Oz at e;split at e
  ·cases e;have e1:=hx.int;have e2:=hy.int;subst e1 e2;exact fin rfl (by simp)
  ·cases e;have e1:=hx.str;have e2:=hy.str;subst e1 e2;exact fin rfl (by simp)
  ·cases e;have e1:=hx.bl;have e2:=hy.bl;subst e1 e2;exact fin rfl (by simp)
  ·cases e
 | none =>
  rw[e] at h;obtain⟨p,p',h1,h2,h3,h4,h5⟩:=h;have:=q _ h5
  cases ng with
  | false=>exact .inr ⟨p,p',hx.dat s h1,hy.dat s h2,h3,h4,by rwa [ZK] at this⟩
  | true=>exact .inr ⟨p,p',hx.dat s h1,hy.dat s h2,h3,h4,by rwa [Z0] at this⟩
theorem Eg {ng:Bool} (h:tp K cl Γ (.eq ng ca cb) σ H Q):ze (CW K ng) (tr K cl Γ ca) (tq K cl Γ cb) σ H Q :=
 Ee (c:=.eq ng ca cb) (D:=fun x y M k=>lX x y fun c=>k (.bl (ng ^^ c)) M) (fun _ _ _ z=>z) (fun x y vx vy G H M k Q s m hx hy hd q=>LV s hx hy hd fun b hk=>q _ _ M G H (bq.refl s m) Is.wR hk) h
theorem s_eq {ng:Bool} (hu:X.A.units+64<cLine) (ha:PE X a (tr X.K cl Γ ca)) (hb:PE X b (tq X.K cl Γ cb)):PE X (.Compare a [LU ng] [b] pos) (tp X.K cl Γ (.eq ng ca cb)):=(mQ (Ah hu ng) ha hb (Ai ng b)).imp fun _ _ _=>Eg
theorem QC {ng:Bool} (hu:X.A.units+64<cLine) (ha:PE X a (tr X.K cl Γ ca)) (hb:PE X b (tq X.K cl Γ cb)):PT X (.Compare a [LU ng] [b] pos) (tt X.K cl Γ (.eq ng ca cb)):=wS (Ah hu ng) ha hb (Ai ng b) fun _ _ _=>Eg
theorem GW {op:rM} (h:tp K cl Γ (.cmp op ca cb) σ H Q):ze (Af op) (tr K cl Γ ca) (tq K cl Γ cb) σ H Q :=
 Ee (c:=.cmp op ca cb) (D:=fun x y M k=>je op x y fun c=>k (.bl c) M) (fun _ _ _ z=>z) (fun x y vx vy G H M k Q s m hx hy hd q=>rO hx hy hd fun b hk=>q _ _ M G H (bq.refl s m) Is.wR hk) h
theorem GX {op:rM} (ha:PE X a (tp X.K cl Γ ca)) (hb:PE X b (tp X.K cl Γ cb)):PT X (.Compare a [yw op] [b] pos) (tt X.K cl Γ (.cmp op ca cb)):=wS (k6 op) ha.r hb.q (vK op b) fun _ _ _=>GW
noncomputable def Bz:Bool->CmpOp
 | false=>.In
 | true=>.NotIn
def wT (K:e_):R2:=fun x y H Q=>∃ p xs d ds,y=.ref p/\du K H p xs/\cC K H x d/\dX K H xs ds/\H_ d=true/\(∀ e∈ds,H_ e=true)/\Q (.bl (!ds.any fun e=>O_ e d)) H
theorem yx (hu:X.A.units+66<cLine):fG X (Wo .NotIn) (wT X.K):=by
 intro pins s σ H x y v u Q I rx ry h;obtain⟨p,xs,d,ds,rfl,hq,hd,Cb,s1,s2,q⟩:=h
 cases ry
 obtain⟨as,ra⟩:=hd.reads I v rx;obtain⟨ao,r,pl,hz⟩:=I.list hq;have F2:=dX.reads I Cb s2 ao r
 classical
 let e:Value->Bool:=fun w=>if h:∃ d',(∃ bs,Reads s.heap w d' bs)/\H_ d'=true then O_ h.choose d else false
 have he:∀ w d',((∃ bs,Reads s.heap w d' bs)/\H_ d'=true)->e w=O_ d' d:=fun w d' hx=>by
  have i8:∃ d',(∃ bs,Reads s.heap w d' bs)/\H_ d'=true:=⟨d',hx⟩;show (if h:∃ d',(∃ bs,Reads s.heap w d' bs)/\H_ d'=true then O_ h.choose d else false)=_;rw[dif_pos i8];obtain⟨⟨cs,rc⟩,sc⟩:=i8.choose_spec;obtain⟨⟨bs,rb⟩,sb⟩:=hx;rw[abu _ _ _ _ _ (W1 sc) rc rb]
 refine abk e pl.isList (fun w hw=>?_) ⟨.bl _,H,I,rfl,?_⟩
 ·obtain⟨d',hx⟩:=rL F2 w (by simpa using hw);rw[he w d' hx];obtain⟨⟨bs,rb⟩,sb⟩:=hx;exact ab4 d' d X.A.in1 s w v bs as rb ra (W1 sb) (W1 s1) (aaU sb (by rw[show X.A.in1.units=X.A.units+1 from rfl];omega))
 ·rw[show ao.toArray.any e=ao.any e by simp,rK F2 he];exact q
def GY (K:e_):Bool->R2
 | false=>fun x y H Q=>Op K false x y H Q∨Lp K x y H Q
 | true=>fun x y H Q=>Op K true x y H Q∨wT K x y H Q
theorem Aj (hu:X.A.units+66<cLine):∀ ng,fG X (Wo (Bz ng)) (GY X.K ng)
 | false=>xX.or (Gv hu)
 | true=>rC.or (yx hu)
theorem Is.flat {d:Dt}{v:V} (h:Is K cl G d v) (f:kb d=true):v=Lw d/\eO v=true:=by
 cases d<;>first | (cases f;done) | (unfold Is at h;subst h;exact⟨rfl,rfl⟩)
theorem IsL.flat:∀ {ds:List Dt}{vs:List V},IsL K cl G ds vs->ds.all kb=true->vs=ds.map Lw/\vs.all eO=true
 | [],vs,h,_=>by unfold IsL at h;subst h;exact⟨rfl,rfl⟩
 | d::ds,vs,h,f=>by
  unfold IsL at h;obtain⟨v,r,rfl,h1,h2⟩:=h;rw[WD,t_] at f;obtain⟨e1,e2⟩:=h1.flat f.1;obtain⟨e3,e4⟩:=IsL.flat h2 f.2;exact⟨by rw[p_,←e1,←e3],by rw[WD,e2,e4];rfl⟩
theorem dG.flat {d:Dt}{v:V} (h:dG K cl G H d v) (f:kb d=true):v=Lw d/\eO v=true:=by
 rcases h with h | ⟨a,o,rfl,ho,hc⟩
 ·exact h.flat f
 ·cases d<;>first | (cases f;done) | (cases ho;done)
theorem GZ {ng:Bool}{x y:Dt}{vx vy:V}{k:Bool->Prop} (s:ah G H) (hx:dG K cl G H x vx) (hy:dG K cl G H y vy) (h:vJ x y k) (q:∀ b,k b->Q (.bl (ng ^^ b)) H):GY K ng vx vy H Q:=by
 rcases h with ⟨ds,e,f1,f2,hk⟩ | ⟨ds,p,ps,e,e1,e2,h1,h2,hk⟩
 ·obtain⟨l,vs,rfl,h1,h2⟩:=hy.seq s e;obtain⟨g1,g2⟩:=hx.flat f1;obtain⟨g3,g4⟩:=h2.flat f2
  have eq:Oo vx vs=ds.any fun z=>JS z x:=by
   unfold Oo;rw[g3,Y0,g1];rfl
  have:=q _ hk;rw[←eq] at this
  cases ng with
  | false=>exact .inl ⟨l,vs,rfl,h1,g2,g4,by rwa [ZK] at this⟩
  | true=>exact .inl ⟨l,vs,rfl,h1,g2,g4,by rwa [Z0] at this⟩
 ·obtain⟨l,vs,rfl,g1,g2⟩:=hy.BH s e;have:=q _ hk
  cases ng with
  | false=>exact .inr ⟨l,vs,p,ps,rfl,g1,hx.dat s e1,g2.pD s e2,h1,h2,by rwa [ZK] at this⟩
  | true=>exact .inr ⟨l,vs,p,ps,rfl,g1,hx.dat s e1,g2.pD s e2,h1,h2,by rwa [Z0] at this⟩
theorem Ak {ng:Bool} (h:tp K cl Γ (.wP ng ca cb) σ H Q):ze (GY K ng) (tr K cl Γ ca) (tq K cl Γ cb) σ H Q :=
 Ee (c:=.wP ng ca cb) (D:=fun x y M k=>vJ x y fun c=>k (.bl (ng ^^ c)) M) (fun _ _ _ z=>z) (fun x y vx vy G H M k Q s m hx hy hd q=>GZ s hx hy hd fun b hk=>q _ _ M G H (bq.refl s m) Is.wR hk) h
noncomputable def fN:Expr->Bool
 | .Set _ _ _=>false
 | _=>true
theorem dm {op:CmpOp}{b:Expr} (h:fN b=true):WP op b=false:=by
 cases b<;>first | rfl | cases h
theorem LW {ng:Bool} (hu:X.A.units+66<cLine) (ha:PE X a (tr X.K cl Γ ca)) (hb:PE X b (tq X.K cl Γ cb)) (hs:fN b=true):PE X (.Compare a [Bz ng] [b] pos) (tp X.K cl Γ (.wP ng ca cb)):=(mQ (Aj hu ng) ha hb (dm hs)).imp fun _ _ _=>Ak
theorem LX {ng:Bool} (hu:X.A.units+66<cLine) (ha:PE X a (tr X.K cl Γ ca)) (hb:PE X b (tq X.K cl Γ cb)) (hs:fN b=true):PT X (.Compare a [Bz ng] [b] pos) (tt X.K cl Γ (.wP ng ca cb)):=wS (Aj hu ng) ha hb (dm hs) fun _ _ _=>Ak
theorem Al (h:tp K cl Γ (.ins ca cb) σ H Q):ze (fun x y H Q=>∃ i j,x=.str i/\y=.str j/\Q (.bl (!(WT j i 0 j.length 1).isEmpty)) H) (tr K cl Γ ca) (tq K cl Γ cb) σ H Q :=
 Ee (c:=.ins ca cb) (D:=fun x y M k=>nM x fun i=>nM y fun j=>k (.bl (!(WT j i 0 j.length 1).isEmpty)) M) (fun _ _ _ z=>z) (fun x y vx vy G H M k Q s m hx hy hd q=>by
  obtain⟨i,rfl,hd2⟩:=k7 hd;obtain⟨j,rfl,G0⟩:=k7 hd2;exact⟨i,j,hx.str,hy.str,q _ _ M G H (bq.refl s m) Is.wR G0⟩) h
theorem LY (ha:PE X a (tp X.K cl Γ ca)) (hb:PE X b (tp X.K cl Γ cb)) (hs:fN b=true):PE X (.Compare a [.In] [b] pos) (tp X.K cl Γ (.ins ca cb)):=(mQ qp ha.r hb.q (dm hs)).imp fun _ _ _=>Al
theorem LZ (ha:PE X a (tp X.K cl Γ ca)) (hb:PE X b (tp X.K cl Γ cb)) (hs:fN b=true):PT X (.Compare a [.In] [b] pos) (tt X.K cl Γ (.ins ca cb)):=wS qp ha.r hb.q (dm hs) fun _ _ _=>Al
theorem Am (h:tp K cl Γ (.ind ca cb) σ H Q):Lb (tp K cl Γ ca) (tp K cl Γ cb) σ H Q:=by
 obtain⟨B,ρ,M,G,R,h1,h2,h3⟩:=h;refine⟨B,ρ,M,G,_,h1,h2,fun x vx M1 G1 H1 f1 i1 hx=>⟨B,ρ,M1,G1,_,h1.on f1,hx,fun y vy M2 G2 H2 f2 i2 hy=>?_⟩⟩;obtain⟨i,rfl,hz⟩:=bo hy
 cases y with
 | BG ks =>
  unfold Is at i1 i2;obtain⟨p,am,rfl,e,hk⟩:=i2;subst i1;refine⟨p,_,rfl,zP.k (k:=XU i) (f2.gh _ _ e),?_⟩;exact h3 _ _ M2 G2 H2 (f1.trans f2) (by unfold Is;rw[hk]) hz
 | _=>exact (show False from hz).elim
theorem L0 (hu:X.A.units+64<cLine) (ha:PE X a (tp X.K cl Γ ca)) (hb:PE X b (tp X.K cl Γ cb)) (hs:fN b=true):PE X (.Compare a [.In] [b] pos) (tp X.K cl Γ (.ind ca cb)):=(yY (zQ (by omega) ha hb) (dm hs)).imp fun _ _ _=>Am
theorem L1 (hu:X.A.units+64<cLine) (ha:PE X a (tp X.K cl Γ ca)) (hb:PE X b (tp X.K cl Γ cb)) (hs:fN b=true):PT X (.Compare a [.In] [b] pos) (tt X.K cl Γ (.ind ca cb)):=(yZ (zQ (by omega) ha hb) (dm hs)).imp fun _ _ _ h=>Am (tX h)
theorem An {o1 o2:rM} (h:tp K cl Γ (.Ab o1 o2 ca cb cc) σ H Q):u9 (Af o1) (Af o2) (tp K cl Γ ca) (tp K cl Γ cb) (tp K cl Γ cc) σ H Q:=by
 obtain⟨B,ρ,M,G,R,h1,h2,h3⟩:=h;refine⟨B,ρ,M,G,_,h1,h2,fun x vx M1 G1 H1 f1 i1 hx=>⟨B,ρ,M1,G1,_,h1.on f1,hx,fun y vy M2 G2 H2 f2 i2 hy=>?_⟩⟩;have L3:=f1.trans f2;refine rO (.inl (i1.mono f2.g)) (.inl i2) (show je o1 x y (fun k=>if k=true then ev Γ cc ρ M2 fun z M3=>av z fun z=>je o2 y z fun k=>R [.bl k] M3 else R [.bl false] M2) from hy) fun b hb=>⟨b,rfl,?_⟩
 cases b with
 | false=>rw[n_ q_] at hb ⊢;exact h3 _ _ M2 G2 H2 L3 Is.wR hb
 | true =>
  rw[w_ rfl] at hb ⊢;refine⟨B,ρ,M2,G2,_,h1.on L3,hb,fun z vz M3 G3 H3 f3 i3 hz=>rO (.inl (i2.mono f3.g)) (.inl i3) (show je o2 y z (fun k=>R [.bl k] M3) from hz) fun b hb=>h3 _ _ M3 G3 H3 (L3.trans f3) Is.wR hb⟩
theorem Eh {o1 o2:rM}{b c:Expr}:lastMarks [yw o1,yw o2] [b,c]=false:=vK o2 c
theorem L4 {o1 o2:rM}{c:Expr} (ha:PE X a (tp X.K cl Γ ca)) (hb:PE X b (tp X.K cl Γ cb)) (hc:PE X c (tp X.K cl Γ cc)):PE X (.Compare a [yw o1,yw o2] [b,c] pos) (tp X.K cl Γ (.Ab o1 o2 ca cb cc)):=(zh (k6 o1) (k6 o2) ha hb hc Eh).imp fun _ _ _=>An
theorem L5 {o1 o2:rM}{c:Expr} (ha:PE X a (tp X.K cl Γ ca)) (hb:PE X b (tp X.K cl Γ cb)) (hc:PE X c (tp X.K cl Γ cc)):PT X (.Compare a [yw o1,yw o2] [b,c] pos) (tt X.K cl Γ (.Ab o1 o2 ca cb cc)):=(zi (k6 o1) (k6 o2) ha hb hc Eh).imp fun _ _ _ h=>An (tX h)
variable {rest:List Expr}
theorem Ao {op} (h:PE X a (tp X.K cl Γ ca)):PE X (.BoolOp op [a] pos) (tp X.K cl Γ (.one ca)):=(E9 h).imp fun _ _ _ h=>by obtain⟨B,ρ,M,G,R,h1,h2,h3⟩:=h;exact⟨B,ρ,M,G,R,h1,h2,h3⟩
theorem Ap (ha:PE X a (tp X.K cl Γ ca)) (hb:PE X (.BoolOp .And (b::rest) pos) (tp X.K cl Γ cb)):PE X (.BoolOp .And (a::b::rest) pos) (tp X.K cl Γ (.and ca cb)):=(Fa ha hb).imp fun σ H Q h=>by
 obtain⟨B,ρ,M,G,R,h1,h2,h3⟩:=h;refine⟨B,ρ,M,G,_,h1,h2,fun x vx M1 G1 H1 f1 i1 hx=>?_⟩;obtain⟨b,rfl,hy⟩:=f7 hx;unfold Is at i1;refine⟨b,i1,?_⟩
 cases b with
 | false=>rw[n_ q_] at hy ⊢;exact h3 _ _ M1 G1 H1 f1 Is.wR hy
 | true=>rw[w_ rfl] at hy ⊢;exact⟨B,ρ,M1,G1,R,h1.on f1,hy,fun d v M2 G2 H2 f2=>h3 d v M2 G2 H2 (f1.trans f2)⟩
theorem G4 (ha:PE X a (tp X.K cl Γ ca)) (hb:PE X (.BoolOp .Or (b::rest) pos) (tp X.K cl Γ cb)):PE X (.BoolOp .Or (a::b::rest) pos) (tp X.K cl Γ (.or ca cb)):=(J9 ha hb).imp fun σ H Q h=>by
 obtain⟨B,ρ,M,G,R,h1,h2,h3⟩:=h;refine⟨B,ρ,M,G,_,h1,h2,fun x vx M1 G1 H1 f1 i1 hx=>?_⟩;obtain⟨b,rfl,hy⟩:=f7 hx;unfold Is at i1;refine⟨b,i1,?_⟩
 cases b with
 | true=>rw[w_ rfl] at hy ⊢;exact h3 _ _ M1 G1 H1 f1 Is.wR hy
 | false=>rw[n_ q_] at hy ⊢;exact⟨B,ρ,M1,G1,R,h1.on f1,hy,fun d v M2 G2 H2 f2=>h3 d v M2 G2 H2 (f1.trans f2)⟩
theorem Aq (ha:PE X a (tp X.K cl Γ ca)):PE X (.UnaryOp .Not a pos) (tp X.K cl Γ (.not ca)):=(Fb ha).imp fun σ H Q h=>by
 obtain⟨B,ρ,M,G,R,h1,h2,h3⟩:=h;refine⟨B,ρ,M,G,_,h1,h2,fun x vx M1 G1 H1 f1 i1 hx=>?_⟩;obtain⟨b,rfl,hy⟩:=f7 hx;unfold Is at i1;exact⟨b,i1,h3 _ _ M1 G1 H1 f1 Is.wR hy⟩
theorem w_and1 (ha:PT X a (tt X.K cl Γ ca)):PW X (.BoolOp .And [a] pos) (tt X.K cl Γ (.one ca)):=(BX ha).imp fun _ _ _ h=>by obtain⟨B,ρ,M,G,R,h1,h2,h3⟩:=h;exact⟨B,ρ,M,G,R,h1,h2,h3⟩
theorem w_or1 (ha:PT X a (tt X.K cl Γ ca)):PW X (.BoolOp .Or [a] pos) (tt X.K cl Γ (.one ca)):=(E6 ha).imp fun _ _ _ h=>by obtain⟨B,ρ,M,G,R,h1,h2,h3⟩:=h;exact⟨B,ρ,M,G,R,h1,h2,h3⟩
theorem w_and (ha:PT X a (tt X.K cl Γ ca)) (hb:PW X (.BoolOp .And (b::rest) pos) (tt X.K cl Γ cb)):PW X (.BoolOp .And (a::b::rest) pos) (tt X.K cl Γ (.and ca cb)):=(E7 ha hb).imp fun σ H Q h=>by
 obtain⟨B,ρ,M,G,k,h1,h2,h3⟩:=h;refine⟨B,ρ,M,G,fun c M1=>if c=true then ev Γ cb ρ M1 (kB k) else k false M1,h1,h2,fun c M1 G1 H1 f1 hx=>?_⟩
 cases c with
 | false=>rw[n_ q_] at hx ⊢;exact h3 _ M1 G1 H1 f1 hx
 | true=>rw[w_ rfl] at hx ⊢;exact⟨B,ρ,M1,G1,k,h1.on f1,hx,fun d M2 G2 H2 f2=>h3 d M2 G2 H2 (f1.trans f2)⟩
theorem w_or (ha:PT X a (tt X.K cl Γ ca)) (hb:PW X (.BoolOp .Or (b::rest) pos) (tt X.K cl Γ cb)):PW X (.BoolOp .Or (a::b::rest) pos) (tt X.K cl Γ (.or ca cb)):=(J6 ha hb).imp fun σ H Q h=>by
 obtain⟨B,ρ,M,G,k,h1,h2,h3⟩:=h;refine⟨B,ρ,M,G,fun c M1=>if c=true then k true M1 else ev Γ cb ρ M1 (kB k),h1,h2,fun c M1 G1 H1 f1 hx=>?_⟩
 cases c with
 | true=>rw[w_ rfl] at hx ⊢;exact h3 _ M1 G1 H1 f1 hx
 | false=>rw[n_ q_] at hx ⊢;exact⟨B,ρ,M1,G1,k,h1.on f1,hx,fun d M2 G2 H2 f2=>h3 d M2 G2 H2 (f1.trans f2)⟩
theorem L6 (ha:PT X a (tt X.K cl Γ ca)):PT X (.UnaryOp .Not a pos) (tt X.K cl Γ (.not ca)):=(E8 ha).imp fun σ H Q h=>by
 obtain⟨B,ρ,M,G,k,h1,h2,h3⟩:=h;exact⟨B,ρ,M,G,fun c M1=>k (!c) M1,h1,h2,fun c M1 G1 H1 f1 hx=>h3 _ M1 G1 H1 f1 hx⟩
theorem QD (ha:PE X a (tq X.K cl Γ ca)) (he:∀ whole,aaL a X.env whole=(do let v ←whole;aa1 a.pos;aae [v] (truthy v))):PT X a (tt X.K cl Γ (.tr ca)):=(zj ha he).imp fun σ H Q h=>by
 obtain⟨B,ρ,M,G,k,h1,h2,h3⟩:=h;refine⟨B,ρ,M,G,_,h1,h2,fun x vx M1 G1 H1 f1 i1 hx=>?_⟩
 have nil:∀ {ds:List Dt}{vs:List V},IsL X.K cl G1 ds vs->(!ds.isEmpty) = !vs.isEmpty:=fun {ds vs} i=>by
  have:=i.length
  cases ds<;>cases vs<;>first | rfl | cases this
 cases x with
 | bl b=>have e:=i1.bl;subst e;exact⟨b,rfl,h3 b M1 G1 H1 f1 hx⟩
 | int i=>have e:=i1.int;subst e;exact⟨_,rfl,h3 _ M1 G1 H1 f1 hx⟩
 | lst ds=>obtain⟨l,vs,rfl,h4,h5⟩:=i1.BH f1.gh rfl;exact⟨_,.inl ⟨vs,h4,nil h5⟩,h3 _ M1 G1 H1 f1 hx⟩
 | nL ds=>obtain⟨l,vs,rfl,h4,h5⟩:=i1.BH f1.gh rfl;exact⟨_,.inl ⟨vs,h4,nil h5⟩,h3 _ M1 G1 H1 f1 hx⟩
 | tup ds=>obtain⟨l,vs,rfl,h4,h5⟩:=i1.JP f1.gh rfl;exact⟨_,.inr (.inl ⟨vs,h4,nil h5⟩),h3 _ M1 G1 H1 f1 hx⟩
 | _=>exact (show False from hx).elim
theorem L7 {t:Expr} (ht:PT X t (tt X.K cl Γ c)) (ha:PE X a (tp X.K cl Γ ca)) (hb:PE X b (tp X.K cl Γ cb)):PE X (.IfExp t a b pos) (tp X.K cl Γ (.GG c ca cb)):=(y4 ht ha hb).imp fun σ H Q h=>by
 obtain⟨B,ρ,M,G,R,h1,h2,h3⟩:=h;refine⟨B,ρ,M,G,fun c M1=>if c=true then ev Γ ca ρ M1 R else ev Γ cb ρ M1 R,h1,h2,fun c M1 G1 H1 f1 hx=>?_⟩
 cases c with
 | true=>rw[w_ rfl] at hx ⊢;exact⟨B,ρ,M1,G1,R,h1.on f1,hx,fun d v M2 G2 H2 f2=>h3 d v M2 G2 H2 (f1.trans f2)⟩
 | false=>rw[n_ q_] at hx ⊢;exact⟨B,ρ,M1,G1,R,h1.on f1,hx,fun d v M2 G2 H2 f2=>h3 d v M2 G2 H2 (f1.trans f2)⟩
end
end PV
namespace PV
open PySem L2 SH
noncomputable def iX:Expr->Bool
 | .Slice _ _ _ _=>false
 | _=>true
theorem Ar {b:Expr} (h:iX b=true):wE b:=fun o i=>by
 cases b<;>first | rfl | cases h
noncomputable def cY:Expr->Bool
 | .Call (.Name _ _) [] [] _=>false
 | _=>true
theorem fR {e:Expr}{f:Str}{env:Env}{w:Sem Value} (h:cY e=true):XI e f env w=w:=by
 unfold XI;split
 ·cases h
 ·rfl
section
variable {K:e_}{cl:Cl}{Γ:Gm}{c ca cb cc:C}{σ:St}{G H:Hp}{Q:VK}{X:Cx}{e a b:Expr}{es:List Expr}{pos p:Pos}
theorem L8 {x:Dt}{vx:V}{i:Int}{k:Dt->Prop} (s:ah G H) (hx:dG K cl G H x vx) (h:iW x i k) (q:∀ d v,Is K cl G d v->k d->Q v H):Pw K vx (.int i) H Q:=by
 have fin:∀ {ds:List Dt},ka x=some ds->atK ds i k->Pw K vx (.int i) H Q:=fun {ds} e ⟨d,h1,h2⟩=>by
  obtain⟨l,vs,rfl,h3,h4⟩:=hx.seq s e;obtain⟨v,h5,h6⟩:=h4.at h1;rcases h3 with h3 | h3
  ·exact .inl ⟨l,vs,i,v,rfl,rfl,h3,h5,q d v h6 h2⟩
  ·exact .inr (.inl ⟨l,vs,i,v,rfl,rfl,h3,h5,q d v h6 h2⟩)
 cases x with
 | str z =>
  have e:=hx.str;subst e;obtain⟨h1,c,h2,h3⟩:=h;exact .inr (.inr ⟨z,i,c,rfl,rfl,h1,h2,q _ _ (by unfold Is;rfl) h3⟩)
 | lst ds=>exact fin rfl h
 | nL ds=>exact fin rfl h
 | tup ds=>exact fin rfl h
 | fE ds=>exact fin rfl h
 | uY ds=>exact fin rfl h
 | pz ds=>exact fin rfl h
 | _=>exact (show False from h).elim
theorem QE (ha:PE X a (tr X.K cl Γ ca)) (hb:PE X b (tp X.K cl Γ cb)) (hs:iX b=true):PE X (.Subscript a b pos) (tp X.K cl Γ (.ix ca cb)) :=
 (KD FM ha hb.q (Ar hs)).imp fun σ H Q h=>Ee (c:=.ix ca cb) (D:=fun x y M k=>intD y fun i=>iW x i fun d=>k d M) (fun _ _ _ z=>z) (fun x y vx vy G H M k Q s m hx hy hd q=>by
  obtain⟨i,rfl,hd2⟩:=bo hd;have e:=hy.int;subst e;exact L8 s hx hd2 fun d v i hk=>q d v M G H (bq.refl s m) i hk) h
theorem G5:PO X none (to X.K cl Γ .nil):=Cd.imp fun σ H Q h=>by
 obtain⟨B,ρ,M,G,k,h1,h2,h3⟩:=h;exact h3 none M G H h1.self h2
variable {lo hi:k_ Expr}{BJ ch:C}{p2:Pos}
theorem Ei {r:V->k_ Int->k_ Int->Hp->VK->Prop}{D:Dt->k_ Int->k_ Int->Mem->(Dt->Mem->Prop)->Prop} (he:∀ ρ M R,ev Γ c ρ M R->ev Γ ca ρ M fun x M1=>av x fun x=>ev Γ BJ ρ M1 fun l M2=>ij l fun l=>ev Γ ch ρ M2 fun h M3=>ij h fun h=>D x l h M3 fun d M4=>R [d] M4)
  (hr:∀ x v l u G H M (k:Dt->Mem->Prop) (Q:VK),ah G H->bW K cl G H M->dG K cl G H x v->D x l u M k->(∀ d v M' G' H',bq K cl none G H M G' H' M'->Is K cl G' d v->k d M'->Q v H')->r v l u H Q)
  (h:tp K cl Γ c σ H Q):R0 r (tr K cl Γ ca) (to K cl Γ BJ) (to K cl Γ ch) σ H Q:=by
 obtain⟨B,ρ,M,G,R,h1,h2,h3⟩:=h;refine⟨B,ρ,M,G,_,h1,he _ _ _ h2,fun x vx M1 G1 H1 f1 i1 hx=>⟨B,ρ,M1,G1,_,h1.on f1,hx,fun l M2 G2 H2 f2 hl=>⟨B,ρ,M2,G2,_,(h1.on f1).on f2,hl,fun u M3 G3 H3 f3 hu=>?_⟩⟩⟩;exact hr x vx l u G3 H3 M3 _ Q f3.gh f3.mem ((i1.cz f2).cz f3).q hu fun d v M' G' H' f4 i4 h4=>h3 d v M' G' H' (((f1.trans f2).trans f3).trans f4) i4 h4
theorem L9 (ha:PE X a (tr X.K cl Γ ca)) (hl:PO X lo (to X.K cl Γ BJ)) (hh:PO X hi (to X.K cl Γ ch)):PE X (.Subscript a (.Slice lo hi none p2) pos) (tp X.K cl Γ (.CQ ca BJ ch)) :=
 (nv F8 ha hl hh).imp fun σ H Q h=>Ei (c:=.CQ ca BJ ch) (D:=fun x l u M k=>nM x fun z=>z.length<=sizeLine/\k (.str (Xs z l u)) M) (fun _ _ _ z=>z) (fun x v l u G H M k Q s m hx hd q=>by
  obtain⟨z,rfl,h1,h2⟩:=k7 hd;exact⟨z,hx.str,h1,q _ _ M G H (bq.refl s m) (by unfold Is;rfl) h2⟩) h
theorem dG.QF {d:Dt}{v:V}{ds:List Dt} (s:ah G H) (h:dG K cl G H d v) (e:mC d=some ds):∃ a vs,v=.ref a/\Rd G a (.tup vs)/\IsL K cl G ds vs:=by
 rcases h with h | ⟨a,o,rfl,ho,hc⟩
 ·cases d<;>first | (cases e;done) | skip
  ·cases e;unfold Is at h;obtain⟨a,vs,e,q,r⟩:=h;exact⟨a,vs,e,.inl q,r⟩
  ·cases e;unfold Is at h;obtain⟨a,vs,e,⟨o,q,_⟩,r⟩:=h;exact⟨a,vs,e,.inr ⟨o,q⟩,r⟩
  ·cases e;unfold Is at h;exact h
 ·cases d<;>first | (cases e;done) | (cases ho;done)
theorem kf {a:Addr}{u:HO} (s:ah G H) (h:Rd G a u):Rd H a u:=h.elim (fun z=>.inl (s _ _ z)) (fun⟨o,z⟩=>.inr ⟨o,s _ _ z⟩)
theorem As {xs:List V}{lo hi:k_ Int} (h:HT.bR xs.length 0 lo=0/\HT.bR xs.length xs.length hi=xs.length):mv xs lo hi=xs:=by
 unfold mv;rw[h.1,h.2,acB,abQ,XS]
theorem Ma (ha:PE X a (tr X.K cl Γ ca)) (hl:PO X lo (to X.K cl Γ BJ)) (hh:PO X hi (to X.K cl Γ ch)):PE X (.Subscript a (.Slice lo hi none p2) pos) (tp X.K cl Γ (.slt ca BJ ch)) :=
 (nv CL ha hl hh).imp fun σ H Q h=>Ei (c:=.slt ca BJ ch) (D:=fun x l u M k=>eJ (mC x) fun ds=>k (.pz (cutD ds l u)) M) (fun _ _ _ z=>z) (fun x v l u G H M k Q s m hx hd q=>by
  obtain⟨ds,e,hk⟩:=cw hd;obtain⟨t,vs,rfl,h1,h2⟩:=hx.QF s e;have h3:=h2.cut l u;refine⟨t,vs,rfl,.inl (kf s h1),fun w=>q _ _ M G H (bq.refl s m) ?_ hk,fun _ p hp=>?_⟩
  ·unfold Is;rw[As w] at h3;exact⟨t,vs,rfl,h1,h3⟩
  ·have f2:=bq.lay (o:=.tup (mv vs l u)) s m hp;exact q _ _ M _ _ f2 (by unfold Is;exact⟨p,_,rfl,.inl aA,h3.mono f2.g⟩) hk) h
theorem Mb (ha:PE X a (tr X.K cl Γ ca)) (hl:PO X lo (to X.K cl Γ BJ)) (hh:PO X hi (to X.K cl Γ ch)):PE X (.Subscript a (.Slice lo hi none p2) pos) (tf X.K cl Γ (.Ac ca BJ ch)) :=
 (nv Ck ha hl hh).imp fun σ H Q h=>by
  obtain⟨B,ρ,M,G,R,h1,h2,h3⟩:=h;refine⟨B,ρ,M,G,_,h1,h2,fun x vx M1 G1 H1 f1 i1 hx=>⟨B,ρ,M1,G1,_,h1.on f1,hx,fun l M2 G2 H2 f2 hl=>⟨B,ρ,M2,G2,_,(h1.on f1).on f2,hl,fun u M3 G3 H3 f3 hu=>?_⟩⟩⟩;obtain⟨ds,e,hk⟩:=cw hu;obtain⟨t,vs,rfl,h4,h5⟩:=((i1.cz f2).cz f3).q.BH f3.gh e;exact⟨t,vs,rfl,h4,fun p hp=>h3 _ _ M3 G3 H3 p ((f1.trans f2).trans f3) hp (h5.cut l u) hk⟩
theorem Me (ha:PE X a (tr X.K cl Γ ca)) (hb:PE X b (tq X.K cl Γ cb)):PE X (.BinOp a .Add b pos) (tf X.K cl Γ (.cat ca cb)) :=
 (DY FR ha hb).imp fun σ H Q h=>Ul (c:=.cat ca cb) (D:=fun x y M k=>lstK x fun ds=>lstK y fun es=>ds.length+es.length<=sizeLine/\k (ds++es) M) (fun _ _ _ z=>z) (fun x y vx vy G H M k Q s m hx hy hd q=>by
  obtain⟨ds,rfl,hd2⟩:=fM hd;obtain⟨es,rfl,h1,h2⟩:=fM hd2;obtain⟨l,vs,rfl,h3,h4⟩:=hx.lst s;obtain⟨l',us,rfl,h5,h6⟩:=hy.lst s;exact⟨l,l',vs,us,rfl,rfl,h3,h5,by rw[←h4.length,←h6.length];exact h1,fun p hp=>q _ _ M G H p (bq.refl s m) hp (h4.append h6) h2⟩) h
theorem dG.obj {n:Nat}{fs:List Str}{ds:List Dt}{v:V} (s:ah G H) (h:dG K cl G H (.obj n fs ds) v):∃ a dx vs,v=.ref a/\H a=some (.ins (cl n) dx (fs.zip vs))/\fs.length=ds.length/\IsL K cl G ds vs:=by
 rcases h with h | ⟨a,o,rfl,ho,hc⟩
 ·unfold Is at h;obtain⟨a,dx,vs,e,q,l,r⟩:=h;exact⟨a,dx,vs,e,s _ _ q,l,r⟩
 ·cases ho;obtain⟨dx,vs,h1,h2,h3⟩:=hc;exact⟨a,dx,vs,rfl,h1,h2,h3⟩
theorem nO {f:Str}{d:Dt}:∀ {fs:List Str}{ds:List Dt}{vs:List V},IsL K cl G ds vs->(fs.zip ds).lookup f=some d->∃ v,(fs.zip vs).lookup f=some v/\Is K cl G d v
 | [],_,_,_,h=>by simp at h
 | g::fs,[],_,_,h=>by simp at h
 | g::fs,e::ds,vs,i,h=>by
  unfold IsL at i;obtain⟨v,r,rfl,i1,i2⟩:=i;rw[Xx,V7] at h ⊢
  cases q:f==g with
  | true=>rw[q] at h;cases h;exact⟨v,rfl,i1⟩
  | false=>rw[q] at h;exact nO i2 h
theorem Mf {f:Str} (So:∀ n f,Γ.at_ n f=true->sZ X.K (cl n)/\dW X.K (cl n) f) (ha:PE X a (tq X.K cl Γ ca)) (hb:cY a=true):PE X (.Attribute a f pos) (tp X.K cl Γ (.fld ca f)) :=
 (FC ha (fR hb)).imp fun σ H Q h=>LA (c:=.fld ca f) (r:=fun x H1 Q=>∃ a C dx fs v,x=.ref a/\H1 a=some (.ins C dx fs)/\sZ X.K C/\dW X.K C f/\fs.lookup f=some v/\Q v H1) (D:=fun x M k=>eK Γ f x fun d=>k d M) (fun _ _ _ z=>z) (fun x v G H M k Q s m hx hd q=>by
  cases x with
  | obj n fs ds =>
   obtain⟨h1,d,h2,h3⟩:=hd;obtain⟨a,dx,vs,rfl,h4,h5,h6⟩:=hx.obj s;obtain⟨v,h7,h8⟩:=nO h6 h2;exact⟨a,_,dx,_,v,rfl,h4,(So n f h1).1,(So n f h1).2,h7,q d v M G H (bq.refl s m) h8 h3⟩
  | _=>exact (show False from hd).elim) h
noncomputable def BK:Nat->YA
 | 0 => "int" | 1 => "bool" | 2 => "str" | 3 => "list" | 4 => "tuple" | _ => "NoneType"
theorem G6 {n t:Nat} (hn:n<6) (ht:t<5):YU K (.type (BK n)) (.type (BK t))=some (n==t||(n==1&&t==0)):=by
 have h:∀ n<6,∀ t<5,YU K (.type (BK n)) (.type (BK t))=some (n==t||(n==1&&t==0)):=by
  intro n hn t ht
  match n,hn with
  | 0,_=>match t,ht with | 0,_=>kernel_rfl | 1,_=>kernel_rfl | 2,_=>kernel_rfl | 3,_=>kernel_rfl | 4,_=>kernel_rfl
  | 1,_=>match t,ht with | 0,_=>kernel_rfl | 1,_=>kernel_rfl | 2,_=>kernel_rfl | 3,_=>kernel_rfl | 4,_=>kernel_rfl
  | 2,_=>match t,ht with | 0,_=>kernel_rfl | 1,_=>kernel_rfl | 2,_=>kernel_rfl | 3,_=>kernel_rfl | 4,_=>kernel_rfl
  | 3,_=>match t,ht with | 0,_=>kernel_rfl | 1,_=>kernel_rfl | 2,_=>kernel_rfl | 3,_=>kernel_rfl | 4,_=>kernel_rfl
  | 4,_=>match t,ht with | 0,_=>kernel_rfl | 1,_=>kernel_rfl | 2,_=>kernel_rfl | 3,_=>kernel_rfl | 4,_=>kernel_rfl
  | 5,_=>match t,ht with | 0,_=>kernel_rfl | 1,_=>kernel_rfl | 2,_=>kernel_rfl | 3,_=>kernel_rfl | 4,_=>kernel_rfl
 exact h n hn t ht
theorem G7 {x:Dt}{v:V}{n:Nat} (s:ah G H) (hx:dG K cl G H x v) (e:isiN x=some n):n<6/\jn K H v (.type (BK n)):=by
 cases x<;>first | (cases e;done) | skip
 ·cases e;have:=hx.aK;subst this;exact⟨by decide,.aK⟩
 ·cases e;have:=hx.bl;subst this;exact⟨by decide,.bl _⟩
 ·cases e;have:=hx.int;subst this;exact⟨by decide,.int _⟩
 ·cases e;have:=hx.str;subst this;exact⟨by decide,.str _⟩
 ·cases e;obtain⟨a,vs,rfl,h1,_⟩:=hx.lst s;exact⟨by decide,.lst h1⟩
 ·cases e
  rcases hx with h | ⟨a,o,rfl,ho,hc⟩
  ·unfold Is at h;obtain⟨a,vs,rfl,q,_⟩:=h;exact⟨by decide,.tup (s _ _ q)⟩
  ·cases ho
theorem CY {t:Nat} (ht:t<5) {x:Str} (hx:x=WR (BK t)):WQ x=some (.type (BK t))/\x ≠ "__name__" /\ (x==("__debug__" : Str))=false:=by
 subst hx
 match t,ht with
 | 0,_=>exact⟨aaH,by decide,by decide⟩
 | 1,_=>exact⟨PyProof.Rows.boot_bool,by decide,by decide⟩
 | 2,_=>exact⟨PyProof.Rows.boot_str,by decide,by decide⟩
 | 3,_=>exact⟨X5,by decide,by decide⟩
 | 4,_=>exact⟨YL,by decide,by decide⟩
theorem Mg {t:Nat}{x:Str}{px:Pos} (ht:t<5) (hx:x=WR (BK t)) (hg:Gl X "isinstance") (hm:X.mg "isinstance" = none) (G8:Gl X x) (BL:X.mg x=none) (ha:PE X a (tq X.K cl Γ ca)) (hs:noStar a=true) :
  PE X (.Call (.Name "isinstance" p) [a,.Name x px] [] pos) (tp X.K cl Γ (.tV ca t)):=by
 obtain⟨b1,b2,b3⟩:=CY ht hx
 refine (nr ya hg hm PyProof.Rows.boot_isinstance (aI ha (aI (K4 G8 BL b1 b2 b3) bz) (ag hs)) (by decide) (by decide) (ag hs) rfl).imp fun σ H Q h =>
  LA (c:=.tV ca t) (r:=fun v H Q=>∃ x n ty b,[v,V.ty (BK t)]=[x,.ty n]/\jn X.K H x ty/\YU X.K ty (.type n)=some b/\Q (.bl b) H) (D:=fun x M k=>isiD t x fun c=>k (.bl c) M) (fun _ _ _ z=>z) (fun x v G H M k Q s m hx hd q=>by
   unfold isiD at hd
   cases e:isiN x with
   | none=>rw[e] at hd;exact hd.elim
   | some n =>
    rw[e] at hd;obtain⟨h1,h2⟩:=G7 s hx e;exact⟨v,_,_,_,rfl,h2,G6 h1 ht,q _ _ M G H (bq.refl s m) Is.wR hd⟩) h
theorem G9 (hc:X.calm=true) (hg:Gl X "min") (hm:X.mg "min" = none) (ha:PE X a (tp X.K cl Γ ca)) (hb:PE X b (tp X.K cl Γ cb)) (hs:noStar a=true) (gT:noStar b=true):PE X (.Call (.Name "min" p) [a,b] [] pos) (tp X.K cl Γ (.min2 ca cb)) :=
 Ag (c:=.min2 ca cb) (D:=fun x y M k=>intD x fun i=>intD y fun j=>k (.int (if j<i then j else i)) M) (xQ hc) hg hm (by decide +kernel) (by decide) (by decide) ha.r hb.q hs gT (fun _ _ _ z=>z) (fun x y vx vy G H M k Q s m hx hy hd q=>by
  obtain⟨i,rfl,hd2⟩:=bo hd;obtain⟨j,rfl,G0⟩:=bo hd2;have e1:=hx.int;have e2:=hy.int;subst e1 e2;exact⟨i,j,rfl,q _ _ M G H (bq.refl s m) (by unfold Is;rfl) G0⟩)
theorem Ha (hc:X.calm=true) (hg:Gl X "max") (hm:X.mg "max" = none) (ha:PE X a (tp X.K cl Γ ca)) (hb:PE X b (tp X.K cl Γ cb)) (hs:noStar a=true) (gT:noStar b=true):PE X (.Call (.Name "max" p) [a,b] [] pos) (tp X.K cl Γ (.max2 ca cb)) :=
 Ag (c:=.max2 ca cb) (D:=fun x y M k=>intD x fun i=>intD y fun j=>k (.int (if j>i then j else i)) M) (xP hc) hg hm (by decide +kernel) (by decide) (by decide) ha.r hb.q hs gT (fun _ _ _ z=>z) (fun x y vx vy G H M k Q s m hx hy hd q=>by
  obtain⟨i,rfl,hd2⟩:=bo hd;obtain⟨j,rfl,G0⟩:=bo hd2;have e1:=hx.int;have e2:=hy.int;subst e1 e2;exact⟨i,j,rfl,q _ _ M G H (bq.refl s m) (by unfold Is;rfl) G0⟩)
theorem Mh (hc:X.calm=true) (hg:Gl X "dict") (hm:X.mg "dict" = none) (ha:PE X a (tq X.K cl Γ ca)) (hs:noStar a=true):PE X (.Call (.Name "dict" p) [a] [] pos) (tp X.K cl Γ (.yc ca)) :=
 rP (c:=.yc ca) (D:=fun x M k=>∃ ks:List Int,x=.lst (ks.map fun k=>.tup [.int k,.bl true])/\ks.length<=900/\k (.BG ks) M) (vw hc) hg hm PyProof.Rows.boot_dict (by decide) (by decide) ha hs (fun _ _ _ z=>z) (fun x v G H M k Q s m hx hd q=>by
  obtain⟨ks,rfl,h1,h2⟩:=hd;obtain⟨l,vs,rfl,h3,h4⟩:=hx.lst s;have hl:=h4.length;rw[a_] at hl;refine⟨l,vs,ks.map fun k=>(XU k,.bl true),rfl,du.of h3,by rw[a_,hl],by rw[a_];exact h1,fun j y pr hy Ot=>?_,fun d hd=>?_⟩
  ·obtain⟨dd,h5,h6⟩:=h4.get' hy;rw[g_] at h5 Ot;obtain⟨k1,e1,rfl⟩:=m_.mp h5;obtain⟨k2,e2,rfl⟩:=m_.mp Ot;rw[e1] at e2;cases e2;unfold Is at h6;obtain⟨t,us,rfl,h7,h8⟩:=h6;unfold IsL at h8;obtain⟨u1,r1,rfl,g1,h8⟩:=h8;unfold IsL at h8;obtain⟨u2,r2,rfl,g2,h8⟩:=h8;unfold IsL at h8;unfold Is at g1 g2;subst h8 g1 g2;exact⟨t,rfl,s _ _ h7⟩
  ·have f2:=bq.lay (o:=.dK ((ks.map fun k=>((XU k:Key),V.bl true)).foldl (fun a p=>putK a p.1 p.2) [])) s m hd;exact q _ _ M _ _ f2 (by unfold Is;exact⟨d,_,rfl,aA,fun j=>by rw[zV];simp [dJ]⟩) h2)
end
end PV
namespace PV
open PySem L2 SH
section
variable {K:e_}{cl:Cl}{Γ:Gm}{c ca cb cc:C}{σ:St}{G H:Hp}{Q:VK}{X:Cx}{e a b tg:Expr}{es:List Expr}{pos p:Pos}
theorem yy {d:Dt}{k:List Dt->Prop} (h:CU d k):∃ ds,d=.fE ds/\k ds:=by
 cases d with
 | fE ds=>exact⟨ds,rfl,h⟩
 | _=>exact (show False from h).elim
theorem Mi {apos:Pos} (ha:PE X a (tp X.K cl Γ ca)) (hb:PE X b (tp X.K cl Γ cb)) (nw:cY a=true) (hs:noStar b=true) (bS:(apos.endLine==pos.line)=true):PE X (.Call (.Attribute a "count" apos) [b] [] pos) (tp X.K cl Γ (.cnt ca cb)) :=
 (yl ha (aI hb bz (ag hs)) (fR nw) (by rw[kc (by simp [hs])];rfl) bS (ag hs) rfl).imp fun σ H Q h=>by
  obtain⟨B,ρ,M,G,R,h1,h2,h3⟩:=h;refine⟨B,ρ,M,G,_,h1,h2,fun x vx M1 G1 H1 f1 i1 hx=>?_⟩;obtain⟨ds,rfl,hy⟩:=yy hx;unfold Is at i1;obtain⟨t,vs,rfl,h4,h5⟩:=i1;refine⟨t,vs,rfl,h4.same f1.gh,B,ρ,M1,G1,_,h1.on f1,hy,fun y vy M2 G2 H2 f2 i2 hz=>?_⟩;obtain⟨g1,g2,g3⟩:=hz;obtain⟨e1,e2⟩:=i2.flat g1;obtain⟨e3,e4⟩:=h5.flat g2;refine⟨t,vs,vy,rfl,rfl,(h4.same (f2.g.trans f2.gh)).sq,e2,e4,?_⟩;refine h3 _ _ M2 G2 H2 (f1.trans f2) ?_ g3;unfold Is;rw[e3,aci,e1];rfl
theorem rQ {lo hi:Int}{M:Mem} (s:ah G H) (m:bW K cl G H M) {r:Addr} (hr:H r=none):bq K cl none G H M (upd G r (.xF lo hi)) (upd H r (.xF lo hi)) M:=bq.lay s m hr
theorem At {lo:Int}{n:Nat}:IsL K cl G (bJ lo n) (((Wg n).map fun i:Nat=>lo+(i:Int)).map V.int):=by
 have e:bJ lo n=((Wg n).map fun i:Nat=>lo+(i:Int)).map Dt.int:=by unfold bJ;rw[R_];rfl
 rw[e];exact IsL.ints _
theorem Mj {p2 Au:Pos} (hc:X.calm=true) (hg:Gl X "list") (hm:X.mg "list" = none) (G8:Gl X "range") (BL:X.mg "range" = none) (ha:PE X a (tp X.K cl Γ ca)) (hb:PE X b (tp X.K cl Γ cb)) (hs:noStar a=true) (gT:noStar b=true) :
  PE X (.Call (.Name "list" p) [.Call (.Name "range" p2) [a,b] [] Au] [] pos) (tf X.K cl Γ (.GI ca cb)) :=
 (cW (nI hc) hg hm X5 (aI (cW rJ G8 BL X6 (aI ha (aI hb bz (ag gT)) (ag hs)) (by decide) (by decide) (ag hs) (d5 (by simp [gT]))) bz) (by decide) (by decide)).imp fun σ H Q h=>by
  obtain⟨B,ρ,M,G,R,h1,h2,h3⟩:=h;refine⟨B,ρ,M,G,_,h1,h2,fun x vx M1 G1 H1 f1 i1 hx=>⟨B,ρ,M1,G1,_,h1.on f1,hx,fun y vy M2 G2 H2 f2 i2 hy=>?_⟩⟩;obtain⟨i,rfl,QG⟩:=bo hy;obtain⟨j,rfl,g1,g2,g3,g4⟩:=bo QG;unfold Is at i1 i2;subst i1 i2;have L3:=f1.trans f2;refine⟨i,j,rfl,fun r hr=>⟨r,i,j,rfl,aA,⟨g1.1,g1.2,g2.1,g2.2⟩,g3,fun l hl=>?_⟩⟩;have f3:=rQ (lo:=i) (hi:=j) f2.gh f2.mem hr;exact h3 _ _ M2 _ _ l (L3.trans f3) hl At g4
theorem Ml {p2 Au:Pos} (hc:X.calm=true) (hg:Gl X "list") (hm:X.mg "list" = none) (G8:Gl X "range") (BL:X.mg "range" = none) (ha:PE X a (tp X.K cl Γ ca)) (hs:noStar a=true) :
  PE X (.Call (.Name "list" p) [.Call (.Name "range" p2) [a] [] Au] [] pos) (tf X.K cl Γ (.GJ ca)) :=
 (cW (nI hc) hg hm X5 (aI (cW j7 G8 BL X6 (aI ha bz (ag hs)) (by decide) (by decide) (ag hs) rfl) bz) (by decide) (by decide)).imp fun σ H Q h=>by
  obtain⟨B,ρ,M,G,R,h1,h2,h3⟩:=h;refine⟨B,ρ,M,G,_,h1,h2,fun x vx M1 G1 H1 f1 i1 hx=>?_⟩;obtain⟨j,rfl,g2,g3,g4⟩:=bo hx;unfold Is at i1;subst i1;have e:(j-0:Int)=j:=by omega
  refine⟨j,rfl,fun r hr=>⟨r,0,j,rfl,aA,⟨by omega,by omega,g2.1,g2.2⟩,by rw[e];exact g3,fun l hl=>?_⟩⟩;have f3:=rQ (lo:=0) (hi:=j) f1.gh f1.mem hr;rw[e];exact h3 _ _ M1 _ _ l (f1.trans f3) hl At g4
theorem CZ {a:Addr}{ds:List Dt}{vs:List V} (h:du K G a vs) (i:IsL K cl G ds vs):tW K cl (Ol K a) ds G:=fun n G' H M s1 s2 m=>by
 have hq:du K H a vs:=h.same (s1.trans s2);have hl:=i.length;refine⟨fun hn=>⟨⟨vs,vs[n]'(by omega),hq,by simp⟩,fun x H' y=>?_⟩,fun hn=>⟨vs,hq,by omega⟩⟩;obtain⟨rfl,y⟩:=y;obtain⟨d,e1,e2⟩:=i.get' (y vs hq);exact⟨d,G',e1,e2.mono s1,bq.refl s2 m⟩
theorem Hb {a:Addr}{ds:List Dt}{vs:List V} (h:eG K G a vs) (i:IsL K cl G ds vs):tW K cl (Om K a) ds G:=fun n G' H M s1 s2 m=>by
 have hq:eG K H a vs:=h.same (s1.trans s2);have hl:=i.length;refine⟨fun hn=>⟨⟨vs,vs[n]'(by omega),hq,by simp⟩,fun x H' y=>?_⟩,fun hn=>⟨vs,hq,by omega⟩⟩;obtain⟨rfl,y⟩:=y;obtain⟨d,e1,e2⟩:=i.get' (y vs hq);exact⟨d,G',e1,e2.mono s1,bq.refl s2 m⟩
theorem Hd {z:Str}:tW K cl (PP z) (rN z) G:=fun n G' H M s1 s2 m=>by
 have hl:(rN z).length=z.cps.size:=by unfold rN;simp
 refine⟨fun hn=>⟨show n<z.cps.size by omega,fun x H' y=>?_⟩,fun hn=>show n=z.cps.size by omega⟩;obtain⟨rfl,ch,e,rfl⟩:=y;refine⟨.str ⟨#[ch]⟩,G',?_,by unfold Is;rfl,bq.refl s2 m⟩;unfold rN;rw[g_,Array.getElem?_toList,e];rfl
theorem Av {lo:Int}{n:Nat}:tW K cl (Kg lo n) (bJ lo n) G:=fun i G' H M s1 s2 m=>by
 rw[aj];refine⟨fun hn=>⟨hn,fun x H' y=>?_⟩,fun hn=>show n<=i by omega⟩;obtain⟨rfl,rfl⟩:=y;refine⟨.int (lo+i),G',?_,by unfold Is;rfl,bq.refl s2 m⟩;unfold bJ;rw[g_,W4 hn];rfl
def C0 (K:e_) (tl:TE):TI:=fun σ H R=>tl σ H fun x H1=>(∃ a xs,x=.ref a/\du K H1 a xs/\R (Ol K a) H1)∨(∃ a xs,x=.ref a/\eG K H1 a xs/\R (Om K a) H1)∨∃ z,x=.str z/\R (PP z) H1
open PySem.Spec PyProof.Rows in
theorem He {tl:TE} (hl:PE X a tl):PI X tg a (C0 X.K tl):=by
 intro pins s σ H R I h;refine a9 (hl pins s σ H _ I h) fun v s1 ⟨x,H1,I1,r1,q1⟩=>?_
 have leaf:∀ {tl':TE}{wi:TI},(∀ b,b=s1.heap.objs.size->jm X pins H1 b):=fun {_ _} b e=>by subst e;exact I1.xJ (x_ _) (I1.bf.fresh (x_ _))
 rcases q1 with ⟨l,xs,rfl,hq,q⟩ | ⟨l,xs,rfl,hq,q⟩ | ⟨z,rfl,q⟩
 ·cases r1
  obtain⟨ao,rv,p,hz⟩:=I1.list hq;refine YV p.isList ?_;exact⟨s1.heap.objs.size,[s1.heap.objs.size],_,_,H1,rfl,I1.kept (t':=s1.toks) fun b o e=>i_ _ e,xK l _,⟨_,v_ _ rfl,rfl,rfl⟩,fun b hb=>leaf (tl':=tl) (wi:=C0 X.K tl) b (by simpa using hb),q⟩
 ·cases r1
  obtain⟨ao,rv,p,hz⟩:=I1.tuple hq;refine X3 (show s1.heap.IsTuple l ao.toArray from p) ?_;exact⟨s1.heap.objs.size,[s1.heap.objs.size],_,_,H1,rfl,I1.kept (t':=s1.toks) fun b o e=>i_ _ e,u6 l _,⟨_,v_ _ rfl,rfl,rfl⟩,fun b hb=>leaf (tl':=tl) (wi:=C0 X.K tl) b (by simpa using hb),q⟩
 ·obtain⟨t,rfl⟩:=r1;refine wpAny_pyIter_strU ?_;exact⟨s1.heap.objs.size,[s1.heap.objs.size],_,_,H1,rfl,I1.kept (t':=s1.toks) fun b o e=>i_ _ e,zC _ z t,⟨_,v_ _ rfl,rfl,rfl⟩,fun b hb=>leaf (tl':=tl) (wi:=C0 X.K tl) b (by simpa using hb),q⟩
theorem Mm (ha:PE X a (tp X.K cl Γ ca)):PI X tg a (yT X.K cl Γ (.eH ca)):=(He ha).imp fun σ H R h=>by
 obtain⟨B,ρ,M,G,R',h1,h2,h3⟩:=h;refine⟨B,ρ,M,G,_,h1,h2,fun x vx M1 G1 H1 f1 i1 hx=>?_⟩
 have fl:∀ {ds:List Dt},jc x=some ds->R' ds M1->∃ a xs,vx=.ref a/\du X.K H1 a xs/\R (Ol X.K a) H1:=fun {ds} e hr=>by
  obtain⟨l,vs,rfl,q1,q2⟩:=i1.BH e;exact⟨l,vs,rfl,q1.same f1.gh,h3 ds M1 G1 H1 _ f1 (CZ q1 q2) hr⟩
 have ft:∀ {ds:List Dt},pA x=some ds->R' ds M1->∃ a xs,vx=.ref a/\eG X.K H1 a xs/\R (Om X.K a) H1:=fun {ds} e hr=>by
  obtain⟨l,vs,rfl,q1,q2⟩:=i1.JP e;exact⟨l,vs,rfl,q1.same f1.gh,h3 ds M1 G1 H1 _ f1 (Hb q1 q2) hr⟩
 cases x with
 | str z=>unfold Is at i1;exact .inr (.inr ⟨z,i1,h3 _ M1 G1 H1 _ f1 Hd hx⟩)
 | lst ds=>exact .inl (fl rfl hx)
 | nL ds=>exact .inl (fl rfl hx)
 | tup ds=>exact .inr (.inl (ft rfl hx))
 | fE ds=>exact .inr (.inl (ft rfl hx))
 | uY ds=>exact .inr (.inl (ft rfl hx))
 | pz ds=>exact .inr (.inl (ft rfl hx))
 | _=>exact (show False from hx).elim
theorem qH (hs:noStar a=true) {env:Env}:N_ [a] env=[(false,eval a env)]:=ag hs
theorem Mn (hg:Gl X "range") (hm:X.mg "range" = none) (ha:PE X a (tp X.K cl Γ ca)) (hs:noStar a=true):PI X tg (.Call (.Name "range" p) [a] [] pos) (yT X.K cl Γ (.kP ca)):=(xL hg hm (aI ha bz (ag hs)) (qH hs)).imp fun σ H R h=>by
 obtain⟨B,ρ,M,G,R',h1,h2,h3⟩:=h;refine⟨B,ρ,M,G,_,h1,h2,fun x vx M1 G1 H1 f1 i1 hx=>?_⟩;obtain⟨j,rfl,g1,g2⟩:=bo hx;unfold Is at i1;subst i1;exact⟨j,rfl,g1.1,g1.2,h3 _ M1 G1 H1 _ f1 Av g2⟩
theorem Mp (hg:Gl X "range") (hm:X.mg "range" = none) (ha:PE X a (tp X.K cl Γ ca)) (hb:PE X b (tp X.K cl Γ cb)) (hs:noStar a=true) (gT:noStar b=true):PI X tg (.Call (.Name "range" p) [a,b] [] pos) (yT X.K cl Γ (.Eb ca cb)) :=
 (xM hg hm (aI ha (aI hb bz (ag gT)) (ag hs)) (by rw[ag hs,qH gT]) (qH gT)).imp fun σ H R h=>by
 obtain⟨B,ρ,M,G,R',h1,h2,h3⟩:=h;refine⟨B,ρ,M,G,_,h1,h2,fun x vx M1 G1 H1 f1 i1 hx=>⟨B,ρ,M1,G1,_,h1.on f1,hx,fun y vy M2 G2 H2 f2 i2 hy=>?_⟩⟩;obtain⟨i,rfl,QG⟩:=bo hy;obtain⟨j,rfl,g1,g2,g3⟩:=bo QG;unfold Is at i1 i2;subst i1 i2;exact⟨i,j,rfl,⟨g1.1,g1.2,g2.1,g2.2⟩,h3 _ M2 G2 H2 _ (f1.trans f2) Av g3⟩
theorem Hf {n:Nat}:tW K cl (Ge ((n:Int)-1) (-1) n) (bJ 0 n).reverse G:=fun i G' H M s1 s2 m=>by
 rw[Zr,aj];refine⟨fun hn=>⟨hn,fun x H' y=>?_⟩,fun hn=>show n<=i by omega⟩;obtain⟨rfl,rfl⟩:=y;refine⟨.int ((n:Int)-1+i * -1),G',?_,by unfold Is;rfl,bq.refl s2 m⟩;rw[aaI (by rw[aj];exact hn),aj];unfold bJ;rw[g_,W4 (by omega)];show some (Dt.int _)=some (Dt.int _);congr 2;omega
theorem Mq {p2 Au:Pos} (hg:Gl X "reversed") (hm:X.mg "reversed" = none) (G8:Gl X "range") (BL:X.mg "range" = none) (ha:PE X a (tp X.K cl Γ ca)) (hs:noStar a=true):PI X tg (.Call (.Name "reversed" p) [.Call (.Name "range" p2) [a] [] Au] [] pos) (yT X.K cl Γ (.rev ca)) :=
 (Gz hg hm (aI (cW j7 G8 BL X6 (aI ha bz (ag hs)) (by decide) (by decide) (ag hs) rfl) bz)).imp fun σ H R h=>by
 obtain⟨B,ρ,M,G,R',h1,h2,h3⟩:=h;refine⟨B,ρ,M,G,_,h1,h2,fun x vx M1 G1 H1 f1 i1 hx=>?_⟩;obtain⟨j,rfl,g1,g2,g3⟩:=bo hx;unfold Is at i1;subst i1;refine⟨j,rfl,fun r hr=>⟨r,j.toNat,rfl,?_,by omega,?_⟩⟩
 ·rw[aA,show ((j.toNat:Nat):Int)=j by omega]
 ·have f2:=rQ (lo:=0) (hi:=j) f1.gh f1.mem hr;exact h3 _ M1 _ _ _ (f1.trans f2) Hf g3
theorem Hg {a:Addr}{ds:List Dt}{vs:List V} (h:eG K G a vs) (i:IsL K cl G ds vs):tW K cl (Go K a) (ds.zipIdx.map fun p=>.tup [.int p.2,p.1]) G:=fun n G' H M s1 s2 m=>by
 have hq:eG K H a vs:=h.same (s1.trans s2);have hl:=i.length;have hL:(ds.zipIdx.map fun p:Dt×Nat=>Dt.tup [.int p.2,p.1]).length=ds.length:=by rw[a_,ZL]
 rw[hL];refine⟨fun hn=>⟨⟨vs,vs[n]'(by omega),hq,by simp⟩,fun x H' y=>?_⟩,fun hn=>⟨vs,hq,by omega⟩⟩;obtain⟨T,x,hT,rfl,y,rfl⟩:=y;obtain⟨d,e1,e2⟩:=i.get' (y vs hq);have f:=bq.lay (o:=.tup [.int n,x]) s2 m hT;refine⟨.tup [.int n,d],_,?_,?_,f⟩
 ·rw[g_,aaW,e1];simp
 ·unfold Is;exact⟨T,_,rfl,aA,IsL.cons (by unfold Is;rfl) (IsL.cons (e2.mono (s1.trans f.g)) IsL.nil)⟩
theorem Mr {elts:List Expr}{kk:Nat}{QH:Pos} (hg:Gl X "enumerate") (hm:X.mg "enumerate" = none) (ha:PE X a (tp X.K cl Γ ca)) (hs:noStar a=true):PI X (.Tuple elts kk QH) (.Call (.Name "enumerate" p) [a] [] pos) (yT X.K cl Γ (.CP ca)) :=
 (zT hg hm (aI ha bz (ag hs)) (qH hs)).imp fun σ H R h=>by
 obtain⟨B,ρ,M,G,R',h1,h2,h3⟩:=h;refine⟨B,ρ,M,G,_,h1,h2,fun x vx M1 G1 H1 f1 i1 hx=>?_⟩;obtain⟨ds,e,hk⟩:=cw hx;obtain⟨l,vs,rfl,q1,q2⟩:=i1.JP e;exact⟨l,rfl,⟨vs,q1.same f1.gh⟩,h3 _ M1 G1 H1 _ f1 (Hg q1 q2) hk⟩
theorem Hh {a b:Addr}{ds es:List Dt}{vs us:List V} (h:Rd G a (.tup vs)) (h':Rd G b (.tup us)) (i:IsL K cl G ds vs) (i':IsL K cl G es us):tW K cl (Gr a b) ((ds.zip es).map fun p=>.tup [p.1,p.2]) G:=fun n G' H M s1 s2 m=>by
 have hq:=kf (s1.trans s2) h;have xV:=kf (s1.trans s2) h';have hl:=i.length;have QI:=i'.length;rw[a_,aaC];refine⟨fun hn=>⟨⟨vs,us,vs[n]'(by omega),us[n]'(by omega),hq,xV,by simp,by simp⟩,fun x H' y=>?_⟩,fun hn=>⟨vs,us,hq,xV,by omega⟩⟩;obtain⟨T,x,y',hT,rfl,y1,y2,rfl⟩:=y;obtain⟨d,e1,e2⟩:=i.get' (y1 vs hq);obtain⟨d',FZ,Up⟩:=i'.get' (y2 us xV);have f:=bq.lay (o:=.tup [x,y']) s2 m hT;refine⟨.tup [d,d'],_,?_,?_,f⟩
 ·rw[g_,show (ds.zip es)[n]? = some (d,d') from W7.mpr ⟨e1,FZ⟩];rfl
 ·unfold Is;exact⟨T,_,rfl,aA,IsL.cons (e2.mono (s1.trans f.g)) (IsL.cons (Up.mono (s1.trans f.g)) IsL.nil)⟩
theorem Ms {elts:List Expr}{kk:Nat}{QH:Pos} (hg:Gl X "zip") (hm:X.mg "zip" = none) (ha:PE X a (tp X.K cl Γ ca)) (hb:PE X b (tp X.K cl Γ cb)) (hs:noStar a=true) (gT:noStar b=true):PI X (.Tuple elts kk QH) (.Call (.Name "zip" p) [a,b] [] pos) (yT X.K cl Γ (.zip ca cb)) :=
 (CK hg hm (aI ha (aI hb bz (ag gT)) (ag hs)) (by rw[ag hs,qH gT]) (qH gT)).imp fun σ H R h=>by
 obtain⟨B,ρ,M,G,R',h1,h2,h3⟩:=h;refine⟨B,ρ,M,G,_,h1,h2,fun x vx M1 G1 H1 f1 i1 hx=>⟨B,ρ,M1,G1,_,h1.on f1,hx,fun y vy M2 G2 H2 f2 i2 hy=>?_⟩⟩;obtain⟨ds,e,hk⟩:=cw hy;obtain⟨es,e',JL⟩:=cw hk;obtain⟨l,vs,rfl,q1,q2⟩:=dG.QF f2.gh (.inl (i1.mono f2.g)) e;obtain⟨l',us,rfl,Sq,Uq⟩:=dG.QF f2.gh (.inl i2) e';exact⟨l,l',vs,us,rfl,kf f2.gh q1,kf f2.gh Sq,h3 _ M2 G2 H2 _ (f1.trans f2) (Hh q1 Sq q2 Uq) JL⟩
end
end PV
namespace PV
open PySem L2 SH
section
variable (K:e_) (cl:Cl)
inductive Mt (pf:cA) (vs:List V) (H:Hp) (Q:VK) (E:XK):Prop where
 | mk (G:Hp) (M:Mem) (ds:List Dt) (k:Dt->Mem->Prop):ah G H->bW K cl G H M->IsL K cl G ds vs->pf ds M k->(∀ d M' v G' H',k d M'->bq K cl none G H M G' H' M'->Is K cl G' d v->Q v H')->Mt pf vs H Q E
inductive Mu (n:Nat) (pf:cA) (vs:List V) (H:Hp) (Q:VK) (E:XK):Prop where
 | mk (G:Hp) (M:Mem) (d:Dt) (ds:List Dt) (k:Dt->Mem->Prop) (fs:List Str):ah G H->bW K cl G H M->IsL K cl G (d::ds) vs->eL M d (fun n' fC=>n'=n/\fC=fs)->pf (d::ds) M k->(∀ d M' v G' H',k d M'->bq K cl none G H M G' H' M'->Is K cl G' d v->Q v H')->Mu n pf vs H Q E
inductive C1 (pf:Dt->List Dt->Mem->(Dt->Mem->Prop)->Prop) (vs:List V) (H:Hp) (Q:VK) (E:XK):Prop where
 | mk (G:Hp) (M:Mem) (a:Addr) (n:Nat) (fs:List Str) (xs:List Dt) (dx:Addr) (us JU:List V) (ds:List Dt) (k:Dt->Mem->Prop):vs=.ref a::JU->H a=some (.ins (cl n) dx (fs.zip us))->fs.length=xs.length->IsL K cl G xs us->G a=none->M a=none->ah G H->bW K cl G H M->IsL K cl G ds JU ->
  pf (.obj n fs xs) ds M k->(∀ fC sR CF Hi M' G' H',k (.obj n fC sR) M'->bq K cl (some a) G H M G' H' M'->G' a=none->M' a=none->H' a=some (.ins (cl n) Hi (fC.zip CF))->fC.length=sR.length->IsL K cl G' sR CF->Q .aK H')->C1 pf vs H Q E
end
structure Fx (Γ:Gm) (cl:Cl) (P:L_) (w:World) (K:e_) (mg:Str->k_ Value) (base:Heap) (n:Nat) (fns mG cls pE:List Str) (pG:List Nat):Prop where
 fn:∀ (f:Nat) x,fns[f]? = some x->(x==("__debug__" : Str))=false->∃ a fd ps,mg x=some (.ref a)/\Ws K (.ref a)=true/\Binds K fd ps []/\b8 P w K mg base ny n a fd ps (Mt K cl (Γ.fn f))
 me:∀ (m:Nat) x,mG[m]? = some x->∀ c fs,Γ.hm m c fs=true->fs.contains x=false/\sZ K (cl c)/\∃ a fd ps,Meth K (cl c) x a/\Binds K fd ps []/\b8 P w K mg base ny n a fd ps (Mu K cl c (Γ.me m))
 kl:∀ (c:Nat) x,cls[c]? = some x->(x==("__debug__" : Str))=false->mg x=some (.ref (cl c))/\Ws K (.ref (cl c))=true
 bA:∀ (c:Nat) d ds M k,Γ.bA c d ds M k->∃ a fd ps j,n=j+1/\b8 P w K mg base ny j a fd ps (C1 K cl (Γ.bA c))/\Binds K fd ps []/\Mk K (cl c) a
 cm:∀ (c:Nat),pG.contains c=true->∃ a fd ps,Gd K (cl c) "__init__" a/\b8 P w K mg base ny n a fd ps (C1 K cl (Γ.bA c))/\Binds K fd ps []
 cs:∀ (k:Nat) x,pE[k]? = some x->(x==("__debug__" : Str))=false->∃ u v,mg x=some u/\RelV v u/\∀ G,Is K cl G (Γ.cs k) v
 at_:∀ n f,Γ.at_ n f=true->sZ K (cl n)/\dW K (cl n) f
 wl:cl.w=w
section
variable {K:e_}{cl:Cl}{Γ:Gm}{c ca cb cc:C}{σ:St}{G H:Hp}{Q:VK}{X:Cx}{e a b tg o:Expr}{es:List Expr}{pos p apos:Pos}{n:Nat}{fns mG cls pE:List Str}{pG:List Nat}
theorem s_call {f:Nat}{x:Str} (F:Fx Γ cl X.prog X.w X.K X.mg X.base n fns mG cls pE pG) (hr:cj n X.A) (hx:fns[f]? = some x) (hg:Gl X x) (lP:(x==("__debug__" : Str))=false) (ha:PA X (e::es) (ta X.K cl Γ ca)) (hs:(e::es).all noStar=true) :
  PE X (.Call (.Name x p) (e::es) [] pos) (tp X.K cl Γ (.call f ca)):=by
 obtain⟨a,fd,ps,h1,h2,h3,h4⟩:=F.fn f x hx lP;rw[WD,t_] at hs;refine (Ca h4 hr hg h1 h2 h3 .nil tx ha lP (ag hs.1) (d5 hs.2)).imp fun σ H Q h=>?_
 obtain⟨B,ρ,M,G,R,q1,q2,q3⟩:=h;refine⟨B,ρ,M,G,_,q1,q2,fun ds vs M' G' H' f i hk=>?_⟩;rw[WB];exact⟨G',M',ds,_,f.gh,f.mem,i,hk,fun d M2 v G2 H2 hd f2 i2=>q3 d v M2 G2 H2 (f.trans f2) i2 hd⟩
theorem rR {m:Str}{env:Env} (hb:cY o=true) (hs:es.all noStar=true) (hl:es.length<30) (bS:(apos.endLine==pos.line)=true):eval (.Call (.Attribute o m apos) es [] pos) env=(do
   let ov ←eval o env
   aa1 apos.atName
   let (f,first) ←aae [ov] (abY ov m (do return (←importBound o env).getD true))
   callWith pos f first (Xm pos (N_ es env)) (ZH pos (Yh [] env))):=by
 have hf:methodCallForm (es.length+([]:List Zc).length) (Xm pos (N_ es env)) (ZH pos (Yh [] env))=true:=by
  unfold methodCallForm;rw[kc hs];show (true&&true&&decide (es.length+0+0<30))=true;rw[d_ (by omega)];rfl
 rw[arm_eval_Call,fR hb];unfold methodCall;rw[hf];unfold calleeOf methodCallPos;rw[bS];rfl
def vN (P:L_) (w:World) (K:e_) (mg:Str->k_ Value) (base:Heap) (n:Nat) (m:Str) (ta:TE) (t:TA):TE:=fun σ H Q=>ta σ H fun x H1=>∃ a C dx fs f fd ps sp,x=.ref a/\H1 a=some (.ins C dx fs)/\fs.lookup m=none/\sZ K C/\Meth K C m f/\Binds K fd ps []/\b8 P w K mg base ny n f fd ps sp /\
 t σ H1 fun vs H2=>sp (x::vs) H2 Q E0
theorem Aw {m:Str}{to:TE}{t:TA} (he:PE X o to) (hr:cj n X.A) (ha:PA X (e::es) t) (hb:cY o=true) (hs:(e::es).all noStar=true) (hl:(e::es).length<30) (bS:(apos.endLine==pos.line)=true) :
  PE X (.Call (.Attribute o m apos) (e::es) [] pos) (vN X.prog X.w X.K X.mg X.base n m to t):=by
 intro pins s σ H Q I h;refine Y5 (a9 (he pins s σ H _ I h) fun u s1 zz=>?_) (rR hb hs hl bS);obtain⟨x,H1,I1,rx,a,C,dx,fs,f,fd,ps,sp,rfl,ea,l,c,hm,QJ,F,q⟩:=zz;obtain rfl:u=V5 a:=rx;refine nq I1 ea c hm l ?_;rw[WD,t_] at hs;refine X1 (first:=[.ref a]) (h₀:=X.base) I.ok.mod.EY hm.kp (a9 (ha pos pins s1 σ H1 _ I1 q) fun us s2 ⟨vs,H2,I2,r,q2⟩=>⟨I2.jK,?_⟩) (ag hs.1) (d5 hs.2);exact rp (dvs:=[]) (ds:=[]) (us:=.ref a::us) (vs:=.ref a::vs) F hr QJ .nil tx I2 (.cons rfl r) (by rw[WB];exact q2)
theorem yz {m:Str}{to:TE} (he:PE X o to) (hr:cj n X.A) (hb:cY o=true) (bS:(apos.endLine==pos.line)=true) :
  PE X (.Call (.Attribute o m apos) [] [] pos) (vN X.prog X.w X.K X.mg X.base n m to Kw):=by
 intro pins s σ H Q I h;refine Y5 (a9 (he pins s σ H _ I h) fun u s1 zz=>?_) (rR hb rfl (by decide) bS);obtain⟨x,H1,I1,rx,a,C,dx,fs,f,fd,ps,sp,rfl,ea,l,c,hm,QJ,F,q⟩:=zz;obtain rfl:u=V5 a:=rx;refine nq I1 ea c hm l ?_;exact PySem.W.callWith_K0 (first:=[.ref a]) I1.jK hm.kp (rp (dvs:=[]) (ds:=[]) (us:=[.ref a]) (vs:=[.ref a]) F hr QJ .nil tx I1 (.cons rfl .nil) q)
theorem gY {f:Str}:∀ {fs:List Str}{vs:List V},fs.contains f=false->(fs.zip vs).lookup f=none
 | [],_,_=>by simp
 | g::fs,[],_=>by simp
 | g::fs,v::vs,h=>by
  rw[List.contains_cons,Bool.or_eq_false_iff] at h;rw[Xx,V7,h.1];exact gY h.2
theorem Hj {M:Mem}{d:Dt}{v:V}{k:Nat->List Str->Prop} (s:ah G H) (m:bW K cl G H M) (i:Is K cl G d v) (h:eL M d k):∃ a n fs dx vs,v=.ref a/\H a=some (.ins (cl n) dx (fs.zip vs))/\k n fs/\eL M d (fun n' fC=>n'=n/\fC=fs):=by
 cases d with
 | obj n fs ds =>
  unfold Is at i;obtain⟨a,dx,vs,e,q,_,_⟩:=i;exact⟨a,n,fs,dx,vs,e,s _ _ q,h,rfl,rfl⟩
 | fD a =>
  unfold Is at i;change (match M a with | some (.mo c fs _)=>k c fs | _=>False) at h
  cases e:M a with
  | none=>rw[e] at h;exact h.elim
  | some o =>
   rw[e] at h
   cases o with
   | mo n fs xs =>
    obtain⟨dx,vs,q,_⟩:=(m a _ e).2;refine⟨a,n,fs,dx,vs,i,q,h,?_⟩;show (match M a with | some (.mo c fC _)=>c=n/\fC=fs | _=>False);rw[e];exact⟨rfl,rfl⟩
   | ml _=>exact h.elim
   | md _=>exact h.elim
 | _=>exact (show False from h).elim
theorem Ay {M M':Mem}{d:Dt}{G' H':Hp}{n:Nat}{fs:List Str} (h:eL M d (fun n' fC=>n'=n/\fC=fs)) (f:bq K cl none G H M G' H' M'):eL M' d (fun n' fC=>n'=n/\fC=fs):=by
 cases d with
 | obj n fs ds=>exact h
 | fD a =>
  change (match M a with | some (.mo c fC _)=>c=n/\fC=fs | _=>False) at h
  cases e:M a with
  | none=>rw[e] at h;exact h.elim
  | some o =>
   rw[e] at h;obtain⟨o',e',q⟩:=f.ke a o e;show (match M' a with | some (.mo c fC _)=>c=n/\fC=fs | _=>False);rw[e']
   cases o with
   | mo n' fC xs =>
    cases o' with
    | mo n2 VQ VR =>
     injection q with _ q
     injection q with q1 q2
     exact⟨q1.trans h.1,q2.trans h.2⟩
    | ml _=>exact absurd (congrArg Prod.fst q) (by intro z;cases z)
    | md _=>exact absurd (congrArg Prod.fst q) (by intro z;cases z)
   | ml _=>exact h.elim
   | md _=>exact h.elim
 | _=>exact (show False from h).elim
theorem wU {m:Nat}{x:Str}{P:L_}{w:World}{mg:Str->k_ Value}{base:Heap} (F:Fx Γ cl P w K mg base n fns mG cls pE pG) (hx:mG[m]? = some x) {t:TA} (ht:∀ σ H Q,ta K cl Γ cb σ H Q->t σ H Q)
  (h:tp K cl Γ (.br m ca cb) σ H Q):vN P w K mg base n x (tp K cl Γ ca) t σ H Q:=by
 obtain⟨B,ρ,M,G,R,q1,q2,q3⟩:=h;refine⟨B,ρ,M,G,_,q1,q2,fun d v M1 G1 H1 f1 i1 hd=>?_⟩;obtain⟨a,k,fs,dx,vs,rfl,h1,⟨h2,h3⟩,h4⟩:=Hj f1.gh f1.mem i1 hd;obtain⟨g1,g2,f,fd,ps,g3,g4,g5⟩:=F.me m x hx k fs h2;refine⟨a,_,dx,_,f,fd,ps,_,rfl,h1,gY g1,g2,g3,g4,g5,ht _ _ _ ⟨B,ρ,M1,G1,_,q1.on f1,h3,fun ds us M2 G2 H2 f2 i2 hk=>?_⟩⟩;exact⟨G2,M2,d,ds,_,fs,f2.gh,f2.mem,IsL.cons (i1.mono f2.g) i2,Ay h4 f2,hk,fun d' M3 v G3 H3 G0 f3 i3=>q3 d' v M3 G3 H3 ((f1.trans f2).trans f3) i3 G0⟩
theorem Hk {m:Nat}{x:Str} (F:Fx Γ cl X.prog X.w X.K X.mg X.base n fns mG cls pE pG) (hr:cj n X.A) (hx:mG[m]? = some x) (ho:PE X o (tp X.K cl Γ ca)) (ha:PA X (e::es) (ta X.K cl Γ cb)) (hb:cY o=true) (hs:(e::es).all noStar=true) (hl:(e::es).length<30) (bS:(apos.endLine==pos.line)=true) :
  PE X (.Call (.Attribute o x apos) (e::es) [] pos) (tp X.K cl Γ (.br m ca cb)):=(Aw ho hr ha hb hs hl bS).imp fun σ H Q h=>wU F hx (fun _ _ _ z=>z) h
theorem C2 {m:Nat}{x:Str} (F:Fx Γ cl X.prog X.w X.K X.mg X.base n fns mG cls pE pG) (hr:cj n X.A) (hx:mG[m]? = some x) (ho:PE X o (tp X.K cl Γ ca)) (hb:cY o=true) (bS:(apos.endLine==pos.line)=true) :
  PE X (.Call (.Attribute o x apos) [] [] pos) (tp X.K cl Γ (.br m ca .nil)):=(yz ho hr hb bS).imp fun σ H Q h=>wU F hx (fun σ H Q z=>by
   obtain⟨B,ρ,M,G,R,h1,h2,h3⟩:=z;exact h3 [] [] M G H h1.self IsL.nil h2) h
theorem nP {p:Addr}{M:Mem} (m:bW K cl G H M) (hp:H p=none):M p=none:=by
 cases e:M p with
 | none=>rfl
 | some w=>obtain⟨u,hu⟩:=(m p w e).2.jL;rw[hp] at hu;cases hu
def Mv (K:e_) (cl:Cl) (Γ:Gm) (q:Nat) (c:C):TE:=fun σ H Q=>∃ B ρ M G R,Rep K cl B ρ M σ H G/\ev Γ c ρ M (fun ds M1=>Γ.bA q (.obj q [] []) ds M1 R) /\
 ∀ fs xs us M2 G2 H2 x dx,R (.obj q fs xs) M2->bq K cl none G H M G2 H2 M2->H x=none->G2 x=none->M2 x=none->H2 x=some (.ins (cl q) dx (fs.zip us))->fs.length=xs.length->IsL K cl G2 xs us->Q (.ref x) H2
theorem C3 {q:Nat}{M1 M2:Mem}{G1 H1 G2 H2:Hp}{x dx:Addr} (hx:H1 x=none) (OA:H1 dx=none) (f:bq K cl (some x) G1 (upd (upd H1 dx (.own x)) x (.ins (cl q) dx [])) M1 G2 H2 M2):bq K cl none G1 H1 M1 G2 H2 M2:=by
 have up:∀ a u,H1 a=some u->(upd (upd H1 dx (.own x)) x (.ins (cl q) dx [])) a=some u:=fun a u h=>by rw[aq (ax h hx),aq (ax h OA)];exact h
 have dn:∀ a,(upd (upd H1 dx (.own x)) x (.ins (cl q) dx [])) a=none->H1 a=none:=fun a h=>bF (fun a u h=>⟨u,up a u h⟩) h
 refine⟨f.g,f.gh,fun a u h=>f.jL a u (up a u h),fun a u h n=>dn a (f.gf a u h n),fun a u h hm _=>f.h a u (up a u h) hm fun z=>?_,f.mem,fun a u h n=>dn a (f.mf a u h n),f.ke⟩
 cases z;rw[hx] at h;cases h
theorem bq.Mw {M M2:Mem}{G2 H2:Hp}{x:Addr}{o:HO}{sf:k_ Addr} (f:bq K cl sf G H M G2 H2 M2) (hx:H x=none) (gx:G2 x=none) (mx:M2 x=none) (e:H2 x=some o):bq K cl sf G H M (upd G2 x o) H2 M2:=by
 have sm:ah G2 (upd G2 x o):=ah.put gx;refine⟨f.g.trans sm,fun a u h=>?_,f.jL,fun a u h n=>?_,f.h,fun a u h=>?_,f.mf,f.ke⟩
 ·unfold upd at h;by_cases z:a=x
  ·rw[w_ z] at h;cases h;rw[z];exact e
  ·rw[n_ z] at h;exact f.gh a u h
 ·unfold upd at h;by_cases z:a=x
  ·rw[z];exact hx
  ·rw[n_ z] at h;exact f.gf a u h n
 ·obtain⟨h1,h2⟩:=f.mem a u h;have ne:a≠x:=fun z=>by rw[z,mx] at h;cases h
  exact⟨by rw[aq ne];exact h1,h2.mono sm fun _ z=>z⟩
theorem bq.hand {M M2:Mem}{G2 H2:Hp}{x:Addr}{o:MO}{sf:k_ Addr} (f:bq K cl sf G H M G2 H2 M2) (hx:H x=none) (gx:G2 x=none) (mx:M x=none) (VS:M2 x=none) (e:b6 K cl G2 H2 x o):bq K cl sf G H M G2 H2 (aT M2 x o):=by
 refine⟨f.g,f.gh,f.jL,f.gf,f.h,fun a u h=>?_,fun a u h n=>?_,fun a u h=>?_⟩
 ·unfold aT at h;by_cases z:a=x
  ·rw[w_ z] at h;cases h;rw[z];exact⟨gx,e⟩
  ·rw[n_ z] at h;exact f.mem a u h
 ·unfold aT at h;by_cases z:a=x
  ·rw[z];exact hx
  ·rw[n_ z] at h;exact f.mf a u h n
 ·obtain⟨o',e1,e2⟩:=f.ke a u h;have ne:a≠x:=fun z=>by rw[z,mx] at h;cases h
  exact⟨o',by unfold aT;rw[n_ ne];exact e1,e2⟩
theorem Mx {q:Nat}{x:Str} (F:Fx Γ cl X.prog X.w X.K X.mg X.base n fns mG cls pE pG) (hr:cj n X.A) (hx:cls[q]? = some x) (hg:Gl X x) (lP:(x==("__debug__" : Str))=false) (ha:PA X (e::es) (ta X.K cl Γ ca)) (hs:(e::es).all noStar=true) :
  PE X (.Call (.Name x p) (e::es) [] pos) (Mv X.K cl Γ q ca):=by
 intro pins s σ H Q I h;obtain⟨hm,kp⟩:=F.kl q x hx lP;rw[WD,t_] at hs;obtain⟨B,ρ,M,G,R,q1,q2,q3⟩:=h
 have h':ta X.K cl Γ ca σ H (fun vs H1=>(∃ d ds M k,Γ.bA q d ds M k)/\∀ x dx,H1 x=none->H1 dx=none->dx≠x->C1 X.K cl (Γ.bA q) (.ref x::(vs++[])) (upd (upd H1 dx (.own x)) x (.ins (cl q) dx [])) (fun v H2=>v=.aK/\Q (.ref x) H2) E0):=by
  refine⟨B,ρ,M,G,_,q1,q2,fun ds vs M1 G1 H1 f i hk=>⟨⟨_,_,_,_,hk⟩,fun x dx hx OA ne=>?_⟩⟩;have up:ah H1 (upd (upd H1 dx (.own x)) x (.ins (cl q) dx [])):=fun a u h=>by rw[aq (ax h hx),aq (ax h OA)];exact h
  rw[WB];refine⟨G1,M1,x,q,[],[],dx,[],vs,ds,R,rfl,aA,rfl,IsL.nil,vL f.gh hx,nP f.mem hx,f.gh.trans up,fun a o e=>?_,i,hk,fun fs xs us Hi M2 G2 H2 hk f2 g1 g2 g3 g4 g5=>⟨rfl,q3 fs xs us M2 G2 H2 x Hi hk (f.trans (C3 hx OA f2)) (bF f.jL hx) g1 g2 g3 g4 g5⟩⟩;obtain⟨h1,h2⟩:=f.mem a o e;exact⟨h1,h2.mono (ah.refl G1) fun u hu=>up a u hu⟩
 refine X0 (jQ I hg hm ?_ lP);refine X1 (h₀:=X.base) I.ok.mod.EY kp (a9 (ha pos pins s σ H _ I h') fun us s1 ⟨vs,H1,I1,r,⟨d,ds,M1,k,hi⟩,hq⟩=>⟨I1.jK,?_⟩) (ag hs.1) (d5 hs.2);obtain⟨f,fd,ps,j,hj,F1,B1,Ur⟩:=F.bA q d ds M1 k hi;exact zo (dvs:=[]) (ds:=[]) Ur F1 (hj▸hr) B1 .nil tx I1 r hq
theorem QK {q:Nat} (h:PE X e (Mv X.K cl Γ q ca)):PE X e (tp X.K cl Γ (.mk q ca)):=h.imp fun σ H Q h=>by
 obtain⟨B,ρ,M,G,R,q1,q2,q3⟩:=h;refine⟨B,ρ,M,G,_,q1,q2,fun fs xs us M2 G2 H2 x dx hR f hx gx mx e l i=>?_⟩;have f2:=f.Mw hx gx mx e;exact q3 (.obj q fs xs) (.ref x) M2 _ H2 f2 (by unfold Is;exact⟨x,dx,us,rfl,aA,l,i.mono (ah.put gx)⟩) hR
theorem My {q:Nat} (h:PE X e (Mv X.K cl Γ q ca)):PE X e (tp X.K cl Γ (.JQ q ca)):=h.imp fun σ H Q h=>by
 obtain⟨B,ρ,M,G,R,q1,q2,q3⟩:=h;refine⟨B,ρ,M,G,_,q1,q2,fun fs xs us M2 G2 H2 x dx hR f hx gx mx e l i=>?_⟩;have f2:=f.hand (o:=.mo q fs xs) hx gx (nP q1.cz.mem hx) mx ⟨dx,us,e,l,i⟩;exact q3 (.fD x) (.ref x) _ G2 H2 f2 (by unfold Is;rfl) (hR x mx)
end
end PV
namespace PV
open PySem L2 SH
section
variable {K:e_}{cl:Cl}{Γ:Gm}{c ci ct ce:C}{σ:St}{G H:Hp}{Q:VK}{X:Cx}{e a b tg o:Expr}{es:List Expr}{pos p apos:Pos}
theorem C4 {ρ:En}{j:Nat}{d:Dt} (h:fZ ρ j=.sh d):ρ[j]? = some (.sh d):=by
 unfold fZ at h;split at h
 ·cases h;assumption
 ·cases h
theorem C5 {ρ:En}{j:Nat}{d:Dt}:fZ ρ j≠.ow d:=by
 unfold fZ;split<;>exact fun z=>nomatch z
theorem C6 {B:Bs}{ρ:En}{M M':Mem}{ix:List Nat}{G' H':Hp}{ds:List Dt}{vs:List V} (r:Rep K cl B ρ M σ H G) (sg:ah G G') (s:ah G' H') (m:bW K cl G' H' M') (i:IsL K cl G' ds vs) :
  Rep K cl ⟨G',H',M',none⟩ (ds.map Sl.sh++ix.map (fZ ρ)) M' (vs.map some++ix.map fun j=>(σ[j]?).join) H' G':=by
 have hl:=i.length;refine⟨bq.refl s m,by simp [hl],fun _ z=>(nomatch z),fun j d e=>?_,fun _=>0,fun j d e=>?_,fun j _ d _ e=>?_⟩
 ·by_cases hj:j<ds.length
  ·rw[Wm (by simpa using hj),g_] at e;obtain⟨d',e1,e2⟩:=m_.mp e
   cases e2
   obtain⟨v,h1,h2⟩:=i.get e1;refine⟨v,?_,h2⟩;rw[Wm (by simpa [hl] using hj),g_,h1];rfl
  ·rw[Wb (by simpa using hj),g_] at e;obtain⟨k,e1,e2⟩:=m_.mp e;obtain⟨v,h1,h2⟩:=r.sh k d (C4 e2);refine⟨v,?_,h2.mono sg⟩;rw[a_] at e1;rw[Wb (by simpa [hl] using hj),g_,a_,←hl,e1];show some ((σ[k]?).join)=_;rw[h1];rfl
 all_goals
  exfalso;by_cases hj:j<ds.length
  ·rw[Wm (by simpa using hj),g_] at e;obtain⟨d',e1,e2⟩:=m_.mp e
   cases e2
  ·rw[Wb (by simpa using hj),g_] at e;obtain⟨k,e1,e2⟩:=m_.mp e;exact C5 e2
theorem mW {own:List Str}{w:Nat}{ix:List Nat}{g:TG} (hw:own.length=w)
  (hg:∀ {d:Dt}{ρ:En}{k:En->Prop}{x:V}{σ':St}{f8:St}{Gc Hc:Hp}{R:St->Hp->Prop},wQ ρ w ix d k->Is K cl Gc d x->ah Gc Hc->(∃ pre:St,pre.length=w/\σ'=pre++f8) ->
   (∀ ds vs,IsL K cl Gc ds vs->ds.length=w->k (ds.map Sl.sh++ix.map (fZ ρ))->R (vs.map some++f8) Hc)->g x σ' Hc R)
  (h:tf K cl Γ (.comp ci w ix ct ce) σ H Q):wF own ix (yT K cl Γ ci) g (tt K cl Γ ct) (tp K cl Γ ce) σ H Q:=by
 obtain⟨B,ρ,M,G,R,q1,q2,q3⟩:=h;refine⟨B,ρ,M,G,_,q1,q2,fun items M' G' H' J cz ok hh=>?_⟩;obtain⟨hlen,hc⟩:=hh;let f:Dt->Mem->(k_ Dt->Mem->Prop)->Prop:=fun x M K=>wQ ρ w ix x fun ρ'=>ev Γ ct ρ' M fun c M1=>av c fun c=>bI c fun c=>if c=true then ev Γ ce ρ' M1 fun d M2=>av d fun d=>K (some d) M2 else K none M1
 let f8:St:=ix.map fun j=>(σ[j]?).join
 refine⟨fun i m ys σ' Hc=>∃ Mc Gc ds,m=items.length-i/\i<=items.length/\bq K cl none G H M Gc Hc Mc/\ah G' Gc/\IsL K cl Gc ds ys/\ds.length<=i/\(∃ pre:St,pre.length=w/\σ'=pre++f8)/\dk f (items.drop i) Mc (fun es M2=>R (ds++es) M2),
  ⟨items.length,M',G',[],by omega,Xo _,cz,ah.refl _,IsL.nil,x_ _,⟨own.map fun _=>none,by rw[a_,hw],rfl⟩,hc⟩,?_⟩
 rintro i m ys σ' Hc ⟨Mc,Gc,ds,rfl,hi,fc,sc,is,dl,pq,kT⟩;have il:=is.length;obtain⟨Mz,Hl⟩:=ok i Gc Hc Mc sc fc.gh fc.mem;by_cases j3:i<items.length
 ·refine .inr ⟨(Mz j3).1,fun x Hx hy=>?_⟩;obtain⟨d,Gx,ed,QL,fx⟩:=(Mz j3).2 x Hx hy
  have QM:items.drop i=d::items.drop (i+1):=by
   rw[W6 j3];congr 1;have:=c_ j3;rw[this] at ed;exact F_ ed
  rw[QM] at kT;have QN:wQ ρ w ix d (fun ρ'=>ev Γ ct ρ' Mc fun c M1=>av c fun c=>bI c fun c=>if c=true then ev Γ ce ρ' M1 fun d M2=>av d fun d=>dk f (items.drop (i+1)) M2 (fun es M2=>R (ds++((some d).toList++es)) M2) else dk f (items.drop (i+1)) M1 (fun es M2=>R (ds++(none.toList++es)) M2)):=kT;refine hg QN QL fx.gh pq fun Us Ut Sr l1 hk=>?_
  have QO:=fc.trans fx;have r1:=C6 (ix:=ix) q1 QO.g fx.gh fx.mem Sr;have l2:(Ut.map some).length=w:=by rw[a_,←Sr.length,l1]
  refine⟨_,_,Mc,Gx,fun c M1=>if c=true then ev Γ ce (Us.map Sl.sh++ix.map (fZ ρ)) M1 fun d M2=>av d fun d=>dk f (items.drop (i+1)) M2 (fun es M2=>R (ds++((some d).toList++es)) M2) else dk f (items.drop (i+1)) M1 (fun es M2=>R (ds++(none.toList++es)) M2),r1,hk,fun b M1 G1 H1 f1 hb=>?_⟩
  cases b with
  | true =>
   rw[w_ rfl] at hb ⊢;refine⟨_,_,M1,G1,_,r1.on f1,hb,fun dd v M2 G2 H2 f2 i2 Az=>⟨by omega,items.length-(i+1),by omega,M2,G2,ds++[dd],rfl,j3,(QO.trans f1).trans f2,sc.trans ((fx.g.trans f1.g).trans f2.g),(is.mono ((fx.g.trans f1.g).trans f2.g)).append (IsL.cons i2 IsL.nil),by rw[G_,Wf];omega,⟨_,l2,rfl⟩,?_⟩⟩
   have e:(fun es M2=>R (ds++((some dd).toList++es)) M2)=fun es M2=>R (ds++[dd]++es) M2:=by
    funext es M2
    rw[YX];rfl
   rw[←e];exact Az
  | false =>
   rw[n_ q_] at hb ⊢;exact⟨items.length-(i+1),by omega,M1,G1,ds,rfl,j3,QO.trans f1,sc.trans (fx.g.trans f1.g),is.mono (fx.g.trans f1.g),by omega,⟨_,l2,rfl⟩,hb⟩
 ·have e:i=items.length:=by omega
  subst e;rw[ab5] at kT;refine .inl ⟨Hl rfl,by omega,fun D hD=>q3 ds ys Mc Gc Hc D fc hD is ?_⟩;have:=kT;change R (ds++[]) Mc at this;rwa [WB] at this
theorem Ej {d:Dt}{ix:List Nat}{ρ:En}{k:En->Prop}{x:V}{σ' f8:St}{Gc Hc:Hp}{R:St->Hp->Prop} (h:wQ ρ 1 ix d k) (i:Is K cl Gc d x) (s:ah Gc Hc) (hp:∃ pre:St,pre.length=1/\σ'=pre++f8)
  (q:∀ ds vs,IsL K cl Gc ds vs->ds.length=1->k (ds.map Sl.sh++ix.map (fZ ρ))->R (vs.map some++f8) Hc):dF 0 x σ' Hc R:=by
 obtain⟨pre,l,rfl⟩:=hp
 match pre,l with
 | [o],_=>exact q [d] [x] (IsL.cons i IsL.nil) rfl h
theorem MA {d:Dt}{ix:List Nat}{ρ:En}{k:En->Prop}{x:V}{σ' f8:St}{Gc Hc:Hp}{R:St->Hp->Prop} (h:wQ ρ 2 ix d k) (i:Is K cl Gc d x) (s:ah Gc Hc) (hp:∃ pre:St,pre.length=2/\σ'=pre++f8)
  (q:∀ ds vs,IsL K cl Gc ds vs->ds.length=2->k (ds.map Sl.sh++ix.map (fZ ρ))->R (vs.map some++f8) Hc):zb K 2 (jT (dF 0) (jT (dF 1) za)) x σ' Hc R:=by
 obtain⟨pre,l,rfl⟩:=hp
 match pre,l with
 | [o1,o2],_ =>
  cases d with
  | tup ds =>
   match ds,h with
   | [d1,d2],h =>
    unfold Is at i;obtain⟨t,vs,rfl,h1,h2⟩:=i;have l2:=h2.length
    match vs,l2 with
    | [v1,v2],_=>exact⟨t,[v1,v2],rfl,eG.of (s _ _ h1),rfl,v1,[v2],rfl,v2,[],rfl,rfl,q [d1,d2] [v1,v2] h2 rfl h⟩
  | _=>exact (show False from h).elim
theorem AA {σ:St}{H:Hp}{Q:Bool->Hp->Prop} (h:tt K cl Γ (.b true) σ H Q):KR σ H Q:=by
 obtain⟨B,ρ,M,G,k,h1,h2,h3⟩:=h;exact h3 true M G H h1.self h2
end
end PV
namespace PV
open PySem L2 SH PySem.Spec PyProof.Rows
section
variable {K:e_}{cl:Cl}{G H:Hp}{X:Cx}{pins:List (Addr×Obj)}{σ:L2.St}{s:h_}{a:Addr}{am:List (K_×Dt)}{xs:List (K_×Addr×Value)}
theorem DP.mem:∀ {am:List (K_×Dt)}{xs:List (K_×Addr×Value)},DP K cl G am xs->∀ q∈xs,pw q.1/\cC K G (.ref q.2.1) q.1
 | _,_,.nil,q,h=>nomatch h
 | _,_,.cons ⟨_,h2,h3,_⟩ t,q,h=>by
  rcases u_.mp h with e | h
  ·subst e;exact⟨h2,h3⟩
  ·exact DP.mem t q h
theorem k8 {kv:K_×Dt}{p:K_}:f6 (kv::am) p=if kv.1=p then some kv.2 else f6 am p:=by
 unfold f6;rw[Xh];by_cases e:kv.1=p
 ·rw[d_ e,w_ e];rfl
 ·rw[f_ e,n_ e]
theorem vP {kv:K_×Addr×Value}{p:K_}:atKey (kv::xs) p=if kv.1=p then some kv.2 else atKey xs p:=by
 unfold atKey;rw[Xh];by_cases e:kv.1=p
 ·rw[d_ e,w_ e];rfl
 ·rw[f_ e,n_ e]
theorem DP.at_ (p:K_):∀ {am:List (K_×Dt)}{xs:List (K_×Addr×Value)},DP K cl G am xs->(∀ d,f6 am p=some d->∃ q,atKey xs p=some q/\∃ v,RelV v q.2/\Is K cl G d v)/\(f6 am p=none->atKey xs p=none)
 | _,_,.nil=>by constructor;exact fun d h=>(nomatch (show (none:k_ Dt)=some d from h));exact fun _=>rfl
 | kv::_,q::_,.cons ⟨h1,h2,h3,v,h4,h5⟩ t=>by
  obtain⟨i1,i2⟩:=DP.at_ p t;rw[k8,vP,←h1];by_cases e:kv.1=p
  ·rw[w_ e,w_ e];exact⟨fun d h=>by cases h;exact⟨q.2,rfl,v,h4,h5⟩,fun h=>by cases h⟩
  ·rw[n_ e,n_ e];exact⟨i1,i2⟩
theorem DP.snoc {p:K_}{d:Dt}{b:Addr}{u:Value} (h:pw p/\cC K G (.ref b) p/\∃ v,RelV v u/\Is K cl G d v):∀ {am:List (K_×Dt)}{xs:List (K_×Addr×Value)},DP K cl G am xs->DP K cl G (am++[(p,d)]) (xs++[(p,b,u)])
 | _,_,.nil=>.cons ⟨rfl,h⟩ .nil
 | _,_,.cons q t=>.cons q (DP.snoc h t)
theorem DP.length:∀ {am:List (K_×Dt)}{xs:List (K_×Addr×Value)},DP K cl G am xs->am.length=xs.length:=fun h=>ZX h
theorem vQ (I:Inv X pins σ H s) (hw:cl.w=X.w) (sm:ah G H) (d:lW X.K cl G H a am):(a==XY)=false/\am.length<=sizeLine/\∃ xs,H a=some (pB X.w a xs)/\DP X.K cl G am xs/\Heap.DictOfH (fK X.prog X.w) s.heap a xs:=by
 obtain⟨h1,h2,xs,h3,h4,h5⟩:=d;rw[hw] at h3;have bf:aU X.prog X.w H s.heap a (pB X.w a xs):=I.bf a _ h3;unfold pB at bf;obtain⟨⟨o,es,ep,g1,g2,g3,g4⟩,_,_⟩:=bf;refine⟨h1,h2,xs,h3,h5,o,es,ep,g1,g2,g3,g4,fun x hx=>?_,h4⟩;obtain⟨q2,q3⟩:=h5.mem x hx;obtain⟨as,r⟩:=(q3.same sm).reads I (.ref x.2.1) rfl;exact⟨q2,as,r⟩
theorem rS {v:V}{ps:List K_} (h:cC K H v (.tuple ps)):∃ b,v=.ref b:=by cases h;exact⟨_,rfl⟩
theorem vR (I:Inv X pins σ H s) {b:Addr}{p:K_} (hk:pw p) (h:cC X.K H (.ref b) p):(fK X.prog X.w).is s.heap p b:=by
 obtain⟨as,r⟩:=h.reads I (.ref b) rfl;exact⟨hk,as,r⟩
theorem C7 {w:World}{P:L_}{H':Hp}{h:Heap} (dd:Heap.DictOfH (fK P w) h a xs):aU P w H' h a (pB w a xs):=by
 obtain⟨o,es,ep,g1,g2,g3,g4,_,_⟩:=dd;refine⟨⟨o,es,ep,g1,g2,g3,g4⟩,⟨o,g1⟩,fun h1 h2 ⟨o,es,ep,q1,q2,q3,q4⟩ k=>⟨o,es,ep,k o q1,q2,q3,q4⟩⟩
theorem C8 {w:World}{P:L_}{H':Hp} (h:Heap):aU P w H' (h.push { cls:=.type "dict",data:=.dict #[] }) h.objs.size (pB w h.objs.size []) :=
 ⟨⟨_,#[],0,v_ _ rfl,⟨rfl,rfl,rfl⟩,rfl,rfl⟩,⟨_,v_ _ rfl⟩,fun h1 h2 ⟨o,es,ep,q1,q2,q3,q4⟩ k=>⟨o,es,ep,k o q1,q2,q3,q4⟩⟩
end
def MB (K:e_) (cl:Cl) (td ty:TE):TE:=fun σ H Q=>td σ H fun x H1=>ty σ H1 fun y H2=>∃ G a am ps d,x=.ref a/\ah G H2/\lW K cl G H2 a am/\pw (.tuple ps)/\cC K H2 y (.tuple ps)/\f6 am (.tuple ps)=some d/\∀ v,Is K cl G d v->Q v H2
def Ek (K:e_) (cl:Cl) (ty td:TE):TE:=fun σ H Q=>ty σ H fun y H1=>td σ H1 fun x H2=>∃ G a am ps,x=.ref a/\ah G H2/\lW K cl G H2 a am/\pw (.tuple ps)/\cC K H2 y (.tuple ps)/\Q (.bl (f6 am (.tuple ps)).isNone) H2
def MC (w:World):TE:=fun _ H Q=>∀ p,(p==XY)=false->H p=none->Q (.ref p) (upd H p (pB w p []))
def MD (K:e_) (cl:Cl) (td ty tv:TE):TS:=fun D σ H=>tv σ H fun v H1=>td σ H1 fun x H2=>ty σ H2 fun y H3=>∃ G a am ps d xs,x=.ref a/\ah G H3/\lW K cl G H3 a am/\H3 a=some (pB cl.w a xs)/\pw (.tuple ps)/\cC K G y (.tuple ps)/\f6 am (.tuple ps)=none/\am.length<sizeLine/\Is K cl G d v /\
 ∀ u,(∀ H',H' a=some u->lW K cl G H' a (am++[(.tuple ps,d)]))->D.nx σ (upd H3 a u)
section
variable {X:Cx}{cl:Cl}{o i e value:Expr}{pos pos' Kv:Pos}{td ty tv:TE}
theorem C9 (hw:cl.w=X.w):PE X (.Dict [] [] pos) (MC cl.w):=fun pins s σ H Q I h=>by
 rw[hw] at h;exact wpAny_Dict_empty ⟨.ref s.heap.objs.size,_,I.laid (a:=s.heap.objs.size) (o:=pB X.w s.heap.objs.size []) (t':=s.toks) (fun _ _ q=>i_ _ q) (x_ _) (C8 s.heap),rfl,h _ (W3.mpr (M_ (J_ I.big))) (I.bf.fresh (x_ _))⟩
theorem Db (hw:cl.w=X.w) (hu:X.A.units+66<cLine) (ho:PE X o td) (hi:PE X i ty) (hs:Gg i):PE X (.Subscript o i pos) (MB X.K cl td ty):=by
 intro pins s σ H Q I h;refine CB PySem.F.slot_dict_getitem.lookup hs (a9 (ho pins s σ H _ I h) fun u s1 z1=>?_);obtain⟨x,H1,I1,rx,q1⟩:=z1;refine a9 (hi pins s1 σ H1 _ I1 q1) fun iv s2 z2=>?_
 obtain⟨y,H2,I2,ry,G,a,am,ps,d,rfl,sm,da,hk,hy,hg,q2⟩:=z2;obtain rfl:u=V5 a:=rx;obtain⟨b,rfl⟩:=rS hy;obtain rfl:iv=V5 b:=ry;obtain⟨z1,z2,xs,z3,z4,dd⟩:=vQ I2 hw sm da;obtain⟨q,e1,v,e2,e3⟩:=(z4.at_ (.tuple ps)).1 d hg;refine⟨dd.typeIs,wpAny_getItem_heap (knd:=fK X.prog X.w) (show X.A.in1.units+64<cLine by show X.A.units+1+64<cLine;omega) (vR I2 hk hy) dd e1 ?_⟩;exact⟨v,H2,I2.tok _,e2,q2 v e3⟩
theorem wV (hw:cl.w=X.w) (hu:X.A.units+66<cLine) (hi:PE X i ty) (ho:PE X o td):PC X .NotIn i o (Ek X.K cl ty td):=by
 intro pins s σ H Q I h;refine a9 (hi pins s σ H _ I h) fun iv s1 z1=>?_
 obtain⟨y,H1,I1,ry,q1⟩:=z1;refine a9 (ho pins s1 σ H1 _ I1 q1) fun u s2 z2=>?_
 obtain⟨x,H2,I2,rx,G,a,am,ps,rfl,sm,da,hk,hy,q2⟩:=z2;obtain rfl:u=V5 a:=rx;obtain⟨b,rfl⟩:=rS hy;obtain rfl:iv=V5 b:=ry;obtain⟨z1,z2,xs,z3,z4,dd⟩:=vQ I2 hw sm da;refine wpAny_notIn_heap (knd:=fK X.prog X.w) (show X.A.in1.units+64<cLine by show X.A.units+1+64<cLine;omega) (vR I2 hk hy) z1 dd ?_
 have e:(!(atKey xs (.tuple ps)).isSome)=(f6 am (.tuple ps)).isNone:=by
  obtain⟨i1,i2⟩:=z4.at_ (.tuple ps)
  cases g:f6 am (.tuple ps) with
  | none=>rw[i2 g];rfl
  | some d=>obtain⟨q,e1,_⟩:=i1 d g;rw[e1];rfl
 rw[e];exact⟨.bl _,H2,I2.tok _,rfl,q2⟩
theorem Dc (hw:cl.w=X.w) (hu:X.A.units+66<cLine) (ho:PE X o td) (hi:PE X i ty) (hv:PE X value tv) (hs:Xd value (some (.Subscript o i pos')) pos.line X.env=pure false) :
  PS X (.Assign [.Subscript o i pos'] value pos) (MD X.K cl td ty tv):=by
 intro pins s σ H D I h;refine wpAny_Assign_Subscript (a9 (hv pins s σ H _ I h) fun r s1 z1=>?_) hs;obtain⟨v,H1,I1,rv,q1⟩:=z1;refine a9 (ho pins s1 σ H1 _ I1 q1) fun u s2 z2=>?_
 obtain⟨x,H2,I2,rx,q2⟩:=z2;refine a9 (hi pins s2 σ H2 _ I2 q2) fun iv s3 z3=>?_
 obtain⟨y,H3,I3,ry,G,a,am,ps,d,sR,rfl,sm,da,he,hk,hy,hg,hl,hd,q3⟩:=z3;obtain rfl:u=V5 a:=rx;obtain⟨b,rfl⟩:=rS hy;obtain rfl:iv=V5 b:=ry;obtain⟨z1,z2,xs,z3,z4,dd⟩:=vQ I3 hw sm da;have nk:=(z4.at_ (.tuple ps)).2 hg;refine wpAny_setItem_heap (knd:=fK X.prog X.w) (hsz:=by rw[←z4.length];exact z2) (show X.A.in1.units+64<cLine by show X.A.units+1+64<cLine;omega) (vR I3 hk (hy.same sm)) dd fun h' OB yP=>?_
 have e:storedH xs (.tuple ps) b r=xs++[(.tuple ps,b,r)]:=by unfold storedH;rw[nk];rfl
 rw[e] at OB;refine⟨σ,_,CA I3 (by rw[z3];exact WG) yP (let ⟨q,_,_,hq,_⟩:=OB;⟨q,hq⟩) (C7 OB),q3 _ fun H' e'=>?_⟩;obtain⟨_,_,_,_,_,_,_,_,nd⟩:=OB;refine⟨z1,by rw[G_];exact hl,_,by rw[hw];exact e',nd,z4.snoc ⟨hk,hy,v,rv,hd⟩⟩
end
end PV
namespace PV
open PySem L2 SH
section
variable {K:e_}{cl:Cl}{Γ:Gm}{c ca cb cc:C}{σ:St}{G H:Hp}{Q:VK}{X:Cx}{e a b:Expr}{pos p:Pos}
theorem nQ {M:Mem}{d:Dt}{k:Addr->List (K_×Dt)->Prop} (h:GN M d k):∃ q ds,d=.fD q/\M q=some (.md ds)/\k q ds:=by
 cases d with
 | fD q =>
  change (match M q with | some (.md ds)=>k q ds | _=>False) at h
  cases e:M q with
  | none=>rw[e] at h;exact h.elim
  | some m =>
   rw[e] at h
   cases m with
   | ml _=>exact h.elim
   | mo _ _ _=>exact h.elim
   | md ds=>exact⟨q,ds,rfl,e,h⟩
 | _=>exact (show False from h).elim
theorem ME {b:Expr} (h:iX b=true):Gg b:=fun o i=>by
 cases b<;>first | rfl | cases h
theorem MF (hw:cl.w=X.w):PE X (.Dict [] [] pos) (tp X.K cl Γ .GH):=(C9 hw).imp fun σ H Q h=>by
 obtain⟨B,ρ,M,G,R,h1,h2,h3⟩:=h;intro p hs hp;have f2:=bq.cell (o:=pB cl.w p []) (m:=.md []) h1.cz.gh h1.cz.mem hp fun H' e=>⟨hs,Xo _,[],e,List.nodup_nil,.nil⟩
 refine h3 (.fD p) (.ref p) _ _ _ f2 (by unfold Is;rfl) (h2 p ?_)
 cases e:M p with
 | none=>rfl
 | some w=>obtain⟨u,hu⟩:=(h1.cz.mem p w e).2.jL;rw[hp] at hu;cases hu
theorem MG (hw:cl.w=X.w) (hu:X.A.units+66<cLine) (ha:PE X a (tp X.K cl Γ ca)) (hb:PE X b (tp X.K cl Γ cb)) (hs:iX b=true):PE X (.Subscript a b pos) (tp X.K cl Γ (.GK ca cb)):=(Db hw hu ha hb (ME hs)).imp fun σ H Q h=>by
 obtain⟨B,ρ,M,G,R,h1,h2,h3⟩:=h;refine⟨B,ρ,M,G,_,h1,h2,fun x vx M1 G1 H1 f1 i1 hx=>⟨B,ρ,M1,G1,_,h1.on f1,hx,fun y vy M2 G2 H2 f2 i2 hz=>?_⟩⟩;obtain⟨ps,e1,e2,hz⟩:=hz;obtain⟨q,am,rfl,hm,v,hg,hR⟩:=nQ hz;unfold Is at i1;subst i1;exact⟨G2,q,am,ps,v,rfl,f2.gh,(f2.mem q _ hm).2,e2,i2.dat f2.gh e1,hg,fun v' iv=>h3 _ _ M2 G2 H2 (f1.trans f2) iv hR⟩
theorem AB (h:tp K cl Γ (.CS ca cb) σ H Q):Ek K cl (tp K cl Γ ca) (tp K cl Γ cb) σ H Q:=by
 obtain⟨B,ρ,M,G,R,h1,h2,h3⟩:=h;refine⟨B,ρ,M,G,_,h1,h2,fun x vx M1 G1 H1 f1 i1 hx=>⟨B,ρ,M1,G1,_,h1.on f1,hx,fun y vy M2 G2 H2 f2 i2 hz=>?_⟩⟩;obtain⟨ps,e1,e2,hz⟩:=hz;obtain⟨q,am,rfl,hm,hR⟩:=nQ hz;unfold Is at i2;subst i2;exact⟨G2,q,am,ps,rfl,f2.gh,(f2.mem q _ hm).2,e2,(i1.mono f2.g).dat f2.gh e1,h3 _ _ M2 G2 H2 (f1.trans f2) Is.wR hR⟩
theorem MH (hw:cl.w=X.w) (hu:X.A.units+66<cLine) (ha:PE X a (tp X.K cl Γ ca)) (hb:PE X b (tp X.K cl Γ cb)) (hs:fN b=true):PE X (.Compare a [.NotIn] [b] pos) (tp X.K cl Γ (.CS ca cb)):=(yY (wV hw hu ha hb) (dm hs)).imp fun _ _ _=>AB
theorem MI (hw:cl.w=X.w) (hu:X.A.units+66<cLine) (ha:PE X a (tp X.K cl Γ ca)) (hb:PE X b (tp X.K cl Γ cb)) (hs:fN b=true):PT X (.Compare a [.NotIn] [b] pos) (tt X.K cl Γ (.CS ca cb)):=(yZ (wV hw hu ha hb) (dm hs)).imp fun _ _ _ h=>AB (tX h)
end
end PV
namespace PV
open PySem L2 SH
section
variable (K:e_) (cl:Cl)
structure Lk (ii:Bool) (B:Bs) (G:Hp) (E:yu) (D:Ends):Prop where
 ii:ii=false->B.sf=none
 nx:∀ ρ M σ H G',ah G G'->Rep K cl B ρ M σ H G'->E.nx ρ M->D.nx σ H
 rt:∀ d v ρ M σ H G',Rep K cl B ρ M σ H G'->Is K cl G' d v->E.rt d M->D.rt v H
 bk:∀ ρ M σ H G',ah G G'->Rep K cl B ρ M σ H G'->E.bk ρ M->D.bk σ H
 ct:∀ ρ M σ H G',ah G G'->Rep K cl B ρ M σ H G'->E.ct ρ M->D.ct σ H
inductive tS (Γ:Gm) (ii:Bool) (s:S) (D:Ends) (σ:St) (H:Hp):Prop where
 | mk (B:Bs) (ρ:En) (M:Mem) (G:Hp) (E:yu):Rep K cl B ρ M σ H G->ex Γ s ρ M E->Lk K cl ii B G E D->tS Γ ii s D σ H
end
section
variable {K:e_}{cl:Cl}{Γ:Gm}{c ca cb cc:C}{σ:St}{G H:Hp}{D:Ends}{B:Bs}{ρ:En}{M:Mem}{E:yu}{ii:Bool}
theorem Lk.later {G':Hp} (l:Lk K cl ii B G E D) (s:ah G G'):Lk K cl ii B G' E D:=⟨l.ii,fun ρ M σ H G2 s2=>l.nx ρ M σ H G2 (s.trans s2),l.rt,fun ρ M σ H G2 s2=>l.bk ρ M σ H G2 (s.trans s2),fun ρ M σ H G2 s2=>l.ct ρ M σ H G2 (s.trans s2)⟩
theorem bh {α:Type}{l:List α}{k i:Nat}{x y:α} (h:(l.set k x)[i]? = some y):(i=k/\y=x/\k<l.length)∨(i≠k/\l[i]? = some y):=by
 by_cases e:i=k
 ·subst e;have hl:i<(l.set i x).length:=(j_.mp h).1;rw[Xi] at hl;rw[Xl hl] at h;exact .inl ⟨rfl,(F_ h).symm,hl⟩
 ·rw[Ye (M_ e)] at h;exact .inr ⟨e,h⟩
theorem nR {α:Type}{l:List α}{k i:Nat}{x:α} (h:i≠k):(l.set k x)[i]? = l[i]? := Ye (M_ h)
theorem MJ {k:Nat}{x:k_ V} (r:Rep K cl B ρ M σ H G) (hk:k≠0∨B.sf=none):∀ a,B.sf=some a->(σ.set k x)[(0:Nat)]? = some (some (.ref a)):=fun a e=>by
 rcases hk with hk | hk
 ·rw[nR (M_ hk)];exact r.s0 a e
 ·rw[hk] at e;cases e
theorem Lk.k {k:Nat} (l:Lk K cl ii B G E D) (h:ii=true->k≠0):k≠0∨B.sf=none:=by
 cases ii with
 | true=>exact .inl (h rfl)
 | false=>exact .inr (l.ii rfl)
theorem Rep.yA {k:Nat}{d:Dt}{v:V} (r:Rep K cl B ρ M σ H G) (qI:k≠0∨B.sf=none) (i:Is K cl G d v):Rep K cl B (ρ.set k (.sh d)) M (σ.set k (some v)) H G:=by
 obtain⟨oa,h1,h2⟩:=r.ow;refine⟨r.cz,by rw[Xi,Xi];exact r.len,MJ r qI,fun j e hj=>?_,oa,fun j e hj=>?_,fun j l e e' hj hl=>?_⟩
 ·rcases bh hj with ⟨rfl,he,hk⟩ | ⟨hn,hj⟩
  ·cases he;exact⟨v,Xl (by rw[←r.len];exact hk),i⟩
  ·rw[nR hn];exact r.sh j e hj
 ·rcases bh hj with ⟨rfl,he,hk⟩ | ⟨hn,hj⟩
  ·cases he
  ·rw[nR hn];exact h1 j e hj
 ·rcases bh hj with ⟨rfl,he,hk⟩ | ⟨hn,hj⟩
  ·cases he
  ·rcases bh hl with ⟨rfl,he,hk⟩ | ⟨Bx,hl⟩
   ·cases he
   ·exact h2 j l e e' hj hl
theorem Rep.MK {k:Nat}{d:Dt}{a:Addr}{H' G':Hp}{M':Mem}{H0:Hp} (r:Rep K cl B ρ M σ H0 G) (qI:k≠0∨B.sf=none) (f:bq K cl none G H0 M G' H' M') (ha:H0 a=none) (ga:G' a=none) (ma:M' a=none) {o:MO} (ho:GF d=some o) (hc:b6 K cl G' H' a o) :
  Rep K cl B (ρ.set k (.ow d)) M' (σ.set k (some (.ref a))) H' G':=by
 have r':=r.on f;obtain⟨oa,h1,h2⟩:=r.ow
 have fr:∀ j e,ρ[j]? = some (Sl.ow e)->oa j≠a:=fun j e hj z=>by
  obtain⟨_,_,_,_,o,_,hc⟩:=h1 j e hj;obtain⟨u,hu⟩:=hc.jL;rw[z,ha] at hu;cases hu
 have ba:B.H a=none:=bF r.cz.jL ha;refine⟨r'.cz,by rw[Xi,Xi];exact r.len,MJ r qI,fun j e hj=>?_,fun j=>if j=k then a else oa j,fun j e hj=>?_,fun j l e e' hj hl q=>?_⟩
 ·rcases bh hj with ⟨rfl,he,hk⟩ | ⟨hn,hj⟩
  ·cases he
  ·rw[nR hn];exact r'.sh j e hj
 ·rcases bh hj with ⟨rfl,he,hk⟩ | ⟨hn,hj⟩
  ·cases he
   dsimp only;rw[w_ rfl];exact⟨Xl (by rw[←r.len];exact hk),ga,ma,.inl ba,o,ho,hc⟩
  ·dsimp only;rw[n_ hn,nR hn];exact⟨(h1 j e hj).1,(h1 j e hj).2.cz f⟩
 ·rcases bh hj with ⟨rfl,he,hk⟩ | ⟨hn,Lh⟩
  ·rcases bh hl with ⟨rfl,Uu,JL⟩ | ⟨Bx,FQ⟩
   ·rfl
   ·dsimp only at q;rw[w_ rfl,n_ Bx] at q;exact absurd q.symm (fr l e' FQ)
  ·rcases bh hl with ⟨rfl,Uu,JL⟩ | ⟨Bx,FQ⟩
   ·dsimp only at q;rw[n_ hn,w_ rfl] at q;exact absurd q (fr j e Lh)
   ·dsimp only at q;rw[n_ hn,n_ Bx] at q;exact h2 j l e e' Lh FQ q
theorem Rep.chg {k:Nat}{d d':Dt}{o':MO}{u:HO} (r:Rep K cl B ρ M σ H G) (hk:ρ[k]? = some (.ow d)):∃ a o,σ[k]? = some (some (.ref a))/\GF d=some o/\b6 K cl G H a o/\M a=none/\G a=none /\
  (GF d'=some o'->(∀ H',H' a=some u->b6 K cl G H' a o')->Rep K cl B (ρ.set k (.ow d')) M σ (upd H a u) G):=by
 obtain⟨oa,h1,h2⟩:=r.ow;obtain⟨e1,ga,ma,ba,o,ho,hc⟩:=h1 k d hk;refine⟨oa k,o,e1,ho,hc,ma,ga,fun kR yX=>?_⟩;obtain⟨w,hw⟩:=hc.jL;have ne:∀ b v,H b=some v->b≠oa k->(upd H (oa k) u) b=some v:=fun b v hb hn=>by rw[aq hn];exact hb
 have gn:∀ b v,G b=some v->b≠oa k:=fun b v hb z=>by rw[z,ga] at hb;cases hb
 have mn:∀ b v,M b=some v->b≠oa k:=fun b v hb z=>by rw[z,ma] at hb;cases hb
 refine⟨⟨r.cz.g,fun b v hb=>ne b v (r.cz.gh b v hb) (gn b v hb),fun b v hb=>?_,r.cz.gf,fun b v hb hm hs=>ne b v (r.cz.h b v hb hm hs) fun z=>?_,fun b v hb=>⟨(r.cz.mem b v hb).1,(r.cz.mem b v hb).2.mono (ah.refl G) fun x hx=>ne b x hx (mn b v hb)⟩,r.cz.mf,r.cz.ke⟩,
  by rw[Xi];exact r.len,r.s0,fun j e hj=>?_,oa,fun j e hj=>?_,fun j l e e' hj hl=>?_⟩
 ·obtain⟨v',hv⟩:=r.cz.jL b v hb;by_cases z:b=oa k
  ·rw[z];exact⟨u,aA⟩
  ·exact⟨v',ne b v' hv z⟩
 ·subst z;rcases ba with ba | ⟨ba,_⟩
  ·rw[ba] at hb;cases hb
  ·exact hs ba
 ·rcases bh hj with ⟨rfl,he,_⟩ | ⟨hn,hj⟩
  ·cases he
  ·exact r.sh j e hj
 ·rcases bh hj with ⟨rfl,he,_⟩ | ⟨hn,hj⟩
  ·cases he
   exact⟨e1,ga,ma,ba,o',kR,yX _ aA⟩
  ·obtain⟨q1,q2,q3,q4,o2,q5,q6⟩:=h1 j e hj;exact⟨q1,q2,q3,q4,o2,q5,q6.mono (ah.refl G) fun x hx=>ne _ x hx fun z=>hn (h2 j k e d hj hk z)⟩
 ·have back:∀ {j:Nat}{e:Dt},(ρ.set k (.ow d'))[j]? = some (Sl.ow e)->∃ e0,ρ[j]? = some (Sl.ow e0):=fun {j e} hj=>by
   rcases bh hj with ⟨rfl,_,_⟩ | ⟨_,hj⟩
   ·exact⟨d,hk⟩
   ·exact⟨e,hj⟩
  obtain⟨e0,QP⟩:=back hj;obtain⟨l0,QQ⟩:=back hl;exact h2 j l e0 l0 QP QQ
theorem Rep.eM {k:Nat}{d:Dt} (r:Rep K cl B ρ M σ H G) (hk:ρ[k]? = some (.ow d)) (h0:k≠0):∃ G',ah G G'/\Rep K cl B (ρ.set k (.sh d)) M σ H G':=by
 obtain⟨oa,h1,h2⟩:=r.ow;obtain⟨e1,ga,ma,ba,o,ho,hc⟩:=h1 k d hk;obtain⟨w,hw⟩:=hc.jL;have bn:B.H (oa k)=none:=ba.elim id fun z=>absurd z.2 h0
 have sm:ah G (upd G (oa k) w):=ah.put ga
 have is:Is K cl (upd G (oa k) w) d (.ref (oa k)):=by
  cases d<;>first | (cases ho;done) | skip
  ·cases ho
   obtain⟨vs,q1,q2⟩:=hc;rw[hw] at q1;cases q1;unfold Is;exact⟨_,vs,rfl,aA,q2.mono sm⟩
  ·cases ho
   obtain⟨dx,vs,q1,q2,q3⟩:=hc;rw[hw] at q1;cases q1;unfold Is;exact⟨_,dx,vs,rfl,aA,q2,q3.mono sm⟩
 refine⟨upd G (oa k) w,sm,r.cz.Mw bn ga ma hw,by rw[Xi];exact r.len,r.s0,fun j e hj=>?_,oa,fun j e hj=>?_,fun j l e e' hj hl=>?_⟩
 ·rcases bh hj with ⟨rfl,he,_⟩ | ⟨hn,hj⟩
  ·cases he;exact⟨_,e1,is⟩
  ·obtain⟨v,q1,q2⟩:=r.sh j e hj;exact⟨v,q1,q2.mono sm⟩
 ·rcases bh hj with ⟨rfl,he,_⟩ | ⟨hn,hj⟩
  ·cases he
  ·obtain⟨q1,q2,q3,q4,o2,q5,q6⟩:=h1 j e hj;exact⟨q1,by rw[aq fun z=>hn (h2 j k e d hj hk z)];exact q2,q3,q4,o2,q5,q6.mono sm fun x hx=>hx⟩
 ·rcases bh hj with ⟨rfl,he,_⟩ | ⟨_,hj⟩
  ·cases he
  ·rcases bh hl with ⟨rfl,he,_⟩ | ⟨_,hl⟩
   ·cases he
   ·exact h2 j l e e' hj hl
theorem dQ {k:Nat}{q:Dt->Prop} (h:cX ρ k q):∃ d,ρ[k]? = some (.ow d)/\q d:=by
 unfold cX at h;split at h
 ·exact⟨_,by assumption,h⟩
 ·exact h.elim
theorem yB {k:Nat}{q:Dt->Prop} (h:mD ρ k q):∃ d,ρ[k]? = some (.sh d)/\q d:=by
 unfold mD at h;split at h
 ·exact⟨_,by assumption,h⟩
 ·exact h.elim
end
end PV
namespace PV
open PySem L2 SH
section
variable {K:e_}{cl:Cl}{Γ:Gm}{c ca cb cc:C}{σ:St}{G H:Hp}{D:Ends}{X:Cx}{st:Stmt}{bx:List Stmt}{sa sb:S}{e a b o tg:Expr}{es:List Expr}{pos p p' apos:Pos}{n:Nat}{fns mG cls pE:List Str}{pG:List Nat}{ii:Bool}
theorem Hm:lL X [] (tS X.K cl Γ ii .skip):=BY.imp fun D σ H h=>by
 obtain⟨B,ρ,M,G,E,h1,h2,h3⟩:=h;exact h3.nx ρ M σ H G (ah.refl G) h1 h2
theorem ML (ha:PS X st (tS X.K cl Γ ii sa)) (hb:lL X bx (tS X.K cl Γ ii sb)):lL X (st::bx) (tS X.K cl Γ ii (.seq sa sb)):=(y7 ha hb).imp fun D σ H h=>by
 obtain⟨B,ρ,M,G,E,h1,h2,h3⟩:=h;exact⟨B,ρ,M,G,_,h1,h2,⟨h3.ii,fun ρ' M' σ' H' G' s r q=>⟨B,ρ',M',G',E,r,q,h3.later s⟩,h3.rt,h3.bk,h3.ct⟩⟩
theorem MM {k:Nat} (hk:k≠0) (hb:lL X bx (tS X.K cl Γ ii sb)):lL X bx (tS X.K cl Γ ii (.seq (.eM k) sb)):=hb.imp fun D σ H h=>by
 obtain⟨B,ρ,M,G,E,h1,h2,h3⟩:=h;obtain⟨d,e,q⟩:=dQ (show cX ρ k _ from h2);obtain⟨G',s,r⟩:=h1.eM e hk;exact⟨B,_,M,G',E,r,q,h3.later s⟩
theorem El {k:Nat}{x:Str} (hN:X.N.Nodup) (hi:X.N[k]? = some x) (hx:Loc X.env.scope x) (hf:X.fn x=true) (qI:ii=true->k≠0) (hs:Xd e (some (.Name x p')) pos.line X.env=pure false) (he:PE X e (tp X.K cl Γ c)):PS X (.Assign [.Name x p'] e pos) (tS X.K cl Γ ii (.set k c)) :=
 (uZ hN hi hx he hs (.inl hf)).imp fun D σ H h=>by
  obtain⟨B,ρ,M,G,E,h1,h2,h3⟩:=h;exact⟨B,ρ,M,G,_,h1,h2,fun d v M' G' H' f i q=>h3.nx _ M' _ H' G' f.g ((h1.on f).yA (h3.k qI) i) q⟩
theorem wW {k:Nat} (qI:ii=true->k≠0) (h:tS K cl Γ ii (.fL k c) D σ H):tf K cl Γ c σ H fun v H1=>D.nx (σ.set k (some v)) H1:=by
 obtain⟨B,ρ,M,G,E,h1,h2,h3⟩:=h;refine⟨B,ρ,M,G,_,h1,h2,fun ds vs M' G' H' p f hp i q=>h3.nx _ M' _ _ G' f.g ?_ q⟩;have up:ah H' (upd H' p (.lst vs)):=ah.put hp;have f2:bq K cl none G' H' M' G' (upd H' p (.lst vs)) M':=⟨ah.refl _,f.gh.trans up,fun a u h=>⟨u,up a u h⟩,fun a u h n=>absurd h (by rw[n];exact fun z=>nomatch z),fun a u h _ _=>up a u h,fun a u h=>⟨(f.mem a u h).1,(f.mem a u h).2.mono (ah.refl _) fun x hx=>up a x hx⟩,fun a u h n=>absurd h (by rw[n];exact fun z=>nomatch z),fun a u h=>⟨u,h,rfl⟩⟩;exact (h1.on f).MK (h3.k qI) f2 hp (vL f.gh hp) (nP f.mem hp) (o:=.ml ds) rfl ⟨vs,aA,i⟩
theorem AC {k:Nat}{x:Str} (hN:X.N.Nodup) (hi:X.N[k]? = some x) (hx:Loc X.env.scope x) (hf:X.fn x=true) (qI:ii=true->k≠0) (hs:Xd e (some (.Name x p')) pos.line X.env=pure false) (he:PE X e (tf X.K cl Γ c)):PS X (.Assign [.Name x p'] e pos) (tS X.K cl Γ ii (.fL k c)) :=
 (uZ hN hi hx he hs (.inl hf)).imp fun D σ H h=>wW qI h
theorem Hn {k q:Nat}{x:Str} (hN:X.N.Nodup) (hi:X.N[k]? = some x) (hx:Loc X.env.scope x) (hf:X.fn x=true) (qI:ii=true->k≠0) (hs:Xd e (some (.Name x p')) pos.line X.env=pure false) (he:PE X e (Mv X.K cl Γ q c)):PS X (.Assign [.Name x p'] e pos) (tS X.K cl Γ ii (.yr k q c)) :=
 (uZ hN hi hx he hs (.inl hf)).imp fun D σ H h=>by
  obtain⟨B,ρ,M,G,E,h1,h2,h3⟩:=h;exact⟨B,ρ,M,G,_,h1,h2,fun fs xs us M2 G2 H2 y dx hR f hy gy my ey l i=>h3.nx _ M2 _ _ G2 f.g (h1.MK (h3.k qI) f hy gy my (d:=.obj q fs xs) (o:=.mo q fs xs) rfl ⟨dx,us,ey,l,i⟩) hR⟩
theorem QR (hs:Xd e none pos.line X.env=pure false) (he:PE X e (tp X.K cl Γ c)):PS X (.Expr e pos) (tS X.K cl Γ ii (.ex c)):=(jR he hs).imp fun D σ H h=>by
 obtain⟨B,ρ,M,G,E,h1,h2,h3⟩:=h;exact⟨B,ρ,M,G,_,h1,h2,fun d v M' G' H' f i q=>h3.nx _ M' _ H' G' f.g (h1.on f) q⟩
theorem MN (he:PE X e (tp X.K cl Γ c)):PS X (.Return (some e) pos) (tS X.K cl Γ ii (.ret c)):=(Fd he).imp fun D σ H h=>by
 obtain⟨B,ρ,M,G,E,h1,h2,h3⟩:=h;exact⟨B,ρ,M,G,_,h1,h2,fun d v M' G' H' f i q=>h3.rt d v ρ M' σ H' G' (h1.on f) i q⟩
theorem Ho:PS X (.Return none pos) (tS X.K cl Γ ii .Ad):=B0.imp fun D σ H h=>by
 obtain⟨B,ρ,M,G,E,h1,h2,h3⟩:=h;exact h3.rt .aK .aK ρ M σ H G h1 (by unfold Is;rfl) h2
theorem MP:PS X (.Break pos) (tS X.K cl Γ ii .brk):=y8.imp fun D σ H h=>by
 obtain⟨B,ρ,M,G,E,h1,h2,h3⟩:=h;exact h3.bk ρ M σ H G (ah.refl G) h1 h2
theorem Hq:PS X (.Pass pos) (tS X.K cl Γ ii .skip):=BZ.imp fun D σ H h=>by
 obtain⟨B,ρ,M,G,E,h1,h2,h3⟩:=h;exact h3.nx ρ M σ H G (ah.refl G) h1 h2
theorem Dd:PS X st (tS X.K cl Γ ii .never):=y9.imp fun D σ H h=>by
 obtain⟨B,ρ,M,G,E,h1,h2,h3⟩:=h;exact h2
theorem MQ {t:Expr}{ba bb:List Stmt} (ht:PT X t (tt X.K cl Γ c)) (ha:lL X ba (tS X.K cl Γ ii sa)) (hb:lL X bb (tS X.K cl Γ ii sb)):PS X (.If t ba bb pos) (tS X.K cl Γ ii (.ite c sa sb)):=(Kd ht ha hb).imp fun D σ H h=>by
 obtain⟨B,ρ,M,G,E,h1,h2,h3⟩:=h;refine⟨B,ρ,M,G,fun c M1=>if c=true then ex Γ sa ρ M1 E else ex Γ sb ρ M1 E,h1,h2,fun c M1 G1 H1 f hk=>?_⟩
 cases c with
 | true=>rw[w_ rfl] at hk ⊢;exact⟨B,ρ,M1,G1,E,h1.on f,hk,h3.later f.g⟩
 | false=>rw[n_ q_] at hk ⊢;exact⟨B,ρ,M1,G1,E,h1.on f,hk,h3.later f.g⟩
theorem MR {t:Expr}{bd:List Stmt} (hp:aa2 (model X.prog X.w) X.A X.env X.xe) (ht:PT X t (tt X.K cl Γ c)) (hb:lL X bd (tS X.K cl Γ ii sb)):PS X (.While t bd [] pos) (tS X.K cl Γ ii (.JR c sb)):=(zc hp ht hb).imp fun D σ H h=>by
 obtain⟨B,ρ,M,G,E,h1,h2,h3⟩:=h;obtain⟨W,⟨m0,w0⟩,turn⟩:=h2;refine⟨fun m σ' H'=>∃ ρ' M' G',ah G G'/\Rep X.K cl B ρ' M' σ' H' G'/\W m ρ' M',⟨m0,ρ,M,G,ah.refl G,h1,w0⟩,?_⟩;rintro m σ' H' ⟨ρ',M',G',s,r,w⟩;refine⟨B,ρ',M',G',_,r,turn m ρ' M' w,fun c M1 G1 H1 f hk=>?_⟩
 cases c with
 | false=>rw[n_ q_] at hk ⊢;exact h3.nx _ _ _ _ G1 (s.trans f.g) (r.on f) hk
 | true =>
  rw[w_ rfl] at hk ⊢;refine⟨fun σ2 H2=>∃ m',m'<m/\∃ ρ2 M2 G2,ah G G2/\Rep X.K cl B ρ2 M2 σ2 H2 G2/\W m' ρ2 M2,fun σ2 H2 z=>z,B,ρ',M1,G1,_,r.on f,hk,⟨h3.ii,?_,h3.rt,?_,?_⟩⟩
  ·rintro ρ2 M2 σ2 H2 G2 s2 r2 ⟨m',hm,w2⟩;exact⟨m',hm,ρ2,M2,G2,(s.trans f.g).trans s2,r2,w2⟩
  ·intro ρ2 M2 σ2 H2 G2 s2 r2 q;exact h3.nx _ _ _ _ G2 ((s.trans f.g).trans s2) r2 q
  ·rintro ρ2 M2 σ2 H2 G2 s2 r2 ⟨m',hm,w2⟩;exact⟨m',hm,ρ2,M2,G2,(s.trans f.g).trans s2,r2,w2⟩
def De (K:e_) (cl:Cl) (ii:Bool) (tg:List Nat) (g:TG):Prop:=∀ {B:Bs}{ρ:En}{M:Mem}{σ:St}{H G:Hp}{d:Dt}{x:V}{k:En->Prop}{R:St->Hp->Prop},(ii=false->B.sf=none)->Rep K cl B ρ M σ H G->Is K cl G d x->gX ρ tg d k->(∀ ρ' σ',Rep K cl B ρ' M σ' H G->k ρ'->R σ' H)->g x σ H R
theorem k_of {B:Bs}{i:Nat} (hi:ii=true->i≠0) (h:ii=false->B.sf=none):i≠0∨B.sf=none:=by
 cases ii with
 | true=>exact .inl (hi rfl)
 | false=>exact .inr (h rfl)
theorem Hr {i:Nat} (hi:ii=true->i≠0):De K cl ii [i] (dF i):=fun {B ρ M σ H G d x k R} hb r is h q=>q _ _ (r.yA (k_of hi hb) is) h
theorem Hs {i j:Nat} (hi:ii=true->i≠0) (hj:ii=true->j≠0):De K cl ii [i,j] (zb K 2 (jT (dF i) (jT (dF j) za))):=fun {B ρ M σ H G d x k R} hb r is h q=>by
 cases d with
 | tup ds =>
  match ds,h with
  | [d1,d2],h =>
   unfold Is at is;obtain⟨t,vs,rfl,h1,h2⟩:=is;have l2:=h2.length
   match vs,l2 with
   | [v1,v2],_ =>
    unfold IsL at h2;obtain⟨u1,r1,e1,g1,h2⟩:=h2;cases e1;unfold IsL at h2;obtain⟨u2,r2,e2,g2,h2⟩:=h2;cases e2;exact⟨t,[v1,v2],rfl,eG.of (r.cz.gh _ _ h1),rfl,v1,[v2],rfl,v2,[],rfl,rfl,q _ _ ((r.yA (k_of hi hb) g1).yA (k_of hj hb) g2) h⟩
 | _=>exact (show False from h).elim
theorem Ht {iter:Expr}{bd:List Stmt}{Dg:List Nat}{g:TG} (hp:aa2 (model X.prog X.w) X.A X.env X.xe) (hc:X.calm=true) (hi:PI X tg iter (yT X.K cl Γ c)) (hg:PG X tg g) (Uv:De X.K cl ii Dg g) (hb:lL X bd (tS X.K cl Γ ii sb))
  (hs:∀ x,WW iter X.env x=pure x):PS X (.For tg iter bd [] pos) (tS X.K cl Γ ii (.bQ c Dg sb)):=(Fl hp hc hi hg hb hs).imp fun D σ H h=>by
 obtain⟨B,ρ,M,G,E,h1,h2,h3⟩:=h;refine⟨B,ρ,M,G,_,h1,h2,fun items M' G' H' J f ok hl=>?_⟩;refine⟨fun i m σ' Hc=>∃ ρc Mc Gc,m=items.length-i/\i<=items.length/\ah G' Gc/\Rep X.K cl B ρc Mc σ' Hc Gc/\eS (fun x ρ M E=>gX ρ Dg x fun ρ'=>ex Γ sb ρ' M E) E (items.drop i) ρc Mc,⟨items.length,ρ,M',G',by omega,Xo _,ah.refl _,h1.on f,hl⟩,?_⟩;rintro i m σ' Hc ⟨ρc,Mc,Gc,rfl,hi,s,r,hl⟩;obtain⟨Mz,Hl⟩:=ok i Gc Hc Mc s r.cz.gh r.cz.mem;by_cases j3:i<items.length
 ·refine .inr ⟨(Mz j3).1,fun σ2 H2=>∃ ρ2 M2 G2,ah G' G2/\Rep X.K cl B ρ2 M2 σ2 H2 G2/\eS (fun x ρ M E=>gX ρ Dg x fun ρ'=>ex Γ sb ρ' M E) E (items.drop (i+1)) ρ2 M2,fun σ2 H2 ⟨ρ2,M2,G2,s2,r2,l2⟩=>⟨items.length-(i+1),by omega,ρ2,M2,G2,rfl,j3,s2,r2,l2⟩,fun x Hx hy=>?_⟩;obtain⟨d,Gx,ed,QL,fx⟩:=(Mz j3).2 x Hx hy
  have QM:items.drop i=d::items.drop (i+1):=by
   rw[W6 j3];congr 1;have:=c_ j3;rw[this] at ed;exact F_ ed
  rw[QM] at hl;have QI:gX ρc Dg d (fun ρ'=>ex Γ sb ρ' Mc { E with nx:=eS (fun x ρ M E=>gX ρ Dg x fun ρ'=>ex Γ sb ρ' M E) E (items.drop (i+1)),ct:=eS (fun x ρ M E=>gX ρ Dg x fun ρ'=>ex Γ sb ρ' M E) E (items.drop (i+1)),bk:=E.nx }):=hl;refine Uv h3.ii (r.on fx) QL QI fun ρ' σ2 r2 hk=>⟨B,ρ',Mc,Gx,{ E with nx:=eS (fun x ρ M E=>gX ρ Dg x fun ρ'=>ex Γ sb ρ' M E) E (items.drop (i+1)),ct:=eS (fun x ρ M E=>gX ρ Dg x fun ρ'=>ex Γ sb ρ' M E) E (items.drop (i+1)),bk:=E.nx },r2,hk,⟨h3.ii,?_,h3.rt,?_,?_⟩⟩
  ·intro ρ3 M3 σ3 H3 G3 s3 r3 q;exact⟨ρ3,M3,G3,(s.trans fx.g).trans s3,r3,q⟩
  ·intro ρ3 M3 σ3 H3 G3 s3 r3 q;exact h3.nx _ _ _ _ G3 (f.g.trans ((s.trans fx.g).trans s3)) r3 q
  ·intro ρ3 M3 σ3 H3 G3 s3 r3 q;exact⟨ρ3,M3,G3,(s.trans fx.g).trans s3,r3,q⟩
 ·have e:i=items.length:=by omega
  subst e;rw[ab5] at hl;exact .inl ⟨Hl rfl,h3.nx _ _ _ _ Gc (f.g.trans s) r hl⟩
theorem MS {k:Nat}{x:Str}{op:qG} (Uw:op=.add∨op=.sub) (hN:X.N.Nodup) (hi:X.N[k]? = some x) (hx:Loc X.env.scope x) (hf:X.fn x=true) (qI:ii=true->k≠0) (he:PE X e (tp X.K cl Γ c)):PS X (.AugAssign (.Name x p') (GP op) e pos) (tS X.K cl Γ ii (.aug k op c)):=by
 have main:∀ {g:Int->Int->Int},Oj X (GP op) (Pk g)->(∀ i j (R:Dt->Prop),yv op (.int i) (.int j) R=R (.int (g i j)))->PS X (.AugAssign (.Name x p') (GP op) e pos) (tS X.K cl Γ ii (.aug k op c)):=fun {g} hp hg =>
  (Fh hN hi hx he hp (.inl hf)).imp fun D σ H h=>by
   obtain⟨B,ρ,M,G,E,h1,h2,h3⟩:=h;obtain⟨d,e1,q⟩:=yB (show mD ρ k _ from h2);obtain⟨v,e2,i1⟩:=h1.sh k d e1;refine⟨v,e2,B,ρ,M,G,_,h1,q,fun y vy M' G' H' f i hk=>?_⟩;obtain⟨i0,rfl,Ux⟩:=nN (show Ed d _ from hk);obtain⟨j0,rfl,_⟩:=nN Ux;change yv op (.int i0) (.int j0) (fun d=>E.nx (ρ.set k (.sh d)) M') at hk;rw[hg] at hk;unfold Is at i i1;subst i i1;exact⟨i0,j0,rfl,rfl,h3.nx _ M' _ H' G' f.g ((h1.on f).yA (h3.k qI) (by unfold Is;rfl)) hk⟩
 rcases Uw with rfl | rfl
 ·exact main Fi fun _ _ _=>rfl
 ·exact main Fj fun _ _ _=>rfl
noncomputable def Dh (f:Str) (v:V):List Str->List V->List V
 | [],_=>[v]
 | _::_,[]=>[v]
 | g::fs,u::us=>if g=f then v::us else u::Dh f v fs us
theorem wX {f:Str}{d:Dt}{v:V}:∀ {fs:List Str}{xs:List Dt}{us:List V},fs.length=xs.length->IsL K cl G xs us->Is K cl G d v->fQ f v (fs.zip us)=(putD f d fs xs).1.zip (Dh f v fs us)/\(putD f d fs xs).1.length=(putD f d fs xs).2.length/\IsL K cl G (putD f d fs xs).2 (Dh f v fs us)
 | [],[],us,_,h,i=>by unfold IsL at h;subst h;exact⟨rfl,rfl,IsL.cons i IsL.nil⟩
 | [],_::_,_,h,_,_=>by cases h
 | _::_,[],_,h,_,_=>by cases h
 | g::fs,x::xs,us,l,h,i=>by
  unfold IsL at h;obtain⟨u,r,rfl,h1,h2⟩:=h;unfold putD Dh;rw[Xx];unfold fQ;by_cases e:g=f
  ·rw[w_ e,w_ e,w_ e];exact⟨rfl,l,IsL.cons i h2⟩
  ·rw[n_ e,n_ e,n_ e];obtain⟨q1,q2,q3⟩:=wX (f:=f) (by simpa using l) h2 i;exact⟨by rw[q1];rfl,by simpa using q2,IsL.cons h1 q3⟩
theorem k9 {d:Dt}{k:Nat->List Str->List Dt->Prop} (h:mF d k):∃ n fs xs,d=.obj n fs xs/\k n fs xs:=by
 cases d with
 | obj n fs xs=>exact⟨n,fs,xs,rfl,h⟩
 | _=>exact (show False from h).elim
theorem Hu {k:Nat}{x f:Str}{px:Pos} (F:∀ n f,Γ.at_ n f=true->sZ X.K (cl n)/\dW X.K (cl n) f) (hN:X.N[k]? = some x) (hv:yV X.env.scope x) (hd:(x==("__debug__" : Str))=false) (kT:(x==("__classdict__" : Str))=false) (hs:Xd e (some (.Attribute (.Name x px) f p')) pos.line X.env=pure false) (he:PE X e (tp X.K cl Γ c)) :
  PS X (.Assign [.Attribute (.Name x px) f p'] e pos) (tS X.K cl Γ ii (.eI k f c)):=(FD (kS hN hv hd kT) he hs).imp fun D σ H h=>by
 obtain⟨B,ρ,M,G,E,h1,h2,h3⟩:=h;refine⟨B,ρ,M,G,_,h1,h2,fun d v M' G' H' f i hk=>?_⟩;obtain⟨dd,e1,Az⟩:=dQ hk;obtain⟨n,fs,xs,rfl,g1,g2,g3⟩:=k9 Az;have r:=h1.on f;obtain⟨oa,o1,_⟩:=r.ow;obtain⟨s1,_,_,_,o,ho,hc⟩:=o1 k _ e1
 cases ho
 obtain⟨dx,us,s2,s3,s4⟩:=hc;obtain⟨z1,z2,z3⟩:=wX s3 s4 i;refine⟨_,s1,oa k,_,dx,_,rfl,s2,(F n _ g1).1,(F n _ g1).2,?_,?_⟩
 ·rw[aaC];omega
 ·obtain⟨a,o,t1,t2,t3,_,_,t4⟩:=r.chg (d':=.obj n (putD _ d fs xs).1 (putD _ d fs xs).2) (o':=.mo n (putD _ d fs xs).1 (putD _ d fs xs).2) (u:=.ins (cl n) dx (fQ _ v (fs.zip us))) e1;have ea:oa k=a:=by rw[s1] at t1;cases t1;rfl
  rw[ea];exact h3.nx _ M' σ _ G' f.g (t4 rfl fun H2 e2=>⟨dx,_,by rw[e2,z1],z2,z3⟩) g3
theorem Hv (hs:noStar b=true):((Xm pos (N_ [b] X.env)).all (fun x => !x.1)&&(ZH pos (Yh [] X.env)).all (fun x=>x.1.isSome)&&decide (([b]:List Expr).length+([]:List Zc).length+(if ([]:List Zc).isEmpty then 0 else 1)<30))=true:=by
 rw[kc (by simp [hs])];rfl
theorem AE {k:Nat}{ds:List Dt}{B:Bs}{ρ:En}{M:Mem}{E:yu} (h1:Rep K cl B ρ M σ H G) (e1:ρ[k]? = some (.ow (.lst ds))):∃ a,σ[k]? = some (some (.ref a))/\Py K "list" (.ref a) H/\∀ {M':Mem}{G' H':Hp} (f:bq K cl none G H M G' H' M') {es:List Dt}{us:List V},IsL K cl G' es us ->
  ∃ vs,H' a=some (.lst vs)/\vs.length=ds.length/\Rep K cl B (ρ.set k (.ow (.lst (ds++es)))) M' σ (upd H' a (.lst (vs++us))) G':=by
 obtain⟨oa,o1,_⟩:=h1.ow;obtain⟨s1,q1,q2,q3,o,ho,hc⟩:=o1 k _ e1
 cases ho
 obtain⟨OC,s2,s3⟩:=hc;refine⟨oa k,s1,.inl ⟨rfl,OC,du.of s2⟩,fun {M' G' H'} f {es us} is=>?_⟩;have r:=h1.on f;obtain⟨VT,VU,_⟩:=r.ow;obtain⟨a,o,t1,t2,t3,_,_,t4⟩:=r.chg (d':=.lst (ds++es)) (o':=.ml (ds++es)) (u:=.lst (OC++us)) e1;have ea:oa k=a:=by rw[s1] at t1;cases t1;rfl
 rw[ea];have h0:H' a=some (.lst OC):=by rw[←ea];exact f.h _ _ s2 q2 (fun z=>nomatch z)
 exact⟨OC,h0,s3.length.symm,t4 rfl fun H2 e2=>⟨_,e2,(s3.mono f.g).append is⟩⟩
theorem MT {k:Nat}{x:Str}{px bN:Pos} (hN:X.N[k]? = some x) (hv:yV X.env.scope x) (hd:(x==("__debug__" : Str))=false) (kT:(x==("__classdict__" : Str))=false) (hb:PE X b (tp X.K cl Γ c)) (hs:noStar b=true) (bS:(apos.endLine==bN.line)=true) :
  PS X (.Expr (.Call (.Attribute (.Name x px) "append" apos) [b] [] bN) pos) (tS X.K cl Γ ii (.app k c)) :=
 (jR (zx YM Y3 Z1 qv (kS hN hv hd kT) (aI hb bz (ag hs)) rfl (Hv hs) bS (ag hs) rfl)).imp fun D σ H h=>by
  obtain⟨B,ρ,M,G,E,h1,h2,h3⟩:=h;obtain⟨l,e1,q⟩:=dQ (show cX ρ k _ from h2);obtain⟨ds,rfl,q2⟩:=fM q;obtain⟨a,s1,ty,go⟩:=AE (E:=E) h1 e1;refine⟨_,s1,ty,B,ρ,M,G,_,h1,q2,fun d v M' G' H' f i hk=>?_⟩;obtain⟨vs,g1,g2,g3⟩:=go f (IsL.cons i IsL.nil);exact⟨a,vs,v,rfl,rfl,g1,by rw[g2];exact hk.1,h3.nx _ M' σ _ G' f.g g3 hk.2⟩
theorem MU {k:Nat}{x:Str}{px bN:Pos} (hN:X.N[k]? = some x) (hv:yV X.env.scope x) (hd:(x==("__debug__" : Str))=false) (kT:(x==("__classdict__" : Str))=false) (hb:PE X b (tp X.K cl Γ c)) (hs:noStar b=true) (bS:(apos.endLine==bN.line)=true) :
  PS X (.Expr (.Call (.Attribute (.Name x px) "extend" apos) [b] [] bN) pos) (tS X.K cl Γ ii (.ext k c)) :=
 (jR (zx YM aaK PySem.F.type_list_extend xY (kS hN hv hd kT) (aI hb bz (ag hs)) rfl (Hv hs) bS (ag hs) rfl)).imp fun D σ H h=>by
  obtain⟨B,ρ,M,G,E,h1,h2,h3⟩:=h;obtain⟨l,e1,q⟩:=dQ (show cX ρ k _ from h2);obtain⟨ds,rfl,q2⟩:=fM q;obtain⟨a,s1,ty,go⟩:=AE (E:=E) h1 e1;refine⟨_,s1,ty,B,ρ,M,G,_,h1,q2,fun d v M' G' H' f i hk=>?_⟩;obtain⟨es,rfl,Az⟩:=fM hk;unfold Is at i;obtain⟨a2,us,rfl,i1,i2⟩:=i;obtain⟨vs,g1,g2,g3⟩:=go f i2;exact⟨a,a2,vs,us,rfl,rfl,g1,f.gh _ _ i1,by rw[g2,←i2.length];exact Az.1,h3.nx _ M' σ _ G' f.g g3 Az.2⟩
end
end PV
namespace PV
open PySem L2 SH
section
variable {K:e_}{cl:Cl}{Γ:Gm}{c ca cb cc:C}{σ:St}{G H:Hp}{D:Ends}{X:Cx}{st:Stmt}{bx:List Stmt}{sa sb:S}{e a b o tg:Expr}{es:List Expr}{pos p p' apos:Pos}{n:Nat}{fns mG cls pE:List Str}{pG:List Nat}{ii:Bool}
theorem Rep.MV {B:Bs}{ρ:En}{M:Mem}{q:Addr}{u:HO}{m m':MO} (r:Rep K cl B ρ M σ H G) (hm:M q=some m) (hk:wO m'=wO m) (hc:∀ H',H' q=some u->b6 K cl G H' q m'):Rep K cl B ρ (aT M q m') σ (upd H q u) G:=by
 obtain⟨gq,cq⟩:=r.cz.mem q m hm;obtain⟨w,hw⟩:=cq.jL;have ne:∀ b v,H b=some v->b≠q->(upd H q u) b=some v:=fun b v hb hn=>by rw[aq hn];exact hb
 have gn:∀ b v,G b=some v->b≠q:=fun b v hb z=>by rw[z,gq] at hb;cases hb
 have MW:∀ b v,(aT M q m') b=some v->(b=q/\v=m')∨(b≠q/\M b=some v):=fun b v hb=>by
  unfold aT at hb;by_cases z:b=q
  ·rw[w_ z] at hb;exact .inl ⟨z,(F_ hb).symm⟩
  ·rw[n_ z] at hb;exact .inr ⟨z,hb⟩
 obtain⟨oa,h1,h2⟩:=r.ow;refine⟨⟨r.cz.g,fun b v hb=>ne b v (r.cz.gh b v hb) (gn b v hb),fun b v hb=>?_,r.cz.gf,fun b v hb Ss hs=>ne b v (r.cz.h b v hb Ss hs) fun z=>?_,fun b v hb=>?_,fun b v hb hn=>?_,fun b v hb=>?_⟩,r.len,r.s0,r.sh,oa,fun i d hi=>?_,h2⟩
 ·obtain⟨v',hv⟩:=r.cz.jL b v hb;by_cases z:b=q
  ·rw[z];exact⟨u,aA⟩
  ·exact⟨v',ne b v' hv z⟩
 ·subst z;exact absurd (r.cz.mf b m hm Ss) (by rw[hb];exact fun z=>nomatch z)
 ·rcases MW b v hb with ⟨rfl,rfl⟩ | ⟨hn,hb⟩
  ·exact⟨gq,hc _ aA⟩
  ·exact⟨(r.cz.mem b v hb).1,(r.cz.mem b v hb).2.mono (ah.refl G) fun x hx=>ne b x hx hn⟩
 ·rcases MW b v hb with ⟨rfl,rfl⟩ | ⟨_,hb⟩
  ·exact r.cz.mf b m hm hn
  ·exact r.cz.mf b v hb hn
 ·obtain⟨o',e1,e2⟩:=r.cz.ke b v hb;by_cases z:b=q
  ·subst z;rw[hm] at e1;cases e1;exact⟨m',by unfold aT;rw[w_ rfl],hk.trans e2⟩
  ·exact⟨o',by unfold aT;rw[n_ z];exact e1,e2⟩
 ·obtain⟨q1,q2,q3,q4,o2,q5,q6⟩:=h1 i d hi;have hn:oa i≠q:=fun z=>by rw[z,hm] at q3;cases q3
  refine⟨q1,q2,?_,q4,o2,q5,q6.mono (ah.refl G) fun x hx=>ne _ x hx hn⟩;unfold aT;rw[n_ hn];exact q3
theorem tY {M:Mem}{d:Dt}{k:Addr->List Dt->Prop} (h:GO M d k):∃ q ds,d=.fD q/\M q=some (.ml ds)/\k q ds:=by
 cases d with
 | fD q =>
  change (match M q with | some (.ml ds)=>k q ds | _=>False) at h
  cases e:M q with
  | none=>rw[e] at h;exact h.elim
  | some m =>
   rw[e] at h
   cases m with
   | ml ds=>exact⟨q,ds,rfl,e,h⟩
   | mo _ _ _=>exact h.elim
   | md _=>exact h.elim
 | _=>exact (show False from h).elim
theorem MX {bN:Pos} (ha:PE X a (tp X.K cl Γ ca)) (hb:PE X b (tp X.K cl Γ cb)) (nw:cY a=true) (hs:noStar b=true) (bS:(apos.endLine==bN.line)=true) :
  PS X (.Expr (.Call (.Attribute a "append" apos) [b] [] bN) pos) (tS X.K cl Γ ii (.GL ca cb)) :=
 (jR (zx YM Y3 Z1 qv ha (aI hb bz (ag hs)) (fR nw) (Hv hs) bS (ag hs) rfl)).imp fun D σ H h=>by
  obtain⟨B,ρ,M,G,E,h1,h2,h3⟩:=h;refine⟨B,ρ,M,G,_,h1,h2,fun x vx M1 G1 H1 f1 i1 hx=>?_⟩;obtain⟨q,ds,rfl,hm,hy⟩:=tY hx;unfold Is at i1;subst i1;obtain⟨vs,hv,_⟩:=(f1.mem q _ hm).2;refine⟨.inl ⟨rfl,vs,du.of hv⟩,B,ρ,M1,G1,_,h1.on f1,hy,fun y vy M2 G2 H2 f2 i2 hk=>?_⟩;obtain⟨q',Uy,e,BL,Az⟩:=tY (show GO M2 (.fD q) (fun p ds=>ds.length<sizeLine/\E.nx ρ (aT M2 p (.ml (ds++[y])))) from hk)
  cases e
  obtain⟨Sv,Uz,Sw⟩:=(f2.mem q _ BL).2;have r:=(h1.on f1).on f2;exact⟨q,Sv,vy,rfl,rfl,Uz,by rw[←Sw.length];exact Az.1,h3.nx _ _ σ _ G2 (f1.g.trans f2.g) (r.MV (m':=.ml (Uy++[y])) (u:=.lst (Sv++[vy])) BL rfl fun H' e=>⟨_,e,Sw.append (IsL.cons i2 IsL.nil)⟩) Az.2⟩
theorem MY {k:Expr}{ck:C}{pos':Pos} (hw:cl.w=X.w) (hu:X.A.units+66<cLine) (ha:PE X a (tp X.K cl Γ ca)) (hk:PE X k (tp X.K cl Γ ck)) (hb:PE X b (tp X.K cl Γ cb)) (hs:Xd b (some (.Subscript a k pos')) pos.line X.env=pure false) :
  PS X (.Assign [.Subscript a k pos'] b pos) (tS X.K cl Γ ii (.Lv ca ck cb)):=(Dc hw hu ha hk hb hs).imp fun D σ H h=>by
  obtain⟨B,ρ,M,G,E,h1,h2,h3⟩:=h;refine⟨B,ρ,M,G,_,h1,h2,fun z vz M1 G1 H1 f1 i1 hz=>⟨B,ρ,M1,G1,_,h1.on f1,hz,fun x vx M2 G2 H2 f2 i2 hx=>⟨B,ρ,M2,G2,_,(h1.on f1).on f2,hx,fun y vy M3 G3 H3 f3 i3 hy=>?_⟩⟩⟩;obtain⟨ps,e1,e2,hy⟩:=hy;obtain⟨q,am,rfl,hm,hg,hl,hR⟩:=nQ hy;unfold Is at i2;subst i2;have da:=(f3.mem q _ hm).2;obtain⟨_,_,xs,ex,_⟩:=(show lW X.K cl G3 H3 q am from da);have r:=((h1.on f1).on f2).on f3;exact⟨G3,q,am,ps,z,xs,rfl,f3.gh,da,ex,e2,i3.dat (ah.refl G3) e1,hg,hl,(i1.mono f2.g).mono f3.g,fun u hc=>h3.nx _ _ σ _ G3 ((f1.g.trans f2.g).trans f3.g) (r.MV (m':=.md (am++[(W2 ps,z)])) (u:=u) hm rfl fun H' e=>(show lW X.K cl G3 H' q (am++[(W2 ps,z)]) from hc H' e)) hR⟩
theorem Rep.MZ {B:Bs}{ρ:En}{M M2:Mem}{d d':Dt}{a:Addr}{G2 H2:Hp}{m':MO} (r:Rep K cl B ρ M σ H G) (h0:ρ[(0:Nat)]? = some (.ow d)) (ha:σ[(0:Nat)]? = some (some (.ref a))) (f:bq K cl (some a) G H M G2 H2 M2) (ga:G2 a=none) (ma:M2 a=none) (hd:GF d'=some m') (hc:b6 K cl G2 H2 a m') :
  Rep K cl B (ρ.set 0 (.ow d')) M2 σ H2 G2:=by
 obtain⟨oa,h1,h2⟩:=r.ow;obtain⟨e1,_,m1,ba,o,_,c1⟩:=h1 0 d h0;have ea:oa 0=a:=by rw[ha] at e1;cases e1;rfl
 rw[ea] at ba m1 c1;obtain⟨w,hw⟩:=c1.jL
 have bne:∀ b v,B.H b=some v->B.sf≠some b->b≠a:=fun b v hb hs z=>by
  subst z;rcases ba with ba | ⟨ba,_⟩
  ·rw[ba] at hb;cases hb
  ·exact hs ba
 refine⟨⟨r.cz.g.trans f.g,f.gh,fun b v hb=>let ⟨v',hv⟩:=r.cz.jL b v hb;f.jL b v' hv,fun b v hb hn=>?_,fun b v hb hm hs=>?_,f.mem,fun b v hb hn=>?_,fun b v hb=>?_⟩,by rw[Xi];exact r.len,r.s0,fun j e hj=>?_,oa,fun j e hj=>?_,fun j l e e' hj hl=>?_⟩
 ·cases q:G b with
  | none=>exact bF r.cz.jL (f.gf b v hb q)
  | some u=>exact r.cz.gf b u q hn
 ·have Gh:=r.cz.h b v hb hm hs
  cases q:M b with
  | none=>exact f.h b v Gh q fun z=>bne b v hb hs (F_ z).symm
  | some u=>exact absurd (r.cz.mf b u q hm) (by rw[hb];exact fun z=>nomatch z)
 ·cases q:M b with
  | none=>exact bF r.cz.jL (f.mf b v hb q)
  | some u=>exact r.cz.mf b u q hn
 ·obtain⟨o',e1,e2⟩:=r.cz.ke b v hb;obtain⟨o2,e3,e4⟩:=f.ke b o' e1;exact⟨o2,e3,e4.trans e2⟩
 ·rcases bh hj with ⟨rfl,he,_⟩ | ⟨hn,hj⟩
  ·cases he
  ·obtain⟨v,q1,q2⟩:=r.sh j e hj;exact⟨v,q1,q2.mono f.g⟩
 ·rcases bh hj with ⟨rfl,he,_⟩ | ⟨hn,hj⟩
  ·cases he
   exact⟨by rw[ea];exact ha,by rw[ea];exact ga,by rw[ea];exact ma,by rw[ea];exact ba,m',hd,by rw[ea];exact hc⟩
  ·obtain⟨q1,q2,q3,q4,o2,q5,q6⟩:=h1 j e hj;have UA:oa j≠a:=fun z=>hn (h2 j 0 e d hj h0 (z.trans ea.symm))
   obtain⟨u,hu⟩:=q6.jL;refine⟨q1,?_,?_,q4,o2,q5,q6.mono f.g fun x hx=>f.h _ x hx q3 fun z=>UA (F_ z).symm⟩
   ·cases q:G2 (oa j) with
    | none=>rfl
    | some w=>exact absurd (f.gf _ w q q2) (by rw[hu];exact fun z=>nomatch z)
   ·cases q:M2 (oa j) with
    | none=>rfl
    | some w=>exact absurd (f.mf _ w q q3) (by rw[hu];exact fun z=>nomatch z)
 ·have back:∀ {j:Nat}{e:Dt},(ρ.set 0 (.ow d'))[j]? = some (Sl.ow e)->∃ e0,ρ[j]? = some (Sl.ow e0):=fun {j e} hj=>by
   rcases bh hj with ⟨rfl,_,_⟩ | ⟨_,hj⟩
   ·exact⟨d,h0⟩
   ·exact⟨e,hj⟩
  obtain⟨e0,QP⟩:=back hj;obtain⟨l0,QQ⟩:=back hl;exact h2 j l e0 l0 QP QQ
theorem M5 {q:Nat}{x sx:Str}{px QS bN:Pos} (F:Fx Γ cl X.prog X.w X.K X.mg X.base n fns mG cls pE pG) (hr:cj n X.A) (hx:cls[q]? = some x) (hq:pG.contains q=true) (hg:Gl X x) (lP:(x==("__debug__" : Str))=false)
  (hN:X.N[(0:Nat)]? = some sx) (hv:yV X.env.scope sx) (hd:(sx==("__debug__" : Str))=false) (kT:(sx==("__classdict__" : Str))=false) (ha:PA X es (ta X.K cl Γ ca)) (hs:es.all noStar=true) (hl:es.length<20) (bS:(apos.endLine==bN.line)=true) :
  PS X (.Expr (.Call (.Attribute (.Name x px) "__init__" apos) (.Name sx QS::es) [] bN) pos) (tS X.K cl Γ ii (.bA q ca)):=by
 obtain⟨f,fd,ps,c1,c2,c3⟩:=F.cm q hq;have yP:(Expr.Name sx QS::es).all noStar=true:=by rw[WD,hs];rfl
 refine (jR (Cw hg (F.kl q x hx lP).1 c1 c2 hr c3 .nil tx (aI (kS hN hv hd kT) ha (ag rfl)) lP (ag rfl) (d5 hs) (rR rfl yP (by rw[E_];omega) bS))).imp fun D σ H h=>?_
 obtain⟨B,ρ,M,G,E,h1,h2,h3⟩:=h;obtain⟨d,e0,q0⟩:=dQ (show cX ρ 0 _ from h2);obtain⟨k,fs,xs,rfl,q1⟩:=k9 q0;obtain⟨oa,o1,_⟩:=h1.ow;obtain⟨s1,g1,m1,_,o,ho,hc⟩:=o1 0 _ e0
 cases ho
 refine⟨_,s1,B,ρ,M,G,_,h1,q1,fun ds vs M' G' H' f i hk=>?_⟩;have r:=h1.on f;obtain⟨dx,us,t1,t2,t3⟩:=hc;have Sx:H' (oa 0)=some (.ins (cl k) dx (fs.zip us)):=f.h _ _ t1 m1 (fun z=>nomatch z)
 have ga:G' (oa 0)=none:=by
  cases z:G' (oa 0) with
  | none=>rfl
  | some w=>exact absurd (f.gf _ w z g1) (by rw[t1];exact fun z=>nomatch z)
 have ma:M' (oa 0)=none:=by
  cases z:M' (oa 0) with
  | none=>rfl
  | some w=>exact absurd (f.mf _ w z m1) (by rw[t1];exact fun z=>nomatch z)
 dsimp only;rw[WB];refine⟨G',M',oa 0,k,fs,xs,dx,us,vs,ds,_,rfl,Sx,t2,t3.mono f.g,ga,ma,f.gh,f.mem,i,hk,fun fC sR CF Hi M2 G2 H2 Az f2 z1 z2 z3 z4 z5=>?_⟩;exact h3.nx _ M2 σ H2 G2 (f.g.trans f2.g) (r.MZ e0 s1 f2 z1 z2 (d':=.obj k fC sR) (m':=.mo k fC sR) rfl ⟨Hi,CF,z3,z4,z5⟩) Az
theorem wY {ci ct ce:C}{k w:Nat}{ix:List Nat}{own aV:List Str}{scope:Scope}{y:Str}{py x9:Pos}{iter elt:Expr}{ifs:List Expr}{g:TG} (hw:own.length=w)
  (Sy:∀ {d:Dt}{ρ:En}{q:En->Prop}{x:V}{σ':St}{f8:St}{Gc Hc:Hp}{R:St->Hp->Prop},wQ ρ w ix d q->Is X.K cl Gc d x->ah Gc Hc->(∃ pre:St,pre.length=w/\σ'=pre++f8) ->
   (∀ ds vs,IsL X.K cl Gc ds vs->ds.length=w->q (ds.map Sl.sh++ix.map (fZ ρ))->R (vs.map some++f8) Hc)->g x σ' Hc R)
  (hc:X.calm=true) (hN:X.N.Nodup) (hy:X.N[k]? = some y) (hx:Loc X.env.scope y) (hf:X.fn y=true) (qI:ii=true->k≠0) (S:bL X.N X.env.scope scope own aV ix) (hi:PI X tg iter (yT X.K cl Γ ci))
  (hb:∀ (C:Addr) (s₀:h_) (H₀:Hp) (ex:List Addr) (pn:List (Addr×Obj)),PG (X.comp scope own aV C s₀ H₀ ex pn) tg g/\rG (X.comp scope own aV C s₀ H₀ ex pn) ifs (tt X.K cl Γ ct)/\PE (X.comp scope own aV C s₀ H₀ ex pn) elt (tp X.K cl Γ ce))
  (Qa:Xd (.ListComp elt [⟨tg,iter,ifs,0⟩] scope pos) (some (.Name y py)) x9.line X.env=pure true) (hs:∀ x,WW iter X.env x=pure x) :
  PS X (.Assign [.Name y py] (.ListComp elt [⟨tg,iter,ifs,0⟩] scope pos) x9) (tS X.K cl Γ ii (.fL k (.comp ci w ix ct ce)))/\PS X (.Assign [.Name y py] (.ListComp elt [⟨tg,iter,ifs,0⟩] scope pos) x9) (tS X.K cl Γ ii (.set k (.fr (.comp ci w ix ct ce)))):=by
 have base:=Ct hc hN hy hx S hi hb Qa hs (.inl hf);refine⟨base.imp fun D σ H h=>mW hw Sy (wW qI h),base.imp fun D σ H h=>mW hw Sy ?_⟩;obtain⟨B,ρ,M,G,E,h1,h2,h3⟩:=h;exact Ef ⟨B,ρ,M,G,_,h1,h2,fun d v M' G' H' f i q=>h3.nx _ M' _ H' G' f.g ((h1.on f).yA (h3.k qI) i) q⟩
end
end PV
namespace PV
open PySem L2 SH
structure Tb where
 fns:List Str
 mG:List Str
 cls:List Str
 pE:List Str
 pG:List Nat
inductive Md where | E | P | Q | F | T | W | A | O | I
inductive Ax where | e (x:Expr) | es (x:List Expr) | oe (x:k_ Expr) | it (tg x:Expr)
noncomputable def Em:List Str:=["len","list","tuple","all","any","int","min","max","dict","isinstance","range","enumerate","zip","reversed","bool","str"]
structure Bk where
 N:List Str
 sc:Scope
noncomputable def Bk.lk (b:Bk) (x:Str):k_ Xu:=b.sc.names.lookup x
noncomputable def Bk.gl (b:Bk) (x:Str):Bool:=decide (b.lk x=some .globalImplicit)
noncomputable def Bk.JH (b:Bk) (x:Str):Bool:=decide (b.lk x=some .local∨b.lk x=some .cell∨b.lk x=some .free)
noncomputable def Bk.bt (b:Bk) (x:Str):Bool:=b.gl x&&Em.contains x
noncomputable def okN (x:Str):Bool := !(x==("__debug__" : Str)) && !(x==("__classdict__" : Str))
noncomputable def Bk.at_ (b:Bk) (k:Nat) (x:Str):Bool:=decide (b.N[k]? = some x)&&b.JH x&&okN x
noncomputable def plainT:Expr->Bool
 | .UnaryOp .Not _ _=>false
 | .BoolOp _ _ _=>false
 | .IfExp _ _ _ _=>false
 | .Compare _ _ _ _=>false
 | _=>true
noncomputable def val (m:Md) (e:Expr):Bool:=match m with | .E=>true | .P=>true | .Q=>true | .T=>plainT e | _=>false
noncomputable def tZ (b:Bk) (scope:Scope) (own:List Str) (ix:List Nat):Bool :=
 let aV:=ix.map fun i=>b.N.getD i WA
 decide (scope.kind=.function)&&scope.names.all (fun y=>decide (y.2≠.cell))&&scope.names.all (fun y=>decide (y.2=.local->scope.names.lookup y.1=some .local))&&scope.names.all (fun y=>decide (y.2=.free->y.1∈aV)) &&
  own.all (fun x=>decide (scope.names.lookup x=some .local))&&aV.all (fun x=>decide (scope.names.lookup x=some .free))&&aV.all (fun x=>decide (b.lk x=some .cell∨b.lk x=some .free))&&ix.all (fun i=>decide (i<b.N.length))&&decide (own++aV).Nodup
noncomputable def vS (b:Bk) (scope:Scope) (x0:Str) (ix:List Nat):Bool :=
 let aV:=ix.map fun i=>b.N.getD i WA
 decide (scope.kind=.function)&&decide (scope.names.filter (fun y=>y.2==.cell)=[(x0,.cell)])&&decide (scope.names.lookup x0=some .cell)&&scope.names.all (fun y=>decide (y.2=.local->scope.names.lookup y.1=some .local))&&scope.names.all (fun y=>decide (y.2=.free->y.1∈aV)) &&
  aV.all (fun x=>decide (scope.names.lookup x=some .free))&&aV.all (fun x=>decide (b.lk x=some .cell∨b.lk x=some .free))&&ix.all (fun i=>decide (i<b.N.length))&&decide (x0::aV).Nodup
noncomputable def lb:Expr->Bool
 | .Set _ _ _=>false
 | _=>true
noncomputable def qJ (a p:Pos):Bool:=a.endLine==p.line
noncomputable def vE (x:Ax) (k:Expr->Bool):Bool:=match x with | .e e=>k e | _=>false
noncomputable def Sz (x:Ax) (k:List Expr->Bool):Bool:=match x with | .es e=>k e | _=>false
noncomputable def vO (x:Ax) (k:k_ Expr->Bool):Bool:=match x with | .oe e=>k e | _=>false
noncomputable def vI (x:Ax) (k:Expr->Expr->Bool):Bool:=match x with | .it t e=>k t e | _=>false
noncomputable def AF (e:Expr) (k:Const->Bool):Bool:=match e with | .Constant c _ _=>k c | _=>false
noncomputable def vT (e:Expr) (k:Str->Bool):Bool:=match e with | .Name x _=>k x | _=>false
noncomputable def Hw (e:Expr) (k:Expr->YQ->Expr->Bool):Bool:=match e with | .BinOp a o b _=>k a o b | _=>false
noncomputable def QT (e:Expr) (k:acm->Expr->Bool):Bool:=match e with | .UnaryOp o a _=>k o a | _=>false
noncomputable def Hy (e:Expr) (k:Expr->List CmpOp->List Expr->Bool):Bool:=match e with | .Compare a os es _=>k a os es | _=>false
noncomputable def Hz (e:Expr) (k:Expr->CmpOp->Expr->Bool):Bool:=Hy e fun a os es=>match os,es with | [o],[b]=>k a o b | _,_=>false
noncomputable def SA (e:Expr) (k:Expr->CmpOp->CmpOp->Expr->Expr->Bool):Bool:=Hy e fun a os es=>match os,es with | [o,o'],[b,c]=>k a o o' b c | _,_=>false
noncomputable def OD (e:Expr) (k:BoolOp->List Expr->Pos->Bool):Bool:=match e with | .BoolOp o es p=>k o es p | _=>false
noncomputable def SB (e:Expr) (k:Expr->Expr->Expr->Bool):Bool:=match e with | .IfExp a b c _=>k a b c | _=>false
noncomputable def SC (e:Expr) (k:List Expr->Bool):Bool:=match e with | .Tuple es _ _=>k es | _=>false
noncomputable def SD (e:Expr) (k:List Expr->Bool):Bool:=match e with | .List es _=>k es | _=>false
noncomputable def HA (e:Expr) (k:Expr->Expr->Bool):Bool:=match e with | .Subscript a b _=>k a b | _=>false
noncomputable def OE (e:Expr) (k:k_ Expr->k_ Expr->Bool):Bool:=match e with | .Slice l h s _=>(match s with | none=>k l h | some _=>false) | _=>false
noncomputable def SE (e:Expr):Bool:=match e with | .Dict ks vs _=>ks.isEmpty&&vs.isEmpty | _=>false
noncomputable def OF (e:Expr) (k:Expr->Str->Pos->Bool):Bool:=match e with | .Attribute a f p=>k a f p | _=>false
noncomputable def QU (e:Expr) (k:Expr->List Expr->Pos->Bool):Bool:=match e with | .Call f es ks p=>(match ks with | []=>k f es p | _::_=>false) | _=>false
noncomputable def lY (e:Expr) (k:Str->List Expr->Bool):Bool:=QU e fun f es _=>vT f fun x=>k x es
noncomputable def HB (e:Expr) (k:Expr->Str->List Expr->Pos->Pos->Bool):Bool:=QU e fun f es p=>OF f fun o m q=>k o m es q p
noncomputable def pH (es:List Expr) (k:Expr->Bool):Bool:=match es with | [a]=>k a | _=>false
noncomputable def Di (es:List Expr) (k:Expr->Expr->Bool):Bool:=match es with | [a,b]=>k a b | _=>false
noncomputable def HC (es:List Expr) (k:Expr->List Expr->Bool):Bool:=match es with | a::r=>k a r | _=>false
noncomputable def UB (gs:List Comprehension) (k:Expr->Expr->List Expr->Bool):Bool:=match gs with | [g]=>(decide (g.is_async=0)&&k g.target g.iter g.ifs) | _=>false
noncomputable def QV (e:Expr) (k:Expr->Expr->Expr->List Expr->Scope->Bool):Bool:=match e with | .ListComp elt gs sc _=>UB gs fun tg iter ifs=>k elt tg iter ifs sc | _=>false
noncomputable def Dj (tg:Expr) (k:List Str->Bool):Bool:=match tg with | .Name x _=>k [x] | .Tuple es _ _=>Di es fun a b=>vT a fun x=>vT b fun y=>k [x,y] | _=>false
noncomputable def Dk (ifs:List Expr) (y:Bool) (k:Expr->Bool):Bool:=match ifs with | []=>y | [q]=>k q | _=>false
noncomputable def isTup:Expr->Bool
 | .Tuple _ _ _=>true
 | _=>false
noncomputable def rT (m:Md):Bool:=match m with | .E=>true | .P=>true | .Q=>true | .T=>true | _=>false
noncomputable def HD (m:Md):k_ Bool:=match m with | .E=>some false | .P=>some false | .Q=>some false | .T=>some true | .W=>some true | _=>none
noncomputable def HE (a:C) (x y:Bool):Bool:=match a with | .nil=>x | _=>y
section
variable (T:Tb)
noncomputable def aL:C->Md->Bk->Ax->Bool
 | .i n,m,_,x=>vE x fun e=>val m e&&AF e fun c=>decide (c=.int n)
 | .s n,m,_,x=>vE x fun e=>val m e&&AF e fun c=>decide (c=.str n)
 | .b n,m,_,x=>vE x fun e=>val m e&&AF e fun c=>decide (c=.bool n)
 | .n,m,_,x=>vE x fun e=>val m e&&AF e fun c=>decide (c=.none)
 | .v k,m,b,x=>vE x fun e=>val m e&&vT e fun y=>b.at_ k y
 | .o k,m,b,x=>vE x fun e=>(match m with | .P=>true | .Q=>true | _=>false)&&vT e fun y=>b.at_ k y
 | .d c,m,b,x=>(match m with | .Q=>true | _=>false)&&vE x fun e=>aL c .E b (.e e)
 | .g k,m,b,x=>vE x fun e=>val m e&&vT e fun y=>decide (T.pE[k]? = some y)&&b.gl y&&okN y
 | .nil,m,_,x=>(match m,x with | .A,.es []=>true | .O,.oe none=>true | _,_=>false)
 | .cons a r,m,b,x=>(match m with
   | .A=>Sz x fun es=>HC es fun e es=>noStar e&&aL a .E b (.e e)&&aL r .A b (.es es)
   | .O=>vO x fun o=>(match o with | some e=>HE r (aL a .E b (.e e)) false | none=>false)
   | _=>false)
 | .bin o a c,m,b,x=>vE x fun e=>val m e&&Hw e fun l op r=>decide (op=GP o)&&aL a .E b (.e l)&&aL c .E b (.e r)
 | .neg a,m,b,x=>vE x fun e=>val m e&&QT e fun op y=>decide (op=.USub)&&aL a .E b (.e y)
 | .cmp o a c,m,b,x=>vE x fun e=>rT m&&Hz e fun l op r=>decide (op=yw o)&&aL a .E b (.e l)&&aL c .E b (.e r)
 | .Ab o1 o2 a c d,m,b,x=>vE x fun e=>rT m&&SA e fun l p1 p2 r s=>decide (p1=yw o1)&&decide (p2=yw o2)&&aL a .E b (.e l)&&aL c .E b (.e r)&&aL d .E b (.e s)
 | .eq ng a c,m,b,x=>vE x fun e=>rT m&&Hz e fun l op r=>decide (op=LU ng)&&aL a .P b (.e l)&&aL c .Q b (.e r)
 | .wP ng a c,m,b,x=>vE x fun e=>rT m&&Hz e fun l op r=>decide (op=Bz ng)&&fN r&&aL a .P b (.e l)&&aL c .Q b (.e r)
 | .ins a c,m,b,x=>vE x fun e=>rT m&&Hz e fun l op r=>decide (op=.In)&&fN r&&aL a .E b (.e l)&&aL c .E b (.e r)
 | .ind a c,m,b,x=>vE x fun e=>rT m&&Hz e fun l op r=>decide (op=.In)&&fN r&&aL a .E b (.e l)&&aL c .E b (.e r)
 | .one a,m,b,x=>vE x fun e=>OD e fun _ es _=>pH es fun y=>(match HD m with | some false=>aL a .E b (.e y) | some true=>aL a .T b (.e y) | none=>false)
 | .and a c,m,b,x=>vE x fun e=>OD e fun op es p=>decide (op=.And)&&HC es fun y r=>HC r fun z r=>(match HD m with
   | some false=>aL a .E b (.e y)&&aL c .E b (.e (.BoolOp .And (z::r) p))
   | some true=>aL a .T b (.e y)&&aL c .W b (.e (.BoolOp .And (z::r) p))
   | none=>false)
 | .or a c,m,b,x=>vE x fun e=>OD e fun op es p=>decide (op=.Or)&&HC es fun y r=>HC r fun z r=>(match HD m with
   | some false=>aL a .E b (.e y)&&aL c .E b (.e (.BoolOp .Or (z::r) p))
   | some true=>aL a .T b (.e y)&&aL c .W b (.e (.BoolOp .Or (z::r) p))
   | none=>false)
 | .not a,m,b,x=>vE x fun e=>rT m&&QT e fun op y=>decide (op=.Not)&&(match m with | .T=>aL a .T b (.e y) | _=>aL a .E b (.e y))
 | .tr a,m,b,x=>(match m with | .T=>true | _=>false)&&vE x fun e=>plainT e&&aL a .Q b (.e e)
 | .GG t a c,m,b,x=>vE x fun e=>val m e&&SB e fun y z u=>aL t .T b (.e y)&&aL a .E b (.e z)&&aL c .E b (.e u)
 | .tup a,m,b,x=>vE x fun e=>val m e&&SC e fun es=>aL a .A b (.es es)
 | .fr f,m,b,x=>vE x fun e=>val m e&&aL f .F b (.e e)
 | .CO f,m,b,x=>vE x fun e=>val m e&&aL f .F b (.e e)
 | .GH,m,b,x=>vE x fun e=>val m e&&SE e
 | .jd a,m,b,x=>Dl m&&vE x fun e=>SD e fun es=>aL a .A b (.es es)
 | .yQ a,m,b,x=>Dl m&&vE x fun e=>lY e fun y es=>decide (y = "list")&&b.bt y&&pH es fun u=>noStar u&&aL a .Q b (.e u)
 | .Ac a lo hi,m,b,x=>Dl m&&vE x fun e=>HA e fun y s=>OE s fun l h=>aL a .P b (.e y)&&aL lo .O b (.oe l)&&aL hi .O b (.oe h)
 | .cat a c,m,b,x=>Dl m&&vE x fun e=>Hw e fun l op r=>decide (op=.Add)&&aL a .P b (.e l)&&aL c .Q b (.e r)
 | .GI a c,m,b,x=>Dl m&&vE x fun e=>lY e fun y es=>decide (y = "list")&&b.bt y&&pH es fun u=>lY u fun z us=>decide (z = "range")&&b.bt z&&Di us fun s w=>noStar s&&noStar w&&aL a .E b (.e s)&&aL c .E b (.e w)
 | .GJ a,m,b,x=>Dl m&&vE x fun e=>lY e fun y es=>decide (y = "list")&&b.bt y&&pH es fun u=>lY u fun z us=>decide (z = "range")&&b.bt z&&pH us fun s=>noStar s&&aL a .E b (.e s)
 | .comp it w ix t d,m,b,x=>Dl m&&vE x fun e=>QV e fun elt tg iter ifs scope=>Dj tg fun own=>decide (own.length=w)&&tZ b scope own ix&&lb iter&&aL it .I b (.it tg iter)&&Dk ifs (M6 t) (fun q=>aL t .T ⟨own++ix.map fun i=>b.N.getD i WA,scope⟩ (.e q))&&aL d .E ⟨own++ix.map fun i=>b.N.getD i WA,scope⟩ (.e elt)
 | .yq it ix t d,m,b,x=>Dl m&&vE x fun e=>QV e fun elt tg iter ifs scope=>vT tg fun x0=>vS b scope x0 ix&&lb iter&&aL it .I b (.it tg iter)&&Dk ifs (M6 t) (fun q=>aL t .T ⟨x0::ix.map fun i=>b.N.getD i WA,scope⟩ (.e q))&&aL d .E ⟨x0::ix.map fun i=>b.N.getD i WA,scope⟩ (.e elt)
 | .eH a,m,b,x=>Ae m&&vI x fun _ e=>aL a .E b (.e e)
 | .kP a,m,b,x=>Ae m&&vI x fun _ e=>lY e fun y es=>decide (y = "range")&&b.bt y&&pH es fun u=>noStar u&&aL a .E b (.e u)
 | .Eb a c,m,b,x=>Ae m&&vI x fun _ e=>lY e fun y es=>decide (y = "range")&&b.bt y&&Di es fun u w=>noStar u&&noStar w&&aL a .E b (.e u)&&aL c .E b (.e w)
 | .rev a,m,b,x=>Ae m&&vI x fun _ e=>lY e fun y es=>decide (y = "reversed")&&b.bt y&&pH es fun u=>lY u fun z us=>decide (z = "range")&&b.bt z&&pH us fun s=>noStar s&&aL a .E b (.e s)
 | .CP a,m,b,x=>Ae m&&vI x fun tg e=>isTup tg&&lY e fun y es=>decide (y = "enumerate")&&b.bt y&&pH es fun u=>noStar u&&aL a .E b (.e u)
 | .zip a c,m,b,x=>Ae m&&vI x fun tg e=>isTup tg&&lY e fun y es=>decide (y = "zip")&&b.bt y&&Di es fun u w=>noStar u&&noStar w&&aL a .E b (.e u)&&aL c .E b (.e w)
 | .ix a c,m,b,x=>vE x fun e=>val m e&&HA e fun y z=>iX z&&aL a .P b (.e y)&&aL c .E b (.e z)
 | .slt a lo hi,m,b,x=>vE x fun e=>val m e&&HA e fun y s=>OE s fun l h=>aL a .P b (.e y)&&aL lo .O b (.oe l)&&aL hi .O b (.oe h)
 | .CQ a lo hi,m,b,x=>vE x fun e=>val m e&&HA e fun y s=>OE s fun l h=>aL a .P b (.e y)&&aL lo .O b (.oe l)&&aL hi .O b (.oe h)
 | .fld a f,m,b,x=>vE x fun e=>val m e&&OF e fun y g _=>decide (g=f)&&cY y&&aL a .Q b (.e y)
 | .call f a,m,b,x=>vE x fun e=>val m e&&lY e fun y es=>decide (T.fns[f]? = some y)&&b.gl y&&okN y&&es.all noStar && !es.isEmpty&&aL a .A b (.es es)
 | .br k r a,m,b,x=>vE x fun e=>val m e&&HB e fun o y es q p=>decide (T.mG[k]? = some y)&&cY o&&es.all noStar&&decide (es.length<30)&&qJ q p&&aL r .E b (.e o)&&HE a es.isEmpty (!es.isEmpty&&aL a .A b (.es es))
 | .mk c a,m,b,x=>vE x fun e=>val m e&&lY e fun y es=>decide (T.cls[c]? = some y)&&b.gl y&&okN y&&es.all noStar && !es.isEmpty&&aL a .A b (.es es)
 | .JQ c a,m,b,x=>vE x fun e=>val m e&&lY e fun y es=>decide (T.cls[c]? = some y)&&b.gl y&&okN y&&es.all noStar && !es.isEmpty&&aL a .A b (.es es)
 | .len a,m,b,x=>vE x fun e=>val m e&&lY e fun y es=>decide (y = "len")&&b.bt y&&pH es fun u=>noStar u&&aL a .Q b (.e u)
 | .tV a t,m,b,x=>vE x fun e=>val m e&&lY e fun y es=>decide (y = "isinstance")&&b.bt y&&Di es fun u w=>vT w fun z=>decide (t<5)&&decide (z=WR (BK t))&&b.bt z&&noStar u&&aL a .Q b (.e u)
 | .all a,m,b,x=>vE x fun e=>val m e&&lY e fun y es=>decide (y = "all")&&b.bt y&&pH es fun u=>noStar u&&aL a .Q b (.e u)
 | .any a,m,b,x=>vE x fun e=>val m e&&lY e fun y es=>decide (y = "any")&&b.bt y&&pH es fun u=>noStar u&&aL a .Q b (.e u)
 | .mB a,m,b,x=>vE x fun e=>val m e&&lY e fun y es=>decide (y = "int")&&b.bt y&&pH es fun u=>noStar u&&aL a .Q b (.e u)
 | .min2 a c,m,b,x=>vE x fun e=>val m e&&lY e fun y es=>decide (y = "min")&&b.bt y&&Di es fun u w=>noStar u&&noStar w&&aL a .E b (.e u)&&aL c .E b (.e w)
 | .max2 a c,m,b,x=>vE x fun e=>val m e&&lY e fun y es=>decide (y = "max")&&b.bt y&&Di es fun u w=>noStar u&&noStar w&&aL a .E b (.e u)&&aL c .E b (.e w)
 | .yR a,m,b,x=>vE x fun e=>val m e&&lY e fun y es=>decide (y = "tuple")&&b.bt y&&pH es fun u=>noStar u&&aL a .Q b (.e u)
 | .Ec a,m,b,x=>vE x fun e=>val m e&&lY e fun y es=>decide (y = "tuple")&&b.bt y&&pH es fun u=>noStar u&&aL a .Q b (.e u)
 | .cnt a c,m,b,x=>vE x fun e=>val m e&&HB e fun o y es q p=>decide (y = "count")&&cY o&&qJ q p&&pH es fun u=>noStar u&&aL a .E b (.e o)&&aL c .E b (.e u)
 | .yc a,m,b,x=>vE x fun e=>val m e&&lY e fun y es=>decide (y = "dict")&&b.bt y&&pH es fun u=>noStar u&&aL a .Q b (.e u)
 | .CS a c,m,b,x=>vE x fun e=>rT m&&Hz e fun l op r=>decide (op=.NotIn)&&fN r&&aL a .E b (.e l)&&aL c .E b (.e r)
 | .GK a c,m,b,x=>vE x fun e=>val m e&&HA e fun y z=>iX z&&aL a .E b (.e y)&&aL c .E b (.e z)
where
 Dl (m:Md):Bool:=match m with | .F=>true | _=>false
 Ae (m:Md):Bool:=match m with | .I=>true | _=>false
 M6 (t:C):Bool:=match t with | .b true=>true | _=>false
end
end PV
namespace PV
open PySem L2 SH
theorem ff {P:Prop} (h:false=true):P:=nomatch h
theorem ae {a b:Bool} (h:(a&&b)=true):a=true/\b=true:=by rwa [t_] at h
def QW (a:C) (x y:Bool):Prop:=(a=.nil/\x=true)∨y=true
theorem wZ {a:C}{x y:Bool} (h:HE a x y=true):QW a x y:=by cases a<;>first | exact .inr h | exact .inl ⟨rfl,h⟩
section
variable {x:Ax}{e tg:Expr}{es:List Expr}
theorem aw {k:Expr->Bool} (h:vE x k=true):∃ e,x=.e e/\k e=true:=by cases x<;>first | exact⟨_,rfl,h⟩ | cases h
theorem HF {k:List Expr->Bool} (h:Sz x k=true):∃ e,x=.es e/\k e=true:=by cases x<;>first | exact⟨_,rfl,h⟩ | cases h
theorem M7 {k:k_ Expr->Bool} (h:vO x k=true):∃ e,x=.oe e/\k e=true:=by cases x<;>first | exact⟨_,rfl,h⟩ | cases h
theorem qK {k:Expr->Expr->Bool} (h:vI x k=true):∃ t e,x=.it t e/\k t e=true:=by cases x<;>first | exact⟨_,_,rfl,h⟩ | cases h
def QX (e:Expr) (k:Const->Bool):Prop:=∃ c j p,e=.Constant c j p/\k c=true
theorem mX {k:Const->Bool} (h:AF e k=true):QX e k:=by cases e<;>first | exact⟨_,_,_,rfl,h⟩ | exact ff h
def UC (e:Expr) (k:Str->Bool):Prop:=∃ y p,e=.Name y p/\k y=true
theorem cD {k:Str->Bool} (h:vT e k=true):UC e k:=by cases e<;>first | exact⟨_,_,rfl,h⟩ | exact ff h
def QY (e:Expr) (k:Expr->YQ->Expr->Bool):Prop:=∃ a o b p,e=.BinOp a o b p/\k a o b=true
theorem w4 {k:Expr->YQ->Expr->Bool} (h:Hw e k=true):QY e k:=by cases e<;>first | exact⟨_,_,_,_,rfl,h⟩ | exact ff h
def UD (e:Expr) (k:acm->Expr->Bool):Prop:=∃ o a p,e=.UnaryOp o a p/\k o a=true
theorem AG {k:acm->Expr->Bool} (h:QT e k=true):UD e k:=by cases e<;>first | exact⟨_,_,_,rfl,h⟩ | exact ff h
def QZ (e:Expr) (k:Expr->List CmpOp->List Expr->Bool):Prop:=∃ a os es p,e=.Compare a os es p/\k a os es=true
theorem w5 {k:Expr->List CmpOp->List Expr->Bool} (h:Hy e k=true):QZ e k:=by cases e<;>first | exact⟨_,_,_,_,rfl,h⟩ | exact ff h
theorem lf {k:Expr->CmpOp->Expr->Bool} (h:Hz e k=true):∃ a o b p,e=.Compare a [o] [b] p/\k a o b=true:=by
 obtain⟨a,os,es,p,rfl,h⟩:=w5 h;rcases os with _ | ⟨o,_ | ⟨_,_⟩⟩<;>first | (cases h;done) | skip
 rcases es with _ | ⟨b,_ | ⟨_,_⟩⟩<;>first | (cases h;done) | exact⟨_,_,_,_,rfl,h⟩
theorem HG {k:Expr->CmpOp->CmpOp->Expr->Expr->Bool} (h:SA e k=true):∃ a o o' b c p,e=.Compare a [o,o'] [b,c] p/\k a o o' b c=true:=by
 obtain⟨a,os,es,p,rfl,h⟩:=w5 h;rcases os with _ | ⟨o,_ | ⟨o',_ | ⟨_,_⟩⟩⟩<;>first | (cases h;done) | skip
 rcases es with _ | ⟨b,_ | ⟨c,_ | ⟨_,_⟩⟩⟩<;>first | (cases h;done) | exact⟨_,_,_,_,_,_,rfl,h⟩
def UE (e:Expr) (k:BoolOp->List Expr->Pos->Bool):Prop:=∃ o es p,e=.BoolOp o es p/\k o es p=true
theorem vU {k:BoolOp->List Expr->Pos->Bool} (h:OD e k=true):UE e k:=by cases e<;>first | exact⟨_,_,_,rfl,h⟩ | exact ff h
def UF (e:Expr) (k:Expr->Expr->Expr->Bool):Prop:=∃ a b c p,e=.IfExp a b c p/\k a b c=true
theorem HI {k:Expr->Expr->Expr->Bool} (h:SB e k=true):UF e k:=by cases e<;>first | exact⟨_,_,_,_,rfl,h⟩ | exact ff h
def UG (e:Expr) (k:List Expr->Bool):Prop:=∃ es j p,e=.Tuple es j p/\k es=true
theorem HJ {k:List Expr->Bool} (h:SC e k=true):UG e k:=by cases e<;>first | exact⟨_,_,_,rfl,h⟩ | exact ff h
def UH (e:Expr) (k:List Expr->Bool):Prop:=∃ es p,e=.List es p/\k es=true
theorem HK {k:List Expr->Bool} (h:SD e k=true):UH e k:=by cases e<;>first | exact⟨_,_,rfl,h⟩ | exact ff h
def UI (e:Expr) (k:Expr->Expr->Bool):Prop:=∃ a b p,e=.Subscript a b p/\k a b=true
theorem lg {k:Expr->Expr->Bool} (h:HA e k=true):UI e k:=by cases e<;>first | exact⟨_,_,_,rfl,h⟩ | exact ff h
theorem HL (h:SE e=true):∃ p,e=.Dict [] [] p:=by
 cases e<;>first | exact ff h | skip
 rename_i ks vs p
 cases ks<;>cases vs<;>first | exact⟨_,rfl⟩ | cases h
theorem vV {k:k_ Expr->k_ Expr->Bool} (h:OE e k=true):∃ a b p,e=.Slice a b none p/\k a b=true:=by
 cases e<;>first | exact ff h | skip
 rename_i l u s p
 cases s<;>first | exact⟨_,_,_,rfl,h⟩ | cases h
def UJ (e:Expr) (k:Expr->Str->Pos->Bool):Prop:=∃ a f p,e=.Attribute a f p/\k a f p=true
theorem vW {k:Expr->Str->Pos->Bool} (h:OF e k=true):UJ e k:=by cases e<;>first | exact⟨_,_,_,rfl,h⟩ | exact ff h
theorem AH {k:Expr->List Expr->Pos->Bool} (h:QU e k=true):∃ f es p,e=.Call f es [] p/\k f es p=true:=by
 cases e<;>first | exact ff h | skip
 rename_i f es ks p
 cases ks<;>first | exact⟨_,_,_,rfl,h⟩ | cases h
theorem be {k:Str->List Expr->Bool} (h:lY e k=true):∃ y es q p,e=.Call (.Name y q) es [] p/\k y es=true:=by
 obtain⟨f,es,p,rfl,h⟩:=AH h;obtain⟨y,q,rfl,h⟩:=cD h;exact⟨y,es,q,p,rfl,h⟩
theorem lh {k:Expr->Str->List Expr->Pos->Pos->Bool} (h:HB e k=true):∃ o y es q p,e=.Call (.Attribute o y q) es [] p/\k o y es q p=true:=by
 obtain⟨f,es,p,rfl,h⟩:=AH h;obtain⟨o,y,q,rfl,h⟩:=vW h;exact⟨o,y,es,q,p,rfl,h⟩
theorem bB {k:Expr->Bool} (h:pH es k=true):∃ a,es=[a]/\k a=true:=by rcases es with _ | ⟨_,_ | ⟨_,_⟩⟩<;>first | exact⟨_,rfl,h⟩ | cases h
theorem jt {k:Expr->Expr->Bool} (h:Di es k=true):∃ a b,es=[a,b]/\k a b=true:=by rcases es with _ | ⟨_,_ | ⟨_,_ | ⟨_,_⟩⟩⟩<;>first | exact⟨_,_,rfl,h⟩ | cases h
theorem lj {k:Expr->List Expr->Bool} (h:HC es k=true):∃ a b,es=a::b/\k a b=true:=by cases es<;>first | exact⟨_,_,rfl,h⟩ | cases h
theorem rV {k:Expr->Expr->Expr->List Expr->Scope->Bool} (h:QV e k=true):∃ elt tg iter ifs sc p,e=.ListComp elt [⟨tg,iter,ifs,0⟩] sc p/\k elt tg iter ifs sc=true:=by
 cases e<;>first | exact ff h | skip
 rename_i elt gs sc p;rcases gs with _ | ⟨g,_ | ⟨_,_⟩⟩<;>first | (cases h;done) | skip
 obtain⟨tg,iter,ifs,a⟩:=g;obtain⟨h1,h⟩:=ae h
 cases of_decide_eq_true h1
 exact⟨_,_,_,_,_,_,rfl,h⟩
theorem w6 {k:List Str->Bool} (h:Dj tg k=true):(∃ y p,tg=.Name y p/\k [y]=true)∨∃ y z p1 p2 j p,tg=.Tuple [.Name y p1,.Name z p2] j p/\k [y,z]=true:=by
 cases tg<;>first | exact ff h | exact .inl ⟨_,_,rfl,h⟩ | skip
 rename_i es j p;obtain⟨a,b,rfl,h⟩:=jt (show Di es _=true from h);obtain⟨y,p1,rfl,h⟩:=cD h;obtain⟨z,p2,rfl,h⟩:=cD h;exact .inr ⟨_,_,_,_,_,_,rfl,h⟩
end
structure GC (T:Tb) (Γ:Gm) (cl:Cl) (n:Nat) (X:Cx) (b:Bk):Prop where
 hN:X.N=b.N
 calm:X.calm=true
 loc:∀ x,b.lk x=some .local->X.env.scope.names.lookup x=some .local
 HM:∀ x,b.lk x=some .cell->X.env.scope.names.lookup x=some .cell
 JV:∀ x,b.lk x=some .free->X.env.scope.names.lookup x=some .free∨X.env.scope.names.lookup x=some .cell
 OG:∀ x,b.lk x=some .globalImplicit->Gl X x
 room:cj n X.A
 F:Fx Γ cl X.prog X.w X.K X.mg X.base n T.fns T.mG T.cls T.pE T.pG
 bt:∀ x∈Em,X.mg x=none
def Gs (X:Cx) (cl:Cl) (Γ:Gm) (c:C):Md->Ax->Prop
 | .E,.e e=>PE X e (tp X.K cl Γ c)
 | .P,.e e=>PE X e (tr X.K cl Γ c)
 | .Q,.e e=>PE X e (tq X.K cl Γ c)
 | .F,.e e=>PE X e (tf X.K cl Γ c)
 | .T,.e e=>PT X e (tt X.K cl Γ c)
 | .W,.e e=>PW X e (tt X.K cl Γ c)
 | .A,.es es=>PA X es (ta X.K cl Γ c)
 | .O,.oe o=>PO X o (to X.K cl Γ c)
 | .I,.it tg e=>PI X tg e (yT X.K cl Γ c)
 | _,_=>True
section
variable {T:Tb}{Γ:Gm}{cl:Cl}{n:Nat}{X:Cx}{b:Bk}{c:C}{m:Md}{e:Expr}
theorem nS {env:Env} (h:plainT e=true):∀ whole,aaL e env whole=(do let v ←whole;aa1 e.pos;aae [v] (truthy v)):=fun whole=>by
 cases e with
 | UnaryOp op x p=>cases op<;>first | rfl | cases h
 | BoolOp _ _ _=>cases h
 | IfExp _ _ _ _=>cases h
 | Compare _ _ _ _=>cases h
 | _=>rfl
theorem aH (h:val m e=true) (p:PE X e (tp X.K cl Γ c)):Gs X cl Γ c m (.e e):=by
 cases m with
 | E=>exact p
 | P=>exact p.r
 | Q=>exact p.q
 | T=>exact LH p (nS h)
 | _=>cases h
theorem f9 (h:rT m=true) (p:PE X e (tp X.K cl Γ c)) (t:PT X e (tt X.K cl Γ c)):Gs X cl Γ c m (.e e):=by
 cases m with
 | E=>exact p
 | P=>exact p.r
 | Q=>exact p.q
 | T=>exact t
 | _=>cases h
theorem GC.gl (g:GC T Γ cl n X b) {x:Str} (h:b.gl x=true):Gl X x:=g.OG x (of_decide_eq_true h)
theorem GC.bl (g:GC T Γ cl n X b) {x:Str} (h:b.bt x=true):Gl X x/\X.mg x=none:=⟨g.gl (ae h).1,g.bt x (Y7.mp (ae h).2)⟩
theorem GC.JH (g:GC T Γ cl n X b) {x:Str} (h:b.JH x=true):yV X.env.scope x:=by
 rcases of_decide_eq_true h with h | h | h
 ·exact .inl (g.loc x h)
 ·exact .inr (.inl (g.HM x h))
 ·rcases g.JV x h with q | q
  ·exact .inr (.inr q)
  ·exact .inr (.inl q)
theorem ll {x:Str} (h:okN x=true):(x==("__debug__" : Str))=false/\(x==("__classdict__" : Str))=false:=by
 obtain⟨h1,h2⟩:=ae h;exact⟨by simpa using h1,by simpa using h2⟩
theorem GC.nm (g:GC T Γ cl n X b) {k:Nat}{x:Str} (h:b.at_ k x=true):X.N[k]? = some x/\yV X.env.scope x/\(x==("__debug__" : Str))=false/\(x==("__classdict__" : Str))=false:=by
 obtain⟨h1,h3⟩:=ae h;obtain⟨h1,h2⟩:=ae h1;exact⟨by rw[g.hN];exact of_decide_eq_true h1,g.JH h2,ll h3⟩
theorem GC.hu (g:GC T Γ cl n X b):X.A.units+64<cLine:=g.room.units
theorem GC.JW (g:GC T Γ cl n X b):X.A.units+66<cLine:=by have:=g.room.un;omega
theorem M8 {scope:Scope}{own:List Str}{ix:List Nat} (g:GC T Γ cl n X b) (h:tZ b scope own ix=true):bL X.N X.env.scope scope own (ix.map fun i=>b.N.getD i WA) ix:=by
 unfold tZ at h;obtain⟨h,h9⟩:=ae h;obtain⟨h,h8⟩:=ae h;obtain⟨h,h7⟩:=ae h;obtain⟨h,h6⟩:=ae h;obtain⟨h,h5⟩:=ae h;obtain⟨h,h4⟩:=ae h;obtain⟨h,h3⟩:=ae h;obtain⟨h1,h2⟩:=ae h;rw[T_] at h2 h3 h4 h5 h6 h7 h8;refine⟨of_decide_eq_true h1,fun y hy=>of_decide_eq_true (h2 y hy),fun y hy=>of_decide_eq_true (h3 y hy),fun y hy=>of_decide_eq_true (h4 y hy),fun x hx=>of_decide_eq_true (h5 x hx),fun x hx=>of_decide_eq_true (h6 x hx),fun x hx=>?_,?_,of_decide_eq_true h9⟩
 ·rcases of_decide_eq_true (h7 x hx) with q | q
  ·exact .inl (g.HM x q)
  ·exact (g.JV x q).symm
 ·rw[g.hN,R_];refine WF fun i hi=>?_
  have:=of_decide_eq_true (h8 i hi);show b.N[i]? = some (b.N.getD i WA);rw[B_,c_ this];rfl
theorem GC.comp {scope:Scope}{own aV:List Str}{C:Addr}{s₀:h_}{H₀:Hp}{ex:List Addr}{pn:List (Addr×Obj)} (g:GC T Γ cl n X b):GC T Γ cl n (X.comp scope own aV C s₀ H₀ ex pn) ⟨own++aV,scope⟩ where
 hN:=rfl
 calm:=g.calm
 loc:=fun x h=>by rcases aB (env:=X.env) h with q | ⟨q,_⟩;exact q;cases q
 HM:=fun x h=>by rcases aB (env:=X.env) h with q | ⟨q,_⟩;exact q;cases q
 JV:=fun x h=>by rcases aB (env:=X.env) h with q | ⟨_,q⟩;exact .inl q;exact .inr q
 OG:=fun x h=>by rcases aB (env:=X.env) h with q | ⟨q,_⟩;exact q;cases q
 room:=g.room
 F:=g.F
 bt:=g.bt
theorem qL {x0:Str}:∀ {l:List (Str×Xu)},l.filter (fun y=>y.2==.cell)=[(x0,.cell)]->(∀ (n:Nat) (acc:List (Str×Addr)),Yl n l acc=(x0,n)::acc)/\(∀ h:Heap,Zz h l=h.push { cls:=.type "cell",data:=.cell none })
 | [],h=>by cases h
 | (y,k)::r,h=>by
  have HN:∀ {l:List (Str×Xu)},l.filter (fun y=>y.2==.cell)=[]->(∀ (n:Nat) (acc:List (Str×Addr)),Yl n l acc=acc)/\(∀ h:Heap,Zz h l=h):=fun {l}=>by
   induction l with
   | nil=>intro _;exact⟨fun _ _=>rfl,fun _=>rfl⟩
   | cons z l ih =>
    intro h;obtain⟨z,k⟩:=z;rw[WE] at h;by_cases hk:(k==WV)=true
    ·rw[w_ hk] at h;cases h
    ·rw[n_ hk] at h;obtain⟨h1,h2⟩:=ih h;refine⟨fun n acc=>?_,fun hh=>?_⟩
     ·unfold Yl;rw[n_ hk];exact h1 n acc
     ·unfold Zz;rw[n_ hk];exact h2 hh
  rw[WE] at h;by_cases hk:(k==WV)=true
  ·rw[w_ hk] at h;injection h with h1 h2
   injection h1 with h3 h4
   subst h3;obtain⟨q1,q2⟩:=HN h2;refine⟨fun n acc=>?_,fun hh=>?_⟩
   ·unfold Yl;rw[w_ hk];exact q1 _ _
   ·unfold Zz;rw[w_ hk];exact q2 _
  ·rw[n_ hk] at h;obtain⟨q1,q2⟩:=qL h;refine⟨fun n acc=>?_,fun hh=>?_⟩
   ·unfold Yl;rw[n_ hk];exact q1 _ _
   ·unfold Zz;rw[n_ hk];exact q2 _
theorem HP {scope:Scope}{x0:Str}{ix:List Nat} (g:GC T Γ cl n X b) (h:vS b scope x0 ix=true):bV X.N X.env.scope scope x0 (ix.map fun i=>b.N.getD i WA) ix/\scope.names.lookup x0=some .cell:=by
 unfold vS at h;obtain⟨h,h9⟩:=ae h;obtain⟨h,h8⟩:=ae h;obtain⟨h,h7⟩:=ae h;obtain⟨h,h6⟩:=ae h;obtain⟨h,h5⟩:=ae h;obtain⟨h,h4⟩:=ae h;obtain⟨h,h3⟩:=ae h;obtain⟨h1,h2⟩:=ae h;rw[T_] at h4 h5 h6 h7 h8;have hf:=of_decide_eq_true h2;obtain⟨c1,c2⟩:=qL hf;refine⟨⟨of_decide_eq_true h1,c1,c2,fun y hy hk=>?_,fun y hy=>of_decide_eq_true (h4 y hy),fun y hy=>of_decide_eq_true (h5 y hy),fun x hx=>of_decide_eq_true (h6 x hx),fun x hx=>?_,?_,of_decide_eq_true h9⟩,of_decide_eq_true h3⟩
 ·have hm:y∈scope.names.filter (fun y=>y.2==.cell):=Xf.mpr ⟨hy,by rw[hk];rfl⟩;rw[hf] at hm;rw[y_.mp hm]
 ·rcases of_decide_eq_true (h7 x hx) with q | q
  ·exact .inl (g.HM x q)
  ·exact (g.JV x q).symm
 ·rw[g.hN,R_];refine WF fun i hi=>?_
  have:=of_decide_eq_true (h8 i hi);show b.N[i]? = some (b.N.getD i WA);rw[B_,c_ this];rfl
theorem GC.bE {scope:Scope}{x0:Str}{aV:List Str}{C c0:Addr}{s₀:h_}{H₀:Hp}{ex:List Addr}{pn:List (Addr×Obj)} (g:GC T Γ cl n X b):GC T Γ cl n (X.bE scope x0 aV C c0 s₀ H₀ ex pn) ⟨x0::aV,scope⟩ where
 hN:=rfl
 calm:=g.calm
 loc:=fun x h=>by rcases aB (env:=X.env) h with q | ⟨q,_⟩;exact q;cases q
 HM:=fun x h=>by rcases aB (env:=X.env) h with q | ⟨q,_⟩;exact q;cases q
 JV:=fun x h=>by rcases aB (env:=X.env) h with q | ⟨_,q⟩;exact .inl q;exact .inr q
 OG:=fun x h=>by rcases aB (env:=X.env) h with q | ⟨q,_⟩;exact q;cases q
 room:=g.room
 F:=g.F
 bt:=g.bt
end
end PV
namespace PV
open PySem L2 SH
section
variable {T:Tb}{Γ:Gm}{cl:Cl}{n:Nat}
def Ok (T:Tb) (Γ:Gm) (cl:Cl) (n:Nat) (c:C):Prop:=∀ (m:Md) (b:Bk) (x:Ax),aL T c m b x=true->∀ X,GC T Γ cl n X b->Gs X cl Γ c m x
theorem Q0 (k:Int):Ok T Γ cl n (.i k):=fun m b x h X g=>by
 obtain⟨e,rfl,h⟩:=aw h;obtain⟨hv,h⟩:=ae h;obtain⟨q,j,p,rfl,h⟩:=mX h
 cases of_decide_eq_true h
 exact aH hv Ud
theorem Q5 (k:Str):Ok T Γ cl n (.s k):=fun m b x h X g=>by
 obtain⟨e,rfl,h⟩:=aw h;obtain⟨hv,h⟩:=ae h;obtain⟨q,j,p,rfl,h⟩:=mX h
 cases of_decide_eq_true h
 exact aH hv Ue
theorem Q6 (k:Bool):Ok T Γ cl n (.b k):=fun m b x h X g=>by
 obtain⟨e,rfl,h⟩:=aw h;obtain⟨hv,h⟩:=ae h;obtain⟨q,j,p,rfl,h⟩:=mX h
 cases of_decide_eq_true h
 exact aH hv Uf
theorem Q7:Ok T Γ cl n .n:=fun m b x h X g=>by
 obtain⟨e,rfl,h⟩:=aw h;obtain⟨hv,h⟩:=ae h;obtain⟨q,j,p,rfl,h⟩:=mX h
 cases of_decide_eq_true h
 exact aH hv Ug
theorem Q8 (k:Nat):Ok T Γ cl n (.v k):=fun m b x h X g=>by
 obtain⟨e,rfl,h⟩:=aw h;obtain⟨hv,h⟩:=ae h;obtain⟨y,p,rfl,h⟩:=cD h;obtain⟨h1,h2,h3,h4⟩:=g.nm h;exact aH hv (Uh h1 h2 h3 h4)
theorem Q9 (k:Nat):Ok T Γ cl n (.o k):=fun m b x h X g=>by
 obtain⟨e,rfl,h⟩:=aw h;obtain⟨hv,h⟩:=ae h;obtain⟨y,p,rfl,h⟩:=cD h;obtain⟨h1,h2,h3,h4⟩:=g.nm h;have q:PE X (.Name y p) (tr X.K cl Γ (.o k)):=Ui h1 h2 h3 h4
 cases m with
 | P=>exact q
 | Q=>exact q.rq
 | _=>cases hv
theorem Ra {c:C} (ih:Ok T Γ cl n c):Ok T Γ cl n (.d c):=fun m b x h X g=>by
 obtain⟨hv,h⟩:=ae h;obtain⟨e,rfl,h⟩:=aw h
 cases m with
 | Q=>exact Uj (ih .E b _ h X g)
 | _=>cases hv
theorem Rb (k:Nat):Ok T Γ cl n (.g k):=fun m b x h X g=>by
 obtain⟨e,rfl,h⟩:=aw h;obtain⟨hv,h⟩:=ae h;obtain⟨y,p,rfl,h⟩:=cD h;obtain⟨h,h3⟩:=ae h;obtain⟨h1,h2⟩:=ae h;obtain⟨u,v,e1,e2,e3⟩:=g.F.cs k y (of_decide_eq_true h1) (ll h3).1;exact aH hv ((BV (g.gl h2) e1 e2 (ll h3).1).imp fun σ H Q q=>LB (c:=.g k) (d:=Γ.cs k) (fun _ _ _ z=>z) e3 q)
theorem HQ:Ok T Γ cl n .nil:=fun m b x h X g=>by
 cases m<;>cases x<;>first | (cases h;done) | skip
 ·rename_i es
  cases es with
  | nil=>exact LI
  | cons _ _=>cases h
 ·rename_i o
  cases o with
  | none=>exact G5
  | some _=>cases h
theorem HR {X:Cx}{e:Expr}{ca:C} (ha:PE X e (tp X.K cl Γ ca)):PO X (some e) (to X.K cl Γ (.cons ca .nil)):=(Ce ha).imp fun σ H Q h=>by
 obtain⟨B,ρ,M,G,k,h1,h2,h3⟩:=h;refine⟨B,ρ,M,G,_,h1,h2,fun d v M' G' H' f i hd=>?_⟩
 cases d with
 | int n=>unfold Is at i;exact⟨n,i,h3 (some n) M' G' H' f hd⟩
 | _=>exact (show False from hd).elim
theorem Dm {a r:C} (aJ:Ok T Γ cl n a) (HS:Ok T Γ cl n r):Ok T Γ cl n (.cons a r):=fun m b x h X g=>by
 cases m with
 | A =>
  obtain⟨es,rfl,h⟩:=HF h;obtain⟨e,es,rfl,h⟩:=lj h;obtain⟨h,h3⟩:=ae h;obtain⟨h1,h2⟩:=ae h;exact GU (aJ .E b _ h2 X g) (HS .A b _ h3 X g) h1
 | O =>
  obtain⟨o,rfl,h⟩:=M7 h
  cases o with
  | none=>cases h
  | some e =>
   rcases wZ h with ⟨rfl,h⟩ | h
   ·exact HR (aJ .E b _ h X g)
   ·exact ff h
 | _=>cases h
theorem HU {o:qG}{a c:C} (aJ:Ok T Γ cl n a) (cU:Ok T Γ cl n c):Ok T Γ cl n (.bin o a c):=fun m b x h X g=>by
 obtain⟨e,rfl,h⟩:=aw h;obtain⟨hv,h⟩:=ae h;obtain⟨l,op,r,p,rfl,h⟩:=w4 h;obtain⟨h,h3⟩:=ae h;obtain⟨h1,h2⟩:=ae h
 cases of_decide_eq_true h1
 exact aH hv (LD (aJ .E b _ h2 X g) (cU .E b _ h3 X g))
theorem HV {a:C} (aJ:Ok T Γ cl n a):Ok T Γ cl n (.neg a):=fun m b x h X g=>by
 obtain⟨e,rfl,h⟩:=aw h;obtain⟨hv,h⟩:=ae h;obtain⟨op,y,p,rfl,h⟩:=AG h;obtain⟨h1,h2⟩:=ae h
 cases of_decide_eq_true h1
 exact aH hv (LF (aJ .E b _ h2 X g))
theorem HW {o:rM}{a c:C} (aJ:Ok T Γ cl n a) (cU:Ok T Γ cl n c):Ok T Γ cl n (.cmp o a c):=fun m b x h X g=>by
 obtain⟨e,rfl,h⟩:=aw h;obtain⟨hv,h⟩:=ae h;obtain⟨l,op,r,p,rfl,h⟩:=lf h;obtain⟨h,h3⟩:=ae h;obtain⟨h1,h2⟩:=ae h
 cases of_decide_eq_true h1
 exact f9 hv (LG (aJ .E b _ h2 X g) (cU .E b _ h3 X g)) (GX (aJ .E b _ h2 X g) (cU .E b _ h3 X g))
theorem HX {o1 o2:rM}{a c d:C} (aJ:Ok T Γ cl n a) (cU:Ok T Γ cl n c) (SF:Ok T Γ cl n d):Ok T Γ cl n (.Ab o1 o2 a c d):=fun m b x h X g=>by
 obtain⟨e,rfl,h⟩:=aw h;obtain⟨hv,h⟩:=ae h;obtain⟨l,p1,p2,r,s,p,rfl,h⟩:=HG h;obtain⟨h,h5⟩:=ae h;obtain⟨h,h4⟩:=ae h;obtain⟨h,h3⟩:=ae h;obtain⟨h1,h2⟩:=ae h
 cases of_decide_eq_true h1
 cases of_decide_eq_true h2
 exact f9 hv (L4 (aJ .E b _ h3 X g) (cU .E b _ h4 X g) (SF .E b _ h5 X g)) (L5 (aJ .E b _ h3 X g) (cU .E b _ h4 X g) (SF .E b _ h5 X g))
theorem M9 {ng:Bool}{a c:C} (aJ:Ok T Γ cl n a) (cU:Ok T Γ cl n c):Ok T Γ cl n (.eq ng a c):=fun m b x h X g=>by
 obtain⟨e,rfl,h⟩:=aw h;obtain⟨hv,h⟩:=ae h;obtain⟨l,op,r,p,rfl,h⟩:=lf h;obtain⟨h,h3⟩:=ae h;obtain⟨h1,h2⟩:=ae h
 cases of_decide_eq_true h1
 exact f9 hv (s_eq g.hu (aJ .P b _ h2 X g) (cU .Q b _ h3 X g)) (QC g.hu (aJ .P b _ h2 X g) (cU .Q b _ h3 X g))
theorem HY {ng:Bool}{a c:C} (aJ:Ok T Γ cl n a) (cU:Ok T Γ cl n c):Ok T Γ cl n (.wP ng a c):=fun m b x h X g=>by
 obtain⟨e,rfl,h⟩:=aw h;obtain⟨hv,h⟩:=ae h;obtain⟨l,op,r,p,rfl,h⟩:=lf h;obtain⟨h,h4⟩:=ae h;obtain⟨h,h3⟩:=ae h;obtain⟨h1,h2⟩:=ae h
 cases of_decide_eq_true h1
 exact f9 hv (LW g.JW (aJ .P b _ h3 X g) (cU .Q b _ h4 X g) h2) (LX g.JW (aJ .P b _ h3 X g) (cU .Q b _ h4 X g) h2)
theorem HZ {a c:C} (aJ:Ok T Γ cl n a) (cU:Ok T Γ cl n c):Ok T Γ cl n (.ins a c):=fun m b x h X g=>by
 obtain⟨e,rfl,h⟩:=aw h;obtain⟨hv,h⟩:=ae h;obtain⟨l,op,r,p,rfl,h⟩:=lf h;obtain⟨h,h4⟩:=ae h;obtain⟨h,h3⟩:=ae h;obtain⟨h1,h2⟩:=ae h
 cases of_decide_eq_true h1
 exact f9 hv (LY (aJ .E b _ h3 X g) (cU .E b _ h4 X g) h2) (LZ (aJ .E b _ h3 X g) (cU .E b _ h4 X g) h2)
theorem H9 {a c:C} (aJ:Ok T Γ cl n a) (cU:Ok T Γ cl n c):Ok T Γ cl n (.ind a c):=fun m b x h X g=>by
 obtain⟨e,rfl,h⟩:=aw h;obtain⟨hv,h⟩:=ae h;obtain⟨l,op,r,p,rfl,h⟩:=lf h;obtain⟨h,h4⟩:=ae h;obtain⟨h,h3⟩:=ae h;obtain⟨h1,h2⟩:=ae h
 cases of_decide_eq_true h1
 exact f9 hv (L0 g.hu (aJ .E b _ h3 X g) (cU .E b _ h4 X g) h2) (L1 g.hu (aJ .E b _ h3 X g) (cU .E b _ h4 X g) h2)
theorem Ia {a:C} (aJ:Ok T Γ cl n a):Ok T Γ cl n (.one a):=fun m b x h X g=>by
 obtain⟨e,rfl,h⟩:=aw h;obtain⟨op,es,p,rfl,h⟩:=vU h;obtain⟨y,rfl,h⟩:=bB h;have w:PT X y (tt X.K cl Γ a)->PW X (.BoolOp op [y] p) (tt X.K cl Γ (.one a)):=fun q=>by cases op;exact w_and1 q;exact w_or1 q
 cases m with
 | E=>exact Ao (aJ .E b _ h X g)
 | P=>exact (Ao (aJ .E b _ h X g)).r
 | Q=>exact (Ao (aJ .E b _ h X g)).q
 | T=>exact (w (aJ .T b _ h X g)).pt
 | W=>exact w (aJ .T b _ h X g)
 | _=>cases h
theorem Ib {a c:C} (aJ:Ok T Γ cl n a) (cU:Ok T Γ cl n c):Ok T Γ cl n (.and a c):=fun m b x h X g=>by
 obtain⟨e,rfl,h⟩:=aw h;obtain⟨op,es,p,rfl,h⟩:=vU h;obtain⟨h1,h⟩:=ae h
 cases of_decide_eq_true h1
 obtain⟨y,r,rfl,h⟩:=lj h;obtain⟨z,r,rfl,h⟩:=lj h
 cases m with
 | E=>exact Ap (aJ .E b _ (ae h).1 X g) (cU .E b _ (ae h).2 X g)
 | P=>exact (Ap (aJ .E b _ (ae h).1 X g) (cU .E b _ (ae h).2 X g)).r
 | Q=>exact (Ap (aJ .E b _ (ae h).1 X g) (cU .E b _ (ae h).2 X g)).q
 | T=>exact (w_and (aJ .T b _ (ae h).1 X g) (cU .W b _ (ae h).2 X g)).pt
 | W=>exact w_and (aJ .T b _ (ae h).1 X g) (cU .W b _ (ae h).2 X g)
 | _=>cases h
theorem Na {a c:C} (aJ:Ok T Γ cl n a) (cU:Ok T Γ cl n c):Ok T Γ cl n (.or a c):=fun m b x h X g=>by
 obtain⟨e,rfl,h⟩:=aw h;obtain⟨op,es,p,rfl,h⟩:=vU h;obtain⟨h1,h⟩:=ae h
 cases of_decide_eq_true h1
 obtain⟨y,r,rfl,h⟩:=lj h;obtain⟨z,r,rfl,h⟩:=lj h
 cases m with
 | E=>exact G4 (aJ .E b _ (ae h).1 X g) (cU .E b _ (ae h).2 X g)
 | P=>exact (G4 (aJ .E b _ (ae h).1 X g) (cU .E b _ (ae h).2 X g)).r
 | Q=>exact (G4 (aJ .E b _ (ae h).1 X g) (cU .E b _ (ae h).2 X g)).q
 | T=>exact (w_or (aJ .T b _ (ae h).1 X g) (cU .W b _ (ae h).2 X g)).pt
 | W=>exact w_or (aJ .T b _ (ae h).1 X g) (cU .W b _ (ae h).2 X g)
 | _=>cases h
theorem Ic {a:C} (aJ:Ok T Γ cl n a):Ok T Γ cl n (.not a):=fun m b x h X g=>by
 obtain⟨e,rfl,h⟩:=aw h;obtain⟨hv,h⟩:=ae h;obtain⟨op,y,p,rfl,h⟩:=AG h;obtain⟨h1,h2⟩:=ae h
 cases of_decide_eq_true h1
 cases m with
 | E=>exact Aq (aJ .E b _ h2 X g)
 | P=>exact (Aq (aJ .E b _ h2 X g)).r
 | Q=>exact (Aq (aJ .E b _ h2 X g)).q
 | T=>exact L6 (aJ .T b _ h2 X g)
 | _=>cases hv
theorem Nb {a:C} (aJ:Ok T Γ cl n a):Ok T Γ cl n (.tr a):=fun m b x h X g=>by
 obtain⟨hv,h1⟩:=ae h;obtain⟨e,rfl,h2⟩:=aw h1
 cases m with
 | T=>exact QD (aJ .Q b _ (ae h2).2 X g) (nS (ae h2).1)
 | _=>cases hv
theorem Ie {t a c:C} (Ig:Ok T Γ cl n t) (aJ:Ok T Γ cl n a) (cU:Ok T Γ cl n c):Ok T Γ cl n (.GG t a c):=fun m b x h X g=>by
 obtain⟨e,rfl,h⟩:=aw h;obtain⟨hv,h⟩:=ae h;obtain⟨y,z,u,p,rfl,h⟩:=HI h;obtain⟨h,h3⟩:=ae h;obtain⟨h1,h2⟩:=ae h;exact aH hv (L7 (Ig .T b _ h1 X g) (aJ .E b _ h2 X g) (cU .E b _ h3 X g))
theorem Ih {a:C} (aJ:Ok T Γ cl n a):Ok T Γ cl n (.tup a):=fun m b x h X g=>by
 obtain⟨e,rfl,h⟩:=aw h;obtain⟨hv,h⟩:=ae h;obtain⟨es,j,p,rfl,h⟩:=HJ h;exact aH hv (LK (aJ .A b _ h X g))
theorem Nc {a:C} (aJ:Ok T Γ cl n a):Ok T Γ cl n (.fr a):=fun m b x h X g=>by
 obtain⟨e,rfl,h⟩:=aw h;obtain⟨hv,h⟩:=ae h;exact aH hv (QB (aJ .F b _ h X g))
theorem Ii {a:C} (aJ:Ok T Γ cl n a):Ok T Γ cl n (.CO a):=fun m b x h X g=>by
 obtain⟨e,rfl,h⟩:=aw h;obtain⟨hv,h⟩:=ae h;exact aH hv (LJ (aJ .F b _ h X g))
theorem ik {m:Md} (h:aL.Dl m=true):m=.F:=by cases m<;>first | rfl | cases h
theorem lm {m:Md} (h:aL.Ae m=true):m=.I:=by cases m<;>first | rfl | cases h
theorem Ij {a:C} (aJ:Ok T Γ cl n a):Ok T Γ cl n (.jd a):=fun m b x h X g=>by
 obtain⟨hv,h⟩:=ae h;obtain⟨e,rfl,h⟩:=aw h;obtain⟨es,p,rfl,h⟩:=HK h
 cases ik hv
 exact LL (aJ .A b _ h X g)
theorem Ik {a:C} (aJ:Ok T Γ cl n a):Ok T Γ cl n (.yQ a):=fun m b x h X g=>by
 obtain⟨hv,h⟩:=ae h;obtain⟨e,rfl,h⟩:=aw h;obtain⟨y,es,q,p,rfl,h⟩:=be h;obtain⟨h,h3⟩:=ae h;obtain⟨h1,h2⟩:=ae h;obtain⟨u,rfl,h3⟩:=bB h3
 cases ik hv
 have hb:=g.bl h2
 cases of_decide_eq_true h1
 exact LM hb.1 hb.2 (aJ .Q b _ (ae h3).2 X g) (ae h3).1
theorem Il {a lo hi:C} (aJ:Ok T Γ cl n a) (Nf:Ok T Γ cl n lo) (Ng:Ok T Γ cl n hi):Ok T Γ cl n (.Ac a lo hi):=fun m b x h X g=>by
 obtain⟨hv,h⟩:=ae h;obtain⟨e,rfl,h⟩:=aw h;obtain⟨y,s,p,rfl,h⟩:=lg h;obtain⟨l,r,q,rfl,h⟩:=vV h;obtain⟨h,h3⟩:=ae h;obtain⟨h1,h2⟩:=ae h
 cases ik hv
 exact Mb (aJ .P b _ h1 X g) (Nf .O b _ h2 X g) (Ng .O b _ h3 X g)
theorem Im {a lo hi:C} (aJ:Ok T Γ cl n a) (Nf:Ok T Γ cl n lo) (Ng:Ok T Γ cl n hi):Ok T Γ cl n (.slt a lo hi):=fun m b x h X g=>by
 obtain⟨e,rfl,h⟩:=aw h;obtain⟨hv,h⟩:=ae h;obtain⟨y,s,p,rfl,h⟩:=lg h;obtain⟨l,r,q,rfl,h⟩:=vV h;obtain⟨h,h3⟩:=ae h;obtain⟨h1,h2⟩:=ae h;exact aH hv (Ma (aJ .P b _ h1 X g) (Nf .O b _ h2 X g) (Ng .O b _ h3 X g))
theorem Io {a lo hi:C} (aJ:Ok T Γ cl n a) (Nf:Ok T Γ cl n lo) (Ng:Ok T Γ cl n hi):Ok T Γ cl n (.CQ a lo hi):=fun m b x h X g=>by
 obtain⟨e,rfl,h⟩:=aw h;obtain⟨hv,h⟩:=ae h;obtain⟨y,s,p,rfl,h⟩:=lg h;obtain⟨l,r,q,rfl,h⟩:=vV h;obtain⟨h,h3⟩:=ae h;obtain⟨h1,h2⟩:=ae h;exact aH hv (L9 (aJ .P b _ h1 X g) (Nf .O b _ h2 X g) (Ng .O b _ h3 X g))
theorem Iq {a c:C} (aJ:Ok T Γ cl n a) (cU:Ok T Γ cl n c):Ok T Γ cl n (.cat a c):=fun m b x h X g=>by
 obtain⟨hv,h⟩:=ae h;obtain⟨e,rfl,h⟩:=aw h;obtain⟨l,op,r,p,rfl,h⟩:=w4 h;obtain⟨h,h3⟩:=ae h;obtain⟨h1,h2⟩:=ae h
 cases ik hv
 cases of_decide_eq_true h1
 exact Me (aJ .P b _ h2 X g) (cU .Q b _ h3 X g)
theorem Ir {a c:C} (aJ:Ok T Γ cl n a) (cU:Ok T Γ cl n c):Ok T Γ cl n (.GI a c):=fun m b x h X g=>by
 obtain⟨hv,h⟩:=ae h;obtain⟨e,rfl,h⟩:=aw h;obtain⟨y,es,q,p,rfl,h⟩:=be h;obtain⟨h,h3⟩:=ae h;obtain⟨h1,h2⟩:=ae h;obtain⟨u,rfl,h3⟩:=bB h3;obtain⟨z,us,q',p',rfl,h3⟩:=be h3;obtain⟨h3,h6⟩:=ae h3;obtain⟨h4,h5⟩:=ae h3;obtain⟨s,w,rfl,h6⟩:=jt h6;obtain⟨h6,h9⟩:=ae h6;obtain⟨h6,h8⟩:=ae h6;obtain⟨h6,h7⟩:=ae h6
 cases ik hv
 have hb:=g.bl h2;have qC:=g.bl h5
 cases of_decide_eq_true h1
 cases of_decide_eq_true h4
 exact Mj g.calm hb.1 hb.2 qC.1 qC.2 (aJ .E b _ h8 X g) (cU .E b _ h9 X g) h6 h7
theorem Iu {a:C} (aJ:Ok T Γ cl n a):Ok T Γ cl n (.GJ a):=fun m b x h X g=>by
 obtain⟨hv,h⟩:=ae h;obtain⟨e,rfl,h⟩:=aw h;obtain⟨y,es,q,p,rfl,h⟩:=be h;obtain⟨h,h3⟩:=ae h;obtain⟨h1,h2⟩:=ae h;obtain⟨u,rfl,h3⟩:=bB h3;obtain⟨z,us,q',p',rfl,h3⟩:=be h3;obtain⟨h3,h6⟩:=ae h3;obtain⟨h4,h5⟩:=ae h3;obtain⟨s,rfl,h6⟩:=bB h6
 cases ik hv
 have hb:=g.bl h2;have qC:=g.bl h5
 cases of_decide_eq_true h1
 cases of_decide_eq_true h4
 exact Ml g.calm hb.1 hb.2 qC.1 qC.2 (aJ .E b _ (ae h6).2 X g) (ae h6).1
end
end PV
namespace PV
open PySem L2 SH
section
variable {T:Tb}{Γ:Gm}{cl:Cl}{n:Nat}
theorem Iw {a:C} (aJ:Ok T Γ cl n a):Ok T Γ cl n (.len a):=fun m b x h X g=>by
 obtain⟨e,rfl,h⟩:=aw h;obtain⟨hv,h⟩:=ae h;obtain⟨y,es,q,p,rfl,h⟩:=be h;obtain⟨h,h3⟩:=ae h;obtain⟨h1,h2⟩:=ae h;obtain⟨u,rfl,h3⟩:=bB h3;have hb:=g.bl h2
 cases of_decide_eq_true h1
 exact aH hv (LN hb.1 hb.2 (aJ .Q b _ (ae h3).2 X g) (ae h3).1)
theorem Ix {a:C} (aJ:Ok T Γ cl n a):Ok T Γ cl n (.all a):=fun m b x h X g=>by
 obtain⟨e,rfl,h⟩:=aw h;obtain⟨hv,h⟩:=ae h;obtain⟨y,es,q,p,rfl,h⟩:=be h;obtain⟨h,h3⟩:=ae h;obtain⟨h1,h2⟩:=ae h;obtain⟨u,rfl,h3⟩:=bB h3;have hb:=g.bl h2
 cases of_decide_eq_true h1
 exact aH hv (LQ g.calm hb.1 hb.2 (aJ .Q b _ (ae h3).2 X g) (ae h3).1)
theorem Iy {a:C} (aJ:Ok T Γ cl n a):Ok T Γ cl n (.any a):=fun m b x h X g=>by
 obtain⟨e,rfl,h⟩:=aw h;obtain⟨hv,h⟩:=ae h;obtain⟨y,es,q,p,rfl,h⟩:=be h;obtain⟨h,h3⟩:=ae h;obtain⟨h1,h2⟩:=ae h;obtain⟨u,rfl,h3⟩:=bB h3;have hb:=g.bl h2
 cases of_decide_eq_true h1
 exact aH hv (LR g.calm hb.1 hb.2 (aJ .Q b _ (ae h3).2 X g) (ae h3).1)
theorem Dn {a:C} (aJ:Ok T Γ cl n a):Ok T Γ cl n (.mB a):=fun m b x h X g=>by
 obtain⟨e,rfl,h⟩:=aw h;obtain⟨hv,h⟩:=ae h;obtain⟨y,es,q,p,rfl,h⟩:=be h;obtain⟨h,h3⟩:=ae h;obtain⟨h1,h2⟩:=ae h;obtain⟨u,rfl,h3⟩:=bB h3;have hb:=g.bl h2
 cases of_decide_eq_true h1
 exact aH hv (GV hb.1 hb.2 (aJ .Q b _ (ae h3).2 X g) (ae h3).1)
theorem Iz {a:C} (aJ:Ok T Γ cl n a):Ok T Γ cl n (.yR a):=fun m b x h X g=>by
 obtain⟨e,rfl,h⟩:=aw h;obtain⟨hv,h⟩:=ae h;obtain⟨y,es,q,p,rfl,h⟩:=be h;obtain⟨h,h3⟩:=ae h;obtain⟨h1,h2⟩:=ae h;obtain⟨u,rfl,h3⟩:=bB h3;have hb:=g.bl h2
 cases of_decide_eq_true h1
 exact aH hv (LO hb.1 hb.2 (aJ .Q b _ (ae h3).2 X g) (ae h3).1)
theorem IA {a:C} (aJ:Ok T Γ cl n a):Ok T Γ cl n (.Ec a):=fun m b x h X g=>by
 obtain⟨e,rfl,h⟩:=aw h;obtain⟨hv,h⟩:=ae h;obtain⟨y,es,q,p,rfl,h⟩:=be h;obtain⟨h,h3⟩:=ae h;obtain⟨h1,h2⟩:=ae h;obtain⟨u,rfl,h3⟩:=bB h3;have hb:=g.bl h2
 cases of_decide_eq_true h1
 exact aH hv (LP hb.1 hb.2 (aJ .Q b _ (ae h3).2 X g) (ae h3).1)
theorem IB {a:C} (aJ:Ok T Γ cl n a):Ok T Γ cl n (.yc a):=fun m b x h X g=>by
 obtain⟨e,rfl,h⟩:=aw h;obtain⟨hv,h⟩:=ae h;obtain⟨y,es,q,p,rfl,h⟩:=be h;obtain⟨h,h3⟩:=ae h;obtain⟨h1,h2⟩:=ae h;obtain⟨u,rfl,h3⟩:=bB h3;have hb:=g.bl h2
 cases of_decide_eq_true h1
 exact aH hv (Mh g.calm hb.1 hb.2 (aJ .Q b _ (ae h3).2 X g) (ae h3).1)
theorem Do {a c:C} (aJ:Ok T Γ cl n a) (cU:Ok T Γ cl n c):Ok T Γ cl n (.min2 a c):=fun m b x h X g=>by
 obtain⟨e,rfl,h⟩:=aw h;obtain⟨hv,h⟩:=ae h;obtain⟨y,es,q,p,rfl,h⟩:=be h;obtain⟨h,h3⟩:=ae h;obtain⟨h1,h2⟩:=ae h;obtain⟨u,w,rfl,h3⟩:=jt h3;obtain⟨h3,h6⟩:=ae h3;obtain⟨h3,h5⟩:=ae h3;obtain⟨h3,h4⟩:=ae h3;have hb:=g.bl h2
 cases of_decide_eq_true h1
 exact aH hv (G9 g.calm hb.1 hb.2 (aJ .E b _ h5 X g) (cU .E b _ h6 X g) h3 h4)
theorem Dp {a c:C} (aJ:Ok T Γ cl n a) (cU:Ok T Γ cl n c):Ok T Γ cl n (.max2 a c):=fun m b x h X g=>by
 obtain⟨e,rfl,h⟩:=aw h;obtain⟨hv,h⟩:=ae h;obtain⟨y,es,q,p,rfl,h⟩:=be h;obtain⟨h,h3⟩:=ae h;obtain⟨h1,h2⟩:=ae h;obtain⟨u,w,rfl,h3⟩:=jt h3;obtain⟨h3,h6⟩:=ae h3;obtain⟨h3,h5⟩:=ae h3;obtain⟨h3,h4⟩:=ae h3;have hb:=g.bl h2
 cases of_decide_eq_true h1
 exact aH hv (Ha g.calm hb.1 hb.2 (aJ .E b _ h5 X g) (cU .E b _ h6 X g) h3 h4)
theorem IC {a:C}{t:Nat} (aJ:Ok T Γ cl n a):Ok T Γ cl n (.tV a t):=fun m b x h X g=>by
 obtain⟨e,rfl,h⟩:=aw h;obtain⟨hv,h⟩:=ae h;obtain⟨y,es,q,p,rfl,h⟩:=be h;obtain⟨h,h3⟩:=ae h;obtain⟨h1,h2⟩:=ae h;obtain⟨u,w,rfl,h3⟩:=jt h3;obtain⟨z,q2,rfl,h3⟩:=cD h3;obtain⟨h3,h7⟩:=ae h3;obtain⟨h3,h6⟩:=ae h3;obtain⟨h3,h5⟩:=ae h3;obtain⟨h3,h4⟩:=ae h3;have hb:=g.bl h2;have qC:=g.bl h5
 cases of_decide_eq_true h1
 exact aH hv (Mg (of_decide_eq_true h3) (of_decide_eq_true h4) hb.1 hb.2 qC.1 qC.2 (aJ .Q b _ h7 X g) h6)
theorem IE {a c:C} (aJ:Ok T Γ cl n a) (cU:Ok T Γ cl n c):Ok T Γ cl n (.cnt a c):=fun m b x h X g=>by
 obtain⟨e,rfl,h⟩:=aw h;obtain⟨hv,h⟩:=ae h;obtain⟨o,y,es,q,p,rfl,h⟩:=lh h;obtain⟨h,h4⟩:=ae h;obtain⟨h,h3⟩:=ae h;obtain⟨h1,h2⟩:=ae h;obtain⟨u,rfl,h4⟩:=bB h4;obtain⟨h4,h6⟩:=ae h4;obtain⟨h4,h5⟩:=ae h4
 cases of_decide_eq_true h1
 exact aH hv (Mi (aJ .E b _ h5 X g) (cU .E b _ h6 X g) h2 h4 h3)
theorem Nh {a c:C} (aJ:Ok T Γ cl n a) (cU:Ok T Γ cl n c):Ok T Γ cl n (.ix a c):=fun m b x h X g=>by
 obtain⟨e,rfl,h⟩:=aw h;obtain⟨hv,h⟩:=ae h;obtain⟨y,z,p,rfl,h⟩:=lg h;obtain⟨h,h3⟩:=ae h;obtain⟨h1,h2⟩:=ae h;exact aH hv (QE (aJ .P b _ h2 X g) (cU .E b _ h3 X g) h1)
theorem IF:Ok T Γ cl n .GH:=fun m b x h X g=>by
 obtain⟨e,rfl,h⟩:=aw h;obtain⟨hv,h⟩:=ae h;obtain⟨p,rfl⟩:=HL h;exact aH hv (MF g.F.wl)
theorem IG {a c:C} (aJ:Ok T Γ cl n a) (cU:Ok T Γ cl n c):Ok T Γ cl n (.GK a c):=fun m b x h X g=>by
 obtain⟨e,rfl,h⟩:=aw h;obtain⟨hv,h⟩:=ae h;obtain⟨y,z,p,rfl,h⟩:=lg h;obtain⟨h,h3⟩:=ae h;obtain⟨h1,h2⟩:=ae h;exact aH hv (MG g.F.wl g.JW (aJ .E b _ h2 X g) (cU .E b _ h3 X g) h1)
theorem IH {a c:C} (aJ:Ok T Γ cl n a) (cU:Ok T Γ cl n c):Ok T Γ cl n (.CS a c):=fun m b x h X g=>by
 obtain⟨e,rfl,h⟩:=aw h;obtain⟨hv,h⟩:=ae h;obtain⟨l,op,r,p,rfl,h⟩:=lf h;obtain⟨h,h4⟩:=ae h;obtain⟨h,h3⟩:=ae h;obtain⟨h1,h2⟩:=ae h
 cases of_decide_eq_true h1
 exact f9 hv (MH g.F.wl g.JW (aJ .E b _ h3 X g) (cU .E b _ h4 X g) h2) (MI g.F.wl g.JW (aJ .E b _ h3 X g) (cU .E b _ h4 X g) h2)
theorem II {a:C}{f:Str} (aJ:Ok T Γ cl n a):Ok T Γ cl n (.fld a f):=fun m b x h X g=>by
 obtain⟨e,rfl,h⟩:=aw h;obtain⟨hv,h⟩:=ae h;obtain⟨y,f',p,rfl,h⟩:=vW h;obtain⟨h,h3⟩:=ae h;obtain⟨h1,h2⟩:=ae h
 cases of_decide_eq_true h1
 exact aH hv (Mf g.F.at_ (aJ .Q b _ h3 X g) h2)
theorem Dq {f:Nat}{a:C} (aJ:Ok T Γ cl n a):Ok T Γ cl n (.call f a):=fun m b x h X g=>by
 obtain⟨e,rfl,h⟩:=aw h;obtain⟨hv,h⟩:=ae h;obtain⟨y,es,q,p,rfl,h⟩:=be h;obtain⟨h,h6⟩:=ae h;obtain⟨h,h5⟩:=ae h;obtain⟨h,h4⟩:=ae h;obtain⟨h,h3⟩:=ae h;obtain⟨h1,h2⟩:=ae h
 cases es with
 | nil=>cases h5
 | cons e es=>exact aH hv (s_call g.F g.room (of_decide_eq_true h1) (g.gl h2) (ll h3).1 (aJ .A b _ h6 X g) h4)
theorem vX {X:Cx}{b:Bk}{q:Nat}{a:C}{y:Str}{es:List Expr}{p p':Pos} (aJ:Ok T Γ cl n a) (g:GC T Γ cl n X b) (h:(decide (T.cls[q]? = some y)&&b.gl y&&okN y&&es.all noStar && !es.isEmpty&&aL T a .A b (.es es))=true):PE X (.Call (.Name y p) es [] p') (Mv X.K cl Γ q a):=by
 obtain⟨h,h6⟩:=ae h;obtain⟨h,h5⟩:=ae h;obtain⟨h,h4⟩:=ae h;obtain⟨h,h3⟩:=ae h;obtain⟨h1,h2⟩:=ae h
 cases es with
 | nil=>cases h5
 | cons e es=>exact Mx g.F g.room (of_decide_eq_true h1) (g.gl h2) (ll h3).1 (aJ .A b _ h6 X g) h4
theorem Ni {q:Nat}{a:C} (aJ:Ok T Γ cl n a):Ok T Γ cl n (.mk q a):=fun m b x h X g=>by
 obtain⟨e,rfl,h⟩:=aw h;obtain⟨hv,h⟩:=ae h;obtain⟨y,es,q,p,rfl,h⟩:=be h;exact aH hv (QK (vX aJ g h))
theorem IJ {q:Nat}{a:C} (aJ:Ok T Γ cl n a):Ok T Γ cl n (.JQ q a):=fun m b x h X g=>by
 obtain⟨e,rfl,h⟩:=aw h;obtain⟨hv,h⟩:=ae h;obtain⟨y,es,q,p,rfl,h⟩:=be h;exact aH hv (My (vX aJ g h))
theorem Dr {k:Nat}{r a:C} (HS:Ok T Γ cl n r) (aJ:Ok T Γ cl n a):Ok T Γ cl n (.br k r a):=fun m b x h X g=>by
 obtain⟨e,rfl,h⟩:=aw h;obtain⟨hv,h⟩:=ae h;obtain⟨o,y,es,q,p,rfl,h⟩:=lh h;obtain⟨h,h7⟩:=ae h;obtain⟨h,h6⟩:=ae h;obtain⟨h,h5⟩:=ae h;obtain⟨h,h4⟩:=ae h;obtain⟨h,h3⟩:=ae h;obtain⟨h1,h2⟩:=ae h
 have main:(!es.isEmpty&&aL T a .A b (.es es))=true->Gs X cl Γ (.br k r a) m (.e (.Call (.Attribute o y q) es [] p)):=fun h8=>by
  cases es with
  | nil=>cases (ae h8).1
  | cons e es=>exact aH hv (Hk g.F g.room (of_decide_eq_true h1) (HS .E b _ h6 X g) (aJ .A b _ (ae h8).2 X g) h2 h3 (of_decide_eq_true h4) h5)
 rcases wZ h7 with ⟨rfl,h7⟩ | h7
 ·cases es with
  | nil=>exact aH hv (C2 g.F g.room (of_decide_eq_true h1) (HS .E b _ h6 X g) h2 h5)
  | cons _ _=>cases h7
 ·exact main h7
theorem IK {a:C} (aJ:Ok T Γ cl n a):Ok T Γ cl n (.eH a):=fun m b x h X g=>by
 obtain⟨hv,h⟩:=ae h;obtain⟨tg,e,rfl,h⟩:=qK h
 cases lm hv
 exact Mm (aJ .E b _ h X g)
theorem IL {a:C} (aJ:Ok T Γ cl n a):Ok T Γ cl n (.kP a):=fun m b x h X g=>by
 obtain⟨hv,h⟩:=ae h;obtain⟨tg,e,rfl,h⟩:=qK h;obtain⟨y,es,q,p,rfl,h⟩:=be h;obtain⟨h,h3⟩:=ae h;obtain⟨h1,h2⟩:=ae h;obtain⟨u,rfl,h3⟩:=bB h3
 cases lm hv
 have hb:=g.bl h2
 cases of_decide_eq_true h1
 exact Mn hb.1 hb.2 (aJ .E b _ (ae h3).2 X g) (ae h3).1
theorem IM {a c:C} (aJ:Ok T Γ cl n a) (cU:Ok T Γ cl n c):Ok T Γ cl n (.Eb a c):=fun m b x h X g=>by
 obtain⟨hv,h⟩:=ae h;obtain⟨tg,e,rfl,h⟩:=qK h;obtain⟨y,es,q,p,rfl,h⟩:=be h;obtain⟨h,h3⟩:=ae h;obtain⟨h1,h2⟩:=ae h;obtain⟨u,w,rfl,h3⟩:=jt h3;obtain⟨h3,h6⟩:=ae h3;obtain⟨h3,h5⟩:=ae h3;obtain⟨h3,h4⟩:=ae h3
 cases lm hv
 have hb:=g.bl h2
 cases of_decide_eq_true h1
 exact Mp hb.1 hb.2 (aJ .E b _ h5 X g) (cU .E b _ h6 X g) h3 h4
theorem IN {a:C} (aJ:Ok T Γ cl n a):Ok T Γ cl n (.rev a):=fun m b x h X g=>by
 obtain⟨hv,h⟩:=ae h;obtain⟨tg,e,rfl,h⟩:=qK h;obtain⟨y,es,q,p,rfl,h⟩:=be h;obtain⟨h,h3⟩:=ae h;obtain⟨h1,h2⟩:=ae h;obtain⟨u,rfl,h3⟩:=bB h3;obtain⟨z,us,q',p',rfl,h3⟩:=be h3;obtain⟨h3,h6⟩:=ae h3;obtain⟨h4,h5⟩:=ae h3;obtain⟨s,rfl,h6⟩:=bB h6
 cases lm hv
 have hb:=g.bl h2;have qC:=g.bl h5
 cases of_decide_eq_true h1
 cases of_decide_eq_true h4
 exact Mq hb.1 hb.2 qC.1 qC.2 (aJ .E b _ (ae h6).2 X g) (ae h6).1
theorem AI {tg:Expr} (h:isTup tg=true):∃ es k p,tg=.Tuple es k p:=by
 cases tg<;>first | (cases h;done) | exact⟨_,_,_,rfl⟩
theorem IP {a:C} (aJ:Ok T Γ cl n a):Ok T Γ cl n (.CP a):=fun m b x h X g=>by
 obtain⟨hv,h⟩:=ae h;obtain⟨tg,e,rfl,h⟩:=qK h;obtain⟨h0,h⟩:=ae h;obtain⟨ts,k,p0,rfl⟩:=AI h0;obtain⟨y,es,q,p,rfl,h⟩:=be h;obtain⟨h,h3⟩:=ae h;obtain⟨h1,h2⟩:=ae h;obtain⟨u,rfl,h3⟩:=bB h3
 cases lm hv
 have hb:=g.bl h2
 cases of_decide_eq_true h1
 exact Mr hb.1 hb.2 (aJ .E b _ (ae h3).2 X g) (ae h3).1
theorem IQ {a c:C} (aJ:Ok T Γ cl n a) (cU:Ok T Γ cl n c):Ok T Γ cl n (.zip a c):=fun m b x h X g=>by
 obtain⟨hv,h⟩:=ae h;obtain⟨tg,e,rfl,h⟩:=qK h;obtain⟨h0,h⟩:=ae h;obtain⟨ts,k,p0,rfl⟩:=AI h0;obtain⟨y,es,q,p,rfl,h⟩:=be h;obtain⟨h,h3⟩:=ae h;obtain⟨h1,h2⟩:=ae h;obtain⟨u,w,rfl,h3⟩:=jt h3;obtain⟨h3,h6⟩:=ae h3;obtain⟨h3,h5⟩:=ae h3;obtain⟨h3,h4⟩:=ae h3
 cases lm hv
 have hb:=g.bl h2
 cases of_decide_eq_true h1
 exact Ms hb.1 hb.2 (aJ .E b _ h5 X g) (cU .E b _ h6 X g) h3 h4
theorem nU {iter:Expr}{env:Env} (h:lb iter=true):∀ x,WW iter env x=pure x:=fun x=>by
 cases iter<;>first | rfl | cases h
structure Eo (T:Tb) (Γ:Gm) (cl:Cl) (n:Nat) (X:Cx) (b:Bk) (ci ct ce:C) (w:Nat) (ix:List Nat) (elt tg iter:Expr) (ifs:List Expr) (scope:Scope):Prop where
 go:∃ own g,own.length=w/\bL X.N X.env.scope scope own (ix.map fun i=>b.N.getD i WA) ix/\PI X tg iter (yT X.K cl Γ ci)/\(∀ x,WW iter X.env x=pure x) /\
  (∀ {d:Dt}{ρ:En}{k:En->Prop}{x:V}{σ':St}{f8:St}{Gc Hc:Hp}{R:St->Hp->Prop},wQ ρ w ix d k->Is X.K cl Gc d x->ah Gc Hc->(∃ pre:St,pre.length=w/\σ'=pre++f8) ->
   (∀ ds vs,IsL X.K cl Gc ds vs->ds.length=w->k (ds.map Sl.sh++ix.map (fZ ρ))->R (vs.map some++f8) Hc)->g x σ' Hc R) /\
  ∀ (C:Addr) (s₀:h_) (H₀:Hp) (ex:List Addr) (pn:List (Addr×Obj)),PG (X.comp scope own (ix.map fun i=>b.N.getD i WA) C s₀ H₀ ex pn) tg g/\rG (X.comp scope own (ix.map fun i=>b.N.getD i WA) C s₀ H₀ ex pn) ifs (tt X.K cl Γ ct)/\PE (X.comp scope own (ix.map fun i=>b.N.getD i WA) C s₀ H₀ ex pn) elt (tp X.K cl Γ ce)
theorem AJ {t:C} (h:aL.M6 t=true):t=.b true:=by
 cases t<;>first | exact ff h | skip
 rename_i v;cases v<;>first | rfl | exact ff h
theorem nV {ci ct ce:C}{w:Nat}{ix:List Nat}{X:Cx}{b:Bk}{elt tg iter:Expr}{ifs:List Expr}{scope:Scope} (Nj:Ok T Γ cl n ci) (Ig:Ok T Γ cl n ct) (Nk:Ok T Γ cl n ce) (g:GC T Γ cl n X b)
  (h:(Dj tg fun own=>decide (own.length=w)&&tZ b scope own ix&&lb iter&&aL T ci .I b (.it tg iter)&&Dk ifs (aL.M6 ct) (fun q=>aL T ct .T ⟨own++ix.map fun i=>b.N.getD i WA,scope⟩ (.e q))&&aL T ce .E ⟨own++ix.map fun i=>b.N.getD i WA,scope⟩ (.e elt))=true):Eo T Γ cl n X b ci ct ce w ix elt tg iter ifs scope:=by
 have tail:∀ {own:List Str}{gg:TG},(decide (own.length=w)&&tZ b scope own ix&&lb iter&&aL T ci .I b (.it tg iter)&&Dk ifs (aL.M6 ct) (fun q=>aL T ct .T ⟨own++ix.map fun i=>b.N.getD i WA,scope⟩ (.e q))&&aL T ce .E ⟨own++ix.map fun i=>b.N.getD i WA,scope⟩ (.e elt))=true ->
   (own.length=w->∀ {d:Dt}{ρ:En}{k:En->Prop}{x:V}{σ':St}{f8:St}{Gc Hc:Hp}{R:St->Hp->Prop},wQ ρ w ix d k->Is X.K cl Gc d x->ah Gc Hc->(∃ pre:St,pre.length=w/\σ'=pre++f8) ->
   (∀ ds vs,IsL X.K cl Gc ds vs->ds.length=w->k (ds.map Sl.sh++ix.map (fZ ρ))->R (vs.map some++f8) Hc)->gg x σ' Hc R) ->
   (∀ (C:Addr) (s₀:h_) (H₀:Hp) (ex:List Addr) (pn:List (Addr×Obj)),bL X.N X.env.scope scope own (ix.map fun i=>b.N.getD i WA) ix->PG (X.comp scope own (ix.map fun i=>b.N.getD i WA) C s₀ H₀ ex pn) tg gg)->Eo T Γ cl n X b ci ct ce w ix elt tg iter ifs scope:=fun {own gg} h hg UK=>by
  obtain⟨h,h6⟩:=ae h;obtain⟨h,h5⟩:=ae h;obtain⟨h,h4⟩:=ae h;obtain⟨h,h3⟩:=ae h;obtain⟨h1,h2⟩:=ae h;have hw:=of_decide_eq_true h1;have S:=M8 g h2;refine⟨own,gg,hw,S,Nj .I b _ h4 X g,nU h3,hg hw,fun C s₀ H₀ ex pn=>⟨UK C s₀ H₀ ex pn S,?_,Nk .E _ _ h6 _ g.comp⟩⟩
  match ifs,h5 with
  | [],h5 =>
   cases AJ h5
   exact fun pins s σ H Q I q=>tD pins s σ H Q I (AA q)
  | [q],h5=>exact tE (Ig .T _ _ h5 _ g.comp)
 have lk:∀ {own aV:List Str}{C:Addr}{s₀:h_}{H₀:Hp}{ex:List Addr}{pn:List (Addr×Obj)}{y:Str},scope.names.lookup y=some .local->Loc (X.comp scope own aV C s₀ H₀ ex pn).env.scope y:=fun {own aV C s₀ H₀ ex pn y} q=>by
  rcases aB (env:=X.env) q with z | ⟨z,_⟩
  ·exact .inl z
  ·cases z
 rcases w6 h with ⟨y,p,rfl,h⟩ | ⟨y,z,p1,p2,j,p,rfl,h⟩
 ·refine tail (gg:=dF 0) h (fun hw=>?_) fun C s₀ H₀ ex pn S=>?_
  ·subst hw;exact Ej
  ·exact jS S.nd rfl (lk (S.FW y (by simp))) (.inl (by show abd [y] y=true;simp))
 ·refine tail (gg:=zb X.K 2 (jT (dF 0) (jT (dF 1) za))) h (fun hw=>?_) fun C s₀ H₀ ex pn S=>?_
  ·subst hw;exact MA
  ·exact zY (X:=X.comp scope [y,z] _ C s₀ H₀ ex pn) g.calm S.nd rfl rfl (lk (S.FW y (by simp))) (lk (S.FW z (by simp))) (.inl (by show abd [y,z] y=true;simp)) (.inl (by show abd [y,z] z=true;simp))
theorem Ds {ci ct ce:C}{w:Nat}{ix:List Nat} (Nj:Ok T Γ cl n ci) (Ig:Ok T Γ cl n ct) (Nk:Ok T Γ cl n ce):Ok T Γ cl n (.comp ci w ix ct ce):=fun m b x h X g=>by
 obtain⟨hv,h⟩:=ae h;obtain⟨e,rfl,h⟩:=aw h;obtain⟨elt,tg,iter,ifs,scope,p,rfl,h⟩:=rV h
 cases ik hv
 obtain⟨own,gg,hw,S,hi,hs,hg,hb⟩:=(nV Nj Ig Nk g h).go;exact (Cs g.calm S hi hb hs).imp fun σ H Q q=>mW hw hg q
theorem Du {ci ct ce:C}{ix:List Nat} (Nj:Ok T Γ cl n ci) (Ig:Ok T Γ cl n ct) (Nk:Ok T Γ cl n ce):Ok T Γ cl n (.yq ci ix ct ce):=fun m b x h X g=>by
 obtain⟨hv,h⟩:=ae h;obtain⟨e,rfl,h⟩:=aw h;obtain⟨elt,tg,iter,ifs,scope,p,rfl,h⟩:=rV h;obtain⟨x0,p0,rfl,h⟩:=cD h;obtain⟨h,h5⟩:=ae h;obtain⟨h,h4⟩:=ae h;obtain⟨h,h3⟩:=ae h;obtain⟨h1,h2⟩:=ae h
 cases ik hv
 obtain⟨S,hx⟩:=HP g h1;refine (z6 g.calm S (Nj .I b _ h3 X g) (ti:=tt X.K cl Γ ct) (te:=tp X.K cl Γ ce) (g:=dF 0) (fun C c0 s₀ H₀ ex pn=>⟨?_,?_,Nk .E _ _ h5 _ g.bE⟩) (nU h2)).imp fun σ H Q q=>mW (own:=[x0]) (w:=1) rfl Ej (by obtain⟨B,ρ,M,G,R,h1,h2,h3⟩:=q;exact⟨B,ρ,M,G,R,h1,h2,h3⟩)
 ·refine jS S.nd rfl (.inr ?_) (.inl (by show (x0==x0)=true;simp));rcases aB (env:=X.env) hx with z | ⟨z,_⟩
  ·exact z
  ·cases z
 ·match ifs,h4 with
  | [],h4 =>
   cases AJ h4
   exact fun pins s σ H Q I q=>tD pins s σ H Q I (AA q)
  | [q],h4=>exact tE (Ig .T _ _ h4 _ g.bE)
theorem sound:∀ c:C,Ok T Γ cl n c:=fun c=>by
 induction c with
 | i k=>exact Q0 k
 | s k=>exact Q5 k
 | b k=>exact Q6 k
 | n=>exact Q7
 | v k=>exact Q8 k
 | o k=>exact Q9 k
 | d c h=>exact Ra h
 | g k=>exact Rb k
 | nil=>exact HQ
 | cons a r h1 h2=>exact Dm h1 h2
 | bin o a b h1 h2=>exact HU h1 h2
 | neg a h=>exact HV h
 | cmp o a b h1 h2=>exact HW h1 h2
 | Ab o1 o2 a b c h1 h2 h3=>exact HX h1 h2 h3
 | eq ng a b h1 h2=>exact M9 h1 h2
 | wP ng a b h1 h2=>exact HY h1 h2
 | ins a b h1 h2=>exact HZ h1 h2
 | ind a b h1 h2=>exact H9 h1 h2
 | one a h=>exact Ia h
 | and a b h1 h2=>exact Ib h1 h2
 | or a b h1 h2=>exact Na h1 h2
 | not a h=>exact Ic h
 | tr a h=>exact Nb h
 | GG t a b h1 h2 h3=>exact Ie h1 h2 h3
 | tup a h=>exact Ih h
 | fr a h=>exact Nc h
 | CO a h=>exact Ii h
 | GH=>exact IF
 | jd a h=>exact Ij h
 | yQ a h=>exact Ik h
 | Ac a l r h1 h2 h3=>exact Il h1 h2 h3
 | cat a b h1 h2=>exact Iq h1 h2
 | GI a b h1 h2=>exact Ir h1 h2
 | GJ a h=>exact Iu h
 | comp it w ix t e h1 h2 h3=>exact Ds h1 h2 h3
 | yq it ix t e h1 h2 h3=>exact Du h1 h2 h3
 | eH a h=>exact IK h
 | kP a h=>exact IL h
 | Eb a b h1 h2=>exact IM h1 h2
 | rev a h=>exact IN h
 | CP a h=>exact IP h
 | zip a b h1 h2=>exact IQ h1 h2
 | ix a b h1 h2=>exact Nh h1 h2
 | slt a l r h1 h2 h3=>exact Im h1 h2 h3
 | CQ a l r h1 h2 h3=>exact Io h1 h2 h3
 | fld a f h=>exact II h
 | call f a h=>exact Dq h
 | br k r a h1 h2=>exact Dr h1 h2
 | mk q a h=>exact Ni h
 | JQ q a h=>exact IJ h
 | len a h=>exact Iw h
 | tV a t h=>exact IC h
 | all a h=>exact Ix h
 | any a h=>exact Iy h
 | mB a h=>exact Dn h
 | min2 a b h1 h2=>exact Do h1 h2
 | max2 a b h1 h2=>exact Dp h1 h2
 | yR a h=>exact Iz h
 | Ec a h=>exact IA h
 | cnt a b h1 h2=>exact IE h1 h2
 | yc a h=>exact IB h
 | CS a c h1 h2=>exact IH h1 h2
 | GK a c h1 h2=>exact IG h1 h2
end
end PV
namespace PV
open PySem L2 SH
noncomputable def Bk.loc (b:Bk) (k:Nat) (x:Str):Bool:=decide (b.N[k]? = some x)&&decide (b.lk x=some .local∨b.lk x=some .cell)
noncomputable def ln:Expr->Bool
 | .ListComp _ _ _ _=>false
 | .SetComp _ _ _ _=>false
 | .DictComp _ _ _ _ _=>false
 | _=>true
noncomputable def Nl (b:Bk) (x:Str) (p:Pos) (v:Expr):Bool:=match v with
 | .ListComp _ _ s q=>b.lk x==some .local&&p.line==q.line && !(s.names.any fun (n,k)=>n==x&&(k==.local||k==.cell))
 | _=>false
noncomputable def Nm:Expr->Bool
 | .ListComp _ _ _ _=>true
 | _=>false
noncomputable def rW (bx:List Stmt) (k:Stmt->Bool):Bool:=match bx with | [s]=>k s | _=>false
noncomputable def Rc (bx:List Stmt) (k:Stmt->List Stmt->Bool):Bool:=match bx with | s::r=>k s r | _=>false
noncomputable def OH (s:Stmt) (k:Expr->Expr->Bool):Bool:=match s with | .Assign ts v _=>(match ts with | [t]=>k t v | _=>false) | _=>false
noncomputable def UL (e:Expr) (k:Str->Pos->Bool):Bool:=match e with | .Name x p=>k x p | _=>false
noncomputable def OI (s:Stmt) (k:Str->Pos->Expr->Bool):Bool:=OH s fun t v=>UL t fun x p=>k x p v
noncomputable def JX (s:Stmt) (k:Expr->Bool):Bool:=match s with | .Expr e _=>k e | _=>false
noncomputable def SG (s:Stmt) (k:Str->YQ->Expr->Bool):Bool:=match s with | .AugAssign t o v _=>vT t fun x=>k x o v | _=>false
noncomputable def Re (s:Stmt) (k:k_ Expr->Bool):Bool:=match s with | .Return e _=>k e | _=>false
noncomputable def SI (s:Stmt) (k:Expr->List Stmt->List Stmt->Bool):Bool:=match s with | .If t a b _=>k t a b | _=>false
noncomputable def SJ (s:Stmt) (k:Expr->Expr->List Stmt->Bool):Bool:=match s with | .For t i b el _=>(match el with | []=>k t i b | _::_=>false) | _=>false
noncomputable def SK (s:Stmt) (k:Expr->List Stmt->Bool):Bool:=match s with | .While t b el _=>(match el with | []=>k t b | _::_=>false) | _=>false
noncomputable def SL (b:Bk) (ii:Bool) (tg:Expr) (ts:List Nat):Bool:=Dj tg fun xs=>match xs,ts with
 | [x],[i]=>b.loc i x&&(!ii||decide (i≠0))
 | [x,y],[i,j]=>b.loc i x&&b.loc j y&&(!ii||(decide (i≠0)&&decide (j≠0)))
 | _,_=>false
noncomputable def Nn (a:S) (k1:Nat->Bool) (k2:Bool):Bool:=match a with | .eM k=>k1 k | _=>k2
noncomputable def No (c:C):Bool:=match c with | .comp _ _ _ _ _=>true | _=>false
noncomputable def Rf (c:C):Bool:=match c with | .fr f=>No f | _=>false
section
variable (T:Tb) (ii:Bool)
noncomputable def k0 (k:Nat):Bool := !ii||decide (k≠0)
noncomputable def setB (b:Bk) (x:Str) (p:Pos) (v:Expr) (cs:Bool):Bool:=ln v||(Nm v&&(if Nl b x p v then cs else true))
noncomputable def hG:S->Bool->Bk->List Stmt->Bool
 | .skip,one,_,bx=>if one then rW bx fun s=>(match s with | .Pass _=>true | _=>false) else bx.isEmpty
 | .seq a r,one,b,bx => !one&&Nn a (fun k=>decide (k≠0)&&hG r false b bx) (Rc bx fun s rest=>hG a true b [s]&&hG r false b rest)
 | .set k c,one,b,bx=>one&&rW bx fun s=>OI s fun x p v=>k0 ii k&&b.loc k x&&setB b x p v (Rf c)&&aL T c .E b (.e v)
 | .fL k c,one,b,bx=>one&&rW bx fun s=>OI s fun x p v=>k0 ii k&&b.loc k x&&setB b x p v (No c)&&aL T c .F b (.e v)
 | .yr k q c,one,b,bx=>one&&rW bx fun s=>OI s fun x _ v=>k0 ii k&&b.loc k x&&ln v&&lY v fun y es=>decide (T.cls[q]? = some y)&&b.gl y&&okN y&&es.all noStar && !es.isEmpty&&aL T c .A b (.es es)
 | .eM _,_,_,_=>false
 | .app k c,one,b,bx=>one&&rW bx fun s=>JX s fun e=>HB e fun o y es q p=>decide (y = "append")&&qJ q p&&(vT o fun x=>b.at_ k x)&&pH es fun u=>noStar u&&aL T c .E b (.e u)
 | .ext k c,one,b,bx=>one&&rW bx fun s=>JX s fun e=>HB e fun o y es q p=>decide (y = "extend")&&qJ q p&&(vT o fun x=>b.at_ k x)&&pH es fun u=>noStar u&&aL T c .E b (.e u)
 | .GL a c,one,b,bx=>one&&rW bx fun s=>JX s fun e=>HB e fun o y es q p=>decide (y = "append")&&qJ q p&&cY o&&pH es fun u=>noStar u&&aL T a .E b (.e o)&&aL T c .E b (.e u)
 | .Lv a k c,one,b,bx=>one&&rW bx fun s=>OH s fun t v=>ln v&&HA t fun o i=>aL T a .E b (.e o)&&aL T k .E b (.e i)&&aL T c .E b (.e v)
 | .eI k f c,one,b,bx=>one&&rW bx fun s=>OH s fun t v=>ln v&&OF t fun o g _=>decide (g=f)&&(vT o fun x=>b.at_ k x)&&aL T c .E b (.e v)
 | .aug k op c,one,b,bx=>one&&rW bx fun s=>SG s fun x o v=>k0 ii k&&b.loc k x&&decide (o=GP op)&&(match op with | .add=>true | .sub=>true | _=>false)&&aL T c .E b (.e v)
 | .ex c,one,b,bx=>one&&rW bx fun s=>JX s fun e=>ln e&&aL T c .E b (.e e)
 | .bA q c,one,b,bx=>one&&rW bx fun s=>JX s fun e=>HB e fun o y es u p=>decide (y = "__init__")&&qJ u p&&(vT o fun x=>decide (T.cls[q]? = some x)&&b.gl x&&okN x)&&T.pG.contains q&&HC es fun sf es=>(vT sf fun x=>b.at_ 0 x)&&es.all noStar&&decide (es.length<20)&&aL T c .A b (.es es)
 | .ret c,one,b,bx=>one&&rW bx fun s=>Re s fun e=>(match e with | some e=>aL T c .E b (.e e) | none=>false)
 | .Ad,one,_,bx=>one&&rW bx fun s=>Re s fun e=>(match e with | some _=>false | none=>true)
 | .brk,one,_,bx=>one&&rW bx fun s=>(match s with | .Break _=>true | _=>false)
 | .cont,_,_,_=>false
 | .never,one,_,_=>one
 | .ite t a c,one,b,bx=>one&&rW bx fun s=>SI s fun e x y=>aL T t .T b (.e e)&&hG a false b x&&hG c false b y
 | .bQ it ts a,one,b,bx=>one&&rW bx fun s=>SJ s fun tg e x=>SL b ii tg ts&&lb e&&aL T it .I b (.it tg e)&&hG a false b x
 | .JR t a,one,b,bx=>one&&rW bx fun s=>SK s fun e x=>aL T t .T b (.e e)&&hG a false b x
end
section
variable {bx:List Stmt}{s:Stmt}
theorem IR {k:Stmt->List Stmt->Bool} (h:Rc bx k=true):∃ s r,bx=s::r/\k s r=true:=by cases bx<;>first | exact⟨_,_,rfl,h⟩ | cases h
def UM (s:Stmt) (k:Expr->Expr->Bool):Prop:=∃ t v p,s=.Assign [t] v p/\k t v=true
theorem vY {k:Expr->Expr->Bool} (h:OH s k=true):UM s k:=by
 cases s<;>first | exact ff h | skip
 rename_i ts v p;rcases ts with _ | ⟨_,_ | ⟨_,_⟩⟩<;>first | exact⟨_,_,_,rfl,h⟩ | cases h
theorem vZ {k:Str->Pos->Expr->Bool} (h:OI s k=true):∃ x q v p,s=.Assign [.Name x q] v p/\k x q v=true:=by
 obtain⟨t,v,p,rfl,h2⟩:=vY h
 cases t<;>first | exact⟨_,_,_,_,rfl,h2⟩ | cases h2
def UN (s:Stmt) (k:Expr->Bool):Prop:=∃ e p,s=.Expr e p/\k e=true
theorem nW {k:Expr->Bool} (h:JX s k=true):UN s k:=by cases s<;>first | exact⟨_,_,rfl,h⟩ | exact ff h
def UO (s:Stmt) (k:Str->YQ->Expr->Bool):Prop:=∃ x q o v p,s=.AugAssign (.Name x q) o v p/\k x o v=true
theorem IS {k:Str->YQ->Expr->Bool} (h:SG s k=true):UO s k:=by
 cases s<;>first | exact ff h | skip
 obtain⟨x,q,rfl,h⟩:=cD h;exact⟨_,_,_,_,_,rfl,h⟩
def UP (s:Stmt) (k:k_ Expr->Bool):Prop:=∃ e p,s=.Return e p/\k e=true
theorem AK {k:k_ Expr->Bool} (h:Re s k=true):UP s k:=by cases s<;>first | exact⟨_,_,rfl,h⟩ | exact ff h
def UQ (s:Stmt) (k:Expr->List Stmt->List Stmt->Bool):Prop:=∃ t a b p,s=.If t a b p/\k t a b=true
theorem IT {k:Expr->List Stmt->List Stmt->Bool} (h:SI s k=true):UQ s k:=by cases s<;>first | exact⟨_,_,_,_,rfl,h⟩ | exact ff h
def UR (s:Stmt) (k:Expr->Expr->List Stmt->Bool):Prop:=∃ t i b p,s=.For t i b [] p/\k t i b=true
theorem IU {k:Expr->Expr->List Stmt->Bool} (h:SJ s k=true):UR s k:=by
 cases s<;>first | exact ff h | skip
 rename_i t i b el p
 cases el<;>first | exact⟨_,_,_,_,rfl,h⟩ | cases h
def US (s:Stmt) (k:Expr->List Stmt->Bool):Prop:=∃ t b p,s=.While t b [] p/\k t b=true
theorem IV {k:Expr->List Stmt->Bool} (h:SK s k=true):US s k:=by
 cases s<;>first | exact ff h | skip
 rename_i t b el p
 cases el<;>first | exact⟨_,_,_,rfl,h⟩ | cases h
end
structure GD (T:Tb) (Γ:Gm) (cl:Cl) (n:Nat) (X:Cx) (b:Bk):Prop extends GC T Γ cl n X b where
 sc:X.env.scope=b.sc
 kind:b.sc.kind=.function
 fn:∀ x,X.fn x=true
 nd:X.N.Nodup
 po:aa2 (model X.prog X.w) X.A X.env X.xe
section
variable {T:Tb}{Γ:Gm}{cl:Cl}{n:Nat}{ii:Bool}{X:Cx}{b:Bk}{e v:Expr}
theorem iY {tg:k_ Expr}{l:Nat}{env:Env} (h:ln e=true):Xd e tg l env=pure false:=by
 cases e<;>first | rfl | cases h
theorem kg {k:Nat} (h:k0 ii k=true):ii=true->k≠0:=fun hi=>by
 subst hi;unfold k0 at h;simpa using h
theorem GD.lc (g:GD T Γ cl n X b) {k:Nat}{x:Str} (h:b.loc k x=true):X.N[k]? = some x/\Loc X.env.scope x:=by
 obtain⟨h1,h2⟩:=ae h;refine⟨by rw[g.hN];exact of_decide_eq_true h1,?_⟩;rcases of_decide_eq_true h2 with q | q
 ·exact .inl (g.loc x q)
 ·exact .inr (g.HM x q)
theorem GD.sw (g:GD T Γ cl n X b) {x:Str}{p:Pos}{l:Nat} (h:Nm v=true):Xd v (some (.Name x p)) l X.env=pure (Nl b x p v):=by
 cases v<;>first | (cases h;done) | skip
 rename_i elt gens s q
 have hb:X.env.blockKind=.function:=by
  unfold Env.blockKind;rw[g.sc,g.kind];rfl
 unfold Xd Nl;show pure (X.env.blockKind==.function&&X.env.kindOf x==some .local&&p.line==q.line && !(s.names.any fun (n,k)=>n==x&&(k==.local||k==.cell)))=_;rw[hb];unfold Env.kindOf Bk.lk;rw[g.sc];rfl
def SM (T:Tb) (Γ:Gm) (cl:Cl) (n:Nat) (ii:Bool) (s:S):Prop:=∀ (b:Bk) (X:Cx),GD T Γ cl n X b->(∀ bx,hG T ii s false b bx=true->lL X bx (tS X.K cl Γ ii s))/\∀ st,hG T ii s true b [st]=true->PS X st (tS X.K cl Γ ii s)
theorem k_one {o:Bool}{st:Stmt}{k:Stmt->Bool} (h:(o&&rW [st] k)=true):k st=true:=(ae h).2
theorem fO {s:S} (h0:∀ b bx,hG T ii s false b bx=true->False) (h:∀ b X st,GD T Γ cl n X b->hG T ii s true b [st]=true->PS X st (tS X.K cl Γ ii s)):SM T Γ cl n ii s:=fun b X g=>⟨fun bx q=>(h0 b bx q).elim,fun st q=>h b X st g q⟩
def oC (c:C):Prop:=∃ it w ix t e,c=.comp it w ix t e
theorem AL {c:C} (h:No c=true):oC c:=by cases c<;>first | exact⟨_,_,_,_,_,rfl⟩ | exact ff h
def UT (c:C):Prop:=∃ f,c=.fr f/\No f=true
theorem IW {c:C} (h:Rf c=true):UT c:=by cases c<;>first | exact⟨_,rfl,h⟩ | exact ff h
theorem Dv {k:Nat}{c:C}{x:Str}{q p:Pos} (g:GD T Γ cl n X b) (h1:k0 ii k=true) (h2:b.loc k x=true) (h3:setB b x q v (Rf c)=true) (h4:aL T c .E b (.e v)=true):PS X (.Assign [.Name x q] v p) (tS X.K cl Γ ii (.set k c)):=by
 obtain⟨l1,l2⟩:=g.lc h2;have he:=sound (Γ:=Γ) (cl:=cl) (n:=n) c .E b _ h4 X g.toGC;unfold setB at h3;rw[acj] at h3;rcases h3 with h3 | h3
 ·exact El g.nd l1 l2 (g.fn x) (kg h1) (iY h3) he
 ·obtain⟨h5,h6⟩:=ae h3;have sw:=g.sw (x:=x) (p:=q) (l:=p.line) h5
  cases e:Nl b x q v with
  | false=>rw[e] at sw;exact El g.nd l1 l2 (g.fn x) (kg h1) sw he
  | true =>
   rw[e] at sw h6;rw[w_ rfl] at h6;obtain⟨f,rfl,h7⟩:=IW h6;obtain⟨_,_,_,_,_,rfl⟩:=AL h7;obtain⟨e',e1,h4⟩:=aw h4
   cases e1
   obtain⟨_,h4⟩:=ae h4;obtain⟨_,h4⟩:=ae h4;obtain⟨e',e1,h4⟩:=aw h4
   cases e1
   obtain⟨elt,tg,iter,ifs,scope,p',rfl,h4⟩:=rV h4;obtain⟨own,gg,hw,S,hi,hs,hg,hb⟩:=(nV (sound _) (sound _) (sound _) g.toGC h4).go;exact (wY hw hg g.calm g.nd l1 l2 (g.fn x) (kg h1) S hi hb sw hs).2
theorem AN {k:Nat}{c:C}{x:Str}{q p:Pos} (g:GD T Γ cl n X b) (h1:k0 ii k=true) (h2:b.loc k x=true) (h3:setB b x q v (No c)=true) (h4:aL T c .F b (.e v)=true):PS X (.Assign [.Name x q] v p) (tS X.K cl Γ ii (.fL k c)):=by
 obtain⟨l1,l2⟩:=g.lc h2;have he:=sound (Γ:=Γ) (cl:=cl) (n:=n) c .F b _ h4 X g.toGC;unfold setB at h3;rw[acj] at h3;rcases h3 with h3 | h3
 ·exact AC g.nd l1 l2 (g.fn x) (kg h1) (iY h3) he
 ·obtain⟨h5,h6⟩:=ae h3;have sw:=g.sw (x:=x) (p:=q) (l:=p.line) h5
  cases e:Nl b x q v with
  | false=>rw[e] at sw;exact AC g.nd l1 l2 (g.fn x) (kg h1) sw he
  | true =>
   rw[e] at sw h6;rw[w_ rfl] at h6;obtain⟨_,_,_,_,_,rfl⟩:=AL h6;obtain⟨_,h4⟩:=ae h4;obtain⟨e',e1,h4⟩:=aw h4
   cases e1
   obtain⟨elt,tg,iter,ifs,scope,p',rfl,h4⟩:=rV h4;obtain⟨own,gg,hw,S,hi,hs,hg,hb⟩:=(nV (sound _) (sound _) (sound _) g.toGC h4).go;exact (wY hw hg g.calm g.nd l1 l2 (g.fn x) (kg h1) S hi hb sw hs).1
theorem IY {tg:Expr}{ts:List Nat} (g:GD T Γ cl n X b) (h:SL b ii tg ts=true):∃ gg,PG X tg gg/\De X.K cl ii ts gg:=by
 rcases w6 h with ⟨y,p,rfl,h⟩ | ⟨y,z,p1,p2,j,p,rfl,h⟩
 ·rcases ts with _ | ⟨_,_ | ⟨_,_⟩⟩<;>first | (cases h;done) | skip
  obtain⟨h1,h2⟩:=ae h;obtain⟨l1,l2⟩:=g.lc h1;exact⟨_,jS g.nd l1 l2 (.inl (g.fn _)),Hr (kg h2)⟩
 ·rcases ts with _ | ⟨_,_ | ⟨_,_ | ⟨_,_⟩⟩⟩<;>first | (cases h;done) | skip
  obtain⟨h1,h3⟩:=ae h;obtain⟨h1,h2⟩:=ae h1;obtain⟨l1,l2⟩:=g.lc h1;obtain⟨l3,l4⟩:=g.lc h2;refine⟨_,zY g.calm g.nd l1 l3 l2 l4 (.inl (g.fn _)) (.inl (g.fn _)),Hs (fun hi=>?_) (fun hi=>?_)⟩
  ·subst hi;simp at h3;exact h3.1
  ·subst hi;simp at h3;exact h3.2
def UU (a:S) (k1:Nat->Bool) (k2:Bool):Prop:=(∃ k,a=.eM k/\k1 k=true)∨k2=true
theorem Dw {a:S}{k1:Nat->Bool}{k2:Bool} (h:Nn a k1 k2=true):UU a k1 k2:=by cases a<;>first | exact .inr h | exact .inl ⟨_,rfl,h⟩
def IZ (s:Stmt):Prop:=∃ p,s=.Pass p
theorem Dx {s:Stmt} (h:(match s with | .Pass _=>true | _=>false)=true):IZ s:=by cases s<;>first | exact⟨_,rfl⟩ | exact ff h
def Np (s:Stmt):Prop:=∃ p,s=.Break p
theorem Ja {s:Stmt} (h:(match s with | .Break _=>true | _=>false)=true):Np s:=by cases s<;>first | exact⟨_,rfl⟩ | exact ff h
theorem Jb:∀ s:S,SM T Γ cl n ii s:=fun s=>by
 induction s with
 | skip =>
  intro b X g;refine⟨fun bx h=>?_,fun st h=>?_⟩
  ·cases bx with
   | nil=>exact Hm
   | cons _ _=>cases h
  ·obtain⟨p,rfl⟩:=Dx h;exact Hq
 | seq a r aJ HS =>
  intro b X g;refine⟨fun bx h=>?_,fun st h=>by cases (ae h).1⟩;obtain⟨_,h⟩:=ae h
  have main:(Rc bx fun s rest=>hG T ii a true b [s]&&hG T ii r false b rest)=true->lL X bx (tS X.K cl Γ ii (.seq a r)):=fun h=>by
   obtain⟨s,rest,rfl,h⟩:=IR h;exact ML ((aJ b X g).2 s (ae h).1) ((HS b X g).1 rest (ae h).2)
  rcases Dw h with ⟨k,rfl,h⟩ | h
  ·exact MM (of_decide_eq_true (ae h).1) ((HS b X g).1 bx (ae h).2)
  ·exact main h
 | set k c =>
  refine fO (fun b bx h=>by cases (ae h).1) fun b X st g h=>?_
  have h':=k_one h;clear h;obtain⟨x,q,v,p,rfl,h⟩:=vZ h';clear h';obtain⟨h,h4⟩:=ae h;obtain⟨h,h3⟩:=ae h;obtain⟨h1,h2⟩:=ae h;exact Dv g h1 h2 h3 h4
 | fL k c =>
  refine fO (fun b bx h=>by cases (ae h).1) fun b X st g h=>?_
  have h':=k_one h;clear h;obtain⟨x,q,v,p,rfl,h⟩:=vZ h';clear h';obtain⟨h,h4⟩:=ae h;obtain⟨h,h3⟩:=ae h;obtain⟨h1,h2⟩:=ae h;exact AN g h1 h2 h3 h4
 | yr k q c =>
  refine fO (fun b bx h=>by cases (ae h).1) fun b X st g h=>?_
  have h':=k_one h;clear h;obtain⟨x,q',v,p,rfl,h⟩:=vZ h';clear h';obtain⟨h,h4⟩:=ae h;obtain⟨h,h3⟩:=ae h;obtain⟨h1,h2⟩:=ae h;obtain⟨y,es,q2,p2,rfl,h4⟩:=be h4;obtain⟨l1,l2⟩:=g.lc h2;exact Hn g.nd l1 l2 (g.fn x) (kg h1) (iY h3) (vX (sound c) g.toGC h4)
 | eM k=>exact fO (fun b bx h=>by cases h) fun b X st g h=>by cases h
 | app k c =>
  refine fO (fun b bx h=>by cases (ae h).1) fun b X st g h=>?_
  have h':=k_one h;clear h;obtain⟨e,p,rfl,h⟩:=nW h';clear h';obtain⟨o,y,es,q,p',rfl,h⟩:=lh h;obtain⟨h,h4⟩:=ae h;obtain⟨h,h3⟩:=ae h;obtain⟨h1,h2⟩:=ae h;obtain⟨x,p2,rfl,h3⟩:=cD h3;obtain⟨u,rfl,h4⟩:=bB h4;obtain⟨n1,n2,n3,n4⟩:=g.nm h3
  cases of_decide_eq_true h1
  exact MT n1 n2 n3 n4 (sound c .E b _ (ae h4).2 X g.toGC) (ae h4).1 h2
 | ext k c =>
  refine fO (fun b bx h=>by cases (ae h).1) fun b X st g h=>?_
  have h':=k_one h;clear h;obtain⟨e,p,rfl,h⟩:=nW h';clear h';obtain⟨o,y,es,q,p',rfl,h⟩:=lh h;obtain⟨h,h4⟩:=ae h;obtain⟨h,h3⟩:=ae h;obtain⟨h1,h2⟩:=ae h;obtain⟨x,p2,rfl,h3⟩:=cD h3;obtain⟨u,rfl,h4⟩:=bB h4;obtain⟨n1,n2,n3,n4⟩:=g.nm h3
  cases of_decide_eq_true h1
  exact MU n1 n2 n3 n4 (sound c .E b _ (ae h4).2 X g.toGC) (ae h4).1 h2
 | GL a c =>
  refine fO (fun b bx h=>by cases (ae h).1) fun b X st g h=>?_
  have h':=k_one h;clear h;obtain⟨e,p,rfl,h⟩:=nW h';clear h';obtain⟨o,y,es,q,p',rfl,h⟩:=lh h;obtain⟨h,h4⟩:=ae h;obtain⟨h,h3⟩:=ae h;obtain⟨h1,h2⟩:=ae h;obtain⟨u,rfl,h4⟩:=bB h4;obtain⟨h4,h6⟩:=ae h4;obtain⟨h4,h5⟩:=ae h4
  cases of_decide_eq_true h1
  exact MX (sound a .E b _ h5 X g.toGC) (sound c .E b _ h6 X g.toGC) h3 h4 h2
 | Lv a k c =>
  refine fO (fun b bx h=>by cases (ae h).1) fun b X st g h=>?_
  have h':=k_one h;clear h;obtain⟨t,v,p,rfl,h⟩:=vY h';clear h';obtain⟨h1,h⟩:=ae h;obtain⟨o,i,q,rfl,h⟩:=lg h;obtain⟨h,h4⟩:=ae h;obtain⟨h2,h3⟩:=ae h;exact MY g.F.wl g.JW (sound a .E b _ h2 X g.toGC) (sound k .E b _ h3 X g.toGC) (sound c .E b _ h4 X g.toGC) (iY h1)
 | eI k f c =>
  refine fO (fun b bx h=>by cases (ae h).1) fun b X st g h=>?_
  have h':=k_one h;clear h;obtain⟨t,v,p,rfl,h⟩:=vY h';clear h';obtain⟨h0,h⟩:=ae h;obtain⟨o,f',p2,rfl,h⟩:=vW h;obtain⟨h,h3⟩:=ae h;obtain⟨h1,h2⟩:=ae h;obtain⟨x,p3,rfl,h2⟩:=cD h2;obtain⟨n1,n2,n3,n4⟩:=g.nm h2
  cases of_decide_eq_true h1
  exact Hu g.F.at_ n1 n2 n3 n4 (iY h0) (sound c .E b _ h3 X g.toGC)
 | aug k op c =>
  refine fO (fun b bx h=>by cases (ae h).1) fun b X st g h=>?_
  have h':=k_one h;clear h;obtain⟨x,q,o,v,p,rfl,h⟩:=IS h';clear h';obtain⟨h,h5⟩:=ae h;obtain⟨h,h4⟩:=ae h;obtain⟨h,h3⟩:=ae h;obtain⟨h1,h2⟩:=ae h;obtain⟨l1,l2⟩:=g.lc h2
  cases of_decide_eq_true h3
  refine MS ?_ g.nd l1 l2 (g.fn x) (kg h1) (sound c .E b _ h5 X g.toGC)
  cases op<;>first | exact .inl rfl | exact .inr rfl | cases h4
 | ex c =>
  refine fO (fun b bx h=>by cases (ae h).1) fun b X st g h=>?_
  have h':=k_one h;clear h;obtain⟨e,p,rfl,h⟩:=nW h';clear h';exact QR (iY (ae h).1) (sound c .E b _ (ae h).2 X g.toGC)
 | bA q c =>
  refine fO (fun b bx h=>by cases (ae h).1) fun b X st g h=>?_
  have h':=k_one h;clear h;obtain⟨e,p,rfl,h⟩:=nW h';clear h';obtain⟨o,y,es,u,p',rfl,h⟩:=lh h;obtain⟨h,h5⟩:=ae h;obtain⟨h,h4⟩:=ae h;obtain⟨h,h3⟩:=ae h;obtain⟨h1,h2⟩:=ae h;obtain⟨x,p2,rfl,h3⟩:=cD h3;obtain⟨h3,h8⟩:=ae h3;obtain⟨h6,h7⟩:=ae h3;obtain⟨sf,es,rfl,h5⟩:=lj h5;obtain⟨h5,UV⟩:=ae h5;obtain⟨h5,UW⟩:=ae h5;obtain⟨h9,OJ⟩:=ae h5;obtain⟨sx,p3,rfl,h9⟩:=cD h9;obtain⟨n1,n2,n3,n4⟩:=g.nm h9
  cases of_decide_eq_true h1
  exact M5 g.F g.room (of_decide_eq_true h6) h4 (g.gl h7) (ll h8).1 n1 n2 n3 n4 (sound c .A b _ UV X g.toGC) OJ (of_decide_eq_true UW) h2
 | ret c =>
  refine fO (fun b bx h=>by cases (ae h).1) fun b X st g h=>?_
  have h':=k_one h;clear h;obtain⟨e,p,rfl,h⟩:=AK h';clear h'
  cases e with
  | none=>cases h
  | some e=>exact MN (sound c .E b _ h X g.toGC)
 | Ad =>
  refine fO (fun b bx h=>by cases (ae h).1) fun b X st g h=>?_
  have h':=k_one h;clear h;obtain⟨e,p,rfl,h⟩:=AK h';clear h'
  cases e with
  | none=>exact Ho
  | some e=>cases h
 | brk =>
  refine fO (fun b bx h=>by cases (ae h).1) fun b X st g h=>?_
  obtain⟨_,h⟩:=ae h;obtain⟨p,rfl⟩:=Ja h;exact MP
 | cont=>exact fO (fun b bx h=>by cases h) fun b X st g h=>by cases h
 | never=>exact fO (fun b bx h=>by cases h) fun b X st g h=>Dd
 | ite t a c aJ cU =>
  refine fO (fun b bx h=>by cases (ae h).1) fun b X st g h=>?_
  have h':=k_one h;clear h;obtain⟨e,x,y,p,rfl,h⟩:=IT h';clear h';obtain⟨h,h3⟩:=ae h;obtain⟨h1,h2⟩:=ae h;exact MQ (sound t .T b _ h1 X g.toGC) ((aJ b X g).1 x h2) ((cU b X g).1 y h3)
 | bQ it ts a aJ =>
  refine fO (fun b bx h=>by cases (ae h).1) fun b X st g h=>?_
  have h':=k_one h;clear h;obtain⟨tg,e,x,p,rfl,h⟩:=IU h';clear h';obtain⟨h,h4⟩:=ae h;obtain⟨h,h3⟩:=ae h;obtain⟨h1,h2⟩:=ae h;obtain⟨gg,hg,ht⟩:=IY g h1;exact Ht g.po g.calm (sound it .I b _ h3 X g.toGC) hg ht ((aJ b X g).1 x h4) (nU h2)
 | JR t a aJ =>
  refine fO (fun b bx h=>by cases (ae h).1) fun b X st g h=>?_
  have h':=k_one h;clear h;obtain⟨e,x,p,rfl,h⟩:=IV h';clear h';exact MR g.po (sound t .T b _ (ae h).1 X g.toGC) ((aJ b X g).1 x (ae h).2)
end
end PV
namespace PV
open PySem L2 SH
noncomputable def nX (N ps:List Str) (sc:Scope):Bool:=decide (sc.kind=.function)&&decide (sc.isCoroutine=false)&&decide (sc.isGenerator=false)&&decide N.Nodup&&decide (N.take ps.length=ps)&&ps.all (fun x=>decide (sc.names.lookup x=some .local∨sc.names.lookup x=some .cell))&&sc.names.all (fun y=>decide (y.2≠.free))
noncomputable def AO (T:Tb) (ii:Bool) (st:Stmt) (N ps:List Str) (c:S):Bool:=nX N ps (bH st)&&hG T ii c false ⟨N,bH st⟩ (iU st)
theorem Nq {N ps:List Str}{sc:Scope} (h:nX N ps sc=true):mS N ps sc:=by
 unfold nX at h;obtain⟨h,h7⟩:=ae h;obtain⟨h,h6⟩:=ae h;obtain⟨h,h5⟩:=ae h;obtain⟨h,h4⟩:=ae h;obtain⟨h,h3⟩:=ae h;obtain⟨h1,h2⟩:=ae h;rw[T_] at h6 h7;exact⟨of_decide_eq_true h1,of_decide_eq_true h2,of_decide_eq_true h3,of_decide_eq_true h4,of_decide_eq_true h5,fun x hx=>of_decide_eq_true (h6 x hx),fun y hy=>of_decide_eq_true (h7 y hy)⟩
section
variable {P:L_}{w:World}{K:e_}{mg:Str->k_ Value}{base:Heap}{Γ:Gm}{cl:Cl}{T:Tb}{n:Nat}{x qual:Str}{st:Stmt}{f:Addr}{fd:WJ}{N ps:List Str}{c:S}{ii:Bool}
noncomputable def bA (N ps:List Str) (sl:List Sl):En:=sl++acu (N.length-ps.length) .no
theorem rX (F:Fx Γ cl P w K mg base n T.fns T.mG T.cls T.pE T.pG) (bt:∀ x∈Em,mg x=none) (D:BE K x qual st f fd) (hc:AO T ii st N ps c=true) {sp:Sp} (len:∀ vs H Q E,sp vs H Q E->vs.length=ps.length)
  (body:∀ vs H Q E,sp vs H Q E->tS K cl Γ ii c { nx:=fun _ H'=>Q .aK H',rt:=Q } (start N vs) H):b8 P w K mg base ny (n+1) f fd ps sp:=by
 obtain⟨h1,h2⟩:=ae hc;have S:=Nq h1;refine D.ok S len fun jo A outer s H vs Q E hr BD=>?_
 have g:GD T Γ cl n (vk ny P w K mg base N qual (bH st) f jo A outer s H E).Ka ⟨N,bH st⟩ :=
  { hN:=rfl,calm:=rfl,loc:=fun x h=>h,HM:=fun x h=>h,JV:=fun x h=>.inl h,OG:=fun x h=>h,room:=hr,F:=F,bt:=bt,sc:=rfl,kind:=S.kind,fn:=fun _=>rfl,nd:=S.nd,po:=PassesOwn.never }
 exact⟨_,(Jb c ⟨N,bH st⟩ _ g).1 _ h2,body vs H Q E BD⟩
theorem w9 {B:Bs}{G H:Hp}{M:Mem}{sl:List Sl}{vs:List V} (hB:B.G=G/\B.H=H/\B.M=M) (s:ah G H) (m:bW K cl G H M) (l:sl.length=vs.length) (lp:vs.length=ps.length) (h0:∀ a,B.sf=some a->vs[(0:Nat)]? = some (.ref a))
  (hs:∀ (i:Nat) d,sl[i]? = some (.sh d)->∃ v,vs[i]? = some v/\Is K cl G d v) (ho:∀ (i:Nat) d,sl[i]? = some (.ow d)->i=0/\∃ a,B.sf=some a/\Aa K cl B M G H 0 a d):Rep K cl B (bA N ps sl) M (start N vs) H G:=by
 obtain⟨rfl,rfl,rfl⟩:=hB
 have get:∀ {i:Nat}{z:Sl},(bA N ps sl)[i]? = some z->z≠.no->sl[i]? = some z:=fun {i z} e ne=>by
  unfold bA at e;by_cases hi:i<sl.length
  ·rwa [Wm hi] at e
  ·rw[Wb (by omega),Z7] at e;split at e
   ·cases e;exact absurd rfl ne
   ·cases e
 have put:∀ {i:Nat}{v:V},vs[i]? = some v->(start N vs)[i]? = some (some v):=fun {i v} e=>by
  unfold L2.start;have hi:i<vs.length:=(j_.mp e).1;rw[Wm (by simpa using hi),g_,e];rfl
 refine⟨bq.refl s m,?_,fun a e=>put (h0 a e),fun i d e=>?_,fun _=>(B.sf).getD 0,fun i d e=>?_,fun i j d e hi hj _=>?_⟩
 ·unfold bA L2.start;rw[G_,G_,Y4,a_,Y4,l,lp]
 ·obtain⟨v,h1,h2⟩:=hs i d (get e (fun z=>nomatch z));exact⟨v,put h1,h2⟩
 ·obtain⟨rfl,a,h1,h2⟩:=ho i d (get e (fun z=>nomatch z));refine⟨?_,?_⟩
  ·rw[h1];exact put (h0 a h1)
  ·rw[h1];exact h2
 ·rw[(ho i d (get hi (fun z=>nomatch z))).1,(ho j e (get hj (fun z=>nomatch z))).1]
theorem AQ {G H:Hp}{M:Mem}{ds:List Dt}{vs:List V} (s:ah G H) (m:bW K cl G H M) (i:IsL K cl G ds vs) (lp:ds.length=ps.length):Rep K cl ⟨G,H,M,none⟩ (bA N ps (ds.map Sl.sh)) M (start N vs) H G:=by
 have l:=i.length;refine w9 ⟨rfl,rfl,rfl⟩ s m (by rw[a_,l]) (by omega) (fun a e=>nomatch e) (fun j d e=>?_) fun j d e=>?_
 ·rw[g_] at e;obtain⟨d',e1,e2⟩:=m_.mp e
  cases e2
  exact i.get e1
 ·rw[g_] at e;obtain⟨d',e1,e2⟩:=m_.mp e
  cases e2
theorem Ep (F:Fx Γ cl P w K mg base n T.fns T.mG T.cls T.pE T.pG) (bt:∀ x∈Em,mg x=none) (D:BE K x qual st f fd) (hc:AO T false st N ps c=true) {pf:cA}
  (body:∀ ds M k,pf ds M k->ds.length=ps.length/\ex Γ c (bA N ps (ds.map Sl.sh)) M { nx:=fun _ M'=>k .aK M',rt:=k }):b8 P w K mg base ny (n+1) f fd ps (Mt K cl pf):=by
 refine rX F bt D hc (fun vs H Q E h=>?_) fun vs H Q E h=>?_
 ·obtain⟨G,M,ds,k,h1,h2,h3,h4,h5⟩:=h;rw[←h3.length];exact (body ds M k h4).1
 ·obtain⟨G,M,ds,k,h1,h2,h3,h4,h5⟩:=h;obtain⟨b1,b2⟩:=body ds M k h4;refine⟨_,_,M,G,_,AQ h1 h2 h3 b1,b2,⟨fun _=>rfl,fun ρ M' σ H' G' s r q=>?_,fun d v ρ M' σ H' G' r i q=>?_,fun ρ M' σ H' G' s r q=>q,fun ρ M' σ H' G' s r q=>q⟩⟩
  ·exact h5 .aK M' .aK G' H' q r.cz (by unfold Is;rfl)
  ·exact h5 d M' v G' H' q r.cz i
theorem Nr (F:Fx Γ cl P w K mg base n T.fns T.mG T.cls T.pE T.pG) (bt:∀ x∈Em,mg x=none) (D:BE K x qual st f fd) (hc:AO T false st N ps c=true) {pf:cA}{q:Nat}
  (body:∀ d ds M k fs,eL M d (fun n' fC=>n'=q/\fC=fs)->pf (d::ds) M k->(d::ds).length=ps.length/\ex Γ c (bA N ps ((d::ds).map Sl.sh)) M { nx:=fun _ M'=>k .aK M',rt:=k }):b8 P w K mg base ny (n+1) f fd ps (Mu K cl q pf):=by
 refine rX F bt D hc (fun vs H Q E h=>?_) fun vs H Q E h=>?_
 ·obtain⟨G,M,d,ds,k,fs,h1,h2,h3,h0,h4,h5⟩:=h;rw[←h3.length];exact (body d ds M k fs h0 h4).1
 ·obtain⟨G,M,d,ds,k,fs,h1,h2,h3,h0,h4,h5⟩:=h;obtain⟨b1,b2⟩:=body d ds M k fs h0 h4;refine⟨_,_,M,G,_,AQ h1 h2 h3 b1,b2,⟨fun _=>rfl,fun ρ M' σ H' G' s r q=>?_,fun d v ρ M' σ H' G' r i q=>?_,fun ρ M' σ H' G' s r q=>q,fun ρ M' σ H' G' s r q=>q⟩⟩
  ·exact h5 .aK M' .aK G' H' q r.cz (by unfold Is;rfl)
  ·exact h5 d M' v G' H' q r.cz i
theorem Nt (F:Fx Γ cl P w K mg base n T.fns T.mG T.cls T.pE T.pG) (bt:∀ x∈Em,mg x=none) (D:BE K x qual st f fd) (hc:AO T true st N ps c=true) {pf:Dt->List Dt->Mem->(Dt->Mem->Prop)->Prop}
  (body:∀ q fs xs ds M k,pf (.obj q fs xs) ds M k->ds.length+1=ps.length/\ex Γ c (bA N ps (.ow (.obj q fs xs)::ds.map Sl.sh)) M { nx:=fun ρ M'=>cX ρ 0 fun d=>mF d fun q' fC sR=>q'=q/\k (.obj q fC sR) M',rt:=fun _ _=>False }):b8 P w K mg base ny (n+1) f fd ps (C1 K cl pf):=by
 refine rX F bt D hc (fun vs H Q E h=>?_) fun vs H Q E h=>?_
 ·obtain⟨G,M,a,q,fs,xs,dx,us,JU,ds,k,rfl,h1,h2,h3,h4,h5,h6,h7,h8,h9,OJ⟩:=h;rw[E_,←h8.length];exact (body q fs xs ds M k h9).1
 ·obtain⟨G,M,a,q,fs,xs,dx,us,JU,ds,k,rfl,h1,h2,h3,h4,h5,h6,h7,h8,h9,OJ⟩:=h;obtain⟨b1,b2⟩:=body q fs xs ds M k h9;have l:=h8.length
  have r0:Rep K cl ⟨G,H,M,some a⟩ (bA N ps (.ow (.obj q fs xs)::ds.map Sl.sh)) M (start N (.ref a::JU)) H G:=by
   refine w9 ⟨rfl,rfl,rfl⟩ h6 h7 (by rw[E_,E_,a_,l]) (by rw[E_];omega) (fun a' e=>by cases e;rfl) (fun j d e=>?_) fun j d e=>?_
   ·cases j with
    | zero=>cases e
    | succ j =>
     rw[YN,g_] at e;obtain⟨d',e1,e2⟩:=m_.mp e
     cases e2
     exact h8.get e1
   ·cases j with
    | zero=>cases e;exact⟨rfl,a,rfl,h4,h5,.inr ⟨rfl,rfl⟩,.mo q fs xs,rfl,dx,us,h1,h2,h3⟩
    | succ j =>
     rw[YN,g_] at e;obtain⟨d',e1,e2⟩:=m_.mp e
     cases e2
  refine⟨_,_,M,G,_,r0,b2,⟨(fun z=>nomatch z),fun ρ M' σ H' G' s r z=>?_,fun d v ρ M' σ H' G' r i z=>z.elim,fun ρ M' σ H' G' s r z=>z,fun ρ M' σ H' G' s r z=>z⟩⟩;obtain⟨d,e1,z1⟩:=dQ z;obtain⟨q',fC,sR,rfl,rfl,z2⟩:=k9 z1;obtain⟨oa,o1,_⟩:=r.ow;obtain⟨s1,ga,ma,_,o,ho,hc⟩:=o1 0 _ e1;have ea:oa 0=a:=by have:=r.s0 a rfl;rw[this] at s1;cases s1;rfl
  rw[ea] at ga ma hc
  cases ho
  obtain⟨Hi,CF,c1,c2,c3⟩:=hc;exact OJ fC sR CF Hi M' G' H' z2 r.cz ga ma c1 c2 c3
end
end PV
namespace PV
open PySem L2 SH
structure Df where
 x:Str
 qual:Str
 N:List Str
 ps:List Str
 c:S
noncomputable def df (x q:Str) (N:List YA) (k:Nat) (c:S):Df:=⟨x,q,N.map WR,(N.take k).map WR,c⟩
noncomputable def dg (x:Str) (N:List YA) (k:Nat) (c:S):Df:=df x x N k c
noncomputable def LS (l:List YA):List Str:=l.map WR
structure Pg where
 T:Tb
 fd:List (k_ Df)
 md:List (List (Nat×Df))
 id:List (Nat×Df)
 Rg:List (Nat×List Str)
 Jc:List Dt
noncomputable def Pg.at_ (p:Pg) (c:Nat) (f:Str):Bool:=match p.Rg.lookup c with
 | some fs=>fs.contains f
 | none=>false
noncomputable def Pg.hm (p:Pg) (m c:Nat) (fs:List Str):Bool:=match (p.md.getD m []).lookup c,p.T.mG[m]? with
 | some _,some x => !fs.contains x
 | _,_=>false
noncomputable def Pg.cs (p:Pg) (k:Nat):Dt:=p.Jc.getD k .aK
noncomputable def Nu (p:Pg) (Γ:Gm) (Γ':k_ Gm):Gm where
 fn f ds M k:=∃ d,p.fd[f]? = some (some d)/\ds.length=d.ps.length/\ex Γ d.c (bA d.N d.ps (ds.map Sl.sh)) M { nx:=fun _ M'=>k .aK M',rt:=k }
 me m ds M k:=∃ x r c fs d,ds=x::r/\eL M x (fun c' fC=>c'=c/\fC=fs)/\(p.md.getD m []).lookup c=some d/\ds.length=d.ps.length/\ex Γ d.c (bA d.N d.ps (ds.map Sl.sh)) M { nx:=fun _ M'=>k .aK M',rt:=k }
 bA c o ds M k:=∃ Γ0 q fs xs d,Γ'=some Γ0/\o=.obj q fs xs/\p.id.lookup c=some d/\ds.length+1=d.ps.length/\ex Γ0 d.c (bA d.N d.ps (.ow o::ds.map Sl.sh)) M { nx:=fun ρ M'=>cX ρ 0 fun d=>mF d fun q' fC sR=>q'=q/\k (.obj q fC sR) M',rt:=fun _ _=>False }
 cs:=p.cs
 at_:=p.at_
 hm:=p.hm
noncomputable def xa (p:Pg):Nat->Gm×k_ Gm
 | 0=>({ fn:=fun _ _ _ _=>False,me:=fun _ _ _ _=>False,bA:=fun _ _ _ _ _=>False,cs:=p.cs,at_:=p.at_,hm:=p.hm },none)
 | n+1=>(Nu p (xa p n).1 (xa p n).2,some (xa p n).1)
noncomputable def Pg.Γ (p:Pg) (n:Nat):Gm:=(xa p n).1
theorem Pg.Jd {p:Pg}:∀ n,(p.Γ n).cs=p.cs
 | 0=>rfl
 | _+1=>rfl
theorem Pg.Nv {p:Pg}:∀ n,(p.Γ n).at_=p.at_
 | 0=>rfl
 | _+1=>rfl
theorem Pg.im {p:Pg}:∀ n,(p.Γ n).hm=p.hm
 | 0=>rfl
 | _+1=>rfl
noncomputable def Er:Value->Bool
 | .none=>true
 | _=>false
noncomputable def t6 (a:abZ) (ps:List Str):Bool:=a.posonlyargs.isEmpty&&decide (a.args.map (·.arg)=ps)&&a.vararg.isNone&&a.kwonlyargs.isEmpty&&a.kwarg.isNone&&decide ps.Nodup
noncomputable def Es (T:Tb) (ii:Bool) (d:Df) (sc:Scope):FuncBody->Bool
 | .stmts b=>nX d.N d.ps sc&&hG T ii d.c false ⟨d.N,sc⟩ b
 | _=>false
noncomputable def Rh (K:e_) (T:Tb) (ii:Bool) (d:Df) (fd:WJ):Bool:=decide (fd.name=d.x)&&decide (fd.qualname=d.qual)&&decide (fd.globals=mainGlobals)&&fd.closure.isEmpty&&Er fd.defaults&&decide (fd.builtins=aad)&&Yg K fd.code d.qual&&t6 fd.params d.ps&&Es T ii d fd.scope fd.body
noncomputable def AR (K:e_) (T:Tb) (ii:Bool) (d:Df) (a:Addr):Bool:=YT K (.ref a)&&match K.lookup a with
 | some ⟨_,_,.func fd,_⟩=>Rh K T ii d fd
 | _=>false
noncomputable def yC (o:k_ (k_ Value)) (k:Addr->Bool):Bool:=match o with | some (some (.ref a))=>k a | _=>false
noncomputable def Dy (o:k_ (k_ Value)):Bool:=match o with | some none=>true | _=>false
noncomputable def jM (K:e_) (T:Tb) (c:Nat):Addr:=match Yn K mainGlobals (T.cls.getD c WA) with
 | some (some (.ref a))=>a
 | _=>0
noncomputable def Dz (K:e_) (C:Addr):Bool:=Yj K C WA&&YS K C&&ZQ K C&&Wr K (.ref C) "__setattr__" == some (some (.builtin "object.__setattr__"))
noncomputable def Et:k_ (k_ Value)->Dt->Bool
 | some (some (.int i _)),.int j=>decide (i=j)
 | some (some (.str x _)),.str y=>decide (x=y)
 | _,_=>false
noncomputable def Je:Str := "__debug__"
noncomputable def Ri (o:k_ acC) (k:Addr->Bool):Bool:=match o with | some (.val (.ref a))=>k a | _=>false
noncomputable def AS (K:e_) (p:Pg):Bool :=
 decide (p.T.fns=p.fd.map fun o=>match o with | some d=>d.x | none=>Je) &&
 p.fd.all (fun o=>match o with | none=>true | some d=>yC (Yn K mainGlobals d.x) fun a=>AR K p.T false d a) &&
 p.T.cls.all (fun x=>x==Je||yC (Yn K mainGlobals x) fun a=>Ws K (.ref a)) &&
 (p.T.mG.zip p.md).all (fun e=>e.2.all fun cd=>Dz K (jM K p.T cd.1)&&yC (Wr K (.ref (jM K p.T cd.1)) e.1) fun f=>AR K p.T false cd.2 f) &&
 p.id.all (fun cd=>aav K (jM K p.T cd.1)&&Ws K (.ref (jM K p.T cd.1))&&yC (Wr K (.ref (jM K p.T cd.1)) "__init__") fun f=>AR K p.T true cd.2 f) &&
 p.T.pG.all (fun c=>ZR K (.ref (jM K p.T c)) "__getattribute__" == some (some (.builtin "type.__getattribute__"))&&ace K (jM K p.T c) (.type "type")&&Ri (acf K (.ref (jM K p.T c)) (.type "type") "__init__") fun f=>match p.id.lookup c with | some d=>AR K p.T true d f | none=>false) &&
 (decide (p.T.pE.length=p.Jc.length)&&(p.T.pE.zip p.Jc).all fun e=>e.1==Je||Et (Yn K mainGlobals e.1) e.2) &&
 p.Rg.all (fun e=>Dz K (jM K p.T e.1)&&e.2.all fun f=>Dy (Wr K (.ref (jM K p.T e.1)) f)) &&
 Em.all (fun x=>Dy (Yn K mainGlobals x))
theorem io:∀ {ps:List Str}{us:List Value}{x:Str}{u:Value}{i:Nat},ps.Nodup->ps[i]? = some x->us[i]? = some u->(ps.zip us).lookup x=some u
 | [],_,_,_,_,_,h,_=>by simp at h
 | _::_,[],_,_,_,_,_,h=>by simp at h
 | p::ps,v::us,x,u,0,n,h1,h2=>by
  simp at h1 h2;subst h1;subst h2;rw[Xx,V7,Xt]
 | p::ps,v::us,x,u,i+1,n,h1,h2=>by
  simp only[YN] at h1 h2;obtain⟨n1,n2⟩:=X7.mp n
  have ne:(x==p)=false:=by
   rw[W3];intro e;subst e;exact n1 (A_ h1)
  rw[Xx,V7,ne];exact io n2 h1 h2
theorem AT:∀ {ps:List Str}{us:List Value}{f:Str->k_ Value},ps.length=us.length->(∀ (i:Nat) x u,ps[i]? = some x->us[i]? = some u->f x=some u)->(ps.filterMap fun n=>(f n).map (n,·))=ps.zip us
 | [],us,f,l,h=>by simp
 | p::ps,[],f,l,h=>by simp at l
 | p::ps,u::us,f,l,h=>by
  rw[Wh,h 0 p u rfl rfl,Xx];simp only[Yy];rw[AT (by simpa using l) fun i x v h1 h2=>h (i+1) x v (by simpa using h1) (by simpa using h2)]
theorem t7 {x qual:Str}{a:abZ}{b:List Stmt}{sc:Scope}{ps:List Str} (h:t6 a ps=true) (kV doc pm:Value) (an:k_ Addr) (jo ct:Value) (us:List Value) (l:us.length=ps.length) :
  abF (Xn x qual a b sc .none kV doc pm an jo ct) ⟨us,[]⟩=pure (ps.zip us):=by
 unfold t6 at h;obtain⟨h,h6⟩:=ae h;obtain⟨h,h5⟩:=ae h;obtain⟨h,h4⟩:=ae h;obtain⟨h,h3⟩:=ae h;obtain⟨h1,h2⟩:=ae h;obtain⟨po,ar,va,ko,kd,kw,df⟩:=a;dsimp only at h1 h2 h3 h4 h5 h6;rw[ab6] at h1 h4;rw[Option.isNone_iff_eq_none] at h3 h5;have hp:ar.map (·.arg)=ps:=of_decide_eq_true h2;have nd:ps.Nodup:=of_decide_eq_true h6;subst h1 h3 h4 h5;have lk:∀ (i:Nat) x u,ps[i]? = some x->us[i]? = some u->(ps.zip us).lookup x=some u:=fun i x u e1 e2=>io nd e1 e2
 have z:=AT (f:=fun n=>(ps.zip us).lookup n) l.symm lk
 have UX:(ps.filter fun n=>((ps.zip us).lookup n).isNone)=[]:=by
  rw[X4];intro n hn;obtain⟨i,hi,e⟩:=Xc.mp hn;rw[lk i n (us[i]'(by omega)) (by rw[←e];exact c_ hi) (c_ (by omega))];simp
 have e0:∀ (β:Type) (k:k_ (Array Value)->Sem β),(seqItems? XW >>= k)=k none:=fun _ _=>rfl
 have e1:∀ (β γ:Type) (b:β) (k:β->Sem γ),((pure b:Sem β) >>= k)=k b:=fun _ _ _ _=>rfl
 subst hp
 have np:¬ ((decide (us.length>(ar.map (·.arg)).length)&&(none:k_ Arg).isNone)=true):=by
  rw[f_ (by omega)];decide
 unfold abF;simp only[WX,List.nil_append,WB,ZJ,e0,e1,Z8,List.drop_nil,aay,abQ,XS,n_ np,UX,List.isEmpty_nil,Bool.not_true,n_ q_,List.zip_nil_right,z]
section
variable {P:L_}{w:World}{K:e_}{mg:Str->k_ Value}{base:Heap}{p:Pg}{T:Tb}{ii:Bool}{d:Df}{a:Addr}
structure mH (K:e_) (T:Tb) (ii:Bool) (d:Df) (a:Addr) (fd:WJ) (st:Stmt):Prop where
 fn:BE K d.x d.qual st a fd
 bi:Binds K fd d.ps []
 ba:∀ us:List Value,us.length=d.ps.length->abF fd ⟨us,[]⟩=pure (d.ps.zip us)
 ch:AO T ii st d.N d.ps d.c=true
 kp:Ws K (.ref a)=true
 SN:YT K (.ref a)=true
theorem Nw {fd:WJ}{x q:Str}{b:List Stmt} (h1:fd.name=x) (h2:fd.qualname=q) (h3:fd.body=.stmts b) (h4:fd.globals=mainGlobals) (h5:fd.closure=[]) (h6:fd.defaults=.none) (h7:fd.builtins=aad) :
  fd=Xn x q fd.params b fd.scope .none fd.kwdefaults fd.doc fd.pyModule fd.annotations fd.code fd.closureTuple:=by
 cases fd
 cases h1;cases h2;cases h3;cases h4;cases h5;cases h6;cases h7
 rfl
theorem at_of {fd:WJ}{b:List Stmt}{oc:Value}{od:k_ Addr}{sl:Array (k_ Value)} (e:K.lookup a=some ⟨oc,od,.func fd,sl⟩) (hf:YT K (.ref a)=true) (hd:fd=Xn d.x d.qual fd.params b fd.scope .none fd.kwdefaults fd.doc fd.pyModule fd.annotations fd.code fd.closureTuple)
  (h7:Yg K fd.code d.qual=true) (h8:t6 fd.params d.ps=true) (h9:(nX d.N d.ps fd.scope&&hG T ii d.c false ⟨d.N,fd.scope⟩ b)=true):∃ fd st,mH K T ii d a fd st:=by
 have kp:Ws K (.ref a)=true:=by unfold Ws;dsimp only;rw[e]
 rw[hd] at e;have F:=FV (st:=.FunctionDef d.x fd.params b [] none [] fd.scope none d.x ⟨0,0,0,0⟩) e h7 kp;exact⟨_,_,F,F.binds fun kV doc pm an jo ct us l=>t7 h8 kV doc pm an jo ct us l,fun us l=>t7 h8 _ _ _ _ _ _ us l,h9,kp,hf⟩
theorem AU {v:Value} (h:Er v=true):v=.none:=by cases v<;>first | rfl | cases h
theorem AV {sc:Scope}{bd:FuncBody} (h:Es T ii d sc bd=true):∃ b,bd=.stmts b/\(nX d.N d.ps sc&&hG T ii d.c false ⟨d.N,sc⟩ b)=true:=by cases bd<;>first | exact⟨_,rfl,h⟩ | cases h
theorem Jf {fd:WJ} (h:Rh K T ii d fd=true):Yg K fd.code d.qual=true/\t6 fd.params d.ps=true/\∃ b,fd=Xn d.x d.qual fd.params b fd.scope .none fd.kwdefaults fd.doc fd.pyModule fd.annotations fd.code fd.closureTuple/\(nX d.N d.ps fd.scope&&hG T ii d.c false ⟨d.N,fd.scope⟩ b)=true:=by
 unfold Rh at h;simp only[t_,Yc] at h;obtain⟨⟨⟨⟨⟨⟨⟨⟨h1,h2⟩,h3⟩,h4⟩,h5⟩,h6⟩,h7⟩,h8⟩,h9⟩:=h;obtain⟨b,e,h9⟩:=AV h9;exact⟨h7,h8,b,Nw h1 h2 e h3 (ab6.mp h4) (AU h5) h6,h9⟩
theorem mY (h:AR K T ii d a=true):∃ fd st,mH K T ii d a fd st:=by
 obtain⟨hf,h⟩:=ae h
 cases e:K.lookup a with
 | none=>rw[e] at h;cases h
 | some o =>
  rw[e] at h;obtain⟨oc,od,dat,sl⟩:=o
  cases dat with
  | func fd =>
   obtain⟨h7,h8,b,hd,h9⟩:=Jf h;exact at_of e hf hd h7 h8 h9
  | _=>cases h
theorem mZ {o:k_ (k_ Value)}{k:Addr->Bool} (h:yC o k=true):∃ a,o=some (some (.ref a))/\k a=true:=by
 unfold yC at h;split at h
 ·exact⟨_,rfl,h⟩
 ·cases h
theorem Jg {o:k_ acC}{k:Addr->Bool} (h:Ri o k=true):∃ a,o=some (.val (.ref a))/\k a=true:=by
 unfold Ri at h;split at h
 ·exact⟨_,rfl,h⟩
 ·cases h
theorem xb {o:k_ (k_ Value)} (h:Dy o=true):o=some none:=by
 unfold Dy at h;split at h
 ·rfl
 ·cases h
theorem xc {C:Addr} (h:Dz K C=true):sZ K C:=by
 unfold Dz at h;obtain⟨h,h4⟩:=ae h;obtain⟨h,h3⟩:=ae h;obtain⟨h1,h2⟩:=ae h;exact⟨h1,h2,h3,W8.mp h4⟩
theorem Jh {c:Nat}{x:Str}{C:Addr} (h:T.cls[c]? = some x) (e:Yn K mainGlobals x=some (some (.ref C))):jM K T c=C:=by
 unfold jM;rw[B_,h];show (match Yn K mainGlobals x with | some (some (.ref a))=>a | _=>0)=C;rw[e]
theorem lookup_mem {α:Type}{c:Nat}{x:α}:∀ {l:List (Nat×α)},l.lookup c=some x->(c,x)∈l
 | [],h=>nomatch h
 | (k,y)::r,h=>by
  rw[V7] at h
  cases q:c==k with
  | true=>rw[q] at h;cases h;rw[W8.mp q];exact V_
  | false=>rw[q] at h;exact I_ _ (lookup_mem h)
theorem t9 {CX:vj}{n:Nat}{f:Addr}{fd:WJ}{ps:List Str}{sp:Sp} (h:∀ vs H Q E,¬ sp vs H Q E):b8 P w K mg base CX n f fd ps sp:=⟨fun vs H Q E z=>(h vs H Q E z).elim,fun A outer s H args us vs Q E _ _ _ _ z=>(h vs H Q E z).elim⟩
structure Facts (K:e_) (p:Pg) (mg:Str->k_ Value) (w:World):Prop where
 fn:∀ (f:Nat) x,p.T.fns[f]? = some x->(x==("__debug__" : Str))=false->∃ d a fd st,p.fd[f]? = some (some d)/\mg x=some (.ref a)/\mH K p.T false d a fd st
 kl:∀ (c:Nat) x,p.T.cls[c]? = some x->(x==("__debug__" : Str))=false->mg x=some (.ref (jM K p.T c))/\Ws K (.ref (jM K p.T c))=true
 me:∀ (m:Nat) x,p.T.mG[m]? = some x->∀ c d,(p.md.getD m []).lookup c=some d->sZ K (jM K p.T c)/\∃ a fd st,Wr K (.ref (jM K p.T c)) x=some (some (.ref a))/\mH K p.T false d a fd st
 bA:∀ (c:Nat) d,p.id.lookup c=some d->∃ a fd st,Mk K (jM K p.T c) a/\mH K p.T true d a fd st
 cm:∀ (c:Nat),p.T.pG.contains c=true->∃ a fd st d,p.id.lookup c=some d/\Gd K (jM K p.T c) "__init__" a/\mH K p.T true d a fd st
 cs:∀ (k:Nat) x,p.T.pE[k]? = some x->(x==("__debug__" : Str))=false->∃ u v,mg x=some u/\RelV v u/\∀ G,Is K ⟨jM K p.T,w⟩ G (p.cs k) v
 at_:∀ n f,p.at_ n f=true->sZ K (jM K p.T n)/\dW K (jM K p.T n) f
 bt:∀ x∈Em,mg x=none
theorem AW {h:Heap} (hc:AS K p=true) (X:K.In h) (G:h.Ns mainGlobals mg):Facts K p mg w:=by
 unfold AS at hc;obtain⟨hc,c9⟩:=ae hc;obtain⟨hc,c8⟩:=ae hc;obtain⟨hc,c7⟩:=ae hc;obtain⟨hc,c6⟩:=ae hc;obtain⟨hc,c5⟩:=ae hc;obtain⟨hc,c4⟩:=ae hc;obtain⟨hc,c3⟩:=ae hc;obtain⟨c1,c2⟩:=ae hc;have c1:=of_decide_eq_true c1;obtain⟨Rj,c7⟩:=ae c7;have Rj:=of_decide_eq_true Rj;rw[T_] at c2 c3 c4 c5 c6 c7 c8 c9;refine⟨fun f x hx hd=>?_,fun c x hx hd=>?_,fun m x hx c d hl=>?_,fun c d hl=>?_,fun c UY=>?_,fun k x hx hd=>?_,fun n f hn=>?_,fun x hx=>?_⟩
 ·rw[c1,g_] at hx;obtain⟨o,ho,e⟩:=m_.mp hx
  cases o with
  | none=>rw[←e] at hd;exact absurd hd (by unfold Je;rw[Xt];decide)
  | some d =>
   obtain⟨a,e1,e2⟩:=mZ (c2 _ (A_ ho));obtain⟨fd,st,A⟩:=mY e2;exact⟨d,a,fd,st,ho,by rw[←e];exact Z2 X G e1,A⟩
 ·have:=c3 x (A_ hx);have pd:(x==Je)=false:=hd;rw[pd,abb] at this;obtain⟨a,e1,e2⟩:=mZ this;rw[Jh hx e1];exact⟨Z2 X G e1,e2⟩
 ·have hm:p.md[m]? = some (p.md.getD m []):=by
   rw[B_] at hl ⊢
   cases q:p.md[m]? with
   | none=>rw[q] at hl;exact nomatch hl
   | some l=>rfl
  have:=c4 (x,p.md.getD m []) (A_ (i:=m) (by rw[W7];exact⟨hx,hm⟩));have:=(T_.mp this) (c,d) (lookup_mem hl);obtain⟨k1,k2⟩:=ae this;obtain⟨a,e1,e2⟩:=mZ k2;obtain⟨fd,st,A⟩:=mY e2;exact⟨xc k1,a,fd,st,e1,A⟩
 ·have:=c5 (c,d) (lookup_mem hl);obtain⟨k,k3⟩:=ae this;obtain⟨k1,k2⟩:=ae k;obtain⟨a,e1,e2⟩:=mZ k3;obtain⟨fd,st,A⟩:=mY e2;exact⟨a,fd,st,⟨k1,e1,A.SN,k2⟩,A⟩
 ·have:=c6 c (Y7.mp UY);obtain⟨k,k3⟩:=ae this;obtain⟨k1,k2⟩:=ae k;obtain⟨a,e1,e2⟩:=Jg k3
  cases q:p.id.lookup c with
  | none=>rw[q] at e2;cases e2
  | some d =>
   rw[q] at e2;obtain⟨fd,st,A⟩:=mY e2;exact⟨a,fd,st,d,rfl,⟨W8.mp k1,k2,e1,A.kp⟩,A⟩
 ·have hl:k<p.Jc.length:=by rw[←Rj];exact (j_.mp hx).1
  have:=c7 (x,p.Jc[k]) (A_ (i:=k) (by rw[W7];exact⟨hx,c_ hl⟩));have pd:(x==Je)=false:=hd;dsimp only at this;rw[pd,abb] at this;have e:p.cs k=p.Jc[k]:=by unfold Pg.cs;rw[B_,c_ hl];rfl
  rw[e];generalize p.Jc[k]=d at this;unfold Et at this;split at this
  ·rename_i i t j q;have:=of_decide_eq_true this;subst this;exact⟨_,.int _,Z2 X G q,⟨_,rfl⟩,fun G=>by unfold Is;rfl⟩
  ·rename_i i t j q;have:=of_decide_eq_true this;subst this;exact⟨_,.str _,Z2 X G q,⟨_,rfl⟩,fun G=>by unfold Is;rfl⟩
  ·cases this
 ·unfold Pg.at_ at hn
  cases q:p.Rg.lookup n with
  | none=>rw[q] at hn;cases hn
  | some fs =>
   rw[q] at hn;obtain⟨k1,k2⟩:=ae (c8 (n,fs) (lookup_mem q));exact⟨xc k1,xb ((T_.mp k2) f (Y7.mp hn))⟩
 ·exact PySem.W.mg_none_of X G (xb (c9 x hx))
theorem AX {M:Mem}{x:Dt}{c c':Nat}{fs fC:List Str} (h:eL M x (fun n f=>n=c/\f=fs)) (h':eL M x (fun n f=>n=c'/\f=fC)):c=c':=by
 unfold eL at h h'
 cases x with
 | obj n f _=>exact h.1.symm.trans h'.1
 | fD a =>
  dsimp only at h h'
  cases q:M a with
  | none=>rw[q] at h;exact h.elim
  | some o =>
   rw[q] at h h'
   cases o with
   | mo n f _=>exact h.1.symm.trans h'.1
   | _=>exact h.elim
 | _=>exact h.elim
def FX (P:L_) (w:World) (K:e_) (mg:Str->k_ Value) (base:Heap) (p:Pg) (n:Nat):Prop:=Fx (p.Γ n) ⟨jM K p.T,w⟩ P w K mg base n p.T.fns p.T.mG p.T.cls p.T.pE p.T.pG
theorem Rk {n f:Nat}{ds:List Dt}{M:Mem}{k:Dt->Mem->Prop} (h:(p.Γ (n+1)).fn f ds M k):∃ d,p.fd[f]? = some (some d)/\ds.length=d.ps.length/\ex (p.Γ n) d.c (bA d.N d.ps (ds.map Sl.sh)) M { nx:=fun _ M'=>k .aK M',rt:=k }:=h
theorem Rl {n m:Nat}{x:Dt}{r:List Dt}{M:Mem}{k:Dt->Mem->Prop}{c:Nat}{fs:List Str}{d:Df} (hx:eL M x (fun c' fC=>c'=c/\fC=fs)) (hd:(p.md.getD m []).lookup c=some d) (h:(p.Γ (n+1)).me m (x::r) M k):(x::r).length=d.ps.length/\ex (p.Γ n) d.c (bA d.N d.ps ((x::r).map Sl.sh)) M { nx:=fun _ M'=>k .aK M',rt:=k }:=by
 obtain⟨x',r',c',fC,d',e1,e2,e3,e4⟩:=h
 cases e1
 obtain rfl:=AX hx e2;rw[hd] at e3
 cases e3
 exact e4
theorem Nx {n c:Nat}{o:Dt}{ds:List Dt}{M:Mem}{k:Dt->Mem->Prop} (h:(p.Γ (n+2)).bA c o ds M k):∃ d,p.id.lookup c=some d:=by
 obtain⟨_,_,_,_,d,_,_,e,_⟩:=h;exact⟨d,e⟩
theorem Ny {n c q:Nat}{fs:List Str}{xs ds:List Dt}{M:Mem}{k:Dt->Mem->Prop}{d:Df} (hd:p.id.lookup c=some d) (h:(p.Γ (n+2)).bA c (.obj q fs xs) ds M k):ds.length+1=d.ps.length/\ex (p.Γ n) d.c (bA d.N d.ps (.ow (.obj q fs xs)::ds.map Sl.sh)) M { nx:=fun ρ M'=>cX ρ 0 fun d=>mF d fun q' fC sR=>q'=q/\k (.obj q fC sR) M',rt:=fun _ _=>False }:=by
 obtain⟨_,_,_,_,d',e1,e2,e3,e4⟩:=h
 cases e1;cases e2
 rw[hd] at e3
 cases e3
 exact e4
theorem Eu {c:Nat}{o:Dt}{ds:List Dt}{M:Mem}{k:Dt->Mem->Prop} (h:(p.Γ 1).bA c o ds M k):False:=by
 obtain⟨_,_,_,_,_,e,_⟩:=h;exact nomatch e
theorem Nz {n m c:Nat}{fs:List Str}{x:Str} (h:(p.Γ n).hm m c fs=true) (hx:p.T.mG[m]? = some x):fs.contains x=false/\∃ d,(p.md.getD m []).lookup c=some d:=by
 rw[Pg.im] at h;unfold Pg.hm at h;rw[hx] at h
 cases q:(p.md.getD m []).lookup c with
 | none=>rw[q] at h;cases h
 | some d=>rw[q] at h;exact⟨by simpa using h,d,rfl⟩
theorem AY {n:Nat} (F:Facts K p mg w)
  (hf:∀ (f:Nat) d a fd st,p.fd[f]? = some (some d)->mH K p.T false d a fd st->b8 P w K mg base ny n a fd d.ps (Mt K ⟨jM K p.T,w⟩ ((p.Γ n).fn f)))
  (hm:∀ (m c:Nat) d a fd st,(p.md.getD m []).lookup c=some d->mH K p.T false d a fd st->b8 P w K mg base ny n a fd d.ps (Mu K ⟨jM K p.T,w⟩ c ((p.Γ n).me m)))
  (hi:∀ c d ds M k,(p.Γ n).bA c d ds M k->∃ a fd ps j,n=j+1/\b8 P w K mg base ny j a fd ps (C1 K ⟨jM K p.T,w⟩ ((p.Γ n).bA c))/\Binds K fd ps []/\Mk K (jM K p.T c) a)
  (hc:∀ c d a fd st,p.id.lookup c=some d->mH K p.T true d a fd st->b8 P w K mg base ny n a fd d.ps (C1 K ⟨jM K p.T,w⟩ ((p.Γ n).bA c))):FX P w K mg base p n:=by
 refine⟨fun f x hx hd=>?_,fun m x hx c fs h=>?_,F.kl,hi,fun c h=>?_,fun k x h1 h2=>?_,fun m f h=>?_,rfl⟩
 ·obtain⟨d,a,fd,st,e1,e2,A⟩:=F.fn f x hx hd;exact⟨a,fd,d.ps,e2,A.kp,A.bi,hf f d a fd st e1 A⟩
 ·obtain⟨h1,d,h2⟩:=Nz h hx;obtain⟨h3,a,fd,st,h4,A⟩:=F.me m x hx c d h2;exact⟨h1,h3,a,fd,d.ps,⟨h4,A.SN,A.kp⟩,A.bi,hm m c d a fd st h2 A⟩
 ·obtain⟨a,fd,st,d,h1,h2,A⟩:=F.cm c h;exact⟨a,fd,d.ps,h2,hc c d a fd st h1 A,A.bi⟩
 ·rw[Pg.Jd];exact F.cs k x h1 h2
 ·rw[Pg.Nv] at h;exact F.at_ m f h
theorem AZ {c:Nat}{pf:Dt->List Dt->Mem->(Dt->Mem->Prop)->Prop}{cl:Cl} (h:∀ o ds M k,¬ pf o ds M k) (vs:List V) (H:Hp) (Q:VK) (E:XK):¬ C1 K cl pf vs H Q E:=fun z=>by
 obtain⟨G,M,a,n,fs,xs,dx,us,JU,ds,k,_,_,_,_,_,_,_,_,_,h4,_⟩:=z;exact h _ _ _ _ h4
theorem rY (F:Facts K p mg w):FX P w K mg base p 0:=by
 refine AY F (fun f d a fd st _ _=>t9 fun vs H Q E h=>?_) (fun m c d a fd st _ _=>t9 fun vs H Q E h=>?_) (fun c d ds M k h=>h.elim) fun c d a fd st _ _=>t9 (AZ (c:=0) fun _ _ _ _ z=>z)
 ·obtain⟨G,M,ds,k,_,_,_,h4,_⟩:=h;exact h4
 ·obtain⟨G,M,d,ds,k,fs,_,_,_,_,h4,_⟩:=h;exact h4
theorem Ev {n f:Nat}{d:Df}{fd:WJ}{st:Stmt} (F:Facts K p mg w) (f0:FX P w K mg base p n) (e:p.fd[f]? = some (some d)) (A:mH K p.T false d a fd st):b8 P w K mg base ny (n+1) a fd d.ps (Mt K ⟨jM K p.T,w⟩ ((p.Γ (n+1)).fn f)) :=
 Ep (T:=p.T) f0 F.bt A.fn A.ch fun ds M k h=>by
  obtain⟨d',h1,h2⟩:=Rk h;rw[e] at h1
  cases h1
  exact h2
theorem Ew {n c:Nat}{d:Df}{fd:WJ}{st:Stmt} (F:Facts K p mg w) (f0:FX P w K mg base p n) (e:p.id.lookup c=some d) (A:mH K p.T true d a fd st):b8 P w K mg base ny (n+1) a fd d.ps (C1 K ⟨jM K p.T,w⟩ ((p.Γ (n+2)).bA c)) :=
 Nt (T:=p.T) f0 F.bt A.fn A.ch fun _ _ _ _ _ _ h=>Ny e h
theorem A0 (F:Facts K p mg w) (n:Nat):FX P w K mg base p n:=by
 have two:∀ n,FX P w K mg base p n/\FX P w K mg base p (n+1):=by
  have me:∀ n,FX P w K mg base p n->∀ (m c:Nat) d a fd st,(p.md.getD m []).lookup c=some d->mH K p.T false d a fd st->b8 P w K mg base ny (n+1) a fd d.ps (Mu K ⟨jM K p.T,w⟩ c ((p.Γ (n+1)).me m)):=fun n f0 m c d a fd st e A=>Nr (T:=p.T) f0 F.bt A.fn A.ch fun _ _ _ _ _ hx h=>Rl hx e h
  intro n
  induction n with
  | zero=>exact⟨rY F,AY F (fun f d a fd st e A=>Ev F (rY F) e A) (me 0 (rY F)) (fun _ _ _ _ _ h=>(Eu h).elim) fun _ _ _ _ _ _ _=>t9 (AZ (c:=0) fun _ _ _ _ z=>Eu z)⟩
  | succ n ih =>
   refine⟨ih.2,AY F (fun f d a fd st e A=>Ev F ih.2 e A) (me _ ih.2) (fun c o ds M k h=>?_) fun c d a fd st e A=>(Ew F ih.1 e A).mono (by omega)⟩;obtain⟨d',e3⟩:=Nx h;obtain⟨a,fd,st,mk,A⟩:=F.bA c d' e3;exact⟨a,fd,d'.ps,n+1,rfl,Ew F ih.1 e3 A,A.bi,mk⟩
 exact (two n).1
def Ex (K:e_):Sp:=fun vs H Q _=>∃ (a:Addr) (ns:List Int),vs=[.ref a]/\du K H a (ns.map V.int)/\ns.length<=63/\∀ H',Q (.bl true) H'
theorem Ji {h:Heap}{lw n:Nat}{df:Df}{fa:Addr} (hc:AS K p=true) (X:K.In h) (G:h.Ns mainGlobals mg) (SO:mg "law" = some (.ref fa)) (h1:p.fd[lw]? = some (some df)) (h2:df.x = "law") (h3:df.ps=[("_law_script" : Str)])
  (hl:∀ (ns:List Int) M k,ns.length<=63->(∀ M',k (.bl true) M')->(p.Γ n).fn lw [.nL (ns.map .int)] M k):∃ fd:WJ,(∀ (s:h_) (v:Value),abE s fd ⟨[v],[]⟩ [("_law_script",v)])/\∀ base:Heap,K.In base->base.Ns mainGlobals mg->b8 P w K mg base ny n fa fd ["_law_script"] (Ex K):=by
 have F:Facts K p mg w:=AW hc X G
 have c1:p.T.fns=p.fd.map fun o=>match o with | some d=>d.x | none=>Je:=by
  unfold AS at hc;simp only[t_] at hc;exact of_decide_eq_true hc.1.1.1.1.1.1.1.1
 have hx:p.T.fns[lw]? = some "law" := by rw[c1,g_,h1];exact congrArg some h2
 obtain⟨d,a,fd,st,e1,e2,A⟩:=F.fn lw "law" hx (by decide);rw[h1] at e1
 cases e1
 rw[SO] at e2
 cases e2
 refine⟨fd,fun s v=>.of_eq (by have:=A.ba [v] (by rw[h3];rfl);rw[h3] at this;exact this),fun base _ _=>?_⟩;obtain⟨a',OL,QS,k1,k2,k3,k4⟩:=(A0 (P:=P) (base:=base) F n).fn lw "law" hx (by decide);rw[SO] at k1
 cases k1
 obtain⟨oc,od,kV,doc,pm,an,jo,ct,zp,rfl,lk,kT⟩:=A.fn.ex
 cases n with
 | zero=>exact t9 fun vs H Q E z=>by obtain⟨b,ns,_,_,hn,_⟩:=z;exact hl ns (fun _=>none) (fun _ _=>True) hn fun _=>trivial
 | succ n =>
  have k:=Ep (T:=p.T) (pf:=(p.Γ (n+1)).fn lw) (A0 (P:=P) (base:=base) F n) F.bt A.fn A.ch fun ds M k h=>by
   obtain⟨d',q1,q2,q3⟩:=h;rw[h1] at q1
   cases q1
   exact⟨q2,q3⟩
  rw[h3] at k;refine k.imp fun vs H Q E z=>?_
  obtain⟨b,ns,rfl,hs,hn,hQ⟩:=z;refine⟨H,fun _=>none,[.nL (ns.map .int)],fun d _=>d=.bl true,ah.refl H,(fun _ _ z=>nomatch z),IsL.cons (by unfold Is;exact⟨b,_,rfl,hs,IsL.ints ns⟩) IsL.nil,hl ns _ _ hn fun _=>rfl,fun d M' v G' H' e f i=>?_⟩;subst e;unfold Is at i;subst i;exact hQ H'
theorem DA {l:acd}{q:L_}{loose:List Str}{XP:(Str->k_ Value)->Heap->Prop}{YP:World->Heap->Prop}{d:DefRec}{K:Params->e_}{lw n:Nat}{df:Df} (hn:l.most=some 63) (KL:d.params.defaults=[]) (UZ:d.name = "law") (hr:cj n aao)
  (hY:∀ (w:World) (h:Heap),YP w h->(K w.params).In h) (hc:∀ w:World,AS (K w.params) p=true) (h1:p.fd[lw]? = some (some df)) (h2:df.x = "law") (h3:df.ps=[("_law_script" : Str)])
  (hl:∀ (ns:List Int) M k,ns.length<=63->(∀ M',k (.bl true) M')->(p.Γ n).fn lw [.nL (ns.map .int)] M k):acF q loose XP YP l.row.toRowW d [] (fun f vs=>acy f vs) :=
 L2.Co (n:=63) (k:=n) (x := "_law_script") (CX:=fun _=>ny) (sp:=fun w=>Ex (K w.params)) hn (by decide) KL hr hY (fun w mg fa h KX G FS=>Ji (hc w) KX G (by rw[←UZ];exact FS) h1 h2 h3 hl) (fun _ _ a ns hl _ hS=>⟨a,ns,rfl,hS,hl,fun _=>rfl⟩) fun _ _ _ _ _ z=>z
end
end PV
namespace K18
open PySem L2 SH PV
noncomputable def gc:S:=(.seq (.eI 0 "whole" (.v 1)) (.seq (.eI 0 "fault" (.v 2)) (.seq (.eI 0 "most" (.v 3)) (.seq (.eI 0 "answers" .GH) (.seq (.eI 0 "questions" (.CO (.jd .nil))) .skip)))))
noncomputable def eX:S:=(.seq (.set 2 (.br 10 (.fld (.v 0) "whole") (.cons (.v 1) .nil))) (.seq (.set 3 (.br 11 (.v 2) .nil)) (.seq (.ite (.CS (.v 3) (.fld (.v 0) "answers")) (.seq (.ex (.br 1 (.v 0) (.cons (.v 1) (.cons (.v 2) .nil)))) .skip) .skip) (.seq (.ret (.GK (.fld (.v 0) "answers") (.v 3))) .skip))))
noncomputable def ip:S:=(.seq (.ite (.cmp .ge (.br 2 (.v 0) .nil) (.fld (.v 0) "most")) (.seq .never .skip) .skip) (.seq (.set 3 (.br 5 (.fld (.v 0) "fault") (.cons (.v 2) .nil))) (.seq (.Lv (.fld (.v 0) "answers") (.br 11 (.v 2) .nil) (.v 3)) (.seq (.GL (.fld (.v 0) "questions") (.tup (.cons (.yR (.v 1)) (.cons (.v 3) .nil)))) .skip))))
noncomputable def eY:S:=(.seq (.ret (.len (.d (.fld (.v 0) "questions")))) .skip)
noncomputable def eZ:S:=(.seq (.ret (.fld (.v 0) "whole")) .skip)
noncomputable def fb:S:=(.seq (.ret (.br 4 (.fld (.v 0) "fault") .nil)) .skip)
noncomputable def ju:S:=(.seq (.eI 0 "mark" (.v 1)) .skip)
noncomputable def iq:S:=(.seq (.ret (.cmp .gt (.br 7 (.v 1) (.cons (.fld (.v 0) "mark") .nil)) (.i 0))) .skip)
noncomputable def ua:S:=(.seq (.ret (.b true)) .skip)
noncomputable def iu:S:=(.seq (.eI 0 "number" (.v 1)) (.seq (.eI 0 "mark" (.v 2)) .skip))
noncomputable def gd:S:=(.seq (.ret (.cmp .ge (.br 7 (.v 1) (.cons (.fld (.v 0) "mark") .nil)) (.fld (.v 0) "number"))) .skip)
noncomputable def rZ:S:=(.seq (.ret (.b true)) .skip)
noncomputable def iw:S:=(.seq (.eI 0 "one" (.v 1)) (.seq (.eI 0 "other" (.v 2)) .skip))
noncomputable def d7:S:=(.seq (.ret (.br 8 (.v 1) (.cons (.fld (.v 0) "one") (.cons (.fld (.v 0) "other") .nil)))) .skip)
noncomputable def nY:S:=(.seq (.ret (.b true)) .skip)
noncomputable def fe:S:=(.seq (.ret (.br 13 (.v 1) (.cons (.fld (.v 0) "one") (.cons (.fld (.v 0) "other") .nil)))) .skip)
noncomputable def pI:S:=(.seq (.ret (.b true)) .skip)
noncomputable def d8:S:=(.seq (.ret (.br 14 (.v 1) (.cons (.fld (.v 0) "one") (.cons (.fld (.v 0) "other") .nil)))) .skip)
noncomputable def nZ:S:=(.seq (.ret (.b false)) .skip)
noncomputable def gi:S:=(.seq (.eI 0 "parts" (.yR (.v 1))) .skip)
noncomputable def fg:S:=(.seq (.ret (.all (.fr (.comp (.eH (.fld (.v 0) "parts")) 1 [] (.b true) (.br 4 (.v 0) .nil))))) .skip)
noncomputable def iy:S:=(.seq (.bQ (.eH (.fld (.v 0) "parts")) [2] (.seq (.ite (.not (.br 5 (.v 2) (.cons (.v 1) .nil))) (.seq (.ret (.b false)) .skip) .skip) .skip)) (.seq (.ret (.b true)) .skip))
noncomputable def iz:S:=(.seq (.bQ (.eH (.fld (.v 0) "parts")) [2] (.seq (.ite (.br 5 (.v 2) (.cons (.v 1) .nil)) (.seq (.ret (.b true)) .skip) .skip) .skip)) (.seq (.ret (.b false)) .skip))
noncomputable def jv:S:=(.seq (.eI 0 "part" (.v 1)) .skip)
noncomputable def iA:S:=(.seq (.ret (.not (.br 5 (.fld (.v 0) "part") (.cons (.v 1) .nil)))) .skip)
noncomputable def ub:S:=(.seq (.ret (.b false)) .skip)
noncomputable def jw:S:=(.seq (.ret (.and (.tV (.v 0) 0) (.one (.not (.tV (.v 0) 1))))) .skip)
noncomputable def lq:S:=(.seq (.ite (.not (.tV (.v 0) 2)) (.seq (.ret (.b false)) .skip) .skip) (.seq (.ite (.not (.Ab .le .le (.i 1) (.len (.v 0)) (.g 1))) (.seq (.ret (.b false)) .skip) .skip) (.seq (.ret (.all (.fr (.comp (.eH (.v 0)) 1 [] (.b true) (.ins (.v 0) (.g 0)))))) .skip)))
noncomputable def gj:S:=(.seq (.ite (.not (.tV (.v 0) 3)) (.seq .never .skip) .skip) (.seq (.ite (.cmp .gt (.len (.v 0)) (.v 1)) (.seq .never .skip) .skip) .skip))
noncomputable def fh:S:=(.seq (.ex (.call 2 (.cons (.v 0) (.cons (.v 1) .nil)))) (.seq (.bQ (.eH (.v 0)) [2] (.seq (.ite (.not (.call 1 (.cons (.v 2) .nil))) (.seq .never .skip) .skip) .skip)) .skip))
noncomputable def gm:S:=(.seq (.ite (.or (.not (.tV (.v 0) 4)) (.one (.eq true (.len (.v 0)) (.i 2)))) (.seq .never .skip) .skip) (.seq (.ite (.not (.call 1 (.cons (.ix (.v 0) (.i 0)) .nil))) (.seq .never .skip) .skip) (.seq (.ite (.or (.not (.call 0 (.cons (.ix (.v 0) (.i 1)) .nil))) (.one (.not (.Ab .le .le (.i 0) (.ix (.v 0) (.i 1)) (.v 1))))) (.seq .never .skip) .skip) .skip)))
noncomputable def fi:S:=(.seq (.ex (.call 2 (.cons (.v 0) (.cons (.g 3) .nil)))) (.seq (.set 1 (.i 0)) (.seq (.bQ (.eH (.v 0)) [2] (.seq (.ex (.call 4 (.cons (.v 2) (.cons (.v 1) .nil)))) (.seq (.set 1 (.min2 (.bin .add (.ix (.v 2) (.i 1)) (.i 1)) (.g 4))) .skip))) .skip)))
noncomputable def fj:S:=(.seq (.ex (.call 2 (.cons (.v 0) (.cons (.g 5) .nil)))) (.seq (.bQ (.eH (.v 0)) [1] (.seq (.ex (.call 3 (.cons (.v 1) (.cons (.g 6) .nil)))) (.seq (.ite (.eq true (.len (.v 1)) (.len (.ix (.v 0) (.i 0)))) (.seq .never .skip) .skip) .skip))) .skip))
noncomputable def d9:S:=(.seq (.ite (.not (.tV (.v 0) 3)) (.seq .never .skip) .skip) (.seq (.set 2 (.i 0)) (.seq (.bQ (.eH (.v 0)) [3] (.seq (.ite (.or (.not (.call 0 (.cons (.v 3) .nil))) (.one (.not (.Ab .le .lt (.v 2) (.v 3) (.v 1))))) (.seq .never .skip) .skip) (.seq (.set 2 (.bin .add (.v 3) (.i 1))) .skip))) .skip)))
noncomputable def jx:S:=(.seq (.ret (.fr (.comp (.eH (.v 1)) 1 [0] (.b true) (.ix (.v 1) (.v 0))))) .skip)
noncomputable def iB:S:=(.seq (.ret (.fr (.comp (.CP (.v 0)) 2 [1] (.eq false (.v 1) (.v 2)) (.v 0)))) .skip)
noncomputable def ec:S:=(.seq (.set 3 (.b false)) (.seq (.bQ (.eH (.v 0)) [4] (.seq (.ite (.and (.v 3) (.one (.eq false (.v 4) (.v 2)))) (.seq (.ret (.b true)) .skip) .skip) (.seq (.ite (.eq false (.v 4) (.v 1)) (.seq (.set 3 (.b true)) .skip) .skip) .skip))) (.seq (.ret (.b false)) .skip)))
noncomputable def bX:S:=(.seq (.ret (.any (.fr (.comp (.zip (.v 0) (.slt (.v 0) (.cons (.i 1) .nil) .nil)) 2 [1,2] (.b true) (.and (.eq false (.v 0) (.v 2)) (.one (.eq false (.v 1) (.v 3)))))))) .skip)
noncomputable def gu:S:=(.seq (.eI 0 "spot_marks" (.Ec (.v 1))) .skip)
noncomputable def pJ:S:=(.seq (.ret (.fr (.yQ (.fld (.v 0) "spot_marks")))) .skip)
noncomputable def dy:S:=(.seq (.ret (.cnt (.fld (.v 0) "spot_marks") (.v 1))) .skip)
noncomputable def cE:S:=(.seq (.ret (.call 10 (.cons (.fld (.v 0) "spot_marks") (.cons (.v 1) (.cons (.v 2) .nil))))) .skip)
noncomputable def jy:S:=(.seq (.ex (.call 3 (.cons (.v 1) (.cons (.g 2) .nil)))) (.seq (.bA 16 (.cons (.v 1) .nil)) .skip))
noncomputable def jz:S:=(.seq (.ret (.len (.fld (.v 0) "spot_marks"))) .skip)
noncomputable def jA:S:=(.seq (.ex (.call 7 (.cons (.v 1) (.cons (.br 9 (.v 0) .nil) .nil)))) (.seq (.ret (.mk 17 (.cons (.call 8 (.cons (.fld (.v 0) "spot_marks") (.cons (.v 1) .nil))) .nil))) .skip))
noncomputable def jB:S:=(.seq (.ret (.tup (.cons (.s "row") (.cons (.fld (.v 0) "spot_marks") .nil)))) .skip)
noncomputable def eg:S:=(.seq (.ret (.call 9 (.cons (.fld (.v 0) "spot_marks") (.cons (.v 1) .nil)))) .skip)
noncomputable def eh:S:=(.seq (.ret (.b false)) .skip)
noncomputable def dz:S:=(.seq (.ret (.call 11 (.cons (.fld (.v 0) "spot_marks") (.cons (.v 1) (.cons (.v 2) .nil))))) .skip)
noncomputable def pK:S:=(.seq (.ret (.fr (.jd (.cons (.v 1) .nil)))) .skip)
noncomputable def fk:S:=(.seq (.ex (.call 5 (.cons (.v 1) .nil))) (.seq (.bA 16 (.cons (.fr (.comp (.eH (.v 1)) 1 [] (.b true) (.ix (.v 0) (.i 0)))) .nil)) (.seq (.eI 0 "nodes" (.yR (.v 1))) .skip)))
noncomputable def fm:S:=(.seq (.ret (.len (.fld (.v 0) "nodes"))) .skip)
noncomputable def fq:S:=(.seq (.ex (.call 7 (.cons (.v 1) (.cons (.br 9 (.v 0) .nil) .nil)))) (.seq (.set 2 (.yc (.fr (.comp (.eH (.v 1)) 1 [] (.b true) (.tup (.cons (.v 0) (.cons (.b true) .nil))))))) (.seq (.fL 3 (.jd .nil)) (.seq (.fL 4 (.jd (.cons (.i 0) .nil))) (.seq (.bQ (.CP (.fld (.v 0) "nodes")) [5,6] (.seq (.fL 4 (.Ac (.o 4) .nil (.cons (.bin .add (.ix (.v 6) (.i 1)) (.i 1)) .nil))) (.seq (.set 7 (.ix (.o 4) (.neg (.i 1)))) (.seq (.ite (.ind (.v 5) (.v 2)) (.seq (.app 3 (.tup (.cons (.ix (.v 6) (.i 0)) (.cons (.v 7) .nil)))) (.seq (.app 4 (.bin .add (.v 7) (.i 1))) .skip)) (.seq (.app 4 (.v 7)) .skip)) .skip)))) (.seq (.eM 3) (.seq (.ret (.mk 18 (.cons (.v 3) .nil))) .skip)))))))
noncomputable def fu:S:=(.seq (.ret (.tup (.cons (.s "forest") (.cons (.fld (.v 0) "nodes") .nil)))) .skip)
noncomputable def cF:S:=(.seq (.ret (.call 9 (.cons (.fld (.v 0) "spot_marks") (.cons (.v 1) .nil)))) .skip)
noncomputable def cG:S:=(.seq (.bQ (.eH (.br 12 (.v 0) (.cons (.v 1) .nil))) [3] (.seq (.ite (.wP false (.v 2) (.call 8 (.cons (.fld (.v 0) "spot_marks") (.cons (.fr (.Ac (.br 15 (.v 0) (.cons (.v 3) .nil)) (.cons (.i 1) .nil) .nil)) .nil)))) (.seq (.ret (.b true)) .skip) .skip) .skip)) (.seq (.ret (.b false)) .skip))
noncomputable def cn:S:=(.seq (.bQ (.eH (.br 12 (.v 0) (.cons (.v 1) .nil))) [3] (.seq (.set 4 (.bin .add (.ix (.br 15 (.v 0) (.cons (.v 3) .nil)) (.neg (.i 1))) (.i 1))) (.seq (.ite (.and (.cmp .lt (.v 4) (.br 9 (.v 0) .nil)) (.one (.eq false (.ix (.fld (.v 0) "nodes") (.v 4)) (.tup (.cons (.v 2) (.cons (.ix (.ix (.fld (.v 0) "nodes") (.v 3)) (.i 1)) .nil)))))) (.seq (.ret (.b true)) .skip) .skip) .skip))) (.seq (.ret (.b false)) .skip))
noncomputable def cZ:S:=(.seq (.set 2 (.bin .add (.v 1) (.i 1))) (.seq (.JR (.and (.cmp .lt (.v 2) (.br 9 (.v 0) .nil)) (.one (.cmp .gt (.ix (.ix (.fld (.v 0) "nodes") (.v 2)) (.i 1)) (.ix (.ix (.fld (.v 0) "nodes") (.v 1)) (.i 1))))) (.seq (.aug 2 .add (.i 1)) .skip)) (.seq (.ret (.fr (.GI (.v 1) (.v 2)))) .skip)))
noncomputable def gv:S:=(.seq (.ex (.call 6 (.cons (.v 1) .nil))) (.seq (.fL 2 (.jd .nil)) (.seq (.bQ (.eH (.v 1)) [3] (.seq (.ext 2 (.v 3)) .skip)) (.seq (.eM 2) (.seq (.bA 16 (.cons (.v 2) .nil)) (.seq (.eI 0 "lines" (.yR (.fr (.comp (.eH (.v 1)) 1 [] (.b true) (.yR (.v 0)))))) (.seq (.eI 0 "columns" (.GG (.tr (.v 1)) (.len (.ix (.v 1) (.i 0))) (.i 0))) .skip)))))))
noncomputable def gw:S:=(.seq (.ret (.bin .add (.len (.fld (.v 0) "lines")) (.fld (.v 0) "columns"))) .skip)
noncomputable def gA:S:=(.seq (.ex (.call 7 (.cons (.v 1) (.cons (.br 9 (.v 0) .nil) .nil)))) (.seq (.set 2 (.len (.fld (.v 0) "lines"))) (.seq (.set 3 (.fr (.comp (.eH (.v 1)) 1 [0,2] (.cmp .lt (.v 0) (.v 2)) (.ix (.fld (.v 1) "lines") (.v 0))))) (.seq (.set 4 (.fr (.comp (.eH (.v 1)) 1 [2] (.cmp .ge (.v 0) (.v 1)) (.bin .sub (.v 0) (.v 1))))) (.seq (.yr 5 19 (.cons (.fr (.comp (.eH (.v 3)) 1 [4] (.b true) (.call 8 (.cons (.v 0) (.cons (.v 1) .nil))))) .nil)) (.seq (.eI 5 "columns" (.len (.v 4))) (.seq (.eM 5) (.seq (.ret (.v 5)) .skip))))))))
noncomputable def gB:S:=(.seq (.ret (.tup (.cons (.s "table") (.cons (.fld (.v 0) "columns") (.cons (.fld (.v 0) "lines") .nil))))) .skip)
noncomputable def lr:S:=(.seq (.ret (.fr (.comp (.CP (.fld (.v 0) "lines")) 2 [1] (.wP false (.v 2) (.v 1)) (.v 0)))) .skip)
noncomputable def db:S:=(.seq (.bQ (.kP (.fld (.v 0) "columns")) [3] (.seq (.ite (.call 10 (.cons (.fr (.comp (.eH (.fld (.v 0) "lines")) 1 [3] (.b true) (.ix (.v 0) (.v 1)))) (.cons (.v 1) (.cons (.v 2) .nil)))) (.seq (.ret (.b true)) .skip) .skip) .skip)) (.seq (.ret (.b false)) .skip))
noncomputable def cH:S:=(.seq (.ret (.any (.fr (.comp (.eH (.fld (.v 0) "lines")) 1 [1,2] (.b true) (.call 11 (.cons (.v 0) (.cons (.v 1) (.cons (.v 2) .nil)))))))) .skip)
noncomputable def mI:S:=(.seq (.ret (.fr (.jd (.cons (.v 1) .nil)))) .skip)
noncomputable def em:S:=(.seq (.ite (.cmp .lt (.v 1) (.len (.v 0))) (.seq (.ret (.ix (.v 0) (.v 1))) .skip) .skip) (.seq (.ret (.bin .add (.bin .mul (.i 7) (.v 1)) (.i 3))) .skip))
noncomputable def dA:S:=(.seq (.set 1 (.s "abcdefghijklmnopqrstuvwxyz")) (.seq (.set 2 (.s "")) (.seq (.set 3 (.bin .mod (.v 0) (.bin .pow (.i 10) (.i 12)))) (.seq (.bQ (.kP (.bin .mod (.v 3) (.i 8))) [4] (.seq (.set 3 (.bin .fdiv (.v 3) (.i 8))) (.seq (.set 2 (.bin .add (.v 2) (.ix (.v 1) (.bin .mod (.v 3) (.i 26))))) .skip))) (.seq (.set 5 (.bin .mod (.bin .fdiv (.v 0) (.i 8)) (.bin .add (.len (.v 2)) (.i 1)))) (.seq (.set 6 (.bin .mod (.bin .fdiv (.v 0) (.i 64)) (.i 26))) (.seq (.set 7 (.ix (.fr (.jd (.cons (.i 4) (.cons (.i 4) (.cons (.i 4) (.cons (.i 10) .nil)))))) (.bin .mod (.bin .fdiv (.v 0) (.i 1664)) (.i 4)))) (.seq (.ret (.fr (.comp (.kP (.v 7)) 1 [2,1,5,6] (.b true) (.bin .add (.bin .add (.CQ (.v 1) .nil (.cons (.v 3) .nil)) (.ix (.v 2) (.bin .mod (.bin .add (.v 4) (.bin .mul (.i 3) (.v 0))) (.i 26)))) (.CQ (.v 1) (.cons (.v 3) .nil) .nil))))) .skip))))))))
noncomputable def eo:S:=(.seq (.ite (.eq false (.bin .mod (.v 0) (.i 16)) (.i 5)) (.seq (.ret (.bin .mod (.bin .fdiv (.v 0) (.i 16)) (.i 41))) .skip) .skip) (.seq (.ret (.bin .mod (.bin .fdiv (.v 0) (.i 16)) (.i 9))) .skip))
noncomputable def fv:S:=(.seq (.fL 4 (.jd .nil)) (.seq (.bQ (.kP (.v 2)) [5] (.seq (.set 6 (.bin .add (.call 12 (.cons (.v 0) (.cons (.bin .add (.v 1) (.bin .mod (.v 5) (.i 12))) .nil))) (.bin .mul (.i 11) (.bin .fdiv (.v 5) (.i 12))))) (.seq (.app 4 (.ix (.v 3) (.ix (.fr (.jd (.cons (.ix (.fr (.jd (.cons (.i 0) (.cons (.i 0) (.cons (.i 1) (.cons (.i 1) (.cons (.i 2) (.cons (.i 2) (.cons (.i 3) .nil))))))))) (.bin .mod (.v 6) (.i 7))) (.cons (.bin .mod (.v 6) (.len (.v 3))) .nil)))) (.mB (.cmp .gt (.len (.v 3)) (.i 4)))))) .skip))) (.seq (.eM 4) (.seq (.ret (.v 4)) .skip))))
noncomputable def dc:S:=(.seq (.fL 3 (.jd .nil)) (.seq (.set 4 (.i 0)) (.seq (.bQ (.kP (.len (.v 2))) [5] (.seq (.set 6 (.bin .add (.bin .fdiv (.call 12 (.cons (.v 0) (.cons (.bin .add (.v 1) (.bin .mod (.v 5) (.i 12))) .nil))) (.i 7)) (.bin .mul (.i 3) (.bin .fdiv (.v 5) (.i 12))))) (.seq (.set 4 (.bin .mul (.bin .mod (.bin .mod (.v 6) (.i 7)) (.bin .add (.v 4) (.i 2))) (.mB (.cmp .gt (.v 5) (.i 0))))) (.seq (.app 3 (.tup (.cons (.ix (.v 2) (.v 5)) (.cons (.v 4) .nil)))) .skip)))) (.seq (.eM 3) (.seq (.ret (.tup (.cons (.s "forest") (.cons (.v 3) .nil)))) .skip)))))
noncomputable def jC:S:=(.seq (.set 1 (.i 1)) (.seq (.JR (.cmp .le (.v 1) (.v 0)) (.seq (.set 1 (.bin .mul (.i 4) (.v 1))) .skip)) (.seq (.set 2 (.bin .mod (.bin .mul (.bin .add (.bin .mod (.v 0) (.bin .pow (.i 10) (.i 15))) (.i 11)) (.i 6364136223846793013)) (.bin .sub (.bin .pow (.i 2) (.i 61)) (.i 1)))) (.seq (.ret (.bin .add (.v 0) (.bin .mul (.v 1) (.bin .mod (.bin .mul (.v 2) (.i 69621)) (.bin .sub (.bin .pow (.i 2) (.i 61)) (.i 1)))))) .skip))))
noncomputable def cI:S:=(.seq (.set 2 (.bin .mod (.bin .fdiv (.v 0) (.i 3)) (.i 10))) (.seq (.set 3 (.bin .mod (.bin .fdiv (.v 0) (.i 30)) (.i 5))) (.seq (.set 4 (.bin .mod (.bin .fdiv (.v 0) (.i 150)) (.i 5))) (.seq (.set 5 (.bin .fdiv (.v 0) (.i 750))) (.seq (.ite (.eq false (.bin .mod (.v 0) (.i 3)) (.i 2)) (.seq (.set 2 (.bin .mul (.v 3) (.v 4))) .skip) .skip) (.seq (.fL 6 (.jd .nil)) (.seq (.bQ (.kP (.v 2)) [7] (.seq (.app 6 (.ix (.v 1) (.bin .mod (.v 5) (.len (.v 1))))) (.seq (.set 5 (.bin .fdiv (.v 5) (.len (.v 1)))) .skip))) (.seq (.ite (.eq false (.bin .mod (.v 0) (.i 3)) (.i 0)) (.seq (.eM 6) (.seq (.ret (.tup (.cons (.s "row") (.cons (.v 6) .nil)))) .skip)) .skip) (.seq (.ite (.eq false (.bin .mod (.v 0) (.i 3)) (.i 2)) (.seq (.eM 6) (.seq (.ret (.tup (.cons (.s "table") (.cons (.bin .mul (.v 3) (.mB (.cmp .gt (.v 4) (.i 0)))) (.cons (.fr (.comp (.kP (.v 4)) 1 [6,3] (.b true) (.fr (.Ac (.v 1) (.cons (.bin .mul (.v 2) (.v 0)) .nil) (.cons (.bin .add (.bin .mul (.v 2) (.v 0)) (.v 2)) .nil))))) .nil))))) .skip)) .skip) (.seq (.fL 8 (.jd .nil)) (.seq (.set 9 (.i 1)) (.seq (.bQ (.kP (.v 2)) [7] (.seq (.app 8 (.tup (.cons (.ix (.o 6) (.v 7)) (.cons (.bin .mod (.v 5) (.v 9)) .nil)))) (.seq (.set 5 (.bin .fdiv (.v 5) (.v 9))) (.seq (.set 9 (.bin .add (.ix (.ix (.o 8) (.neg (.i 1))) (.i 1)) (.i 2))) .skip)))) (.seq (.eM 8) (.seq (.ret (.tup (.cons (.s "forest") (.cons (.v 8) .nil)))) .skip))))))))))))))
noncomputable def fw:S:=(.seq (.set 3 (.call 12 (.cons (.v 0) (.cons (.v 1) .nil)))) (.seq (.ite (.eq false (.bin .mod (.v 3) (.i 2)) (.i 1)) (.seq (.ret (.call 18 (.cons (.call 17 (.cons (.bin .fdiv (.v 3) (.i 2)) .nil)) (.cons (.v 2) .nil)))) .skip) .skip) (.seq (.set 3 (.bin .fdiv (.v 3) (.i 2))) (.seq (.set 4 (.call 14 (.cons (.bin .fdiv (.v 3) (.i 3)) .nil))) (.seq (.ite (.eq false (.bin .mod (.v 3) (.i 3)) (.i 0)) (.seq (.ret (.tup (.cons (.s "row") (.cons (.call 15 (.cons (.v 0) (.cons (.bin .add (.v 1) (.i 1)) (.cons (.v 4) (.cons (.v 2) .nil))))) .nil)))) .skip) .skip) (.seq (.ite (.eq false (.bin .mod (.v 3) (.i 3)) (.i 1)) (.seq (.ret (.call 16 (.cons (.v 0) (.cons (.bin .add (.v 1) (.i 1)) (.cons (.call 15 (.cons (.v 0) (.cons (.bin .add (.v 1) (.i 1)) (.cons (.v 4) (.cons (.v 2) .nil))))) .nil))))) .skip) .skip) (.seq (.set 5 (.bin .mod (.bin .fdiv (.v 3) (.i 48)) (.i 5))) (.seq (.set 6 (.bin .mod (.v 4) (.i 6))) (.seq (.ite (.cmp .gt (.v 4) (.i 9)) (.seq (.set 5 (.bin .add (.i 1) (.bin .mod (.bin .fdiv (.v 3) (.i 48)) (.i 8)))) (.seq (.set 6 (.bin .mod (.bin .fdiv (.v 3) (.i 384)) (.i 9))) .skip)) .skip) (.seq (.set 7 (.call 15 (.cons (.v 0) (.cons (.bin .add (.v 1) (.i 1)) (.cons (.bin .mul (.v 5) (.v 6)) (.cons (.v 2) .nil)))))) (.seq (.ret (.tup (.cons (.s "table") (.cons (.bin .mul (.v 5) (.mB (.cmp .gt (.v 6) (.i 0)))) (.cons (.fr (.comp (.kP (.v 6)) 1 [7,5] (.b true) (.fr (.Ac (.v 1) (.cons (.bin .mul (.v 2) (.v 0)) .nil) (.cons (.bin .add (.bin .mul (.v 2) (.v 0)) (.v 2)) .nil))))) .nil))))) .skip)))))))))))
noncomputable def de:S:=(.seq (.ite (.eq false (.ix (.v 0) (.i 0)) (.s "table")) (.seq (.ret (.bin .add (.len (.ix (.v 0) (.i 2))) (.ix (.v 0) (.i 1)))) .skip) .skip) (.seq (.ret (.len (.ix (.v 0) (.i 1)))) .skip))
noncomputable def cy:S:=(.seq (.ite (.eq false (.ix (.v 0) (.i 0)) (.s "row")) (.seq (.ret (.tup (.cons (.s "row") (.cons (.fr (.comp (.eH (.v 1)) 1 [0] (.b true) (.ix (.ix (.v 1) (.i 1)) (.v 0)))) .nil)))) .skip) .skip) (.seq (.ite (.eq false (.ix (.v 0) (.i 0)) (.s "table")) (.seq (.set 2 (.fr (.comp (.eH (.v 1)) 1 [0] (.cmp .ge (.v 0) (.len (.ix (.v 1) (.i 2)))) (.bin .sub (.v 0) (.len (.ix (.v 1) (.i 2))))))) (.seq (.set 3 (.fr (.comp (.eH (.v 1)) 1 [0] (.cmp .lt (.v 0) (.len (.ix (.v 1) (.i 2)))) (.ix (.ix (.v 1) (.i 2)) (.v 0))))) (.seq (.ret (.tup (.cons (.s "table") (.cons (.len (.v 2)) (.cons (.fr (.yq (.eH (.v 3)) [2] (.b true) (.fr (.comp (.eH (.v 1)) 1 [0] (.b true) (.ix (.v 1) (.v 0)))))) .nil))))) .skip))) .skip) (.seq (.fL 4 (.jd .nil)) (.seq (.bQ (.eH (.v 1)) [5] (.seq (.set 6 (.ix (.ix (.ix (.v 0) (.i 1)) (.v 5)) (.i 1))) (.seq (.set 7 (.i 0)) (.seq (.bQ (.rev (.v 5)) [8] (.seq (.ite (.cmp .lt (.ix (.ix (.ix (.v 0) (.i 1)) (.v 8)) (.i 1)) (.v 6)) (.seq (.set 6 (.ix (.ix (.ix (.v 0) (.i 1)) (.v 8)) (.i 1))) (.seq (.set 7 (.bin .add (.v 7) (.mB (.wP false (.v 8) (.v 1))))) .skip)) .skip) .skip)) (.seq (.app 4 (.tup (.cons (.ix (.ix (.ix (.v 0) (.i 1)) (.v 5)) (.i 0)) (.cons (.v 7) .nil)))) .skip))))) (.seq (.eM 4) (.seq (.ret (.tup (.cons (.s "forest") (.cons (.v 4) .nil)))) .skip))))))
noncomputable def iC:S:=(.seq (.ite (.eq false (.ix (.v 0) (.i 0)) (.s "row")) (.seq (.ret (.mk 17 (.cons (.fr (.yQ (.ix (.v 0) (.i 1)))) .nil))) .skip) .skip) (.seq (.ite (.eq false (.ix (.v 0) (.i 0)) (.s "forest")) (.seq (.ret (.mk 18 (.cons (.fr (.yQ (.ix (.v 0) (.i 1)))) .nil))) .skip) .skip) (.seq (.ret (.mk 19 (.cons (.fr (.comp (.eH (.ix (.v 0) (.i 2))) 1 [] (.b true) (.fr (.yQ (.v 0))))) .nil))) .skip)))
noncomputable def gC:S:=(.seq (.fL 1 (.jd .nil)) (.seq (.ite (.eq false (.ix (.v 0) (.i 0)) (.s "row")) (.seq (.bQ (.kP (.len (.ix (.v 0) (.i 1)))) [2] (.seq (.app 1 (.tup (.cons (.ix (.ix (.v 0) (.i 1)) (.v 2)) (.cons (.i 0) (.cons (.v 2) .nil))))) .skip)) .skip) .skip) (.seq (.ite (.eq false (.ix (.v 0) (.i 0)) (.s "forest")) (.seq (.bQ (.kP (.len (.ix (.v 0) (.i 1)))) [2] (.seq (.app 1 (.tup (.cons (.ix (.ix (.ix (.v 0) (.i 1)) (.v 2)) (.i 0)) (.cons (.ix (.ix (.ix (.v 0) (.i 1)) (.v 2)) (.i 1)) (.cons (.v 2) .nil))))) .skip)) .skip) .skip) (.seq (.ite (.eq false (.ix (.v 0) (.i 0)) (.s "table")) (.seq (.bQ (.kP (.len (.ix (.v 0) (.i 2)))) [3] (.seq (.bQ (.kP (.ix (.v 0) (.i 1))) [4] (.seq (.app 1 (.tup (.cons (.ix (.ix (.ix (.v 0) (.i 2)) (.v 3)) (.v 4)) (.cons (.v 3) (.cons (.v 4) .nil))))) .skip)) .skip)) .skip) .skip) (.seq (.eM 1) (.seq (.ret (.v 1)) .skip))))))
noncomputable def cJ:S:=(.seq (.ite (.eq false (.ix (.v 0) (.i 0)) (.s "table")) (.seq (.ret (.and (.eq false (.ix (.ix (.v 1) (.v 2)) (.i 2)) (.ix (.ix (.v 1) (.v 3)) (.i 2))) (.one (.cmp .lt (.ix (.ix (.v 1) (.v 2)) (.i 1)) (.ix (.ix (.v 1) (.v 3)) (.i 1)))))) .skip) .skip) (.seq (.ite (.or (.eq false (.ix (.v 0) (.i 0)) (.s "row")) (.one (.cmp .le (.v 3) (.v 2)))) (.seq (.ret (.b false)) .skip) .skip) (.seq (.bQ (.Eb (.bin .add (.v 2) (.i 1)) (.bin .add (.v 3) (.i 1))) [4] (.seq (.ite (.cmp .le (.ix (.ix (.v 1) (.v 4)) (.i 1)) (.ix (.ix (.v 1) (.v 2)) (.i 1))) (.seq (.ret (.b false)) .skip) .skip) .skip)) (.seq (.ret (.b true)) .skip))))
noncomputable def bY:S:=(.seq (.ite (.eq false (.ix (.v 0) (.i 0)) (.s "table")) (.seq (.ret (.and (.eq false (.ix (.ix (.v 1) (.v 2)) (.i 1)) (.ix (.ix (.v 1) (.v 3)) (.i 1))) (.one (.eq false (.bin .add (.ix (.ix (.v 1) (.v 2)) (.i 2)) (.i 1)) (.ix (.ix (.v 1) (.v 3)) (.i 2)))))) .skip) .skip) (.seq (.ite (.eq false (.ix (.v 0) (.i 0)) (.s "row")) (.seq (.ret (.eq false (.bin .add (.v 2) (.i 1)) (.v 3))) .skip) .skip) (.seq (.ite (.or (.cmp .le (.v 3) (.v 2)) (.one (.eq true (.ix (.ix (.v 1) (.v 2)) (.i 1)) (.ix (.ix (.v 1) (.v 3)) (.i 1))))) (.seq (.ret (.b false)) .skip) .skip) (.seq (.bQ (.Eb (.bin .add (.v 2) (.i 1)) (.v 3)) [4] (.seq (.ite (.cmp .le (.ix (.ix (.v 1) (.v 4)) (.i 1)) (.ix (.ix (.v 1) (.v 2)) (.i 1))) (.seq (.ret (.b false)) .skip) .skip) .skip)) (.seq (.ret (.b true)) .skip)))))
noncomputable def dB:S:=(.seq (.set 2 (.call 23 (.cons (.v 1) .nil))) (.seq (.set 3 (.fr (.comp (.kP (.len (.v 2))) 1 [0,2] (.eq false (.ix (.ix (.v 2) (.v 0)) (.i 0)) (.ix (.v 1) (.i 1))) (.v 0)))) (.seq (.set 4 (.fr (.comp (.kP (.len (.v 2))) 1 [0,2] (.eq false (.ix (.ix (.v 2) (.v 0)) (.i 0)) (.ix (.v 1) (.i 2))) (.v 0)))) (.seq (.ite (.eq false (.ix (.v 0) (.i 0)) (.s "before")) (.seq (.ret (.and (.cmp .gt (.len (.v 3)) (.i 0)) (.and (.cmp .gt (.len (.v 4)) (.i 0)) (.one (.cmp .lt (.ix (.v 3) (.i 0)) (.ix (.v 4) (.neg (.i 1)))))))) .skip) .skip) (.seq (.bQ (.eH (.v 3)) [5] (.seq (.bQ (.eH (.v 4)) [6] (.seq (.ite (.and (.eq false (.ix (.v 0) (.i 0)) (.s "under")) (.and (.eq true (.v 5) (.v 6)) (.one (.call 24 (.cons (.v 1) (.cons (.v 2) (.cons (.v 5) (.cons (.v 6) .nil)))))))) (.seq (.ret (.b true)) .skip) .skip) (.seq (.ite (.and (.eq false (.ix (.v 0) (.i 0)) (.s "beside")) (.and (.eq true (.v 5) (.v 6)) (.one (.call 25 (.cons (.v 1) (.cons (.v 2) (.cons (.v 5) (.cons (.v 6) .nil)))))))) (.seq (.ret (.b true)) .skip) .skip) .skip))) .skip)) (.seq (.ret (.b false)) .skip))))))
noncomputable def cK:S:=(.seq (.ite (.eq false (.ix (.v 0) (.i 0)) (.s "has")) (.seq (.ret (.wP false (.ix (.v 0) (.i 1)) (.fr (.comp (.eH (.call 23 (.cons (.v 1) .nil))) 1 [] (.b true) (.ix (.v 0) (.i 0)))))) .skip) .skip) (.seq (.ite (.eq false (.ix (.v 0) (.i 0)) (.s "many")) (.seq (.ret (.cmp .ge (.len (.fr (.comp (.eH (.call 23 (.cons (.v 1) .nil))) 1 [0] (.eq false (.ix (.v 0) (.i 0)) (.ix (.v 1) (.i 2))) (.v 0)))) (.ix (.v 0) (.i 1)))) .skip) .skip) (.seq (.ite (.eq false (.ix (.v 0) (.i 0)) (.s "not")) (.seq (.ret (.not (.call 27 (.cons (.ix (.v 0) (.i 1)) (.cons (.v 1) .nil))))) .skip) .skip) (.seq (.ite (.eq false (.ix (.v 0) (.i 0)) (.s "all")) (.seq (.ret (.eq false (.len (.fr (.comp (.eH (.ix (.v 0) (.i 1))) 1 [1] (.not (.call 27 (.cons (.v 0) (.cons (.v 1) .nil)))) (.v 0)))) (.i 0))) .skip) .skip) (.seq (.ite (.eq false (.ix (.v 0) (.i 0)) (.s "any")) (.seq (.ret (.cmp .gt (.len (.fr (.comp (.eH (.ix (.v 0) (.i 1))) 1 [1] (.call 27 (.cons (.v 0) (.cons (.v 1) .nil))) (.v 0)))) (.i 0))) .skip) .skip) (.seq (.ret (.call 26 (.cons (.v 0) (.cons (.v 1) .nil)))) .skip))))))
noncomputable def cL:S:=(.seq (.ite (.eq false (.ix (.v 0) (.i 0)) (.s "has")) (.seq (.ret (.mk 6 (.cons (.ix (.v 0) (.i 1)) .nil))) .skip) .skip) (.seq (.ite (.eq false (.ix (.v 0) (.i 0)) (.s "many")) (.seq (.ret (.mk 7 (.cons (.ix (.v 0) (.i 1)) (.cons (.ix (.v 0) (.i 2)) .nil)))) .skip) .skip) (.seq (.ite (.eq false (.ix (.v 0) (.i 0)) (.s "before")) (.seq (.ret (.mk 9 (.cons (.ix (.v 0) (.i 1)) (.cons (.ix (.v 0) (.i 2)) .nil)))) .skip) .skip) (.seq (.ite (.eq false (.ix (.v 0) (.i 0)) (.s "under")) (.seq (.ret (.mk 10 (.cons (.ix (.v 0) (.i 1)) (.cons (.ix (.v 0) (.i 2)) .nil)))) .skip) .skip) (.seq (.ite (.eq false (.ix (.v 0) (.i 0)) (.s "beside")) (.seq (.ret (.mk 11 (.cons (.ix (.v 0) (.i 1)) (.cons (.ix (.v 0) (.i 2)) .nil)))) .skip) .skip) (.seq (.ite (.eq false (.ix (.v 0) (.i 0)) (.s "not")) (.seq (.ret (.mk 15 (.cons (.call 28 (.cons (.ix (.v 0) (.i 1)) .nil)) .nil))) .skip) .skip) (.seq (.set 1 (.fr (.comp (.eH (.ix (.v 0) (.i 1))) 1 [] (.b true) (.call 28 (.cons (.v 0) .nil))))) (.seq (.ite (.eq false (.ix (.v 0) (.i 0)) (.s "all")) (.seq (.ret (.mk 13 (.cons (.v 1) .nil))) .skip) .skip) (.seq (.ret (.mk 14 (.cons (.v 1) .nil))) .skip)))))))))
noncomputable def fz:S:=(.seq (.set 3 (.ix (.v 1) (.bin .mod (.bin .fdiv (.v 0) (.i 16)) (.len (.v 1))))) (.seq (.set 4 (.ix (.v 1) (.bin .mod (.bin .fdiv (.v 0) (.i 64)) (.len (.v 1))))) (.seq (.set 5 (.bin .mod (.v 0) (.i 8))) (.seq (.ite (.and (.eq false (.v 5) (.i 6)) (.one (.not (.v 2)))) (.seq (.ret (.tup (.cons (.s "beside") (.cons (.v 3) (.cons (.v 4) .nil))))) .skip) .skip) (.seq (.ite (.and (.eq false (.v 5) (.i 7)) (.one (.not (.v 2)))) (.seq (.ret (.tup (.cons (.s "not") (.cons (.tup (.cons (.s "many") (.cons (.bin .add (.i 1) (.bin .mod (.bin .fdiv (.v 0) (.i 8)) (.i 3))) (.cons (.v 3) .nil)))) .nil)))) .skip) .skip) (.seq (.ite (.eq false (.bin .mod (.v 5) (.i 4)) (.i 0)) (.seq (.ret (.tup (.cons (.s "has") (.cons (.v 3) .nil)))) .skip) .skip) (.seq (.ite (.eq false (.bin .mod (.v 5) (.i 4)) (.i 1)) (.seq (.ret (.tup (.cons (.s "many") (.cons (.bin .add (.i 1) (.bin .mod (.bin .fdiv (.v 0) (.i 8)) (.i 6))) (.cons (.v 3) .nil))))) .skip) .skip) (.seq (.ite (.eq false (.bin .mod (.v 5) (.i 4)) (.i 2)) (.seq (.ret (.tup (.cons (.s "before") (.cons (.v 3) (.cons (.v 4) .nil))))) .skip) .skip) (.seq (.ret (.tup (.cons (.s "under") (.cons (.v 3) (.cons (.v 4) .nil))))) .skip)))))))))
noncomputable def cr:S:=(.seq (.set 4 (.call 12 (.cons (.v 0) (.cons (.v 1) .nil)))) (.seq (.fL 5 (.jd .nil)) (.seq (.set 6 (.call 17 (.cons (.call 12 (.cons (.v 0) (.cons (.bin .add (.v 1) (.i 1)) .nil))) .nil))) (.seq (.bQ (.kP (.bin .add (.i 1) (.bin .mod (.v 4) (.i 3)))) [7] (.seq (.set 8 (.call 12 (.cons (.v 0) (.cons (.bin .add (.bin .add (.v 1) (.i 1)) (.bin .mul (.i 2) (.v 7))) .nil)))) (.seq (.set 9 (.call 12 (.cons (.v 0) (.cons (.bin .add (.bin .add (.v 1) (.i 2)) (.bin .mul (.i 2) (.v 7))) .nil)))) (.seq (.ite (.eq false (.bin .mod (.bin .fdiv (.v 4) (.i 216)) (.i 2)) (.i 1)) (.seq (.set 8 (.bin .mod (.v 6) (.i 768))) (.seq (.set 9 (.bin .mod (.bin .fdiv (.v 6) (.i 768)) (.i 256))) (.seq (.set 6 (.bin .fdiv (.bin .fdiv (.v 6) (.i 768)) (.i 256))) .skip))) .skip) (.seq (.set 10 (.call 29 (.cons (.v 8) (.cons (.v 2) (.cons (.v 3) .nil))))) (.seq (.ite (.eq false (.bin .mod (.bin .fdiv (.v 8) (.i 256)) (.i 3)) (.i 1)) (.seq (.set 10 (.tup (.cons (.s "any") (.cons (.fr (.jd (.cons (.v 10) (.cons (.call 29 (.cons (.v 9) (.cons (.v 2) (.cons (.v 3) .nil)))) .nil)))) .nil)))) .skip) .skip) (.seq (.app 5 (.v 10)) .skip))))))) (.seq (.ite (.eq false (.len (.o 5)) (.i 1)) (.seq (.ret (.ix (.o 5) (.i 0))) .skip) .skip) (.seq (.eM 5) (.seq (.ret (.tup (.cons (.ix (.fr (.jd (.cons (.s "all") (.cons (.s "all") (.cons (.s "any") .nil))))) (.bin .mod (.bin .fdiv (.v 4) (.i 3)) (.i 3))) (.cons (.v 5) .nil)))) .skip)))))))
noncomputable def gD:S:=(.seq (.set 3 (.bin .mod (.v 2) (.len (.v 1)))) (.seq (.set 4 (.ix (.ix (.v 1) (.v 3)) (.i 0))) (.seq (.set 5 (.bin .mod (.bin .fdiv (.v 2) (.i 40)) (.i 4))) (.seq (.set 6 (.fr (.comp (.kP (.len (.v 1))) 1 [0,1,3] (.call 24 (.cons (.v 1) (.cons (.v 2) (.cons (.v 3) (.cons (.v 0) .nil))))) (.v 0)))) (.seq (.ite (.eq false (.v 5) (.i 1)) (.seq (.ret (.tup (.cons (.s "many") (.cons (.bin .add (.i 1) (.bin .mod (.bin .fdiv (.v 2) (.i 160)) (.len (.fr (.comp (.eH (.v 1)) 1 [4] (.eq false (.ix (.v 0) (.i 0)) (.v 1)) (.v 0)))))) (.cons (.v 4) .nil))))) .skip) .skip) (.seq (.ite (.and (.eq false (.v 5) (.i 2)) (.one (.cmp .gt (.len (.v 6)) (.i 0)))) (.seq (.ret (.tup (.cons (.s "under") (.cons (.v 4) (.cons (.ix (.ix (.v 1) (.ix (.v 6) (.bin .mod (.bin .fdiv (.v 2) (.i 160)) (.len (.v 6))))) (.i 0)) .nil))))) .skip) .skip) (.seq (.ite (.and (.cmp .gt (.v 5) (.i 0)) (.one (.cmp .lt (.bin .add (.v 3) (.i 1)) (.len (.v 1))))) (.seq (.ret (.tup (.cons (.s "before") (.cons (.v 4) (.cons (.ix (.ix (.v 1) (.bin .add (.bin .add (.v 3) (.i 1)) (.bin .mod (.bin .fdiv (.v 2) (.i 160)) (.bin .sub (.bin .sub (.len (.v 1)) (.v 3)) (.i 1))))) (.i 0)) .nil))))) .skip) .skip) (.seq (.ret (.tup (.cons (.s "has") (.cons (.v 4) .nil)))) .skip))))))))
noncomputable def dC:S:=(.seq (.set 5 (.call 12 (.cons (.v 0) (.cons (.v 1) .nil)))) (.seq (.set 6 (.call 30 (.cons (.v 0) (.cons (.v 1) (.cons (.v 2) (.cons (.v 4) .nil)))))) (.seq (.set 7 (.call 23 (.cons (.v 3) .nil))) (.seq (.set 8 (.bin .mod (.bin .fdiv (.v 5) (.i 9)) (.i 8))) (.seq (.ite (.or (.eq false (.len (.v 7)) (.i 0)) (.one (.eq false (.v 8) (.i 7)))) (.seq (.ret (.v 6)) .skip) .skip) (.seq (.fL 9 (.jd .nil)) (.seq (.bQ (.kP (.bin .add (.i 2) (.bin .mod (.bin .fdiv (.v 5) (.i 72)) (.i 5)))) [10] (.seq (.app 9 (.call 31 (.cons (.v 3) (.cons (.v 7) (.cons (.bin .add (.call 12 (.cons (.v 0) (.cons (.bin .add (.bin .add (.v 1) (.i 1)) (.v 10)) .nil))) (.bin .mul (.i 29) (.v 10))) .nil))))) .skip)) (.seq (.ite (.and (.not (.v 4)) (.and (.eq false (.v 8) (.i 1)) (.one (.not (.call 27 (.cons (.v 6) (.cons (.v 3) .nil))))))) (.seq (.ret (.tup (.cons (.s "all") (.cons (.fr (.cat (.fr (.Ac (.o 9) .nil (.cons (.i 5) .nil))) (.fr (.jd (.cons (.tup (.cons (.s "not") (.cons (.v 6) .nil))) .nil))))) .nil)))) .skip) .skip) (.seq (.ite (.cmp .lt (.v 8) (.i 4)) (.seq (.eM 9) (.seq (.ret (.tup (.cons (.s "all") (.cons (.v 9) .nil)))) .skip)) .skip) (.seq (.ite (.eq false (.v 8) (.i 4)) (.seq (.eM 9) (.seq (.ret (.tup (.cons (.s "any") (.cons (.fr (.jd (.cons (.v 6) (.cons (.tup (.cons (.s "all") (.cons (.v 9) .nil))) .nil)))) .nil)))) .skip)) .skip) (.seq (.ite (.eq false (.v 8) (.i 5)) (.seq (.eM 9) (.seq (.ret (.tup (.cons (.s "all") (.cons (.fr (.jd (.cons (.tup (.cons (.s "all") (.cons (.v 9) .nil))) (.cons (.v 6) .nil)))) .nil)))) .skip)) .skip) (.seq (.set 11 (.fr (.comp (.kP (.i 2)) 1 [3,7,0,1] (.b true) (.call 31 (.cons (.v 1) (.cons (.v 2) (.cons (.bin .add (.call 12 (.cons (.v 3) (.cons (.bin .add (.bin .add (.v 4) (.i 4)) (.v 0)) .nil))) (.bin .mul (.i 31) (.v 0))) .nil))))))) (.seq (.eM 9) (.seq (.ret (.tup (.cons (.s "any") (.cons (.fr (.jd (.cons (.tup (.cons (.s "all") (.cons (.v 9) .nil))) (.cons (.tup (.cons (.s "all") (.cons (.v 11) .nil))) .nil)))) .nil)))) .skip))))))))))))))
noncomputable def er:S:=(.seq (.ite (.eq false (.bin .mod (.v 0) (.i 2)) (.i 1)) (.seq (.ret (.fr (.comp (.kP (.v 1)) 1 [0] (.eq false (.bin .mod (.bin .shr (.bin .fdiv (.v 1) (.i 2)) (.v 0)) (.i 2)) (.i 1)) (.v 0)))) .skip) .skip) (.seq (.set 0 (.bin .fdiv (.v 0) (.i 2))) (.seq (.set 2 (.bin .mod (.bin .mul (.bin .add (.bin .mod (.v 0) (.bin .pow (.i 10) (.i 12))) (.i 3)) (.i 69621)) (.i 2147483647))) (.seq (.ite (.eq false (.bin .mod (.v 0) (.i 3)) (.i 0)) (.seq (.ret (.fr (.GJ (.v 1)))) .skip) .skip) (.seq (.ret (.fr (.comp (.kP (.v 1)) 1 [2] (.cmp .gt (.bin .mod (.bin .shr (.v 1) (.bin .mod (.v 0) (.i 23))) (.i 4)) (.i 0)) (.v 0)))) .skip)))))
noncomputable def gF:S:=(.seq (.ite (.or (.eq false (.ix (.v 0) (.i 0)) (.s "all")) (.one (.eq false (.ix (.v 0) (.i 0)) (.s "any")))) (.seq (.ret (.eq false (.len (.fr (.comp (.eH (.ix (.v 0) (.i 1))) 1 [] (.not (.call 34 (.cons (.v 0) .nil))) (.v 0)))) (.i 0))) .skip) .skip) (.seq (.ret (.and (.eq true (.ix (.v 0) (.i 0)) (.s "beside")) (.one (.eq true (.ix (.v 0) (.i 0)) (.s "not"))))) .skip))
noncomputable def gH:S:=(.seq (.set 5 (.fr (.yQ (.v 3)))) (.seq (.set 6 (.br 0 (.v 0) (.cons (.v 5) .nil))) (.seq (.set 7 (.call 21 (.cons (.v 1) (.cons (.v 3) .nil)))) (.seq (.ite (.wP true (.v 7) (.d (.v 4))) (.seq (.GL (.v 4) (.v 7)) .skip) .skip) (.seq (.ite (.or (.not (.tV (.v 6) 1)) (.or (.eq true (.v 6) (.call 27 (.cons (.v 2) (.cons (.v 7) .nil)))) (.one (.eq true (.v 5) (.v 3))))) (.seq (.ret (.b false)) .skip) .skip) (.seq (.set 8 (.br 2 (.v 0) .nil)) (.seq (.ret (.and (.tV (.v 8) 0) (.and (.not (.tV (.v 8) 1)) (.one (.eq false (.v 8) (.len (.d (.v 4)))))))) .skip)))))))
noncomputable def A1:S:=(.seq (.set 1 (.call 13 (.cons (.call 12 (.cons (.v 0) (.cons (.i 0) .nil))) .nil))) (.seq (.set 2 (.call 19 (.cons (.v 0) (.cons (.i 15) (.cons (.v 1) .nil))))) (.seq (.set 3 (.eq false (.bin .mod (.call 12 (.cons (.v 0) (.cons (.i 1) .nil))) (.i 2)) (.i 1))) (.seq (.set 4 (.call 32 (.cons (.v 0) (.cons (.i 8) (.cons (.v 1) (.cons (.v 2) (.cons (.v 3) .nil))))))) (.seq (.set 5 (.call 20 (.cons (.v 2) .nil))) (.seq (.set 6 (.call 33 (.cons (.bin .fdiv (.call 12 (.cons (.v 0) (.cons (.i 1) .nil))) (.i 2)) (.cons (.v 5) .nil)))) (.seq (.set 7 (.call 21 (.cons (.v 2) (.cons (.v 6) .nil)))) (.seq (.set 8 (.mk 4 (.cons (.call 22 (.cons (.v 2) .nil)) (.cons (.call 28 (.cons (.v 4) .nil)) (.cons (.i 1000) .nil))))) (.seq (.set 9 (.mk 4 (.cons (.br 10 (.call 22 (.cons (.v 2) .nil)) (.cons (.v 6) .nil)) (.cons (.call 28 (.cons (.v 4) .nil)) (.cons (.i 1000) .nil))))) (.seq (.set 10 (.fr (.jd (.cons (.CO (.jd .nil)) (.cons (.CO (.jd .nil)) .nil))))) (.seq (.bQ (.kP (.bin .add (.i 3) (.bin .mod (.call 12 (.cons (.v 0) (.cons (.i 2) .nil))) (.i 7)))) [11] (.seq (.set 12 (.bin .add (.call 12 (.cons (.v 0) (.cons (.bin .add (.i 3) (.bin .mod (.v 11) (.i 5))) .nil))) (.bin .mul (.i 13) (.bin .fdiv (.v 11) (.i 5))))) (.seq (.ite (.not (.call 35 (.cons (.v 8) (.cons (.v 2) (.cons (.v 4) (.cons (.call 33 (.cons (.v 12) (.cons (.v 5) .nil))) (.cons (.ix (.v 10) (.i 0)) .nil))))))) (.seq (.ret (.b false)) .skip) .skip) (.seq (.set 13 (.call 33 (.cons (.bin .fdiv (.v 12) (.i 2)) (.cons (.len (.v 6)) .nil)))) (.seq (.ite (.and (.eq false (.bin .mod (.v 12) (.i 2)) (.i 1)) (.one (.not (.call 35 (.cons (.v 9) (.cons (.v 7) (.cons (.v 4) (.cons (.v 13) (.cons (.ix (.v 10) (.i 1)) .nil))))))))) (.seq (.ret (.b false)) .skip) .skip) .skip))))) (.seq (.ite (.or (.eq true (.br 11 (.br 3 (.v 8) .nil) .nil) (.br 11 (.call 22 (.cons (.v 2) .nil)) .nil)) (.one (.eq true (.br 11 (.br 3 (.v 9) .nil) .nil) (.br 11 (.br 10 (.call 22 (.cons (.v 2) .nil)) (.cons (.v 6) .nil)) .nil)))) (.seq (.ret (.b false)) .skip) .skip) (.seq (.bQ (.eH (.fr (.jd (.cons (.v 8) (.cons (.v 9) .nil))))) [14] (.seq (.set 15 (.br 4 (.v 14) .nil)) (.seq (.ite (.or (.not (.tV (.v 15) 1)) (.one (.eq true (.v 15) (.call 34 (.cons (.v 4) .nil))))) (.seq (.ret (.b false)) .skip) .skip) .skip))) (.seq (.ret (.b true)) .skip))))))))))))))
noncomputable def iD:Df:=df "__init__" "Pair.__init__" ["self","one","other"] 3 iw
noncomputable def kh:Df:=df "__init__" "Joint.__init__" ["self","parts"] 2 gi
noncomputable def jg:Df:=df "grows" "Joint.grows" ["self"] 1 fg
noncomputable def fA:Df:=df "spots" "Thing.spots" ["self"] 1 pJ
noncomputable def dD:Df:=df "many_of" "Thing.many_of" ["self","mark"] 2 dy
noncomputable def cM:Df:=df "is_before" "Thing.is_before" ["self","one","other"] 3 cE
noncomputable def T:Tb:=⟨(LS ["is_whole","is_mark","check_list","check_marks","check_node","check_nodes","check_lines","check_places","marks_at","places_of","stands_ahead","stands_right_ahead","_law_cell_at","_law_marks_by","_law_many_by","_law_picked","_law_forest_by","_law_far","_law_raw_digits","_law_raw_by","_law_places_of","_law_left","_law_made","_law_spots","_law_lies_under","_law_stands_beside","_law_two_hold","_law_holds","_law_fault_made","_law_one_by","_law_drawn_fault","_law_there","_law_fault_by","_law_kept_by","_law_grows","_law_asked","law","__debug__","__debug__","__debug__","__debug__","__debug__","__debug__","__debug__","__debug__","__debug__","__debug__","__debug__","__debug__","__debug__","__debug__","__debug__","__debug__","__debug__","__debug__","__debug__","__debug__","__debug__","__debug__","__debug__","__debug__","__debug__","__debug__","__debug__","__debug__","__debug__","__debug__","__debug__","__debug__","__debug__","__debug__","__debug__","__debug__","__debug__","__debug__","__debug__","__debug__","__debug__","__debug__","__debug__","__debug__","__debug__","__debug__","__debug__","__debug__","__debug__","__debug__","__debug__","__debug__","__debug__","__debug__","__debug__","__debug__","__debug__","__debug__","__debug__","__debug__","__debug__","__debug__","__debug__","__debug__","__debug__","__debug__","__debug__","__debug__","__debug__","__debug__","__debug__","__debug__","__debug__","__debug__","__debug__","__debug__","__debug__","__debug__","__debug__","__debug__","__debug__","__debug__","__debug__","__debug__","__debug__","__debug__","__debug__","__debug__","__debug__","__debug__","__debug__","__debug__","__debug__","__debug__","__debug__","__debug__","__debug__","__debug__","__debug__","__debug__","__debug__","__debug__","__debug__","__debug__","__debug__","__debug__"]),(LS ["fails","ask","asked","thing","grows","holds","spots","many_of","is_before","many","left","form","standing","is_under","is_beside","hanging","log","marks","shown","is_at_end","is_at","read_sign","read_run","read_mark","read_number","read_next","read_inside","read_many","read_pair","read_parts","begin","say","take","take_rules","answer","shrink","show_left","show_bars"]),(LS ["ShrinkError","NoThing","NoPlace","Spent","Asker","Fault","Has","Many","Pair","Before","Under","Beside","Joint","All","Any","Not","Thing","Row","Forest","Table","__debug__","__debug__","__debug__","__debug__","__debug__","__debug__","__debug__"]),(LS ["LETTERS","LONGEST_MARK","MOST_IN_ROW","MOST_NODES","DEEPEST","MOST_LINES","MOST_COLUMNS","__debug__","__debug__","__debug__","__debug__","__debug__","__debug__","__debug__","__debug__","__debug__","__debug__"]),[16]⟩
noncomputable def Pr:Pg:=⟨T,[some (dg "is_whole" ["thing"] 1 jw),some (dg "is_mark" ["thing"] 1 lq),some (dg "check_list" ["thing","most"] 2 gj),some (dg "check_marks" ["marks","most","mark"] 2 fh),some (dg "check_node" ["node","deepest"] 2 gm),some (dg "check_nodes" ["nodes","deepest","node"] 1 fi),some (dg "check_lines" ["lines","line"] 1 fj),some (dg "check_places" ["places","many","lowest","place"] 2 d9),some (dg "marks_at" ["marks","places"] 2 jx),some (dg "places_of" ["marks","mark"] 2 iB),some (dg "stands_ahead" ["marks","one","other","seen","mark"] 3 ec),some (dg "stands_right_ahead" ["marks","one","other"] 3 bX),some (dg "_law_cell_at" ["_law_script","_law_k"] 2 em),some (dg "_law_marks_by" ["_law_cell","_law_letters","_law_word","_law_rest","_law_k","_law_at","_law_first","_law_many"] 1 dA),some (dg "_law_many_by" ["_law_cell"] 1 eo),some (dg "_law_picked" ["_law_script","_law_first","_law_many","_law_marks","_law_picked_here","_law_k","_law_cell"] 4 fv),some (dg "_law_forest_by" ["_law_script","_law_first","_law_picked_here","_law_nodes","_law_deep","_law_k","_law_cell"] 3 dc),some (dg "_law_far" ["_law_rest","_law_top","_law_far_here"] 1 jC),some (dg "_law_raw_digits" ["_law_cell","_law_marks","_law_many","_law_columns","_law_deep","_law_rest","_law_picked_here","_law_k","_law_nodes","_law_room"] 2 cI),some (dg "_law_raw_by" ["_law_script","_law_first","_law_marks","_law_head","_law_many","_law_columns","_law_deep","_law_picked_here"] 3 fw),some (dg "_law_places_of" ["_law_raw"] 1 de),some (dg "_law_left" ["_law_raw","_law_places","_law_columns","_law_lines","_law_nodes","_law_place","_law_deep","_law_over","_law_ahead"] 2 cy),some (dg "_law_made" ["_law_raw"] 1 iC),some (dg "_law_spots" ["_law_raw","_law_spots_here","_law_k","_law_i","_law_j"] 1 gC),some (dg "_law_lies_under" ["_law_raw","_law_spots_here","_law_i","_law_j","_law_k"] 4 cJ),some (dg "_law_stands_beside" ["_law_raw","_law_spots_here","_law_i","_law_j","_law_k"] 4 bY),some (dg "_law_two_hold" ["_law_fault","_law_raw","_law_spots_here","_law_ones","_law_others","_law_i","_law_j"] 2 dB),some (dg "_law_holds" ["_law_fault","_law_raw"] 2 cK),some (dg "_law_fault_made" ["_law_fault","_law_parts"] 1 cL),some (dg "_law_one_by" ["_law_cell","_law_marks","_law_grows_here","_law_one","_law_other","_law_way"] 3 fz),some (dg "_law_drawn_fault" ["_law_script","_law_first","_law_marks","_law_grows_here","_law_head","_law_parts","_law_rest","_law_k","_law_cell","_law_other","_law_one"] 4 cr),some (dg "_law_there" ["_law_raw","_law_spots_here","_law_cell","_law_i","_law_one","_law_way","_law_lows"] 3 gD),some (dg "_law_fault_by" ["_law_script","_law_first","_law_marks","_law_raw","_law_grows_here","_law_head","_law_fault","_law_spots_here","_law_way","_law_facts","_law_k","_law_more"] 5 dC),some (dg "_law_kept_by" ["_law_cell","_law_many","_law_mask"] 2 er),some (dg "_law_grows" ["_law_fault"] 1 gF),some (dg "_law_asked" ["_law_asker","_law_raw","_law_fault","_law_places","_law_seen","_law_handed","_law_found","_law_left_here","_law_many"] 5 gH),some (dg "law" ["_law_script","_law_marks","_law_raw","_law_grows_here","_law_fault","_law_many","_law_fewer","_law_other","_law_one","_law_two","_law_seen","_law_k","_law_cell","_law_places","_law_asker","_law_told"] 1 A1),none,none,none,none,none,none,none,none,none,none,none,none,none,none,none,none,none,none,none,none,none,none,none,none,none,none,none,none,none,none,none,none,none,none,none,none,none,none,none,none,none,none,none,none,none,none,none,none,none,none,none,none,none,none,none,none,none,none,none,none,none,none,none,none,none,none,none,none,none,none,none,none,none,none,none,none,none,none,none,none,none,none,none,none,none,none,none,none,none,none,none,none,none,none,none,none,none,none,none,none,none,none,none,none,none,none],[[(4,df "fails" "Asker.fails" ["self","places","rest","form"] 2 eX)],[(4,df "ask" "Asker.ask" ["self","places","rest","answer"] 3 ip)],[(4,df "asked" "Asker.asked" ["self"] 1 eY)],[(4,df "thing" "Asker.thing" ["self"] 1 eZ)],[(4,df "grows" "Asker.grows" ["self"] 1 fb),(6,df "grows" "Has.grows" ["self"] 1 ua),(7,df "grows" "Many.grows" ["self"] 1 rZ),(9,df "grows" "Before.grows" ["self"] 1 nY),(10,df "grows" "Under.grows" ["self"] 1 pI),(11,df "grows" "Beside.grows" ["self"] 1 nZ),(13,jg),(14,jg),(15,df "grows" "Not.grows" ["self"] 1 ub)],[(6,df "holds" "Has.holds" ["self","thing"] 2 iq),(7,df "holds" "Many.holds" ["self","thing"] 2 gd),(9,df "holds" "Before.holds" ["self","thing"] 2 d7),(10,df "holds" "Under.holds" ["self","thing"] 2 fe),(11,df "holds" "Beside.holds" ["self","thing"] 2 d8),(13,df "holds" "All.holds" ["self","thing","part"] 2 iy),(14,df "holds" "Any.holds" ["self","thing","part"] 2 iz),(15,df "holds" "Not.holds" ["self","thing"] 2 iA)],[(17,fA),(18,fA),(19,fA)],[(17,dD),(18,dD),(19,dD)],[(17,cM),(18,cM),(19,cM)],[(17,df "many" "Row.many" ["self"] 1 jz),(18,df "many" "Forest.many" ["self"] 1 fm),(19,df "many" "Table.many" ["self"] 1 gw)],[(17,df "left" "Row.left" ["self","places"] 2 jA),(18,df "left" "Forest.left" ["self","places","kept","rest","above","place","node","depth"] 2 fq),(19,df "left" "Table.left" ["self","places","first_column","lines","columns","rest"] 2 gA)],[(17,df "form" "Row.form" ["self"] 1 jB),(18,df "form" "Forest.form" ["self"] 1 fu),(19,df "form" "Table.form" ["self"] 1 gB)],[(17,df "standing" "Row.standing" ["self","mark"] 2 eg),(18,df "standing" "Forest.standing" ["self","mark"] 2 cF),(19,df "standing" "Table.standing" ["self","mark"] 2 lr)],[(17,df "is_under" "Row.is_under" ["self","one","other"] 3 eh),(18,df "is_under" "Forest.is_under" ["self","one","other","place"] 3 cG),(19,df "is_under" "Table.is_under" ["self","one","other","column"] 3 db)],[(17,df "is_beside" "Row.is_beside" ["self","one","other"] 3 dz),(18,df "is_beside" "Forest.is_beside" ["self","one","other","place","behind"] 3 cn),(19,df "is_beside" "Table.is_beside" ["self","one","other"] 3 cH)],[(17,df "hanging" "Row.hanging" ["self","place"] 2 pK),(18,df "hanging" "Forest.hanging" ["self","place","end"] 2 cZ),(19,df "hanging" "Table.hanging" ["self","place"] 2 mI)],[],[],[],[],[],[],[],[],[],[],[],[],[],[],[],[],[],[],[],[],[],[]],[(4,df "__init__" "Asker.__init__" ["self","thing","fault","most"] 4 gc),(6,df "__init__" "Has.__init__" ["self","mark"] 2 ju),(7,df "__init__" "Many.__init__" ["self","number","mark"] 3 iu),(9,iD),(10,iD),(11,iD),(13,kh),(14,kh),(15,df "__init__" "Not.__init__" ["self","part"] 2 jv),(17,df "__init__" "Row.__init__" ["self","marks"] 2 jy),(18,df "__init__" "Forest.__init__" ["self","nodes"] 2 fk),(19,df "__init__" "Table.__init__" ["self","lines","spot_marks","line"] 2 gv),(16,df "__init__" "Thing.__init__" ["self","spot_marks"] 2 gu)],[(4,(LS ["whole","fault","most","answers","questions"])),(6,(LS ["mark"])),(7,(LS ["number","mark"])),(9,(LS ["one","other"])),(10,(LS ["one","other"])),(11,(LS ["one","other"])),(13,(LS ["parts"])),(14,(LS ["parts"])),(15,(LS ["part"])),(17,(LS ["spot_marks"])),(18,(LS ["nodes","spot_marks"])),(19,(LS ["lines","columns","spot_marks"]))],[.str zK,.int 8,.int 40,.int 40,.int 12,.int 12,.int 12,.aK,.aK,.aK,.aK,.aK,.aK,.aK,.aK,.aK,.aK]⟩
set_option hygiene false
local macro_rules | `(tactic| and_intros) => `(tactic| simp only [rd_r1, rd_r2, rd_r3, rd_r4, rd_r5, rd_r6, rd_r7, rd_r8, rd_r9, rd_r10, rd_r11, rd_r12, rd_r13, rd_r14, rd_r15, rd_r16, rd_r17, rd_r18, rd_r19, rd_r20, rd_r21, rd_r22, rd_r23, rd_r24, rd_b1, rd_b2, rd_b3, rd_b4, rd_b5, rd_b6, rd_b7, rd_b8, rd_c1, rd_c2, rd_c3, rd_c4, rd_e1, rd_e2, rd_e3, rd_l1, rd_l2, rd_l3, rd_l4, rd_l5, rd_l6, rd_l7, rd_t1, rd_t2, rd_x1, rd_x2, rd_x3, rd_x4, rd_x5, rd_x6, rd_x7, rd_x8, rd_o1, rd_o2, rd_k1, rd_k2, rd_k3, rd_k4, rd_m1, rd_m2, rd_m3, rd_m4, rd_m5, rd_m6, rd_m7, rd_n1, rd_n2, rd_n3, rd_n4, rd_n5, rd_n6, rd_n7, rd_n8, rd_s1, rd_s2, rd_s3, rd_s4, rd_s5, rd_s6, rd_s7, rd_s8, rd_s9, rd_s10, rd_s11, rd_s12, rd_s13, rd_s14, rd_s15, rd_s16, rd_s17, v_i, v_s, v_b, v_n, v_v, v_o, v_d, v_g, v_nil, v_cons, v_bin, v_neg, v_cmp, v_chn, v_eq, v_inn, v_ins, v_ind, v_one, v_and, v_or, v_not, v_tr, v_ife, v_tup, v_fr, v_nlh, v_ndh, v_dsp, v_lof, v_slc, v_cat, v_lrg, v_lr1, v_comp, v_comq, v_itl, v_rg1, v_rg2, v_rev, v_enu, v_zip, v_ix, v_slt, v_sls, v_fld, v_call, v_meth, v_mk, v_mkh, v_len, v_isi, v_all, v_any, v_int1, v_min2, v_max2, v_tpl, v_tpf, v_cnt, v_dct, v_dnt, v_dgt, List.map_cons, List.map_nil, List.set_cons_zero, List.set_cons_succ, isiD, isiN, Nat.reduceEqDiff, Nat.reduceBEq, Bool.or_false, Bool.false_or, Bool.true_or, Bool.or_true, Bool.and_false, Bool.false_and, Bool.true_and, Bool.and_true, Bool.not_true, Bool.not_false, Bool.false_eq_true, Bool.xor_false, Bool.xor_true, Bool.false_xor, Bool.true_xor, ↓reduceIte])
local macro_rules | `(tactic| symm) => `(tactic| (refine sqo fun N hN => ?_; and_intros))
local macro_rules | `(tactic| left) => `(tactic| (subst hN; symm))
local macro_rules | `(tactic| right) => `(tactic| (refine sqo fun N2 hN2 => ?_; and_intros))
set_option hygiene true
section
variable {Γ:Gm}{M:Mem}{R:Dt->Mem->Prop}
abbrev Fn (Γ:Gm) (c:S) (ρ:En) (M:Mem) (R:Dt->Mem->Prop):Prop:=ex Γ c ρ M { nx:=fun _ M'=>R .aK M',rt:=R }
theorem bG {p:Prop} [Decidable p] {a b:Prop} (h:¬ p) (k:b):(if p then a else b):=by rw[n_ h];exact k
theorem bM {p:Prop} [Decidable p] {a b:Prop} (h:p) (k:a):(if p then a else b):=by rw[w_ h];exact k
def jD (p:cA):Prop:=∀ (i:Int) M R,R (.bl true) M->p [.int i] M R
def lv (p:cA):Prop:=∀ z M R,az z=true->R (.bl true) M->p [.str z] M R
def dM (p:cA):Prop:=∀ ds (m:Int) M R,(ds.length:Int)<=m->R .aK M->p [.lst ds,.int m] M R
def fB (p:cA):Prop:=∀ (zs:List Str) (m:Int) M R,(∀ z∈zs,az z=true)->(zs.length:Int)<=m->R .aK M->p [.lst (zs.map .str),.int m] M R
noncomputable def aG (n:Nd):Dt:=.tup [.str n.1,.int n.2]
def ki (p:cA):Prop:=∀ (n:Nd) (d:Int) M R,az n.1=true->0<=n.2->n.2<=d->R .aK M->p [aG n,.int d] M R
def jh (p:cA):Prop:=∀ (ns:List Nd) M R,aQ 0 ns->ns.length<=40->R .aK M->p [.lst (ns.map aG)] M R
noncomputable def aW (l:List Str):Dt:=.lst (l.map .str)
structure aX (w:Nat) (ls:List (List Str)):Prop where
 len:ls.length<=12
 BM:w<=12
 jN:∀ l∈ls,l.length=w
 NA:∀ l∈ls,∀ z∈l,az z=true
def ji (p:cA):Prop:=∀ w ls M R,aX w ls->R .aK M->p [.lst (ls.map aW)] M R
def cN (p:cA):Prop:=∀ (ps:List Int) (m:Int) M R,placesOk 0 m ps->R .aK M->p [.lst (ps.map .int),.int m] M R
theorem v0 {i:Int} (hR:R (.bl true) M):Fn Γ jw [.sh (.int i)] M R:=by
 unfold jw;symm;exact hR
theorem yD {z:Str} (h0:Γ.cs 0=.str zK) (h1:Γ.cs 1=.int 8) (h:az z=true) (hR:R (.bl true) M):Fn Γ lq [.sh (.str z)] M R:=by
 unfold lq;obtain⟨m1,m2,m3⟩:=tH h;symm;left;have hz:z.length<=sizeLine:=P_ m2 (by decide);refine⟨hz,bM (d_ (by omega)) ?_⟩;rw[h1];and_intros;refine bG (by rw[d_ (by omega)];decide) ?_;left;refine⟨by unfold rN;rw[a_];exact hz,?_⟩;refine comp_map (fun _=>.bl true) (fun x hx K hK=>?_) ?_
 ·obtain⟨c,hc,rfl⟩:=z_.mp hx;and_intros;rw[h0];and_intros;have:=m3 c hc;unfold vt at this;rw[this];exact hK
 ·refine⟨(rN z).map fun _=>true,by rw[R_];rfl,?_⟩;rw[show ((rN z).map fun _=>true).all id=true from by rw[XG];exact T_.mpr fun _ _=>rfl];exact hR
theorem r6 {ds:List Dt}{m:Int} (h:(ds.length:Int)<=m) (hR:R .aK M):Fn Γ gj [.sh (.lst ds),.sh (.int m)] M R:=by
 unfold gj;symm;left;refine bG (by rw[f_ (by omega)];decide) ?_;subst hN;exact hR
theorem pL (p1:lv (Γ.fn 1)) (p2:dM (Γ.fn 2)) {zs:List Str}{m:Int} (hz:∀ z∈zs,az z=true) (h:(zs.length:Int)<=m) (hR:R .aK M):Fn Γ fh [.sh (.lst (zs.map .str)),.sh (.int m),.no] M R:=by
 unfold fh;symm;refine p2 _ _ _ _ (by rw[a_];exact h) ?_;left;refine aC (fun i ρ M'=>M'=M/\∃ o,ρ=[.sh (.lst (zs.map .str)),.sh (.int m),o]) ⟨rfl,_,rfl⟩ ?_ ?_
 ·rintro i x ρ M' N' hx ⟨rfl,o,rfl⟩ fF;obtain⟨z,Jj,rfl⟩:=z_.mp (A_ hx);and_intros;symm;refine p1 z _ _ (hz z Jj) ?_;and_intros;subst hN;exact fF _ _ ⟨rfl,_,rfl⟩
 ·rintro ρ M' ⟨rfl,o,rfl⟩;subst hN;exact hR
theorem r9 (p0:jD (Γ.fn 0)) (p1:lv (Γ.fn 1)) {n:Nd}{d:Int} (h1:az n.1=true) (h2:0<=n.2) (h3:n.2<=d) (hR:R .aK M):Fn Γ gm [.sh (aG n),.sh (.int d)] M R:=by
 unfold gm aG;symm;left;refine⟨_,rfl,p1 _ _ _ h1 ?_⟩;and_intros;left;refine⟨_,rfl,p0 _ _ _ ?_⟩;and_intros;refine⟨_,rfl,?_⟩;and_intros;refine bM (d_ h2) ?_;refine bG (by rw[d_ h3];decide) ?_;subst hN;exact hR
theorem ez {α:Type}{xs:List α}{i:Nat}{x:α} (h:xs[i]? = some x):xs.take (i+1)=xs.take i++[x]:=by
 rw[XF,h];rfl
theorem sd {ns:List Nd}{i:Nat}{n:Nd} (h:aQ 0 ns) (hn:ns[i]? = some n):az n.1=true/\0<=n.2/\n.2<=aN 0 (ns.take i)/\aN 0 (ns.take (i+1))=min (n.2+1) 12:=by
 have e:ns=ns.take i++n::ns.drop (i+1):=by
  obtain⟨hl,rfl⟩:=j_.mp hn;rw[←W6 hl,Xy]
 rw[e,aY] at h;obtain⟨_,h1,h2,h3,_⟩:=h;refine⟨h1,h2,h3,?_⟩;rw[ez hn,bm];rfl
theorem pM (p2:dM (Γ.fn 2)) (p4:ki (Γ.fn 4)) (g3:Γ.cs 3=.int 40) (g4:Γ.cs 4=.int 12) {ns:List Nd} (h:aQ 0 ns) (hl:ns.length<=40) (hR:R .aK M):Fn Γ fi [.sh (.lst (ns.map aG)),.no,.no] M R:=by
 unfold fi;symm;rw[g3];refine p2 _ _ _ _ (by rw[a_];omega) ?_;left;left;refine aC (fun i ρ M'=>M'=M/\∃ o,ρ=[.sh (.lst (ns.map aG)),.sh (.int (aN 0 (ns.take i))),o]) ⟨rfl,_,rfl⟩ ?_ ?_
 ·rintro i x ρ M' N' hx ⟨rfl,o,rfl⟩ fF;rw[g_] at hx;obtain⟨n,hn,rfl⟩:=m_.mp hx;obtain⟨d1,d2,d3,d4⟩:=sd h hn;and_intros;symm;refine p4 n _ _ _ d1 d2 d3 ?_;left;unfold aG;and_intros;refine⟨_,rfl,?_⟩;and_intros;rw[g4];and_intros;subst hN;have e:(if (12:Int)<n.2+1 then 12 else n.2+1)=aN 0 (ns.take (i+1)):=by rw[d4];split<;>omega
  rw[e];exact fF _ _ ⟨rfl,_,rfl⟩
 ·rintro ρ M' ⟨rfl,o,rfl⟩;subst hN;exact hR
theorem pN (p2:dM (Γ.fn 2)) (p3:fB (Γ.fn 3)) (g5:Γ.cs 5=.int 12) (g6:Γ.cs 6=.int 12) {w:Nat}{ls:List (List Str)} (h:aX w ls) (hR:R .aK M):Fn Γ fj [.sh (.lst (ls.map aW)),.no] M R:=by
 unfold fj;symm;rw[g5];refine p2 _ _ _ _ (by rw[a_];have:=h.len;omega) ?_;left;refine aC (fun i ρ M'=>M'=M/\∃ o,ρ=[.sh (.lst (ls.map aW)),o]) ⟨rfl,_,rfl⟩ ?_ ?_
 ·rintro i x ρ M' N' hx ⟨rfl,o,rfl⟩ fF;rw[g_] at hx;obtain⟨l,hn,rfl⟩:=m_.mp hx;have hl:=A_ hn;and_intros;symm;rw[g6];refine p3 l _ _ _ (h.NA l hl) (by have:=h.jN l hl;have:=h.BM;omega) ?_;left;obtain⟨l0,h0⟩:∃ l0,ls[0]? = some l0:=⟨_,c_ (by have:=Y1 hl;omega)⟩;unfold aW;and_intros;refine⟨aW l0,bg (j:=0) (by rw[g_,h0];rfl),?_⟩;unfold aW;and_intros;refine bG (by rw[a_,a_,h.jN l hl,h.jN l0 (A_ h0)];simp) ?_;subst hN;exact fF _ _ ⟨rfl,_,rfl⟩
 ·rintro ρ M' ⟨rfl,o,rfl⟩;subst hN;exact hR
theorem A2 {ps:List Int}{m:Int}{i:Nat}{p:Int} (h:placesOk 0 m ps) (hp:ps[i]? = some p):b9 0 (ps.take i)<=p/\p<m/\b9 0 (ps.take (i+1))=p+1:=by
 have e:ps=ps.take i++p::ps.drop (i+1):=by
  obtain⟨hl,rfl⟩:=j_.mp hp;rw[←W6 hl,Xy]
 rw[e,gV] at h;obtain⟨_,h1,h2,_⟩:=h;refine⟨h1,h2,?_⟩;rw[ez hp,gW];rfl
theorem n0 (p0:jD (Γ.fn 0)) {ps:List Int}{m:Int} (h:placesOk 0 m ps) (hR:R .aK M):Fn Γ d9 [.sh (.lst (ps.map .int)),.sh (.int m),.no,.no] M R:=by
 unfold d9;symm;left;left;refine aC (fun i ρ M'=>M'=M/\∃ o,ρ=[.sh (.lst (ps.map .int)),.sh (.int m),.sh (.int (b9 0 (ps.take i))),o]) ⟨rfl,_,rfl⟩ ?_ ?_
 ·rintro i x ρ M' N' hx ⟨rfl,o,rfl⟩ fF;rw[g_] at hx;obtain⟨p,hp,rfl⟩:=m_.mp hx;obtain⟨q1,q2,q3⟩:=A2 h hp;and_intros;symm;refine p0 p _ _ ?_;and_intros;refine bM (d_ q1) (bG (by rw[d_ q2];decide) ?_);left;subst hN;exact fF _ _ ⟨rfl,_,by rw[q3]⟩
 ·rintro ρ M' ⟨rfl,o,rfl⟩;subst hN;exact hR
noncomputable def atS (zs:List Str) (p:Int):Str:=zs.getD p.toNat ""
def gJ (p:cA):Prop:=∀ (t:Dt) (zs:List Str) (ps:List Int) M R,(t=.fE (zs.map .str)∨t=.tup (zs.map .str)∨t=.lst (zs.map .str))->(∀ q∈ps,0<=q/\q<zs.length)->ps.length<=1000->R (.lst ((ps.map (atS zs)).map .str)) M->p [t,.lst (ps.map .int)] M R
theorem dw {zs:List Str}{q:Int} (h0:0<=q) (h1:q<zs.length):pi (zs.map Dt.str) q=some (.str (atS zs q)):=by
 obtain⟨n,rfl⟩:=Ww h0;refine bg ?_;unfold atS;have hn:n<zs.length:=by omega
 rw[g_,l_,B_,c_ hn];rfl
theorem v3 {t:Dt}{zs:List Str}{ps:List Int} (ht:t=.fE (zs.map .str)∨t=.tup (zs.map .str)∨t=.lst (zs.map .str)) (hp:∀ q∈ps,0<=q/\q<zs.length) (hl:ps.length<=1000) (hR:R (.lst ((ps.map (atS zs)).map .str)) M):Fn Γ jx [.sh t,.sh (.lst (ps.map .int))] M R:=by
 unfold jx;symm;refine⟨by rw[a_];exact P_ hl (by decide),comp_map (fun d=>match d with | .int q=>.str (atS zs q) | _=>.aK) (fun x hx K hK=>?_) ?_⟩
 ·obtain⟨q,hq,rfl⟩:=z_.mp hx;obtain⟨h0,h1⟩:=hp q hq;rcases ht with rfl | rfl | rfl
  ·and_intros;exact⟨_,dw h0 h1,hK⟩
  ·and_intros;exact⟨_,dw h0 h1,hK⟩
  ·and_intros;exact⟨_,dw h0 h1,hK⟩
 ·rw[R_] at hR ⊢;exact hR
noncomputable def n6 (zs:List Str) (m:Str):List Int:=(zs.zipIdx.filter fun p=>decide (p.1=m)).map fun p=>(p.2:Int)
def iE (p:cA):Prop:=∀ (zs:List Str) (m:Str) M R,zs.length<=1000->R (.lst ((n6 zs m).map .int)) M->p [.fE (zs.map .str),.str m] M R
noncomputable def A3 (m:Str):Dt->k_ Dt
 | .tup [.int i,.str z]=>if z=m then some (.int i) else none
 | _=>none
theorem m5 {m z:Str}{i:Int}:A3 m (.tup [.int i,.str z])=if z=m then some (.int i) else none:=rfl
theorem n8 {m:Str}:∀ (zs:List Str) (k:Nat),(((zs.map Dt.str).zipIdx k).map fun p=>Dt.tup [.int (p.2:Int),p.1]).filterMap (A3 m)=(((zs.zipIdx k).filter fun p=>decide (p.1=m)).map fun p=>(p.2:Int)).map Dt.int
 | [],k=>rfl
 | z::zs,k=>by
  rw[p_,Y9,p_,Wh,n8 zs (k+1),Y9,WE];by_cases e:z=m
  ·rw[m5,w_ e,w_ (by simpa using e)];rfl
  ·rw[m5,n_ e,n_ (by simpa using e)]
theorem uc {zs:List Str}{m:Str} (hl:zs.length<=1000) (hR:R (.lst ((n6 zs m).map .int)) M):Fn Γ iB [.sh (.fE (zs.map .str)),.sh (.str m)] M R:=by
 unfold iB;symm;refine⟨by rw[a_,ZL,a_];exact P_ hl (by decide),bK (A3 m) (fun x hx K hK=>?_) ?_⟩
 ·obtain⟨⟨d,k⟩,hp,rfl⟩:=z_.mp hx;have hd:=(List.mem_zipIdx hp).2.2
  obtain⟨z,hz,rfl⟩:∃ z,z∈zs/\d=.str z:=by
   have:=z_.mp (show d∈zs.map Dt.str by rw[hd];exact Ym _);obtain⟨z,h1,h2⟩:=this;exact⟨z,h1,h2.symm⟩
  and_intros;by_cases e:z=m
  ·refine bM (d_ e) ?_;rw[m5,w_ e] at hK;exact hK
  ·refine bG (by rw[f_ e];decide) ?_;rw[m5,n_ e] at hK;exact hK
 ·rw[n8];exact hR
def eA (p:cA):Prop:=∀ (t:Dt) (zs:List Str) (a b:Str) M R,(t=.fE (zs.map .str)∨t=.lst (zs.map .str))->(∀ c:Bool,(c=true↔∃ i j:Nat,i<j/\zs[i]? = some a/\zs[j]? = some b)->R (.bl c) M)->p [t,.str a,.str b] M R
theorem n9 {t:Dt}{zs:List Str}{a b:Str} (ht:t=.fE (zs.map .str)∨t=.lst (zs.map .str)) (hR:∀ c:Bool,(c=true↔∃ i j:Nat,i<j/\zs[i]? = some a/\zs[j]? = some b)->R (.bl c) M):Fn Γ ec [.sh t,.sh (.str a),.sh (.str b),.no,.no] M R:=by
 have hit:∀ Q:List Dt->Prop,BI t Q=Q (zs.map .str):=fun Q=>by rcases ht with rfl | rfl<;>rfl
 unfold ec;symm;left;rw[hit];refine aC (fun i ρ M'=>M'=M/\(¬ ∃ k j:Nat,k<j/\j<i/\zs[k]? = some a/\zs[j]? = some b)/\∃ o s,ρ=[.sh t,.sh (.str a),.sh (.str b),.sh (.bl s),o]/\(s=true↔∃ k:Nat,k<i/\zs[k]? = some a)) ⟨rfl,by rintro⟨_,_,_,h,_⟩;omega,_,_,rfl,by simp⟩ ?_ ?_
 ·rintro i x ρ M' N' hx ⟨rfl,gU,o,s,rfl,hs⟩ fF;rw[g_] at hx;obtain⟨z,hz,rfl⟩:=m_.mp hx
  have go:(s=true->¬ z=b)->ex Γ ((S.ite (C.eq false (C.v 4) (C.v 1)) ((S.set 3 (C.b true)).seq S.skip) S.skip).seq S.skip) [Sl.sh t,Sl.sh (Dt.str a),Sl.sh (Dt.str b),Sl.sh (Dt.bl s),Sl.sh (Dt.str z)] M' { nx:=N',rt:=R,bk:=N,ct:=N' }:=fun U0=>by
   have NB:¬ ∃ k j:Nat,k<j/\j<i+1/\zs[k]? = some a/\zs[j]? = some b:=by
    rintro⟨k,j,h1,h2,h3,h4⟩;rcases WS j i with h | h
    ·exact gU ⟨k,j,h1,h,h3,h4⟩
    ·have:j=i:=by omega
     subst this;rw[hz] at h4;exact U0 (hs.mpr ⟨k,h1,h3⟩) (F_ h4)
   symm;by_cases e:z=a
   ·refine bM (d_ e) ?_;right;subst hN2;subst hN;exact fF _ _ ⟨rfl,NB,_,_,rfl,⟨fun _=>⟨i,by omega,by rw[hz,e]⟩,fun _=>rfl⟩⟩
   ·refine bG (by rw[f_ e];decide) ?_;subst hN;refine fF _ _ ⟨rfl,NB,_,_,rfl,hs.trans ⟨fun⟨k,h1,h2⟩=>⟨k,by omega,h2⟩,fun⟨k,h1,h2⟩=>⟨k,?_,h2⟩⟩⟩;rcases WS k i with h | h
    ·exact h
    ·have:k=i:=by omega
     subst this;rw[hz] at h2;exact absurd (F_ h2) e
  and_intros;symm
  cases s with
  | false=>refine bG (by decide) ?_;subst hN;exact go fun z=>nomatch z
  | true =>
   refine bM rfl ?_;by_cases e:z=b
   ·refine bM (d_ e) ?_;symm;refine hR true ⟨fun _=>?_,fun _=>rfl⟩;obtain⟨k,h1,h2⟩:=hs.mp rfl;exact⟨k,i,h1,h2,by rw[hz,e]⟩
   ·refine bG (by rw[f_ e];decide) ?_;subst hN;exact go fun _=>e
 ·rintro ρ M' ⟨rfl,gU,o,s,rfl,hs⟩;left;refine hR false (Iff.intro (fun z=>nomatch z) fun⟨i,j,h1,h2,h3⟩=>absurd ⟨i,j,h1,?_,h2,h3⟩ gU);rw[a_];exact (j_.mp h3).1
theorem ud {xs:List Dt}{n:Nat}{i:Int} (h:i=(n:Int)):cutD xs (some i) none=xs.drop n:=by
 subst h;unfold cutD;rw[HT.tm,HT.mT];apply ZV;intro j;rw[abw,W_,W_];split
 ·rcases Nat.le_total n xs.length with h | h
  ·rw[XC h]
  ·rw[ab7 h,Wu (by omega),Wu (by omega)]
 ·rw[Wu (by omega)]
def bZ (p:cA):Prop:=∀ (t:Dt) (zs:List Str) (a b:Str) M R,(t=.fE (zs.map .str)∨t=.tup (zs.map .str))->zs.length<=1000->(∀ c:Bool,(c=true↔∃ i:Nat,zs[i]? = some a/\zs[i+1]? = some b)->R (.bl c) M)->p [t,.str a,.str b] M R
theorem iF {t:Dt}{zs:List Str}{a b:Str} (ht:t=.fE (zs.map .str)∨t=.tup (zs.map .str)) (hl:zs.length<=1000) (hR:∀ c:Bool,(c=true↔∃ i:Nat,zs[i]? = some a/\zs[i+1]? = some b)->R (.bl c) M):Fn Γ bX [.sh t,.sh (.str a),.sh (.str b)] M R:=by
 unfold bX;have hq:mC t=some (zs.map .str):=by rcases ht with rfl | rfl<;>rfl
 symm;rw[hq];show aaR _<=sizeLine/\_;have hc:cutD (zs.map Dt.str) (some 1) none=(zs.drop 1).map Dt.str:=by rw[abe];exact ud (n:=1) rfl
 rw[hc,List.zip_map,R_];refine⟨by rw[a_,aaC];exact P_ (Nat.min_le_left _ _) (P_ hl (by decide)),?_⟩;refine comp_map (fun d=>match d with | .tup [.str x,.str y]=>.bl (decide (x=a)&&decide (y=b)) | _=>.aK) (fun x hx K hK=>?_) ?_
 ·obtain⟨⟨x,y⟩,hp,rfl⟩:=z_.mp hx;show if decide (x=a)=true then K (some (.bl (decide (y=b)))) M else K (some (.bl false)) M
  by_cases e:x=a
  ·refine bM (d_ e) ?_;have hK:K (some (.bl (decide (x=a)&&decide (y=b)))) M:=hK;rw[d_ e,Bool.true_and] at hK;exact hK
  ·refine bG (by rw[f_ e];decide) ?_;have hK:K (some (.bl (decide (x=a)&&decide (y=b)))) M:=hK;rw[f_ e,acs] at hK;exact hK
 ·refine⟨(zs.zip (zs.drop 1)).map fun p=>decide (p.1=a)&&decide (p.2=b),by rw[R_,R_];rfl,hR _ ?_⟩;rw[Y0,Xr];constructor
  ·rintro⟨⟨x,y⟩,hp,h⟩;obtain⟨i,hi⟩:=V8.mp hp;obtain⟨h1,h2⟩:=W7.mp hi;rw[W_] at h2;have h:(decide (x=a)&&decide (y=b))=true:=h;rw[t_] at h
   cases of_decide_eq_true h.1
   cases of_decide_eq_true h.2
   exact⟨i,h1,by rw[aar];exact h2⟩
  ·rintro⟨i,h1,h2⟩;refine⟨(a,b),V8.mpr ⟨i,W7.mpr ⟨h1,?_⟩⟩,by show (decide (a=a)&&decide (b=b))=true;simp⟩;rw[W_,aar];exact h2
end
noncomputable def bj (ns:List Nd) (k:Nat):Nat:=((ns.drop (k+1)).takeWhile fun n=>decide ((ns.getD k ("",0)).2<n.2)).length
theorem Ey {α:Type}{P:α->Bool}:∀ {l:List α}{j:Nat},j<(l.takeWhile P).length->∃ x,l[j]? = some x/\P x=true
 | [],j,h=>by simp at h
 | x::l,j,h=>by
  rw[aa7] at h
  cases hx:P x with
  | false=>rw[hx] at h;simp at h
  | true =>
   rw[hx] at h
   cases j with
   | zero=>exact⟨x,rfl,hx⟩
   | succ j=>exact Ey (l:=l) (by simpa using h)
theorem xf {α:Type}{P:α->Bool}:∀ {l:List α}{x:α},l[(l.takeWhile P).length]? = some x->P x=false
 | [],x,h=>by simp at h
 | y::l,x,h=>by
  rw[aa7] at h
  cases hy:P y with
  | false=>rw[hy] at h;simp at h;rw[←h];exact hy
  | true=>rw[hy] at h;exact xf (l:=l) (by simpa using h)
theorem xg {ns:List Nd}{k j:Nat} (h:j<bj ns k):∃ n,ns[k+1+j]? = some n/\(ns.getD k ("",0)).2<n.2:=by
 obtain⟨n,h1,h2⟩:=Ey h;rw[W_] at h1;exact⟨n,h1,of_decide_eq_true h2⟩
theorem qM {ns:List Nd}{k:Nat}{n:Nd} (h:ns[k+1+bj ns k]? = some n):¬ (ns.getD k ("",0)).2<n.2:=by
 have h1:=xf (l:=ns.drop (k+1)) (P:=fun n=>decide ((ns.getD k ("",0)).2<n.2)) (x:=n) (by rw[W_];exact h);exact of_decide_eq_false h1
theorem kj (ns:List Nd) (k:Nat):bj ns k<=ns.length-(k+1):=by
 unfold bj;refine P_ (List.takeWhile_sublist _).length_le ?_;rw[Xq];exact x_ _
theorem iG {ns:List Nd}{e l:Nat} (hl:l<ns.length):l<=e+bj ns e↔∀ j,e<j->j<=l->(ns.getD e ("",0)).2<(ns.getD j ("",0)).2:=by
 constructor
 ·intro h j h1 h2;obtain⟨n,hn,hd⟩:=xg (ns:=ns) (k:=e) (j:=j-(e+1)) (by omega);rw[show e+1+(j-(e+1))=j by omega] at hn;rw[B_ (i:=j),hn];exact hd
 ·intro h;rcases WS (e+bj ns e) l with j3 | U1
  ·have hj:e+1+bj ns e<ns.length:=by omega
   have:=qM (c_ hj);have h2:=h (e+1+bj ns e) (by omega) (by omega);rw[B_ (i:=e+1+bj ns e),c_ hj] at h2;exact absurd h2 this
  ·exact U1
theorem getD_mem {α:Type}{xs:List α}{i:Nat}{a:α} (h:i<xs.length):xs.getD i a∈xs:=by
 rw[B_,c_ h];exact Ym h
inductive Rw where
 | row (zs:List Str) | af (ns:List Nd) | table (w:Nat) (ls:List (List Str))
def Rw.Ok:Rw->Prop
 | .row zs=>(∀ z∈zs,az z=true)/\zs.length<=40
 | .af ns=>aQ 0 ns/\ns.length<=40
 | .table w ls=>aX w ls
noncomputable def eB (l:List Str):Dt:=.tup (l.map .str)
noncomputable def bD:Rw->Dt
 | .row zs=>.obj 17 ["spot_marks"] [.fE (zs.map .str)]
 | .af ns=>.obj 18 ["spot_marks","nodes"] [.fE ((ns.map (·.1)).map .str),.tup (ns.map aG)]
 | .table w ls=>.obj 19 ["spot_marks","lines","columns"] [.fE (ls.flatten.map .str),.tup (ls.map eB),.int w]
noncomputable def Rw.names:Rw->List Str
 | .row zs=>zs
 | .af ns=>ns.map (·.1)
 | .table _ ls=>ls.flatten
noncomputable def Rw.many:Rw->Nat
 | .row zs=>zs.length
 | .af ns=>ns.length
 | .table w ls=>ls.length+w
noncomputable def uf (ls:List (List Str)) (ps:List Int):List (List Str):=(linesOf ls.length ps).map fun i=>(b5 ls.length ps).map fun j=>atS (ls.getD i.toNat []) j
noncomputable def Rw.left:Rw->List Int->Rw
 | .row zs,ps=>.row (ps.map (atS zs))
 | .af ns,ps=>.af (D8 ns ps)
 | .table _ ls,ps=>.table (b5 ls.length ps).length (uf ls ps)
noncomputable def iH:Rw->Dt
 | .row zs=>.tup [.str "row",.fE (zs.map .str)]
 | .af ns=>.tup [.str "forest",.tup (ns.map aG)]
 | .table w ls=>.tup [.str "table",.int w,.tup (ls.map eB)]
noncomputable abbrev SQ:=Pr.at_
noncomputable abbrev U2:=Pr.cs
structure GB (Γ:Gm):Prop where
 at_:Γ.at_=SQ
 cs:Γ.cs=U2
section
variable {Γ:Gm}{M:Mem}{R:Dt->Mem->Prop}
theorem sz {n:Nat} (h:n<=1000):n<=sizeLine:=P_ h (by decide)
theorem NC (g:GB Γ):Γ.at_ 17 "spot_marks" = true:=by rw[g.at_];decide +kernel
theorem Ez (g:GB Γ):Γ.at_ 18 "spot_marks" = true:=by rw[g.at_];decide +kernel
theorem EA (g:GB Γ):Γ.at_ 18 "nodes" = true:=by rw[g.at_];decide +kernel
theorem EB (g:GB Γ):Γ.at_ 19 "spot_marks" = true:=by rw[g.at_];decide +kernel
theorem EC (g:GB Γ):Γ.at_ 19 "lines" = true:=by rw[g.at_];decide +kernel
theorem xh (g:GB Γ):Γ.at_ 19 "columns" = true:=by rw[g.at_];decide +kernel
theorem xi {α:Type}{a:Str}{x:α}{r:List (Str×α)}:XE a ((a,x)::r)=some x:=by rw[V7,Xt]
theorem v4 {α:Type}{a b:Str}{x:α}{r:List (Str×α)} (h:(b==a)=false):XE b ((a,x)::r)=XE b r:=by rw[V7,h]
theorem Rm (g:GB Γ) {d:Dt}{k:Dt->Prop} (h:k d):eK Γ "spot_marks" (.obj 17 ["spot_marks"] [d]) k:=⟨NC g,d,xi,h⟩
theorem Rn (g:GB Γ) {d e:Dt}{k:Dt->Prop} (h:k d):eK Γ "spot_marks" (.obj 18 ["spot_marks","nodes"] [d,e]) k:=⟨Ez g,d,xi,h⟩
theorem Jk (g:GB Γ) {d e:Dt}{k:Dt->Prop} (h:k e):eK Γ "nodes" (.obj 18 ["spot_marks","nodes"] [d,e]) k:=⟨EA g,e,(v4 (by decide +kernel)).trans xi,h⟩
theorem Ro (g:GB Γ) {d e c:Dt}{k:Dt->Prop} (h:k d):eK Γ "spot_marks" (.obj 19 ["spot_marks","lines","columns"] [d,e,c]) k:=⟨EB g,d,xi,h⟩
theorem Jl (g:GB Γ) {d e c:Dt}{k:Dt->Prop} (h:k e):eK Γ "lines" (.obj 19 ["spot_marks","lines","columns"] [d,e,c]) k:=⟨EC g,e,(v4 (by decide +kernel)).trans xi,h⟩
theorem Jm (g:GB Γ) {d e c:Dt}{k:Dt->Prop} (h:k c):eK Γ "columns" (.obj 19 ["spot_marks","lines","columns"] [d,e,c]) k:=⟨xh g,c,(v4 (by decide +kernel)).trans ((v4 (by decide +kernel)).trans xi),h⟩
def lx (p:cA):Prop:=∀ (r:Rw) M R,R (.int r.many) M->p [bD r] M R
theorem v5 (g:GB Γ) {zs:List Str} (hR:R (.int (zs.length:Nat)) M):Fn Γ jz [.sh (bD (.row zs))] M R:=by
 unfold jz bD;symm;refine Rm g ?_;and_intros;rw[a_];exact hR
theorem pO (g:GB Γ) {ns:List Nd} (hR:R (.int (ns.length:Nat)) M):Fn Γ fm [.sh (bD (.af ns))] M R:=by
 unfold fm bD;symm;refine Jk g ?_;and_intros;rw[a_];exact hR
theorem se (g:GB Γ) {w:Nat}{ls:List (List Str)} (hR:R (.int ((ls.length+w:Nat):Int)) M):Fn Γ gw [.sh (bD (.table w ls))] M R:=by
 unfold gw bD;symm;refine Jl g ?_;and_intros;refine Jm g ?_;and_intros;rw[a_,←XD];exact hR
def si (p:cA):Prop:=∀ (r:Rw) M R,R (iH r) M->p [bD r] M R
theorem v6 (g:GB Γ) {zs:List Str} (hR:R (iH (.row zs)) M):Fn Γ jB [.sh (bD (.row zs))] M R:=by
 unfold jB bD;symm;refine Rm g ?_;exact⟨sz (by simp),hR⟩
theorem pP (g:GB Γ) {ns:List Nd} (hR:R (iH (.af ns)) M):Fn Γ fu [.sh (bD (.af ns))] M R:=by
 unfold fu bD;symm;refine Jk g ?_;exact⟨sz (by simp),hR⟩
theorem sj (g:GB Γ) {w:Nat}{ls:List (List Str)} (hR:R (iH (.table w ls)) M):Fn Γ gB [.sh (bD (.table w ls))] M R:=by
 unfold gB bD;symm;refine Jm g (Jl g ?_);exact⟨sz (by simp),hR⟩
theorem gK (g:GB Γ) (r:Rw) {k:Dt->Prop} (h:k (.fE (r.names.map .str))):eK Γ "spot_marks" (bD r) k:=by
 cases r with
 | row zs=>exact Rm g h
 | af ns=>exact Rn g h
 | table w ls=>exact Ro g h
def lZ (p:cA):Prop:=∀ (r:Rw) (a b:Str) M R,(∀ c:Bool,(c=true↔∃ i j:Nat,i<j/\r.names[i]? = some a/\r.names[j]? = some b)->R (.bl c) M)->p [bD r,.str a,.str b] M R
theorem km (g:GB Γ) (ND:eA (Γ.fn 10)) {r:Rw}{a b:Str} (hR:∀ c:Bool,(c=true↔∃ i j:Nat,i<j/\r.names[i]? = some a/\r.names[j]? = some b)->R (.bl c) M):Fn Γ cE [.sh (bD r),.sh (.str a),.sh (.str b)] M R:=by
 unfold cE;symm;refine gK g r ?_;and_intros;exact ND _ _ _ _ _ _ (.inl rfl) hR
def ly (p:cA):Prop:=∀ (r:Rw) (m:Str) M R,R (.int (r.names.count m:Nat)) M->p [bD r,.str m] M R
theorem mJ (g:GB Γ) {r:Rw}{m:Str} (hR:R (.int (r.names.count m:Nat)) M):Fn Γ dy [.sh (bD r),.sh (.str m)] M R:=by
 unfold dy;symm;refine gK g r ?_;and_intros;refine⟨rfl,by rw[XG];exact T_.mpr fun _ _=>rfl,?_⟩;rw[aci];exact hR
def jE (p:cA):Prop:=∀ (r:Rw) (m:Str) M R,r.names.length<=1000->(∀ w ls,r≠.table w ls)->R (.lst ((n6 r.names m).map .int)) M->p [bD r,.str m] M R
theorem og (g:GB Γ) (p9:iE (Γ.fn 9)) {zs:List Str}{m:Str} (hl:zs.length<=1000) (hR:R (.lst ((n6 zs m).map .int)) M):Fn Γ eg [.sh (bD (.row zs)),.sh (.str m)] M R:=by
 unfold eg;symm;refine gK g (.row zs) ?_;and_intros;exact p9 _ _ _ _ hl hR
theorem kn (g:GB Γ) (p9:iE (Γ.fn 9)) {ns:List Nd}{m:Str} (hl:(ns.map (·.1)).length<=1000) (hR:R (.lst ((n6 (ns.map (·.1)) m).map .int)) M):Fn Γ cF [.sh (bD (.af ns)),.sh (.str m)] M R:=by
 unfold cF;symm;refine gK g (.af ns) ?_;and_intros;exact p9 _ _ _ _ hl hR
def Rw.under:Rw->Nat->Nat->Prop
 | .row _,_,_=>False
 | .af ns,i,j=>∀ k,i<k->k<=j->(ns.getD i ("",0)).2<(ns.getD k ("",0)).2
 | .table w _,i,j=>i % w=j % w
def Rw.aE:Rw->Nat->Nat->Prop
 | .row _,i,j=>j=i+1
 | .af ns,i,j=>(ns.getD i ("",0)).2=(ns.getD j ("",0)).2/\∀ k,i<k->k<j->(ns.getD i ("",0)).2<(ns.getD k ("",0)).2
 | .table w _,i,j=>j=i+1/\i / w=j / w
def Rw.rel (r:Rw) (f:Nat->Nat->Prop) (a b:Str):Prop:=∃ i j,i<j/\r.names[i]? = some a/\r.names[j]? = some b/\f i j
def oh (p:cA):Prop:=∀ (r:Rw) (a b:Str) M R,r.Ok->(∀ c:Bool,(c=true↔r.rel r.under a b)->R (.bl c) M)->p [bD r,.str a,.str b] M R
def l5 (p:cA):Prop:=∀ (r:Rw) (a b:Str) M R,r.Ok->az b=true->(∀ c:Bool,(c=true↔r.rel r.aE a b)->R (.bl c) M)->p [bD r,.str a,.str b] M R
theorem oj {zs:List Str}{a b:Str} (hR:∀ c:Bool,(c=true↔(Rw.row zs).rel (Rw.row zs).under a b)->R (.bl c) M):Fn Γ eh [.sh (bD (.row zs)),.sh (.str a),.sh (.str b)] M R:=by
 unfold eh;symm;exact hR false ⟨fun z=>(nomatch z),fun⟨_,_,_,_,_,h⟩=>h.elim⟩
theorem mK (g:GB Γ) (Jn:bZ (Γ.fn 11)) {zs:List Str}{a b:Str} (o:(Rw.row zs).Ok) (hR:∀ c:Bool,(c=true↔(Rw.row zs).rel (Rw.row zs).aE a b)->R (.bl c) M):Fn Γ dz [.sh (bD (.row zs)),.sh (.str a),.sh (.str b)] M R:=by
 unfold dz;symm;refine gK g (.row zs) ?_;and_intros;refine Jn _ _ _ _ _ _ (.inl rfl) (P_ o.2 (by decide)) fun c hc=>hR c (hc.trans ⟨fun⟨i,h1,h2⟩=>⟨i,i+1,by omega,h1,h2,rfl⟩,fun⟨i,j,h1,h2,h3,h4⟩=>⟨i,h2,?_⟩⟩)
 cases (show j=i+1 from h4)
 exact h3
noncomputable def pQ (lo n:Nat):List Int:=(Wg n).map fun i:Nat=>((lo+i:Nat):Int)
def lz (p:cA):Prop:=∀ (ns:List Nd) (i:Nat) M R,(Rw.af ns).Ok->i<ns.length->R (.lst (bJ i (bj ns i+1))) M->p [bD (.af ns),.int i] M R
theorem om {ns:List Nd}{k:Nat->List Str->Prop}:eL M (bD (.af ns)) k=k 18 ["spot_marks","nodes"]:=rfl
theorem NE {zs:List Str}{k:Nat->List Str->Prop}:eL M (bD (.row zs)) k=k 17 ["spot_marks"]:=rfl
theorem NF {w:Nat}{ls:List (List Str)}{k:Nat->List Str->Prop}:eL M (bD (.table w ls)) k=k 19 ["spot_marks","lines","columns"]:=rfl
theorem kq (g:GB Γ) {ns:List Nd}{k:Dt->Prop} (h:k (.tup (ns.map aG))):eK Γ "nodes" (bD (.af ns)) k:=Jk g h
theorem m6 {ns:List Nd}{i:Nat}{n:Nd}{k:Dt->Prop} (hn:ns[i]? = some n) (h:k (aG n)):iW (.tup (ns.map aG)) i k:=⟨aG n,bg (by rw[g_,hn];rfl),h⟩
theorem DB {n:Nd}{k:Dt->Prop} (h:k (.str n.1)):iW (aG n) 0 k:=⟨_,rfl,h⟩
theorem ug {n:Nd}{k:Dt->Prop} (h:k (.int n.2)):iW (aG n) 1 k:=⟨_,rfl,h⟩
theorem getD_some {α:Type}{xs:List α}{i:Nat}{x d:α} (h:xs[i]? = some x):xs.getD i d=x:=by rw[B_,h];rfl
theorem lB (g:GB Γ) (p9:lx (Γ.me 9)) (hm:Γ.hm 9 18 ["spot_marks","nodes"]=true) {ns:List Nd}{i:Nat} (o:(Rw.af ns).Ok) (hi:i<ns.length) (hR:R (.lst (bJ i (bj ns i+1))) M):Fn Γ cZ [.sh (bD (.af ns)),.sh (.int i),.no] M R:=by
 unfold cZ;have tl:=kj ns i;have ED:=o.2;obtain⟨ni,Jo⟩:∃ n,ns[i]? = some n:=⟨_,c_ hi⟩;symm;left;refine⟨fun m ρ M'=>M'=M/\∃ e:Nat,m=ns.length-e/\i<e/\e<=i+bj ns i+1/\ρ=[.sh (bD (.af ns)),.sh (.int i),.sh (.int e)],⟨_,rfl,i+1,rfl,by omega,by omega,by simp⟩,?_⟩;rintro m ρ M' ⟨rfl,e,rfl,h1,h2,rfl⟩
 have fin:e=i+bj ns i+1->N [.sh (bD (.af ns)),.sh (.int i),.sh (.int e)] M':=fun he=>by
  left;refine⟨⟨by omega,by omega⟩,⟨by omega,by omega⟩,by omega,?_⟩;rw[show ((e:Int)-(i:Int)).toNat=bj ns i+1 by omega];exact hR
 and_intros;rw[om];refine⟨hm,p9 _ _ _ ?_⟩;show if decide ((e:Int)<(ns.length:Nat))=true then _ else _
 by_cases he:e<ns.length
 ·refine bM (d_ (by omega)) ?_;obtain⟨ne,BF⟩:∃ n,ns[e]? = some n:=⟨_,c_ he⟩;refine kq g (m6 BF (ug (kq g (m6 Jo (ug ?_)))));show if decide (ni.2<ne.2)=true then _ else _
  by_cases j3:ni.2<ne.2
  ·refine bM (d_ j3) ?_;right;subst hN2
   have:e≠i+bj ns i+1:=fun z=>by
    have:=qM (ns:=ns) (k:=i) (n:=ne) (by rw[←BF,z];congr 1;omega);rw[getD_some Jo] at this;exact this j3
   exact⟨ns.length-(e+1),by omega,rfl,e+1,rfl,by omega,by omega,by simp⟩
  ·refine bG (by rw[f_ j3];decide) (fin ?_);rcases WS e (i+bj ns i+1) with h | h
   ·obtain⟨n,hn,hd⟩:=xg (ns:=ns) (k:=i) (j:=e-(i+1)) (by omega);rw[show i+1+(e-(i+1))=e by omega,BF] at hn
    cases hn
    rw[getD_some Jo] at hd;exact absurd hd j3
   ·omega
 ·refine bG (by rw[f_ (by omega)];decide) (fin (by omega))
theorem dR {zs:List Str}{m:Str}{q:Int}:q∈n6 zs m↔∃ i:Nat,q=(i:Int)/\zs[i]? = some m:=by
 unfold n6;rw[z_];constructor
 ·rintro⟨⟨z,i⟩,h,rfl⟩;obtain⟨h1,h2⟩:=Xf.mp h;have:=Zm.mp h1
  cases of_decide_eq_true h2
  exact⟨i,rfl,this⟩
 ·rintro⟨i,rfl,h⟩;exact⟨(m,i),Xf.mpr ⟨Zm.mpr h,by simp⟩,rfl⟩
theorem A4 {ns:List Nd}{i:Nat}{a:Str} (h:(ns.map (·.1))[i]? = some a):∃ n:Nd,ns[i]? = some n/\n.1=a:=by
 rw[g_] at h;obtain⟨n,h1,h2⟩:=m_.mp h;exact⟨n,h1,h2⟩
theorem uh {x:Str}{zs:List Str}{Q:Bool->Prop} (h:Q (decide (x∈zs))):vJ (.str x) (.lst (zs.map .str)) Q:=by
 refine .inl ⟨zs.map .str,rfl,rfl,by rw[XG];exact T_.mpr fun _ _=>rfl,?_⟩;rw[Y0]
 have e:(zs.any ((fun z=>JS z (.str x)) ∘ Dt.str))=decide (x∈zs):=by
  rw[WK,Xr,V4];constructor
  ·rintro⟨z,h1,h2⟩;have h2:(z==x)=true:=h2;rw[←W8.mp h2];exact h1
  ·intro h1;exact⟨x,h1,show (x==x)=true from Xt x⟩
 rw[e];exact h
theorem cu {f:Dt->En->Mem->yu->Prop}{E:yu}{items:List Dt}{ρ:En}{T:Prop} (Iv:En->Prop) (P:Dt->Prop) (h0:Iv ρ)
  (hs:∀ x∈items,∀ (ρ:En) (N:En->Mem->Prop),Iv ρ->(P x->T)->(¬ P x->∀ ρ',Iv ρ'->N ρ' M)->f x ρ M { E with nx:=N,ct:=N,bk:=E.nx })
  (ht:(∃ x∈items,P x)->T) (hd:(¬ ∃ x∈items,P x)->∀ ρ,Iv ρ->E.nx ρ M):eS f E items ρ M:=by
 refine aC (fun i ρ M'=>M'=M/\Iv ρ/\¬ ∃ x∈items.take i,P x) ⟨rfl,h0,by simp⟩ ?_ ?_
 ·rintro i x ρ M' N hx ⟨rfl,iv,gU⟩ hN;have hm:=A_ hx;refine hs x hm ρ N iv (fun p=>ht ⟨x,hm,p⟩) fun np ρ' Rp=>hN ρ' _ ⟨rfl,Rp,?_⟩
  rintro⟨y,hy,py⟩;rw[ez hx] at hy;rcases U_.mp hy with h | h
  ·exact gU ⟨y,h,py⟩
  ·rw[y_] at h;subst h;exact np py
 ·rintro ρ M' ⟨rfl,iv,gU⟩;rw[XS] at gU;exact hd gU ρ iv
theorem Jp {lo n:Nat}:bJ lo n=(pQ lo n).map .int:=by
 unfold bJ pQ;rw[R_];rfl
theorem yE {lo n:Nat}:(pQ lo (n+1)).drop 1=pQ (lo+1) n:=by
 apply ZV;intro j;unfold pQ;rw[W_,g_,g_];rcases WS j n with h | h
 ·rw[W4 (by omega),W4 h];show some ((lo+(1+j):Nat):Int)=some ((lo+1+j:Nat):Int);rw[Nat.add_assoc]
 ·rw[Wu (by rw[Wc];omega),Wu (by rw[Wc];omega)];rfl
theorem oo {lo n:Nat}{q:Int}:q∈pQ lo n↔∃ i:Nat,q=(i:Int)/\lo<=i/\i<lo+n:=by
 unfold pQ;rw[z_];constructor
 ·rintro⟨k,hk,rfl⟩;have:=Wv.mp hk;exact⟨lo+k,rfl,by omega,by omega⟩
 ·rintro⟨i,rfl,h1,h2⟩;exact⟨i-lo,Wv.mpr (by omega),by congr 1;omega⟩
theorem sk {zs:List Str}{i:Nat}{z:Str} (h:zs[i]? = some z):atS zs i=z:=by unfold atS;rw[l_];exact getD_some h
theorem kr (g:GB Γ) (p8:gJ (Γ.fn 8)) (m7:jE (Γ.me 12)) (Jq:lz (Γ.me 15)) (Jr:Γ.hm 12 18 ["spot_marks","nodes"]=true) (Js:Γ.hm 15 18 ["spot_marks","nodes"]=true) {ns:List Nd}{a b:Str} (o:(Rw.af ns).Ok) (hR:∀ c:Bool,(c=true↔(Rw.af ns).rel (Rw.af ns).under a b)->R (.bl c) M):Fn Γ cG [.sh (bD (.af ns)),.sh (.str a),.sh (.str b),.no] M R:=by
 unfold cG;have ED:ns.length<=40:=o.2;have nl:(Rw.af ns).names.length=ns.length:=a_ _;symm;rw[om];refine⟨Jr,m7 _ _ _ _ (by rw[nl];omega) (fun _ _ z=>nomatch z) ?_⟩;and_intros
 have NG:∀ i:Nat,i<ns.length->((∃ j,i<j/\(Rw.af ns).names[j]? = some b/\(Rw.af ns).under i j)↔b∈((pQ (i+1) (bj ns i)).map (atS (Rw.af ns).names))):=fun i hi=>by
  have tl:=kj ns i;rw[z_];constructor
  ·rintro⟨j,h1,h2,h3⟩;have hj:j<ns.length:=by rw[←nl];exact (j_.mp h2).1
   have:=(iG hj).mpr h3;exact⟨j,oo.mpr ⟨j,rfl,by omega,by omega⟩,sk h2⟩
  ·rintro⟨q,hq,hb⟩;obtain⟨j,rfl,h1,h2⟩:=oo.mp hq;have hj:j<ns.length:=by omega
   have hg:(Rw.af ns).names[j]? = some ((Rw.af ns).names[j]'(by omega)):=c_ _;rw[sk hg] at hb;exact⟨j,by omega,by rw[hg,hb],(iG hj).mp (by omega)⟩
 refine cu (T:=R (.bl true) M) (fun ρ=>∃ o3,ρ=[.sh (bD (.af ns)),.sh (.str a),.sh (.str b),o3]) (fun x=>∃ i j:Nat,x=.int i/\i<j/\(Rw.af ns).names[j]? = some b/\(Rw.af ns).under i j) ⟨_,rfl⟩ ?_ ?_ ?_
 ·rintro x hx ρ N' ⟨o3,rfl⟩ hy hn;obtain⟨q,hq,rfl⟩:=z_.mp hx;obtain⟨i,rfl,Jt⟩:=dR.mp hq;have hi:i<ns.length:=by rw[←nl];exact (j_.mp Jt).1
  have tl:=kj ns i;and_intros;right;refine gK g _ ?_;rw[om];refine⟨Js,Jq _ _ _ _ o hi ?_⟩;show Γ.fn 8 [_,.lst (cutD (bJ i (bj ns i+1)) (some 1) none)] M _;rw[ud (n:=1) (i:=1) rfl,Jp,←abe,yE];refine p8 _ _ _ _ _ (.inl rfl) (fun q hq=>?_) (by unfold pQ;rw[a_,Wc];omega) ?_
  ·obtain⟨j,rfl,h1,h2⟩:=oo.mp hq;rw[nl];omega
  ·refine uh ?_;by_cases hb:b∈((pQ (i+1) (bj ns i)).map (atS (Rw.af ns).names))
   ·refine bM (d_ hb) ?_;refine sqo fun N3 cT=>?_
    obtain⟨j,h1,h2,h3⟩:=(NG i hi).mpr hb;exact hy ⟨i,j,rfl,h1,h2,h3⟩
   ·refine bG (by rw[f_ hb];decide) ?_;subst hN2;refine hn ?_ _ ⟨_,rfl⟩;rintro⟨i',j,e,h1,h2,h3⟩;have:i=i':=by injection e with e;omega
    subst this;exact hb ((NG i hi).mp ⟨j,h1,h2,h3⟩)
 ·rintro⟨x,hx,i,j,rfl,h1,h2,h3⟩;obtain⟨q,hq,e⟩:=z_.mp hx;obtain⟨i',rfl,Jt⟩:=dR.mp hq;have:i'=i:=by injection e with e;omega
  subst this;exact hR true ⟨fun _=>⟨i',j,h1,Jt,h2,h3⟩,fun _=>rfl⟩
 ·rintro gU ρ ⟨o3,rfl⟩;left;refine hR false ⟨fun z=>(nomatch z),fun⟨i,j,h1,h2,h3,h4⟩=>absurd ⟨.int i,z_.mpr ⟨i,dR.mpr ⟨i,rfl,h2⟩,rfl⟩,i,j,rfl,h1,h3,h4⟩ gU⟩
theorem uk {n:Nd}{b:Str}{d:Int}:O_ (.tuple [.str n.1,.int n.2]) (.tuple [.str b,.int d])=decide (n=(b,d)):=by
 rw[X_,Wj,Wj,YE,ack,acl,Wx,WK,t_,W8,W8,V4];exact⟨fun⟨h1,h2⟩=>Prod.ext h1 h2,fun h=>by rw[h];exact⟨rfl,rfl⟩⟩
theorem l6 {n:Nd} (h:az n.1=true):H_ (.tuple [.str n.1,.int n.2])=true:=by
 have c:=dI (ns:=[n]) (by intro m hm;rw[y_] at hm;subst hm;exact fT h);have d:=eP [n];unfold H_;unfold i9 at c d;simp only[p_,WX,Q_,V9,Wx] at c d;rw[t_];exact⟨c,d_ (by omega)⟩
theorem A5 {n:Nd}{b:Str}{d:Int}{Q:Bool->Prop} (h1:az n.1=true) (h2:az b=true) (h:Q (decide (n=(b,d)))):lX (aG n) (.tup [.str b,.int d]) Q:=by
 refine (show ∃ p q,toP (aG n)=some p/\toP (.tup [.str b,.int d])=some q/\H_ p=true/\H_ q=true/\Q (O_ p q) from ⟨_,_,rfl,rfl,l6 h1,l6 (n:=(b,d)) h2,?_⟩);rw[uk];exact h
theorem jF (g:GB Γ) (p9:lx (Γ.me 9)) (m7:jE (Γ.me 12)) (Jq:lz (Γ.me 15)) (Ju:Γ.hm 9 18 ["spot_marks","nodes"]=true) (Jr:Γ.hm 12 18 ["spot_marks","nodes"]=true) (Js:Γ.hm 15 18 ["spot_marks","nodes"]=true) {ns:List Nd}{a b:Str} (hb:az b=true) (o:(Rw.af ns).Ok) (hR:∀ c:Bool,(c=true↔(Rw.af ns).rel (Rw.af ns).aE a b)->R (.bl c) M):Fn Γ cn [.sh (bD (.af ns)),.sh (.str a),.sh (.str b),.no,.no] M R:=by
 unfold cn;have ED:ns.length<=40:=o.2;have nl:(Rw.af ns).names.length=ns.length:=a_ _;symm;rw[om];refine⟨Jr,m7 _ _ _ _ (by rw[nl];omega) (fun _ _ z=>nomatch z) ?_⟩;and_intros
 have NG:∀ i:Nat,i<ns.length->((∃ j,i<j/\(Rw.af ns).names[j]? = some b/\(Rw.af ns).aE i j)↔ns[i+bj ns i+1]? = some (b,(ns.getD i ("",0)).2)):=fun i hi=>by
  have tl:=kj ns i;constructor
  ·rintro⟨j,h1,h2,h3,h4⟩;have hj:j<ns.length:=by rw[←nl];exact (j_.mp h2).1
   have up:j-1<=i+bj ns i:=(iG (by omega)).mpr fun k k1 k2=>h4 k k1 (by omega)
   have no:¬ j<=i+bj ns i:=fun h=>by
    have:=(iG hj).mp h j h1 (x_ _);omega
   have ej:j=i+bj ns i+1:=by omega
   subst ej;obtain⟨n,hn,rfl⟩:=A4 h2;rw[getD_some hn] at h3;rw[hn,h3]
  ·intro h;have hj:=(j_.mp h).1;refine⟨i+bj ns i+1,by omega,by show (ns.map _)[_]? = _;rw[g_,h];rfl,by rw[getD_some h],fun k k1 k2=>?_⟩;exact (iG (l:=k) (by omega)).mp (by omega) k k1 (x_ _)
 refine cu (T:=R (.bl true) M) (fun ρ=>∃ o3 o4,ρ=[.sh (bD (.af ns)),.sh (.str a),.sh (.str b),o3,o4]) (fun x=>∃ i j:Nat,x=.int i/\i<j/\(Rw.af ns).names[j]? = some b/\(Rw.af ns).aE i j) ⟨_,_,rfl⟩ ?_ ?_ ?_
 ·rintro x hx ρ N' ⟨o3,o4,rfl⟩ hy hn;obtain⟨q,hq,rfl⟩:=z_.mp hx;obtain⟨i,rfl,Jt⟩:=dR.mp hq;have hi:i<ns.length:=by rw[←nl];exact (j_.mp Jt).1
  obtain⟨ni,Jo⟩:∃ n,ns[i]? = some n:=⟨_,c_ hi⟩;have tl:=kj ns i
  have EE:¬ ns[i+bj ns i+1]? = some (b,ni.2)->¬ ∃ i' j:Nat,Dt.int i=.int i'/\i'<j/\(Rw.af ns).names[j]? = some b/\(Rw.af ns).aE i' j:=fun h=>by
   rintro⟨i',j,e,h1,h2,h3⟩;have:i=i':=by injection e with e;omega
   subst this;refine h ?_;rw[(NG i hi).mp ⟨j,h1,h2,h3⟩,getD_some Jo]
  and_intros;right;rw[om];refine⟨Js,Jq _ _ _ _ o hi ?_⟩;refine⟨.int ((i+bj ns i:Nat):Int),?_,?_⟩
  ·have e:bJ i (bj ns i+1)=bJ i (bj ns i)++[.int ((i+bj ns i:Nat):Int)]:=by
    unfold bJ;rw[aaB,S_];rfl
   rw[e];exact jW _ _
  and_intros;subst hN2;right;rw[om];refine⟨Ju,p9 _ _ _ ?_⟩;show if decide (((i+bj ns i:Nat):Int)+1<((ns.length:Nat):Int))=true then _ else _
  by_cases j3:i+bj ns i+1<ns.length
  ·refine bM (d_ (by omega)) ?_;obtain⟨ne,BF⟩:∃ n,ns[i+bj ns i+1]? = some n:=⟨_,c_ j3⟩;refine kq g ?_;rw[←Int.natCast_one,←XD];refine m6 BF (kq g (m6 Jo (ug ⟨sz (by simp),A5 (sd o.1 BF).1 hb ?_⟩)));by_cases he:ne=(b,ni.2)
   ·refine bM (d_ he) ?_;refine sqo fun N3 cT=>?_
    obtain⟨j,h1,h2,h3⟩:=(NG i hi).mpr (by rw[BF,he,getD_some Jo]);exact hy ⟨i,j,rfl,h1,h2,h3⟩
   ·refine bG (by rw[f_ he];decide) ?_;subst hN2;exact hn (EE (by rw[BF];exact fun z=>he (F_ z))) _ ⟨_,_,rfl⟩
  ·refine bG (by rw[f_ (by omega)];decide) ?_;subst hN2;exact hn (EE (by rw[Wu (by omega)];exact fun z=>nomatch z)) _ ⟨_,_,rfl⟩
 ·rintro⟨x,hx,i,j,rfl,h1,h2,h3⟩;obtain⟨q,hq,e⟩:=z_.mp hx;obtain⟨i',rfl,Jt⟩:=dR.mp hq;have:i'=i:=by injection e with e;omega
  subst this;exact hR true ⟨fun _=>⟨i',j,h1,Jt,h2,h3⟩,fun _=>rfl⟩
 ·rintro gU ρ ⟨o3,o4,rfl⟩;left;refine hR false ⟨fun z=>(nomatch z),fun⟨i,j,h1,h2,h3,h4⟩=>absurd ⟨.int i,z_.mpr ⟨i,dR.mpr ⟨i,rfl,h2⟩,rfl⟩,i,j,rfl,h1,h3,h4⟩ gU⟩
end
section
variable {Γ:Gm}{M:Mem}{R:Dt->Mem->Prop}
abbrev In (Γ:Gm) (c:S) (ρ:En) (M:Mem) (q:Nat) (k:Dt->Mem->Prop):Prop:=ex Γ c ρ M { nx:=fun ρ M'=>cX ρ 0 fun d=>mF d fun q' fC sR=>q'=q/\k (.obj q fC sR) M',rt:=fun _ _=>False }
noncomputable abbrev BN:=Dt->List Dt->Mem->(Dt->Mem->Prop)->Prop
def m8 (p:BN):Prop:=∀ (c:Nat) (zs:List Str) M k,(c=17∨c=18∨c=19)->k (.obj c ["spot_marks"] [.fE (zs.map .str)]) M->p (.obj c [] []) [.lst (zs.map .str)] M k
theorem sn (g:GB Γ) {c:Nat}{zs:List Str}{k:Dt->Mem->Prop} (hc:c=17∨c=18∨c=19) (h:k (.obj c ["spot_marks"] [.fE (zs.map .str)]) M):In Γ gu [.ow (.obj c [] []),.sh (.lst (zs.map .str))] M c k:=by
 unfold gu;symm
 have ha:Γ.at_ c "spot_marks" = true:=by
  rcases hc with rfl | rfl | rfl
  ·exact NC g
  ·exact Ez g
  ·exact EB g
 refine⟨ha,by simp,?_⟩;subst hN;exact⟨rfl,h⟩
def A6 (p:BN):Prop:=∀ (zs:List Str) M k,(Rw.row zs).Ok->k (bD (.row zs)) M->p (.obj 17 [] []) [.lst (zs.map .str)] M k
theorem v7 (g:GB Γ) (p3:fB (Γ.fn 3)) (pT:m8 (Γ.bA 16)) {zs:List Str}{k:Dt->Mem->Prop} (o:(Rw.row zs).Ok) (h:k (bD (.row zs)) M):In Γ jy [.ow (.obj 17 [] []),.sh (.lst (zs.map .str))] M 17 k:=by
 unfold jy;symm;rw[g.cs];refine p3 zs 40 _ _ o.1 (by have:=o.2;omega) ?_;left;refine pT 17 zs _ _ (.inl rfl) ?_;subst hN;exact⟨rfl,h⟩
theorem put2 {d e:Dt}:putD "nodes" e ["spot_marks"] [d]=((["spot_marks","nodes"]:List Str),[d,e]):=by
 unfold putD;rw[n_ (by decide +kernel)];rfl
theorem NH {d e:Dt}:putD "lines" e ["spot_marks"] [d]=((["spot_marks","lines"]:List Str),[d,e]):=by
 unfold putD;rw[n_ (by decide +kernel)];rfl
theorem EF {d e c:Dt}:putD "columns" c ["spot_marks","lines"] [d,e]=((["spot_marks","lines","columns"]:List Str),[d,e,c]):=by
 unfold putD;rw[n_ (by decide +kernel)];unfold putD;rw[n_ (by decide +kernel)];rfl
theorem NI {d e c c':Dt}:putD "columns" c' ["spot_marks","lines","columns"] [d,e,c]=((["spot_marks","lines","columns"]:List Str),[d,e,c']):=by
 unfold putD;rw[n_ (by decide +kernel)];unfold putD;rw[n_ (by decide +kernel)];unfold putD;rw[w_ rfl]
noncomputable def NJ:Dt->Dt | .tup (.str z::_)=>.str z | _=>.aK
noncomputable def NK:Dt->Dt | .lst ds=>.tup ds | d=>d
def oq (p:BN):Prop:=∀ (ns:List Nd) M k,(Rw.af ns).Ok->k (bD (.af ns)) M->p (.obj 18 [] []) [.lst (ns.map aG)] M k
theorem pS (g:GB Γ) (p5:jh (Γ.fn 5)) (pT:m8 (Γ.bA 16)) {ns:List Nd}{k:Dt->Mem->Prop} (o:(Rw.af ns).Ok) (h:k (bD (.af ns)) M):In Γ fk [.ow (.obj 18 [] []),.sh (.lst (ns.map aG))] M 18 k:=by
 unfold fk;symm;refine p5 ns _ _ o.1 o.2 ?_;left;refine⟨by rw[a_];exact sz (by have:=o.2;omega),comp_map NJ (fun x hx K hK=>?_) ?_⟩
 ·obtain⟨n,hn,rfl⟩:=z_.mp hx;and_intros;exact DB hK
 ·rw[show (ns.map aG).map NJ=(ns.map (·.1)).map .str by rw[R_,R_];rfl];refine pT 18 (ns.map (·.1)) _ _ (.inr (.inl rfl)) ?_;left;refine⟨EA g,by simp,?_⟩;subst hN;rw[put2];exact⟨rfl,h⟩
def so (p:BN):Prop:=∀ (w:Nat) (ls:List (List Str)) M k,aX w ls->k (bD (.table (if ls=[] then 0 else w) ls)) M->p (.obj 19 [] []) [.lst (ls.map aW)] M k
theorem sr (g:GB Γ) (p6:ji (Γ.fn 6)) (pT:m8 (Γ.bA 16)) {w:Nat}{ls:List (List Str)}{k:Dt->Mem->Prop} (o:aX w ls) (h:k (bD (.table (if ls=[] then 0 else w) ls)) M):In Γ gv [.ow (.obj 19 [] []),.sh (.lst (ls.map aW)),.no,.no] M 19 k:=by
 unfold gv;symm;refine p6 w ls _ _ o ?_;left;refine⟨sz (by simp),?_⟩;left
 have fl:∀ n,((ls.take n).flatten).length<=n*12:=fun n=>by
  induction n with
  | zero=>simp
  | succ n ih =>
   cases hl:ls[n]? with
   | none =>
    have:=List.getElem?_eq_none_iff.mp hl;rw[WM (by omega)];rw[WM this] at ih;omega
   | some l =>
    rw[ez hl];have:=o.jN l (A_ hl);have:=o.BM;simp only[List.flatten_append,G_,YW,List.flatten_nil,WB];omega
 refine aC (fun i ρ M'=>M'=M/\∃ o3,ρ=[.ow (.obj 19 [] []),.sh (.lst (ls.map aW)),.ow (.lst (((ls.take i).flatten).map .str)),o3]) ⟨rfl,_,rfl⟩ ?_ ?_
 ·rintro i x ρ M' N' hx ⟨rfl,o3,rfl⟩ fF;rw[g_] at hx;obtain⟨l,hl,rfl⟩:=m_.mp hx;and_intros;refine sqo fun N2 hN2=>?_
  unfold aW;and_intros;subst hN2;have e:(ls.take i).flatten++l=(ls.take (i+1)).flatten:=by rw[ez hl];simp
  refine⟨?_,?_⟩
  ·rw[a_,a_,←G_,e];have:=fl (i+1);have:=(j_.mp hl).1;have:=o.len;exact sz (by omega)
  ·rw[←S_,e];exact fF _ _ ⟨rfl,_,rfl⟩
 ·rintro ρ M' ⟨rfl,o3,rfl⟩;rw[a_,XS];left;left;refine pT 19 ls.flatten _ _ (.inr (.inr rfl)) ?_;left;refine⟨by rw[a_];exact sz (by have:=o.len;omega),comp_map NK (fun x hx K hK=>?_) ⟨EC g,by simp,?_⟩⟩
  ·obtain⟨l,hl,rfl⟩:=z_.mp hx;exact hK
  ·rw[NH,show (ls.map aW).map NK=ls.map eB by rw[R_];rfl];left
   cases ls with
   | nil =>
    refine bG (by decide) ⟨xh g,by simp,?_⟩;rw[EF];subst hN;exact⟨rfl,h⟩
   | cons l r =>
    refine bM (by simp) ⟨aW l,bg (j:=0) rfl,?_⟩;unfold aW;and_intros;refine⟨xh g,by simp,?_⟩;rw[EF,a_,o.jN l (by simp)];rw[n_ (by simp)] at h;subst hN;exact⟨rfl,h⟩
theorem eR {r:Rw}{ps:List Int} (o:r.Ok) (hp:placesOk 0 r.many ps):(r.left ps).Ok:=by
 have pa:=aO hp;have pl:=places_len hp (by omega)
 cases r with
 | row zs =>
  refine⟨fun z hz=>?_,by show (ps.map _).length<=40;rw[a_];have:((ps.length:Nat):Int)<=(zs.length:Nat)-0:=pl;have:=o.2;omega⟩;obtain⟨q,hq,rfl⟩:=z_.mp hz;obtain⟨h0,h1⟩:=pa q hq;have h1:q<(zs.length:Nat):=h1;exact o.1 _ (getD_mem (by omega))
 | af ns =>
  refine⟨SH.eR o.1 hp,?_⟩;show (ps.map _).length<=40;rw[a_];have:((ps.length:Nat):Int)<=(ns.length:Nat)-0:=pl;have:=o.2;omega
 | table w ls =>
  have kN:placesOk 0 ((ls.length:Int)+(w:Int)) ps:=by have:=hp;rwa [show ((Rw.table w ls).many:Int)=(ls.length:Int)+(w:Int) from XD _ _] at this
  have l1:=eQ (n:=ls.length) kN;have l2:=fV (n:=ls.length) kN;have la:=ib (n:=ls.length) kN;have ca:=jp kN;have o:aX w ls:=o;have o1:=o.len;have o2:=o.BM;refine⟨by show (List.map _ _).length<=12;rw[a_];omega,by omega,fun l hl=>?_,fun l hl z hz=>?_⟩
  ·obtain⟨i,hi,rfl⟩:=z_.mp hl;rw[a_]
  ·obtain⟨i,hi,rfl⟩:=z_.mp hl;obtain⟨j,hj,rfl⟩:=z_.mp hz;have:=la i hi;have:=ca j hj;have hm:=getD_mem (xs:=ls) (i:=i.toNat) (a:=[]) (by omega);exact o.NA _ hm _ (getD_mem (by rw[o.jN _ hm];omega))
def v8 (p:cA):Prop:=∀ (r:Rw) (ps:List Int) M R,r.Ok->placesOk 0 r.many ps->R (bD (r.left ps)) M->p [bD r,.lst (ps.map .int)] M R
theorem v9 (g:GB Γ) (p7:cN (Γ.fn 7)) (p8:gJ (Γ.fn 8)) (p9:lx (Γ.me 9)) (Ju:Γ.hm 9 17 ["spot_marks"]=true) (pR:A6 (Γ.bA 17)) {zs:List Str}{ps:List Int} (o:(Rw.row zs).Ok) (hp:placesOk 0 (Rw.row zs).many ps) (hR:R (bD ((Rw.row zs).left ps)) M):Fn Γ jA [.sh (bD (.row zs)),.sh (.lst (ps.map .int))] M R:=by
 unfold jA;have pl:=places_len hp (by omega);have ol:=eR o hp;symm;rw[NE];refine⟨Ju,p9 _ _ _ (p7 _ _ _ _ hp ?_)⟩;left;refine gK g _ ?_;and_intros;refine p8 _ zs ps _ _ (.inl rfl) (fun q hq=>aO hp q hq) ?_ ?_
 ·have:((ps.length:Nat):Int)<=(zs.length:Nat)-0:=pl;have:=o.2;omega
 ·exact pR _ _ _ ol hR
theorem ul {xs:List Dt}{n:Nat}{i:Int} (h:i=(n:Int)):cutD xs none (some i)=xs.take n:=by
 subst h;unfold cutD;rw[HT.tm,HT.mT];show (xs.drop 0).take (min n xs.length-0)=_;rw[acB,abQ];rcases Nat.le_total n xs.length with h | h
 ·rw[XC h]
 ·rw[ab7 h,WM (x_ _),WM h]
theorem A7 (ps W:List Int):pi ((g0 ps W).map Dt.int) (-1)=some (.int ((kept ps W).length:Int)):=by
 have e:g0 ps W=(g0 ps W).take W.length++[((kept ps W).length:Int)]:=by
  rw[←ez (yh ps W),WM (by rw[nG];omega)]
 rw[e,S_];exact jW _ _
theorem pU (g:GB Γ) (p7:cN (Γ.fn 7)) (p9:lx (Γ.me 9)) (Ju:Γ.hm 9 18 ["spot_marks","nodes"]=true) (pF:oq (Γ.bA 18)) {ns:List Nd}{ps:List Int} (o:(Rw.af ns).Ok) (hp:placesOk 0 (Rw.af ns).many ps) (hR:R (bD ((Rw.af ns).left ps)) M):Fn Γ fq [.sh (bD (.af ns)),.sh (.lst (ps.map .int)),.no,.no,.no,.no,.no,.no] M R:=by
 unfold fq;have pl:((ps.length:Nat):Int)<=(ns.length:Nat)-0:=places_len hp (by omega);have hp:placesOk 0 ns.length ps:=hp;have ol:=eR (r:=.af ns) o hp;have ED:ns.length<=40:=o.2;symm;rw[om];refine⟨Ju,p9 _ _ _ (p7 _ _ _ _ hp ?_)⟩;left;refine⟨by rw[a_];exact sz (by omega),comp_map (fun d=>.tup [d,.bl true]) (fun x hx K hK=>?_) ⟨ps,?_,by omega,?_⟩⟩
 ·exact⟨sz (by simp),hK⟩
 ·rw[R_];rfl
 left;refine⟨sz (by simp),?_⟩;left;refine⟨sz (by simp),?_⟩;left;refine kq g ?_;and_intros;refine aC (fun i ρ M'=>M'=M/\∃ o5 o6 o7,ρ=[.sh (bD (.af ns)),.sh (.lst (ps.map .int)),.sh (.BG ps),.ow (.lst (((below ps i).map (dZ ns ps)).map aG)),.ow (.lst ((g0 ps (way (ns.take i))).map .int)),o5,o6,o7]) ⟨rfl,_,_,_,by rw[W0,dY hp (by simp)];rfl⟩ ?_ ?_
 ·rintro i x ρ M' N' hx ⟨rfl,o5,o6,o7,rfl⟩ fF;rw[g_,aaW,g_] at hx;obtain⟨⟨d,j⟩,U3,rfl⟩:=m_.mp hx;obtain⟨d',OM,U4⟩:=m_.mp U3
  cases U4
  obtain⟨n,hn,rfl⟩:=m_.mp OM;have hi:i<ns.length:=(j_.mp hn).1;obtain⟨_,d2,_,_⟩:=sd o.1 hn;have wl:=wJ (ns:=ns) i (by omega);have bl:(below ps i).length<=ps.length:=aaG _ _;rw[Nat.zero_add];and_intros;right;refine ug ?_;and_intros;rw[ul (n:=n.2.toNat+1) (by omega),←Ze,yg,←ie hn];subst hN2;right;refine⟨_,A7 ps _,?_⟩;subst hN2;right;have al:=CG (ns:=ns) (k:=i) (by omega);have wt:=dj hn;rw[←ie hn] at wt;have bs:=jq (i:=i) hp;by_cases hk:(i:Int)∈ps
  ·rw[w_ hk] at bs;refine bM (by simpa using hk) ?_;refine sqo fun N3 cT=>?_
   and_intros;refine DB ⟨sz (by simp),by rw[a_,a_];exact YF (P_ bl (show ps.length<=100 by omega)) (by decide),?_⟩;subst cT;refine sqo fun N3 cT=>?_
   and_intros;refine⟨by rw[a_,nG];exact YF (show _<=100 by omega) (by decide),?_⟩;subst cT;subst hN2
   have e1:((below ps i).map (dZ ns ps)).map aG++[.tup [.str n.1,.int ((kept ps (pv ns i)).length:Int)]]=((below ps (i+1)).map (dZ ns ps)).map aG:=by
    rw[bs,S_,S_];congr 1;show _=[aG ((ns.getD ((i:Int)).toNat ("",0)).1,((kept ps (pv ns ((i:Int)).toNat)).length:Int))];rw[l_,getD_some hn];rfl
   have e2:(g0 ps (pv ns i)).map Dt.int++[.int (((kept ps (pv ns i)).length:Int)+1)]=(g0 ps (way (ns.take (i+1)))).map .int:=by
    rw[wt,qD,w_ hk,S_];rfl
   rw[e1,e2];exact fF _ _ ⟨rfl,_,_,_,rfl⟩
  ·rw[n_ hk,WB] at bs;refine bG (by simpa using hk) ?_;refine sqo fun N3 cT=>?_
   and_intros;refine⟨by rw[a_,nG];exact YF (show _<=100 by omega) (by decide),?_⟩;subst cT;subst hN2
   have e2:(g0 ps (pv ns i)).map Dt.int++[.int ((kept ps (pv ns i)).length:Int)]=(g0 ps (way (ns.take (i+1)))).map .int:=by
    rw[wt,qD,n_ hk,S_,Int.add_zero];rfl
   rw[e2,←bs];exact fF _ _ ⟨rfl,_,_,_,rfl⟩
 ·rintro ρ M' ⟨rfl,o5,o6,o7,rfl⟩;rw[a_,ZL,a_,qE hp];left;left;exact pF _ _ _ ol hR
end
section
variable {Γ:Gm}{M:Mem}{R:Dt->Mem->Prop}
theorem nh (g:GB Γ) {w:Nat}{ls:List (List Str)}{k:Dt->Prop} (h:k (.tup (ls.map eB))):eK Γ "lines" (bD (.table w ls)) k:=Jl g h
theorem Jv (g:GB Γ) {w:Nat}{ls:List (List Str)}{k:Dt->Prop} (h:k (.int w)):eK Γ "columns" (bD (.table w ls)) k:=Jm g h
noncomputable def qN (ls:List (List Str)):Dt->k_ Dt
 | .int q=>if q<(ls.length:Int) then some (eB (ls.getD q.toNat [])) else none
 | _=>none
noncomputable def ss (n:Nat):Dt->k_ Dt
 | .int q=>if (n:Int)<=q then some (.int (q-n)) else none
 | _=>none
theorem qO {ls:List (List Str)}:∀ {ps:List Int},(ps.map Dt.int).filterMap (qN ls)=(linesOf ls.length ps).map fun q=>eB (ls.getD q.toNat [])
 | []=>rfl
 | q::ps=>by
  have ih:=qO (ls:=ls) (ps:=ps);unfold SH.linesOf at ih ⊢;rw[p_,Wh,WE,ih];by_cases h:q<(ls.length:Int)
  ·rw[show qN ls (.int q)=some (eB (ls.getD q.toNat [])) from w_ h,w_ (by simpa using h)];rfl
  ·rw[show qN ls (.int q)=none from n_ h,n_ (by simpa using h)]
theorem ou {n:Nat}:∀ {ps:List Int},(ps.map Dt.int).filterMap (ss n)=(b5 n ps).map .int
 | []=>rfl
 | q::ps=>by
  have ih:=ou (n:=n) (ps:=ps);unfold b5 at ih ⊢;rw[p_,Wh,WE,ih];by_cases h:(n:Int)<=q
  ·rw[show ss n (.int q)=some (.int (q-n)) from w_ h,w_ (by simpa using h)];rfl
  ·rw[show ss n (.int q)=none from n_ h,n_ (by simpa using h)]
noncomputable def A8 (qs:List Int):Dt->Dt
 | .tup ds=>.lst (qs.map fun q=>ds.getD q.toNat .aK)
 | _=>.aK
theorem lC {qs:List Int}{l:List Str} (h:∀ j∈qs,0<=j/\j<(l.length:Int)):A8 qs (eB l)=aW (qs.map (atS l)):=by
 show Dt.lst (qs.map fun q=>(l.map Dt.str).getD q.toNat .aK)=.lst ((qs.map (atS l)).map .str);rw[R_];congr 1;refine WF fun j hj=>?_
 have:=h j hj;show (l.map Dt.str).getD j.toNat .aK=.str (l.getD j.toNat "");have SR:j.toNat<l.length:=by omega
 rw[getD_some (c_ SR),getD_some (by rw[g_,c_ SR];rfl)]
theorem su (g:GB Γ) (p7:cN (Γ.fn 7)) (p8:gJ (Γ.fn 8)) (p9:lx (Γ.me 9)) (Ju:Γ.hm 9 19 ["spot_marks","lines","columns"]=true) (pT:so (Γ.bA 19)) {w:Nat}{ls:List (List Str)}{ps:List Int} (o:(Rw.table w ls).Ok) (hp:placesOk 0 (Rw.table w ls).many ps) (hR:R (bD ((Rw.table w ls).left ps)) M):Fn Γ gA [.sh (bD (.table w ls)),.sh (.lst (ps.map .int)),.no,.no,.no,.no] M R:=by
 unfold gA;have ol:aX _ _:=eR (r:=.table w ls) o hp;have kN:placesOk 0 ((ls.length:Int)+(w:Int)) ps:=by have:=hp;rwa [show ((Rw.table w ls).many:Int)=(ls.length:Int)+(w:Int) from XD _ _] at this
 have pl:=places_len kN (by omega);have la:=ib (n:=ls.length) kN;have ca:=jp kN;have o:aX w ls:=o;have o1:=o.len;have o2:=o.BM;have l1:=eQ (n:=ls.length) kN;have l2:=fV (n:=ls.length) kN;symm;rw[NF];refine⟨Ju,p9 _ _ _ (p7 _ _ _ _ hp ?_)⟩;left;refine nh g ?_;and_intros;rw[a_];left;refine⟨by rw[a_];exact sz (by omega),bK (qN ls) (fun x hx K hK=>?_) ?_⟩
 ·obtain⟨q,hq,rfl⟩:=z_.mp hx;have:=aO kN q hq;and_intros;by_cases h:q<(ls.length:Int)
  ·refine bM (d_ h) (nh g ⟨eB (ls.getD q.toNat []),?_,?_⟩)
   ·obtain⟨n,rfl⟩:=Ww this.1;rw[l_];refine bg ?_;rw[g_,c_ (show n<ls.length by omega),getD_some (c_ (show n<ls.length by omega))];rfl
   ·rw[show qN ls (.int q)=some (eB (ls.getD q.toNat [])) from w_ h] at hK;exact hK
  ·refine bG (by rw[f_ h];decide) ?_;rw[show qN ls (.int q)=none from n_ h] at hK;exact hK
 rw[qO];left;refine⟨by rw[a_];exact sz (by omega),bK (ss ls.length) (fun x hx K hK=>?_) ?_⟩
 ·obtain⟨q,hq,rfl⟩:=z_.mp hx;and_intros;by_cases h:(ls.length:Int)<=q
  ·refine bM (d_ h) ?_;rw[show ss ls.length (.int q)=some (.int (q-ls.length)) from w_ h] at hK;exact hK
  ·refine bG (by rw[f_ h];decide) ?_;rw[show ss ls.length (.int q)=none from n_ h] at hK;exact hK
 rw[ou];left;refine⟨by rw[a_];exact sz (by omega),comp_map (A8 (b5 ls.length ps)) (fun x hx K hK=>?_) ?_⟩
 ·obtain⟨q,hq,rfl⟩:=z_.mp hx;have:=la q hq;have hm:=getD_mem (xs:=ls) (i:=q.toNat) (a:=[]) (by omega);have hw:=o.jN _ hm;and_intros;refine p8 _ (ls.getD q.toNat []) _ _ _ (.inr (.inl rfl)) (fun j hj=>by have:=ca j hj;omega) (by omega) ?_;rw[lC fun j hj=>by have:=ca j hj;omega] at hK;exact hK
 have e:((linesOf ls.length ps).map fun q=>eB (ls.getD q.toNat [])).map (A8 (b5 ls.length ps))=(uf ls ps).map aW:=by
  unfold uf;rw[R_,R_];refine WF fun q hq=>lC fun j hj=>?_
  have:=la q hq;have:=ca j hj;have hw:=o.jN _ (getD_mem (xs:=ls) (i:=q.toNat) (a:=[]) (by omega));omega
 rw[e];refine pT _ _ _ _ ol ?_;left;refine⟨xh g,by simp,?_⟩;rw[NI,a_];left;left;exact hR
noncomputable def bP (P:Prop):Bool:=@decide P (YK P)
theorem ox {P:Prop}:bP P=true↔P:=by unfold bP;exact @V4 P (YK P)
theorem xj {P:Prop}{c:Bool} (h:c=true↔P):c=bP P:=by rw[WK,ox];exact h
theorem cf {w:Nat}{z:Str} (hw:0<w):∀ {ls:List (List Str)}{i:Nat},(∀ l∈ls,l.length=w)->(ls.flatten[i]? = some z↔∃ l,ls[i / w]? = some l/\l[i % w]? = some z)
 | [],i,_=>by simp
 | l::ls,i,h=>by
  have hl:=h l (by simp);rw[YW];rcases WS i w with hi | hi
  ·rw[Wm (by omega),Yo hi,Yp hi];simp
  ·obtain⟨k,rfl⟩:∃ k,i=k+w:=⟨i-w,by omega⟩;rw[Wb (by omega),hl,Nat.add_sub_cancel,cf hw (fun m hm=>h m (by simp [hm])),Nat.add_div_right _ hw,Nat.add_mod_right];rfl
theorem A9 {ls:List (List Str)} (h:∀ l∈ls,l.length=0):ls.flatten=[]:=by
 rw[List.flatten_eq_nil_iff];exact fun l hl=>List.eq_nil_of_length_eq_zero (h l hl)
theorem w_pos {w:Nat}{ls:List (List Str)}{i:Nat}{z:Str} (h:∀ l∈ls,l.length=w) (hz:ls.flatten[i]? = some z):0<w:=by
 rcases YG w with e | e
 ·rw[A9 (by rw[←e];exact h)] at hz;cases hz
 ·exact e
theorem Ba {w:Nat}{ls:List (List Str)}{a b:Str} (o:aX w ls):(Rw.table w ls).rel (Rw.table w ls).aE a b↔∃ l∈ls,∃ c:Nat,l[c]? = some a/\l[c+1]? = some b:=by
 constructor
 ·rintro⟨i,j,_,h2,h3,rfl,h5⟩;have hw:=w_pos o.jN h2;obtain⟨l,q1,q2⟩:=(cf hw o.jN).mp h2;obtain⟨l',q3,q4⟩:=(cf hw o.jN).mp h3;rw[←h5,q1] at q3
  cases q3
  refine⟨l,A_ q1,i % w,q2,?_⟩;have e1:=Xj i w;have e2:=Xj (i+1) w;rw[←h5] at e2;rw[show i % w+1=(i+1) % w by omega];exact q4
 ·rintro⟨l,hl,c,h1,h2⟩;have hw:=o.jN l hl;have hc:=(j_.mp h2).1;obtain⟨r,hr⟩:=V8.mp hl;have hp:0<w:=by omega
  have q1:(r*w+c) / w=r:=by rw[aas,Zn hp,Yo (by omega),Y2]
  have q2:(r*w+(c+1)) / w=r:=by rw[aas,Zn hp,Yo (by omega),Y2]
  have q3:(r*w+c) % w=c:=by rw[Za,Yp (by omega)]
  have q4:(r*w+(c+1)) % w=c+1:=by rw[Za,Yp (by omega)]
  refine⟨r*w+c,r*w+(c+1),by omega,(cf hp o.jN).mpr ⟨l,by rw[q1];exact hr,by rw[q3];exact h1⟩,(cf hp o.jN).mpr ⟨l,by rw[q2];exact hr,by rw[q4];exact h2⟩,rfl,by rw[q1];exact q2.symm⟩
theorem xk {w:Nat}{ls:List (List Str)}{a b:Str} (o:aX w ls):(Rw.table w ls).rel (Rw.table w ls).under a b↔∃ c,c<w/\∃ r s:Nat,r<s/\(ls.map fun l=>l.getD c "")[r]? = some a/\(ls.map fun l=>l.getD c "")[s]? = some b:=by
 have get:∀ {c r:Nat}{z:Str},c<w->((ls.map fun l=>l.getD c "")[r]? = some z↔∃ l,ls[r]? = some l/\l[c]? = some z):=fun {c r z} hc=>by
  rw[g_];constructor
  ·intro h;obtain⟨l,h1,h2⟩:=m_.mp h;have:=o.jN l (A_ h1);refine⟨l,h1,?_⟩;have hg:=c_ (show c<l.length by omega);rw[getD_some hg] at h2;rw[hg,h2]
  ·rintro⟨l,h1,h2⟩;rw[h1];show some (l.getD c "")=some z;rw[getD_some h2]
 constructor
 ·rintro⟨i,j,h1,h2,h3,h4⟩;have h4:i % w=j % w:=h4;have hw:=w_pos o.jN h2;obtain⟨l,q1,q2⟩:=(cf hw o.jN).mp h2;obtain⟨l',q3,q4⟩:=(cf hw o.jN).mp h3;refine⟨i % w,acD _ hw,i / w,j / w,?_,(get (acD _ hw)).mpr ⟨l,q1,q2⟩,(get (acD _ hw)).mpr ⟨l',q3,by rw[h4];exact q4⟩⟩;have e1:=Xj i w;have e2:=Xj j w;rcases WS (i / w) (j / w) with h | h
  ·exact h
  ·have:=Zs w h;omega
 ·rintro⟨c,hc,r,s,h1,h2,h3⟩;have hp:0<w:=by omega
  obtain⟨l,q1,q2⟩:=(get hc).mp h2;obtain⟨l',q3,q4⟩:=(get hc).mp h3;have d:∀ r:Nat,(r*w+c) / w=r/\(r*w+c) % w=c:=fun r=>⟨by rw[aas,Zn hp,Yo hc,Y2],by rw[Za,Yp hc]⟩
  refine⟨r*w+c,s*w+c,?_,(cf hp o.jN).mpr ⟨l,by rw[(d r).1];exact q1,by rw[(d r).2];exact q2⟩,(cf hp o.jN).mpr ⟨l',by rw[(d s).1];exact q3,by rw[(d s).2];exact q4⟩,by show (r*w+c) % w=(s*w+c) % w;rw[(d r).2,(d s).2]⟩;have:=Nat.mul_lt_mul_of_pos_right h1 hp;omega
noncomputable def Jw (a b:Str) (d:Dt):Dt:=.bl (bP (∃ l:List Str,d=eB l/\∃ i:Nat,l[i]? = some a/\l[i+1]? = some b))
theorem str_inj:∀ {a b:List Str},a.map Dt.str=b.map Dt.str->a=b
 | [],[],_=>rfl
 | [],_::_,h=>by cases h
 | _::_,[],h=>by cases h
 | x::a,y::b,h=>by
  injection h with h1 h2
  injection h1 with h1
  rw[h1,str_inj h2]
theorem um {a b:List Str} (h:eB a=eB b):a=b:=by injection h with h;exact str_inj h
theorem ky (g:GB Γ) (Jn:bZ (Γ.fn 11)) {w:Nat}{ls:List (List Str)}{a b:Str} (o:aX w ls) (hR:∀ c:Bool,(c=true↔(Rw.table w ls).rel (Rw.table w ls).aE a b)->R (.bl c) M):Fn Γ cH [.sh (bD (.table w ls)),.sh (.str a),.sh (.str b)] M R:=by
 unfold cH;symm;refine nh g ?_;and_intros;refine⟨by rw[a_];exact sz (by have:=o.len;omega),comp_map (Jw a b) (fun x hx K hK=>?_) ?_⟩
 ·obtain⟨l,hl,rfl⟩:=z_.mp hx;have:=o.jN l hl;have:=o.BM;refine Jn _ l a b _ _ (.inr rfl) (by omega) fun c hc=>?_
  have e:Jw a b (eB l)=.bl c:=by
   unfold Jw;rw[←xj (c:=c) (hc.trans ⟨fun h=>⟨l,rfl,h⟩,fun⟨l',h1,h2⟩=>by rw[um h1];exact h2⟩)]
  rw[e] at hK;exact hK
 ·refine⟨ls.map fun l=>bP (∃ l':List Str,eB l=eB l'/\∃ i:Nat,l'[i]? = some a/\l'[i+1]? = some b),by rw[R_,R_];rfl,hR _ ?_⟩;rw[Ba o,Y0,Xr];constructor
  ·rintro⟨l,hl,h⟩;obtain⟨l',h1,h2⟩:=ox.mp h;rw[←um h1] at h2;exact⟨l,hl,h2⟩
  ·rintro⟨l,hl,h⟩;exact⟨l,hl,ox.mpr ⟨l,rfl,h⟩⟩
noncomputable def NL (c:Nat):Dt->Dt
 | .tup ds=>ds.getD c .aK
 | _=>.aK
theorem lD (g:GB Γ) (ND:eA (Γ.fn 10)) {w:Nat}{ls:List (List Str)}{a b:Str} (o:aX w ls) (hR:∀ c:Bool,(c=true↔(Rw.table w ls).rel (Rw.table w ls).under a b)->R (.bl c) M):Fn Γ db [.sh (bD (.table w ls)),.sh (.str a),.sh (.str b),.no] M R:=by
 unfold db;have o1:=o.len;have o2:=o.BM;symm;refine Jv g ?_;and_intros;refine⟨⟨by omega,by omega⟩,?_⟩;refine cu (T:=R (.bl true) M) (fun ρ=>∃ o3,ρ=[.sh (bD (.table w ls)),.sh (.str a),.sh (.str b),o3]) (fun x=>∃ c:Nat,x=.int c/\∃ r s:Nat,r<s/\(ls.map fun l=>l.getD c "")[r]? = some a/\(ls.map fun l=>l.getD c "")[s]? = some b) ⟨_,rfl⟩ ?_ ?_ ?_
 ·rintro x hx ρ N' ⟨o3,rfl⟩ hy hn;obtain⟨c,hc⟩:=V8.mp hx;obtain⟨hc,rfl⟩:=aD hc;rw[l_] at hc;rw[Wd] at hy hn ⊢;and_intros;right;refine nh g ?_;and_intros;refine⟨by rw[a_];exact sz (by omega),comp_map (NL c) (fun x hx K hK=>?_) ?_⟩
  ·obtain⟨l,hl,rfl⟩:=z_.mp hx;have hw:=o.jN l hl;refine⟨_,?_,hK⟩;refine bg ?_;show (l.map Dt.str)[c]? = some ((l.map Dt.str).getD c .aK);have hg:=c_ (show c<(l.map Dt.str).length by rw[a_];omega);rw[getD_some hg];exact hg
  ·have e:(ls.map eB).map (NL c)=(ls.map fun l=>l.getD c "").map .str:=by
    rw[R_,R_];refine WF fun l hl=>?_
    have hw:=o.jN l hl;have hg:=c_ (show c<l.length by omega);show (l.map Dt.str).getD c .aK=.str (l.getD c "");rw[getD_some hg,getD_some (by rw[g_,hg];rfl)]
   rw[e];refine ND _ _ _ _ _ _ (.inr rfl) fun q hq=>?_
   show if q=true then _ else _
   cases q with
   | true =>
    refine bM rfl ?_;refine sqo fun N3 cT=>?_
    exact hy ⟨c,rfl,hq.mp rfl⟩
   | false =>
    refine bG (by decide) ?_;subst hN2;refine hn ?_ _ ⟨_,rfl⟩;rintro⟨c',e',h⟩;have:c=c':=by injection e' with e';omega
    subst this;exact nomatch (hq.mpr h)
 ·rintro⟨x,hx,c,rfl,h⟩;obtain⟨k,hk⟩:=V8.mp hx;obtain⟨hk,e⟩:=aD hk;have:c=k:=by injection e with e;omega
  subst this;rw[l_] at hk;exact hR true ⟨fun _=>(xk o).mpr ⟨c,hk,h⟩,fun _=>rfl⟩
 ·rintro gU ρ ⟨o3,rfl⟩;left;refine hR false ⟨fun z=>(nomatch z),fun h=>?_⟩;obtain⟨c,hc,h⟩:=(xk o).mp h;refine absurd ⟨.int c,?_,c,rfl,h⟩ gU;rw[l_];unfold bJ;exact z_.mpr ⟨c,Wv.mpr hc,by rw[Wd]⟩
end
inductive Flt where
 | has (m:Str) | many (n:Int) (m:Str) | before (a b:Str) | under (a b:Str) | aE (a b:Str)
 | not (f:Flt) | all (fs:List Flt) | any (fs:List Flt)
mutual
def Flt.holds:Flt->Rw->Prop
 | .has m,r=>0<r.names.count m
 | .many n m,r=>n<=(r.names.count m:Int)
 | .before a b,r=>r.rel (fun _ _=>True) a b
 | .under a b,r=>r.rel r.under a b
 | .aE a b,r=>r.rel r.aE a b
 | .not f,r=>¬ f.holds r
 | .all fs,r=>oy fs r
 | .any fs,r=>oz fs r
def oy:List Flt->Rw->Prop
 | [],_=>True
 | f::fs,r=>f.holds r/\oy fs r
def oz:List Flt->Rw->Prop
 | [],_=>False
 | f::fs,r=>f.holds r∨oz fs r
end
mutual
noncomputable def Flt.grows:Flt->Bool
 | .aE _ _=>false
 | .not _=>false
 | .all fs=>iI fs
 | .any fs=>iI fs
 | _=>true
noncomputable def iI:List Flt->Bool
 | []=>true
 | f::fs=>f.grows&&iI fs
end
mutual
def Flt.Ok:Flt->Prop
 | .has m=>az m=true
 | .many _ m=>az m=true
 | .before a b=>az a=true/\az b=true
 | .under a b=>az a=true/\az b=true
 | .aE a b=>az a=true/\az b=true
 | .not f=>f.Ok
 | .all fs=>fs.length<=100/\BO fs
 | .any fs=>fs.length<=100/\BO fs
def BO:List Flt->Prop
 | []=>True
 | f::fs=>f.Ok/\BO fs
end
mutual
noncomputable def Flt.dep:Flt->Nat
 | .not f=>f.dep+1
 | .all fs=>oA fs+1
 | .any fs=>oA fs+1
 | _=>1
noncomputable def oA:List Flt->Nat
 | []=>0
 | f::fs=>max f.dep (oA fs)
end
mutual
noncomputable def ai:Flt->Dt
 | .has m=>.tup [.str "has",.str m]
 | .many n m=>.tup [.str "many",.int n,.str m]
 | .before a b=>.tup [.str "before",.str a,.str b]
 | .under a b=>.tup [.str "under",.str a,.str b]
 | .aE a b=>.tup [.str "beside",.str a,.str b]
 | .not f=>.tup [.str "not",ai f]
 | .all fs=>.tup [.str "all",.lst (uo fs)]
 | .any fs=>.tup [.str "any",.lst (uo fs)]
noncomputable def uo:List Flt->List Dt
 | []=>[]
 | f::fs=>ai f::uo fs
end
mutual
noncomputable def bp:Flt->Dt
 | .has m=>.obj 6 ["mark"] [.str m]
 | .many n m=>.obj 7 ["number","mark"] [.int n,.str m]
 | .before a b=>.obj 9 ["one","other"] [.str a,.str b]
 | .under a b=>.obj 10 ["one","other"] [.str a,.str b]
 | .aE a b=>.obj 11 ["one","other"] [.str a,.str b]
 | .not f=>.obj 15 ["part"] [bp f]
 | .all fs=>.obj 13 ["parts"] [.tup (qP fs)]
 | .any fs=>.obj 14 ["parts"] [.tup (qP fs)]
noncomputable def qP:List Flt->List Dt
 | []=>[]
 | f::fs=>bp f::qP fs
end
theorem b0:∀ fs:List Flt,uo fs=fs.map ai
 | []=>rfl
 | f::fs=>by unfold uo;rw[b0 fs,p_]
theorem dS:∀ fs:List Flt,qP fs=fs.map bp
 | []=>rfl
 | f::fs=>by unfold qP;rw[dS fs,p_]
theorem gL {r:Rw}:∀ {fs:List Flt},oy fs r↔∀ f∈fs,f.holds r
 | []=>by simp [oy]
 | f::fs=>by unfold oy;rw[gL (fs:=fs)];simp
theorem gM {r:Rw}:∀ {fs:List Flt},oz fs r↔∃ f∈fs,f.holds r
 | []=>by simp [oz]
 | f::fs=>by unfold oz;rw[gM (fs:=fs)];simp
theorem jG:∀ {fs:List Flt},iI fs=fs.all Flt.grows
 | []=>by simp [iI]
 | f::fs=>by unfold iI;rw[jG (fs:=fs)];simp
theorem cO:∀ {fs:List Flt},BO fs↔∀ f∈fs,f.Ok
 | []=>by simp [BO]
 | f::fs=>by unfold BO;rw[cO (fs:=fs)];simp
theorem dO:∀ {fs:List Flt},∀ f∈fs,f.dep<=oA fs
 | [],f,h=>nomatch h
 | g::fs,f,h=>by
  unfold oA;rcases u_.mp h with rfl | h
  ·omega
  ·have:=dO f h;omega
noncomputable def Jx:Flt->Nat
 | .has _=>6 | .many _ _=>7 | .before _ _=>9 | .under _ _=>10 | .aE _ _=>11 | .not _=>15 | .all _=>13 | .any _=>14
noncomputable def Jy:Flt->List Str
 | .has _=>["mark"] | .many _ _=>["number","mark"] | .before _ _=>["one","other"] | .under _ _=>["one","other"] | .aE _ _=>["one","other"] | .not _=>["part"] | .all _=>["parts"] | .any _=>["parts"]
section
variable {Γ:Gm}{M:Mem}{R:Dt->Mem->Prop}
theorem iZ {f:Flt}{k:Nat->List Str->Prop}:eL M (bp f) k=k (Jx f) (Jy f):=by cases f<;>(unfold bp;rfl)
noncomputable def SS:Rw->Nat | .row _=>17 | .af _=>18 | .table _ _=>19
noncomputable def SU:Rw->List Str | .row _=>["spot_marks"] | .af _=>["spot_marks","nodes"] | .table _ _=>["spot_marks","lines","columns"]
theorem cP {r:Rw}{k:Nat->List Str->Prop}:eL M (bD r) k=k (SS r) (SU r):=by cases r<;>rfl
noncomputable abbrev uq:=Pr.hm
theorem eT (h:Γ.hm=uq) {m:Nat} (hm:6<=m/\m<16) (r:Rw):Γ.hm m (SS r) (SU r)=true:=by
 rw[h];have e:m=6∨m=7∨m=8∨m=9∨m=10∨m=11∨m=12∨m=13∨m=14∨m=15:=by omega
 rcases e with rfl | rfl | rfl | rfl | rfl | rfl | rfl | rfl | rfl | rfl<;>cases r<;>kernel_rfl
theorem DC (h:Γ.hm=uq) (f:Flt):Γ.hm 5 (Jx f) (Jy f)=true:=by rw[h];cases f<;>kernel_rfl
theorem NM (h:Γ.hm=uq) (f:Flt):Γ.hm 4 (Jx f) (Jy f)=true:=by rw[h];cases f<;>kernel_rfl
theorem g1 {c:Nat}{f:Str}{d:Dt}{k:Dt->Prop} (ha:Γ.at_ c f=true) (h:k d):eK Γ f (.obj c [f] [d]) k:=⟨ha,d,xi,h⟩
theorem ON {c:Nat}{f f':Str}{d e:Dt}{k:Dt->Prop} (ha:Γ.at_ c f=true) (h:k d):eK Γ f (.obj c [f,f'] [d,e]) k:=⟨ha,d,xi,h⟩
theorem OO {c:Nat}{f f':Str}{d e:Dt}{k:Dt->Prop} (ha:Γ.at_ c f'=true) (hn:(f'==f)=false) (h:k e):eK Γ f' (.obj c [f,f'] [d,e]) k:=⟨ha,e,(v4 hn).trans xi,h⟩
def kA (n:Nat) (p:cA):Prop:=∀ (f:Flt) (r:Rw) M R,f.Ok->r.Ok->f.dep<=n->(∀ c:Bool,(c=true↔f.holds r)->R (.bl c) M)->p [bp f,bD r] M R
theorem ur (g:GB Γ) (h:Γ.hm=uq) (p7:ly (Γ.me 7)) {m:Str}{r:Rw} (hR:∀ c:Bool,(c=true↔(Flt.has m).holds r)->R (.bl c) M):Fn Γ iq [.sh (bp (.has m)),.sh (bD r)] M R:=by
 unfold iq bp;symm;rw[cP];refine⟨eT h (by omega) _,g1 (by rw[g.at_];decide +kernel) (p7 r m _ _ ?_)⟩;exact hR _ (by rw[V4];unfold Flt.holds;omega)
theorem sv (g:GB Γ) (h:Γ.hm=uq) (p7:ly (Γ.me 7)) {n:Int}{m:Str}{r:Rw} (hR:∀ c:Bool,(c=true↔(Flt.many n m).holds r)->R (.bl c) M):Fn Γ gd [.sh (bp (.many n m)),.sh (bD r)] M R:=by
 unfold gd bp;symm;rw[cP];refine⟨eT h (by omega) _,OO (by rw[g.at_];decide +kernel) (by decide +kernel) (p7 r m _ _ (ON (by rw[g.at_];decide +kernel) ?_))⟩;exact hR _ (by rw[V4];unfold Flt.holds;exact acp)
theorem oB (g:GB Γ) (h:Γ.hm=uq) (p8:lZ (Γ.me 8)) {a b:Str}{r:Rw} (hR:∀ c:Bool,(c=true↔(Flt.before a b).holds r)->R (.bl c) M):Fn Γ d7 [.sh (bp (.before a b)),.sh (bD r)] M R:=by
 unfold d7 bp;symm;rw[cP];refine⟨eT h (by omega) _,ON (by rw[g.at_];decide +kernel) (OO (by rw[g.at_];decide +kernel) (by decide +kernel) (p8 r a b _ _ fun c hc=>hR c (hc.trans ?_)))⟩;unfold Flt.holds Rw.rel;simp
theorem pW (g:GB Γ) (h:Γ.hm=uq) (Rq:oh (Γ.me 13)) {a b:Str}{r:Rw} (o:r.Ok) (hR:∀ c:Bool,(c=true↔(Flt.under a b).holds r)->R (.bl c) M):Fn Γ fe [.sh (bp (.under a b)),.sh (bD r)] M R:=by
 unfold fe bp;symm;rw[cP];exact⟨eT h (by omega) _,ON (by rw[g.at_];decide +kernel) (OO (by rw[g.at_];decide +kernel) (by decide +kernel) (Rq r a b _ _ o fun c hc=>hR c (hc.trans (by unfold Flt.holds;exact acp))))⟩
theorem oE (g:GB Γ) (h:Γ.hm=uq) (Rr:l5 (Γ.me 14)) {a b:Str}{r:Rw} (o:r.Ok) (hb:az b=true) (hR:∀ c:Bool,(c=true↔(Flt.aE a b).holds r)->R (.bl c) M):Fn Γ d8 [.sh (bp (.aE a b)),.sh (bD r)] M R:=by
 unfold d8 bp;symm;rw[cP];exact⟨eT h (by omega) _,ON (by rw[g.at_];decide +kernel) (OO (by rw[g.at_];decide +kernel) (by decide +kernel) (Rr r a b _ _ o hb fun c hc=>hR c (hc.trans (by unfold Flt.holds;exact acp))))⟩
theorem ut (g:GB Γ) (h:Γ.hm=uq) {n:Nat} (p5:kA n (Γ.me 5)) {f:Flt}{r:Rw} (of:f.Ok) (o:r.Ok) (hd:f.dep<=n) (hR:∀ c:Bool,(c=true↔(Flt.not f).holds r)->R (.bl c) M):Fn Γ iA [.sh (bp (.not f)),.sh (bD r)] M R:=by
 unfold iA bp;symm;refine g1 (by rw[g.at_];decide +kernel) ?_;rw[iZ];refine⟨DC h _,p5 f r _ _ of o hd fun c hc=>hR (!c) ?_⟩;unfold Flt.holds;rw[←hc]
 cases c<;>simp
theorem eU {f:Dt->En->Mem->yu->Prop}{E:yu}{items:List Dt}{ρ:En}{T:Prop} (Iv:En->Prop) (P:Nat->Prop) (h0:Iv ρ)
  (hs:∀ i x,items[i]? = some x->∀ (ρ:En) (N:En->Mem->Prop),Iv ρ->(P i->T)->(¬ P i->∀ ρ',Iv ρ'->N ρ' M)->f x ρ M { E with nx:=N,ct:=N,bk:=E.nx })
  (ht:(∃ i,P i)->T) (hd:(¬ ∃ i,i<items.length/\P i)->∀ ρ,Iv ρ->E.nx ρ M):eS f E items ρ M:=by
 refine aC (fun i ρ M'=>M'=M/\Iv ρ/\¬ ∃ j,j<i/\P j) ⟨rfl,h0,by rintro⟨_,h,_⟩;omega⟩ ?_ ?_
 ·rintro i x ρ M' N hx ⟨rfl,iv,gU⟩ hN;refine hs i x hx ρ N iv (fun p=>ht ⟨i,p⟩) fun np ρ' Rp=>hN ρ' _ ⟨rfl,Rp,?_⟩
  rintro⟨j,hj,pj⟩;rcases WS j i with h | h
  ·exact gU ⟨j,h,pj⟩
  ·have:j=i:=by omega
   subst this;exact np pj
 ·rintro ρ M' ⟨rfl,iv,gU⟩;exact hd gU ρ iv
theorem uu (g:GB Γ) (h:Γ.hm=uq) {n:Nat} (p5:kA n (Γ.me 5)) {fs:List Flt}{r:Rw} (of:BO fs) (o:r.Ok) (hd:oA fs<=n) (hR:∀ c:Bool,(c=true↔(Flt.all fs).holds r)->R (.bl c) M):Fn Γ iy [.sh (bp (.all fs)),.sh (bD r),.no] M R:=by
 unfold iy bp;rw[dS];symm;refine g1 (by rw[g.at_];decide +kernel) ?_;and_intros;refine eU (T:=R (.bl false) M) (fun ρ=>∃ o3,ρ=[.sh (.obj 13 ["parts"] [.tup (fs.map bp)]),.sh (bD r),o3]) (fun i=>∃ f,fs[i]? = some f/\¬ f.holds r) ⟨_,rfl⟩ ?_ ?_ ?_
 ·rintro i x hx ρ N' ⟨o3,rfl⟩ hy hn;rw[g_] at hx;obtain⟨f,hf,rfl⟩:=m_.mp hx;have hm:=A_ hf;and_intros;right;rw[iZ];refine⟨DC h _,p5 f r _ _ (cO.mp of f hm) o (P_ (dO f hm) hd) fun c hc=>?_⟩
  cases c with
  | false =>
   and_intros;refine sqo fun N3 cT=>?_
   exact hy ⟨f,hf,fun z=>nomatch (hc.mpr z)⟩
  | true =>
   and_intros;subst hN2;refine hn ?_ _ ⟨_,rfl⟩;rintro⟨f',e,q⟩;rw[hf] at e
   cases e
   exact q (hc.mp rfl)
 ·rintro⟨i,f,hf,q⟩;refine hR false ?_;unfold Flt.holds;rw[gL];exact⟨fun z=>(nomatch z),fun z=>absurd (z f (A_ hf)) q⟩
 ·rintro gU ρ ⟨o3,rfl⟩;left;refine hR true ?_;unfold Flt.holds;rw[gL];exact⟨fun _ f hf=>ZN fun q=>gU (let ⟨i,hi⟩:=V8.mp hf;⟨i,by rw[a_];exact (j_.mp hi).1,f,hi,q⟩),fun _=>rfl⟩
theorem uv (g:GB Γ) (h:Γ.hm=uq) {n:Nat} (p5:kA n (Γ.me 5)) {fs:List Flt}{r:Rw} (of:BO fs) (o:r.Ok) (hd:oA fs<=n) (hR:∀ c:Bool,(c=true↔(Flt.any fs).holds r)->R (.bl c) M):Fn Γ iz [.sh (bp (.any fs)),.sh (bD r),.no] M R:=by
 unfold iz bp;rw[dS];symm;refine g1 (by rw[g.at_];decide +kernel) ?_;and_intros;refine eU (T:=R (.bl true) M) (fun ρ=>∃ o3,ρ=[.sh (.obj 14 ["parts"] [.tup (fs.map bp)]),.sh (bD r),o3]) (fun i=>∃ f,fs[i]? = some f /\  f.holds r) ⟨_,rfl⟩ ?_ ?_ ?_
 ·rintro i x hx ρ N' ⟨o3,rfl⟩ hy hn;rw[g_] at hx;obtain⟨f,hf,rfl⟩:=m_.mp hx;have hm:=A_ hf;and_intros;right;rw[iZ];refine⟨DC h _,p5 f r _ _ (cO.mp of f hm) o (P_ (dO f hm) hd) fun c hc=>?_⟩
  cases c with
  | true =>
   and_intros;refine sqo fun N3 cT=>?_
   exact hy ⟨f,hf,hc.mp rfl⟩
  | false =>
   and_intros;subst hN2;refine hn ?_ _ ⟨_,rfl⟩;rintro⟨f',e,q⟩;rw[hf] at e
   cases e
   exact nomatch (hc.mpr q)
 ·rintro⟨i,f,hf,q⟩;refine hR true ?_;unfold Flt.holds;rw[gM];exact⟨fun _=>⟨f,A_ hf,q⟩,fun _=>rfl⟩
 ·rintro gU ρ ⟨o3,rfl⟩;left;refine hR false ?_;unfold Flt.holds;rw[gM];exact⟨fun z=>(nomatch z),fun⟨f,hf,q⟩=>absurd (let ⟨i,hi⟩:=V8.mp hf;⟨i,by rw[a_];exact (j_.mp hi).1,f,hi,q⟩) gU⟩
def sy (n:Nat) (p:cA):Prop:=∀ (f:Flt) M R,f.Ok->f.dep<=n->R (.bl f.grows) M->p [bp f] M R
theorem xl {c:S}{d:Dt} (hc:c=.seq (.ret (.b true)) .skip) (hR:R (.bl true) M):Fn Γ c [.sh d] M R:=by subst hc;exact hR
theorem NN {c:S}{d:Dt} (hc:c=.seq (.ret (.b false)) .skip) (hR:R (.bl false) M):Fn Γ c [.sh d] M R:=by subst hc;exact hR
theorem jj (g:GB Γ) (h:Γ.hm=uq) {n:Nat} (p4:sy n (Γ.me 4)) {c:Nat}{fs:List Flt} (hc:c=13∨c=14) (of:BO fs) (hl:fs.length<=100) (hd:oA fs<=n) (hR:R (.bl (iI fs)) M):Fn Γ fg [.sh (.obj c ["parts"] [.tup (qP fs)])] M R:=by
 unfold fg;rw[dS];symm;refine g1 (by rw[g.at_];rcases hc with rfl | rfl<;>decide +kernel) ?_;and_intros;refine⟨by rw[a_];exact sz (by omega),?_⟩
 have go:∀ (gs:List Flt) (K:List Dt->Mem->Prop),(∀ f∈gs,f∈fs)->K (gs.map fun f=>.bl f.grows) M->dk (fun x M K=>eL M x fun c fs=>Γ.hm 4 c fs=true/\Γ.me 4 [x] M fun d M3=>K (some d) M3) (gs.map bp) M K:=fun gs=>by
  induction gs with
  | nil=>intro K _ hK;exact hK
  | cons f gs ih =>
   intro K hs hK;show eL M (bp f) _;rw[iZ];have hf:=hs f (by simp);exact⟨NM h _,p4 f _ _ (cO.mp of f hf) (P_ (dO f hf) hd) (ih _ (fun f' DD=>hs f' (by simp [DD])) hK)⟩
 refine go fs _ (fun _ h=>h) ⟨fs.map Flt.grows,by rw[R_];rfl,?_⟩;rw[XG];rw[jG] at hR;exact hR
end
section
variable {Γ:Gm}{M:Mem}{R:Dt->Mem->Prop}
theorem NO {f f':Str}{d e:Dt} (h:¬ f=f'):putD f' e [f] [d]=(([f,f']:List Str),[d,e]):=by unfold putD;rw[n_ h];rfl
theorem putN {f:Str}{d:Dt}:putD f d [] []=(([f]:List Str),[d]):=rfl
def EG (p:BN):Prop:=∀ (m:Str) M k,k (bp (.has m)) M->p (.obj 6 [] []) [.str m] M k
theorem wa (g:GB Γ) {m:Str}{k:Dt->Mem->Prop} (h:k (bp (.has m)) M):In Γ ju [.ow (.obj 6 [] []),.sh (.str m)] M 6 k:=by
 unfold ju;symm;refine⟨by rw[g.at_];decide +kernel,by simp,?_⟩;subst hN;unfold bp at h;exact⟨rfl,h⟩
def Bb (p:BN):Prop:=∀ (n:Int) (m:Str) M k,k (bp (.many n m)) M->p (.obj 7 [] []) [.int n,.str m] M k
theorem uw (g:GB Γ) {n:Int}{m:Str}{k:Dt->Mem->Prop} (h:k (bp (.many n m)) M):In Γ iu [.ow (.obj 7 [] []),.sh (.int n),.sh (.str m)] M 7 k:=by
 unfold iu;unfold bp at h;symm;refine⟨by rw[g.at_];decide +kernel,by simp,?_⟩;left;refine⟨by rw[g.at_];decide +kernel,by simp [putD],?_⟩;subst hN;rw[putN,NO (by decide +kernel)];exact⟨rfl,h⟩
def lE (c:Nat) (p:BN):Prop:=∀ (a b:Str) M k,k (.obj c ["one","other"] [.str a,.str b]) M->p (.obj c [] []) [.str a,.str b] M k
theorem iJ (g:GB Γ) {c:Nat} (hc:c=9∨c=10∨c=11) {a b:Str}{k:Dt->Mem->Prop} (h:k (.obj c ["one","other"] [.str a,.str b]) M):In Γ iw [.ow (.obj c [] []),.sh (.str a),.sh (.str b)] M c k:=by
 unfold iw;symm;refine⟨by rw[g.at_];rcases hc with rfl | rfl | rfl<;>decide +kernel,by simp,?_⟩;left;refine⟨by rw[g.at_];rcases hc with rfl | rfl | rfl<;>decide +kernel,by simp [putD],?_⟩;subst hN;rw[putN,NO (by decide +kernel)];exact⟨rfl,h⟩
def nj (c:Nat) (p:BN):Prop:=∀ (ds:List Dt) M k,k (.obj c ["parts"] [.tup ds]) M->p (.obj c [] []) [.lst ds] M k
theorem kC (g:GB Γ) {c:Nat} (hc:c=13∨c=14) {ds:List Dt}{k:Dt->Mem->Prop} (h:k (.obj c ["parts"] [.tup ds]) M):In Γ gi [.ow (.obj c [] []),.sh (.lst ds)] M c k:=by
 unfold gi;symm;refine⟨by rw[g.at_];rcases hc with rfl | rfl<;>decide +kernel,by simp,?_⟩;subst hN;exact⟨rfl,h⟩
def EH (p:BN):Prop:=∀ (d:Dt) M k,k (.obj 15 ["part"] [d]) M->p (.obj 15 [] []) [d] M k
theorem wb (g:GB Γ) {d:Dt}{k:Dt->Mem->Prop} (h:k (.obj 15 ["part"] [d]) M):In Γ jv [.ow (.obj 15 [] []),.sh d] M 15 k:=by
 unfold jv;symm;refine⟨by rw[g.at_];decide +kernel,by simp,?_⟩;subst hN;exact⟨rfl,h⟩
def gN (n:Nat) (p:cA):Prop:=∀ (f:Flt) M R,f.Ok->f.dep<=n->R (bp f) M->p [ai f] M R
noncomputable def tag:Flt->Nat
 | .has _=>0 | .many _ _=>1 | .before _ _=>2 | .under _ _=>3 | .aE _ _=>4 | .not _=>5 | .all _=>6 | .any _=>7
noncomputable def NP (t:Nat):Str:=match t with | 0 => "has" | 1 => "many" | 2 => "before" | 3 => "under" | 4 => "beside" | 5 => "not" | 6 => "all" | _ => "any"
noncomputable def yF (f:Flt):Str:=NP (tag f)
theorem qQ {f:Flt}{k:Dt->Prop} (h:k (.str (yF f))):iW (ai f) 0 k:=by
 cases f<;>(unfold ai;exact⟨_,rfl,h⟩)
theorem zu {ds:List Dt}{i:Nat}{d:Dt}{k:Dt->Prop} (e:ds[i]? = some d) (h:k d):iW (.tup ds) i k:=⟨d,bg e,h⟩
theorem b7 {f:Flt}{w:Str}{a b:Prop} (e:yF f=w) (y:a):iW (ai f) 0 fun x=>lX x (.str w) fun c=>if c=true then a else b:=qQ (bM (d_ e) y)
theorem ay (t:Nat) {f:Flt}{w:Str}{a b:Prop} (e:¬ NP t=w) (h:tag f=t) (n:b):iW (ai f) 0 fun x=>lX x (.str w) fun c=>if c=true then a else b:=qQ (by
 have e:¬ yF f=w:=by unfold yF;rw[h];exact e
 exact bG (by rw[f_ e];decide) n)
theorem kD {n:Nat} (NQ:gN n (Γ.fn 28)) (q6:EG (Γ.bA 6)) (q7:Bb (Γ.bA 7)) (q9:lE 9 (Γ.bA 9)) (U5:lE 10 (Γ.bA 10)) (U6:lE 11 (Γ.bA 11)) (U7:nj 13 (Γ.bA 13)) (U8:nj 14 (Γ.bA 14)) (U9:EH (Γ.bA 15)) {f:Flt} (o:f.Ok) (hd:f.dep<=n+1) (hR:R (bp f) M):Fn Γ cL [.sh (ai f),.no] M R:=by
 unfold cL
 have go:∀ (fs:List Flt) (K:List Dt->Mem->Prop),(∀ f∈fs,f.Ok)->(∀ f∈fs,f.dep<=n)->K (fs.map bp) M->dk (fun x M K=>Γ.fn 28 [x] M fun d M2=>K (some d) M2) (fs.map ai) M K:=fun fs=>by
  induction fs with
  | nil=>intro K _ _ hK;exact hK
  | cons f fs ih =>
   intro K h1 h2 hK;exact NQ f _ _ (h1 f (by simp)) (h2 f (by simp)) (ih _ (fun f' DD=>h1 f' (by simp [DD])) (fun f' DD=>h2 f' (by simp [DD])) hK)
 cases f with
 | has m =>
  symm;refine b7 rfl ?_;refine sqo fun N2 hN2=>?_
  unfold ai;and_intros;exact⟨_,rfl,q6 m _ _ hR⟩
 | many k m =>
  symm;refine ay 1 (by decide +kernel) rfl ?_;left;refine b7 rfl ?_;refine sqo fun N2 hN2=>?_
  unfold ai;and_intros;exact⟨_,rfl,_,rfl,q7 k m _ _ hR⟩
 | before a b =>
  symm;refine ay 2 (by decide +kernel) rfl ?_;left;refine ay 2 (by decide +kernel) rfl ?_;left;refine b7 rfl ?_;refine sqo fun N2 hN2=>?_
  unfold ai;unfold bp at hR;and_intros;exact⟨_,rfl,_,rfl,q9 a b _ _ hR⟩
 | under a b =>
  symm;refine ay 3 (by decide +kernel) rfl ?_;left;refine ay 3 (by decide +kernel) rfl ?_;left;refine ay 3 (by decide +kernel) rfl ?_;left;refine b7 rfl ?_;refine sqo fun N2 hN2=>?_
  unfold ai;unfold bp at hR;and_intros;exact⟨_,rfl,_,rfl,U5 a b _ _ hR⟩
 | aE a b =>
  symm;refine ay 4 (by decide +kernel) rfl ?_;left;refine ay 4 (by decide +kernel) rfl ?_;left;refine ay 4 (by decide +kernel) rfl ?_;left;refine ay 4 (by decide +kernel) rfl ?_;left;refine b7 rfl ?_;refine sqo fun N2 hN2=>?_
  unfold ai;unfold bp at hR;and_intros;exact⟨_,rfl,_,rfl,U6 a b _ _ hR⟩
 | not g =>
  symm;refine ay 5 (by decide +kernel) rfl ?_;left;refine ay 5 (by decide +kernel) rfl ?_;left;refine ay 5 (by decide +kernel) rfl ?_;left;refine ay 5 (by decide +kernel) rfl ?_;left;refine ay 5 (by decide +kernel) rfl ?_;left;refine b7 rfl ?_;refine sqo fun N2 hN2=>?_
  unfold ai;and_intros;refine⟨_,rfl,NQ g _ _ o (by unfold Flt.dep at hd;omega) (U9 _ _ _ ?_)⟩;unfold bp at hR;exact hR
 | all fs =>
  symm;refine ay 6 (by decide +kernel) rfl ?_;left;refine ay 6 (by decide +kernel) rfl ?_;left;refine ay 6 (by decide +kernel) rfl ?_;left;refine ay 6 (by decide +kernel) rfl ?_;left;refine ay 6 (by decide +kernel) rfl ?_;left;refine ay 6 (by decide +kernel) rfl ?_;left;unfold ai;rw[b0];and_intros;refine⟨_,rfl,?_⟩;and_intros;refine⟨by rw[a_];exact sz (by have:=o.1;omega),go fs _ (cO.mp o.2) (fun f hf=>by have:=dO f hf;unfold Flt.dep at hd;omega) ?_⟩;unfold bp at hR;rw[dS] at hR;left;refine⟨_,rfl,?_⟩;and_intros;refine bM (by decide +kernel) ?_;refine sqo fun N2 hN2=>?_
  exact U7 _ _ _ hR
 | any fs =>
  symm;refine ay 7 (by decide +kernel) rfl ?_;left;refine ay 7 (by decide +kernel) rfl ?_;left;refine ay 7 (by decide +kernel) rfl ?_;left;refine ay 7 (by decide +kernel) rfl ?_;left;refine ay 7 (by decide +kernel) rfl ?_;left;refine ay 7 (by decide +kernel) rfl ?_;left;unfold ai;rw[b0];and_intros;refine⟨_,rfl,?_⟩;and_intros;refine⟨by rw[a_];exact sz (by have:=o.1;omega),go fs _ (cO.mp o.2) (fun f hf=>by have:=dO f hf;unfold Flt.dep at hd;omega) ?_⟩;unfold bp at hR;rw[dS] at hR;left;refine⟨_,rfl,?_⟩;and_intros;refine bG (by decide +kernel) ?_;subst hN;refine sqo fun N2 hN2=>?_
  exact U8 _ _ _ hR
end
theorem ux {w:Str}{a:Nat} (h:a<=w.length):(Xs w none (some (a:Int))).cps.toList=w.cps.toList.take a:=by
 have e:=eq_of_beq (PyProof.Rows.slice_closes_toL (x:=w) (j:=(a:Int)) (by omega) (by omega));rw[e];simp
theorem oF {w:Str}{a:Nat} (h:a<=w.length):(Xs w (some (a:Int)) none).cps.toList=w.cps.toList.drop a:=by
 have e:=eq_of_beq (PyProof.Rows.slice_closes_fromL (x:=w) (i:=(a:Int)) (b:=(w.length:Int)) (by omega) (by omega) rfl);rw[e];have hl:w.cps.toList.length=w.length:=by simp [abj]
 rw[show ((w.length:Int)-(a:Int)).toNat=w.length-a by omega];simp only[l_];rw[WM (by rw[Xq];omega)]
theorem len_list (w:Str):w.cps.toList.length=w.length:=by simp [abj]
theorem Bc {w:Str}{a x:Nat} (h:a<=w.length) (hw:w.length<=7) (hl:∀ y∈w.cps.toList,y∈zK.cps.toList) (hx:x∈zK.cps.toList) :
  az (Xs w none (some (a:Int))++⟨#[x]⟩++Xs w (some (a:Int)) none)=true:=by
 have h1:=ux h;have h2:=oF h;have l1:(Xs w none (some (a:Int))).length=a:=by rw[←len_list,h1,V6,len_list];omega
 have l2:(Xs w (some (a:Int)) none).length=w.length-a:=by rw[←len_list,h2,Xq,len_list]
 refine Cz ?_ ?_ fun y hy=>tG.mpr ?_
 ·rw[XH,XH,iV];omega
 ·rw[XH,XH,iV];omega
 ·rw[app_list,app_list,U_,U_,h1,h2] at hy;rcases hy with (h | h) | h
  ·exact hl y (Wz h)
  ·rw[show y=x by simpa using h];exact hx
  ·exact hl y (aaX h)
theorem uy {w:Str}{a:Nat} (h:a<=w.length) (hw:w.length<=7):(Xs w none (some (a:Int))).length<=7/\(Xs w (some (a:Int)) none).length<=7:=by
 have h1:=ux h;have h2:=oF h;rw[←len_list,←len_list,h1,h2,V6,Xq,len_list];omega
section
variable {Γ:Gm}{M:Mem}{R:Dt->Mem->Prop}
theorem yG {n:Nat} (h:n<=1000):n<sizeLine:=YF h (by decide)
noncomputable def lF (ns:List Int):Dt:=.nL (ns.map .int)
def dh (p:cA):Prop:=∀ (ns:List Int) (k:Int) M R,0<=k->(∀ n:Int,R (.int n) M)->p [lF ns,.int k] M R
theorem oG {ns:List Int}{k:Int} (h:0<=k) (hR:∀ n:Int,R (.int n) M):Fn Γ em [.sh (lF ns),.sh (.int k)] M R:=by
 unfold em lF;symm;rw[a_];by_cases e:k<(ns.length:Int)
 ·refine bM (d_ e) ?_;right;obtain⟨n,rfl⟩:=Ww h;exact⟨.int (ns[n]'(by omega)),bg (by rw[g_,c_ (by omega)];rfl),hR _⟩
 ·refine bG (by rw[f_ e];decide) ?_;left;exact⟨.inl ⟨by decide,by decide⟩,hR _⟩
theorem iK {f:Dt->Mem->(k_ Dt->Mem->Prop)->Prop}{R:Rt}{P:Dt->Prop}:∀ {items:List Dt},(∀ x∈items,∀ K:k_ Dt->Mem->Prop,(∀ d,P d->K (some d) M)->f x M K)->(∀ ds,ds.length=items.length->(∀ d∈ds,P d)->R ds M)->dk f items M R
 | [],_,h=>h [] rfl (fun _ z=>nomatch z)
 | x::xs,hf,h=>hf x V_ _ fun d hd=>iK (fun y hy=>hf y (I_ _ hy)) fun ds hl hP=>h (d::ds) (by simp [hl]) fun e he=>by
  rcases u_.mp he with rfl | he
  ·exact hd
  ·exact hP e he
theorem xm {T:Str->Prop}:∀ {ds:List Dt},(∀ d∈ds,∃ z,d=.str z/\T z)->∃ zs:List Str,ds=zs.map .str/\∀ z∈zs,T z
 | [],_=>⟨[],rfl,fun _ z=>nomatch z⟩
 | d::ds,h=>by
  obtain⟨z,rfl,hz⟩:=h d (by simp);obtain⟨zs,rfl,hs⟩:=xm (ds:=ds) fun e he=>h e (by simp [he])
  exact⟨z::zs,rfl,fun y hy=>by rcases u_.mp hy with rfl | hy;exact hz;exact hs y hy⟩
def oH (p:cA):Prop:=∀ (c:Int) M R,(∀ zs:List Str,4<=zs.length->zs.length<=10->(∀ z∈zs,az z=true)->R (.lst (zs.map .str)) M)->p [.int c] M R
theorem mL {c:Int} (hR:∀ zs:List Str,4<=zs.length->zs.length<=10->(∀ z∈zs,az z=true)->R (.lst (zs.map .str)) M):Fn Γ dA [.sh (.int c),.no,.no,.no,.no,.no,.no,.no] M R:=by
 unfold dA;have go:=fun j:Int=>SH.dw (z:=zK) (i:=j) (m:=26) (by decide) (by decide +kernel)
 symm;left;left;refine⟨⟨by decide,by decide,by decide⟩,by decide,?_⟩;generalize c % 10 ^ ZA 12=rr;left;have r0:=W5 rr (show (8:Int)≠0 by decide);have r8:=X2 rr (show (0:Int)<8 by decide);refine⟨by decide,⟨by omega,by omega⟩,?_⟩;refine aC (fun i ρ M'=>M'=M/\∃ w:Str,w.length=i/\(∀ y∈w.cps.toList,y∈zK.cps.toList)/\∃ (rest:Int) (o:Sl),ρ=[.sh (.int c),.sh (.str zK),.sh (.str w),.sh (.int rest),o,.no,.no,.no]) ⟨rfl,WR "",rfl,fun y hy=>(nomatch hy),_,_,rfl⟩ ?_ ?_
 ·rintro i x ρ M' N' hx ⟨rfl,w,hw,hl,rest,o,rfl⟩ fF;obtain⟨hi,rfl⟩:=aD hx;and_intros;right;refine⟨⟨by decide,by decide⟩,?_⟩;subst hN2;right;obtain⟨x,hx,ex⟩:=go (rest / 8);refine⟨by decide,sz (by decide +kernel),x,ex,by rw[iV];exact sz (by omega),?_⟩;subst hN2;refine fF _ _ ⟨rfl,w++⟨#[x]⟩,by rw[XH,iV,hw],fun y hy=>?_,_,_,rfl⟩;rw[app_list,U_] at hy;rcases hy with h | h
  ·exact hl y h
  ·rw[show y=x by simpa using h];exact hx
 ·rintro ρ M' ⟨rfl,w,hw,hl,rest,o,rfl⟩;rw[aj] at hw;have w7:w.length<=7:=by omega
  left;refine⟨⟨by decide,by decide⟩,sz (by omega),by omega,?_⟩;obtain⟨a,ha⟩:=Ww (W5 (c / 8) (show (w.length:Int)+1≠0 by omega));have SV:a<=w.length:=by have:=X2 (c / 8) (show (0:Int)<(w.length:Int)+1 by omega);omega
  rw[ha];left;refine⟨⟨by decide,by decide⟩,by decide,?_⟩;left;refine⟨sz (by simp),⟨by decide,by decide⟩,by decide,?_⟩;obtain⟨v,hv,_,e⟩:=mV (xs:=([.int 4,.int 4,.int 4,.int 10]:List Dt)) (i:=c / 1664) (m:=4) (by decide) (by decide);refine⟨v,e,?_⟩
  have zk:∃ n:Nat,v=.int n/\4<=n/\n<=10:=by
   simp only[u_,Wp,X9] at hv;rcases hv with rfl | rfl | rfl | rfl
   ·exact⟨4,rfl,by decide,by decide⟩
   ·exact⟨4,rfl,by decide,by decide⟩
   ·exact⟨4,rfl,by decide,by decide⟩
   ·exact⟨10,rfl,by decide,by decide⟩
  obtain⟨n,rfl,n4,VV⟩:=zk;obtain⟨q1,q2⟩:=uy SV w7;left;refine⟨⟨by omega,by omega⟩,by rw[aj];exact sz (by omega),?_⟩;refine iK (P:=fun d=>∃ z,d=.str z/\az z=true) (fun x hx K hK=>?_) fun ds yH hP=>?_
  ·obtain⟨i,hi⟩:=V8.mp hx;obtain⟨_,rfl⟩:=aD hi;obtain⟨y,hy,ey⟩:=go (c / 64 % 26+3*(0+(i:Int)));and_intros;exact⟨sz (by omega),.inl ⟨by decide,by decide⟩,by decide,sz (by decide +kernel),y,ey,by rw[iV];exact sz (by omega),sz (by omega),by rw[XH,iV];exact sz (by omega),hK _ ⟨_,rfl,Bc SV w7 hl hy⟩⟩
  ·obtain⟨zs,rfl,hz⟩:=xm hP;rw[a_,aj,l_] at yH;exact hR zs (by omega) (by omega) hz
def qR (p:cA):Prop:=∀ (c:Int) M R,(∀ m:Nat,m<=40->R (.int m) M)->p [.int c] M R
theorem bc (c:Int) {m:Int} (h:0<m):∃ n:Nat,c % m=(n:Int)/\(n:Int)<m:=by
 obtain⟨n,hn⟩:=Ww (W5 c (show m≠0 by omega));exact⟨n,hn,by have:=X2 c h;omega⟩
theorem oI {c:Int} (hR:∀ m:Nat,m<=40->R (.int m) M):Fn Γ eo [.sh (.int c)] M R:=by
 unfold eo;symm;refine⟨by decide,?_⟩
 have two:∀ m:Int,0<m->m<=41->R (.int (c / 16 % m)) M:=fun m h1 h2=>by
  obtain⟨n,e,hn⟩:=bc (c / 16) h1;rw[e];exact hR n (by omega)
 by_cases e:c % 16=5
 ·refine bM (d_ e) ?_;right;exact⟨⟨by decide,by decide⟩,by decide,two 41 (by decide) (by decide)⟩
 ·refine bG (by rw[f_ e];decide) ?_;left;exact⟨⟨by decide,by decide⟩,by decide,two 9 (by decide) (by decide)⟩
def fP (zs:List Str):Prop:=4<=zs.length/\zs.length<=10/\∀ z∈zs,az z=true
def uz (p:cA):Prop:=∀ (ns:List Int) (f m:Nat) (zs:List Str) M R,m<=900->fP zs->(∀ ws:List Str,ws.length=m->(∀ z∈ws,az z=true)->R (.lst (ws.map .str)) M)->p [lF ns,.int f,.int m,.lst (zs.map .str)] M R
theorem pX (m7:dh (Γ.fn 12)) {ns:List Int}{f m:Nat}{zs:List Str} (hm:m<=900) (hz:fP zs) (hR:∀ ws:List Str,ws.length=m->(∀ z∈ws,az z=true)->R (.lst (ws.map .str)) M):Fn Γ fv [.sh (lF ns),.sh (.int f),.sh (.int m),.sh (.lst (zs.map .str)),.no,.no,.no] M R:=by
 unfold fv;obtain⟨z4,OP,hz⟩:=hz;symm;refine⟨sz (by simp),?_⟩;left;refine⟨⟨by omega,by omega⟩,?_⟩;refine aC (fun i ρ M'=>M'=M/\∃ ws:List Str,ws.length=i/\(∀ z∈ws,az z=true)/\∃ o5 o6,ρ=[.sh (lF ns),.sh (.int f),.sh (.int m),.sh (.lst (zs.map .str)),.ow (.lst (ws.map .str)),o5,o6]) ⟨rfl,[],rfl,fun _ z=>(nomatch z),_,_,rfl⟩ ?_ ?_
 ·rintro i x ρ M' N' hx ⟨rfl,ws,hw,wc,o5,o6,rfl⟩ fF;obtain⟨hi,rfl⟩:=aD hx;rw[l_] at hi;rw[Wd];and_intros;right;refine⟨by decide,m7 _ _ _ _ (by have:=W5 (i:Int) (show (12:Int)≠0 by decide);omega) fun c=>?_⟩;and_intros;refine⟨⟨by decide,by decide⟩,.inl ⟨by decide,by decide⟩,?_⟩;generalize c+11*((i:Int) / 12)=cc;subst hN2;right;obtain⟨v,hv,_,e⟩:=mV (xs:=([.int 0,.int 0,.int 1,.int 1,.int 2,.int 2,.int 3]:List Dt)) (i:=cc) (m:=7) (by decide) (by decide)
  have zk:∃ n:Nat,v=.int n/\n<=3:=by
   simp only[u_,Wp,X9] at hv;rcases hv with rfl | rfl | rfl | rfl | rfl | rfl | rfl
   ·exact⟨0,rfl,by decide⟩
   ·exact⟨0,rfl,by decide⟩
   ·exact⟨1,rfl,by decide⟩
   ·exact⟨1,rfl,by decide⟩
   ·exact⟨2,rfl,by decide⟩
   ·exact⟨2,rfl,by decide⟩
   ·exact⟨3,rfl,by decide⟩
  obtain⟨n,rfl,n3⟩:=zk
  have fin:∀ q:Int,0<=q->q<zs.length->atK (zs.map Dt.str) q fun d=>(ws.map Dt.str).length<sizeLine/\N2 [Sl.sh (lF ns),Sl.sh (Dt.int f),Sl.sh (Dt.int m),Sl.sh (.lst (zs.map .str)),Sl.ow (.lst (ws.map .str++[d])),Sl.sh (.int i),Sl.sh (.int cc)] M':=fun q h0 h1=>by
   refine⟨_,K18.dw h0 h1,by rw[a_];exact yG (by omega),?_⟩;subst hN2;have:=fF [Sl.sh (lF ns),Sl.sh (Dt.int f),Sl.sh (Dt.int m),Sl.sh (.lst (zs.map .str)),Sl.ow (.lst ((ws++[atS zs q]).map .str)),Sl.sh (.int i),Sl.sh (.int cc)] M' ⟨rfl,ws++[atS zs q],by simp [hw],fun z Gu=>?_,_,_,rfl⟩
   ·rw[S_] at this;exact this
   ·rcases U_.mp Gu with h | h
    ·exact wc z h
    ·rw[y_.mp h];exact hz _ (getD_mem (by omega))
  rw[a_];refine⟨sz (by simp),by decide,_,e,by omega,sz (by simp),?_⟩;by_cases h4:(4:Int)<(zs.length:Nat)
  ·rw[w_ (d_ h4)];obtain⟨q,eq,hq⟩:=bc cc (show (0:Int)<(zs.length:Nat) by omega);refine⟨_,rfl,fin _ (by omega) (by omega)⟩
  ·rw[n_ (by rw[f_ h4];decide)];exact⟨_,rfl,fin _ (by omega) (by omega)⟩
 ·rintro ρ M' ⟨rfl,ws,hw,wc,o5,o6,rfl⟩;rw[aj,l_] at hw;left;left;exact hR ws hw wc
noncomputable def aF:Rw->Dt
 | .row zs=>.tup [.str "row",.lst (zs.map .str)]
 | .af ns=>.tup [.str "forest",.lst (ns.map aG)]
 | .table w ls=>.tup [.str "table",.int w,.lst (ls.map aW)]
def l7 (p:cA):Prop:=∀ (ns:List Int) (f:Nat) (zs:List Str) M R,zs.length<=40->(∀ z∈zs,az z=true)->(∀ ps:List Nd,(Rw.af ps).Ok->R (aF (.af ps)) M)->p [lF ns,.int f,.lst (zs.map .str)] M R
theorem lG (m7:dh (Γ.fn 12)) {ns:List Int}{f:Nat}{zs:List Str} (hl:zs.length<=40) (hz:∀ z∈zs,az z=true) (hR:∀ ps:List Nd,(Rw.af ps).Ok->R (aF (.af ps)) M):Fn Γ dc [.sh (lF ns),.sh (.int f),.sh (.lst (zs.map .str)),.no,.no,.no,.no] M R:=by
 unfold dc;symm;refine⟨sz (by simp),?_⟩;left;left;rw[a_];refine⟨⟨by omega,by omega⟩,?_⟩;refine aC (fun i ρ M'=>M'=M/\∃ (ps:List Nd) (d:Nat),ps.length=i/\aQ 0 ps/\d<=6/\(i=0->d=0)/\(0<i->(d:Int)+1=aN 0 ps)/\∃ o5 o6,ρ=[.sh (lF ns),.sh (.int f),.sh (.lst (zs.map .str)),.ow (.lst (ps.map aG)),.sh (.int d),o5,o6]) ⟨rfl,[],0,rfl,WG,by omega,fun _=>rfl,fun h=>by omega,_,_,rfl⟩ ?_ ?_
 ·rintro i x ρ M' N' hx ⟨rfl,ps,d,hp,ho,d6,d0,d1,o5,o6,rfl⟩ fF;obtain⟨hi,rfl⟩:=aD hx;rw[l_] at hi;rw[Wd];obtain⟨z,Jj⟩:∃ z,zs[i]? = some z:=⟨_,c_ hi⟩;and_intros;right;refine⟨by decide,m7 _ _ _ _ (by have:=W5 (i:Int) (show (12:Int)≠0 by decide);omega) fun c=>?_⟩;and_intros;refine⟨⟨by decide,by decide⟩,⟨by decide,by decide⟩,.inl ⟨by decide,by decide⟩,?_⟩;generalize c / 7+3*((i:Int) / 12)=cc;subst hN2;right;obtain⟨a,ea,ha⟩:=bc cc (show (0:Int)<7 by decide);obtain⟨b,eb,hb⟩:=bc (a:Int) (show (0:Int)<(d:Int)+2 by omega)
  have VW:b<=a:=by
   have h:((a % (d+2):Nat):Int)=(b:Int):=by rw[←eb,Int.natCast_emod];rfl
   have:=Nat.mod_le a (d+2);omega
  rw[ea];refine⟨by decide,by omega,?_⟩;rw[eb]
  obtain⟨e,he,e1,e2,e3⟩:∃ e:Nat,((b:Int)*if decide (0<(i:Int))=true then 1 else 0)=(e:Int)/\e<=6/\(i=0->e=0)/\e<=d+1:=by
   rcases YG i with h | h
   ·exact⟨0,by rw[n_ (by rw[h];decide),abR];rfl,by omega,fun _=>rfl,by omega⟩
   ·exact⟨b,by rw[w_ (d_ (by omega)),ZP],by omega,fun h'=>by omega,by omega⟩
  rw[he];refine⟨.inl ⟨by omega,by omega⟩,?_⟩;subst hN2;right;refine⟨.str z,bg (by rw[g_,Jj];rfl),sz (by simp),by rw[a_];exact yG (by omega),?_⟩;subst hN2;have hm:=hz z (A_ Jj)
  have da:(e:Int)<=aN 0 ps:=by
   rcases YG i with h | h
   ·have:=e2 h
    cases ps with
    | nil=>show (e:Int)<=0;omega
    | cons _ _=>rw[E_] at hp;omega
   ·have:=d1 h;omega
  have:=fF [Sl.sh (lF ns),Sl.sh (Dt.int f),Sl.sh (.lst (zs.map .str)),Sl.ow (.lst ((ps++[((z,(e:Int)):Nd)]).map aG)),Sl.sh (.int e),Sl.sh (.int i),Sl.sh (.int cc)] M' ⟨rfl,ps++[(z,(e:Int))],e,by simp [hp],aY.mpr ⟨ho,hm,by show (0:Int)<=e;omega,da,WG⟩,e1,fun h=>by omega,fun _=>?_,_,_,rfl⟩
  ·rw[S_] at this;exact this
  ·rw[bm];show (e:Int)+1=min ((e:Int)+1) 12;omega
 ·rintro ρ M' ⟨rfl,ps,d,hp,ho,d6,d0,d1,o5,o6,rfl⟩;rw[aj,l_] at hp;left;left;exact⟨sz (by simp),hR ps ⟨ho,by omega⟩⟩
def Bd (p:cA):Prop:=∀ (r:Int) M R,(∀ n:Int,R (.int n) M)->p [.int r] M R
theorem wd {r:Int} (hR:∀ n:Int,R (.int n) M):Fn Γ jC [.sh (.int r),.no,.no] M R:=by
 unfold jC;symm;left;refine⟨fun m ρ M'=>M'=M/\∃ t:Int,0<t/\m=(r+1-t).toNat/\ρ=[.sh (.int r),.sh (.int t),.no],⟨_,rfl,1,by decide,rfl,rfl⟩,?_⟩;rintro m ρ M' ⟨rfl,t,ht,rfl,rfl⟩;and_intros;by_cases e:t<=r
 ·refine bM (d_ e) ?_;right;refine⟨.inl ⟨by decide,by decide⟩,?_⟩;subst hN2;exact⟨_,by omega,rfl,4*t,by omega,rfl,rfl⟩
 ·refine bG (by rw[f_ e];decide) ?_;left;refine⟨⟨by decide,by decide,by decide⟩,by decide,.inr ⟨by decide,by decide⟩,⟨by decide,by decide,by decide⟩,by decide,?_⟩;generalize (r % 10 ^ ZA 15+11)*6364136223846793013 % (2 ^ ZA 61-1)=v;left;refine⟨.inr ⟨by decide,by decide⟩,⟨by decide,by decide,by decide⟩,by decide,.inr ?_,hR _⟩;have h0:=W5 (v*69621) (show (2 ^ ZA 61-1:Int)≠0 by decide);have h1:=X2 (v*69621) (show (0:Int)<2 ^ ZA 61-1 by decide);have h2:(2 ^ ZA 61-1:Int)<2 ^ 64:=by decide
  exact⟨Int.lt_of_lt_of_le (by decide) h0,Int.lt_trans h1 h2⟩
end
section
variable {Γ:Gm}{M:Mem}{R:Dt->Mem->Prop}
def Rw.Full:Rw->Prop
 | .table w ls=>ls=[]->w=0
 | _=>True
noncomputable def Be:Rw->Nat | .row _=>0 | .af _=>1 | .table _ _=>2
noncomputable def rws (t:Nat):Str:=match t with | 0 => "row" | 1 => "forest" | _ => "table"
theorem Bf {r:Rw}{k:Dt->Prop} (h:k (.str (rws (Be r)))):iW (aF r) 0 k:=by
 cases r<;>exact⟨_,rfl,h⟩
theorem dE {r:Rw}{w:Str}{a b:Prop} (e:rws (Be r)=w) (y:a):iW (aF r) 0 fun x=>lX x (.str w) fun c=>if c=true then a else b:=Bf (bM (d_ e) y)
theorem cQ (t:Nat) {r:Rw}{w:Str}{a b:Prop} (e:¬ rws t=w) (h:Be r=t) (n:b):iW (aF r) 0 fun x=>lX x (.str w) fun c=>if c=true then a else b:=Bf (by
 have e:¬ rws (Be r)=w:=by rw[h];exact e
 exact bG (by rw[f_ e];decide) n)
def kE (p:cA):Prop:=∀ (r:Rw) M R,R (.int r.many) M->p [aF r] M R
theorem lH {r:Rw} (hR:R (.int r.many) M):Fn Γ de [.sh (aF r)] M R:=by
 unfold de
 cases r with
 | row zs =>
  symm;refine cQ 0 (by decide +kernel) rfl ?_;left;refine⟨_,rfl,?_⟩;and_intros;rw[a_];exact hR
 | af ns =>
  symm;refine cQ 1 (by decide +kernel) rfl ?_;left;refine⟨_,rfl,?_⟩;and_intros;rw[a_];exact hR
 | table w ls =>
  symm;refine dE rfl ?_;right;refine⟨_,rfl,?_⟩;and_intros;refine⟨_,rfl,?_⟩;and_intros;rw[a_,←XD];exact hR
def Bg (p:cA):Prop:=∀ (r:Rw) M R,r.Ok->r.Full->R (bD r) M->p [aF r] M R
theorem uA (Va:A6 (Γ.bA 17)) (Vb:oq (Γ.bA 18)) (Vc:so (Γ.bA 19)) {r:Rw} (o:r.Ok) (hf:r.Full) (hR:R (bD r) M):Fn Γ iC [.sh (aF r)] M R:=by
 unfold iC
 cases r with
 | row zs =>
  symm;refine dE rfl ?_;refine sqo fun N2 hN2=>?_
  exact⟨_,rfl,Va _ _ _ o hR⟩
 | af ns =>
  symm;refine cQ 1 (by decide +kernel) rfl ?_;left;refine dE rfl ?_;refine sqo fun N2 hN2=>?_
  exact⟨_,rfl,Vb _ _ _ o hR⟩
 | table w ls =>
  symm;refine cQ 2 (by decide +kernel) rfl ?_;left;refine cQ 2 (by decide +kernel) rfl ?_;left;refine⟨_,rfl,?_⟩;and_intros;have o:aX w ls:=o;refine⟨by rw[a_];exact sz (by have:=o.len;omega),comp_map id (fun x hx K hK=>?_) ?_⟩
  ·obtain⟨l,hl,rfl⟩:=z_.mp hx;exact hK
  ·rw[List.map_id];refine Vc w ls _ _ o ?_;by_cases e:ls=[]
   ·rw[w_ e];have:=hf e;subst this;exact hR
   ·rw[n_ e];exact hR
def qS (p:cA):Prop:=∀ (c:Int) (m:Nat) M R,m<=900->(∀ ps:List Int,placesOk 0 m ps->R (.lst (ps.map .int)) M)->p [.int c,.int m] M R
theorem we:∀ {lo m:Int}{ps qs:List Int},placesOk lo m ps->List.Sublist qs ps->placesOk lo m qs:=by
 intro lo m ps qs h s;rw[dL] at h ⊢;exact⟨fun p hp=>h.1 p (s.subset hp),h.2.sublist s⟩
theorem uB {n:Nat}:bJ 0 n=(SH.upTo n).map .int:=by unfold bJ SH.upTo;rw[R_];rfl
theorem uC {g:Dt->k_ Dt} (hg:∀ i:Int,g (.int i)=some (.int i)∨g (.int i)=none):∀ ps:List Int,∃ qs:List Int,List.Sublist qs ps/\(ps.map Dt.int).filterMap g=qs.map .int
 | []=>⟨[],.slnil,rfl⟩
 | p::ps=>by
  obtain⟨qs,h1,h2⟩:=uC hg ps;rw[p_,Wh,h2];rcases hg p with e | e
  ·exact⟨p::qs,h1.cons₂ p,by rw[e];rfl⟩
  ·exact⟨qs,h1.cons p,by rw[e]⟩
noncomputable def qT (P:Int->Bool):Dt->k_ Dt
 | .int i=>if P i=true then some (.int i) else none
 | _=>none
theorem Bh (P:Int->Bool) (i:Int):qT P (.int i)=some (.int i)∨qT P (.int i)=none:=by
 show (if P i=true then _ else _)=_∨(if P i=true then _ else _)=_;by_cases e:P i=true
 ·exact .inl (w_ e)
 ·exact .inr (n_ e)
theorem oJ {c:Int}{m:Nat} (hm:m<=900) (hR:∀ ps:List Int,placesOk 0 m ps->R (.lst (ps.map .int)) M):Fn Γ er [.sh (.int c),.sh (.int m),.no] M R:=by
 unfold er
 have fin:∀ P:Int->Bool,R (.lst ((bJ 0 m).filterMap (qT P))) M:=fun P=>by
  obtain⟨qs,h1,h2⟩:=uC (Bh P) (SH.upTo m);rw[uB,h2];exact hR qs (we (wL m) h1)
 symm;refine⟨by decide,?_⟩;by_cases e:c % 2=1
 ·refine bM (d_ e) ?_;right;refine⟨⟨by omega,by omega⟩,by rw[aj];exact sz (by omega),bK (qT fun i=>decide (c / 2 / 2 ^ i.toNat % 2=1)) (fun x hx K hK=>?_) (fin _)⟩;obtain⟨i,hi⟩:=V8.mp hx;obtain⟨_,rfl⟩:=aD hi;rw[Wd] at hK ⊢;and_intros;refine⟨⟨by decide,by decide⟩,by omega,by decide,?_⟩;have hK:K (if decide (c / 2 / 2 ^ ((i:Int)).toNat % 2=1)=true then some (.int i) else none) M:=hK;by_cases e1:c / 2 / 2 ^ ((i:Int)).toNat % 2=1
  ·rw[w_ (d_ e1)] at hK;exact bM (d_ e1) hK
  ·rw[n_ (by rw[f_ e1];decide)] at hK;exact bG (by rw[f_ e1];decide) hK
 ·refine bG (by rw[f_ e];decide) ?_;left;refine⟨⟨by decide,by decide⟩,?_⟩;generalize c / 2=c2;left;refine⟨⟨by decide,by decide,by decide⟩,by decide,.inr ⟨by decide,by decide⟩,by decide,?_⟩;generalize (c2 % 10 ^ ZA 12+3)*69621 % 2147483647=mk;left;refine⟨by decide,?_⟩;by_cases e3:c2 % 3=0
  ·refine bM (d_ e3) ?_;right;refine⟨⟨by omega,by omega⟩,by omega,?_⟩;rw[l_,uB];exact hR _ (wL m)
  ·refine bG (by rw[f_ e3];decide) ?_;left;refine⟨⟨by omega,by omega⟩,by rw[aj];exact sz (by omega),bK (qT fun i=>decide (0<mk / 2 ^ (i % 23).toNat % 4)) (fun x hx K hK=>?_) (fin _)⟩;obtain⟨i,hi⟩:=V8.mp hx;obtain⟨_,rfl⟩:=aD hi;rw[Wd] at hK ⊢;and_intros;refine⟨by decide,W5 _ (by decide),by decide,?_⟩;have hK:K (if decide (0<mk / 2 ^ ((i:Int) % 23).toNat % 4)=true then some (.int i) else none) M:=hK;by_cases e1:0<mk / 2 ^ ((i:Int) % 23).toNat % 4
   ·rw[w_ (d_ e1)] at hK;exact bM (d_ e1) hK
   ·rw[n_ (by rw[f_ e1];decide)] at hK;exact bG (by rw[f_ e1];decide) hK
def iL (n:Nat) (p:cA):Prop:=∀ (f:Flt) M R,f.Ok->f.dep<=n->R (.bl f.grows) M->p [ai f] M R
theorem DE {xs:List Dt}{a b:Nat}{i j:Int} (hi:i=(a:Int)) (hj:j=(b:Int)) (hb:b<=xs.length) (CD:a<=b):cutD xs (some i) (some j)=(xs.drop a).take (b-a):=by
 subst hi hj;unfold cutD;rw[HT.mT,HT.mT,XC hb,XC (by omega)]
theorem oK {w:Nat}:∀ {ds:List Dt},(∀ d∈ds,∃ l:List Str,d=aW l/\l.length=w/\∀ z∈l,az z=true)->∃ ls:List (List Str),ds=ls.map aW/\(∀ l∈ls,l.length=w)/\∀ l∈ls,∀ z∈l,az z=true
 | [],_=>⟨[],rfl,fun _ z=>(nomatch z),fun _ z=>nomatch z⟩
 | d::ds,h=>by
  obtain⟨l,rfl,h1,h2⟩:=h d (by simp);obtain⟨ls,rfl,h3,h4⟩:=oK (ds:=ds) fun e he=>h e (by simp [he])
  refine⟨l::ls,rfl,fun m hm=>?_,fun m hm=>?_⟩
  ·rcases u_.mp hm with rfl | hm;exact h1;exact h3 m hm
  ·rcases u_.mp hm with rfl | hm;exact h2;exact h4 m hm
theorem uD {ws:List Str}{w d k:Nat} (hl:ws.length=w*d) (hk:k<d) (hz:∀ z∈ws,az z=true):∃ l:List Str,Dt.lst (cutD (ws.map .str) (some ((w:Int)*(k:Int))) (some ((w:Int)*(k:Int)+(w:Int))))=aW l/\l.length=w/\∀ z∈l,az z=true:=by
 have hle:w*k+w<=ws.length:=by
  rw[hl,←Nat.mul_succ];exact Zs w hk
 refine⟨(ws.drop (w*k)).take w,?_,by rw[V6,Xq];omega,fun z Gu=>hz z (aaX (Wz Gu))⟩;rw[DE (a:=w*k) (b:=w*k+w) (by rw[Zo]) (by rw[XD,Zo]) (by rw[a_];exact hle) (by omega),Nat.add_sub_cancel_left,←abe,←Ze];rfl
def EI (p:cA) (ds:List Dt):Prop:=∀ M R,(∀ r:Rw,r.Ok->r.Full->R (aF r) M)->p ds M R
def kF (p:cA):Prop:=∀ (c:Int) (zs:List Str),fP zs->EI p [.int c,.lst (zs.map .str)]
def uE (p:cA):Prop:=∀ (ns:List Int) (f:Nat) (zs:List Str),fP zs->EI p [lF ns,.int f,.lst (zs.map .str)]
theorem pY (m7:dh (Γ.fn 12)) (Rr:qR (Γ.fn 14)) (Jq:uz (Γ.fn 15)) (Vd:l7 (Γ.fn 16)) (Rs:Bd (Γ.fn 17)) (Ve:kF (Γ.fn 18)) {ns:List Int}{f:Nat}{zs:List Str} (hz:fP zs) (hR:∀ r:Rw,r.Ok->r.Full->R (aF r) M):Fn Γ fw [.sh (lF ns),.sh (.int f),.sh (.lst (zs.map .str)),.no,.no,.no,.no,.no] M R:=by
 unfold fw;symm;refine m7 _ _ _ _ (by omega) fun h=>?_
 left;refine⟨by decide,?_⟩;by_cases e:h % 2=1
 ·refine bM (d_ e) ?_;right;exact⟨⟨by decide,by decide⟩,Rs _ _ _ fun c=>Ve c zs hz _ _ hR⟩
 refine bG (by rw[f_ e];decide) ?_;left;refine⟨⟨by decide,by decide⟩,?_⟩;generalize h / 2=h2;left;refine⟨⟨by decide,by decide⟩,Rr _ _ _ fun m hm=>?_⟩;left;refine⟨by decide,?_⟩;have f1:(f:Int)+1=((f+1:Nat):Int):=by omega
 by_cases e0:h2 % 3=0
 ·refine bM (d_ e0) ?_;right;rw[f1];exact Jq _ _ _ _ _ _ (by omega) hz fun ws hw wc=>⟨sz (by simp),hR (.row ws) ⟨wc,by omega⟩ WG⟩
 refine bG (by rw[f_ e0];decide) ?_;left;refine⟨by decide,?_⟩;by_cases e1:h2 % 3=1
 ·refine bM (d_ e1) ?_;right;rw[f1];exact Jq _ _ _ _ _ _ (by omega) hz fun ws hw wc=>Vd _ _ _ _ _ (by omega) wc fun ps o=>hR (.af ps) o WG
 refine bG (by rw[f_ e1];decide) ?_;left;refine⟨⟨by decide,by decide⟩,by decide,?_⟩;left;refine⟨by decide,?_⟩;subst hN;refine sqo fun N hN=>?_
 have tail:∀ w d:Nat,w<=12->d<=12->N [.sh (lF ns),.sh (.int f),.sh (.lst (zs.map .str)),.sh (.int h2),.sh (.int m),.sh (.int w),.sh (.int d),.no] M:=fun w d hw hd=>by
  rw[hN];refine sqo fun N3 cT=>?_
  and_intros;refine⟨.inl ⟨by omega,by omega⟩,?_⟩;rw[f1,←Zo];have SW:w*d<=12*12:=ZM hw hd;refine Jq _ _ _ _ _ _ (by omega) hz fun ws hl wc=>?_
  subst cT;refine sqo fun N3 cT=>?_
  and_intros;refine⟨.inl ⟨by omega,by omega⟩,⟨by omega,by omega⟩,by rw[aj];exact sz (by omega),?_⟩;refine iK (P:=fun x=>∃ l:List Str,x=aW l/\l.length=w/\∀ z∈l,az z=true) (fun x hx K hK=>?_) fun ds yH hP=>?_
  ·obtain⟨k,qI⟩:=V8.mp hx;obtain⟨hk,rfl⟩:=aD qI;rw[l_] at hk;rw[Wd];and_intros;exact⟨.inl ⟨by omega,by omega⟩,.inl ⟨by omega,by omega⟩,hK _ (uD hl hk wc)⟩
  ·obtain⟨ls,rfl,h3,h4⟩:=oK hP;rw[a_,aj,l_] at yH;refine⟨sz (by simp),?_⟩
   have e5:((w:Int)*if decide (0<(d:Int))=true then 1 else 0)=((if d=0 then 0 else w:Nat):Int):=by
    by_cases h0:d=0
    ·rw[w_ h0,n_ (by rw[h0];decide),abR];rfl
    ·rw[n_ h0,w_ (d_ (by omega)),ZP]
   rw[e5];refine hR (.table (if d=0 then 0 else w) ls) ⟨by omega,by split<;>omega,fun l hl=>?_,h4⟩ fun e=>?_
   ·rw[n_ (by have:=Y1 hl;omega)];exact h3 l hl
   ·rw[w_ (by rw[e] at yH;exact yH.symm)]
 and_intros;obtain⟨a,ea,ha⟩:=bc (h2 / 48) (show (0:Int)<5 by decide);obtain⟨b,eb,hb⟩:=bc (m:Int) (show (0:Int)<6 by decide);obtain⟨a',Vf,Sx⟩:=bc (h2 / 48) (show (0:Int)<8 by decide);obtain⟨b',Vg,Cp⟩:=bc (h2 / 384) (show (0:Int)<9 by decide);rw[ea,eb];by_cases e9:(9:Int)<m
 ·refine bM (d_ e9) ?_;refine sqo fun N3 cT=>?_
  and_intros;refine⟨⟨by decide,by decide⟩,by decide,?_⟩;subst cT;refine sqo fun N3 cT=>?_
  and_intros;refine⟨⟨by decide,by decide⟩,by decide,?_⟩;subst cT;rw[Vf,Vg,show (1:Int)+(a':Int)=((1+a':Nat):Int) by omega];exact tail _ _ (by omega) (by omega)
 ·refine bG (by rw[f_ e9];decide) (tail _ _ (by omega) (by omega))
theorem kG {c:Int}{zs:List Str} (hz:fP zs) (hR:∀ r:Rw,r.Ok->r.Full->R (aF r) M):Fn Γ cI [.sh (.int c),.sh (.lst (zs.map .str)),.no,.no,.no,.no,.no,.no,.no,.no] M R:=by
 unfold cI;obtain⟨z4,OP,hz⟩:=hz;obtain⟨k,ek,hk⟩:=bc (c / 3) (show (0:Int)<10 by decide);obtain⟨w,ew,hw⟩:=bc (c / 30) (show (0:Int)<5 by decide);obtain⟨d,ed,hd⟩:=bc (c / 150) (show (0:Int)<5 by decide);symm;refine⟨⟨by decide,by decide⟩,by decide,?_⟩;rw[ek];left;refine⟨⟨by decide,by decide⟩,by decide,?_⟩;rw[ew];left;refine⟨⟨by decide,by decide⟩,by decide,?_⟩;rw[ed];left;refine⟨⟨by decide,by decide⟩,?_⟩;generalize c / 750=r0;subst hN;refine sqo fun N hN=>?_
 have SW:w*d<=4*4:=ZM (by omega) (by omega)
 have main:∀ m:Nat,m<=16->(c % 3=2->m=w*d)->(¬ c % 3=2->m<=9)->N [.sh (.int c),.sh (.lst (zs.map .str)),.sh (.int m),.sh (.int w),.sh (.int d),.sh (.int r0),.no,.no,.no,.no] M:=fun m VX m2 m9=>by
  rw[hN];refine sqo fun N3 cT=>?_
  and_intros;refine⟨sz (by simp),?_⟩;subst cT;refine sqo fun N3 cT=>?_
  and_intros;refine⟨⟨by omega,by omega⟩,?_⟩;refine aC (fun i ρ M'=>M'=M/\∃ ws:List Str,ws.length=i/\(∀ z∈ws,az z=true)/\∃ (r:Int) (o7:Sl),ρ=[.sh (.int c),.sh (.lst (zs.map .str)),.sh (.int m),.sh (.int w),.sh (.int d),.sh (.int r),.ow (.lst (ws.map .str)),o7,.no,.no]) ⟨rfl,[],rfl,fun _ z=>(nomatch z),_,_,rfl⟩ ?_ ?_
  ·rintro i x ρ M' N' hx ⟨rfl,ws,hl,wc,r,o7,rfl⟩ fF;obtain⟨hi,rfl⟩:=aD hx;rw[l_] at hi;and_intros;refine sqo fun N4 jf=>?_
   and_intros;rw[a_];obtain⟨q,eq,hq⟩:=bc r (show (0:Int)<(zs.length:Nat) by omega);rw[eq];refine⟨by omega,.str (atS zs q),K18.dw (by omega) (by omega),by rw[a_];exact yG (by omega),?_⟩;subst jf;refine sqo fun N4 jf=>?_
   and_intros;rw[a_];refine⟨⟨by omega,by omega⟩,?_⟩;subst jf;rw[show ws.map Dt.str++[Dt.str (atS zs q)]=(ws++[atS zs q]).map .str by rw[S_];rfl];refine fF _ _ ⟨rfl,ws++[atS zs q],by simp [hl],fun z Gu=>?_,_,_,rfl⟩;rcases U_.mp Gu with h | h
   ·exact wc z h
   ·rw[y_.mp h];exact hz _ (getD_mem (by omega))
  ·rintro ρ M' ⟨rfl,ws,hl,wc,r,o7,rfl⟩;rw[aj,l_] at hl;subst cT;refine sqo fun N3 cT=>?_
   and_intros;refine⟨by decide,?_⟩;by_cases e0:c % 3=0
   ·refine bM (d_ e0) ?_;refine sqo fun N4 jf=>?_
    and_intros;subst jf;refine sqo fun N4 jf=>?_
    exact⟨sz (by simp),hR (.row ws) ⟨wc,by omega⟩ WG⟩
   refine bG (by rw[f_ e0];decide) ?_;subst cT;refine sqo fun N3 cT=>?_
   and_intros;refine⟨by decide,?_⟩;by_cases e2:c % 3=2
   ·refine bM (d_ e2) ?_;refine sqo fun N4 jf=>?_
    and_intros;subst jf;refine sqo fun N4 jf=>?_
    and_intros;have hl:=hl.trans (m2 e2);refine⟨.inl ⟨by omega,by omega⟩,⟨by omega,by omega⟩,by rw[aj];exact sz (by omega),?_⟩;refine iK (P:=fun x=>∃ l:List Str,x=aW l/\l.length=w/\∀ z∈l,az z=true) (fun x hx K hK=>?_) fun ds yH hP=>?_
    ·obtain⟨k,qI⟩:=V8.mp hx;obtain⟨hk,rfl⟩:=aD qI;rw[l_] at hk;rw[Wd];and_intros;exact⟨.inl ⟨by omega,by omega⟩,.inl ⟨by omega,by omega⟩,hK _ (uD hl hk wc)⟩
    ·obtain⟨ls,rfl,h3,h4⟩:=oK hP;rw[a_,aj,l_] at yH;refine⟨sz (by simp),?_⟩
     have e5:((w:Int)*if decide (0<(d:Int))=true then 1 else 0)=((if d=0 then 0 else w:Nat):Int):=by
      by_cases h0:d=0
      ·rw[w_ h0,n_ (by rw[h0];decide),abR];rfl
      ·rw[n_ h0,w_ (d_ (by omega)),ZP]
     rw[e5];refine hR (.table (if d=0 then 0 else w) ls) ⟨by omega,by split<;>omega,fun l hl=>?_,h4⟩ fun e=>?_
     ·rw[n_ (by have:=Y1 hl;omega)];exact h3 l hl
     ·rw[w_ (by rw[e] at yH;exact yH.symm)]
   refine bG (by rw[f_ e2];decide) ?_;have m9:=m9 e2;subst cT;refine sqo fun N3 cT=>?_
   and_intros;refine⟨sz (by simp),?_⟩;subst cT;refine sqo fun N3 cT=>?_
   and_intros;subst cT;refine sqo fun N3 cT=>?_
   and_intros;refine⟨⟨by omega,by omega⟩,?_⟩;refine aC (fun i ρ xn=>xn=M'/\∃ (ps:List Nd) (rm:Nat),ps.length=i/\aQ 0 ps/\1<=rm/\rm<=i+1/\(rm:Int)-1<=aN 0 ps/\∃ (r:Int) (o7:Sl),ρ=[.sh (.int c),.sh (.lst (zs.map .str)),.sh (.int m),.sh (.int w),.sh (.int d),.sh (.int r),.ow (.lst (ws.map .str)),o7,.ow (.lst (ps.map aG)),.sh (.int rm)]) ⟨rfl,[],1,rfl,WG,by omega,by omega,by show (1:Int)-1<=0;omega,_,_,rfl⟩ ?_ ?_
   ·rintro i x ρ xn N' hx ⟨rfl,ps,rm,hp,ho,r1,r2,r3,r,o7,rfl⟩ fF;obtain⟨hi,rfl⟩:=aD hx;rw[l_] at hi;rw[Wd];obtain⟨z,Jj⟩:∃ z,ws[i]? = some z:=⟨_,c_ (by omega)⟩;obtain⟨q,eq,hq⟩:=bc r (show (0:Int)<(rm:Int) by omega);have hm:=wc z (A_ Jj);and_intros;refine sqo fun N4 jf=>?_
    and_intros;rw[eq];refine⟨.str z,bg (by rw[g_,Jj];rfl),by omega,sz (by simp),by rw[a_];exact yG (by omega),?_⟩;subst jf;refine sqo fun N4 jf=>?_
    and_intros;refine⟨⟨by omega,by omega⟩,?_⟩;subst jf;refine sqo fun N4 jf=>?_
    and_intros;refine⟨.tup [.str z,.int q],jW _ _,_,rfl,?_⟩;and_intros;subst jf;rw[show ps.map aG++[Dt.tup [.str z,.int q]]=(ps++[((z,(q:Int)):Nd)]).map aG by rw[S_];rfl,show (q:Int)+2=((q+2:Nat):Int) by omega];refine fF _ _ ⟨rfl,ps++[(z,(q:Int))],q+2,by simp [hp],aY.mpr ⟨ho,hm,by show (0:Int)<=q;omega,by show (q:Int)<=_;omega,WG⟩,by omega,by omega,?_,_,_,rfl⟩;rw[bm];show ((q+2:Nat):Int)-1<=min ((q:Int)+1) 12;omega
   ·rintro ρ xn ⟨rfl,ps,rm,hp,ho,r1,r2,r3,r,o7,rfl⟩;rw[aj,l_] at hp;subst cT;refine sqo fun N3 cT=>?_
    and_intros;subst cT;refine sqo fun N3 cT=>?_
    exact⟨sz (by simp),hR (.af ps) ⟨ho,by omega⟩ WG⟩
 and_intros;refine⟨by decide,?_⟩;by_cases e2:c % 3=2
 ·refine bM (d_ e2) ?_;refine sqo fun N3 cT=>?_
  and_intros;refine⟨.inl ⟨by omega,by omega⟩,?_⟩;subst cT;rw[←Zo];exact main _ SW (fun _=>rfl) (fun h=>absurd e2 h)
 ·refine bG (by rw[f_ e2];decide) (main k (by omega) (fun h=>absurd h e2) (fun _=>by omega))
end
section
variable {Γ:Gm}{M:Mem}{R:Dt->Mem->Prop}
noncomputable def EJ:Rw->Nat->Int
 | .row _,_=>0
 | .af ns,k=>(ns.getD k ("",0)).2
 | .table w _,k=>((k / w:Nat):Int)
noncomputable def OQ:Rw->Nat->Int
 | .row _,k=>k
 | .af _,k=>k
 | .table w _,k=>((k % w:Nat):Int)
noncomputable def pZ (r:Rw) (k:Nat):Dt:=.tup [.str (r.names.getD k ""),.int (EJ r k),.int (OQ r k)]
noncomputable def bO (r:Rw):List Dt:=(Wg r.names.length).map (pZ r)
theorem oM {r:Rw}{i:Nat}:(Wg i).map (pZ r)++[pZ r i]=(Wg (i+1)).map (pZ r):=by rw[aaB,S_];rfl
theorem j4 {w:Nat}:∀ {ls:List (List Str)},(∀ l∈ls,l.length=w)->ls.flatten.length=ls.length*w
 | [],_=>by simp
 | l::ls,h=>by rw[YW,G_,h l (by simp),j4 fun m hm=>h m (by simp [hm]),E_,Nat.add_mul,Nat.one_mul,aar]
def eV (p:cA):Prop:=∀ (r:Rw) M R,r.Ok->R (.lst (bO r)) M->p [aF r] M R
theorem sA {r:Rw} (o:r.Ok) (hR:R (.lst (bO r)) M):Fn Γ gC [.sh (aF r),.no,.no,.no,.no] M R:=by
 unfold gC;symm;refine⟨sz (by simp),?_⟩
 cases r with
 | row zs =>
  have ED:zs.length<=40:=o.2;left;refine dE rfl ?_;right;refine⟨_,rfl,?_⟩;and_intros;rw[a_];refine⟨⟨by omega,by omega⟩,?_⟩;refine aC (fun i ρ M'=>M'=M/\∃ o2,ρ=[.sh (aF (.row zs)),.ow (.lst ((Wg i).map (pZ (.row zs)))),o2,.no,.no]) ⟨rfl,_,rfl⟩ ?_ ?_
  ·rintro i x ρ M' N' hx ⟨rfl,o2,rfl⟩ fF;obtain⟨hi,rfl⟩:=aD hx;rw[l_] at hi;rw[Wd];and_intros;refine sqo fun N3 cT=>?_
   and_intros;refine⟨_,rfl,?_⟩;refine⟨_,K18.dw (by omega) (by omega),sz (by simp),by rw[a_,Wc];exact yG (by omega),?_⟩;subst cT;have e:Dt.tup [.str (atS zs i),.int 0,.int i]=pZ (.row zs) i:=rfl;rw[e,oM];exact fF _ _ ⟨rfl,_,rfl⟩
  ·rintro ρ M' ⟨rfl,o2,rfl⟩;rw[aj,l_];subst hN2;show N _ _;left;refine cQ 0 (by decide +kernel) rfl ?_;left;refine cQ 0 (by decide +kernel) rfl ?_;left;left;exact hR
 | af ns =>
  have ED:ns.length<=40:=o.2;left;refine cQ 1 (by decide +kernel) rfl ?_;left;refine dE rfl ?_;right;refine⟨_,rfl,?_⟩;and_intros;rw[a_];refine⟨⟨by omega,by omega⟩,?_⟩;refine aC (fun i ρ M'=>M'=M/\∃ o2,ρ=[.sh (aF (.af ns)),.ow (.lst ((Wg i).map (pZ (.af ns)))),o2,.no,.no]) ⟨rfl,_,rfl⟩ ?_ ?_
  ·rintro i x ρ M' N' hx ⟨rfl,o2,rfl⟩ fF;obtain⟨hi,rfl⟩:=aD hx;rw[l_] at hi;rw[Wd];obtain⟨n,hn⟩:∃ n,ns[i]? = some n:=⟨_,c_ hi⟩;have wf:∀ {k:Dt->Prop},k (aG n)->iW (.lst (ns.map aG)) i k:=fun h=>⟨aG n,bg (by rw[g_,hn];rfl),h⟩
   and_intros;refine sqo fun N3 cT=>?_
   and_intros;refine⟨_,rfl,wf (DB ⟨_,rfl,wf (ug ⟨sz (by simp),by rw[a_,Wc];exact yG (by omega),?_⟩)⟩)⟩;subst cT
   have e:Dt.tup [.str n.1,.int n.2,.int i]=pZ (.af ns) i:=by
    show _=Dt.tup [.str ((Rw.af ns).names.getD i ""),.int (ns.getD i ("",0)).2,.int i];rw[getD_some hn,getD_some (show (Rw.af ns).names[i]? = some n.1 by show (ns.map _)[i]? = _;rw[g_,hn];rfl)]
   rw[e,oM];exact fF _ _ ⟨rfl,_,rfl⟩
  ·rintro ρ M' ⟨rfl,o2,rfl⟩;rw[aj,l_];subst hN2;show N _ _;left;refine cQ 1 (by decide +kernel) rfl ?_;left;subst hN;refine sqo fun N hN=>?_
   unfold bO at hR;rw[show (Rw.af ns).names.length=ns.length from a_ _] at hR;exact hR
 | table w ls =>
  have o:aX w ls:=o;have o1:=o.len;have o2:=o.BM;left;refine cQ 2 (by decide +kernel) rfl ?_;left;refine cQ 2 (by decide +kernel) rfl ?_;left;refine dE rfl ?_;right;refine⟨_,rfl,?_⟩;and_intros;rw[a_];refine⟨⟨by omega,by omega⟩,?_⟩;refine aC (fun i ρ M'=>M'=M/\∃ o3 o4,ρ=[.sh (aF (.table w ls)),.ow (.lst ((Wg (i*w)).map (pZ (.table w ls)))),.no,o3,o4]) ⟨rfl,_,_,by rw[Nat.zero_mul];rfl⟩ ?_ ?_
  ·rintro i x ρ M' N' hx ⟨rfl,o3,o4,rfl⟩ fF;obtain⟨hi,rfl⟩:=aD hx;rw[l_] at hi;rw[Wd];obtain⟨l,hl⟩:∃ l,ls[i]? = some l:=⟨_,c_ hi⟩;have hw:=o.jN l (A_ hl);and_intros;refine sqo fun N3 cT=>?_
   and_intros;refine⟨_,rfl,?_⟩;and_intros;refine⟨⟨by omega,by omega⟩,?_⟩;refine aC (fun j ρ xn=>xn=M'/\∃ o4,ρ=[.sh (aF (.table w ls)),.ow (.lst ((Wg (i*w+j)).map (pZ (.table w ls)))),.no,.sh (.int i),o4]) ⟨rfl,_,rfl⟩ ?_ ?_
   ·rintro j x ρ xn VY i8 ⟨rfl,o4,rfl⟩ Ru;obtain⟨hj,rfl⟩:=aD i8;rw[l_] at hj;rw[Wd];have hp:0<w:=by omega
    have VZ:i*w<=12*12:=ZM (by omega) (by omega);and_intros;refine sqo fun N4 jf=>?_
    and_intros;refine⟨_,rfl,?_⟩;refine⟨aW l,bg (by rw[g_,hl];rfl),?_⟩;refine⟨_,K18.dw (zs:=l) (by omega) (by omega),sz (by simp),by rw[a_,Wc];exact yG (by omega),?_⟩;subst jf;have q1:(i*w+j) / w=i:=by rw[aas,Zn hp,Yo hj,Y2]
    have q2:(i*w+j) % w=j:=by rw[Za,Yp hj]
    have e:Dt.tup [.str (atS l j),.int i,.int j]=pZ (.table w ls) (i*w+j):=by
     have hg:l[j]? = some (l[j]'(by omega)):=c_ _;have hn:(Rw.table w ls).names[i*w+j]? = some (l[j]'(by omega)):=(cf hp o.jN).mpr ⟨l,by rw[q1];exact hl,by rw[q2];exact hg⟩;show _=Dt.tup [.str ((Rw.table w ls).names.getD (i*w+j) ""),.int (((i*w+j) / w:Nat):Int),.int (((i*w+j) % w:Nat):Int)];rw[getD_some hn,q1,q2,sk hg]
    rw[e,oM];exact Ru _ _ ⟨rfl,_,rfl⟩
   ·rintro ρ xn ⟨rfl,o4,rfl⟩;rw[aj,l_];subst cT;exact fF _ _ ⟨rfl,_,_,by rw[Nat.add_mul,Nat.one_mul]⟩
  ·rintro ρ M' ⟨rfl,o3,o4,rfl⟩;rw[aj,l_];subst hN2;show N _ _;left;subst hN;refine sqo fun N hN=>?_
   unfold bO at hR;rw[show (Rw.table w ls).names.length=ls.length*w from j4 o.jN] at hR;exact hR
end
section
variable {Γ:Gm}{M:Mem}{R:Dt->Mem->Prop}
theorem cR {r:Rw}{i:Nat}{k:Dt->Prop} (hi:i<r.names.length) (h:k (pZ r i)):iW (.lst (bO r)) i k:=⟨pZ r i,bg (by unfold bO;rw[g_,W4 hi];rfl),h⟩
theorem uF {r:Rw}{i:Nat}{k:Dt->Prop} (h:k (.str (r.names.getD i ""))):iW (pZ r i) 0 k:=⟨_,rfl,h⟩
theorem qa {r:Rw}{i:Nat}{k:Dt->Prop} (h:k (.int (EJ r i))):iW (pZ r i) 1 k:=⟨_,rfl,h⟩
theorem DF {r:Rw}{i:Nat}{k:Dt->Prop} (h:k (.int (OQ r i))):iW (pZ r i) 2 k:=⟨_,rfl,h⟩
theorem sB {x y:Int}{Q:Bool->Prop}:lX (.int x) (.int y) Q=Q (decide (x=y)):=rfl
theorem yI {w i j:Nat} (hw:0<w):(i % w=j % w/\i / w<j / w)↔(i<j/\i % w=j % w):=by
 have e1:=Xj i w;have e2:=Xj j w;constructor
 ·rintro⟨h1,h2⟩;have:=Nat.mul_lt_mul_of_pos_left h2 hw;exact⟨by omega,h1⟩
 ·rintro⟨h1,h2⟩;refine⟨h2,?_⟩;rcases WS (i / w) (j / w) with h | h
  ·exact h
  ·have:=Zs w h;omega
theorem wg {w i j:Nat} (hw:0<w):(i / w=j / w/\i % w+1=j % w)↔(i<j/\j=i+1/\i / w=j / w):=by
 have e1:=Xj i w;have e2:=Xj j w;constructor
 ·rintro⟨h1,h2⟩;rw[←h1] at e2;exact⟨by omega,by omega,h1⟩
 ·rintro⟨h1,h2,h3⟩;rw[←h3] at e2;exact⟨h3,by omega⟩
theorem EK {w:Nat}{ls:List (List Str)}{i:Nat} (o:aX w ls) (hi:i<(Rw.table w ls).names.length):0<w:=w_pos o.jN (c_ hi)
def gO (p:cA):Prop:=∀ (r:Rw) (i j:Nat) M R,r.Ok->i<r.names.length->j<r.names.length->(∀ c:Bool,(c=true↔i<j/\r.under i j)->R (.bl c) M)->p [aF r,.lst (bO r),.int i,.int j] M R
def gZ (p:cA):Prop:=∀ (r:Rw) (i j:Nat) M R,r.Ok->i<r.names.length->j<r.names.length->(∀ c:Bool,(c=true↔i<j/\r.aE i j)->R (.bl c) M)->p [aF r,.lst (bO r),.int i,.int j] M R
theorem kH {r:Rw}{i j:Nat} (o:r.Ok) (hi:i<r.names.length) (hj:j<r.names.length) (hR:∀ c:Bool,(c=true↔i<j/\r.under i j)->R (.bl c) M):Fn Γ cJ [.sh (aF r),.sh (.lst (bO r)),.sh (.int i),.sh (.int j),.no] M R:=by
 unfold cJ
 cases r with
 | table w ls =>
  have hw:=EK o hi;symm;refine dE rfl ?_;right;refine cR hi (DF (cR hj (DF ?_)));rw[sB];by_cases e:OQ (.table w ls) i=OQ (.table w ls) j
  ·refine bM (d_ e) (cR hi (qa (cR hj (qa (hR _ ?_)))));have e:((i % w:Nat):Int)=((j % w:Nat):Int):=e;rw[V4];show ((i / w:Nat):Int)<((j / w:Nat):Int)↔i<j/\i % w=j % w;rw[←yI hw];omega
  ·refine bG (by rw[f_ e];decide) (hR _ ⟨fun z=>(nomatch z),fun⟨_,h⟩=>absurd ?_ e⟩);show ((i % w:Nat):Int)=((j % w:Nat):Int);have h:i % w=j % w:=h;omega
 | row zs =>
  symm;refine cQ 0 (by decide +kernel) rfl ?_;left;refine dE rfl ?_;refine sqo fun N2 hN2=>?_
  exact hR false ⟨fun z=>(nomatch z),fun⟨_,h⟩=>h.elim⟩
 | af ns =>
  have nl:(Rw.af ns).names.length=ns.length:=a_ _;have ED:ns.length<=40:=o.2;symm;refine cQ 1 (by decide +kernel) rfl ?_;left;refine Bf ?_;rw[show lX (.str (rws (Be (.af ns)))) (.str "row")=fun Q=>Q false from by funext Q;show Q (decide _)=Q false;rw[f_ (by show ¬ rws 1=_;decide +kernel)]];and_intros;by_cases e:(j:Int)<=i
  ·refine bM (d_ e) ?_;refine sqo fun N2 hN2=>?_
   exact hR false ⟨fun z=>(nomatch z),fun⟨h,_⟩=>by omega⟩
  refine bG (by rw[f_ e];decide) ?_;left;refine⟨⟨by omega,by omega⟩,⟨by omega,by omega⟩,?_⟩;refine eU (T:=R (.bl false) M) (fun ρ=>∃ o4,ρ=[.sh (aF (.af ns)),.sh (.lst (bO (.af ns))),.sh (.int i),.sh (.int j),o4]) (fun k=>i+1+k<=j/\(ns.getD (i+1+k) ("",0)).2<=(ns.getD i ("",0)).2) ⟨_,rfl⟩ ?_ ?_ ?_
  ·rintro k x hx ρ N' ⟨o4,rfl⟩ hy hn;obtain⟨hk,rfl⟩:=aD hx;rw[show (i:Int)+1+(k:Int)=((i+1+k:Nat):Int) by omega];and_intros;right;refine cR (by omega) (qa (cR hi (qa ?_)));show if decide ((ns.getD (i+1+k) ("",0)).2<=(ns.getD i ("",0)).2)=true then _ else _
   by_cases e1:(ns.getD (i+1+k) ("",0)).2<=(ns.getD i ("",0)).2
   ·refine bM (d_ e1) ?_;refine sqo fun N3 cT=>?_
    exact hy ⟨by omega,e1⟩
   ·refine bG (by rw[f_ e1];decide) ?_;subst hN2;exact hn (fun h=>e1 h.2) _ ⟨_,rfl⟩
  ·rintro⟨k,h1,h2⟩;refine hR false ⟨fun z=>(nomatch z),fun⟨_,h⟩=>?_⟩;have:=h (i+1+k) (by omega) h1;omega
  ·rintro gU ρ ⟨o4,rfl⟩;subst hN;refine sqo fun N hN=>?_
   refine hR true ⟨fun _=>⟨by omega,fun k h1 h2=>?_⟩,fun _=>rfl⟩;rcases Int.lt_or_le (ns.getD i ("",0)).2 (ns.getD k ("",0)).2 with h | h
   ·exact h
   ·refine absurd ⟨k-(i+1),?_,by omega,by rw[show i+1+(k-(i+1))=k by omega];exact h⟩ gU;rw[aj];omega
theorem iM {r:Rw}{i j:Nat} (o:r.Ok) (hi:i<r.names.length) (hj:j<r.names.length) (hR:∀ c:Bool,(c=true↔i<j/\r.aE i j)->R (.bl c) M):Fn Γ bY [.sh (aF r),.sh (.lst (bO r)),.sh (.int i),.sh (.int j),.no] M R:=by
 unfold bY
 cases r with
 | table w ls =>
  have hw:=EK o hi;symm;refine dE rfl ?_;right;refine cR hi (qa (cR hj (qa ?_)));rw[sB];have bt:=wg (i:=i) (j:=j) hw;by_cases e:EJ (.table w ls) i=EJ (.table w ls) j
  ·refine bM (d_ e) (cR hi (DF ?_));and_intros;refine cR hj (DF (hR _ ?_));have e:((i / w:Nat):Int)=((j / w:Nat):Int):=e;rw[V4];show ((i % w:Nat):Int)+1=((j % w:Nat):Int)↔i<j/\j=i+1/\i / w=j / w;rw[←bt];omega
  ·refine bG (by rw[f_ e];decide) (hR _ ⟨fun z=>(nomatch z),fun⟨_,_,h⟩=>absurd ?_ e⟩);show ((i / w:Nat):Int)=((j / w:Nat):Int);omega
 | row zs =>
  symm;refine cQ 0 (by decide +kernel) rfl ?_;left;refine dE rfl ?_;right;refine hR _ ?_;rw[V4];show (i:Int)+1=(j:Int)↔i<j/\j=i+1;omega
 | af ns =>
  have nl:(Rw.af ns).names.length=ns.length:=a_ _;have ED:ns.length<=40:=o.2;symm;refine cQ 1 (by decide +kernel) rfl ?_;left;refine cQ 1 (by decide +kernel) rfl ?_;left;by_cases e:(j:Int)<=i
  ·refine bM (d_ e) ?_;refine sqo fun N2 hN2=>?_
   exact hR false ⟨fun z=>(nomatch z),fun⟨h,_⟩=>by omega⟩
  refine bG (by rw[f_ e];decide) (cR hi (qa (cR hj (qa ?_))));rw[sB];by_cases e1:(ns.getD i ("",0)).2=(ns.getD j ("",0)).2
  ·refine bG (by rw[show EJ (.af ns) i=EJ (.af ns) j from e1,d_ rfl];decide) ?_;left;refine⟨⟨by omega,by omega⟩,⟨by omega,by omega⟩,?_⟩;refine eU (T:=R (.bl false) M) (fun ρ=>∃ o4,ρ=[.sh (aF (.af ns)),.sh (.lst (bO (.af ns))),.sh (.int i),.sh (.int j),o4]) (fun k=>i+1+k<j/\(ns.getD (i+1+k) ("",0)).2<=(ns.getD i ("",0)).2) ⟨_,rfl⟩ ?_ ?_ ?_
   ·rintro k x hx ρ N' ⟨o4,rfl⟩ hy hn;obtain⟨hk,rfl⟩:=aD hx;rw[show (i:Int)+1+(k:Int)=((i+1+k:Nat):Int) by omega];and_intros;right;refine cR (by omega) (qa (cR hi (qa ?_)));show if decide ((ns.getD (i+1+k) ("",0)).2<=(ns.getD i ("",0)).2)=true then _ else _
    by_cases e2:(ns.getD (i+1+k) ("",0)).2<=(ns.getD i ("",0)).2
    ·refine bM (d_ e2) ?_;refine sqo fun N3 cT=>?_
     exact hy ⟨by omega,e2⟩
    ·refine bG (by rw[f_ e2];decide) ?_;subst hN2;exact hn (fun h=>e2 h.2) _ ⟨_,rfl⟩
   ·rintro⟨k,h1,h2⟩;refine hR false ⟨fun z=>(nomatch z),fun⟨_,_,h⟩=>?_⟩;have:=h (i+1+k) (by omega) h1;omega
   ·rintro gU ρ ⟨o4,rfl⟩;subst hN;refine sqo fun N hN=>?_
    refine hR true ⟨fun _=>⟨by omega,e1,fun k h1 h2=>?_⟩,fun _=>rfl⟩;rcases Int.lt_or_le (ns.getD i ("",0)).2 (ns.getD k ("",0)).2 with h | h
    ·exact h
    ·refine absurd ⟨k-(i+1),?_,by omega,by rw[show i+1+(k-(i+1))=k by omega];exact h⟩ gU;rw[aj];omega
  ·refine bM (by rw[f_ (show ¬ EJ (.af ns) i=EJ (.af ns) j from e1)];decide) ?_;refine sqo fun N2 hN2=>?_
   exact hR false ⟨fun z=>(nomatch z),fun⟨_,h,_⟩=>absurd h e1⟩
end
section
variable {Γ:Gm}{M:Mem}{R:Dt->Mem->Prop}
noncomputable def bw (zs:List Str) (a:Str):List Nat:=(Wg zs.length).filter fun k=>decide (zs.getD k "" = a)
theorem aS {zs:List Str}{a:Str}{k:Nat}:k∈bw zs a↔zs[k]? = some a:=by
 unfold bw;rw[Xf,Wv,V4];constructor
 ·rintro⟨h1,h2⟩;have hg:=c_ h1;rw[getD_some hg] at h2;rw[hg,h2]
 ·intro h;exact⟨(j_.mp h).1,getD_some h⟩
theorem l8 {zs:List Str}{a:Str}:(bw zs a).Pairwise (·<·):=List.Pairwise.sublist List.filter_sublist aaq
noncomputable def Bi (zs:List Str) (a:Str):Dt->k_ Dt:=qT fun i=>decide (zs.getD i.toNat "" = a)
noncomputable def dN (k:Nat):Dt:=.int k
theorem uG {zs:List Str}{a:Str}:(bJ 0 zs.length).filterMap (Bi zs a)=(bw zs a).map dN:=by
 unfold bJ bw;generalize Wg zs.length=l
 induction l with
 | nil=>rfl
 | cons k l ih =>
  rw[p_,Wh,ih,WE]
  have e:Bi zs a (.int (0+(k:Int)))=if decide (zs.getD k "" = a)=true then some (.int (0+(k:Int))) else none:=by
   show (if decide (zs.getD (0+(k:Int)).toNat "" = a)=true then _ else _)=_;rw[Wd,l_]
  rw[e];by_cases h:decide (zs.getD k "" = a)=true
  ·rw[w_ h,w_ h,p_];show Dt.int (0+(k:Int))::_=dN k::_;rw[Wd];rfl
  ·rw[n_ h,n_ h]
theorem i5 {r:Rw} (o:r.Ok):r.names.length<=144:=by
 cases r with
 | row zs=>have:=o.2;show zs.length<=144;omega
 | af ns=>have:=o.2;show (ns.map _).length<=144;rw[a_];omega
 | table w ls =>
  have o:aX w ls:=o;show ls.flatten.length<=144;rw[j4 o.jN];exact ZM (n₁:=ls.length) (m₁:=w) (n₂:=12) (m₂:=12) o.len o.BM
noncomputable def oN:Flt->k_ (Str×Str)
 | .before a b=>some (a,b) | .under a b=>some (a,b) | .aE a b=>some (a,b) | _=>none
theorem NR {f:Flt}{a b:Str}{k:Dt->Prop} (e:oN f=some (a,b)) (h:k (.str a)):iW (ai f) 1 k:=by
 cases f<;>first | (cases e;done) | (cases e;unfold ai;exact⟨_,rfl,h⟩)
theorem NS {f:Flt}{a b:Str}{k:Dt->Prop} (e:oN f=some (a,b)) (h:k (.str b)):iW (ai f) 2 k:=by
 cases f<;>first | (cases e;done) | (cases e;unfold ai;exact⟨_,rfl,h⟩)
def oO (p:cA):Prop:=∀ (f:Flt) (a b:Str) (r:Rw) M R,oN f=some (a,b)->r.Ok->(∀ c:Bool,(c=true↔f.holds r)->R (.bl c) M)->p [ai f,aF r] M R
theorem mM (JY:eV (Γ.fn 23)) (Rv:gO (Γ.fn 24)) (Vh:gZ (Γ.fn 25)) {f:Flt}{a b:Str}{r:Rw} (e:oN f=some (a,b)) (o:r.Ok) (hR:∀ c:Bool,(c=true↔f.holds r)->R (.bl c) M):Fn Γ dB [.sh (ai f),.sh (aF r),.no,.no,.no,.no,.no] M R:=by
 unfold dB;have Jz:=i5 o;have sl:(bO r).length=r.names.length:=by unfold bO;rw[a_,Wc]
 symm;refine JY r _ _ o ?_;left;rw[sl]
 have test:∀ (m:Str) (x:Dt),x∈bJ 0 r.names.length->∀ K:k_ Dt->Mem->Prop,K (Bi r.names m x) M->∃ i:Nat,x=.int i/\i<r.names.length/\(if decide (r.names.getD i "" = m)=true then K (some (.int i)) M else K none M):=fun m x hx K hK=>by
  obtain⟨i,Vi⟩:=V8.mp hx;obtain⟨hi,rfl⟩:=aD Vi;rw[Wd] at hK ⊢;refine⟨i,rfl,hi,?_⟩;have hK:K (if decide (r.names.getD ((i:Int)).toNat "" = m)=true then some (.int i) else none) M:=hK;rw[l_] at hK;by_cases h:decide (r.names.getD i "" = m)=true
  ·rw[w_ h] at hK ⊢;exact hK
  ·rw[n_ h] at hK ⊢;exact hK
 refine⟨⟨by omega,by omega⟩,by rw[aj];exact sz (by omega),?_⟩;rw[l_];refine bK (Bi r.names a) (fun x hx K hK=>?_) ?_
 ·obtain⟨i,rfl,hi,ht⟩:=test a x hx K hK;and_intros;exact cR hi (uF (NR e ht))
 rw[uG];left;rw[sl];refine⟨⟨by omega,by omega⟩,by rw[aj];exact sz (by omega),?_⟩;rw[l_];refine bK (Bi r.names b) (fun x hx K hK=>?_) ?_
 ·obtain⟨i,rfl,hi,ht⟩:=test b x hx K hK;and_intros;exact cR hi (uF (NS e ht))
 rw[uG];left
 cases f with
 | before a' b' =>
  cases e
  refine b7 rfl ?_;right;rw[a_,a_]
  have SX:¬ (∃ i j:Nat,i∈bw r.names a/\j∈bw r.names b/\i<j)->R (.bl false) M:=fun h=>hR false ⟨fun z=>(nomatch z),fun q=>absurd (show ∃ i j:Nat,i∈bw r.names a/\j∈bw r.names b/\i<j by
   unfold Flt.holds at q;obtain⟨i,j,h1,h2,h3,_⟩:=q;exact⟨i,j,aS.mpr h2,aS.mpr h3,h1⟩) h⟩
  have sa:=l8 (zs:=r.names) (a:=a);have sb:=l8 (zs:=r.names) (a:=b)
  cases ea:bw r.names a with
  | nil =>
   refine bG (by simp) (SX ?_);rintro⟨i,j,h1,_⟩;rw[ea] at h1;cases h1
  | cons i0 O =>
   refine bM (by simp) ?_;rcases List.eq_nil_or_concat (bw r.names b) with eb | ⟨P,j1,eb⟩
   ·rw[eb];refine bG (by simp) (SX ?_);rintro⟨i,j,_,h2,_⟩;rw[eb] at h2;cases h2
   ·rw[List.concat_eq_append] at eb;rw[eb];refine bM (by simp) ?_;refine⟨dN i0,bg (j:=0) rfl,dN j1,by rw[S_];exact jW _ _,?_⟩;refine hR _ ?_;rw[V4];unfold Flt.holds;rw[ea] at sa;rw[eb] at sb;constructor
    ·intro h;exact⟨i0,j1,by omega,aS.mp (by rw[ea];simp),aS.mp (by rw[eb];simp),WG⟩
    ·rintro⟨i,j,h1,h2,h3,_⟩;have h2:=aS.mpr h2;have h3:=aS.mpr h3;rw[ea] at h2;rw[eb] at h3
     have q1:i0<=i:=by
      rcases u_.mp h2 with rfl | h
      ·exact x_ _
      ·exact Xk ((YD.mp sa).1 i h)
     have q2:j<=j1:=by
      rcases U_.mp h3 with h | h
      ·exact Xk ((aaY.mp sb).2.2 j h j1 (by simp))
      ·rw[y_.mp h];exact x_ _
     omega
 | under a' b' =>
  cases e
  refine ay 3 (by decide +kernel) rfl ?_;left;refine cu (T:=R (.bl true) M) (fun ρ=>∃ o5 o6,ρ=[.sh (ai (.under a b)),.sh (aF r),.sh (.lst (bO r)),.sh (.lst ((bw r.names a).map dN)),.sh (.lst ((bw r.names b).map dN)),o5,o6]) (fun x=>∃ i j:Nat,x=dN i/\j∈bw r.names b/\i<j/\r.under i j) ⟨_,_,rfl⟩ ?_ ?_ ?_
  ·rintro x hx ρ N' ⟨o5,o6,rfl⟩ hy hn;obtain⟨i,hi,rfl⟩:=z_.mp hx;have Lc:=(j_.mp (aS.mp hi)).1;and_intros;right;refine cu (T:=R (.bl true) M) (fun ρ=>∃ o6,ρ=[.sh (ai (.under a b)),.sh (aF r),.sh (.lst (bO r)),.sh (.lst ((bw r.names a).map dN)),.sh (.lst ((bw r.names b).map dN)),.sh (dN i),o6]) (fun x=>∃ j:Nat,x=dN j/\j∈bw r.names b/\i<j/\r.under i j) ⟨_,rfl⟩ ?_ ?_ ?_
   ·rintro x hx ρ N3 ⟨o6,rfl⟩ Rx Bx;obtain⟨j,hj,rfl⟩:=z_.mp hx;have Ry:=(j_.mp (aS.mp hj)).1
    have go:¬ (i<j/\r.under i j)->N3 ([.sh (ai (.under a b)),.sh (aF r),.sh (.lst (bO r)),.sh (.lst ((bw r.names a).map dN)),.sh (.lst ((bw r.names b).map dN)),.sh (dN i),.sh (dN j)]) M:=fun h=>by
     refine Bx ?_ _ ⟨_,rfl⟩;rintro⟨j',e',_,h1,h2⟩;have:j=j':=by injection e' with e';omega
     subst this;exact h ⟨h1,h2⟩
    unfold dN at go ⊢;and_intros;refine sqo fun N4 jf=>?_
    and_intros
    have cont:¬ (i<j/\r.under i j)->N4 ([.sh (ai (.under a b)),.sh (aF r),.sh (.lst (bO r)),.sh (.lst ((bw r.names a).map dN)),.sh (.lst ((bw r.names b).map dN)),.sh (.int i),.sh (.int j)]) M:=fun h=>by
     subst jf;refine sqo fun N5 NT=>?_
     and_intros;refine ay 3 (by decide +kernel) rfl ?_;subst NT;exact go h
    refine b7 rfl ?_;by_cases h:(i:Int)=(j:Int)
    ·refine bG (by rw[d_ h];decide) ?_;exact cont fun z=>by omega
    ·refine bM (by rw[f_ h];decide) ?_;refine Rv r i j _ _ o Lc Ry fun c hc=>?_
     cases c with
     | true =>
      and_intros;refine sqo fun N6 Vj=>?_
      exact Rx ⟨j,rfl,hj,hc.mp rfl⟩
     | false =>
      and_intros;exact cont fun z=>nomatch (hc.mpr z)
   ·rintro⟨x,hx,j,rfl,h0,h1,h2⟩;exact hy ⟨i,j,rfl,h0,h1,h2⟩
   ·rintro gU ρ ⟨o6,rfl⟩;subst hN2;refine hn ?_ _ ⟨_,_,rfl⟩;rintro⟨i',j,e',h0,h1,h2⟩;have:i=i':=by injection e' with e';omega
    subst this;exact gU ⟨dN j,z_.mpr ⟨j,h0,rfl⟩,j,rfl,h0,h1,h2⟩
  ·rintro⟨x,hx,i,j,rfl,h0,h1,h2⟩;obtain⟨i',zH,e'⟩:=z_.mp hx;have:i'=i:=by injection e' with e';omega
   subst this;refine hR true ⟨fun _=>?_,fun _=>rfl⟩;unfold Flt.holds;exact⟨i',j,h1,aS.mp zH,aS.mp h0,h2⟩
  ·rintro gU ρ ⟨o5,o6,rfl⟩;subst hN;refine sqo fun N hN=>?_
   refine hR false ⟨fun z=>(nomatch z),fun q=>?_⟩;unfold Flt.holds at q;obtain⟨i,j,h1,h2,h3,h4⟩:=q;exact absurd ⟨dN i,z_.mpr ⟨i,aS.mpr h2,rfl⟩,i,j,rfl,aS.mpr h3,h1,h4⟩ gU
 | aE a' b' =>
  cases e
  refine ay 4 (by decide +kernel) rfl ?_;left;refine cu (T:=R (.bl true) M) (fun ρ=>∃ o5 o6,ρ=[.sh (ai (.aE a b)),.sh (aF r),.sh (.lst (bO r)),.sh (.lst ((bw r.names a).map dN)),.sh (.lst ((bw r.names b).map dN)),o5,o6]) (fun x=>∃ i j:Nat,x=dN i/\j∈bw r.names b/\i<j/\r.aE i j) ⟨_,_,rfl⟩ ?_ ?_ ?_
  ·rintro x hx ρ N' ⟨o5,o6,rfl⟩ hy hn;obtain⟨i,hi,rfl⟩:=z_.mp hx;have Lc:=(j_.mp (aS.mp hi)).1;and_intros;right;refine cu (T:=R (.bl true) M) (fun ρ=>∃ o6,ρ=[.sh (ai (.aE a b)),.sh (aF r),.sh (.lst (bO r)),.sh (.lst ((bw r.names a).map dN)),.sh (.lst ((bw r.names b).map dN)),.sh (dN i),o6]) (fun x=>∃ j:Nat,x=dN j/\j∈bw r.names b/\i<j/\r.aE i j) ⟨_,rfl⟩ ?_ ?_ ?_
   ·rintro x hx ρ N3 ⟨o6,rfl⟩ Rx Bx;obtain⟨j,hj,rfl⟩:=z_.mp hx;have Ry:=(j_.mp (aS.mp hj)).1
    have go:¬ (i<j/\r.aE i j)->N3 ([.sh (ai (.aE a b)),.sh (aF r),.sh (.lst (bO r)),.sh (.lst ((bw r.names a).map dN)),.sh (.lst ((bw r.names b).map dN)),.sh (dN i),.sh (dN j)]) M:=fun h=>by
     refine Bx ?_ _ ⟨_,rfl⟩;rintro⟨j',e',_,h1,h2⟩;have:j=j':=by injection e' with e';omega
     subst this;exact h ⟨h1,h2⟩
    unfold dN at go ⊢;and_intros;refine sqo fun N4 jf=>?_
    and_intros;refine ay 4 (by decide +kernel) rfl ?_;subst jf;refine sqo fun N4 jf=>?_
    and_intros;refine b7 rfl ?_;by_cases h:(i:Int)=(j:Int)
    ·refine bG (by rw[d_ h];decide) ?_;subst jf;exact go fun z=>by omega
    ·refine bM (by rw[f_ h];decide) ?_;refine Vh r i j _ _ o Lc Ry fun c hc=>?_
     cases c with
     | true =>
      and_intros;refine sqo fun N6 Vj=>?_
      exact Rx ⟨j,rfl,hj,hc.mp rfl⟩
     | false =>
      and_intros;subst jf;exact go fun z=>nomatch (hc.mpr z)
   ·rintro⟨x,hx,j,rfl,h0,h1,h2⟩;exact hy ⟨i,j,rfl,h0,h1,h2⟩
   ·rintro gU ρ ⟨o6,rfl⟩;subst hN2;refine hn ?_ _ ⟨_,_,rfl⟩;rintro⟨i',j,e',h0,h1,h2⟩;have:i=i':=by injection e' with e';omega
    subst this;exact gU ⟨dN j,z_.mpr ⟨j,h0,rfl⟩,j,rfl,h0,h1,h2⟩
  ·rintro⟨x,hx,i,j,rfl,h0,h1,h2⟩;obtain⟨i',zH,e'⟩:=z_.mp hx;have:i'=i:=by injection e' with e';omega
   subst this;refine hR true ⟨fun _=>?_,fun _=>rfl⟩;unfold Flt.holds;exact⟨i',j,h1,aS.mp zH,aS.mp h0,h2⟩
  ·rintro gU ρ ⟨o5,o6,rfl⟩;subst hN;refine sqo fun N hN=>?_
   refine hR false ⟨fun z=>(nomatch z),fun q=>?_⟩;unfold Flt.holds at q;obtain⟨i,j,h1,h2,h3,h4⟩:=q;exact absurd ⟨dN i,z_.mpr ⟨i,aS.mpr h2,rfl⟩,i,j,rfl,aS.mpr h3,h1,h4⟩ gU
 | _=>cases e
end
section
variable {Γ:Gm}{M:Mem}{R:Dt->Mem->Prop}
def eW (n:Nat) (p:cA):Prop:=∀ (f:Flt) (r:Rw) M R,f.Ok->r.Ok->f.dep<=n->(∀ c:Bool,(c=true↔f.holds r)->R (.bl c) M)->p [ai f,aF r] M R
noncomputable def NU:Dt->Dt | .tup (d::_)=>d | _=>.aK
theorem Bj {r:Rw}:(bO r).map NU=r.names.map .str:=by
 unfold bO;rw[R_];show (Wg r.names.length).map (fun k=>Dt.str (r.names.getD k ""))=_;rw[show (fun k=>Dt.str (r.names.getD k ""))=Dt.str ∘ fun k=>r.names.getD k "" from rfl,←R_,range_getD]
noncomputable def uH (m:Str):Dt->k_ Dt
 | .tup [.str z,x,y]=>if z=m then some (.tup [.str z,x,y]) else none
 | _=>none
theorem qU {m:Str}{r:Rw}:((bO r).filterMap (uH m)).length=r.names.count m:=by
 have h:∀ l:List Nat,((l.map (pZ r)).filterMap (uH m)).length=(l.map fun k=>r.names.getD k "").count m:=fun l=>by
  induction l with
  | nil=>rfl
  | cons k l ih =>
   rw[p_,Wh,p_,List.count_cons];have e:uH m (pZ r k)=if r.names.getD k "" = m then some (pZ r k) else none:=rfl
   rw[e];by_cases h:r.names.getD k "" = m
   ·rw[w_ h,E_,ih,w_ (by simpa using h)]
   ·rw[n_ h,ih,n_ (by simpa using h),Y2]
 have:=h (Wg r.names.length);rw[range_getD] at this;exact this
theorem eC {g:Dt->Mem->(Dt->Mem->Prop)->Prop}{P:Flt->Prop}{K:List Dt->Mem->Prop} (sg:Bool):∀ (fs:List Flt),(∀ f∈fs,∀ k:Dt->Mem->Prop,(∀ c:Bool,(c=true↔P f)->k (.bl c) M)->g (ai f) M k)->(∀ ds:List Dt,ds.length<=fs.length->(ds=[]↔¬ ∃ f∈fs,(sg=true↔P f))->K ds M) ->
  dk (fun x M K=>g x M fun d M2=>bI d fun c=>if (if sg=true then c else !c)=true then K (some x) M2 else K none M2) (fs.map ai) M K
 | [],_,h=>h [] (x_ _) (Iff.intro (fun _ q=>by obtain⟨_,q1,_⟩:=q;cases q1) fun _=>rfl)
 | f::fs,hg,h=>by
  refine hg f (by simp) _ fun c hc=>?_
  show if (if sg=true then c else !c)=true then _ else _
  by_cases e:(if sg=true then c else !c)=true
  ·refine bM e ?_;refine eC sg fs (fun f' DD=>hg f' (by simp [DD])) fun ds hl hd=>h (ai f::ds) (by simp;omega) ⟨fun z=>(nomatch z),fun z=>absurd ⟨f,by simp,?_⟩ z⟩
   rw[←hc]
   cases sg<;>cases c<;>simp_all
  ·refine bG e ?_;refine eC sg fs (fun f' DD=>hg f' (by simp [DD])) fun ds hl hd=>h ds (by simp;omega) (hd.trans ?_)
   have gU:¬ (sg=true↔P f):=by
    rw[←hc]
    cases sg<;>cases c<;>simp_all
   constructor
   ·rintro z ⟨f',h1,h2⟩;rcases u_.mp h1 with rfl | h1
    ·exact gU h2
    ·exact z ⟨f',h1,h2⟩
   ·rintro z ⟨f',h1,h2⟩;exact z ⟨f',by simp [h1],h2⟩
theorem sC {n:Nat} (JY:eV (Γ.fn 23)) (Vk:oO (Γ.fn 26)) (JA:eW n (Γ.fn 27)) {f:Flt}{r:Rw} (of:f.Ok) (o:r.Ok) (hd:f.dep<=n+1) (hR:∀ c:Bool,(c=true↔f.holds r)->R (.bl c) M):Fn Γ cK [.sh (ai f),.sh (aF r)] M R:=by
 unfold cK;have Jz:=i5 o;have sl:(bO r).length=r.names.length:=by unfold bO;rw[a_,Wc]
 have pairs:∀ a b,oN f=some (a,b)->tag f≠0->tag f≠1->tag f<5->Fn Γ cK [.sh (ai f),.sh (aF r)] M R:=fun a b e t0 t1 t5=>by
  unfold cK
  have no:∀ (t:Nat) (w:Str) (A B:Prop),NP t=w->tag f≠t->t<8->B->iW (ai f) 0 fun x=>lX x (.str w) fun c=>if c=true then A else B:=fun t w A B ew ht t8 hB=>by
   refine ay (tag f) ?_ rfl hB;rw[←ew];have Vl:=t5;revert t0 t1 ht;generalize tag f=u at Vl;intro t0 t1 ht;have hu:u=2∨u=3∨u=4:=by omega
   have Qg:t=0∨t=1∨t=2∨t=3∨t=4∨t=5∨t=6∨t=7:=by omega
   rcases hu with rfl | rfl | rfl<;>rcases Qg with rfl | rfl | rfl | rfl | rfl | rfl | rfl | rfl<;>first | exact absurd rfl ht | decide +kernel
  symm;refine no 0 _ _ _ rfl t0 (by omega) ?_;left;refine no 1 _ _ _ rfl t1 (by omega) ?_;left;refine no 5 _ _ _ rfl (by omega) (by omega) ?_;left;refine no 6 _ _ _ rfl (by omega) (by omega) ?_;left;refine no 7 _ _ _ rfl (by omega) (by omega) ?_;left;exact Vk f a b r _ _ e o hR
 cases f with
 | before a b=>exact pairs a b rfl (by simp [tag]) (by simp [tag]) (by simp [tag])
 | under a b=>exact pairs a b rfl (by simp [tag]) (by simp [tag]) (by simp [tag])
 | aE a b=>exact pairs a b rfl (by simp [tag]) (by simp [tag]) (by simp [tag])
 | has m =>
  symm;refine b7 rfl ?_;refine sqo fun N2 hN2=>?_
  unfold ai;and_intros;refine⟨_,rfl,JY r _ _ o ?_⟩;and_intros;refine⟨by rw[sl];exact sz (by omega),comp_map NU (fun x hx K hK=>?_) ?_⟩
  ·obtain⟨k,hk,rfl⟩:=z_.mp hx;exact uF hK
  ·rw[Bj];refine uh (hR _ ?_);rw[V4];unfold Flt.holds;exact abx.symm
 | many k m =>
  symm;refine ay 1 (by decide +kernel) rfl ?_;left;refine b7 rfl ?_;refine sqo fun N2 hN2=>?_
  unfold ai;and_intros;refine JY r _ _ o ?_;and_intros;refine⟨by rw[sl];exact sz (by omega),bK (uH m) (fun x hx K hK=>?_) ?_⟩
  ·obtain⟨k',hk,rfl⟩:=z_.mp hx;refine uF ⟨_,rfl,?_⟩;have hK:K (if r.names.getD k' "" = m then some (pZ r k') else none) M:=hK;show if decide (r.names.getD k' "" = m)=true then _ else _
   by_cases h:r.names.getD k' "" = m
   ·rw[w_ h] at hK;exact bM (d_ h) hK
   ·rw[n_ h] at hK;exact bG (by rw[f_ h];decide) hK
  ·and_intros;rw[qU];refine⟨_,rfl,hR _ ?_⟩;rw[V4];unfold Flt.holds;exact acp
 | not g =>
  symm;refine ay 5 (by decide +kernel) rfl ?_;left;refine ay 5 (by decide +kernel) rfl ?_;left;refine b7 rfl ?_;refine sqo fun N2 hN2=>?_
  unfold ai;and_intros;refine⟨_,rfl,JA g r _ _ of o (by unfold Flt.dep at hd;omega) fun c hc=>hR (!c) ?_⟩;unfold Flt.holds;rw[←hc]
  cases c<;>simp
 | all fs =>
  symm;refine ay 6 (by decide +kernel) rfl ?_;left;refine ay 6 (by decide +kernel) rfl ?_;left;refine ay 6 (by decide +kernel) rfl ?_;left;refine b7 rfl ?_;refine sqo fun N2 hN2=>?_
  unfold ai;rw[b0];and_intros;refine⟨_,rfl,?_⟩;and_intros;refine⟨by rw[a_];exact sz (by have:=of.1;omega),?_⟩;refine eC (P:=fun f=>f.holds r) (g:=fun x M k=>Γ.fn 27 [x,aF r] M k) false fs (fun f hf k hk=>JA f r _ _ (cO.mp of.2 f hf) o (by have:=dO f hf;unfold Flt.dep at hd;omega) hk) fun ds hl he=>?_
  and_intros;refine hR _ ?_;rw[V4];unfold Flt.holds;rw[gL,show ((ds.length:Int)=0↔ds=[]) from by rw[←YO];omega,he];constructor
  ·intro h f hf;exact ZN fun q=>h ⟨f,hf,⟨fun z=>(nomatch z),fun z=>absurd z q⟩⟩
  ·rintro h ⟨f,hf,q⟩;exact nomatch (q.mpr (h f hf))
 | any fs =>
  symm;refine ay 7 (by decide +kernel) rfl ?_;left;refine ay 7 (by decide +kernel) rfl ?_;left;refine ay 7 (by decide +kernel) rfl ?_;left;refine ay 7 (by decide +kernel) rfl ?_;left;refine b7 rfl ?_;refine sqo fun N2 hN2=>?_
  unfold ai;rw[b0];and_intros;refine⟨_,rfl,?_⟩;and_intros;refine⟨by rw[a_];exact sz (by have:=of.1;omega),?_⟩;refine eC (P:=fun f=>f.holds r) (g:=fun x M k=>Γ.fn 27 [x,aF r] M k) true fs (fun f hf k hk=>JA f r _ _ (cO.mp of.2 f hf) o (by have:=dO f hf;unfold Flt.dep at hd;omega) hk) fun ds hl he=>?_
  and_intros;refine hR _ ?_;rw[V4];unfold Flt.holds;rw[gM,show ((0:Int)<(ds.length:Int)↔¬ ds=[]) from by rw[←YO];omega,he];constructor
  ·intro h;obtain⟨f,hf,q⟩:=Classical.not_not.mp h;exact⟨f,hf,q.mp rfl⟩
  ·rintro⟨f,hf,q⟩ h;exact h ⟨f,hf,⟨fun _=>q,fun _=>rfl⟩⟩
end
section
variable {Γ:Gm}{M:Mem}{R:Dt->Mem->Prop}
theorem oP (t:Nat) {f:Flt}{w:Str}{A B:Prop} (e:¬ NP t=w) (h:tag f=t) (a:A):iW (ai f) 0 fun x=>lX x (.str w) fun c=>if (!c)=true then A else B:=qQ (by
 have e:¬ yF f=w:=by unfold yF;rw[h];exact e
 exact bM (by rw[f_ e];decide) a)
theorem DG {f:Flt}{w:Str}{A B:Prop} (e:yF f=w) (b:B):iW (ai f) 0 fun x=>lX x (.str w) fun c=>if (!c)=true then A else B:=qQ (bG (by rw[d_ e];decide) b)
theorem sD (t:Nat) {f:Flt}{w:Str}{Q:Bool->Prop} (e:¬ NP t=w) (h:tag f=t) (a:Q true):iW (ai f) 0 fun x=>lX x (.str w) fun c=>Q (!c):=qQ (by
 have e:¬ yF f=w:=by unfold yF;rw[h];exact e
 show Q (!decide (yF f=w));rw[f_ e];exact a)
theorem DH {f:Flt}{w:Str}{Q:Bool->Prop} (e:yF f=w) (a:Q false):iW (ai f) 0 fun x=>lX x (.str w) fun c=>Q (!c):=qQ (by
 show Q (!decide (yF f=w));rw[d_ e];exact a)
theorem sE {n:Nat} (Rz:iL n (Γ.fn 34)) {f:Flt} (of:f.Ok) (hd:f.dep<=n+1) (hR:R (.bl f.grows) M):Fn Γ gF [.sh (ai f)] M R:=by
 unfold gF
 have EL:∀ fs:List Flt,(f=.all fs∨f=.any fs)->(ai f=.tup [.str (yF f),.lst (fs.map ai)])->BO fs->fs.length<=100->oA fs<=n->f.grows=iI fs->∀ N0:En->Mem->Prop,ex Γ ((S.ret (.eq false (.len (.fr (.comp (.eH (.ix (.v 0) (.i 1))) 1 [] (.not (.call 34 (.cons (.v 0) .nil))) (.v 0)))) (.i 0))).seq S.skip) [.sh (ai f)] M { nx:=N0,rt:=R }:=fun fs _ ef ok hl fD hg N0=>by
  refine sqo fun N2 hN2=>?_
  rw[ef];and_intros;refine⟨_,rfl,?_⟩;and_intros;refine⟨by rw[a_];exact sz (by omega),?_⟩;refine eC (P:=fun f=>f.grows=true) (g:=fun x M k=>Γ.fn 34 [x] M k) false fs (fun f hf k hk=>Rz f _ _ (cO.mp ok f hf) (by have:=dO f hf;omega) (hk _ acp)) fun ds QI he=>?_
  and_intros
  have e:decide ((ds.length:Int)=0)=f.grows:=by
   rw[hg,jG,WK,V4,T_,show ((ds.length:Int)=0↔ds=[]) from by rw[←YO];omega,he];constructor
   ·intro h f hf
    cases q:f.grows with
    | true=>rfl
    | false=>exact absurd ⟨f,hf,by rw[q]⟩ h
   ·rintro h ⟨f,hf,q⟩;rw[h f hf] at q;exact nomatch (q.mpr rfl)
  rw[e];exact hR
 cases f with
 | has m =>
  symm;refine ay 0 (by decide +kernel) rfl ?_;refine ay 0 (by decide +kernel) rfl ?_;left;refine oP 0 (by decide +kernel) rfl (sD (Q:=fun c=>R (.bl c) M) 0 (by decide +kernel) rfl ?_);unfold Flt.grows at hR;exact hR
 | many k m =>
  symm;refine ay 1 (by decide +kernel) rfl ?_;refine ay 1 (by decide +kernel) rfl ?_;left;refine oP 1 (by decide +kernel) rfl (sD (Q:=fun c=>R (.bl c) M) 1 (by decide +kernel) rfl ?_);unfold Flt.grows at hR;exact hR
 | before a b =>
  symm;refine ay 2 (by decide +kernel) rfl ?_;refine ay 2 (by decide +kernel) rfl ?_;left;refine oP 2 (by decide +kernel) rfl (sD (Q:=fun c=>R (.bl c) M) 2 (by decide +kernel) rfl ?_);unfold Flt.grows at hR;exact hR
 | under a b =>
  symm;refine ay 3 (by decide +kernel) rfl ?_;refine ay 3 (by decide +kernel) rfl ?_;left;refine oP 3 (by decide +kernel) rfl (sD (Q:=fun c=>R (.bl c) M) 3 (by decide +kernel) rfl ?_);unfold Flt.grows at hR;exact hR
 | aE a b =>
  symm;refine ay 4 (by decide +kernel) rfl ?_;refine ay 4 (by decide +kernel) rfl ?_;left;refine DG rfl ?_;unfold Flt.grows at hR;exact hR
 | not g =>
  symm;refine ay 5 (by decide +kernel) rfl ?_;refine ay 5 (by decide +kernel) rfl ?_;left;refine oP 5 (by decide +kernel) rfl (DH (Q:=fun c=>R (.bl c) M) rfl ?_);unfold Flt.grows at hR;exact hR
 | all fs =>
  symm;refine b7 rfl ?_;refine EL fs (.inl rfl) (by unfold ai;rw[b0];rfl) of.2 of.1 (by unfold Flt.dep at hd;omega) (by unfold Flt.grows;rfl) _
 | any fs =>
  symm;refine ay 7 (by decide +kernel) rfl ?_;refine b7 rfl ?_;refine EL fs (.inr rfl) (by unfold ai;rw[b0];rfl) of.2 of.1 (by unfold Flt.dep at hd;omega) (by unfold Flt.grows;rfl) _
def xo (p:cA) (ds:List Dt) (n:Nat):Prop:=∀ M R,(∀ f:Flt,f.Ok->f.dep<=n->R (ai f) M)->p ds M R
theorem dq {w:Str}{d:Dt}{f:Flt}{Q:Dt->Prop} (e:ai f=.tup [.str w,d]) (h:Q (ai f)):([Dt.str w,d]:List Dt).length<=sizeLine/\Q (.tup [.str w,d]):=⟨sz (by simp),by rw[←e];exact h⟩
theorem eD {w:Str}{d d':Dt}{f:Flt}{Q:Dt->Prop} (e:ai f=.tup [.str w,d,d']) (h:Q (ai f)):([Dt.str w,d,d']:List Dt).length<=sizeLine/\Q (.tup [.str w,d,d']):=⟨sz (by simp),by rw[←e];exact h⟩
def uI (p:cA):Prop:=∀ (c:Int) (zs:List Str) (g:Bool),fP zs->xo p [.int c,.lst (zs.map .str),.bl g] 2
theorem qb {c:Int}{zs:List Str}{g:Bool} (hz:fP zs) (hR:∀ f:Flt,f.Ok->f.dep<=2->R (ai f) M):Fn Γ fz [.sh (.int c),.sh (.lst (zs.map .str)),.sh (.bl g),.no,.no,.no] M R:=by
 unfold fz;obtain⟨z4,OP,hz⟩:=hz
 have pick:∀ q:Int,∃ m:Str,az m=true/\pi (zs.map Dt.str) (q % ((zs.length:Nat):Int))=some (.str m):=fun q=>by
  obtain⟨n,e,hn⟩:=bc q (show (0:Int)<(zs.length:Nat) by omega);rw[e];exact⟨atS zs n,hz _ (getD_mem (by omega)),K18.dw (by omega) (by omega)⟩
 symm;rw[a_];obtain⟨a,ha,ea⟩:=pick (c / 16);refine⟨⟨by decide,by decide⟩,by omega,_,ea,?_⟩;left;rw[a_];obtain⟨b,hb,eb⟩:=pick (c / 64);refine⟨⟨by decide,by decide⟩,by omega,_,eb,?_⟩;left;refine⟨by decide,?_⟩;generalize c % 8=w;left
 have EM:N [.sh (.int c),.sh (.lst (zs.map .str)),.sh (.bl g),.sh (.str a),.sh (.str b),.sh (.int w)] M:=by
  rw[hN];refine sqo fun N hN=>?_
  have uJ:N [.sh (.int c),.sh (.lst (zs.map .str)),.sh (.bl g),.sh (.str a),.sh (.str b),.sh (.int w)] M:=by
   rw[hN];symm;refine⟨by decide,?_⟩;by_cases e0:w % 4=0
   ·refine bM (d_ e0) ?_;refine sqo fun N2 hN2=>?_
    exact dq (f:=.has a) (Q:=fun d=>R d M) (by unfold ai;rfl) (hR _ (by unfold Flt.Ok;exact ha) (by unfold Flt.dep;omega))
   refine bG (by rw[f_ e0];decide) ?_;left;refine⟨by decide,?_⟩;by_cases e1:w % 4=1
   ·refine bM (d_ e1) ?_;right;refine⟨⟨by decide,by decide⟩,by decide,?_⟩;exact eD (f:=.many (1+c / 8 % 6) a) (Q:=fun d=>R d M) (by unfold ai;rfl) (hR _ (by unfold Flt.Ok;exact ha) (by unfold Flt.dep;omega))
   refine bG (by rw[f_ e1];decide) ?_;left;refine⟨by decide,?_⟩;by_cases e2:w % 4=2
   ·refine bM (d_ e2) ?_;refine sqo fun N2 hN2=>?_
    exact eD (f:=.before a b) (Q:=fun d=>R d M) (by unfold ai;rfl) (hR _ (by unfold Flt.Ok;exact⟨ha,hb⟩) (by unfold Flt.dep;omega))
   refine bG (by rw[f_ e2];decide) ?_;subst hN;refine sqo fun N hN=>?_
   exact eD (f:=.under a b) (Q:=fun d=>R d M) (by unfold ai;rfl) (hR _ (by unfold Flt.Ok;exact⟨ha,hb⟩) (by unfold Flt.dep;omega))
  and_intros;by_cases e7:w=7
  ·refine bM (d_ e7) ?_
   cases g with
   | true=>exact uJ
   | false =>
    and_intros;right;refine⟨⟨by decide,by decide⟩,by decide,sz (by simp),?_⟩;exact dq (f:=.not (.many (1+c / 8 % 3) a)) (Q:=fun d=>R d M) (by unfold ai;unfold ai;rfl) (hR _ (by unfold Flt.Ok;unfold Flt.Ok;exact ha) (by unfold Flt.dep;unfold Flt.dep;omega))
  ·refine bG (by rw[f_ e7];decide) uJ
 by_cases e6:w=6
 ·refine bM (d_ e6) ?_
  cases g with
  | true=>exact EM
  | false =>
   and_intros;refine sqo fun N2 hN2=>?_
   exact eD (f:=.aE a b) (Q:=fun d=>R d M) (by unfold ai;rfl) (hR _ (by unfold Flt.Ok;exact⟨ha,hb⟩) (by unfold Flt.dep;omega))
 ·refine bG (by rw[f_ e6];decide) EM
end
section
variable {Γ:Gm}{M:Mem}{R:Dt->Mem->Prop}
noncomputable def NV:List Str:=["whole","fault","most","answers","questions"]
noncomputable def di (r:Rw) (f:Flt) (a b:Addr):Dt:=.obj 4 NV [bD r,bp f,.int 1000,.fD a,.fD b]
theorem BP (g:GB Γ) {f:Str} (h:SQ 4 f=true):Γ.at_ 4 f=true:=by rw[g.at_];exact h
theorem SY (g:GB Γ) {r:Rw}{f:Flt}{a b:Addr}{k:Dt->Prop} (h:k (bD r)):eK Γ "whole" (di r f a b) k:=⟨BP g (by decide +kernel),_,xi,h⟩
theorem SZ (g:GB Γ) {r:Rw}{f:Flt}{a b:Addr}{k:Dt->Prop} (h:k (bp f)):eK Γ "fault" (di r f a b) k:=⟨BP g (by decide +kernel),_,(v4 (by decide +kernel)).trans xi,h⟩
theorem Vm (g:GB Γ) {r:Rw}{f:Flt}{a b:Addr}{k:Dt->Prop} (h:k (.int 1000)):eK Γ "most" (di r f a b) k:=⟨BP g (by decide +kernel),_,(v4 (by decide +kernel)).trans ((v4 (by decide +kernel)).trans xi),h⟩
theorem RA (g:GB Γ) {r:Rw}{f:Flt}{a b:Addr}{k:Dt->Prop} (h:k (.fD a)):eK Γ "answers" (di r f a b) k:=⟨BP g (by decide +kernel),_,(v4 (by decide +kernel)).trans ((v4 (by decide +kernel)).trans ((v4 (by decide +kernel)).trans xi)),h⟩
theorem S0 (g:GB Γ) {r:Rw}{f:Flt}{a b:Addr}{k:Dt->Prop} (h:k (.fD b)):eK Γ "questions" (di r f a b) k:=⟨BP g (by decide +kernel),_,(v4 (by decide +kernel)).trans ((v4 (by decide +kernel)).trans ((v4 (by decide +kernel)).trans ((v4 (by decide +kernel)).trans xi))),h⟩
def xp (p:BN):Prop:=∀ (r:Rw) (f:Flt) M k,(∀ a b:Addr,M a=none->M b=none->a≠b->k (di r f a b) (aT (aT M a (.md [])) b (.ml [])))->p (.obj 4 [] []) [bD r,bp f,.int 1000] M k
theorem qc {f g:Str}{d e:Dt}{fs:List Str}{ds:List Dt} (h:¬ g=f):putD f d (g::fs) (e::ds)=(g::(putD f d fs ds).1,e::(putD f d fs ds).2):=by
 show (if g=f then _ else _)=_;rw[n_ h]
theorem sF (g:GB Γ) {r:Rw}{f:Flt}{k:Dt->Mem->Prop} (h:∀ a b:Addr,M a=none->M b=none->a≠b->k (di r f a b) (aT (aT M a (.md [])) b (.ml []))):In Γ gc [.ow (.obj 4 [] []),.sh (bD r),.sh (bp f),.sh (.int 1000)] M 4 k:=by
 unfold gc;symm;rw[putN];refine⟨BP g (by decide +kernel),by simp,?_⟩;left;rw[qc (by decide +kernel),putN];refine⟨BP g (by decide +kernel),by simp,?_⟩;left;rw[qc (by decide +kernel),qc (by decide +kernel),putN];refine⟨BP g (by decide +kernel),by simp,?_⟩;left;intro a ha;rw[qc (by decide +kernel),qc (by decide +kernel),qc (by decide +kernel),putN];refine⟨BP g (by decide +kernel),by simp,?_⟩;left;refine⟨sz (by simp),fun b hb=>?_⟩;rw[qc (by decide +kernel),qc (by decide +kernel),qc (by decide +kernel),qc (by decide +kernel),putN];refine⟨BP g (by decide +kernel),by simp,?_⟩;subst hN;have CD:a≠b:=fun z=>by subst z;unfold aT at hb;rw[w_ rfl] at hb;cases hb
 have Cp:M b=none:=by unfold aT at hb;rw[n_ (M_ CD)] at hb;exact hb
 exact⟨rfl,h a b ha Cp CD⟩
def sG (p:cA):Prop:=∀ (r:Rw) (f:Flt) (a b:Addr) (qs:List Dt) M R,M b=some (.ml qs)->R (.int qs.length) M->p [di r f a b] M R
theorem qd (g:GB Γ) {r:Rw}{f:Flt}{a b:Addr}{qs:List Dt} (hb:M b=some (.ml qs)) (hR:R (.int qs.length) M):Fn Γ eY [.sh (di r f a b)] M R:=by
 unfold eY;symm;refine S0 g ?_;show (match M b with | some (.ml xs)=>_ | some (.mo c fs xs)=>_ | _=>False);rw[hb];exact hR
def xq (p:cA):Prop:=∀ (r:Rw) (f:Flt) (a b:Addr) M R,R (bD r) M->p [di r f a b] M R
theorem qe (g:GB Γ) {r:Rw}{f:Flt}{a b:Addr} (hR:R (bD r) M):Fn Γ eZ [.sh (di r f a b)] M R:=by
 unfold eZ;symm;exact SY g hR
theorem qf (g:GB Γ) (h:Γ.hm=uq) {n:Nat} (p4:sy n (Γ.me 4)) {r:Rw}{f:Flt}{a b:Addr} (of:f.Ok) (hd:f.dep<=n) (hR:R (.bl f.grows) M):Fn Γ fb [.sh (di r f a b)] M R:=by
 unfold fb;symm;refine SZ g ?_;rw[iZ];exact⟨NM h _,p4 f _ _ of hd hR⟩
noncomputable def fU (zs:List Str):K_:=.tuple (zs.map .str)
noncomputable def cS:Rw->K_
 | .row zs=>.tuple [.str "row",fU zs]
 | .af ns=>.tuple [.str "forest",.tuple (i9 ns)]
 | .table w ls=>.tuple [.str "table",.int w,.tuple (ls.map fU)]
theorem toPs_strs:∀ zs:List Str,toPs (zs.map Dt.str)=some (zs.map YH)
 | []=>rfl
 | z::zs=>by
  rw[p_];unfold toPs;rw[toPs_strs zs];rfl
theorem toPs_nodes:∀ ns:List Nd,toPs (ns.map aG)=some (i9 ns)
 | []=>rfl
 | n::ns=>by
  rw[p_];unfold toPs;rw[toPs_nodes ns];rfl
theorem toPs_tups:∀ ls:List (List Str),toPs (ls.map eB)=some (ls.map fU)
 | []=>rfl
 | l::ls=>by
  rw[p_];unfold toPs;rw[toPs_tups ls]
  have e:toP (eB l)=some (fU l):=by
   show (toPs (l.map Dt.str)).map W2=_;rw[toPs_strs];rfl
  rw[e];rfl
theorem toP_form (r:Rw):toP (iH r)=some (cS r):=by
 cases r with
 | row zs =>
  have e:toP (.fE (zs.map Dt.str))=some (fU zs):=by
   show (toPs (zs.map Dt.str)).map W2=_;rw[toPs_strs];rfl
  show (toPs [.str "row",.fE (zs.map Dt.str)]).map W2=_;unfold toPs toPs toPs;rw[e];rfl
 | af ns =>
  have e:toP (.tup (ns.map aG))=some (.tuple (i9 ns)):=by
   show (toPs (ns.map aG)).map W2=_;rw[toPs_nodes];rfl
  show (toPs [.str "forest",.tup (ns.map aG)]).map W2=_;unfold toPs toPs toPs;rw[e];rfl
 | table w ls =>
  have e:toP (.tup (ls.map eB))=some (.tuple (ls.map fU)):=by
   show (toPs (ls.map eB)).map W2=_;rw[toPs_tups];rfl
  show (toPs [.str "table",.int w,.tup (ls.map eB)]).map W2=_;unfold toPs toPs toPs toPs;rw[e];rfl
end
section
variable {Γ:Gm}{M:Mem}{R:Dt->Mem->Prop}
theorem iN:∀ {zs:List Str},(∀ z∈zs,az z=true)->Q_ (zs.map YH)=true
 | [],_=>by simp [Q_]
 | z::zs,h=>by
  rw[p_];simp only[Q_,WC,t_];exact⟨fT (h z (by simp)),iN fun y hy=>h y (by simp [hy])⟩
theorem iO:∀ zs:List Str,V9 (zs.map YH)=0
 | []=>by simp [V9]
 | z::zs=>by
  rw[p_];simp only[V9,WY,iO zs];rfl
theorem qV:∀ {ls:List (List Str)},(∀ l∈ls,∀ z∈l,az z=true)->Q_ (ls.map fU)=true
 | [],_=>by simp [Q_]
 | l::ls,h=>by
  rw[p_];unfold fU;simp only[Q_,WC,t_];exact⟨iN (h l (by simp)),qV fun y hy=>h y (by simp [hy])⟩
theorem qW:∀ ls:List (List Str),V9 (ls.map fU)<=1
 | []=>by simp [V9]
 | l::ls=>by
  have:=qW ls;rw[p_];have e:(fU l).depth=1:=by unfold fU;simp only[WY,iO]
  simp only[V9,e];omega
theorem qX {r:Rw} (o:r.Ok):pw (cS r):=by
 cases r with
 | row zs =>
  refine⟨?_,?_⟩
  ·show ([YH "row",fU zs]:List K_).all (kZ 6)=true;simp only[WD,abS,Wx,t_];refine⟨rfl,?_⟩;show (zs.map YH).all (kZ 5)=true;rw[XG];exact T_.mpr fun _ _=>rfl
  ·unfold H_ cS fU;simp only[WC,Q_,WY,V9,iO,iN o.1,Wx];rw[t_];exact⟨by decide +kernel,by decide⟩
 | af ns =>
  have c:=dI fun n hn=>fT (ia o.1 n hn).1
  have d:=eP ns;refine⟨?_,?_⟩
  ·show ([YH "forest",.tuple (i9 ns)]:List K_).all (kZ 6)=true;simp only[WD,abS,Wx,t_];refine⟨rfl,?_⟩;show (i9 ns).all (kZ 5)=true;unfold i9;rw[XG];exact T_.mpr fun _ _=>rfl
  ·unfold H_ cS;simp only[WC,Q_,WY,V9,c,Wx];rw[t_];exact⟨by decide +kernel,d_ (by omega)⟩
 | table w ls =>
  have o:aX w ls:=o;have c:=qV o.NA;have d:=qW ls;refine⟨?_,?_⟩
  ·show ([YH "table",.int w,.tuple (ls.map fU)]:List K_).all (kZ 6)=true;simp only[WD,abS,Wx,t_];refine⟨rfl,rfl,?_⟩;show (ls.map fU).all (kZ 5)=true;rw[XG];refine T_.mpr fun l _=>?_
   show (l.map YH).all (kZ 4)=true;rw[XG];exact T_.mpr fun _ _=>rfl
  ·unfold H_ cS;simp only[WC,Q_,WY,V9,c,Wx];rw[t_];exact⟨by decide +kernel,d_ (by omega)⟩
theorem uK (r:Rw):∃ ps,cS r=.tuple ps:=by cases r<;>exact⟨_,rfl⟩
theorem map_inj {α β:Type}{f:α->β} (hf:∀ a b,f a=f b->a=b):∀ {xs ys:List α},xs.map f=ys.map f->xs=ys
 | [],[],_=>rfl
 | [],_::_,h=>by cases h
 | _::_,[],h=>by cases h
 | x::xs,y::ys,h=>by
  rw[p_,p_] at h;injection h with h1 h2
  rw[hf x y h1,map_inj hf h2]
theorem uL {a b:List Str} (h:fU a=fU b):a=b:=by
 unfold fU at h;injection h with h
 exact map_inj (fun x y e=>by injection e) h
theorem qY {r s:Rw} (h:cS r=cS s):r=s:=by
 cases r with
 | row a =>
  cases s with
  | row b =>
   injection h with h;injection h with h1 h2;injection h2 with h2
   rw[uL h2]
  | af b =>
   injection h with h;injection h with h1 h2;injection h1 with h1
   exact absurd h1 (by decide +kernel)
  | table w b =>
   injection h with h;injection h with h1 h2;injection h1 with h1
   exact absurd h1 (by decide +kernel)
 | af a =>
  cases s with
  | row b =>
   injection h with h;injection h with h1 h2;injection h1 with h1
   exact absurd h1 (by decide +kernel)
  | af b =>
   injection h with h;injection h with h1 h2;injection h2 with h2
   injection h2 with h2
   have:a=b:=map_inj (fun x y e=>by
    injection e with e;injection e with e1 e2;injection e1 with e1;injection e2 with e2;injection e2 with e2
    exact Prod.ext e1 e2) h2
   rw[this]
  | table w b =>
   injection h with h;injection h with h1 h2;injection h1 with h1
   exact absurd h1 (by decide +kernel)
 | table w a =>
  cases s with
  | row b =>
   injection h with h;injection h with h1 h2;injection h1 with h1
   exact absurd h1 (by decide +kernel)
  | af b =>
   injection h with h;injection h with h1 h2;injection h1 with h1
   exact absurd h1 (by decide +kernel)
  | table v b =>
   injection h with h;injection h with h1 h2;injection h2 with h2 h3;injection h2 with h2;injection h3 with h3;injection h3 with h3
   have:a=b:=map_inj (fun x y e=>uL e) h3;rw[this,show w=v by omega]
end
section
variable {Γ:Gm}{M:Mem}{R:Dt->Mem->Prop}
noncomputable def qg (f:Flt) (rs:List Rw):List (K_×Dt):=rs.map fun r=>(cS r,.bl (bP (f.holds r)))
def iP (M:Mem) (f:Flt) (a b:Addr) (rs:List Rw):Prop:=a≠b/\M a=some (.md (qg f rs))/\∃ qs,M b=some (.ml qs)/\qs.length=rs.length
theorem gP {r:Rw}{f:Flt}{a b:Addr}{k:Nat->List Str->Prop}:eL M (di r f a b) k=k 4 NV:=rfl
theorem oQ {f:Flt}{r:Rw}:∀ {rs:List Rw},r∉rs->f6 (qg f rs) (cS r)=none
 | [],_=>rfl
 | s::rs,h=>by
  show f6 ((cS s,_)::qg f rs) (cS r)=none;rw[k8,n_ fun z=>h (by rw[qY z];simp),oQ fun z=>h (by simp [z])]
theorem oR {f:Flt}{r:Rw}:∀ {rs:List Rw},r∈rs->f6 (qg f rs) (cS r)=some (.bl (bP (f.holds r)))
 | [],h=>nomatch h
 | s::rs,h=>by
  show f6 ((cS s,_)::qg f rs) (cS r)=_;rw[k8];by_cases e:cS s=cS r
  ·rw[w_ e,qY e]
  ·rw[n_ e];rcases u_.mp h with rfl | h
   ·exact absurd rfl e
   ·exact oR h
theorem oS {r:Rw} (o:r.Ok) {Q:K_->Prop} (h:Q (cS r)):yt (iH r) Q:=by
 obtain⟨ps,e⟩:=uK r;exact⟨ps,by rw[toP_form,e],by rw[←e];exact qX o,by rw[←e];exact h⟩
theorem Bl {a:Addr}{am:List (K_×Dt)}{k:Addr->List (K_×Dt)->Prop} (h:M a=some (.md am)) (q:k a am):GN M (.fD a) k:=by
 show (match M a with | some (.md am)=>k a am | _=>False);rw[h];exact q
theorem xr {a:Addr}{ds:List Dt}{k:Addr->List Dt->Prop} (h:M a=some (.ml ds)) (q:k a ds):GO M (.fD a) k:=by
 show (match M a with | some (.ml ds)=>k a ds | _=>False);rw[h];exact q
theorem b4 {a:Addr}{o:MO}:aT M a o a=some o:=by unfold aT;rw[w_ rfl]
theorem aR {a b:Addr}{o:MO} (h:b≠a):aT M a o b=M b:=by unfold aT;rw[n_ h]
def EN (n:Nat) (p:cA):Prop:=∀ (r:Rw) (f:Flt) (a b:Addr) (ps:List Int) (r':Rw) (rs:List Rw) M R,iP M f a b rs->rs.length<=900->r'∉rs->r'.Ok->f.Ok->f.dep<=n->(∀ M',iP M' f a b (rs++[r'])->(∀ x,x≠a->x≠b->M' x=M x)->R .aK M')->p [di r f a b,.lst (ps.map .int),bD r'] M R
theorem uM (g:GB Γ) (h:Γ.hm=uq) {n:Nat} (p2:sG (Γ.me 2)) (p5:kA n (Γ.me 5)) (Jn:si (Γ.me 11)) {r:Rw}{f:Flt}{a b:Addr}{ps:List Int}{r':Rw}{rs:List Rw} (st:iP M f a b rs) (h9:rs.length<=900) (hn:r'∉rs) (o:r'.Ok) (of:f.Ok) (hd:f.dep<=n) (hR:∀ M',iP M' f a b (rs++[r'])->(∀ x,x≠a->x≠b->M' x=M x)->R .aK M'):Fn Γ ip [.sh (di r f a b),.sh (.lst (ps.map .int)),.sh (bD r'),.no] M R:=by
 unfold ip;obtain⟨CD,ha,qs,hb,hq⟩:=st;symm;rw[gP];refine⟨by rw[h];rfl,p2 _ _ _ _ qs _ _ hb (Vm g ?_)⟩;and_intros;refine bG (by rw[f_ (by omega)];decide) ?_;left;refine SZ g ?_;rw[iZ];refine⟨DC h _,p5 f r' _ _ of o hd fun c hc=>?_⟩;left;refine RA g ?_;and_intros;rw[cP];refine⟨eT h (by omega) _,Jn r' _ _ (oS o (Bl ha ⟨oQ hn,?_,?_⟩))⟩
 ·unfold qg;rw[a_];exact yG (by omega)
 have e1:qg f rs++[(cS r',.bl c)]=qg f (rs++[r']):=by
  unfold qg;rw[S_,xj hc];rfl
 rw[e1];have Cp:aT M a (.md (qg f (rs++[r']))) b=some (.ml qs):=by rw[aR (M_ CD)];exact hb
 left;refine S0 g (xr Cp ⟨sz (by simp),xr Cp ⟨yG (by omega),?_⟩⟩);subst hN;refine hR _ ⟨CD,by rw[aR CD,b4],_,b4,by simp [hq]⟩ fun x h1 h2=>by rw[aR h2,aR h1]
def xt (n:Nat) (p:cA):Prop:=∀ (r:Rw) (f:Flt) (a b:Addr) (ps:List Int) (rs:List Rw) M R,iP M f a b rs->rs.length<=900->r.Ok->placesOk 0 r.many ps->f.Ok->f.dep<=n->(∀ M',(r.left ps∈rs->M'=M)->(r.left ps∉rs->iP M' f a b (rs++[r.left ps]))->(∀ x,x≠a->x≠b->M' x=M x)->R (.bl (bP (f.holds (r.left ps)))) M')->p [di r f a b,.lst (ps.map .int)] M R
theorem qh (g:GB Γ) (h:Γ.hm=uq) {n:Nat} (p1:EN n (Γ.me 1)) (ND:v8 (Γ.me 10)) (Jn:si (Γ.me 11)) {r:Rw}{f:Flt}{a b:Addr}{ps:List Int}{rs:List Rw} (st:iP M f a b rs) (h9:rs.length<=900) (o:r.Ok) (hp:placesOk 0 r.many ps) (of:f.Ok) (hd:f.dep<=n) (hR:∀ M',(r.left ps∈rs->M'=M)->(r.left ps∉rs->iP M' f a b (rs++[r.left ps]))->(∀ x,x≠a->x≠b->M' x=M x)->R (.bl (bP (f.holds (r.left ps)))) M'):Fn Γ eX [.sh (di r f a b),.sh (.lst (ps.map .int)),.no,.no] M R:=by
 unfold eX;have ol:=eR o hp;symm;refine SY g ?_;rw[cP];refine⟨eT h (by omega) _,ND r ps _ _ o hp ?_⟩;left;rw[cP];refine⟨eT h (by omega) _,Jn _ _ _ ?_⟩;left;refine RA g (oS ol (Bl st.2.1 ?_))
 have fin:∀ M' DI,iP M' f a b DI->r.left ps∈DI->(r.left ps∈rs->M'=M)->(r.left ps∉rs->iP M' f a b (rs++[r.left ps]))->(∀ x,x≠a->x≠b->M' x=M x)->N [.sh (di r f a b),.sh (.lst (ps.map .int)),.sh (bD (r.left ps)),.sh (iH (r.left ps))] M':=fun M' DI ms hm h1 h2 h3=>by
  rw[hN];right;exact RA g (oS ol (Bl ms.2.1 ⟨_,oR hm,hR M' h1 h2 h3⟩))
 by_cases hm:r.left ps∈rs
 ·rw[oR hm];refine bG (by simp) (fin M rs st hm (fun _=>rfl) (fun z=>absurd hm z) fun _ _ _=>rfl)
 ·rw[oQ hm];refine bM (by simp) ?_;right;rw[gP];refine⟨by rw[h];rfl,p1 r f a b ps _ rs _ _ st h9 hm ol of hd fun M' ms hx=>?_⟩;subst hN2;exact fin M' _ ms (by simp) (fun z=>absurd z hm) (fun _=>ms) hx
end
section
variable {Γ:Gm}{M:Mem}{R:Dt->Mem->Prop}
noncomputable def gQ (zs:List Str):K_:=.list (zs.map .str)
noncomputable def mN:Rw->K_
 | .row zs=>.tuple [.str "row",gQ zs]
 | .af ns=>.tuple [.str "forest",.list (i9 ns)]
 | .table w ls=>.tuple [.str "table",.int w,.list (ls.map gQ)]
theorem toPs_lines:∀ ls:List (List Str),toPs (ls.map aW)=some (ls.map gQ)
 | []=>rfl
 | l::ls=>by
  rw[p_];unfold toPs;rw[toPs_lines ls]
  have e:toP (aW l)=some (gQ l):=by
   show (toPs (l.map Dt.str)).map ZW=_;rw[toPs_strs];rfl
  rw[e];rfl
theorem toP_raw (r:Rw):toP (aF r)=some (mN r):=by
 cases r with
 | row zs =>
  have e:toP (.lst (zs.map Dt.str))=some (gQ zs):=by
   show (toPs (zs.map Dt.str)).map ZW=_;rw[toPs_strs];rfl
  show (toPs [.str "row",.lst (zs.map Dt.str)]).map W2=_;unfold toPs toPs toPs;rw[e];rfl
 | af ns =>
  have e:toP (.lst (ns.map aG))=some (.list (i9 ns)):=by
   show (toPs (ns.map aG)).map ZW=_;rw[toPs_nodes];rfl
  show (toPs [.str "forest",.lst (ns.map aG)]).map W2=_;unfold toPs toPs toPs;rw[e];rfl
 | table w ls =>
  have e:toP (.lst (ls.map aW))=some (.list (ls.map gQ)):=by
   show (toPs (ls.map aW)).map ZW=_;rw[toPs_lines];rfl
  show (toPs [.str "table",.int w,.lst (ls.map aW)]).map W2=_;unfold toPs toPs toPs toPs;rw[e];rfl
theorem toPs_raws:∀ rs:List Rw,toPs (rs.map aF)=some (rs.map mN)
 | []=>rfl
 | r::rs=>by rw[p_];unfold toPs;rw[toPs_raws rs,toP_raw];rfl
theorem gR {α:Type}{g:α->K_} (hg:∀ x y,O_ (g x) (g y)=true↔x=y):∀ {xs ys:List α},Yb (xs.map g) (ys.map g)=true↔xs=ys
 | [],[]=>by simp [Yb]
 | [],_::_=>by simp [Yb]
 | _::_,[]=>by simp [Yb]
 | x::xs,y::ys=>by
  rw[p_,p_,Wj,t_,hg x y,gR hg];simp
theorem kI {x y:Str}:O_ (.str x) (.str y)=true↔x=y:=by rw[ack,W8]
theorem uN {x y:List Str}:O_ (gQ x) (gQ y)=true↔x=y:=by
 unfold gQ;rw[aaD];exact gR fun _ _=>kI
theorem JB {x y:Nd}:O_ (.tuple [.str x.1,.int x.2]) (.tuple [.str y.1,.int y.2])=true↔x=y:=by
 rw[uk,V4]
theorem xu {r s:Rw}:O_ (mN r) (mN s)=true↔r=s:=by
 have no:∀ {w v:Str}{a b:List K_},w≠v->(O_ (.tuple (.str w::a)) (.tuple (.str v::b))=true↔False):=fun {w v a b} h=>by
  rw[X_,Wj,t_,kI];exact⟨fun z=>h z.1,Wi⟩
 cases r with
 | row a =>
  cases s with
  | row b =>
   show O_ (.tuple [.str "row",gQ a]) (.tuple [.str "row",gQ b])=true↔_;rw[X_,Wj,Wj,YE,Wx,t_,kI,uN];exact⟨fun z=>by rw[z.2],fun z=>⟨rfl,by injection z⟩⟩
  | af b=>exact (no (by decide +kernel)).trans ⟨Wi,fun z=>nomatch z⟩
  | table w b=>exact (no (by decide +kernel)).trans ⟨Wi,fun z=>nomatch z⟩
 | af a =>
  cases s with
  | row b=>exact (no (by decide +kernel)).trans ⟨Wi,fun z=>nomatch z⟩
  | af b =>
   show O_ (.tuple [.str "forest",.list (i9 a)]) (.tuple [.str "forest",.list (i9 b)])=true↔_;rw[X_,Wj,Wj,YE,Wx,t_,kI,aaD];unfold i9;rw[gR fun _ _=>JB];exact⟨fun z=>by rw[z.2],fun z=>⟨rfl,by injection z⟩⟩
  | table w b=>exact (no (by decide +kernel)).trans ⟨Wi,fun z=>nomatch z⟩
 | table w a =>
  cases s with
  | row b=>exact (no (by decide +kernel)).trans ⟨Wi,fun z=>nomatch z⟩
  | af b=>exact (no (by decide +kernel)).trans ⟨Wi,fun z=>nomatch z⟩
  | table v b =>
   show O_ (.tuple [.str "table",.int w,.list (a.map gQ)]) (.tuple [.str "table",.int v,.list (b.map gQ)])=true↔_;rw[X_,Wj,Wj,Wj,YE,Wx,t_,t_,kI,acl,W8,aaD,gR fun _ _=>uN];exact⟨fun z=>by rw[z.2.2,show w=v by have:=z.2.1;omega],fun z=>⟨rfl,by injection z with z1 z2;rw[z1],by injection z⟩⟩
theorem qZ:∀ {ls:List (List Str)},(∀ l∈ls,∀ z∈l,az z=true)->Q_ (ls.map gQ)=true
 | [],_=>by simp [Q_]
 | l::ls,h=>by
  rw[p_];unfold gQ;simp only[Q_,WC,t_];exact⟨iN (h l (by simp)),qZ fun y hy=>h y (by simp [hy])⟩
theorem q8:∀ ls:List (List Str),V9 (ls.map gQ)<=1
 | []=>by simp [V9]
 | l::ls=>by
  have:=q8 ls;rw[p_];have e:(gQ l).depth=1:=by unfold gQ;simp only[WY,iO]
  simp only[V9,e];omega
theorem l9 {r:Rw} (o:r.Ok):H_ (mN r)=true:=by
 cases r with
 | row zs =>
  unfold H_ mN gQ;simp only[WC,Q_,WY,V9,iO,iN o.1,Wx];rw[t_];exact⟨by decide +kernel,by decide⟩
 | af ns =>
  have c:=dI fun n hn=>fT (ia o.1 n hn).1
  have d:=eP ns;unfold H_ mN;simp only[WC,Q_,WY,V9,c,Wx];rw[t_];exact⟨by decide +kernel,d_ (by omega)⟩
 | table w ls =>
  have o:aX w ls:=o;have c:=qZ o.NA;have d:=q8 ls;unfold H_ mN;simp only[WC,Q_,WY,V9,c,Wx];rw[t_];exact⟨by decide +kernel,d_ (by omega)⟩
theorem Bm {r:Rw}{rs:List Rw} (o:r.Ok) (os:∀ s∈rs,s.Ok) {Q:Bool->Prop} (h:Q (bP (r∈rs))):vJ (aF r) (.lst (rs.map aF)) Q:=by
 refine .inr ⟨rs.map aF,mN r,rs.map mN,rfl,toP_raw r,toPs_raws rs,l9 o,fun e he=>?_,?_⟩
 ·obtain⟨s,hs,rfl⟩:=z_.mp he;exact l9 (os s hs)
 ·have e:((rs.map mN).any fun e=>O_ e (mN r))=bP (r∈rs):=by
   refine xj ?_;rw[Y0,Xr];constructor
   ·rintro⟨s,hs,q⟩;rw[←xu.mp q];exact hs
   ·exact fun hr=>⟨r,hr,xu.mpr rfl⟩
  rw[e];exact h
end
section
variable {Γ:Gm}{M:Mem}{R:Dt->Mem->Prop}
def jH (p:cA):Prop:=∀ (r:Rw) (ps:List Int) M R,r.Ok->placesOk 0 r.many ps->R (aF (r.left ps)) M->p [aF r,.lst (ps.map .int)] M R
def cg (M:Mem) (f:Flt) (a b s:Addr) (rs:List Rw):Prop:=iP M f a b rs/\M s=some (.ml (rs.map aF))/\s≠a/\s≠b/\∀ x∈rs,x.Ok
def mh (n:Nat) (p:cA):Prop:=∀ (r:Rw) (f:Flt) (a b s:Addr) (ps:List Int) (rs:List Rw) M R,cg M f a b s rs->rs.length<=900->r.Ok->placesOk 0 r.many ps->f.Ok->f.dep<=n->(∀ M' DI,cg M' f a b s DI->DI.length<=rs.length+1->(∀ x,x≠a->x≠b->x≠s->M' x=M x)->R (.bl true) M')->p [di r f a b,aF r,ai f,.lst (ps.map .int),.fD s] M R
theorem Bn {s:Addr}{ds:List Dt}{k:Dt->Prop} (h:M s=some (.ml ds)) (q:k (.lst ds)):GM M (.fD s) k:=by
 show (match M s with | some (.ml xs)=>k (.lst xs) | some (.mo c fs xs)=>k (.obj c fs xs) | _=>False);rw[h];exact q
theorem toPs_ints:∀ ps:List Int,toPs (ps.map Dt.int)=some (ps.map YB)
 | []=>rfl
 | p::ps=>by rw[p_];unfold toPs;rw[toPs_ints ps];rfl
theorem DJ {ps:List Int}{Q:Bool->Prop} (h:Q true):lX (.lst (ps.map .int)) (.lst (ps.map .int)) Q:=by
 have e:toP (.lst (ps.map Dt.int))=some (.list (ps.map YB)):=by
  show (toPs (ps.map Dt.int)).map ZW=_;rw[toPs_ints];rfl
 refine (show ∃ p q,toP (.lst (ps.map Dt.int))=some p/\toP (.lst (ps.map Dt.int))=some q/\H_ p=true/\H_ q=true/\Q (O_ p q) from ⟨_,_,e,e,shaped_ints ps,shaped_ints ps,?_⟩);rw[zL];exact h
theorem sH (h:Γ.hm=uq) {n:Nat} (p0:xt n (Γ.me 0)) (p2:sG (Γ.me 2)) (RB:jH (Γ.fn 21)) (JA:eW n (Γ.fn 27)) {r:Rw}{f:Flt}{a b s:Addr}{ps:List Int}{rs:List Rw} (st:cg M f a b s rs) (h9:rs.length<=900) (o:r.Ok) (hp:placesOk 0 r.many ps) (of:f.Ok) (hd:f.dep<=n) (hR:∀ M' DI,cg M' f a b s DI->DI.length<=rs.length+1->(∀ x,x≠a->x≠b->x≠s->M' x=M x)->R (.bl true) M'):Fn Γ gH [.sh (di r f a b),.sh (aF r),.sh (ai f),.sh (.lst (ps.map .int)),.sh (.fD s),.no,.no,.no,.no] M R:=by
 unfold gH;obtain⟨sa,hs,OR,OS,Hl⟩:=st;have ol:=eR o hp;symm;left;rw[gP];refine⟨by rw[h];rfl,p0 r f a b ps rs _ _ sa h9 o hp of hd fun M1 m1 m2 m3=>?_⟩;have Bo:M1 s=some (.ml (rs.map aF)):=by rw[m3 s OR OS];exact hs
 left;refine RB r ps _ _ o hp ?_;subst hN;refine sqo fun N hN=>?_
 have fin:∀ M2 BQ,cg M2 f a b s BQ->BQ.length<=rs.length+1->(∀ x,x≠a->x≠b->x≠s->M2 x=M x)->N [.sh (di r f a b),.sh (aF r),.sh (ai f),.sh (.lst (ps.map .int)),.sh (.fD s),.sh (.lst (ps.map .int)),.sh (.bl (bP (f.holds (r.left ps)))),.sh (aF (r.left ps)),.no] M2:=fun M2 BQ ph l2 x2=>by
  obtain⟨⟨_,_,qs,Vn,RC⟩,gT,_⟩:=id ph;rw[hN];right;refine JA f _ _ _ of ol hd fun c hc=>?_
  rw[xj hc]
  have e1:∀ (x:Bool) (Q:Bool->Prop),Q true->lX (.bl x) (.bl x) Q:=fun x Q q=>by
   show Q (decide (x=x));rw[d_ rfl];exact q
  refine e1 _ _ ?_;and_intros;refine DJ ?_;and_intros;subst hN2;right;rw[gP];refine⟨by rw[h];rfl,p2 _ _ _ _ qs _ _ Vn ?_⟩;subst hN2;right;refine Bn gT ?_;and_intros;rw[a_,RC,d_ rfl];exact hR M2 BQ ph l2 x2
 and_intros;refine Bn Bo (Bm ol Hl ?_);by_cases hm:r.left ps∈rs
 ·rw[ox.mpr hm];and_intros;have e:=m1 hm;subst e;exact fin M1 rs ⟨sa,hs,OR,OS,Hl⟩ (by omega) fun _ _ _ _=>rfl
 ·rw[show bP (r.left ps∈rs)=false from by cases q:bP (r.left ps∈rs) with | false=>rfl | true=>exact absurd (ox.mp q) hm];and_intros;right;refine xr Bo (xr Bo ⟨by rw[a_];exact yG (by omega),?_⟩);subst hN2;obtain⟨q1,q2,qs,q3,q4⟩:=m2 hm;refine fin _ (rs++[r.left ps]) ⟨⟨q1,by rw[aR (M_ OR)];exact q2,qs,by rw[aR (M_ OS)];exact q3,q4⟩,by rw[b4,S_];rfl,OR,OS,fun x hx=>?_⟩ (by simp) fun x x1 x2 x3=>by rw[aR x3];exact m3 x x1 x2
  rcases U_.mp hx with h | h
  ·exact Hl x h
  ·rw[y_.mp h];exact ol
end
section
variable {Γ:Gm}{M:Mem}{R:Dt->Mem->Prop}
def oT (p:cA):Prop:=∀ (ns:List Int) (k:Nat) (zs:List Str) (r:Rw) (g:Bool),fP zs->r.Ok->xo p [lF ns,.int k,.lst (zs.map .str),aF r,.bl g] 6
def uO (n:Nat) (p:cA):Prop:=∀ (r:Rw) (f:Flt) (a b:Addr) M R,f.Ok->f.dep<=n->R (.bl f.grows) M->p [di r f a b] M R
theorem re {r:Rw}{ps:List Int}:(r.left ps).many=ps.length:=by
 cases r with
 | row zs=>exact a_ _
 | af ns=>exact a_ _
 | table w ls =>
  show (List.map _ _).length+_=_;rw[a_];exact tJ ps
theorem cg.frame {M':Mem}{f:Flt}{a b s:Addr}{rs:List Rw} (st:cg M f a b s rs) (h:∀ x,x=a∨x=b∨x=s->M' x=M x):cg M' f a b s rs:=by
 obtain⟨⟨h1,h2,qs,h3,h4⟩,h5,h6,h7,h8⟩:=st;exact⟨⟨h1,by rw[h a (.inl rfl)];exact h2,qs,by rw[h b (.inr (.inl rfl))];exact h3,h4⟩,by rw[h s (.inr (.inr rfl))];exact h5,h6,h7,h8⟩
theorem bC {a x:Addr}{o:MO} (h:aT M a o x=none):x≠a/\M x=none:=by
 unfold aT at h;by_cases e:x=a
 ·rw[w_ e] at h;cases h
 ·rw[n_ e] at h;exact⟨e,h⟩
def apart (a b s a' b' s':Addr):Prop:=∀ x,x=a∨x=b∨x=s->x≠a'/\x≠b'/\x≠s'
theorem xw {r:Rw} (o:r.Ok) {Q:Bool->Prop} (h:Q true):lX (iH r) (iH r) Q:=by
 have k:=qX o;have e:Oz (iH r) (iH r)=none:=by cases r<;>rfl
 unfold lX;rw[e];refine⟨_,_,toP_form r,toP_form r,k.2,k.2,?_⟩;rw[wN k.1 k.1,d_ rfl];exact h
theorem NW (g:GB Γ) (hh:Γ.hm=uq) (m7:dh (Γ.fn 12)) (Rq:oH (Γ.fn 13)) (Vo:uE (Γ.fn 19)) (Vp:oT (Γ.fn 32)) (Vq:kE (Γ.fn 20)) (RD:qS (Γ.fn 33)) (RB:jH (Γ.fn 21)) (OT:Bg (Γ.fn 22)) (NQ:gN 6 (Γ.fn 28)) (Rz:iL 6 (Γ.fn 34)) (S3:mh 6 (Γ.fn 35)) (q4:xp (Γ.bA 4)) (m3:xq (Γ.me 3)) (m4:uO 6 (Γ.me 4)) (S4:v8 (Γ.me 10)) (OU:si (Γ.me 11)) {ns:List Int} (hR:∀ M',R (.bl true) M'):Fn Γ A1 [.sh (lF ns),.no,.no,.no,.no,.no,.no,.no,.no,.no,.no,.no,.no,.no,.no,.no] M R:=by
 unfold A1;symm;refine m7 _ _ _ _ (by omega) fun c0=>Rq _ _ _ fun zs z4 OP hz=>?_
 have mk:fP zs:=⟨z4,OP,hz⟩;left;refine Vo ns 15 zs mk _ _ fun r o hf=>?_
 left;refine m7 _ _ _ _ (by omega) fun c1=>?_
 and_intros;refine⟨by decide,?_⟩;generalize decide (c1 % 2=1)=gh;left;refine Vp ns 8 zs r gh mk o _ _ fun f of hd=>?_
 left;refine Vq r _ _ ?_
 have S5:r.many<=900:=by
  cases r with
  | row zs=>have:=o.2;show zs.length<=900;omega
  | af ns=>have:=o.2;show ns.length<=900;omega
  | table w ls=>have o:aX w ls:=o;have:=o.len;have:=o.BM;show ls.length+w<=900;omega
 left;refine m7 _ _ _ _ (by omega) fun c2=>?_
 and_intros;refine⟨⟨by decide,by decide⟩,RD _ _ _ _ S5 fun ps hp=>?_⟩;have ol:=eR o hp;left;refine RB r ps _ _ o hp ?_;left;refine OT r _ _ o hf (NQ f _ _ of hd (q4 r f _ _ fun a1 b1 V0 Gh NX=>?_));left;refine OT r _ _ o hf ?_;rw[cP];refine⟨eT hh (by omega) _,S4 r ps _ _ o hp (NQ f _ _ of hd (q4 (r.left ps) f _ _ fun a2 b2 RE qC NY=>?_))⟩;left;refine⟨sz (by simp),fun s1 Bo=>⟨sz (by simp),fun s2 gT=>⟨sz (by simp),?_⟩⟩⟩;obtain⟨n1,gT⟩:=bC gT;obtain⟨n2,gT⟩:=bC gT;obtain⟨n3,gT⟩:=bC gT;obtain⟨n4,gT⟩:=bC gT;obtain⟨n5,_⟩:=bC gT;obtain⟨k1,Bo⟩:=bC Bo;obtain⟨k2,Bo⟩:=bC Bo;obtain⟨k3,Bo⟩:=bC Bo;obtain⟨k4,_⟩:=bC Bo
 obtain⟨i1,RE⟩:=bC RE;obtain⟨i2,_⟩:=bC RE;obtain⟨j1,qC⟩:=bC qC;obtain⟨j2,_⟩:=bC qC
 have zZ:cg (aT (aT (aT (aT (aT (aT M a1 (MO.md [])) b1 (MO.ml [])) a2 (MO.md [])) b2 (MO.ml [])) s1 (MO.ml [])) s2 (MO.ml [])) f a1 b1 s1 []:=by
  refine⟨⟨NX,?_,[],?_,rfl⟩,?_,k4,k3,fun _ z=>nomatch z⟩
  ·rw[aR (M_ n5),aR (M_ k4),aR (M_ j2),aR (M_ i2),aR NX,b4];rfl
  ·rw[aR (M_ n4),aR (M_ k3),aR (M_ j1),aR (M_ i1),b4]
  ·rw[aR (M_ n1),b4];rfl
 have ph:cg (aT (aT (aT (aT (aT (aT M a1 (MO.md [])) b1 (MO.ml [])) a2 (MO.md [])) b2 (MO.ml [])) s1 (MO.ml [])) s2 (MO.ml [])) f a2 b2 s2 []:=by
  refine⟨⟨NY,?_,[],?_,rfl⟩,?_,n3,n2,fun _ z=>nomatch z⟩
  ·rw[aR (M_ n3),aR (M_ k2),aR NY,b4];rfl
  ·rw[aR (M_ n2),aR (M_ k1),b4]
  ·rw[b4];rfl
 have ap:apart a1 b1 s1 a2 b2 s2:=by
  rintro x (rfl | rfl | rfl)
  ·exact⟨M_ i2,M_ j2,M_ n5⟩
  ·exact⟨M_ i1,M_ j1,M_ n4⟩
  ·exact⟨k2,k1,M_ n1⟩
 have Vr:apart a2 b2 s2 a1 b1 s1:=by
  rintro x (rfl | rfl | rfl)
  ·exact⟨i2,i1,M_ k2⟩
  ·exact⟨j2,j1,M_ k1⟩
  ·exact⟨n5,n4,n1⟩
 generalize (aT (aT (aT (aT (aT (aT M a1 (MO.md [])) b1 (MO.ml [])) a2 (MO.md [])) b2 (MO.ml [])) s1 (MO.ml [])) s2 (MO.ml []))=M0 at zZ ph;left;refine m7 _ _ _ _ (by omega) fun c3=>?_
 obtain⟨k,ek,hk⟩:=bc c3 (show (0:Int)<7 by decide);and_intros;rw[ek];refine⟨by decide,⟨by omega,by omega⟩,?_⟩;refine aC (fun i ρ M'=>(∃ OV BQ,OV.length<=i/\BQ.length<=i/\cg M' f a1 b1 s1 OV/\cg M' f a2 b2 s2 BQ)/\∃ OW OX OY,ρ=[.sh (lF ns),.sh (.lst (zs.map .str)),.sh (aF r),.sh (.bl gh),.sh (ai f),.sh (.int r.many),.sh (.lst (ps.map .int)),.sh (aF (r.left ps)),.sh (di r f a1 b1),.sh (di (r.left ps) f a2 b2),.sh (.lst [.fD s1,.fD s2]),OW,OX,OY,.no,.no]) ⟨⟨[],[],x_ _,x_ _,zZ,ph⟩,_,_,_,rfl⟩ ?_ ?_
 ·rintro i x ρ M' N' hx ⟨⟨OV,BQ,l1,l2,t1,t2⟩,OW,OX,OY,rfl⟩ fF;obtain⟨hi,rfl⟩:=aD hx;rw[Wd];have hi:i<10:=by omega
  and_intros;right;refine⟨by decide,m7 _ _ _ _ (by have:=W5 (i:Int) (show (5:Int)≠0 by decide);omega) fun c4=>?_⟩;and_intros;refine⟨⟨by decide,by decide⟩,.inl ⟨by decide,by decide⟩,?_⟩;generalize c4+13*((i:Int) / 5)=cc;subst hN2;right;refine RD _ _ _ _ S5 fun qs hq=>⟨_,rfl,S3 r f a1 b1 s1 qs OV _ _ t1 (by omega) o hq of hd fun M1 NZ S6 V1 x1=>?_⟩
  and_intros;have S7:=t2.frame (M':=M1) fun x hx=>by obtain⟨y1,y2,y3⟩:=Vr x hx;exact x1 x y1 y2 y3
  subst hN2;right;rw[a_];refine⟨⟨by decide,by decide⟩,RD _ _ _ _ (by have:=re (r:=r) (ps:=ps);have:=places_len hp (by omega);omega) fun Vs RC=>?_⟩;subst hN2;right;refine⟨by decide,?_⟩;by_cases e2:cc % 2=1
  ·refine bM (d_ e2) ⟨_,rfl,S3 (r.left ps) f a2 b2 s2 Vs BQ _ _ S7 (by omega) ol (by rw[re];exact RC) of hd fun M2 RF RG V2 x2=>?_⟩;and_intros;subst hN2;refine fF _ _ ⟨⟨NZ,RF,by omega,by omega,S6.frame fun x hx=>by obtain⟨y1,y2,y3⟩:=ap x hx;exact x2 x y1 y2 y3,RG⟩,_,_,_,rfl⟩
  ·refine bG (by rw[f_ e2];decide) ?_;subst hN2;exact fF _ _ ⟨⟨NZ,BQ,by omega,by omega,S6,S7⟩,_,_,_,rfl⟩
 ·rintro ρ M' ⟨_,OW,OX,OY,rfl⟩;left;rw[gP];refine⟨by rw[hh];rfl,m3 _ _ _ _ _ _ ?_⟩;and_intros;rw[cP];refine⟨eT hh (by omega) _,OU _ _ _ (OT r _ _ o hf ?_)⟩;rw[cP];refine⟨eT hh (by omega) _,OU _ _ _ (xw o ?_)⟩;and_intros;rw[gP];refine⟨by rw[hh];rfl,m3 _ _ _ _ _ _ ?_⟩;and_intros;rw[cP];refine⟨eT hh (by omega) _,OU _ _ _ (OT r _ _ o hf ?_)⟩;rw[cP];refine⟨eT hh (by omega) _,S4 r ps _ _ o hp ?_⟩;rw[cP];refine⟨eT hh (by omega) _,OU _ _ _ (xw ol ?_)⟩;and_intros;left;refine⟨sz (by simp),?_⟩;refine aC (fun i ρ xn=>∃ RH RI,ρ=[.sh (lF ns),.sh (.lst (zs.map .str)),.sh (aF r),.sh (.bl gh),.sh (ai f),.sh (.int r.many),.sh (.lst (ps.map .int)),.sh (aF (r.left ps)),.sh (di r f a1 b1),.sh (di (r.left ps) f a2 b2),.sh (.lst [.fD s1,.fD s2]),OW,OX,OY,RH,RI]) ⟨_,_,rfl⟩ ?_ ?_
  ·rintro i x ρ xn N' hx ⟨RH,RI,rfl⟩ fF
   obtain⟨r',a,b,rfl⟩:∃ r' a b,x=di r' f a b:=by
    have:=A_ hx;simp only[u_,Wp,X9] at this;rcases this with rfl | rfl
    ·exact⟨_,_,_,rfl⟩
    ·exact⟨_,_,_,rfl⟩
   and_intros;right;rw[gP];refine⟨by rw[hh];rfl,m4 _ _ _ _ _ _ of hd ?_⟩;subst hN2;right;refine Rz f _ _ of hd ?_
   have e1:∀ (x:Bool) (Q:Bool->Prop),Q true->lX (.bl x) (.bl x) Q:=fun x Q q=>by
    show Q (decide (x=x));rw[d_ rfl];exact q
   refine e1 _ _ ?_;and_intros;subst hN2;exact fF _ _ ⟨_,_,rfl⟩
  ·rintro ρ xn ⟨RH,RI,rfl⟩;left;exact hR _
end
section
variable {Γ:Gm}{M:Mem}{R:Dt->Mem->Prop}
def xx (p:cA):Prop:=∀ (r:Rw) (c:Int),r.Ok->0<r.names.length->xo p [aF r,.lst (bO r),.int c] 1
theorem wj {r:Rw} (o:r.Ok):∀ z∈r.names,az z=true:=by
 cases r with
 | row zs=>exact o.1
 | af ns =>
  intro z hz;obtain⟨n,hn,rfl⟩:=z_.mp hz;exact (ia o.1 n hn).1
 | table w ls =>
  have o:aX w ls:=o;intro z hz;obtain⟨l,hl,hz⟩:=List.mem_flatten.mp hz;exact o.NA l hl z hz
theorem lI {r:Rw} (o:r.Ok) {i:Nat} (hi:i<r.names.length):az (r.names.getD i "")=true:=wj o _ (getD_mem hi)
theorem lJ {g:Dt->Mem->(Dt->Mem->Prop)->Prop}{K:List Dt->Mem->Prop}:∀ (is:List Nat),(∀ i∈is,∀ k:Dt->Mem->Prop,(∀ c:Bool,k (.bl c) M)->g (.int i) M k)->(∀ js:List Nat,(∀ j∈js,j∈is)->K (js.map fun j:Nat=>.int j) M) ->
  dk (fun x M K=>g x M fun d M2=>bI d fun c=>if c=true then K (some x) M2 else K none M2) (is.map fun j:Nat=>Dt.int j) M K
 | [],_,h=>h [] (fun _ z=>nomatch z)
 | i::is,hg,h=>by
  refine hg i (by simp) _ fun c=>?_
  show if c=true then _ else _
  cases c with
  | true=>exact bM rfl (lJ is (fun j hj=>hg j (by simp [hj])) fun js RJ=>h (i::js) fun j hj=>by rcases u_.mp hj with rfl | hj;simp;simp [RJ j hj])
  | false=>exact bG (by decide) (lJ is (fun j hj=>hg j (by simp [hj])) fun js RJ=>h js fun j hj=>by simp [RJ j hj])
theorem DK {n:Nat}:bJ 0 n=(Wg n).map fun j:Nat=>Dt.int j:=by
 unfold bJ;refine WF fun k _=>?_
 rw[Wd]
theorem sI (Rv:gO (Γ.fn 24)) {r:Rw}{c:Int} (o:r.Ok) (hn:0<r.names.length) (hR:∀ f:Flt,f.Ok->f.dep<=1->R (ai f) M):Fn Γ gD [.sh (aF r),.sh (.lst (bO r)),.sh (.int c),.no,.no,.no,.no] M R:=by
 unfold gD;have Jz:=i5 o;have sl:(bO r).length=r.names.length:=by unfold bO;rw[a_,Wc]
 obtain⟨i,ei,hi⟩:=bc c (show (0:Int)<(r.names.length:Nat) by omega);have hi:i<r.names.length:=by omega
 have ma:=lI o hi;symm;rw[sl,ei];refine⟨by omega,?_⟩;left;refine cR hi (uF ?_);generalize ea:r.names.getD i "" = a at ma;left;refine⟨⟨by decide,by decide⟩,by decide,?_⟩;generalize c / 40 % 4=w;left;rw[sl];refine⟨⟨by omega,by omega⟩,by rw[aj];exact sz (by omega),?_⟩;rw[l_,DK];refine lJ (g:=fun x M k=>Γ.fn 24 [aF r,.lst (bO r),.int i,x] M k) _ (fun j hj k hk=>Rv r i j _ _ o hi (Wv.mp hj) fun c _=>hk c) fun lows N1=>?_
 left
 have uJ:∀ N0,N0=(fun ρ' M'=>ex Γ ((S.ite ((C.cmp rM.gt (C.v 5) (C.i 0)).and (C.cmp rM.lt (C.bin qG.add (C.v 3) (C.i 1)) (C.v 1).len).one) ((S.ret ((C.s "before").cons ((C.v 4).cons ((((C.v 1).ix (C.bin qG.add (C.bin qG.add (C.v 3) (C.i 1)) (C.bin qG.mod (C.bin qG.fdiv (C.v 2) (C.i 160)) (C.bin qG.sub (C.bin qG.sub (C.v 1).len (C.v 3)) (C.i 1))))).ix (C.i 0)).cons C.nil))).tup).seq S.skip) S.skip).seq ((S.ret ((C.s "has").cons ((C.v 4).cons C.nil)).tup).seq S.skip)) ρ' M' { nx:=fun _ M'=>R .aK M',rt:=R })->N0 [.sh (aF r),.sh (.lst (bO r)),.sh (.int c),.sh (.int i),.sh (.str a),.sh (.int w),.sh (.lst (lows.map fun j:Nat=>Dt.int j))] M:=fun N0 e0=>by
  rw[e0];refine sqo fun N hN=>?_
  have has:N [.sh (aF r),.sh (.lst (bO r)),.sh (.int c),.sh (.int i),.sh (.str a),.sh (.int w),.sh (.lst (lows.map fun j:Nat=>Dt.int j))] M:=by
   rw[hN];refine sqo fun N2 hN2=>?_
   exact dq (f:=.has a) (Q:=fun d=>R d M) (by unfold ai;rfl) (hR _ (by unfold Flt.Ok;exact ma) (by unfold Flt.dep;omega))
  and_intros;by_cases w0:0<w
  ·refine bM (d_ w0) ?_;rw[sl];by_cases li:(i:Int)+1<(r.names.length:Nat)
   ·refine bM (d_ li) ?_;right;rw[sl];obtain⟨q,eq,hq⟩:=bc (c / 160) (show (0:Int)<((r.names.length:Nat):Int)-(i:Int)-1 by omega);rw[eq,show (i:Int)+1+(q:Int)=((i+1+q:Nat):Int) by omega];refine⟨⟨by decide,by decide⟩,by omega,cR (by omega) (uF ?_)⟩;exact eD (f:=.before a (r.names.getD (i+1+q) "")) (Q:=fun d=>R d M) (by unfold ai;rfl) (hR _ (by unfold Flt.Ok;exact⟨ma,lI o (by omega)⟩) (by unfold Flt.dep;omega))
   ·exact bG (by rw[f_ li];decide) has
  ·exact bG (by rw[f_ w0];decide) has
 by_cases w1:w=1
 ·refine bM (d_ w1) ?_;right;refine⟨⟨by decide,by decide⟩,by rw[sl];exact sz (by omega),bK (uH a) (fun x hx K hK=>?_) ?_⟩
  ·obtain⟨k',hk,rfl⟩:=z_.mp hx;refine uF ?_;have hK:K (if r.names.getD k' "" = a then some (pZ r k') else none) M:=hK;rw[show lX (.str (r.names.getD k' "")) (.str a)=fun Q=>Q (decide (r.names.getD k' "" = a)) from rfl];by_cases h:r.names.getD k' "" = a
   ·rw[w_ h] at hK;exact bM (d_ h) hK
   ·rw[n_ h] at hK;exact bG (by rw[f_ h];decide) hK
  ·rw[qU];have cp:0<r.names.count a:=abx.mpr (by rw[←ea];exact getD_mem hi);refine⟨by omega,?_⟩;exact eD (f:=.many (1+c / 160 % ((r.names.count a:Nat):Int)) a) (Q:=fun d=>R d M) (by unfold ai;rfl) (hR _ (by unfold Flt.Ok;exact ma) (by unfold Flt.dep;omega))
 refine bG (by rw[f_ w1];decide) ?_;left;by_cases w2:w=2
 ·refine bM (d_ w2) ?_;rw[a_];by_cases l0:(0:Int)<(lows.length:Nat)
  ·refine bM (d_ l0) ?_;right;rw[a_];obtain⟨q,eq,hq⟩:=bc (c / 160) l0;rw[eq];have hl:=c_ (show q<lows.length by omega);have hj:=Wv.mp (N1 _ (A_ hl));refine⟨⟨by decide,by decide⟩,l0,.int ((lows[q]'(by omega):Nat):Int),bg (by rw[g_,hl];rfl),cR hj (uF ?_)⟩;exact eD (f:=.under a (r.names.getD (lows[q]'(by omega)) "")) (Q:=fun d=>R d M) (by unfold ai;rfl) (hR _ (by unfold Flt.Ok;exact⟨ma,lI o hj⟩) (by unfold Flt.dep;omega))
  ·exact bG (by rw[f_ l0];decide) (uJ _ hN)
 ·exact bG (by rw[f_ w2];decide) (uJ _ hN)
end
section
variable {Γ:Gm}{M:Mem}{R:Dt->Mem->Prop}
theorem oU {n:Nat}:∀ {fs:List Flt},(∀ f∈fs,f.dep<=n)->oA fs<=n
 | [],_=>Xo _
 | f::fs,h=>by
  unfold oA;have:=h f (by simp);have:=oU (fs:=fs) fun g hg=>h g (by simp [hg])
  omega
def uP (n m:Nat) (fs:List Flt):Prop:=fs.length<=m/\(∀ f∈fs,f.Ok)/\∀ f∈fs,f.dep<=n
theorem lK {n m:Nat}{fs:List Flt} (h:uP n m fs) (hm:m<=100):(Flt.all fs).Ok/\(Flt.all fs).dep<=n+1:=by
 unfold Flt.Ok Flt.dep;have:=oU h.2.2;exact⟨⟨by have:=h.1;omega,cO.mpr h.2.1⟩,by omega⟩
theorem sJ {n m:Nat}{fs:List Flt} (h:uP n m fs) (hm:m<=100):(Flt.any fs).Ok/\(Flt.any fs).dep<=n+1:=by
 unfold Flt.Ok Flt.dep;have:=oU h.2.2;exact⟨⟨by have:=h.1;omega,cO.mpr h.2.1⟩,by omega⟩
theorem kJ {fs:List Flt}:ai (.all fs)=.tup [.str "all",.lst (fs.map ai)]:=by unfold ai;rw[b0]
theorem xy {fs:List Flt}:ai (.any fs)=.tup [.str "any",.lst (fs.map ai)]:=by unfold ai;rw[b0]
def jk (p:cA):Prop:=∀ (ns:List Int) (k:Nat) (zs:List Str) (g:Bool),fP zs->xo p [lF ns,.int k,.lst (zs.map .str),.bl g] 4
theorem jI (m7:dh (Γ.fn 12)) (Rs:Bd (Γ.fn 17)) (S8:uI (Γ.fn 29)) {ns:List Int}{k:Nat}{zs:List Str}{g:Bool} (hz:fP zs) (hR:∀ f:Flt,f.Ok->f.dep<=4->R (ai f) M):Fn Γ cr [.sh (lF ns),.sh (.int k),.sh (.lst (zs.map .str)),.sh (.bl g),.no,.no,.no,.no,.no,.no,.no] M R:=by
 unfold cr;symm;refine m7 _ _ _ _ (by omega) fun h=>?_
 left;refine⟨sz (by simp),?_⟩;left;refine m7 _ _ _ _ (by omega) fun c1=>Rs _ _ _ fun rest=>?_
 obtain⟨t,et,ht⟩:=bc h (show (0:Int)<3 by decide);left;rw[et];refine⟨by decide,⟨by omega,by omega⟩,?_⟩;refine aC (fun i ρ M'=>M'=M/\∃ fs:List Flt,fs.length=i/\(∀ f∈fs,f.Ok)/\(∀ f∈fs,f.dep<=3)/\∃ (rs:Int) (o7 o8 o9 DL:Sl),ρ=[.sh (lF ns),.sh (.int k),.sh (.lst (zs.map .str)),.sh (.bl g),.sh (.int h),.ow (.lst (fs.map ai)),.sh (.int rs),o7,o8,o9,DL]) ⟨rfl,[],rfl,fun _ z=>(nomatch z),fun _ z=>(nomatch z),_,_,_,_,_,rfl⟩ ?_ ?_
 ·rintro i x ρ M' N' hx ⟨rfl,fs,hl,bf,JZ,rs,o7,o8,o9,DL,rfl⟩ fF;obtain⟨hi,rfl⟩:=aD hx;rw[Wd];have hi:i<4:=by omega
  and_intros;right;refine⟨.inl ⟨by decide,by decide⟩,m7 _ _ _ _ (by omega) fun ca=>?_⟩;subst hN2;right;refine⟨.inl ⟨by decide,by decide⟩,m7 _ _ _ _ (by omega) fun cb=>?_⟩;subst hN2;refine sqo fun N2 hN2=>?_
  have tail:∀ (ca cb rs:Int),N2 [.sh (lF ns),.sh (.int k),.sh (.lst (zs.map .str)),.sh (.bl g),.sh (.int h),.ow (.lst (fs.map ai)),.sh (.int rs),.sh (.int i),.sh (.int ca),.sh (.int cb),DL] M':=fun ca cb rs=>by
   rw[hN2];refine sqo fun N3 cT=>?_
   and_intros;refine S8 ca zs g hz _ _ fun f1 k1 d1=>?_
   subst cT;refine sqo fun N3 cT=>?_
   have last:∀ f,f.Ok->f.dep<=3->N3 [.sh (lF ns),.sh (.int k),.sh (.lst (zs.map .str)),.sh (.bl g),.sh (.int h),.ow (.lst (fs.map ai)),.sh (.int rs),.sh (.int i),.sh (.int ca),.sh (.int cb),.sh (ai f)] M':=fun f fo fd=>by
    rw[cT];refine sqo fun N4 jf=>?_
    and_intros;refine⟨by rw[a_];exact yG (by omega),?_⟩;subst jf;rw[show fs.map ai++[ai f]=(fs++[f]).map ai by rw[S_];rfl];refine fF _ _ ⟨rfl,fs++[f],by simp [hl],fun x hx=>?_,fun x hx=>?_,_,_,_,_,_,rfl⟩
    ·rcases U_.mp hx with h | h
     ·exact bf x h
     ·rw[y_.mp h];exact fo
    ·rcases U_.mp hx with h | h
     ·exact JZ x h
     ·rw[y_.mp h];exact fd
   and_intros;refine⟨⟨by decide,by decide⟩,by decide,?_⟩;by_cases e:ca / 256 % 3=1
   ·refine bM (d_ e) ?_;refine sqo fun N4 jf=>?_
    and_intros;refine S8 cb zs g hz _ _ fun f2 k2 d2=>⟨sz (by simp),sz (by simp),?_⟩
    subst jf;have ak:=sJ (n:=2) (m:=2) (fs:=[f1,f2]) ⟨by simp,fun x hx=>by simp only[u_,Wp,X9] at hx;rcases hx with rfl | rfl;exact k1;exact k2,fun x hx=>by simp only[u_,Wp,X9] at hx;rcases hx with rfl | rfl;exact d1;exact d2⟩ (by omega);have:=last (.any [f1,f2]) ak.1 ak.2;rw[xy] at this;exact this
   ·exact bG (by rw[f_ e];decide) (last f1 k1 (by omega))
  and_intros;refine⟨⟨by decide,by decide⟩,by decide,?_⟩;by_cases e:h / 216 % 2=1
  ·refine bM (d_ e) ?_;refine sqo fun N3 cT=>?_
   and_intros;refine⟨by decide,?_⟩;subst cT;refine sqo fun N3 cT=>?_
   and_intros;refine⟨⟨by decide,by decide⟩,by decide,?_⟩;subst cT;refine sqo fun N3 cT=>?_
   and_intros;refine⟨⟨by decide,by decide⟩,⟨by decide,by decide⟩,?_⟩;subst cT;exact tail _ _ _
  ·exact bG (by rw[f_ e];decide) (tail _ _ _)
 ·rintro ρ M' ⟨rfl,fs,hl,bf,JZ,rs,o7,o8,o9,DL,rfl⟩;rw[aj] at hl;have Vt:1<=fs.length/\fs.length<=3:=by omega
  left;rw[a_];by_cases e:((fs.length:Nat):Int)=1
  ·refine bM (d_ e) ?_;right;have hg:=c_ (show 0<fs.length by omega);have hm:=A_ hg;exact⟨ai (fs[0]'(by omega)),bg (j:=0) (by rw[g_,hg];rfl),hR _ (bf _ hm) (by have:=JZ _ hm;omega)⟩
  ·refine bG (by rw[f_ e];decide) ?_;left;left;obtain⟨v,hv,_,ev⟩:=mV (xs:=([.str "all",.str "all",.str "any"]:List Dt)) (i:=h / 3) (m:=3) (by decide) (by decide);refine⟨sz (by simp),⟨by decide,by decide⟩,by decide,v,ev,sz (by simp),?_⟩;have ok:uP 3 3 fs:=⟨Vt.2,bf,JZ⟩;simp only[u_,Wp,X9] at hv;rcases hv with rfl | rfl | rfl
   ·have ak:=lK ok (by omega);have:=hR (.all fs) ak.1 ak.2;rw[kJ] at this;exact this
   ·have ak:=lK ok (by omega);have:=hR (.all fs) ak.1 ak.2;rw[kJ] at this;exact this
   ·have ak:=sJ ok (by omega);have:=hR (.any fs) ak.1 ak.2;rw[xy] at this;exact this
end
section
variable {Γ:Gm}{M:Mem}{R:Dt->Mem->Prop}
theorem N7 {f:Flt}:ai (.not f)=.tup [.str "not",ai f]:=by rw[ai]
theorem sK {n:Nat}{f h:Flt} (f1:f.Ok) (f2:f.dep<=n) (h1:h.Ok) (h2:h.dep<=n):uP n 2 [f,h] :=
 ⟨by simp,fun x hx=>by simp only[u_,Wp,X9] at hx;rcases hx with rfl | rfl;exact f1;exact h1,fun x hx=>by simp only[u_,Wp,X9] at hx;rcases hx with rfl | rfl;exact f2;exact h2⟩
theorem mO (m7:dh (Γ.fn 12)) (JY:eV (Γ.fn 23)) (JA:eW 4 (Γ.fn 27)) (Vu:jk (Γ.fn 30)) (S9:xx (Γ.fn 31)) {ns:List Int}{k:Nat}{zs:List Str}{r:Rw}{g:Bool} (hz:fP zs) (o:r.Ok) (hR:∀ f:Flt,f.Ok->f.dep<=6->R (ai f) M):Fn Γ dC [.sh (lF ns),.sh (.int k),.sh (.lst (zs.map .str)),.sh (aF r),.sh (.bl g),.no,.no,.no,.no,.no,.no,.no] M R:=by
 unfold dC;have Jz:=i5 o;have sl:(bO r).length=r.names.length:=by unfold bO;rw[a_,Wc]
 symm;refine m7 _ _ _ _ (by omega) fun h=>?_
 left;refine Vu ns k zs g hz _ _ fun f of fd=>?_
 left;refine JY r _ _ o ?_;left;refine⟨⟨by decide,by decide⟩,by decide,?_⟩;generalize h / 9 % 8=w;left;rw[sl];by_cases e0:((r.names.length:Nat):Int)=0
 ·refine bM (d_ e0) ?_;refine sqo fun N2 hN2=>?_
  exact hR f of (by omega)
 have hn:0<r.names.length:=by omega
 refine bG (by rw[f_ e0];decide) ?_;by_cases e7:w=7
 ·refine bM (d_ e7) ?_;refine sqo fun N2 hN2=>?_
  exact hR f of (by omega)
 refine bG (by rw[f_ e7];decide) ?_;left;refine⟨sz (by simp),?_⟩;obtain⟨t,et,ht⟩:=bc (h / 72) (show (0:Int)<5 by decide);left;rw[et];refine⟨⟨by decide,by decide⟩,by decide,⟨by omega,by omega⟩,?_⟩;refine aC (fun i ρ M'=>M'=M/\∃ fs:List Flt,uP 1 i fs/\∃ DL:Sl,ρ=[.sh (lF ns),.sh (.int k),.sh (.lst (zs.map .str)),.sh (aF r),.sh (.bl g),.sh (.int h),.sh (ai f),.sh (.lst (bO r)),.sh (.int w),.ow (.lst (fs.map ai)),DL,.no]) ⟨rfl,[],⟨by simp,fun _ z=>(nomatch z),fun _ z=>(nomatch z)⟩,_,rfl⟩ ?_ ?_
 ·rintro i x ρ M' N' hx ⟨rfl,fs,⟨hl,bf,JZ⟩,DL,rfl⟩ fF;obtain⟨hi,rfl⟩:=aD hx;rw[Wd];have hi:i<7:=by omega
  and_intros;right;refine m7 _ _ _ _ (by omega) fun ca=>?_
  and_intros;refine⟨.inl ⟨by decide,by decide⟩,S9 r _ o hn _ _ fun f' RK OL=>⟨by rw[a_];exact yG (by omega),?_⟩⟩;subst hN2;rw[show fs.map ai++[ai f']=(fs++[f']).map ai by rw[S_];rfl];refine fF _ _ ⟨rfl,fs++[f'],⟨by simp;omega,fun x hx=>?_,fun x hx=>?_⟩,_,rfl⟩
  ·rcases U_.mp hx with h | h
   ·exact bf x h
   ·rw[y_.mp h];exact RK
  ·rcases U_.mp hx with h | h
   ·exact JZ x h
   ·rw[y_.mp h];exact OL
 ·rintro ρ M' ⟨rfl,fs,JC,DL,rfl⟩;rw[aj] at JC;have JC:uP 1 10 fs:=⟨by have:=JC.1;omega,JC.2⟩;have ak:=lK JC (by omega);subst hN;refine sqo fun N hN=>?_
  have rest:N [.sh (lF ns),.sh (.int k),.sh (.lst (zs.map .str)),.sh (aF r),.sh (.bl g),.sh (.int h),.sh (ai f),.sh (.lst (bO r)),.sh (.int w),.ow (.lst (fs.map ai)),DL,.no] M':=by
   rw[hN];symm;by_cases e4:w<4
   ·refine bM (d_ e4) ?_;right;subst hN2;refine sqo fun N2 hN2=>?_
    exact dq (f:=.all fs) (Q:=fun d=>R d M') kJ (hR _ ak.1 (by have:=ak.2;omega))
   refine bG (by rw[f_ e4];decide) ?_;left;by_cases e5:w=4
   ·refine bM (d_ e5) ?_;right;subst hN2;right;refine⟨sz (by simp),sz (by simp),?_⟩;have bk:=sJ (sK (n:=4) of fd ak.1 (by have:=ak.2;omega)) (by omega);exact dq (f:=.any [f,.all fs]) (Q:=fun d=>R d M') (by rw[xy,p_,p_,WX,kJ]) (hR _ bk.1 (by have:=bk.2;omega))
   refine bG (by rw[f_ e5];decide) ?_;left;by_cases e6:w=5
   ·refine bM (d_ e6) ?_;right;subst hN2;right;refine⟨sz (by simp),sz (by simp),?_⟩;have bk:=lK (sK (n:=4) ak.1 (by have:=ak.2;omega) of fd) (by omega);exact dq (f:=.all [.all fs,f]) (Q:=fun d=>R d M') (by rw[kJ,p_,p_,WX,kJ]) (hR _ bk.1 (by have:=bk.2;omega))
   refine bG (by rw[f_ e6];decide) ?_;left;refine⟨⟨by decide,by decide⟩,by rw[aj];exact sz (by decide),?_⟩;refine iK (P:=fun d=>∃ f':Flt,d=ai f'/\f'.Ok/\f'.dep<=1) (fun x hx K hK=>?_) fun ds yH hP=>?_
   ·obtain⟨q,Vv⟩:=V8.mp hx;obtain⟨hq,rfl⟩:=aD Vv;rw[Wd];and_intros;refine m7 _ _ _ _ (by omega) fun ca=>?_
    and_intros;exact⟨.inl ⟨by decide,by decide⟩,S9 r _ o hn _ _ fun f' RK OL=>hK _ ⟨f',rfl,RK,OL⟩⟩
   ·obtain⟨gs,rfl,Vw⟩:∃ gs:List Flt,ds=gs.map ai/\uP 1 2 gs:=by
     rw[aj] at yH
     have:∀ {es:List Dt},(∀ d∈es,∃ f':Flt,d=ai f'/\f'.Ok/\f'.dep<=1)->∃ gs:List Flt,es=gs.map ai/\(∀ f'∈gs,f'.Ok)/\∀ f'∈gs,f'.dep<=1:=fun {es}=>by
      induction es with
      | nil=>exact fun _=>⟨[],rfl,fun _ z=>(nomatch z),fun _ z=>nomatch z⟩
      | cons d es ih =>
       intro hP;obtain⟨f',rfl,q1,q2⟩:=hP d (by simp);obtain⟨gs,rfl,q3,q4⟩:=ih fun e he=>hP e (by simp [he])
       refine⟨f'::gs,rfl,fun x hx=>?_,fun x hx=>?_⟩
       ·rcases u_.mp hx with rfl | hx;exact q1;exact q3 x hx
       ·rcases u_.mp hx with rfl | hx;exact q2;exact q4 x hx
     obtain⟨gs,rfl,q3,q4⟩:=this hP;rw[a_] at yH;exact⟨gs,rfl,by rw[yH];decide,q3,q4⟩
    have gk:=lK Vw (by omega);left;left;refine⟨sz (by simp),sz (by simp),sz (by simp),?_⟩;have bk:=sJ (sK (n:=2) ak.1 ak.2 gk.1 gk.2) (by omega);exact dq (f:=.any [.all fs,.all gs]) (Q:=fun d=>R d M') (by rw[xy,p_,p_,WX,kJ,kJ]) (hR _ bk.1 (by have:=bk.2;omega))
  and_intros
  cases g with
  | true=>exact rest
  | false =>
   refine bM rfl ?_;by_cases e1:w=1
   ·refine bM (d_ e1) (JA f r _ _ of o fd fun c hc=>?_)
    cases c with
    | true=>exact rest
    | false =>
     and_intros;right;refine⟨sz (by simp),sz (by simp),?_⟩;rw[ul (n:=5) (i:=5) rfl,←Ze];refine⟨by rw[a_];refine sz ?_;have:=aa8 5 fs;simp;omega,?_⟩
     have nk:uP 5 11 (fs.take 5++[.not f]):=⟨by have:=aa8 5 fs;simp;omega,fun x hx=>by
      rcases U_.mp hx with h | h
      ·exact JC.2.1 x (Wz h)
      ·rw[y_.mp h];unfold Flt.Ok;exact of,fun x hx=>by
      rcases U_.mp hx with h | h
      ·have:=JC.2.2 x (Wz h);omega
      ·rw[y_.mp h];unfold Flt.dep;omega⟩
     have bk:=lK nk (by omega);exact dq (f:=.all (fs.take 5++[.not f])) (Q:=fun d=>R d M') (by rw[kJ,S_,p_,WX,N7]) (hR _ bk.1 bk.2)
   ·exact bG (by rw[f_ e1];decide) rest
end
section
variable {Γ:Gm}{M:Mem}{R:Dt->Mem->Prop}
noncomputable def RL (zs:List Str):Dt->Dt | .int q=>.str (atS zs q) | _=>.aK
noncomputable def rf (ls:List (List Str)):Dt->k_ Dt
 | .int q=>if q<(ls.length:Int) then some (aW (ls.getD q.toNat [])) else none
 | _=>none
theorem rg {ls:List (List Str)}:∀ {ps:List Int},(ps.map Dt.int).filterMap (rf ls)=(linesOf ls.length ps).map fun q=>aW (ls.getD q.toNat [])
 | []=>rfl
 | q::ps=>by
  have ih:=rg (ls:=ls) (ps:=ps);unfold SH.linesOf at ih ⊢;rw[p_,Wh,WE,ih];by_cases h:q<(ls.length:Int)
  ·rw[show rf ls (.int q)=some (aW (ls.getD q.toNat [])) from w_ h,w_ (by simpa using h)];rfl
  ·rw[show rf ls (.int q)=none from n_ h,n_ (by simpa using h)]
noncomputable def markL (qs:List Int):Dt->Dt
 | .lst ds=>.lst (qs.map fun q=>ds.getD q.toNat .aK)
 | _=>.aK
theorem oV {qs:List Int}{l:List Str} (h:∀ j∈qs,0<=j/\j<(l.length:Int)):markL qs (aW l)=aW (qs.map (atS l)):=lC (l:=l) h
theorem iQ {r:Rw}{ps:List Int} (o:r.Ok) (hp:placesOk 0 r.many ps) (Vx:∀ ns,r≠.af ns) (hR:R (aF (r.left ps)) M):Fn Γ cy [.sh (aF r),.sh (.lst (ps.map .int)),.no,.no,.no,.no,.no,.no,.no] M R:=by
 unfold cy
 cases r with
 | af ns=>exact absurd rfl (Vx ns)
 | row zs =>
  have pa:=aO hp;have pl:((ps.length:Nat):Int)<=(zs.length:Nat)-0:=places_len hp (by omega);have o2:=o.2;symm;refine dE rfl ?_;right;refine⟨by rw[a_];exact sz (by omega),comp_map (RL zs) (fun x hx K hK=>?_) ⟨sz (by simp),?_⟩⟩
  ·obtain⟨q,hq,rfl⟩:=z_.mp hx;obtain⟨h0,h1⟩:=pa q hq;exact⟨_,rfl,_,K18.dw h0 h1,hK⟩
  ·rw[R_];show R (.tup [.str "row",.lst (ps.map fun q=>.str (atS zs q))]) M
   have e:aF ((Rw.row zs).left ps)=.tup [.str "row",.lst (ps.map fun q=>.str (atS zs q))]:=by
    show Dt.tup [.str "row",.lst ((ps.map (atS zs)).map .str)]=_;rw[R_];rfl
   rw[e] at hR;exact hR
 | table w ls =>
  have kN:placesOk 0 ((ls.length:Int)+(w:Int)) ps:=by have:=hp;rwa [show ((Rw.table w ls).many:Int)=(ls.length:Int)+(w:Int) from XD _ _] at this
  have pl:=places_len kN (by omega);have la:=ib (n:=ls.length) kN;have ca:=jp kN;have o:aX w ls:=o;have o1:=o.len;have o2:=o.BM;have l1:=eQ (n:=ls.length) kN;have l2:=fV (n:=ls.length) kN;symm;refine cQ 2 (by decide +kernel) rfl ?_;left;refine dE rfl ?_;right;refine⟨by rw[a_];exact sz (by omega),bK (ss ls.length) (fun x hx K hK=>?_) ?_⟩
  ·obtain⟨q,hq,rfl⟩:=z_.mp hx;refine⟨_,rfl,?_⟩;and_intros;rw[a_];by_cases h:(ls.length:Int)<=q
   ·refine bM (d_ h) ⟨_,rfl,?_⟩;and_intros;rw[a_];rw[show ss ls.length (.int q)=some (.int (q-ls.length)) from w_ h] at hK;exact hK
   ·refine bG (by rw[f_ h];decide) ?_;rw[show ss ls.length (.int q)=none from n_ h] at hK;exact hK
  rw[ou];subst hN2;right;refine⟨by rw[a_];exact sz (by omega),bK (rf ls) (fun x hx K hK=>?_) ?_⟩
  ·obtain⟨q,hq,rfl⟩:=z_.mp hx;have:=aO kN q hq;refine⟨_,rfl,?_⟩;and_intros;rw[a_];by_cases h:q<(ls.length:Int)
   ·refine bM (d_ h) ⟨_,rfl,aW (ls.getD q.toNat []),?_,?_⟩
    ·obtain⟨n,rfl⟩:=Ww this.1;rw[l_];refine bg ?_;rw[g_,c_ (show n<ls.length by omega),getD_some (c_ (show n<ls.length by omega))];rfl
    ·rw[show rf ls (.int q)=some (aW (ls.getD q.toNat [])) from w_ h] at hK;exact hK
   ·refine bG (by rw[f_ h];decide) ?_;rw[show rf ls (.int q)=none from n_ h] at hK;exact hK
  rw[rg];subst hN2;right;refine⟨by rw[a_];exact sz (by omega),comp_map (markL (b5 ls.length ps)) (fun x hx K hK=>?_) ⟨sz (by simp),?_⟩⟩
  ·obtain⟨q,hq,rfl⟩:=z_.mp hx;have:=la q hq;have hm:=getD_mem (xs:=ls) (i:=q.toNat) (a:=[]) (by omega);have hw:=o.jN _ hm;refine⟨by rw[a_];exact sz (by omega),comp_map (RL (ls.getD q.toNat [])) (fun y hy K' Vy=>?_) ?_⟩
   ·obtain⟨j,hj,rfl⟩:=z_.mp hy;have:=ca j hj;exact⟨_,K18.dw (zs:=ls.getD q.toNat []) (by omega) (by omega),Vy⟩
   ·rw[oV fun j hj=>by have:=ca j hj;omega] at hK
    have e:((b5 ls.length ps).map Dt.int).map (RL (ls.getD q.toNat []))=((b5 ls.length ps).map (atS (ls.getD q.toNat []))).map .str:=by
     rw[R_,R_];rfl
    rw[e];exact hK
  ·have e:((linesOf ls.length ps).map fun q=>aW (ls.getD q.toNat [])).map (markL (b5 ls.length ps))=(uf ls ps).map aW:=by
    unfold uf;rw[R_,R_];refine WF fun q hq=>oV fun j hj=>?_
    have:=la q hq;have:=ca j hj;have hw:=o.jN _ (getD_mem (xs:=ls) (i:=q.toNat) (a:=[]) (by omega));omega
   rw[e,a_];exact hR
end
section
variable {Γ:Gm}{M:Mem}{R:Dt->Mem->Prop}
theorem xA {ns:List Nd} (hd:aQ 0 ns):∀ i,i<=ns.length->(∀ t j:Nat,(way (ns.take i))[t]? = some (j:Int)->(ns.getD j ("",0)).2=(t:Int))/\∀ j:Nat,(j:Int)∈way (ns.take i)↔j<i/\∀ x,j<x->x<i->(ns.getD j ("",0)).2<(ns.getD x ("",0)).2:=by
 intro i
 induction i with
 | zero =>
  intro _;rw[W0];exact⟨fun t j h=>(nomatch h),fun j=>⟨fun h=>(nomatch h),fun h=>absurd h.1 (Nat.not_lt_zero _)⟩⟩
 | succ i ih =>
  intro hi;obtain⟨K5,Os⟩:=ih (by omega);have hn:ns[i]? = some ns[i]:=c_ (by omega);have hf:=zX hd hn;have ge:ns.getD i ("",0)=ns[i]:=by rw[B_,hn];rfl
  rw[ie hn] at hf;rw[dj hn];refine⟨fun t j h=>?_,fun j=>?_⟩
  ·rw[List.getElem?_append] at h;by_cases ht:t<((way (ns.take i)).take ns[i].2.toNat).length
   ·rw[w_ ht,abw] at h;split at h
    ·exact K5 t j h
    ·exact nomatch h
   ·rw[n_ ht] at h
    have h0:t-((way (ns.take i)).take ns[i].2.toNat).length=0:=by
     rcases YG (t-((way (ns.take i)).take ns[i].2.toNat).length) with h1 | h1
     ·exact h1
     ·rw[Wu (by rw[Wf];omega)] at h;exact nomatch h
    rw[h0] at h;have ej:(i:Int)=(j:Int):=by simpa using h
    have:j=i:=by omega
    subst this;rw[ge];omega
  ·rw[U_,y_];constructor
   ·rintro (h | h)
    ·obtain⟨t,ht,e⟩:=Xc.mp h
     have e1:(way (ns.take i))[t]? = some (j:Int):=by
      rw[abT] at e;rw[V6] at ht;rw[c_ (by omega),e]
     have d1:=K5 t j e1;obtain⟨h1,h2⟩:=(Os j).mp (Wz h);refine⟨by omega,fun x hx V3=>?_⟩;rcases WS x i with OM | OM
     ·exact h2 x hx OM
     ·have:x=i:=by omega
      subst this;rw[ge,d1];rw[V6] at ht;omega
    ·have:j=i:=by omega
     subst this;exact⟨by omega,fun x h1 h2=>by omega⟩
   ·rintro⟨h1,h2⟩;rcases WS j i with hj | hj
    ·refine .inl ?_;have hm:=(Os j).mpr ⟨hj,fun x a b=>h2 x a (by omega)⟩;obtain⟨t,ht,e⟩:=Xc.mp hm;have e1:(way (ns.take i))[t]? = some (j:Int):=by rw[c_ ht,e]
     have d1:=K5 t j e1;have d2:=h2 i hj (by omega);rw[ge,d1] at d2;refine Xc.mpr ⟨t,by rw[V6];omega,?_⟩;rw[abT];exact e
    ·refine .inr ?_;have:j=i:=by omega
     rw[this]
theorem DM {ns:List Nd} (hd:aQ 0 ns) {k:Nat} (hk:k<ns.length) (j:Nat):(j:Int)∈pv ns k↔j<k/\∀ x,j<x->x<=k->(ns.getD j ("",0)).2<(ns.getD x ("",0)).2:=by
 have hn:ns[k]? = some ns[k]:=c_ hk;have h1:=(xA hd (k+1) (by omega)).2 j;rw[dj hn,U_,y_,←ie hn] at h1;constructor
 ·intro h;have hj:=(((xA hd k (Xk hk)).2 j).mp (Wz (by rw[ie hn] at h;exact h))).1;exact⟨hj,fun x a b=>(h1.mp (.inl h)).2 x a (by omega)⟩
 ·rintro⟨a,b⟩;rcases h1.mpr ⟨by omega,fun x c d=>b x c (by omega)⟩ with h | h
  ·exact h
  ·omega
theorem wk {ns:List Nd}:∀ i,i<=ns.length->(way (ns.take i)).Pairwise (·<·):=by
 intro i
 induction i with
 | zero=>intro _;rw[W0];exact ZU
 | succ i ih =>
  intro hi;rw[dj (c_ (by omega:i<ns.length)),aaY];refine⟨(ih (by omega)).sublist (ZS _ _),List.pairwise_singleton _ _,fun x hx y hy=>?_⟩;rw[y_.mp hy];exact (wI i (by omega) x (Wz hx)).2
theorem wm {ns:List Nd}{k:Nat} (hk:k<ns.length):(pv ns k).Pairwise (·<·):=by
 rw[ie (c_ hk)];exact (wk k (by omega)).sublist (ZS _ _)
theorem uQ {P:Int->Bool}{j:Int}:∀ {l:List Int},l.Pairwise (·<·)->(l.filter fun q=>P q&&decide (j<=q)).length=(l.filter fun q=>P q&&decide (j+1<=q)).length+(if j∈l/\P j=true then 1 else 0)
 | [],_=>by simp
 | x::l,h=>by
  obtain⟨h1,h2⟩:=YD.mp h;have ih:=uQ (P:=P) (j:=j) h2;rw[WE,WE];rcases Int.lt_trichotomy x j with hx | hx | hx
  ·rw[n_ (by rw[f_ (by omega)];simp),n_ (by rw[f_ (by omega)];simp),ih];congr 1;by_cases e:j∈l/\P j=true
   ·rw[w_ e,w_ ⟨by simp [e.1],e.2⟩]
   ·rw[n_ e,n_ fun z=>e ⟨by rcases u_.mp z.1 with q | q;omega;exact q,z.2⟩]
  ·subst hx;have nm:x∉l:=fun z=>by have:=h1 x z;omega
   have f1:(P x&&decide (x<=x))=P x:=by simp
   have f2:(P x&&decide (x+1<=x))=false:=by rw[f_ (by omega)];simp
   have g1:(if x∈l/\P x=true then 1 else 0)=0:=n_ fun z=>nm z.1
   rw[g1] at ih;rw[f1,f2,n_ q_]
   cases e:P x with
   | true =>
    have g2:(if x∈x::l/\true=true then 1 else 0)=1:=w_ ⟨by simp,rfl⟩;rw[g2,w_ rfl,E_,ih]
   | false =>
    have g2:(if x∈x::l/\false=true then 1 else 0)=0:=n_ fun z=>nomatch z.2
    rw[g2,n_ q_,ih]
  ·have f1:(P x&&decide (j<=x))=P x:=by rw[d_ (by omega)];simp
   have f2:(P x&&decide (j+1<=x))=P x:=by rw[d_ (by omega)];simp
   have nm:j∉x::l:=fun z=>by rcases u_.mp z with q | q;omega;have:=h1 j q;omega
   have g1:(if j∈l/\P j=true then 1 else 0)=0:=n_ fun z=>nm (by simp [z.1])
   have g2:(if j∈x::l/\P j=true then 1 else 0)=0:=n_ fun z=>nm z.1
   rw[g1] at ih;rw[f1,f2,g2]
   cases e:P x with
   | true=>rw[w_ rfl,w_ rfl,E_,E_,ih]
   | false=>rw[n_ q_,n_ q_,ih]
theorem Bp {x:Int}{zs:List Int}{Q:Bool->Prop} (h:Q (decide (x∈zs))):vJ (.int x) (.lst (zs.map .int)) Q:=by
 refine .inl ⟨zs.map .int,rfl,rfl,by rw[XG];exact T_.mpr fun _ _=>rfl,?_⟩;rw[Y0]
 have e:(zs.any ((fun z=>JS z (.int x)) ∘ Dt.int))=decide (x∈zs):=by
  rw[WK,Xr,V4];constructor
  ·rintro⟨z,h1,h2⟩;have h2:(z==x)=true:=h2;rw[←W8.mp h2];exact h1
  ·intro h1;exact⟨x,h1,show (x==x)=true from Xt x⟩
 rw[e];exact h
theorem qi {ns:List Nd}{ps:List Int} (o:(Rw.af ns).Ok) (hp:placesOk 0 (Rw.af ns).many ps) (hR:R (aF ((Rw.af ns).left ps)) M):Fn Γ cy [.sh (aF (.af ns)),.sh (.lst (ps.map .int)),.no,.no,.no,.no,.no,.no,.no] M R:=by
 unfold cy;have hp:placesOk 0 (ns.length:Nat) ps:=hp;have pa:=aO hp;have pl:=places_len hp (by omega);have ED:ns.length<=40:=o.2;symm;refine cQ 1 (by decide +kernel) rfl ?_;left;refine cQ 1 (by decide +kernel) rfl ?_;left;refine⟨sz (by simp),?_⟩;left;refine aC (fun i ρ M'=>M'=M/\∃ o5 o6 o7 o8,ρ=[.sh (aF (.af ns)),.sh (.lst (ps.map .int)),.no,.no,.ow (.lst (((ps.take i).map (dZ ns ps)).map aG)),o5,o6,o7,o8]) ⟨rfl,_,_,_,_,rfl⟩ ?_ ?_
 ·rintro i x ρ M' N' hx ⟨rfl,o5,o6,o7,o8,rfl⟩ fF;rw[g_] at hx;obtain⟨p,Ta,rfl⟩:=m_.mp hx;have pm:=A_ Ta;obtain⟨p0,p1⟩:=pa p pm;obtain⟨m,rfl⟩:=Ww p0;have hm:m<ns.length:=by omega
  have wf:∀ {q:Nat},q<ns.length->∀ {k:Dt->Prop},k (aG (ns.getD q ("",0)))->iW (.lst (ns.map aG)) q k:=fun {q} hq {k} h=>⟨_,bg (by rw[g_,c_ hq,getD_some (c_ hq)];rfl),h⟩
  and_intros;right;refine⟨_,rfl,wf hm (ug ?_)⟩;subst hN2;right;subst hN2;right;refine⟨by omega,by omega,?_⟩;rw[l_];have dep:∀ q,(ns.getD q ("",0)).2=(ns.getD q ("",0)).2:=fun _=>rfl
  refine aC (fun t ρ xn=>xn=M'/\t<=m/\∃ (D:Int) (o8:Sl),(∀ x,m-t<=x->x<=m->D<=(ns.getD x ("",0)).2)/\(∃ x,m-t<=x/\x<=m/\(ns.getD x ("",0)).2=D)/\ρ=[.sh (aF (.af ns)),.sh (.lst (ps.map .int)),.no,.no,.ow (.lst (((ps.take i).map (dZ ns ps)).map aG)),.sh (.int m),.sh (.int D),.sh (.int (((pv ns m).filter fun q=>decide (q∈ps)&&decide (((m-t:Nat):Int)<=q)).length:Nat)),o8]) ⟨rfl,Xo _,(ns.getD m ("",0)).2,o8,?_,⟨m,by omega,x_ _,rfl⟩,?_⟩ ?_ ?_
  ·intro x h1 h2;have:x=m:=by omega
   subst this;exact Int.le_refl _
  ·have e:(pv ns m).filter (fun q=>decide (q∈ps)&&decide (((m-0:Nat):Int)<=q))=[]:=by
    rw[X4];intro q hq;have:=wK (Xk hm) q hq;rw[f_ (show ¬ ((m-0:Nat):Int)<=q by omega)];simp
   rw[e];rfl
  ·rintro t x ρ xn N3 i8 ⟨rfl,ht,D,o8,d1,⟨y,y1,y2,y3⟩,rfl⟩ cT;have Vz:t<m:=by have:=(j_.mp i8).1;rwa [Zr,aj] at this
   have ex:x=.int ((m-t-1:Nat):Int):=by
    rw[aaI (by rw[aj];exact Vz),aj] at i8;obtain⟨_,e⟩:=aD i8;rw[e,Wd,show m-1-t=m-t-1 by omega]
   subst ex;generalize hj:m-t-1=j at *;have Tc:j<ns.length:=by omega
   have N8:(j:Int)∈pv ns m↔(ns.getD j ("",0)).2<D:=by
    rw[DM o.1 hm];constructor
    ·rintro⟨_,q⟩;rw[←y3];exact q y (by omega) y2
    ·intro q;exact⟨by omega,fun x x1 x2=>by have:=d1 x (by omega) x2;omega⟩
   have st:=uQ (P:=fun q=>decide (q∈ps)) (j:=(j:Int)) (wm hm);rw[show (j:Int)+1=((m-t:Nat):Int) by omega] at st;and_intros;refine sqo fun N4 jf=>?_
   and_intros;refine⟨_,rfl,wf Tc (ug ?_)⟩;and_intros;have e1:m-(t+1)=j:=by omega
   by_cases lt:(ns.getD j ("",0)).2<D
   ·refine bM (d_ lt) ?_;refine sqo fun N5 NT=>?_
    and_intros;refine⟨_,rfl,wf Tc (ug ?_)⟩;subst NT;refine sqo fun N5 NT=>?_
    and_intros;refine Bp ?_;and_intros;subst NT;subst jf;refine cT _ _ ⟨rfl,by omega,_,.sh (.int j),fun x x1 x2=>?_,⟨j,by omega,by omega,rfl⟩,?_⟩
    ·rcases WS j x with q | q
     ·have:=d1 x (by omega) x2;omega
     ·have:x=j:=by omega
      subst this;exact Int.le_refl _
    ·rw[st];have q:=N8.mpr lt;by_cases hk:(j:Int)∈ps
     ·rw[w_ (d_ hk),w_ ⟨q,d_ hk⟩];rfl
     ·rw[n_ (by rw[f_ hk];decide),n_ fun z=>by rw[f_ hk] at z;exact nomatch z.2];simp
   ·refine bG (by rw[f_ lt];decide) ?_;subst jf;refine cT _ _ ⟨rfl,by omega,D,.sh (.int j),fun x x1 x2=>?_,⟨y,by omega,y2,y3⟩,?_⟩
    ·rcases WS j x with q | q
     ·exact d1 x (by omega) x2
     ·have:x=j:=by omega
      subst this;omega
    ·rw[st,n_ fun z=>lt (N8.mp z.1),Y2]
  ·rintro ρ xn ⟨rfl,_,D,o8,_,_,rfl⟩;rw[Zr,aj];subst hN2;refine sqo fun N4 jf=>?_
   and_intros;refine⟨_,rfl,wf hm (DB ⟨sz (by simp),by rw[a_,a_,V6];exact yG (by omega),?_⟩)⟩;subst jf
   have e2:(pv ns m).filter (fun q=>decide (q∈ps)&&decide (((m-m:Nat):Int)<=q))=kept ps (pv ns m):=by
    unfold kept;refine List.filter_congr fun q hq=>?_
    have:=wK (Xk hm) q hq;rw[d_ (show ((m-m:Nat):Int)<=q by omega),Wx]
   rw[e2]
   have e3:((ps.take i).map (dZ ns ps)).map aG++[.tup [.str (ns.getD m ("",0)).1,.int ((kept ps (pv ns m)).length:Nat)]]=((ps.take (i+1)).map (dZ ns ps)).map aG:=by
    rw[ez Ta,S_,S_];rfl
   rw[e3];exact fF _ _ ⟨rfl,_,_,_,_,rfl⟩
 ·rintro ρ M' ⟨rfl,o5,o6,o7,o8,rfl⟩;rw[a_,XS];left;left;exact⟨sz (by simp),hR⟩
theorem uR {r:Rw}{ps:List Int} (o:r.Ok) (hp:placesOk 0 r.many ps) (hR:R (aF (r.left ps)) M):Fn Γ cy [.sh (aF r),.sh (.lst (ps.map .int)),.no,.no,.no,.no,.no,.no,.no] M R:=by
 cases r with
 | af ns=>exact qi o hp hR
 | row zs=>exact iQ o hp (fun _ z=>nomatch z) hR
 | table w ls=>exact iQ o hp (fun _ z=>nomatch z) hR
end
theorem up1 {n:Nat} (h:1<=n):∃ m,n=m+1:=⟨n-1,by omega⟩
theorem yJ {n:Nat} (h:2<=n):∃ m,n=m+2:=⟨n-2,by omega⟩
theorem gb {n:Nat}:GB (Pr.Γ n):=⟨Pg.Nv n,Pg.Jd n⟩
theorem kK {n m c:Nat}{fs:List Str} (h:Pr.hm m c fs=true):(Pr.Γ n).hm m c fs=true:=by rw[Pg.im];exact h
theorem rh {n k:Nat}{d:Dt} (h:Pr.cs k=d):(Pr.Γ n).cs k=d:=by rw[Pg.Jd];exact h
theorem kL (f:Flt):0<f.dep:=by cases f<;>(unfold Flt.dep;omega)
theorem oW {n:Nat} (h:1<=n):jD ((Pr.Γ n).fn 0):=by
 obtain⟨j,rfl⟩:=up1 (n:=n) (by omega);exact fun i M R h1=>⟨_,rfl,rfl,v0 h1⟩
theorem ri {n:Nat} (h:1<=n):lv ((Pr.Γ n).fn 1):=by
 obtain⟨j,rfl⟩:=up1 (n:=n) (by omega);exact fun z M R h1 h2=>⟨_,rfl,rfl,yD (rh (by kernel_rfl)) (rh (by kernel_rfl)) h1 h2⟩
theorem gS {n:Nat} (h:1<=n):dM ((Pr.Γ n).fn 2):=by
 obtain⟨j,rfl⟩:=up1 (n:=n) (by omega);exact fun ds m M R h1 h2=>⟨_,rfl,rfl,r6 h1 h2⟩
theorem jl {n:Nat} (h:2<=n):fB ((Pr.Γ n).fn 3):=by
 obtain⟨j,rfl⟩:=up1 (n:=n) (by omega);exact fun zs m M R h1 h2 h3=>⟨_,rfl,rfl,pL (ri (by omega)) (gS (by omega)) h1 h2 h3⟩
theorem sL {n:Nat} (h:2<=n):ki ((Pr.Γ n).fn 4):=by
 obtain⟨j,rfl⟩:=up1 (n:=n) (by omega);exact fun n d M R h1 h2 h3 h4=>⟨_,rfl,rfl,r9 (oW (by omega)) (ri (by omega)) h1 h2 h3 h4⟩
theorem qj {n:Nat} (h:3<=n):jh ((Pr.Γ n).fn 5):=by
 obtain⟨j,rfl⟩:=up1 (n:=n) (by omega);exact fun ns M R h1 h2 h3=>⟨_,rfl,rfl,pM (gS (by omega)) (sL (by omega)) (rh (by kernel_rfl)) (rh (by kernel_rfl)) h1 h2 h3⟩
theorem qk {n:Nat} (h:3<=n):ji ((Pr.Γ n).fn 6):=by
 obtain⟨j,rfl⟩:=up1 (n:=n) (by omega);exact fun w ls M R h1 h2=>⟨_,rfl,rfl,pN (gS (by omega)) (jl (by omega)) (rh (by kernel_rfl)) (rh (by kernel_rfl)) h1 h2⟩
theorem eE {n:Nat} (h:2<=n):cN ((Pr.Γ n).fn 7):=by
 obtain⟨j,rfl⟩:=up1 (n:=n) (by omega);exact fun ps m M R h1 h2=>⟨_,rfl,rfl,n0 (oW (by omega)) h1 h2⟩
theorem jJ {n:Nat} (h:1<=n):gJ ((Pr.Γ n).fn 8):=by
 obtain⟨j,rfl⟩:=up1 (n:=n) (by omega);exact fun t zs ps M R h1 h2 h3 h4=>⟨_,rfl,rfl,v3 h1 h2 h3 h4⟩
theorem mj {n:Nat} (h:1<=n):iE ((Pr.Γ n).fn 9):=by
 obtain⟨j,rfl⟩:=up1 (n:=n) (by omega);exact fun zs m M R h1 h2=>⟨_,rfl,rfl,uc h1 h2⟩
theorem iR {n:Nat} (h:1<=n):eA ((Pr.Γ n).fn 10):=by
 obtain⟨j,rfl⟩:=up1 (n:=n) (by omega);exact fun t zs a b M R h1 h2=>⟨_,rfl,rfl,n9 h1 h2⟩
theorem dr {n:Nat} (h:1<=n):bZ ((Pr.Γ n).fn 11):=by
 obtain⟨j,rfl⟩:=up1 (n:=n) (by omega);exact fun t zs a b M R h1 h2 h3=>⟨_,rfl,rfl,iF h1 h2 h3⟩
theorem sM {n:Nat} (h:2<=n):m8 ((Pr.Γ n).bA 16):=by
 obtain⟨j,rfl⟩:=yJ (n:=n) (by omega);exact fun c zs M k h1 h2=>⟨_,_,_,_,_,rfl,rfl,rfl,rfl,sn gb h1 h2⟩
theorem EO {n:Nat} (h:4<=n):A6 ((Pr.Γ n).bA 17):=by
 obtain⟨j,rfl⟩:=yJ (n:=n) (by omega);exact fun zs M k h1 h2=>⟨_,_,_,_,_,rfl,rfl,rfl,rfl,v7 gb (jl (by omega)) (sM (by omega)) h1 h2⟩
theorem uS {n:Nat} (h:5<=n):oq ((Pr.Γ n).bA 18):=by
 obtain⟨j,rfl⟩:=yJ (n:=n) (by omega);exact fun ns M k h1 h2=>⟨_,_,_,_,_,rfl,rfl,rfl,rfl,pS gb (qj (by omega)) (sM (by omega)) h1 h2⟩
theorem xB {n:Nat} (h:5<=n):so ((Pr.Γ n).bA 19):=by
 obtain⟨j,rfl⟩:=yJ (n:=n) (by omega);exact fun w ls M k h1 h2=>⟨_,_,_,_,_,rfl,rfl,rfl,rfl,sr gb (qk (by omega)) (sM (by omega)) h1 h2⟩
theorem oX {n:Nat} (h:1<=n):lx ((Pr.Γ n).me 9):=by
 obtain⟨j,rfl⟩:=up1 (n:=n) (by omega);intro r M R h1
 cases r with
 | row zs=>exact⟨_,_,_,_,_,rfl,⟨rfl,rfl⟩,rfl,rfl,v5 gb h1⟩
 | af ns=>exact⟨_,_,_,_,_,rfl,⟨rfl,rfl⟩,rfl,rfl,pO gb h1⟩
 | table w ls=>exact⟨_,_,_,_,_,rfl,⟨rfl,rfl⟩,rfl,rfl,se gb h1⟩
theorem wn {n:Nat} (h:1<=n):si ((Pr.Γ n).me 11):=by
 obtain⟨j,rfl⟩:=up1 (n:=n) (by omega);intro r M R h1
 cases r with
 | row zs=>exact⟨_,_,_,_,_,rfl,⟨rfl,rfl⟩,rfl,rfl,v6 gb h1⟩
 | af ns=>exact⟨_,_,_,_,_,rfl,⟨rfl,rfl⟩,rfl,rfl,pP gb h1⟩
 | table w ls=>exact⟨_,_,_,_,_,rfl,⟨rfl,rfl⟩,rfl,rfl,sj gb h1⟩
theorem uT {n:Nat} (h:2<=n):lZ ((Pr.Γ n).me 8):=by
 obtain⟨j,rfl⟩:=up1 (n:=n) (by omega);intro r a b M R h1;have q:=km (Γ:=Pr.Γ j) (r:=r) gb (iR (by omega)) h1
 cases r<;>exact⟨_,_,_,_,_,rfl,⟨rfl,rfl⟩,rfl,rfl,q⟩
theorem rj {n:Nat} (h:1<=n):ly ((Pr.Γ n).me 7):=by
 obtain⟨j,rfl⟩:=up1 (n:=n) (by omega);intro r m M R h1;have q:=mJ (Γ:=Pr.Γ j) (r:=r) gb h1
 cases r<;>exact⟨_,_,_,_,_,rfl,⟨rfl,rfl⟩,rfl,rfl,q⟩
theorem oY {n:Nat} (h:2<=n):jE ((Pr.Γ n).me 12):=by
 obtain⟨j,rfl⟩:=up1 (n:=n) (by omega);intro r m M R h1 h2 h3
 cases r with
 | row zs=>exact⟨_,_,_,_,_,rfl,⟨rfl,rfl⟩,rfl,rfl,og gb (mj (by omega)) h1 h3⟩
 | af ns=>exact⟨_,_,_,_,_,rfl,⟨rfl,rfl⟩,rfl,rfl,kn gb (mj (by omega)) h1 h3⟩
 | table w ls=>exact absurd rfl (h2 _ _)
theorem rl {n:Nat} (h:2<=n):lz ((Pr.Γ n).me 15):=by
 obtain⟨j,rfl⟩:=up1 (n:=n) (by omega);exact fun ns i M R h1 h2 h3=>⟨_,_,_,_,_,rfl,⟨rfl,rfl⟩,rfl,rfl,lB gb (oX (by omega)) (kK (by kernel_rfl)) h1 h2 h3⟩
theorem wo {n:Nat} (h:3<=n):oh ((Pr.Γ n).me 13):=by
 obtain⟨j,rfl⟩:=up1 (n:=n) (by omega);intro r a b M R h1 h2
 cases r with
 | row zs=>exact⟨_,_,_,_,_,rfl,⟨rfl,rfl⟩,rfl,rfl,oj h2⟩
 | af ns=>exact⟨_,_,_,_,_,rfl,⟨rfl,rfl⟩,rfl,rfl,kr gb (jJ (by omega)) (oY (by omega)) (rl (by omega)) (kK (by kernel_rfl)) (kK (by kernel_rfl)) h1 h2⟩
 | table w ls=>exact⟨_,_,_,_,_,rfl,⟨rfl,rfl⟩,rfl,rfl,lD gb (iR (by omega)) h1 h2⟩
theorem uU {n:Nat} (h:3<=n):l5 ((Pr.Γ n).me 14):=by
 obtain⟨j,rfl⟩:=up1 (n:=n) (by omega);intro r a b M R h1 h2 h3
 cases r with
 | row zs=>exact⟨_,_,_,_,_,rfl,⟨rfl,rfl⟩,rfl,rfl,mK gb (dr (by omega)) h1 h3⟩
 | af ns=>exact⟨_,_,_,_,_,rfl,⟨rfl,rfl⟩,rfl,rfl,jF gb (oX (by omega)) (oY (by omega)) (rl (by omega)) (kK (by kernel_rfl)) (kK (by kernel_rfl)) (kK (by kernel_rfl)) h2 h1 h3⟩
 | table w ls=>exact⟨_,_,_,_,_,rfl,⟨rfl,rfl⟩,rfl,rfl,ky gb (dr (by omega)) h1 h3⟩
theorem Bq {n:Nat} (h:6<=n):v8 ((Pr.Γ n).me 10):=by
 obtain⟨j,rfl⟩:=up1 (n:=n) (by omega);intro r ps M R h1 h2 h3
 cases r with
 | row zs=>exact⟨_,_,_,_,_,rfl,⟨rfl,rfl⟩,rfl,rfl,v9 gb (eE (by omega)) (jJ (by omega)) (oX (by omega)) (kK (by kernel_rfl)) (EO (by omega)) h1 h2 h3⟩
 | af ns=>exact⟨_,_,_,_,_,rfl,⟨rfl,rfl⟩,rfl,rfl,pU gb (eE (by omega)) (oX (by omega)) (kK (by kernel_rfl)) (uS (by omega)) h1 h2 h3⟩
 | table w ls=>exact⟨_,_,_,_,_,rfl,⟨rfl,rfl⟩,rfl,rfl,su gb (eE (by omega)) (jJ (by omega)) (oX (by omega)) (kK (by kernel_rfl)) (xB (by omega)) h1 h2 h3⟩
theorem DN:∀ {k n:Nat},4+k<=n->kA k ((Pr.Γ n).me 5):=by
 intro k
 induction k with
 | zero=>exact fun {n} h=>fun f r M R h1 h2 h3 h4=>absurd (kL f) (by omega)
 | succ k ih =>
  intro n h;obtain⟨j,rfl⟩:=up1 (n:=n) (by omega);intro f r M R h1 h2 h3 h4
  cases f with
  | has m' =>
   unfold Flt.Ok at h1;unfold Flt.dep at h3;exact⟨_,_,_,_,_,rfl,⟨rfl,rfl⟩,rfl,rfl,ur gb (Pg.im _) (rj (by omega)) h4⟩
  | many k' m' =>
   unfold Flt.Ok at h1;unfold Flt.dep at h3;exact⟨_,_,_,_,_,rfl,⟨rfl,rfl⟩,rfl,rfl,sv gb (Pg.im _) (rj (by omega)) h4⟩
  | before a b =>
   unfold Flt.Ok at h1;unfold Flt.dep at h3;exact⟨_,_,_,_,_,rfl,⟨rfl,rfl⟩,rfl,rfl,oB gb (Pg.im _) (uT (by omega)) h4⟩
  | under a b =>
   unfold Flt.Ok at h1;unfold Flt.dep at h3;exact⟨_,_,_,_,_,rfl,⟨rfl,rfl⟩,rfl,rfl,pW gb (Pg.im _) (wo (by omega)) h2 h4⟩
  | aE a b =>
   unfold Flt.Ok at h1;unfold Flt.dep at h3;exact⟨_,_,_,_,_,rfl,⟨rfl,rfl⟩,rfl,rfl,oE gb (Pg.im _) (uU (by omega)) h2 h1.2 h4⟩
  | not f =>
   unfold Flt.Ok at h1;unfold Flt.dep at h3;exact⟨_,_,_,_,_,rfl,⟨rfl,rfl⟩,rfl,rfl,ut gb (Pg.im _) (ih (by omega)) h1 h2 (by omega) h4⟩
  | all fs =>
   unfold Flt.Ok at h1;unfold Flt.dep at h3;exact⟨_,_,_,_,_,rfl,⟨rfl,rfl⟩,rfl,rfl,uu gb (Pg.im _) (ih (by omega)) h1.2 h2 (by omega) h4⟩
  | any fs =>
   unfold Flt.Ok at h1;unfold Flt.dep at h3;exact⟨_,_,_,_,_,rfl,⟨rfl,rfl⟩,rfl,rfl,uv gb (Pg.im _) (ih (by omega)) h1.2 h2 (by omega) h4⟩
theorem DO:∀ {k n:Nat},1+k<=n->sy k ((Pr.Γ n).me 4):=by
 intro k
 induction k with
 | zero=>exact fun {n} h=>fun f M R h1 h2 h3=>absurd (kL f) (by omega)
 | succ k ih =>
  intro n h;obtain⟨j,rfl⟩:=up1 (n:=n) (by omega);intro f M R h1 h2 h3
  cases f with
  | has m' =>
   unfold Flt.Ok at h1;unfold Flt.dep at h2;unfold Flt.grows at h3;exact⟨_,_,_,_,_,rfl,⟨rfl,rfl⟩,rfl,rfl,xl rfl h3⟩
  | many k' m' =>
   unfold Flt.Ok at h1;unfold Flt.dep at h2;unfold Flt.grows at h3;exact⟨_,_,_,_,_,rfl,⟨rfl,rfl⟩,rfl,rfl,xl rfl h3⟩
  | before a b =>
   unfold Flt.Ok at h1;unfold Flt.dep at h2;unfold Flt.grows at h3;exact⟨_,_,_,_,_,rfl,⟨rfl,rfl⟩,rfl,rfl,xl rfl h3⟩
  | under a b =>
   unfold Flt.Ok at h1;unfold Flt.dep at h2;unfold Flt.grows at h3;exact⟨_,_,_,_,_,rfl,⟨rfl,rfl⟩,rfl,rfl,xl rfl h3⟩
  | aE a b =>
   unfold Flt.Ok at h1;unfold Flt.dep at h2;unfold Flt.grows at h3;exact⟨_,_,_,_,_,rfl,⟨rfl,rfl⟩,rfl,rfl,NN rfl h3⟩
  | not f =>
   unfold Flt.Ok at h1;unfold Flt.dep at h2;unfold Flt.grows at h3;exact⟨_,_,_,_,_,rfl,⟨rfl,rfl⟩,rfl,rfl,NN rfl h3⟩
  | all fs =>
   unfold Flt.Ok at h1;unfold Flt.dep at h2;unfold Flt.grows at h3;exact⟨_,_,_,_,_,rfl,⟨rfl,rfl⟩,rfl,rfl,jj gb (Pg.im _) (ih (by omega)) (.inl rfl) h1.2 h1.1 (by omega) h3⟩
  | any fs =>
   unfold Flt.Ok at h1;unfold Flt.dep at h2;unfold Flt.grows at h3;exact⟨_,_,_,_,_,rfl,⟨rfl,rfl⟩,rfl,rfl,jj gb (Pg.im _) (ih (by omega)) (.inr rfl) h1.2 h1.1 (by omega) h3⟩
theorem N9 {n:Nat} (h:2<=n):EG ((Pr.Γ n).bA 6):=by
 obtain⟨j,rfl⟩:=yJ (n:=n) (by omega);exact fun m M k h1=>⟨_,_,_,_,_,rfl,rfl,rfl,rfl,wa gb h1⟩
theorem JD {n:Nat} (h:2<=n):Bb ((Pr.Γ n).bA 7):=by
 obtain⟨j,rfl⟩:=yJ (n:=n) (by omega);exact fun n m M k h1=>⟨_,_,_,_,_,rfl,rfl,rfl,rfl,uw gb h1⟩
theorem Br {n:Nat} (h:2<=n):lE 9 ((Pr.Γ n).bA 9):=by
 obtain⟨j,rfl⟩:=yJ (n:=n) (by omega);exact fun a b M k h1=>⟨_,_,_,_,_,rfl,rfl,rfl,rfl,iJ gb (.inl rfl) h1⟩
theorem yK {n:Nat} (h:2<=n):lE 10 ((Pr.Γ n).bA 10):=by
 obtain⟨j,rfl⟩:=yJ (n:=n) (by omega);exact fun a b M k h1=>⟨_,_,_,_,_,rfl,rfl,rfl,rfl,iJ gb (.inr (.inl rfl)) h1⟩
theorem yL {n:Nat} (h:2<=n):lE 11 ((Pr.Γ n).bA 11):=by
 obtain⟨j,rfl⟩:=yJ (n:=n) (by omega);exact fun a b M k h1=>⟨_,_,_,_,_,rfl,rfl,rfl,rfl,iJ gb (.inr (.inr rfl)) h1⟩
theorem wq {n:Nat} (h:2<=n):nj 13 ((Pr.Γ n).bA 13):=by
 obtain⟨j,rfl⟩:=yJ (n:=n) (by omega);exact fun ds M k h1=>⟨_,_,_,_,_,rfl,rfl,rfl,rfl,kC gb (.inl rfl) h1⟩
theorem wr {n:Nat} (h:2<=n):nj 14 ((Pr.Γ n).bA 14):=by
 obtain⟨j,rfl⟩:=yJ (n:=n) (by omega);exact fun ds M k h1=>⟨_,_,_,_,_,rfl,rfl,rfl,rfl,kC gb (.inr rfl) h1⟩
theorem Oa {n:Nat} (h:2<=n):EH ((Pr.Γ n).bA 15):=by
 obtain⟨j,rfl⟩:=yJ (n:=n) (by omega);exact fun d M k h1=>⟨_,_,_,_,_,rfl,rfl,rfl,rfl,wb gb h1⟩
theorem sN:∀ {k n:Nat},3+k<=n->gN k ((Pr.Γ n).fn 28):=by
 intro k
 induction k with
 | zero=>exact fun {n} h=>fun f M R h1 h2 h3=>absurd (kL f) (by omega)
 | succ k ih =>
  intro n h;obtain⟨j,rfl⟩:=up1 (n:=n) (by omega);exact fun f M R h1 h2 h3=>⟨_,rfl,rfl,kD (ih (by omega)) (N9 (by omega)) (JD (by omega)) (Br (by omega)) (yK (by omega)) (yL (by omega)) (wq (by omega)) (wr (by omega)) (Oa (by omega)) h1 h2 h3⟩
theorem dU {n:Nat} (h:1<=n):dh ((Pr.Γ n).fn 12):=by
 obtain⟨j,rfl⟩:=up1 (n:=n) (by omega);exact fun ns k M R h1 h2=>⟨_,rfl,rfl,oG h1 h2⟩
theorem wu {n:Nat} (h:1<=n):oH ((Pr.Γ n).fn 13):=by
 obtain⟨j,rfl⟩:=up1 (n:=n) (by omega);exact fun c M R h1=>⟨_,rfl,rfl,mL h1⟩
theorem yM {n:Nat} (h:1<=n):qR ((Pr.Γ n).fn 14):=by
 obtain⟨j,rfl⟩:=up1 (n:=n) (by omega);exact fun c M R h1=>⟨_,rfl,rfl,oI h1⟩
theorem Bt {n:Nat} (h:2<=n):uz ((Pr.Γ n).fn 15):=by
 obtain⟨j,rfl⟩:=up1 (n:=n) (by omega);exact fun ns f m zs M R h1 h2 h3=>⟨_,rfl,rfl,pX (dU (by omega)) h1 h2 h3⟩
theorem uV {n:Nat} (h:2<=n):l7 ((Pr.Γ n).fn 16):=by
 obtain⟨j,rfl⟩:=up1 (n:=n) (by omega);exact fun ns f zs M R h1 h2 h3=>⟨_,rfl,rfl,lG (dU (by omega)) h1 h2 h3⟩
theorem EQ {n:Nat} (h:1<=n):Bd ((Pr.Γ n).fn 17):=by
 obtain⟨j,rfl⟩:=up1 (n:=n) (by omega);exact fun r M R h1=>⟨_,rfl,rfl,wd h1⟩
theorem sO {n:Nat} (h:1<=n):kF ((Pr.Γ n).fn 18):=by
 obtain⟨j,rfl⟩:=up1 (n:=n) (by omega);exact fun c zs h1 M R hR=>⟨_,rfl,rfl,kG h1 hR⟩
theorem Bu {n:Nat} (h:3<=n):uE ((Pr.Γ n).fn 19):=by
 obtain⟨j,rfl⟩:=up1 (n:=n) (by omega);exact fun ns f zs h1 M R hR=>⟨_,rfl,rfl,pY (dU (by omega)) (yM (by omega)) (Bt (by omega)) (uV (by omega)) (EQ (by omega)) (sO (by omega)) h1 hR⟩
theorem sP {n:Nat} (h:1<=n):kE ((Pr.Γ n).fn 20):=by
 obtain⟨j,rfl⟩:=up1 (n:=n) (by omega);exact fun r M R h1=>⟨_,rfl,rfl,lH h1⟩
theorem oZ {n:Nat} (h:1<=n):jH ((Pr.Γ n).fn 21):=by
 obtain⟨j,rfl⟩:=up1 (n:=n) (by omega);exact fun r ps M R h1 h2 h3=>⟨_,rfl,rfl,uR h1 h2 h3⟩
theorem JE {n:Nat} (h:6<=n):Bg ((Pr.Γ n).fn 22):=by
 obtain⟨j,rfl⟩:=up1 (n:=n) (by omega);exact fun r M R h1 h2 h3=>⟨_,rfl,rfl,uA (EO (by omega)) (uS (by omega)) (xB (by omega)) h1 h2 h3⟩
theorem iS {n:Nat} (h:1<=n):eV ((Pr.Γ n).fn 23):=by
 obtain⟨j,rfl⟩:=up1 (n:=n) (by omega);exact fun r M R h1 h2=>⟨_,rfl,rfl,sA h1 h2⟩
theorem kM {n:Nat} (h:1<=n):gO ((Pr.Γ n).fn 24):=by
 obtain⟨j,rfl⟩:=up1 (n:=n) (by omega);exact fun r i j M R h1 h2 h3 h4=>⟨_,rfl,rfl,kH h1 h2 h3 h4⟩
theorem mP {n:Nat} (h:1<=n):gZ ((Pr.Γ n).fn 25):=by
 obtain⟨j,rfl⟩:=up1 (n:=n) (by omega);exact fun r i j M R h1 h2 h3 h4=>⟨_,rfl,rfl,iM h1 h2 h3 h4⟩
theorem wv {n:Nat} (h:2<=n):oO ((Pr.Γ n).fn 26):=by
 obtain⟨j,rfl⟩:=up1 (n:=n) (by omega);exact fun f a b r M R h1 h2 h3=>⟨_,rfl,rfl,mM (iS (by omega)) (kM (by omega)) (mP (by omega)) h1 h2 h3⟩
theorem mq:∀ {k n:Nat},3+k<=n->eW k ((Pr.Γ n).fn 27):=by
 intro k
 induction k with
 | zero=>exact fun {n} h=>fun f r M R h1 h2 h3 h4=>absurd (kL f) (by omega)
 | succ k ih =>
  intro n h;obtain⟨j,rfl⟩:=up1 (n:=n) (by omega);exact fun f r M R h1 h2 h3 h4=>⟨_,rfl,rfl,sC (iS (by omega)) (wv (by omega)) (ih (by omega)) h1 h2 h3 h4⟩
theorem Bv {n:Nat} (h:1<=n):uI ((Pr.Γ n).fn 29):=by
 obtain⟨j,rfl⟩:=up1 (n:=n) (by omega);exact fun c zs g h1 M R hR=>⟨_,rfl,rfl,qb h1 hR⟩
theorem ql {n:Nat} (h:2<=n):jk ((Pr.Γ n).fn 30):=by
 obtain⟨j,rfl⟩:=up1 (n:=n) (by omega);exact fun ns k zs g h1 M R hR=>⟨_,rfl,rfl,jI (dU (by omega)) (EQ (by omega)) (Bv (by omega)) h1 hR⟩
theorem DQ {n:Nat} (h:2<=n):xx ((Pr.Γ n).fn 31):=by
 obtain⟨j,rfl⟩:=up1 (n:=n) (by omega);exact fun r c h1 h2 M R hR=>⟨_,rfl,rfl,sI (kM (by omega)) h1 h2 hR⟩
theorem ww {n:Nat} (h:8<=n):oT ((Pr.Γ n).fn 32):=by
 obtain⟨j,rfl⟩:=up1 (n:=n) (by omega);exact fun ns k zs r g h1 h2 M R hR=>⟨_,rfl,rfl,mO (dU (by omega)) (iS (by omega)) (mq (by omega)) (ql (by omega)) (DQ (by omega)) h1 h2 hR⟩
theorem yN {n:Nat} (h:1<=n):qS ((Pr.Γ n).fn 33):=by
 obtain⟨j,rfl⟩:=up1 (n:=n) (by omega);exact fun c m M R h1 h2=>⟨_,rfl,rfl,oJ h1 h2⟩
theorem uW:∀ {k n:Nat},1+k<=n->iL k ((Pr.Γ n).fn 34):=by
 intro k
 induction k with
 | zero=>exact fun {n} h=>fun f M R h1 h2 h3=>absurd (kL f) (by omega)
 | succ k ih =>
  intro n h;obtain⟨j,rfl⟩:=up1 (n:=n) (by omega);exact fun f M R h1 h2 h3=>⟨_,rfl,rfl,sE (ih (by omega)) h1 h2 h3⟩
theorem DR {n:Nat} (h:2<=n):xp ((Pr.Γ n).bA 4):=by
 obtain⟨j,rfl⟩:=yJ (n:=n) (by omega);exact fun r f M k h1=>⟨_,_,_,_,_,rfl,rfl,rfl,rfl,sF gb h1⟩
theorem xC {n:Nat} (h:1<=n):sG ((Pr.Γ n).me 2):=by
 obtain⟨j,rfl⟩:=up1 (n:=n) (by omega);exact fun r f a b qs M R h1 h2=>⟨_,_,_,_,_,rfl,⟨rfl,rfl⟩,rfl,rfl,qd gb h1 h2⟩
theorem DS {n:Nat} (h:1<=n):xq ((Pr.Γ n).me 3):=by
 obtain⟨j,rfl⟩:=up1 (n:=n) (by omega);exact fun r f a b M R h1=>⟨_,_,_,_,_,rfl,⟨rfl,rfl⟩,rfl,rfl,qe gb h1⟩
theorem Ob {k n:Nat} (h:5+k<=n):EN k ((Pr.Γ n).me 1):=by
 obtain⟨j,rfl⟩:=up1 (n:=n) (by omega);exact fun r f a b ps r' rs M R h1 h2 h3 h4 h5 h6 h7=>⟨_,_,_,_,_,rfl,⟨rfl,rfl⟩,rfl,rfl,uM gb (Pg.im _) (xC (by omega)) (DN (by omega)) (wn (by omega)) h1 h2 h3 h4 h5 h6 h7⟩
theorem DT {k n:Nat} (h:7+k<=n):xt k ((Pr.Γ n).me 0):=by
 obtain⟨j,rfl⟩:=up1 (n:=n) (by omega);exact fun r f a b ps rs M R h1 h2 h3 h4 h5 h6 h7=>⟨_,_,_,_,_,rfl,⟨rfl,rfl⟩,rfl,rfl,qh gb (Pg.im _) (Ob (by omega)) (Bq (by omega)) (wn (by omega)) h1 h2 h3 h4 h5 h6 h7⟩
theorem Bw {k n:Nat} (h:2+k<=n):uO k ((Pr.Γ n).me 4):=by
 obtain⟨j,rfl⟩:=up1 (n:=n) (by omega);exact fun r f a b M R h1 h2 h3=>⟨_,_,_,_,_,rfl,⟨rfl,rfl⟩,rfl,rfl,qf gb (Pg.im _) (DO (by omega)) h1 h2 h3⟩
theorem uX {k n:Nat} (h:8+k<=n):mh k ((Pr.Γ n).fn 35):=by
 obtain⟨j,rfl⟩:=up1 (n:=n) (by omega);exact fun r f a b s ps rs M R h1 h2 h3 h4 h5 h6 h7=>⟨_,rfl,rfl,sH (Pg.im _) (DT (by omega)) (xC (by omega)) (oZ (by omega)) (mq (by omega)) h1 h2 h3 h4 h5 h6 h7⟩
theorem JF:∀ (ns:List Int) M k,ns.length<=63->(∀ M',k (.bl true) M')->(Pr.Γ 15).fn 36 [.nL (ns.map .int)] M k:=fun ns M k h1 h2=>by
 have h:15<=15:=x_ _;exact⟨_,rfl,rfl,NW (Γ:=Pr.Γ 14) gb (Pg.im _) (dU (by decide)) (wu (by decide)) (Bu (by decide)) (ww (by decide)) (sP (by decide)) (yN (by decide)) (oZ (by decide)) (JE (by decide)) (sN (by decide)) (uW (by decide)) (uX (by decide)) (DR (by decide)) (DS (by decide)) (Bw (by decide)) (Bq (by decide)) (wn (by decide)) h2⟩
end K18
namespace PySem.W.Fast
def tw1850330065924632215:Nat:=0
def tw10570026589986152737:Nat:=0
def tw15516210768971871669:Nat:=0
def tw3381140438260774853:Nat:=0
def tw12358649090457586568:Nat:=0
def tw14653290961355325092:Nat:=0
def tw13415697004465838773:Nat:=0
def tw4538305419004905846:Nat:=0
def tw13231904340000767926:Nat:=0
def tw542620801336990185:Nat:=0
def tw9137615247260813839:Nat:=0
def tw3152431242624377254:Nat:=0
def tw2705219137274574473:Nat:=0
def tw14574121286705077957:Nat:=0
def tw9784273312411582960:Nat:=0
def tw17047564034082796861:Nat:=0
def tw7389762490844647937:Nat:=0
def tw16092173829381709708:Nat:=0
def tw2206435882966634570:Nat:=0
def tw12163907424686945086:Nat:=0
def tw10956672195525736494:Nat:=0
def tw372921090048701864:Nat:=0
def tw11077357147006118117:Nat:=0
def tw5524575071595838770:Nat:=0
def tw2937533212894205024:Nat:=0
def tw10683572855310073072:Nat:=0
def tw12315936009060486520:Nat:=0
def tw13739478060652300988:Nat:=0
def tw17657849586498252115:Nat:=0
def tw11265641279409722287:Nat:=0
def tw3410815244567106865:Nat:=0
def tw12518862885976616455:Nat:=0
def tw4625952342395483170:Nat:=0
def tw2875596770001601183:Nat:=0
def tw14839621965876537140:Nat:=0
def tw13489414574843832434:Nat:=0
def tw17335371301197706435:Nat:=0
def tw8826890717327716587:Nat:=0
def tw15115241600586415401:Nat:=0
def tw16615972947726758302:Nat:=0
def tw5778513582908401598:Nat:=0
def tw4347216299333432357:Nat:=0
def tw3414018507966505154:Nat:=0
def tw8944841845065345340:Nat:=0
def tw2461949046594135287:Nat:=0
def tw13753198402723920589:Nat:=0
def tw17968165414848136802:Nat:=0
def tw3059429849567735675:Nat:=0
def tw14470630996767485101:Nat:=0
def tw2508082822482774512:Nat:=0
def tw13533788187383057149:Nat:=0
def tw6534480429189634186:Nat:=0
def tw8997616303173040202:Nat:=0
def tw2643956075462830011:Nat:=0
def tw18160421856454810721:Nat:=0
def tw15313931213762142725:Nat:=0
def tw7652483590011796441:Nat:=0
def tw11701560529655336946:Nat:=0
def tw14761208922006478512:Nat:=0
def tw16558175138157781620:Nat:=0
def tw2562414366832226446:Nat:=0
def tw13689697191105057006:Nat:=0
def tw14978085079263474542:Nat:=0
def tw7778152112528367752:Nat:=0
def tw15969168592821396379:Nat:=0
def tw13514644934911743050:Nat:=0
def tw16505301426347943116:Nat:=0
def tw8940675605389940669:Nat:=0
def tw6726369065496208498:Nat:=0
def tw17729644225682157172:Nat:=0
def tw8077491590534740732:Nat:=0
def tw3928244217723501025:Nat:=0
def tw15823370457281077091:Nat:=0
def tw18293532513420339137:Nat:=0
def tw181747745008515748:Nat:=0
def tw18050894873229628383:Nat:=0
def tw16516919307466918657:Nat:=0
def tw17666747120757401111:Nat:=0
def tw717527105218793181:Nat:=0
def tw16059459234449221817:Nat:=0
def tw6476657447969858571:Nat:=0
def tw14386279470199706559:Nat:=0
def tw13163097112867460699:Nat:=0
def tw2237946467522079818:Nat:=0
def tw9183755887843425071:Nat:=0
def tw6166057660807040604:Nat:=0
def tw10355142299129368911:Nat:=0
def tw5730275848335678280:Nat:=0
def tw15676862079458934811:Nat:=0
def tw14267000169538514415:Nat:=0
def tw4065043331008148172:Nat:=0
def tw13910643584965243083:Nat:=0
def tw9645980802212135365:Nat:=0
def tw9606878666438567507:Nat:=0
def tw12885863500575975028:Nat:=0
def tw9661137475719285489:Nat:=0
def tw4953136412489574309:Nat:=0
def tw14574063986948186127:Nat:=0
def tw4321039334847495875:Nat:=0
def tw12676769193166114736:Nat:=0
def tw9775733452259252817:Nat:=0
def tw17419360080000446494:Nat:=0
def tw10430182054733189442:Nat:=0
def tw15643954428950197366:Nat:=0
def tw8250895770171934599:Nat:=0
def tw5813382785853164659:Nat:=0
def tw5737464501404625242:Nat:=0
def tw7055944244173818287:Nat:=0
def tw17497842470070996869:Nat:=0
def tw4281164873749021676:Nat:=0
def tw3626924972016235704:Nat:=0
def tw9706281606620988047:Nat:=0
def tw3720243371510683683:Nat:=0
def tw6214436571906454644:Nat:=0
def tw16460783877035673157:Nat:=0
def tw8182014211349618699:Nat:=0
def tw13035680340538770132:Nat:=0
def tw372419897965325575:Nat:=0
def tw6316020088965838512:Nat:=0
def tw3146499714672299315:Nat:=0
def tw15939514330925596770:Nat:=0
def tw6097989181318037353:Nat:=0
def tw13978934483707954551:Nat:=0
def tw11311855592567207939:Nat:=0
def tw17448176182908949443:Nat:=0
def tw16117958901997648107:Nat:=0
def tw13151251852693385866:Nat:=0
def tw6225549424770936347:Nat:=0
def tw7135813450960695678:Nat:=0
def tw11231947974282627030:Nat:=0
def tw8558251625301842758:Nat:=0
def tw13481682977683575945:Nat:=0
def tw12654090675830597636:Nat:=0
def tw16822933496902848408:Nat:=0
def tw1773666283614438634:Nat:=0
def tw6985929050358039734:Nat:=0
def tw2564286671341603081:Nat:=0
def tw11819681797377659573:Nat:=0
def tw3106859122049745762:Nat:=0
def tw12696607909243800479:Nat:=0
def tw6346666654773109572:Nat:=0
def tw18321180365889354714:Nat:=0
def tw7783476591568484402:Nat:=0
def tw6867088516974881735:Nat:=0
def tw16830146305329380957:Nat:=0
def tw6204212087702911207:Nat:=0
def tw1265373974859353718:Nat:=0
def tw5005834213825862160:Nat:=0
def tw3903003161834503798:Nat:=0
def tw4073534719893284761:Nat:=0
def tw5657633083513509330:Nat:=0
def tw5168192486153978801:Nat:=0
def tw6130278979950198447:Nat:=0
def tw7320924836072968205:Nat:=0
def tw713177544819009260:Nat:=0
def tw15287191651955800345:Nat:=0
def tw16216632064626986516:Nat:=0
def tw397742663301539641:Nat:=0
def tw3963255838826066637:Nat:=0
def tw12012755894194081346:Nat:=0
def tw681370077758613279:Nat:=0
def tw18106569230862307597:Nat:=0
def tw16959043197244682292:Nat:=0
def tw7540722921544573638:Nat:=0
def tw339310654088386688:Nat:=0
def tw16319275138019371187:Nat:=0
def tw17943290731107324126:Nat:=0
def tw8310637447134723442:Nat:=0
def tw10849428479839897784:Nat:=0
def tw13586327493744879510:Nat:=0
def tw15909617837322414095:Nat:=0
def tw16344422347204645690:Nat:=0
def tw5685014088216226231:Nat:=0
def tw18237642794020596186:Nat:=0
def tw3580200766995606228:Nat:=0
def tw16495118367047448119:Nat:=0
def tw4938551284924995196:Nat:=0
def tw15932755292288154839:Nat:=0
def tw9611944831331217647:Nat:=0
def tw5120175568044081375:Nat:=0
def tw373329168538966392:Nat:=0
def tw6651703907994905182:Nat:=0
def tw16047117504153321844:Nat:=0
def tw10995884328208593094:Nat:=0
def tw454868664836683269:Nat:=0
def tw16769269549403926486:Nat:=0
def tw5025931947697343214:Nat:=0
def tw7054756384776077497:Nat:=0
def tw13033352778018539200:Nat:=0
def tw2039897854236728447:Nat:=0
def tw14432293518230258802:Nat:=0
def tw12929205293294502873:Nat:=0
end PySem.W.Fast
open PySem PySem.W PyProof.Rows
set_option maxRecDepth 100000 in
set_option maxHeartbeats 0 in
theorem PySem.Challenge.cw_shrinkhouse_k18_answers_of_an_asker_holds : PySem.Challenge.rw_shrinkhouse_k18_answers_of_an_asker.Holds := by
 w_on;o_law;k_head;(case hw=>w_witness2)
 k_fill
 exact PV.DA (p:=K18.Pr) (l:=PySem.Challenge.rw_shrinkhouse_k18_answers_of_an_asker) (lw:=36) (n:=15) rfl rfl rfl ⟨rfl,by decide,by decide⟩ (fun w h Y=>PySem.W.kIn_of Y) (fun w=>by kernel_rfl) rfl rfl rfl K18.JF
#print axioms PySem.Challenge.cw_shrinkhouse_k18_answers_of_an_asker_holds
